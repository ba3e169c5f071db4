/-
  A bundle of texts, one behind the other: MbB2.
-/
import Derived.Test.YtjhecpkdpomkmaaGreatQNA
namespace Go.Proofs.YtjhecpkdpomkmaaGreat
open Go.RowKit
set_option linter.unusedVariables false
set_option linter.unusedSimpArgs false
set_option maxRecDepth 100000

def hasPtB (d : TB) (i : Nat) (nm : SL) (n : Nat) (ch : Nat → VT) : Bool := decide (n = nm.n) && decide (seqGo (d.f i) nm (fun j x => (ch j).has d x) (d.f i).count = some nm.n)
def RelHp (W1 : World) (r : DT) (nm : SL) (h : Nat → Nat → Bool) (N : Nat) (xv iv : Value) (wr : World) : Prop :=
  ∃ k x : Nat, k ≤ N ∧ x ≤ nm.n ∧ xv = .int .i64 (x : Nat) ∧ iv = .int .i64 (k : Nat) ∧ seqGo r nm h k = some x ∧ Below W1.heap.size W1 wr
set_option maxHeartbeats 16000000 in
theorem hasParts_ok (B : Nat) (w : World) (g x o : Nat) (d : TB) (i : Nat) (k m : Int) (s : ByteArray) (nm : SL) (a : Option Addr) (n cap : Nat) (ch : Nat → VT) (hR : RAt B w g x o d i) (hB : B ≤ w.heap.size) (hrow : RightRow (d.f i) d.n)
    (hx : VIn B w (.mk k m s nm a n cap ch))
    (hrec : ∀ j, j < n → ∀ t, t < d.n → ∀ W, Below w.heap.size w W → Calls Tryz.prog 44 #[rV g (o + t * 12) o d.n d.cap, .agg (ch j).cells.toArray] W fun e w' => e = .returned (.bool ((ch j).has d t)) ∧ Below W.heap.size W w') :
    Calls Tryz.prog 76 #[rV g x o d.n d.cap, .agg (VT.mk k m s nm a n cap ch).cells.toArray] w fun e w' => e = .returned (.bool (hasPtB d i nm n ch)) ∧ Below w.heap.size w w' := by
  have hb0 := (Below.refl w.heap.size w).alloc (Nat.le_refl _) (.cells #[.pointer (some ⟨g, x, none⟩), .slice (some ⟨g, o, none⟩) d.n d.cap] 72)
  have hb1 := hb0.alloc hb0.size (.cells #[.int .i64 k, .int .i64 m, .string s, .slice nm.a nm.n nm.cap, .slice a n cap] 26)
  have HCT := Lib.hid (fun (W : World) (hb : Below w.heap.size w W) => countM_ok w.heap.size W g x o d i ((hR.below (Below.refl _ _) hB).below hb (Nat.le_refl _)) hb.size)
  have HPT := Lib.hid (fun (W : World) (k : Nat) (hk : k < (d.f i).count) (hb : Below w.heap.size w W) => part_ok w.heap.size W g x o d i k ((hR.below (Below.refl _ _) hB).below hb (Nat.le_refl _)) hb.size hk)
  have HDC := Lib.hid (fun (W : World) (hb : Below w.heap.size w W) => ((((hR.below (Below.refl _ _) hB).below hb (Nat.le_refl _)).cells (w := W) rfl).2.2.2.2.2.2.2.2.1 : W.cell? ⟨g, x + 8, none⟩ = some (.slice (d.f i).pa.a (d.f i).pa.n (d.f i).pa.cap)))
  have hcnt : (d.f i).count ≤ 9223372036854775806 := by
    have h1 := hR.row.2.2.2.2.1.1.1
    have h2 := hR.row.2.2.2.2.1.1.2.1
    have h3 := hR.row.2.2.2.2.2.1.1.1
    have h4 := hR.row.2.2.2.2.2.1.1.2.1
    unfold DT.count
    omega
  have hnm : nm.n ≤ 9223372036854775806 := by
    have h1 := hx.1.2.2.2.1.1
    have h2 := hx.1.2.2.2.1.2.1
    omega
  have hxa := (Bx.new w #[.pointer (some ⟨g, x, none⟩), .slice (some ⟨g, o, none⟩) d.n d.cap] 72).alloc (.cells #[.int .i64 k, .int .i64 m, .string s, .slice nm.a nm.n nm.cap, .slice a n cap] 26)
  have hxb := Bx.new (w.alloc (.cells #[.pointer (some ⟨g, x, none⟩), .slice (some ⟨g, o, none⟩) d.n d.cap] 72)) #[.int .i64 k, .int .i64 m, .string s, .slice nm.a nm.n nm.cap, .slice a n cap] 26
  rw [World.size_alloc] at hxb
  have HREC := Lib.hid hrec
  have HEL := Lib.hid (show ∀ j, j < n → ∃ gx ox : Nat, (∀ w, (Instr.indexAt 24 (.slice a n cap) (.int .i64 (j : Nat))).run Tryz.prog w = .ok (.pointer (some ⟨gx, ox, none⟩)) w) ∧ ∀ W, Below w.heap.size w W → W.rangeAt gx ox (ch j).cells from fun j h0 => by
    obtain ⟨gx, ox, h1, h2, h3⟩ := vRow_range hx.2.1 h0
    exact ⟨gx, ox, h1, fun W hW => h3 W (hW.block gx (Nat.lt_of_lt_of_le h2 hB))⟩)
  have HNM := Lib.hid (show ∀ j, j < nm.n → ∃ gx ox : Nat, (∀ w, (Instr.indexAt 23 (.slice nm.a nm.n nm.cap) (.int .i64 (j : Nat))).run Tryz.prog w = .ok (.pointer (some ⟨gx, ox, none⟩)) w) ∧ ∀ W, Below w.heap.size w W → W.cell? ⟨gx, ox, none⟩ = some (.string (nm.f j)) from fun j h0 => by
    obtain ⟨gx, ox, h1, h2, h3⟩ := sRow_read hx.1.2.2.2 h0
    exact ⟨gx, ox, h1, fun W hW => h3 W (hW.block gx (Nat.lt_of_lt_of_le h2 hB))⟩)
  have HONE := Lib.hid (fun (j : Nat) (h0 : j < n) => vin_mk (hx.2.2 j h0))
  have HOF := Lib.hid (fun (W : World) (p : FT) (j : Nat) (hj : p.t = (j : Int)) (hjn : j < d.n) => of_ok W g x o d.n d.cap j p hj hjn)
  have HTN := Lib.hid (show ∀ k, k < (d.f i).count → ∃ j : Nat, ((d.f i).part k).t = (j : Int) ∧ j < d.n from fun k hk => by
    have := FT.ok_t (hrow.part hk).2
    exact ⟨((d.f i).part k).t.toNat, by omega, this.2⟩)
  rw [list5]
  unfold rV at HREC HOF HCT HPT ⊢
  have HXA := Lib.hid hxa
  have HXB := Lib.hid hxb
  have HB1 := Lib.hid hb1
  have p0 := hxa.cell 0 (v := .pointer (some ⟨g, x, none⟩)) rfl
  have p1 := hxa.cell 1 (v := .slice (some ⟨g, o, none⟩) d.n d.cap) rfl
  have v3 := hxb.cell 3 (v := .slice nm.a nm.n nm.cap) rfl
  have v4 := hxb.cell 4 (v := .slice a n cap) rfl
  obtain ⟨h, hh⟩ : ∃ h, (fun j x => (ch j).has d x) = h := ⟨_, rfl⟩
  have HH := Lib.hid (show ∀ j x, (ch j).has d x = h j x from fun j x => by rw [← hh])
  have HL := Lib.hid (show hasPtB d i nm n ch = (decide (n = nm.n) && decide (seqGo (d.f i) nm h (d.f i).count = some nm.n)) from by rw [← hh]; rfl)
  generalize hasPtB d i nm n ch = res at *
  clear hb0 hb1 hxa hxb hrec hR hB hx hrow hh
  by_cases hn : n = nm.n
  · subst hn
    rw [decide_eq_true rfl, Bool.true_and] at HL
    have q0 : ((nm.n : Int) != (nm.n : Int)) = false := by simp
    have q0n : (nm.n != nm.n) = false := by simp
    go_enter Tryz.func76, Tryz.ntmps76
    go_wp2_with fail
    refine (HCT.out _ HB1.out).mono ?_
    generalize (w.alloc (.cells #[.pointer (some ⟨g, x, none⟩), .slice (some ⟨g, o, none⟩) d.n d.cap] 72)).alloc (.cells #[.int .i64 k, .int .i64 m, .string s, .slice nm.a nm.n nm.cap, .slice a nm.n cap] 26) = W1 at *
    rintro e w2 ⟨rfl, h2⟩
    have HW2 := Lib.hid h2
    clear h2 p0 p1 v3 v4
    obtain ⟨b, hb⟩ : ∃ b, w.heap.size = b := ⟨_, rfl⟩
    have HBE := Lib.hid hb
    rw [hb] at HXA HXB ⊢
    clear hb
    generalize hN : (d.f i).count = N at *
    clear hN
    go_wp2_with fail
    go_loopw [5, 17] (fun xv iv wr => RelHp W1 (d.f i) nm h N xv iv wr) (fun _ iv _ => N - (Lib.intOf iv).toNat)
    case atStart => exact ⟨0, 0, Nat.zero_le _, Nat.zero_le _, rfl, rfl, rfl, HW2.out⟩
    case round =>
      obtain ⟨c, y, hc, hy, rfl, rfl, hseq, hbel⟩ := hrel
      have HSEQ := Lib.hid hseq
      have HB := Lib.hid hbel
      clear hseq hbel
      have hX := HXA.out.below HB.out HXA.out.lt
      have hV := HXB.out.below HB.out HXB.out.lt
      have p0 := hX.cell 0 (v := .pointer (some ⟨g, x, none⟩)) rfl
      have p1 := hX.cell 1 (v := .slice (some ⟨g, o, none⟩) d.n d.cap) rfl
      have v3 := hV.cell 3 (v := .slice nm.a nm.n nm.cap) rfl
      have v4 := hV.cell 4 (v := .slice a nm.n cap) rfl
      have HX2 := Lib.hid hX
      have HV2 := Lib.hid hV
      clear hX hV
      by_cases hlt : c < N
      · have q1 : decide ((c : Int) < (N : Int)) = true := decide_eq_true (by omega)
        have q1n : decide (c < N) = true := decide_eq_true hlt
        have q3 : IntKind.i64.wrap ((c : Int) + 1) = ((c + 1 : Nat) : Int) := wrap_succ hlt (by omega)
        have HP := Lib.hid (HPT.out wr c hlt (HB1.out.trans (HB.out.mono HB1.out.size)))
        obtain ⟨j, hj, hjn⟩ := HTN.out c hlt
        have HOFP := Lib.hid (fun (W : World) => HOF.out W ((d.f i).part c) j hj hjn)
        have HTJ := Lib.hid (show ((d.f i).part c).t.toNat = j by omega)
        have HTAKE := Lib.hid (fun (c1 : y < nm.n ∧ sEq (nm.f y) ((d.f i).part c).name = true) (c2 : h y ((d.f i).part c).t.toNat = true) => seq_take HSEQ.out c1 c2)
        have HSKIP := Lib.hid (fun (c1 : ¬ (y < nm.n ∧ sEq (nm.f y) ((d.f i).part c).name = true)) (c2 : ¬ (c < (d.f i).pa.n ∧ ((d.f i).part c).opt = false ∧ ((d.f i).part c).d.n = 0)) => seq_skip HSEQ.out c1 c2)
        have HBAD := Lib.hid (fun (c1 : ¬ (y < nm.n ∧ sEq (nm.f y) ((d.f i).part c).name = true)) (c2 : c < (d.f i).pa.n ∧ ((d.f i).part c).opt = false ∧ ((d.f i).part c).d.n = 0) => (by rw [HL.out, seq_none (K := N) hlt (seq_bad HSEQ.out c1 c2)]; rfl : res = false))
        have HREF := Lib.hid (fun (c1 : y < nm.n ∧ sEq (nm.f y) ((d.f i).part c).name = true) (c2 : h y ((d.f i).part c).t.toNat = false) => (by rw [HL.out, seq_none (K := N) hlt (show seqGo (d.f i) nm h (c + 1) = none from by simp only [seqGo, HSEQ.out]; rw [if_pos c1, if_neg (by rw [c2]; simp)])]; rfl : res = false))
        rw [HTJ.out] at HTAKE HREF
        rw [list4] at HP HOFP
        generalize ((d.f i).part c).name = pn at *
        generalize ((d.f i).part c).t = pt at *
        generalize ((d.f i).part c).opt = po at *
        generalize ((d.f i).part c).d.a = pda at *
        generalize ((d.f i).part c).d.n = pdn at *
        generalize ((d.f i).part c).d.cap = pdc at *
        obtain rfl : pt = (j : Int) := hj
        clear HTJ HOF HTN
        by_cases hy2 : y < nm.n
        · have q2 : decide ((y : Int) < (nm.n : Int)) = true := decide_eq_true (by omega)
          have q2n : decide (y < nm.n) = true := decide_eq_true hy2
          obtain ⟨gs, os, hix, hcs0⟩ := HNM.out y hy2
          obtain ⟨un, hun⟩ : ∃ un, nm.f y = un := ⟨_, rfl⟩
          rw [hun] at hcs0 HTAKE HSKIP HBAD HREF
          have HCS := Lib.hid hcs0
          clear hun hcs0
          go_wp2_with fail
          refine HP.out.mono ?_
          rintro e w3 ⟨rfl, h3⟩
          have HB4 := Lib.hid ((HB.out.trans (h3.mono HB.out.size)).alloc (Nat.le_trans HB.out.size h3.size) (.cells #[.string pn, .int .i64 (j : Nat), .bool po, .slice pda pdn pdc] 48))
          have HX4 := Lib.hid ((HX2.out.below h3 HX2.out.lt).alloc (.cells #[.string pn, .int .i64 (j : Nat), .bool po, .slice pda pdn pdc] 48))
          have HV4 := Lib.hid ((HV2.out.below h3 HV2.out.lt).alloc (.cells #[.string pn, .int .i64 (j : Nat), .bool po, .slice pda pdn pdc] 48))
          have HP4 := Lib.hid (Bx.new w3 #[.string pn, .int .i64 (j : Nat), .bool po, .slice pda pdn pdc] 48)
          clear h3 p0 p1 v3 v4 HX2 HV2 HP
          go_wp2_with (refine wpList_store_new rfl 48 (.tmp 7) (.tmp 22) rfl 4 _ [.string pn, .int .i64 (j : Nat), .bool po, .slice pda pdn pdc] rfl rfl (by kernel_rfl) (by simp [Value.oneCell']) rfl rfl ?_)
          have HS4 := Lib.hid (show (w3.alloc (.cells #[.string pn, .int .i64 (j : Nat), .bool po, .slice pda pdn pdc] 48)).heap.size = w3.heap.size + 1 from World.size_alloc ..)
          generalize w3.alloc (.cells #[.string pn, .int .i64 (j : Nat), .bool po, .slice pda pdn pdc] 48) = W4 at *
          obtain ⟨b3, hb3⟩ : ∃ b3, w3.heap.size = b3 := ⟨_, rfl⟩
          rw [hb3] at HP4 HS4 ⊢
          clear hb3
          dsimp only [Act.put]
          have HBW4 := Lib.hid (HB1.out.trans (HB4.out.mono HB1.out.size))
          have p0 := HX4.out.cell 0 (v := .pointer (some ⟨g, x, none⟩)) rfl
          have p1 := HX4.out.cell 1 (v := .slice (some ⟨g, o, none⟩) d.n d.cap) rfl
          have v3 := HV4.out.cell 3 (v := .slice nm.a nm.n nm.cap) rfl
          have v4 := HV4.out.cell 4 (v := .slice a nm.n cap) rfl
          have f0 := HP4.out.cell 0 (v := .string pn) rfl
          have f2 := HP4.out.cell 2 (v := .bool po) rfl
          have f3 := HP4.out.cell 3 (v := .slice pda pdn pdc) rfl
          have hcs := HCS.out _ HBW4.out
          cases hs : sEq un pn with
          | true =>
            have z1 : (un.toList == pn.toList) = true := hs
            have HC1 := Lib.hid (show y < nm.n ∧ sEq un pn = true from ⟨hy2, hs⟩)
            have q5 : IntKind.i64.wrap ((y : Int) + 1) = ((y + 1 : Nat) : Int) := wrap_succ hy2 (by omega)
            have HTK := Lib.hid (fun hz => HTAKE.out HC1.out hz)
            have HRF := Lib.hid (fun hz => HREF.out HC1.out hz)
            clear HTAKE HREF HSKIP HBAD hs
            go_big_quiet (fail)
            obtain ⟨gx, ox, hixv, hcel⟩ := HEL.out y hy2
            have HRC := Lib.hid (HREC.out y hy2 j hjn)
            rw [HH.out] at HRC
            obtain ⟨k0, m0, s0, nm0, a0, n0, cap0, c0, hv0⟩ := HONE.out y hy2
            rw [hv0] at hcel HRC
            rw [list5] at hcel HRC
            clear hv0
            obtain ⟨z, hz⟩ : ∃ z, h y j = z := ⟨_, rfl⟩
            rw [hz] at HRC HTK HRF
            have HCE := Lib.hid (show ∀ W, Below w.heap.size w W → (W.cell? ⟨gx, ox, none⟩ = some (.int .i64 k0) ∧ W.cell? ⟨gx, ox + 1, none⟩ = some (.int .i64 m0) ∧ W.cell? ⟨gx, ox + 2, none⟩ = some (.string s0) ∧ W.cell? ⟨gx, ox + 3, none⟩ = some (.slice nm0.a nm0.n nm0.cap) ∧ W.cell? ⟨gx, ox + 4, none⟩ = some (.slice a0 n0 cap0)) from fun W hW => ⟨hcel W hW 0 _ rfl, hcel W hW 1 _ rfl, hcel W hW 2 _ rfl, hcel W hW 3 _ rfl, hcel W hW 4 _ rfl⟩)
            have HSZW := Lib.hid (show w.heap.size ≤ b3 + 1 from by have := HBW4.out.size; rw [HS4.out] at this; exact this)
            have HSZ1 := Lib.hid (show W1.heap.size ≤ b3 + 1 from by have := HB4.out.size; rw [HS4.out] at this; exact this)
            have HS2 := Lib.hid (show ∀ W, Below (b3 + 1) W4 W → (W.cell? ⟨b, 0, none⟩ = some (.pointer (some ⟨g, x, none⟩)) ∧ W.cell? ⟨b, 1, none⟩ = some (.slice (some ⟨g, o, none⟩) d.n d.cap) ∧ W.cell? ⟨b + 1, 4, none⟩ = some (.slice a nm.n cap) ∧ W.cell? ⟨b3, 0, none⟩ = some (.string pn) ∧ W.cell? ⟨b3, 1, none⟩ = some (.int .i64 (j : Nat)) ∧ W.cell? ⟨b3, 2, none⟩ = some (.bool po) ∧ W.cell? ⟨b3, 3, none⟩ = some (.slice pda pdn pdc) ∧ W.cell? ⟨gx, ox, none⟩ = some (.int .i64 k0) ∧ W.cell? ⟨gx, ox + 1, none⟩ = some (.int .i64 m0) ∧ W.cell? ⟨gx, ox + 2, none⟩ = some (.string s0) ∧ W.cell? ⟨gx, ox + 3, none⟩ = some (.slice nm0.a nm0.n nm0.cap) ∧ W.cell? ⟨gx, ox + 4, none⟩ = some (.slice a0 n0 cap0)) from fun W hW => by
              have h1 := HX4.out.below hW (by have := HX4.out.lt; rw [HS4.out] at this; exact this)
              have h2 := HV4.out.below hW (by have := HV4.out.lt; rw [HS4.out] at this; exact this)
              have h3 := HP4.out.below hW (by have := HP4.out.lt; rw [HS4.out] at this; exact this)
              obtain ⟨e1, e2, e3, e4, e5⟩ := HCE.out W (HBW4.out.trans (hW.mono HSZW.out))
              exact ⟨h1.cell 0 rfl, h1.cell 1 rfl, h2.cell 4 rfl, h3.cell 0 rfl, h3.cell 1 rfl, h3.cell 2 rfl, h3.cell 3 rfl, e1, e2, e3, e4, e5⟩)
            have HD0 := Lib.hid (below_drewM (Below.refl (b3 + 1) W4) nq)
            clear p0 p1 v3 v4 f0 f2 f3 hz hcel hcs hix z1
            go_wp2_with fail
            have HBX0 := Lib.hid (Below.drew HD0.out)
            have HS0 := Lib.hid (HS2.out _ HBX0.out)
            go_region_held3 (fun W => W.cell? ⟨b, 0, none⟩ = some (.pointer (some ⟨g, x, none⟩)) ∧ W.cell? ⟨b, 1, none⟩ = some (.slice (some ⟨g, o, none⟩) d.n d.cap) ∧ W.cell? ⟨b + 1, 4, none⟩ = some (.slice a nm.n cap) ∧ W.cell? ⟨b3, 0, none⟩ = some (.string pn) ∧ W.cell? ⟨b3, 1, none⟩ = some (.int .i64 (j : Nat)) ∧ W.cell? ⟨b3, 2, none⟩ = some (.bool po) ∧ W.cell? ⟨b3, 3, none⟩ = some (.slice pda pdn pdc) ∧ W.cell? ⟨gx, ox, none⟩ = some (.int .i64 k0) ∧ W.cell? ⟨gx, ox + 1, none⟩ = some (.int .i64 m0) ∧ W.cell? ⟨gx, ox + 2, none⟩ = some (.string s0) ∧ W.cell? ⟨gx, ox + 3, none⟩ = some (.slice nm0.a nm0.n nm0.cap) ∧ W.cell? ⟨gx, ox + 4, none⟩ = some (.slice a0 n0 cap0)) (first | with_reducible exact HS2'.out | with_reducible exact HS1.out | with_reducible exact HS0.out) (first
              | (go_at_call 54; (with_reducible refine (HOFP.out _).mono ?_); rintro e w5 ⟨rfl, h5⟩; have HBX1 := Lib.hid (HBX0.out.trans (h5.mono (by have h := HBX0.out.size; rw [HS4.out] at h; exact h))); have HS1 := Lib.hid (HS2.out _ HBX1.out); clear h5)
              | (go_at_call 44; (with_reducible refine (HRC.out _ (HBW4.out.trans (HBX1.out.mono HSZW.out))).mono ?_); rintro e w6 ⟨rfl, h6⟩; have HBX2 := Lib.hid (HBX1.out.trans (h6.mono (by have h := HBX1.out.size; rw [HS4.out] at h; exact h))); have HS2' := Lib.hid (HS2.out _ HBX2.out); clear h6))
            cases z with
            | true =>
              have HN := Lib.hid (HTK.out (by first | rfl | trivial))
              go_wp2_with fail
              go_roundw
              case rel => exact ⟨c + 1, y + 1, hlt, hy2, rfl, rfl, HN.out, HB4.out.trans (HBX2.out.mono HSZ1.out)⟩
              case measure => simp only [Lib.intOf]; omega
            | false =>
              have HN := Lib.hid (show res = false from HRF.out (by first | rfl | trivial))
              go_wp2_with fail
              go_ret
              exact ⟨by rw [HN.out]; rfl, HBW4.out.trans (HBX2.out.mono HSZW.out)⟩
          | false =>
            have z1 : (un.toList == pn.toList) = false := hs
            have HC1 := Lib.hid (show ¬ (y < nm.n ∧ sEq un pn = true) from fun h => by rw [hs] at h; exact absurd h.2 (by simp))
            clear hs
            have g8 := HDC.out _ HBW4.out
            go_big_quiet (fail)
            by_cases hp1 : c < (d.f i).pa.n
            · have r1 : decide ((c : Int) < ((d.f i).pa.n : Int)) = true := decide_eq_true (by omega)
              have r1n : decide (c < (d.f i).pa.n) = true := decide_eq_true hp1
              cases po with
              | true =>
                have HN := Lib.hid (HSKIP.out HC1.out (by simp))
                clear HSKIP HBAD HTAKE HREF HC1
                go_wp2_with fail
                go_roundw
                case rel => exact ⟨c + 1, y, hlt, hy, rfl, rfl, HN.out, below_drewM HB4.out _⟩
                case measure => simp only [Lib.intOf]; omega
              | false =>
                by_cases hp3 : pdn = 0
                · subst hp3
                  have HN := Lib.hid (show res = false from HBAD.out HC1.out ⟨hp1, rfl, rfl⟩)
                  clear HSKIP HBAD HTAKE HREF HC1
                  go_wp2_with fail
                  go_ret
                  exact ⟨by rw [HN.out]; rfl, below_drewM HBW4.out _⟩
                · have r3 : ((pdn : Int) == 0) = false := beq_eq_false_iff_ne.2 (by omega)
                  have HN := Lib.hid (HSKIP.out HC1.out (by simp [hp3]))
                  clear HSKIP HBAD HTAKE HREF HC1
                  go_wp2_with fail
                  go_roundw
                  case rel => exact ⟨c + 1, y, hlt, hy, rfl, rfl, HN.out, below_drewM HB4.out _⟩
                  case measure => simp only [Lib.intOf]; omega
            · have r1 : decide ((c : Int) < ((d.f i).pa.n : Int)) = false := decide_eq_false (by omega)
              have r1n : decide (c < (d.f i).pa.n) = false := decide_eq_false hp1
              have HN := Lib.hid (HSKIP.out HC1.out (by simp [hp1]))
              clear HSKIP HBAD HTAKE HREF HC1
              go_wp2_with fail
              go_roundw
              case rel => exact ⟨c + 1, y, hlt, hy, rfl, rfl, HN.out, below_drewM HB4.out _⟩
              case measure => simp only [Lib.intOf]; omega
        · have q2 : decide ((y : Int) < (nm.n : Int)) = false := decide_eq_false (by omega)
          have q2n : decide (y < nm.n) = false := decide_eq_false hy2
          have HC1 := Lib.hid (show ¬ (y < nm.n ∧ sEq (nm.f y) pn = true) from fun h => hy2 h.1)
          go_wp2_with fail
          refine HP.out.mono ?_
          rintro e w3 ⟨rfl, h3⟩
          have HB4 := Lib.hid ((HB.out.trans (h3.mono HB.out.size)).alloc (Nat.le_trans HB.out.size h3.size) (.cells #[.string pn, .int .i64 (j : Nat), .bool po, .slice pda pdn pdc] 48))
          have HX4 := Lib.hid ((HX2.out.below h3 HX2.out.lt).alloc (.cells #[.string pn, .int .i64 (j : Nat), .bool po, .slice pda pdn pdc] 48))
          have HV4 := Lib.hid ((HV2.out.below h3 HV2.out.lt).alloc (.cells #[.string pn, .int .i64 (j : Nat), .bool po, .slice pda pdn pdc] 48))
          have HP4 := Lib.hid (Bx.new w3 #[.string pn, .int .i64 (j : Nat), .bool po, .slice pda pdn pdc] 48)
          clear h3 p0 p1 v3 v4 HX2 HV2 HP
          go_wp2_with (refine wpList_store_new rfl 48 (.tmp 7) (.tmp 22) rfl 4 _ [.string pn, .int .i64 (j : Nat), .bool po, .slice pda pdn pdc] rfl rfl (by kernel_rfl) (by simp [Value.oneCell']) rfl rfl ?_)
          have HS4 := Lib.hid (show (w3.alloc (.cells #[.string pn, .int .i64 (j : Nat), .bool po, .slice pda pdn pdc] 48)).heap.size = w3.heap.size + 1 from World.size_alloc ..)
          generalize w3.alloc (.cells #[.string pn, .int .i64 (j : Nat), .bool po, .slice pda pdn pdc] 48) = W4 at *
          obtain ⟨b3, hb3⟩ : ∃ b3, w3.heap.size = b3 := ⟨_, rfl⟩
          rw [hb3] at HP4 HS4 ⊢
          clear hb3
          dsimp only [Act.put]
          have HBW4 := Lib.hid (HB1.out.trans (HB4.out.mono HB1.out.size))
          have p0 := HX4.out.cell 0 (v := .pointer (some ⟨g, x, none⟩)) rfl
          have p1 := HX4.out.cell 1 (v := .slice (some ⟨g, o, none⟩) d.n d.cap) rfl
          have v3 := HV4.out.cell 3 (v := .slice nm.a nm.n nm.cap) rfl
          have v4 := HV4.out.cell 4 (v := .slice a nm.n cap) rfl
          have f0 := HP4.out.cell 0 (v := .string pn) rfl
          have f2 := HP4.out.cell 2 (v := .bool po) rfl
          have f3 := HP4.out.cell 3 (v := .slice pda pdn pdc) rfl
          have g8 := HDC.out _ HBW4.out
          go_big_quiet (fail)
          by_cases hp1 : c < (d.f i).pa.n
          · have r1 : decide ((c : Int) < ((d.f i).pa.n : Int)) = true := decide_eq_true (by omega)
            have r1n : decide (c < (d.f i).pa.n) = true := decide_eq_true hp1
            cases po with
            | true =>
              have HN := Lib.hid (HSKIP.out HC1.out (by simp))
              clear HSKIP HBAD HTAKE HREF HC1
              go_wp2_with fail
              go_roundw
              case rel => exact ⟨c + 1, y, hlt, hy, rfl, rfl, HN.out, below_drewM HB4.out _⟩
              case measure => simp only [Lib.intOf]; omega
            | false =>
              by_cases hp3 : pdn = 0
              · subst hp3
                have HN := Lib.hid (show res = false from HBAD.out HC1.out ⟨hp1, rfl, rfl⟩)
                clear HSKIP HBAD HTAKE HREF HC1
                go_wp2_with fail
                go_ret
                exact ⟨by rw [HN.out]; rfl, below_drewM HBW4.out _⟩
              · have r3 : ((pdn : Int) == 0) = false := beq_eq_false_iff_ne.2 (by omega)
                have HN := Lib.hid (HSKIP.out HC1.out (by simp [hp3]))
                clear HSKIP HBAD HTAKE HREF HC1
                go_wp2_with fail
                go_roundw
                case rel => exact ⟨c + 1, y, hlt, hy, rfl, rfl, HN.out, below_drewM HB4.out _⟩
                case measure => simp only [Lib.intOf]; omega
          · have r1 : decide ((c : Int) < ((d.f i).pa.n : Int)) = false := decide_eq_false (by omega)
            have r1n : decide (c < (d.f i).pa.n) = false := decide_eq_false hp1
            have HN := Lib.hid (HSKIP.out HC1.out (by simp [hp1]))
            clear HSKIP HBAD HTAKE HREF HC1
            go_wp2_with fail
            go_roundw
            case rel => exact ⟨c + 1, y, hlt, hy, rfl, rfl, HN.out, below_drewM HB4.out _⟩
            case measure => simp only [Lib.intOf]; omega
      · have q1 : decide ((c : Int) < (N : Int)) = false := decide_eq_false (by omega)
        have q1n : decide (c < N) = false := decide_eq_false hlt
        obtain rfl : c = N := by omega
        by_cases hz : y = nm.n
        · have HN := Lib.hid (show res = true from by rw [HL.out, HSEQ.out, hz]; simp)
          have r1 : ((y : Int) == (nm.n : Int)) = true := by rw [hz]; simp
          clear hz
          go_wp2_with fail
          go_ret
          exact ⟨by rw [HN.out]; first | rfl | simp, HB1.out.trans (HB.out.mono HB1.out.size)⟩
        · have HN := Lib.hid (show res = false from by rw [HL.out, HSEQ.out]; simp [hz])
          have r1 : ((y : Int) == (nm.n : Int)) = false := beq_eq_false_iff_ne.2 (by omega)
          clear hz
          go_wp2_with fail
          go_ret
          exact ⟨by rw [HN.out]; first | rfl | simp, HB1.out.trans (HB.out.mono HB1.out.size)⟩
  · have HN := Lib.hid (show res = false from by rw [HL.out, decide_eq_false hn]; rfl)
    have q0 : ((n : Int) != (nm.n : Int)) = true := by simp; omega
    have q0n : (n != nm.n) = true := by simp [hn]
    go_enter Tryz.func76, Tryz.ntmps76
    go_wp2_with fail
    go_ret
    exact ⟨by rw [HN.out]; rfl, HB1.out⟩
end Go.Proofs.YtjhecpkdpomkmaaGreat
