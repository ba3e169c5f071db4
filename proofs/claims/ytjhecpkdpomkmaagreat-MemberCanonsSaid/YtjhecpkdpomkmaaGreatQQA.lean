/-
  A bundle of texts, one behind the other: MbB6, MbB7, MbB8.
-/
import Derived.Test.YtjhecpkdpomkmaaGreatQQ
import Derived.Test.YtjhecpkdpomkmaaGreatQL
namespace Go.Proofs.YtjhecpkdpomkmaaGreat
open Go.RowKit
set_option linter.unusedVariables false
set_option linter.unusedSimpArgs false
set_option maxRecDepth 100000

theorem has_mk (d : TB) (i : Nat) (k m : Int) (s : ByteArray) (nm : SL) (a : Option Addr) (n cap : Nat) (ch : Nat → VT) :
    (VT.mk k m s nm a n cap ch).has d i = ((k == (d.f i).kind) && bare k m s.size nm.n n &&
    (if (d.f i).kind = 1 then decide (m = 0) || decide (m = 1)
     else if (d.f i).kind = 2 then (d.f i).admits m
     else if (d.f i).kind = 3 then inL (d.f i).nm s || inL (d.f i).mo s
     else if (d.f i).kind = 5 ∨ (d.f i).kind = 6 ∨ (d.f i).kind = 7 then (d.f i).isSize s.size && (d.f i).chars s
     else if (d.f i).kind = 9 then (d.f i).isSize n && allN (fun j => (ch j).has d (d.f i).elem.toNat) n
     else if (d.f i).kind = 10 then hasAltB d i s n ch
     else if (d.f i).kind = 8 then hasPtB d i nm n ch
     else true)) := rfl
set_option maxHeartbeats 4000000 in
theorem has_ok : ∀ (v : VT) (B : Nat) (w : World) (g x o : Nat) (d : TB) (i : Nat), RAt B w g x o d i → B ≤ w.heap.size → d.right = true → VIn B w v →
    Calls Tryz.prog 44 #[rV g x o d.n d.cap, .agg v.cells.toArray] w fun e w' => e = .returned (.bool (v.has d i)) ∧ Below w.heap.size w w'
  | .nil, _, _, _, _, _, _, _, _, _, _, hx => hx.elim
  | .mk k m s nm a n cap ch, B, w, g, x, o, d, i, hR, hB, hd, hx => by
    have hrec : ∀ j, j < n → ∀ t, t < d.n → ∀ W, Below w.heap.size w W → Calls Tryz.prog 44 #[rV g (o + t * 12) o d.n d.cap, .agg (ch j).cells.toArray] W fun e w' => e = .returned (.bool ((ch j).has d t)) ∧ Below W.heap.size W w' := fun j hj t ht W hW =>
      has_ok (ch j) w.heap.size W g (o + t * 12) o d t (((hR.below (Below.refl _ _) hB).below hW (Nat.le_refl _)).to ht) hW.size hd (((hx.below (Below.refl _ _) hB).below hW (Nat.le_refl _)).2.2 j hj)
    have hrow := TB.right_row hd hR.2.1
    rw [has_mk]
    by_cases hk : k = (d.f i).kind
    · by_cases hb : bare k m s.size nm.n n = true
      · have hkd := hrow.kd
        have hr := hrow.rgt
        obtain ⟨K, hK⟩ : ∃ K, (d.f i).kind = K := ⟨_, rfl⟩
        rw [hK] at hk hkd
        subst hk
        rw [hb]
        have : k = 1 ∨ k = 2 ∨ k = 3 ∨ k = 4 ∨ k = 5 ∨ k = 6 ∨ k = 7 ∨ k = 8 ∨ k = 9 ∨ k = 10 := by omega
        rcases this with rfl | rfl | rfl | rfl | rfl | rfl | rfl | rfl | rfl | rfl
        · refine (has_1 B w g x o d i m s nm a n cap ch hR hB hx hK hb).mono fun e w' h => ⟨h.1.trans ?_, h.2⟩
          rw [hK]; simp
        · refine (has_2 B w g x o d i m s nm a n cap ch hR hB hx hK hb hr).mono fun e w' h => ⟨h.1.trans ?_, h.2⟩
          rw [hK]; simp
        · refine (has_3 B w g x o d i m s nm a n cap ch hR hB hx hK hb).mono fun e w' h => ⟨h.1.trans ?_, h.2⟩
          rw [hK]; simp
        · refine (has_4 B w g x o d i m s nm a n cap ch hR hB hx hK hb).mono fun e w' h => ⟨h.1.trans ?_, h.2⟩
          rw [hK]; simp
        · refine (has_5 B w g x o d i m s nm a n cap ch hR hB hx hK hb hr).mono fun e w' h => ⟨h.1.trans ?_, h.2⟩
          rw [hK]; simp
        · refine (has_6 B w g x o d i m s nm a n cap ch hR hB hx hK hb hr).mono fun e w' h => ⟨h.1.trans ?_, h.2⟩
          rw [hK]; simp
        · refine (has_7 B w g x o d i m s nm a n cap ch hR hB hx hK hb hr).mono fun e w' h => ⟨h.1.trans ?_, h.2⟩
          rw [hK]; simp
        · refine (has_8k B w g x o d i m s nm a n cap ch hR hB hx hK hb hrow hrec).mono fun e w' h => ⟨h.1.trans ?_, h.2⟩
          rw [hK]; simp
        · refine (has_9k B w g x o d i m s nm a n cap ch hR hB hx hK hb hrow hrec).mono fun e w' h => ⟨h.1.trans ?_, h.2⟩
          rw [hK]; simp
        · refine (has_10k B w g x o d i m s nm a n cap ch hR hB hx hK hb hrow hrec).mono fun e w' h => ⟨h.1.trans ?_, h.2⟩
          rw [hK]; simp
      · have hb' : bare k m s.size nm.n n = false := by simpa using hb
        refine (has_bare B w g x o d i k m s nm a n cap ch hR hB hx hk.symm hb').mono fun e w' h => ⟨h.1.trans ?_, h.2⟩
        rw [hb']; simp
    · refine (has_other B w g x o d i k m s nm a n cap ch hR hB hx hk).mono fun e w' h => ⟨h.1.trans ?_, h.2⟩
      rw [show (k == (d.f i).kind) = false from beq_eq_false_iff_ne.2 hk]; simp
end Go.Proofs.YtjhecpkdpomkmaaGreat

namespace Go.Proofs.YtjhecpkdpomkmaaGreat
open Go.RowKit
set_option linter.unusedVariables false
set_option linter.unusedSimpArgs false
set_option maxRecDepth 100000

set_option maxHeartbeats 16000000 in
theorem defs_ok (B : Nat) (w : World) (g x o : Nat) (d : TB) (i : Nat) (hR : RAt B w g x o d i) (hB : B ≤ w.heap.size) (hd : d.right = true) :
    Calls Tryz.prog 50 #[rV g x o d.n d.cap] w fun e w' => e = .returned (.bool ((d.f i).defsOk d)) ∧ Below w.heap.size w w' := by
  have hb0 := (Below.refl w.heap.size w).alloc (Nat.le_refl _) (.cells #[.pointer (some ⟨g, x, none⟩), .slice (some ⟨g, o, none⟩) d.n d.cap] 72)
  have hx0 := Bx.new w #[.pointer (some ⟨g, x, none⟩), .slice (some ⟨g, o, none⟩) d.n d.cap] 72
  have hrow := TB.right_row hd hR.2.1
  have HRB := Lib.hid (fun (W : World) (hW : Below w.heap.size w W) => (hR.below (Below.refl _ _) hB).below hW (Nat.le_refl _))
  have HCT := Lib.hid (fun (W : World) (hb : Below w.heap.size w W) => countM_ok w.heap.size W g x o d i (HRB.out W hb) hb.size)
  have HPT := Lib.hid (fun (W : World) (k : Nat) (hk : k < (d.f i).count) (hb : Below w.heap.size w W) => part_ok w.heap.size W g x o d i k (HRB.out W hb) hb.size hk)
  have HHS := Lib.hid (fun (W : World) (v : VT) (t : Nat) (ht : t < d.n) (hv : VIn w.heap.size w v) (hb : Below w.heap.size w W) => has_ok v w.heap.size W g (o + t * 12) o d t ((HRB.out W hb).to ht) hb.size hd (hv.below hb (Nat.le_refl _)))
  have HOF := Lib.hid (fun (W : World) (p : FT) (j : Nat) (hj : p.t = (j : Int)) (hjn : j < d.n) => of_ok W g x o d.n d.cap j p hj hjn)
  have HDF := Lib.hid (fun (W : World) (k : Int) => isDefault_ok W k)
  have hcnt : (d.f i).count ≤ 9223372036854775806 := by
    have h1 := hR.row.2.2.2.2.1.1.1
    have h2 := hR.row.2.2.2.2.1.1.2.1
    have h3 := hR.row.2.2.2.2.2.1.1.1
    have h4 := hR.row.2.2.2.2.2.1.1.2.1
    unfold DT.count
    omega
  have HPI := Lib.hid (fun (k : Nat) (hk : k < (d.f i).count) => (((hR.below (Below.refl _ _) hB).row).part hk : FTIn w.heap.size w ((d.f i).part k)))
  have HTN := Lib.hid (show ∀ k, k < (d.f i).count → ∃ j : Nat, ((d.f i).part k).t = (j : Int) ∧ j < d.n from fun k hk => by
    have := FT.ok_t (hrow.part hk).2
    exact ⟨((d.f i).part k).t.toNat, by omega, this.2⟩)
  have HX := Lib.hid hx0
  have HB := Lib.hid hb0
  obtain ⟨p, hp⟩ : ∃ p, (fun k j => isDfl ((d.f i).part k |>.d.f j).k && ((d.f i).part k |>.d.f j).has d ((d.f i).part k).t.toNat) = p := ⟨_, rfl⟩
  have HP := Lib.hid (show ∀ k j, p k j = (isDfl (((d.f i).part k).d.f j).k && (((d.f i).part k).d.f j).has d ((d.f i).part k).t.toNat) from fun k j => by rw [← hp])
  obtain ⟨q, hq⟩ : ∃ q, (fun k => allN (p k) ((d.f i).part k).d.n) = q := ⟨_, rfl⟩
  have HQ := Lib.hid (show ∀ k, q k = allN (p k) ((d.f i).part k).d.n from fun k => by rw [← hq])
  have HL := Lib.hid (show (d.f i).defsOk d = allN q (d.f i).count from by rw [← hq, ← hp]; rfl)
  generalize (d.f i).defsOk d = res at *
  generalize hN : (d.f i).count = N at *
  unfold rV at HCT HPT HHS HOF ⊢
  clear hb0 hx0 hR hB hp hq hN hrow
  go_enter Tryz.func50, Tryz.ntmps50
  go_wp2_with fail
  refine (HCT.out _ HB.out).mono ?_
  generalize w.alloc (.cells #[.pointer (some ⟨g, x, none⟩), .slice (some ⟨g, o, none⟩) d.n d.cap] 72) = W1 at *
  rintro e w2 ⟨rfl, h2⟩
  have HW2 := Lib.hid h2
  clear h2
  obtain ⟨b, hb⟩ : ∃ b, w.heap.size = b := ⟨_, rfl⟩
  have HBE := Lib.hid hb
  rw [hb] at HX ⊢
  clear hb
  go_wp2_with fail
  go_loopw [9] (fun iv wr => RelHc W1 N q iv wr) (fun iv _ => N - (Lib.intOf iv).toNat)
  case atStart => exact ⟨0, Nat.zero_le _, rfl, rfl, HW2.out⟩
  case round =>
    obtain ⟨c, hc, rfl, hall, hbel⟩ := hrel
    have HA := Lib.hid hall
    have HBR := Lib.hid hbel
    clear hall hbel
    by_cases hlt : c < N
    · have q1 : decide ((c : Int) < (N : Int)) = true := decide_eq_true (by omega)
      have q1n : decide (c < N) = true := decide_eq_true hlt
      have q3 : IntKind.i64.wrap ((c : Int) + 1) = ((c + 1 : Nat) : Int) := wrap_succ hlt (by omega)
      have hX := HX.out.below HBR.out HX.out.lt
      have p0 := hX.cell 0 (v := .pointer (some ⟨g, x, none⟩)) rfl
      have p1 := hX.cell 1 (v := .slice (some ⟨g, o, none⟩) d.n d.cap) rfl
      have HX2 := Lib.hid hX
      clear hX
      have HSU := Lib.hid (fun h => allN_succ (f := q) (n := c) HA.out h)
      have HFA := Lib.hid (fun h => allN_no (f := q) hlt h)
      have HQC := Lib.hid (HQ.out c)
      have HPJ := Lib.hid (HP.out c)
      have HPC := Lib.hid (HPT.out wr c hlt (HB.out.trans (HBR.out.mono HB.out.size)))
      obtain ⟨t, ht, htn⟩ := HTN.out c hlt
      have HOFP := Lib.hid (fun (W : World) => HOF.out W ((d.f i).part c) t ht htn)
      have HTJ := Lib.hid (show ((d.f i).part c).t.toNat = t by omega)
      have HDI := Lib.hid (HPI.out c hlt).2.2
      have hdn : ((d.f i).part c).d.n ≤ 9223372036854775806 := by have h1 := HDI.out.1.1; have h2 := HDI.out.1.2.1; omega
      rw [HTJ.out] at HPJ
      rw [list4] at HPC HOFP
      have HEL := Lib.hid (fun (j : Nat) (hj : j < ((d.f i).part c).d.n) => vRow_range HDI.out.1 hj)
      have HVI := Lib.hid (fun (j : Nat) (hj : j < ((d.f i).part c).d.n) => HDI.out.2 j hj)
      clear HDI
      generalize ((d.f i).part c).d.f = df at *
      generalize ((d.f i).part c).name = pn at *
      generalize ((d.f i).part c).t = pt at *
      generalize ((d.f i).part c).opt = po at *
      generalize ((d.f i).part c).d.a = pda at *
      generalize ((d.f i).part c).d.n = pdn at *
      generalize ((d.f i).part c).d.cap = pdc at *
      obtain rfl : pt = (t : Int) := ht
      clear HTJ HOF HTN HP HQ HPT HPI HCT
      go_wp2_with fail
      refine HPC.out.mono ?_
      rintro e w3 ⟨rfl, h3⟩
      have HB4 := Lib.hid ((HBR.out.trans (h3.mono HBR.out.size)).alloc (Nat.le_trans HBR.out.size h3.size) (.cells #[.string pn, .int .i64 (t : Nat), .bool po, .slice pda pdn pdc] 48))
      have HX4 := Lib.hid ((HX2.out.below h3 HX2.out.lt).alloc (.cells #[.string pn, .int .i64 (t : Nat), .bool po, .slice pda pdn pdc] 48))
      have HP4 := Lib.hid (Bx.new w3 #[.string pn, .int .i64 (t : Nat), .bool po, .slice pda pdn pdc] 48)
      have f3 := HP4.out.cell 3 (v := .slice pda pdn pdc) rfl
      clear h3 p0 p1 HX2 HPC
      go_wp2_with (refine wpList_store_new rfl 48 (.tmp 4) (.tmp 14) rfl 4 _ [.string pn, .int .i64 (t : Nat), .bool po, .slice pda pdn pdc] rfl rfl (by kernel_rfl) (by simp [Value.oneCell']) rfl rfl ?_)
      have HS4 := Lib.hid (show (w3.alloc (.cells #[.string pn, .int .i64 (t : Nat), .bool po, .slice pda pdn pdc] 48)).heap.size = w3.heap.size + 1 from World.size_alloc ..)
      generalize w3.alloc (.cells #[.string pn, .int .i64 (t : Nat), .bool po, .slice pda pdn pdc] 48) = W4 at *
      obtain ⟨b4, hb4⟩ : ∃ b4, w3.heap.size = b4 := ⟨_, rfl⟩
      rw [hb4] at HP4 HS4 ⊢
      clear hb4 f3
      have HBW4 := Lib.hid (HB.out.trans (HB4.out.mono HB.out.size))
      go_loopw [18] (fun iv wr => RelHc W4 pdn (p c) iv wr) (fun iv _ => pdn - (Lib.intOf iv).toNat)
      case atStart => exact ⟨0, Nat.zero_le _, rfl, rfl, Below.refl _ _⟩
      case round =>
        obtain ⟨j, hj, rfl, hall, hbel⟩ := hrel
        have HA2 := Lib.hid hall
        have HBR2 := Lib.hid hbel
        clear hall hbel
        by_cases hlt2 : j < pdn
        · have q5 : decide ((j : Int) < (pdn : Int)) = true := decide_eq_true (by omega)
          have q5n : decide (j < pdn) = true := decide_eq_true hlt2
          have q6 : IntKind.i64.wrap ((j : Int) + 1) = ((j + 1 : Nat) : Int) := wrap_succ hlt2 (by omega)
          obtain ⟨gx, ox, hix, hgx, hrd⟩ := HEL.out j hlt2
          have HBW5 := Lib.hid (HBW4.out.trans (HBR2.out.mono HBW4.out.size))
          have HR5 := Lib.hid (hrd wr (HBW5.out.block gx hgx))
          obtain ⟨k0, m0, s0, nm0, a0, n0, cap0, c0, hv0⟩ := vin_mk (HVI.out j hlt2)
          have HHX := Lib.hid (fun (W : World) (hb : Below w.heap.size w W) => HHS.out W (df j) t htn (HVI.out j hlt2) hb)
          have HPX := Lib.hid (HPJ.out j)
          rw [hv0] at HHX HPX HR5
          rw [list5] at HHX HR5
          have HPY := Lib.hid (show p c j = (isDfl k0 && (VT.mk k0 m0 s0 nm0 a0 n0 cap0 c0).has d t) from HPX.out)
          generalize (VT.mk k0 m0 s0 nm0 a0 n0 cap0 c0).has d t = z at *
          have HDX := Lib.hid (fun (W : World) => HDF.out W k0)
          generalize isDfl k0 = z0 at *
          have HSU2 := Lib.hid (fun h => allN_succ (f := p c) (n := j) HA2.out h)
          have HFA2 := Lib.hid (show p c j = false → res = false from fun h => by rw [HL.out]; exact HFA.out (by rw [HQC.out]; exact allN_no (f := p c) hlt2 h))
          clear hv0 HPX hrd HPJ HA2 HA HSU HFA
          have HX6 := Lib.hid ((HX4.out.below HBR2.out HX4.out.lt).alloc (.cells #[.int .i64 k0, .int .i64 m0, .string s0, .slice nm0.a nm0.n nm0.cap, .slice a0 n0 cap0] 26))
          have HP6 := Lib.hid ((HP4.out.below HBR2.out HP4.out.lt).alloc (.cells #[.int .i64 k0, .int .i64 m0, .string s0, .slice nm0.a nm0.n nm0.cap, .slice a0 n0 cap0] 26))
          have HV6 := Lib.hid (Bx.new wr #[.int .i64 k0, .int .i64 m0, .string s0, .slice nm0.a nm0.n nm0.cap, .slice a0 n0 cap0] 26)
          have HB6 := Lib.hid (HBR2.out.alloc HBR2.out.size (.cells #[.int .i64 k0, .int .i64 m0, .string s0, .slice nm0.a nm0.n nm0.cap, .slice a0 n0 cap0] 26))
          go_wp2_with (first
            | (refine wpList_load_mid rfl 26 (.tmp 20) rfl gx ox rfl [.int .i64 k0, .int .i64 m0, .string s0, .slice nm0.a nm0.n nm0.cap, .slice a0 n0 cap0] _ HR5.out Tryz.underlying26 rfl (by rw [info_V]; rfl) ?_)
            | (refine wpList_store_new rfl 26 (.tmp 6) (.tmp 21) rfl 5 _ [.int .i64 k0, .int .i64 m0, .string s0, .slice nm0.a nm0.n nm0.cap, .slice a0 n0 cap0] rfl (by rfl) info_V (by simp [Value.oneCell']) rfl rfl ?_))
          have HS6 := Lib.hid (show (wr.alloc (.cells #[.int .i64 k0, .int .i64 m0, .string s0, .slice nm0.a nm0.n nm0.cap, .slice a0 n0 cap0] 26)).heap.size = wr.heap.size + 1 from World.size_alloc ..)
          generalize wr.alloc (.cells #[.int .i64 k0, .int .i64 m0, .string s0, .slice nm0.a nm0.n nm0.cap, .slice a0 n0 cap0] 26) = W6 at *
          obtain ⟨b6, hb6⟩ : ∃ b6, wr.heap.size = b6 := ⟨_, rfl⟩
          rw [hb6] at HV6 HS6 ⊢
          clear hb6
          dsimp only [Act.put]
          have HBW6 := Lib.hid (HBW4.out.trans (HB6.out.mono HBW4.out.size))
          have HSZW := Lib.hid (show w.heap.size ≤ b6 + 1 from by have := HBW6.out.size; rw [HS6.out] at this; exact this)
          have HSZ4 := Lib.hid (show W4.heap.size ≤ b6 + 1 from by have := HB6.out.size; rw [HS6.out] at this; exact this)
          have HS := Lib.hid (show ∀ W, Below (b6 + 1) W6 W → (W.cell? ⟨b, 0, none⟩ = some (.pointer (some ⟨g, x, none⟩)) ∧ W.cell? ⟨b, 1, none⟩ = some (.slice (some ⟨g, o, none⟩) d.n d.cap) ∧ W.cell? ⟨b4, 0, none⟩ = some (.string pn) ∧ W.cell? ⟨b4, 1, none⟩ = some (.int .i64 (t : Nat)) ∧ W.cell? ⟨b4, 2, none⟩ = some (.bool po) ∧ W.cell? ⟨b4, 3, none⟩ = some (.slice pda pdn pdc) ∧ W.cell? ⟨b6, 0, none⟩ = some (.int .i64 k0) ∧ W.cell? ⟨b6, 1, none⟩ = some (.int .i64 m0) ∧ W.cell? ⟨b6, 2, none⟩ = some (.string s0) ∧ W.cell? ⟨b6, 3, none⟩ = some (.slice nm0.a nm0.n nm0.cap) ∧ W.cell? ⟨b6, 4, none⟩ = some (.slice a0 n0 cap0)) from fun W hW => by
            have h1 := HX6.out.below hW (by have := HX6.out.lt; rw [HS6.out] at this; exact this)
            have h2 := HP6.out.below hW (by have := HP6.out.lt; rw [HS6.out] at this; exact this)
            have h3 := HV6.out.below hW (by have := HV6.out.lt; rw [HS6.out] at this; exact this)
            exact ⟨h1.cell 0 rfl, h1.cell 1 rfl, h2.cell 0 rfl, h2.cell 1 rfl, h2.cell 2 rfl, h2.cell 3 rfl, h3.cell 0 rfl, h3.cell 1 rfl, h3.cell 2 rfl, h3.cell 3 rfl, h3.cell 4 rfl⟩)
          cases z0 with
          | false =>
            have HN := Lib.hid (show res = false from HFA2.out (by rw [HPY.out]; rfl))
            obtain ⟨c0, c1, c2, c3, c4, c5, c6, c7, c8, c9, c10⟩ := HS.out _ (Below.refl _ _)
            go_quiet ((go_at_call 90; exact Calls.quiet_of_same (HDX.out _)))
            go_wp2_with fail
            go_ret
            exact ⟨by rw [HN.out]; rfl, below_drewM HBW6.out _⟩
          | true =>
            have HBX0 := Lib.hid (Below.drew (Below.refl (b6 + 1) W6))
            have HS0 := Lib.hid (HS.out _ HBX0.out)
            go_region_held3 (fun W => W.cell? ⟨b, 0, none⟩ = some (.pointer (some ⟨g, x, none⟩)) ∧ W.cell? ⟨b, 1, none⟩ = some (.slice (some ⟨g, o, none⟩) d.n d.cap) ∧ W.cell? ⟨b4, 0, none⟩ = some (.string pn) ∧ W.cell? ⟨b4, 1, none⟩ = some (.int .i64 (t : Nat)) ∧ W.cell? ⟨b4, 2, none⟩ = some (.bool po) ∧ W.cell? ⟨b4, 3, none⟩ = some (.slice pda pdn pdc) ∧ W.cell? ⟨b6, 0, none⟩ = some (.int .i64 k0) ∧ W.cell? ⟨b6, 1, none⟩ = some (.int .i64 m0) ∧ W.cell? ⟨b6, 2, none⟩ = some (.string s0) ∧ W.cell? ⟨b6, 3, none⟩ = some (.slice nm0.a nm0.n nm0.cap) ∧ W.cell? ⟨b6, 4, none⟩ = some (.slice a0 n0 cap0)) (first | with_reducible exact HS2.out | with_reducible exact HS1.out | with_reducible exact HS0.out) (first
              | (go_at_call 90; (with_reducible refine (HDX.out _).mono ?_); rintro e w7 ⟨rfl, rfl⟩)
              | (go_at_call 54; (with_reducible refine (HOFP.out _).mono ?_); rintro e w7 ⟨rfl, h7⟩; have HBX1 := Lib.hid (HBX0.out.trans (h7.mono (by have h := HBX0.out.size; rw [HS6.out] at h; exact h))); have HS1 := Lib.hid (HS.out _ HBX1.out); clear h7)
              | (go_at_call 44; (with_reducible refine (HHX.out _ (HBW6.out.trans (HBX1.out.mono HSZW.out))).mono ?_); rintro e w8 ⟨rfl, h8⟩; have HBX2 := Lib.hid (HBX1.out.trans (h8.mono (by have h := HBX1.out.size; rw [HS6.out] at h; exact h))); have HS2 := Lib.hid (HS.out _ HBX2.out); clear h8))
            cases z with
            | true =>
              have HN := Lib.hid (HSU2.out (by rw [HPY.out]; rfl))
              go_wp2_with fail
              go_roundw
              case rel => exact ⟨j + 1, hlt2, rfl, HN.out, HB6.out.trans (HBX2.out.mono HSZ4.out)⟩
              case measure => simp only [Lib.intOf]; omega
            | false =>
              have HN := Lib.hid (show res = false from HFA2.out (by rw [HPY.out]; rfl))
              go_wp2_with fail
              go_ret
              exact ⟨by rw [HN.out]; rfl, HBW6.out.trans (HBX2.out.mono HSZW.out)⟩
        · have q5 : decide ((j : Int) < (pdn : Int)) = false := decide_eq_false (by omega)
          have q5n : decide (j < pdn) = false := decide_eq_false hlt2
          obtain rfl : j = pdn := by omega
          have HN := Lib.hid (HSU.out (by rw [HQC.out]; exact HA2.out))
          go_wp2_with fail
          go_roundw
          case rel => exact ⟨c + 1, hlt, rfl, HN.out, HB4.out.trans (HBR2.out.mono HB4.out.size)⟩
          case measure => simp only [Lib.intOf]; omega
    · have q1 : decide ((c : Int) < (N : Int)) = false := decide_eq_false (by omega)
      have q1n : decide (c < N) = false := decide_eq_false hlt
      obtain rfl : c = N := by omega
      have HN := Lib.hid (show res = true from by rw [HL.out, HA.out])
      go_wp2_with fail
      go_ret
      exact ⟨by rw [HN.out]; rfl, HB.out.trans (HBR.out.mono HB.out.size)⟩
end Go.Proofs.YtjhecpkdpomkmaaGreat

namespace Go.Proofs.YtjhecpkdpomkmaaGreat
open Go.RowKit
set_option linter.unusedVariables false
set_option linter.unusedSimpArgs false
set_option maxRecDepth 100000

set_option maxHeartbeats 8000000 in
theorem mRight_ok (B : Nat) (w : World) (d : TB) (hd : TBIn B w d) (hB : B ≤ w.heap.size) (hs : ∀ i, i < d.n → (d.f i).set.n ≤ 1000) :
    Calls Tryz.prog 32 #[.slice d.a d.n d.cap] w fun e w' => e = .returned (.bool d.good) ∧ Below w.heap.size w w' := by
  have HTR := Lib.hid (tRight_ok B w d hd hB hs)
  have HG := Lib.hid (show d.good = (d.right && allN (fun i => (d.f i).defsOk d) d.n) from rfl)
  cases hr : d.right with
  | false =>
    rw [hr] at HTR
    have HN := Lib.hid (show d.good = false from by rw [HG.out, hr]; rfl)
    generalize d.good = res at *
    clear hr hd hB HG
    go_enter Tryz.func32, Tryz.ntmps32
    go_wp2_with fail
    refine HTR.out.mono ?_
    rintro e w2 ⟨rfl, h2⟩
    have HB2 := Lib.hid h2
    clear h2
    go_wp2_with fail
    go_ret
    exact ⟨by rw [HN.out]; rfl, HB2.out⟩
  | true =>
    rw [hr] at HTR
    have hn := TB.right_n hr
    obtain ⟨g, o, hT⟩ := hd.at hn.1
    have hT' := hT.below (Below.refl w.heap.size w) hB
    have HDF := Lib.hid (fun (W : World) (k : Nat) (hk : k < d.n) (hb : Below w.heap.size w W) => defs_ok w.heap.size W g (o + k * 12) o d k ((hT'.below hb (Nat.le_refl _)).at hk) hb.size hr)
    have HRT := Lib.hid (fun (W : World) (k : Nat) (hk : k < d.n) => rowOf_ok W g o d.n d.cap k hk)
    unfold rV at HDF HRT
    rw [hT.1] at HTR ⊢
    obtain ⟨q, hq⟩ : ∃ q, (fun i => (d.f i).defsOk d) = q := ⟨_, rfl⟩
    have HQ := Lib.hid (show ∀ i, (d.f i).defsOk d = q i from fun i => by rw [← hq])
    have HL := Lib.hid (show d.good = allN q d.n from by rw [HG.out, hr, ← hq]; rfl)
    generalize d.good = res at *
    clear hr hd hB HG hT hT' hq hs
    generalize hN : d.n = N at *
    clear hN
    go_enter Tryz.func32, Tryz.ntmps32
    go_wp2_with fail
    refine HTR.out.mono ?_
    rintro e w2 ⟨rfl, h2⟩
    have HB2 := Lib.hid h2
    clear h2 HTR
    go_wp2_with fail
    go_loopw [9] (fun iv wr => RelHc w N q iv wr) (fun iv _ => N - (Lib.intOf iv).toNat)
    case atStart => exact ⟨0, Nat.zero_le _, rfl, rfl, HB2.out⟩
    case round =>
      obtain ⟨c, hc, rfl, hall, hbel⟩ := hrel
      have HA := Lib.hid hall
      have HBR := Lib.hid hbel
      clear hall hbel
      by_cases hlt : c < N
      · have q1 : decide ((c : Int) < (N : Int)) = true := decide_eq_true (by omega)
        have q1n : decide (c < N) = true := decide_eq_true hlt
        have q3 : IntKind.i64.wrap ((c : Int) + 1) = ((c + 1 : Nat) : Int) := wrap_succ hlt (by omega)
        have HSU := Lib.hid (fun h => allN_succ (f := q) (n := c) HA.out h)
        have HFA := Lib.hid (show q c = false → res = false from fun h => by rw [HL.out]; exact allN_no (f := q) hlt h)
        have HD := Lib.hid (fun (W : World) (hb : Below w.heap.size w W) => HDF.out W c hlt hb)
        have HR := Lib.hid (fun (W : World) => HRT.out W c hlt)
        rw [HQ.out] at HD
        generalize q c = z at *
        obtain ⟨y, hy⟩ : ∃ y, o + c * 12 = y := ⟨_, rfl⟩
        rw [hy] at HD HR
        clear hy HDF HRT HQ HA
        go_wp2_with fail
        refine (HR.out _).mono ?_
        rintro e w3 ⟨rfl, h3⟩
        have HB3 := Lib.hid (HBR.out.trans (h3.mono HBR.out.size))
        clear h3
        go_wp2_with fail
        refine (HD.out _ HB3.out).mono ?_
        rintro e w4 ⟨rfl, h4⟩
        have HB4 := Lib.hid (HB3.out.trans (h4.mono HB3.out.size))
        clear h4
        cases z with
        | true =>
          have HN := Lib.hid (HSU.out (by first | rfl | trivial))
          go_wp2_with fail
          go_roundw
          case rel => exact ⟨c + 1, hlt, rfl, HN.out, HB4.out⟩
          case measure => simp only [Lib.intOf]; omega
        | false =>
          have HN := Lib.hid (show res = false from HFA.out (by first | rfl | trivial))
          go_wp2_with fail
          go_ret
          exact ⟨by rw [HN.out]; rfl, HB4.out⟩
      · have q1 : decide ((c : Int) < (N : Int)) = false := decide_eq_false (by omega)
        have q1n : decide (c < N) = false := decide_eq_false hlt
        obtain rfl : c = N := by omega
        have HN := Lib.hid (show res = true from by rw [HL.out, HA.out])
        go_wp2_with fail
        go_ret
        exact ⟨by rw [HN.out]; rfl, HBR.out⟩
set_option maxHeartbeats 8000000 in
theorem check_ok (B : Nat) (w : World) (d : TB) (v : VT) (hd : TBIn B w d) (hv : VIn B w v) (hB : B ≤ w.heap.size) (hs : ∀ i, i < d.n → (d.f i).set.n ≤ 1000) :
    Calls Tryz.prog 23 #[.slice d.a d.n d.cap, .agg v.cells.toArray] w fun e w' => e = .returned (.int .i64 (chk d v)) ∧ Below w.heap.size w w' := by
  have hb0 := (Below.refl w.heap.size w).alloc (Nat.le_refl _) (.cells v.cells.toArray 26)
  have HX := Lib.hid (Bx.new w v.cells.toArray 26)
  have HB := Lib.hid hb0
  have HD := Lib.hid (fun (W : World) (hW : Below w.heap.size w W) => (hd.below (Below.refl _ _) hB).below hW (Nat.le_refl _))
  have HV := Lib.hid (fun (W : World) (hW : Below w.heap.size w W) => (hv.below (Below.refl _ _) hB).below hW (Nat.le_refl _))
  have HC1 := Lib.hid (fun (W : World) (hW : Below w.heap.size w W) => mRight_ok w.heap.size W d (HD.out W hW) hW.size hs)
  have HC2 := Lib.hid (fun (W : World) (hW : Below w.heap.size w W) => deeper_ok v w.heap.size W 40 (HV.out W hW) hW.size (by omega))
  have HC3 := Lib.hid (show d.good = true → ∃ g o, d.a = some ⟨g, o, none⟩ ∧ 0 < d.n ∧ ∀ W, Below w.heap.size w W → Calls Tryz.prog 44 #[rV g o o d.n d.cap, .agg v.cells.toArray] W fun e w' => e = .returned (.bool (v.has d 0)) ∧ Below W.heap.size W w' from fun hg => by
    have hr := TB.good_right hg
    have hn := TB.right_n hr
    obtain ⟨g, o, hT⟩ := (HD.out w (Below.refl _ _)).at hn.1
    refine ⟨g, o, hT.1, hn.1, fun W hW => ?_⟩
    have := has_ok v w.heap.size W g (o + 0 * 12) o d 0 ((hT.below hW (Nat.le_refl _)).at hn.1) hW.size hr (HV.out W hW)
    rwa [Nat.zero_mul, Nat.add_zero] at this)
  have HRT := Lib.hid (fun (W : World) (g o : Nat) (hn : 0 < d.n) => rowOf_ok W g o d.n d.cap 0 hn)
  obtain ⟨k0, m0, s0, nm0, a0, n0, cap0, c0, hv0⟩ := vin_mk hv
  have HL := Lib.hid (show chk d v = (if d.good = false then 1 else if v.deeper 40 = true then 9 else if v.has d 0 = true then 0 else 4) from rfl)
  generalize chk d v = res at *
  generalize v.has d 0 = z3 at *
  generalize v.deeper 40 = z2 at *
  generalize d.good = z1 at *
  have hcl : v.cells = [.int .i64 k0, .int .i64 m0, .string s0, .slice nm0.a nm0.n nm0.cap, .slice a0 n0 cap0] := by rw [hv0, list5]
  rw [hcl] at HX HB HC2 HC3 ⊢
  clear hb0 hd hv hB hcl hv0 HD HV hs
  cases z1 with
  | false =>
    have HN := Lib.hid (show res = 1 from HL.out)
    go_enter Tryz.func23, Tryz.ntmps23
    go_wp2_with fail
    refine (HC1.out _ HB.out).mono ?_
    rintro e w2 ⟨rfl, h2⟩
    have HB2 := Lib.hid (HB.out.trans (h2.mono HB.out.size))
    clear h2
    go_wp2_with fail
    go_ret
    exact ⟨by rw [HN.out]; first | rfl | simp, HB2.out⟩
  | true =>
    obtain ⟨g, o, ha, hn, hHAS⟩ := HC3.out rfl
    have HHAS := Lib.hid hHAS
    have HR := Lib.hid (show ∀ W : World, Calls Tryz.prog 34 #[.slice (some ⟨g, o, none⟩) d.n d.cap, .int .i64 0] W fun e w' => e = .returned (.agg #[.pointer (some ⟨g, o, none⟩), .slice (some ⟨g, o, none⟩) d.n d.cap]) ∧ Below W.heap.size W w' from fun W => by
      have h := HRT.out W g o hn
      unfold rV at h
      rw [Nat.zero_mul, Nat.add_zero] at h
      exact h)
    unfold rV at HHAS
    rw [ha] at HC1 ⊢
    clear HC3 HRT hHAS ha hn
    go_enter Tryz.func23, Tryz.ntmps23
    go_wp2_with fail
    refine (HC1.out _ HB.out).mono ?_
    have HSZ := Lib.hid (show (w.alloc (.cells #[.int .i64 k0, .int .i64 m0, .string s0, .slice nm0.a nm0.n nm0.cap, .slice a0 n0 cap0] 26)).heap.size = w.heap.size + 1 from World.size_alloc ..)
    generalize w.alloc (.cells #[.int .i64 k0, .int .i64 m0, .string s0, .slice nm0.a nm0.n nm0.cap, .slice a0 n0 cap0] 26) = W1 at *
    rintro e w2 ⟨rfl, h2⟩
    have HB2 := Lib.hid (HB.out.trans (h2.mono HB.out.size))
    obtain ⟨b, hb⟩ : ∃ b, w.heap.size = b := ⟨_, rfl⟩
    have HBE := Lib.hid hb
    have HSZW := Lib.hid (show w.heap.size ≤ b + 1 by omega)
    rw [hb] at HX HSZ ⊢
    have HBY2 := Lib.hid (show Below (b + 1) W1 w2 from by rw [HSZ.out] at h2; exact h2)
    clear h2 hb
    have HS := Lib.hid (show ∀ W, Below (b + 1) W1 W → (W.cell? ⟨b, 0, none⟩ = some (.int .i64 k0) ∧ W.cell? ⟨b, 1, none⟩ = some (.int .i64 m0) ∧ W.cell? ⟨b, 2, none⟩ = some (.string s0) ∧ W.cell? ⟨b, 3, none⟩ = some (.slice nm0.a nm0.n nm0.cap) ∧ W.cell? ⟨b, 4, none⟩ = some (.slice a0 n0 cap0)) from fun W hW => by
      have h1 := HX.out.below hW (by have := HX.out.lt; rw [HSZ.out] at this; exact this)
      exact ⟨h1.cell 0 rfl, h1.cell 1 rfl, h1.cell 2 rfl, h1.cell 3 rfl, h1.cell 4 rfl⟩)
    have HLE := Lib.hid (show b + 1 ≤ w2.heap.size from by have := HBY2.out.size; rw [HSZ.out] at this; exact this)
    obtain ⟨c0, c1, c2, c3, c4⟩ := HS.out _ HBY2.out
    cases z2 with
    | true =>
      have HN := Lib.hid (show res = 9 from HL.out)
      go_wp2_with fail
      refine (HC2.out _ HB2.out).mono ?_
      rintro e w3 ⟨rfl, h3⟩
      have HB3 := Lib.hid (HB2.out.trans (h3.mono HB2.out.size))
      clear h3 c0 c1 c2 c3 c4
      go_wp2_with fail
      go_ret
      exact ⟨by rw [HN.out]; first | rfl | simp, by first | exact HB3.out | (rw [← HBE.out]; exact HB3.out)⟩
    | false =>
      go_wp2_with fail
      refine (HC2.out _ HB2.out).mono ?_
      rintro e w3 ⟨rfl, h3⟩
      have HBY3 := Lib.hid (HBY2.out.trans (h3.mono HLE.out))
      clear h3 c0 c1 c2 c3 c4
      go_wp2_with fail
      have HBX0 := Lib.hid (Below.drew HBY3.out)
      have HLE3 := Lib.hid (show b + 1 ≤ w3.heap.size from by have := HBY3.out.size; rw [HSZ.out] at this; exact this)
      have HS0 := Lib.hid (HS.out _ HBX0.out)
      go_region_held3 (fun W => W.cell? ⟨b, 0, none⟩ = some (.int .i64 k0) ∧ W.cell? ⟨b, 1, none⟩ = some (.int .i64 m0) ∧ W.cell? ⟨b, 2, none⟩ = some (.string s0) ∧ W.cell? ⟨b, 3, none⟩ = some (.slice nm0.a nm0.n nm0.cap) ∧ W.cell? ⟨b, 4, none⟩ = some (.slice a0 n0 cap0)) (first | with_reducible exact HS2.out | with_reducible exact HS1.out | with_reducible exact HS0.out) (first
        | (go_at_call 34; (with_reducible refine (HR.out _).mono ?_); rintro e w4 ⟨rfl, h4⟩; have HBX1 := Lib.hid (HBX0.out.trans (h4.mono (by have h := HBX0.out.size; rw [HSZ.out] at h; exact h))); have HS1 := Lib.hid (HS.out _ HBX1.out); clear h4)
        | (go_at_call 44; (with_reducible refine (HHAS.out _ (HB.out.trans (HBX1.out.mono HSZW.out))).mono ?_); rintro e w5 ⟨rfl, h5⟩; have HBX2 := Lib.hid (HBX1.out.trans (h5.mono (by have h := HBX1.out.size; rw [HSZ.out] at h; exact h))); have HS2 := Lib.hid (HS.out _ HBX2.out); clear h5))
      cases z3 with
      | true =>
        have HN := Lib.hid (show res = 0 from HL.out)
        go_wp2_with fail
        go_ret
        exact ⟨by rw [HN.out]; first | rfl | simp, by first | exact HB.out.trans (HBX2.out.mono HSZW.out) | (rw [← HBE.out]; exact HB.out.trans (HBX2.out.mono HSZW.out))⟩
      | false =>
        have HN := Lib.hid (show res = 4 from HL.out)
        go_wp2_with fail
        go_ret
        exact ⟨by rw [HN.out]; first | rfl | simp, by first | exact HB.out.trans (HBX2.out.mono HSZW.out) | (rw [← HBE.out]; exact HB.out.trans (HBX2.out.mono HSZW.out))⟩
end Go.Proofs.YtjhecpkdpomkmaaGreat
