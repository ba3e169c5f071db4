/-
  A bundle of texts, one behind the other: MbB1.
-/
import Derived.Test.YtjhecpkdpomkmaaGreatQMA
import Derived.Test.YtjhecpkdpomkmaaGreatQN
namespace Go.Proofs.YtjhecpkdpomkmaaGreat
open Go.RowKit
set_option linter.unusedVariables false
set_option linter.unusedSimpArgs false
set_option maxRecDepth 100000

set_option maxHeartbeats 8000000 in
theorem everyV_ok (B : Nat) (w : World) (a : Option Addr) (n cap : Nat) (ch : Nat → VT) (fn : FuncId) (first lb : Array Value) (p : Nat → Bool) (hen0 : Enters Tryz.prog fn)
    (hB : B ≤ w.heap.size) (hd : RowAt B w a n cap 5 (fun i => (ch i).cells)) (hin : ∀ i, i < n → VIn B w (ch i)) (hp : PredN w fn first lb n (fun i => .agg (ch i).cells.toArray) p) :
    Calls Tryz.prog 74 #[.slice a n cap, .func (.func fn) first lb] w fun e w' => e = .returned (.bool (allN p n)) ∧ Below w.heap.size w w' := by
  have hen : ∀ (args : Array Value) (w : World), (callFunc fn args).run Tryz.prog w = .ok (.enter fn args) w := hen0
  have HROW := Lib.hid hd
  have HIN := Lib.hid (fun i (hi : i < n) => one_vcells (hin i hi))
  have HP := Lib.hid hp
  have HBB := Lib.hid hB
  have hn : n ≤ 9223372036854775807 := by have := hd.1; have := hd.2.1; omega
  have HB0 := Lib.hid (Below.refl w.heap.size w)
  have HIX := Lib.hid (fun i (hi : i < n) => vRow_range HROW.out hi)
  obtain ⟨res, hr⟩ : ∃ r, allN p n = r := ⟨_, rfl⟩
  have HL := Lib.hid hr
  rw [hr]
  clear hp hB hd hin HROW hr
  go_enter Tryz.func74, Tryz.ntmps74
  go_wp2_with fail
  go_loopw [9] (fun iv wr => RelHc w n p iv wr) (fun iv _ => n - (Lib.intOf iv).toNat)
  case atStart => exact ⟨0, Nat.zero_le _, rfl, rfl, HB0.out⟩
  case round =>
    obtain ⟨i, hi, rfl, hall, hbel⟩ := hrel
    have HB := Lib.hid hbel
    have HA := Lib.hid hall
    clear hbel hall
    by_cases hlt : i < n
    · have q1 : decide ((i : Int) < (n : Int)) = true := decide_eq_true (by omega)
      have q1n : decide (i < n) = true := decide_eq_true hlt
      obtain ⟨gx, ox, hix, hgx, hrd⟩ := HIX.out i hlt
      have HR := Lib.hid (hrd wr (HB.out.block gx (by have := HBB.out; omega)))
      have HC := Lib.hid (show ∀ w', Below w.heap.size w w' → Calls Tryz.prog fn (first ++ #[.agg (ch i).cells.toArray] ++ lb) w' fun e w'' => e = .returned (.bool (p i)) ∧ Below w'.heap.size w' w'' from HP.out i hlt)
      have H1 := Lib.hid (HIN.out i hlt)
      have HSU := Lib.hid (fun h => allN_succ (f := p) (n := i) HA.out h)
      have HFA := Lib.hid (fun h => allN_no (f := p) hlt h)
      generalize (ch i).cells = cs at *
      generalize p i = pk at *
      have HX := Lib.hid (Bx.new wr cs.toArray 26)
      have HBA := Lib.hid (HB.out.alloc HB.out.size (.cells cs.toArray 26))
      clear hrd
      have q3 : IntKind.i64.wrap ((i : Int) + 1) = ((i + 1 : Nat) : Int) := wrap_succ hlt hn
      go_wp2_with (first
        | (refine wpList_load_mid rfl 26 (.tmp 11) rfl gx ox rfl cs _ HR.out Tryz.underlying26 rfl (by rw [info_V, H1.out.1]) ?_)
        | (refine wpList_store_new rfl 26 (.tmp 6) (.tmp 12) rfl 5 _ cs H1.out.1 (by rfl) info_V H1.out.2 rfl rfl ?_)
        | (refine wpList_load_mid rfl 26 (.tmp 6) rfl wr.heap.size 0 rfl cs _ HX.out.range Tryz.underlying26 rfl (by rw [info_V, H1.out.1]) ?_))
      refine (HC.out _ HBA.out).mono ?_
      rintro e w1 ⟨rfl, hb⟩
      have HB1 := Lib.hid (HBA.out.trans (hb.mono HBA.out.size))
      clear hb HX HR HC
      cases pk with
      | true =>
        have HN := Lib.hid (HSU.out rfl)
        go_wp2_with fail
        go_roundw
        case rel => exact ⟨i + 1, hlt, rfl, HN.out, HB1.out⟩
        case measure => simp only [Lib.intOf]; omega
      | false =>
        have HN := Lib.hid (show res = false from by rw [← HL.out]; exact HFA.out rfl)
        go_wp2_with fail
        go_ret
        exact ⟨by rw [HN.out]; rfl, HB1.out⟩
    · have q1 : decide ((i : Int) < (n : Int)) = false := decide_eq_false (by omega)
      have q1n : decide (i < n) = false := decide_eq_false hlt
      obtain rfl : i = n := by omega
      have HN := Lib.hid (show res = true from by rw [← HL.out, HA.out])
      go_wp2_with fail
      go_ret
      exact ⟨by rw [HN.out]; rfl, HB.out⟩
theorem vin_mk {B : Nat} {W : World} {x : VT} (h : VIn B W x) : ∃ k m s nm a n cap ch, x = .mk k m s nm a n cap ch := by
  cases x with
  | nil => exact h.elim
  | mk k m s nm a n cap ch => exact ⟨k, m, s, nm, a, n, cap, ch, rfl⟩
theorem list5 (k m : Int) (s : ByteArray) (nm : SL) (a : Option Addr) (n cap : Nat) (ch : Nat → VT) : (VT.mk k m s nm a n cap ch).cells = [.int .i64 k, .int .i64 m, .string s, .slice nm.a nm.n nm.cap, .slice a n cap] := rfl
def hasAltB (d : TB) (i : Nat) (s : ByteArray) (n : Nat) (ch : Nat → VT) : Bool := decide ((d.f i).fnd s < (d.f i).count) && (decide (n = 1) && (ch 0).has d ((d.f i).part ((d.f i).fnd s)).t.toNat)
set_option maxHeartbeats 16000000 in
theorem hasAlt_ok (B : Nat) (w : World) (g x o : Nat) (d : TB) (i : Nat) (k m : Int) (s : ByteArray) (nm : SL) (a : Option Addr) (n cap : Nat) (ch : Nat → VT) (hR : RAt B w g x o d i) (hB : B ≤ w.heap.size) (hrow : RightRow (d.f i) d.n)
    (hx : VIn B w (.mk k m s nm a n cap ch))
    (hrec : 0 < n → ∀ t, t < d.n → ∀ W, Below w.heap.size w W → Calls Tryz.prog 44 #[rV g (o + t * 12) o d.n d.cap, .agg (ch 0).cells.toArray] W fun e w' => e = .returned (.bool ((ch 0).has d t)) ∧ Below W.heap.size W w') :
    Calls Tryz.prog 75 #[rV g x o d.n d.cap, .agg (VT.mk k m s nm a n cap ch).cells.toArray] w fun e w' => e = .returned (.bool (hasAltB d i s n ch)) ∧ Below w.heap.size w w' := by
  have hb0 := (Below.refl w.heap.size w).alloc (Nat.le_refl _) (.cells #[.pointer (some ⟨g, x, none⟩), .slice (some ⟨g, o, none⟩) d.n d.cap] 72)
  have hb1 := hb0.alloc hb0.size (.cells #[.int .i64 k, .int .i64 m, .string s, .slice nm.a nm.n nm.cap, .slice a n cap] 26)
  have hNM := named_ok w.heap.size ((w.alloc (.cells #[.pointer (some ⟨g, x, none⟩), .slice (some ⟨g, o, none⟩) d.n d.cap] 72)).alloc (.cells #[.int .i64 k, .int .i64 m, .string s, .slice nm.a nm.n nm.cap, .slice a n cap] 26)) g x o d i s ((hR.below (Below.refl _ _) hB).below hb1 (Nat.le_refl _)) hb1.size
  have hxa := (Bx.new w #[.pointer (some ⟨g, x, none⟩), .slice (some ⟨g, o, none⟩) d.n d.cap] 72).alloc (.cells #[.int .i64 k, .int .i64 m, .string s, .slice nm.a nm.n nm.cap, .slice a n cap] 26)
  have hxb := Bx.new (w.alloc (.cells #[.pointer (some ⟨g, x, none⟩), .slice (some ⟨g, o, none⟩) d.n d.cap] 72)) #[.int .i64 k, .int .i64 m, .string s, .slice nm.a nm.n nm.cap, .slice a n cap] 26
  rw [World.size_alloc] at hxb
  have HREC := Lib.hid hrec
  have HEL := Lib.hid (show 0 < n → ∃ gx ox : Nat, (∀ w, (Instr.indexAt 24 (.slice a n cap) (.int .i64 0)).run Tryz.prog w = .ok (.pointer (some ⟨gx, ox, none⟩)) w) ∧ ∀ W, Below w.heap.size w W → W.rangeAt gx ox (ch 0).cells from fun h0 => by
    obtain ⟨gx, ox, h1, h2, h3⟩ := vRow_range hx.2.1 h0
    exact ⟨gx, ox, h1, fun W hW => h3 W (hW.block gx (Nat.lt_of_lt_of_le h2 hB))⟩)
  have HONE := Lib.hid (fun (h0 : 0 < n) => vin_mk (hx.2.2 0 h0))
  have HOF := Lib.hid (fun (W : World) (p : FT) (j : Nat) (hj : p.t = (j : Int)) (hjn : j < d.n) => of_ok W g x o d.n d.cap j p hj hjn)
  rw [list5]
  unfold rV at hNM HREC HOF ⊢
  have HNM := Lib.hid hNM
  have HXA := Lib.hid hxa
  have HXB := Lib.hid hxb
  have HB1 := Lib.hid hb1
  have p0 := hxa.cell 0 (v := .pointer (some ⟨g, x, none⟩)) rfl
  have p1 := hxa.cell 1 (v := .slice (some ⟨g, o, none⟩) d.n d.cap) rfl
  have v2 := hxb.cell 2 (v := .string s) rfl
  have HL := Lib.hid (show hasAltB d i s n ch = (decide ((d.f i).fnd s < (d.f i).count) && (decide (n = 1) && (ch 0).has d ((d.f i).part ((d.f i).fnd s)).t.toNat)) from rfl)
  have HPT := Lib.hid (show (d.f i).fnd s < (d.f i).count → (d.f i).fld s = ((d.f i).part ((d.f i).fnd s)).cells ∧ ∃ j : Nat, ((d.f i).part ((d.f i).fnd s)).t = (j : Int) ∧ j < d.n from fun h => by
    have := FT.ok_t (hrow.part h).2
    exact ⟨if_pos h, ((d.f i).part ((d.f i).fnd s)).t.toNat, by omega, this.2⟩)
  have HPF := Lib.hid (show ¬ (d.f i).fnd s < (d.f i).count → (d.f i).fld s = zF from fun h => if_neg h)
  generalize (d.f i).part ((d.f i).fnd s) = pt at *
  generalize hasAltB d i s n ch = res at *
  clear hb0 hb1 hNM hxa hxb hrec hR hB hx hrow
  by_cases hf : (d.f i).fnd s < (d.f i).count
  · obtain ⟨hfl, j, hj, hjn⟩ := HPT.out hf
    rw [hfl, list4, decide_eq_true hf] at HNM
    rw [decide_eq_true hf, Bool.true_and] at HL
    have HO2 := Lib.hid (fun W => HOF.out W pt j hj hjn)
    rw [list4] at HO2
    have HJT := Lib.hid (show pt.t.toNat = j by omega)
    rw [HJT.out] at HL
    generalize pt.name = pn at *
    generalize pt.t = ptt at *
    generalize pt.opt = po at *
    generalize pt.d.a = pda at *
    generalize pt.d.n = pdn at *
    generalize pt.d.cap = pdc at *
    clear hfl hf HPT HPF HOF HJT
    obtain rfl : ptt = (j : Int) := hj
    go_enter Tryz.func75, Tryz.ntmps75
    go_wp2_with fail
    refine HNM.out.mono ?_
    generalize (w.alloc (.cells #[.pointer (some ⟨g, x, none⟩), .slice (some ⟨g, o, none⟩) d.n d.cap] 72)).alloc (.cells #[.int .i64 k, .int .i64 m, .string s, .slice nm.a nm.n nm.cap, .slice a n cap] 26) = W1 at *
    rintro e w2 ⟨rfl, h2⟩
    have HB2 := Lib.hid ((HB1.out.trans (h2.mono HB1.out.size)).alloc (Nat.le_trans HB1.out.size h2.size) (.cells #[.string pn, .int .i64 (j : Nat), .bool po, .slice pda pdn pdc] 48))
    have HXA2 := Lib.hid ((HXA.out.below h2 HXA.out.lt).alloc (.cells #[.string pn, .int .i64 (j : Nat), .bool po, .slice pda pdn pdc] 48))
    have HXB2 := Lib.hid ((HXB.out.below h2 HXB.out.lt).alloc (.cells #[.string pn, .int .i64 (j : Nat), .bool po, .slice pda pdn pdc] 48))
    have HXC2 := Lib.hid (Bx.new w2 #[.string pn, .int .i64 (j : Nat), .bool po, .slice pda pdn pdc] 48)
    clear h2 p0 p1 v2 HNM HXA HXB HB1
    obtain ⟨b, hb⟩ : ∃ b, w.heap.size = b := ⟨_, rfl⟩
    have HBE := Lib.hid hb
    rw [hb] at HXA2 HXB2 ⊢
    clear hb
    have HS := Lib.hid (show ∀ W, Below (w2.heap.size + 1) (w2.alloc (.cells #[.string pn, .int .i64 (j : Nat), .bool po, .slice pda pdn pdc] 48)) W → (W.cell? ⟨b, 0, none⟩ = some (.pointer (some ⟨g, x, none⟩)) ∧ W.cell? ⟨b, 1, none⟩ = some (.slice (some ⟨g, o, none⟩) d.n d.cap) ∧ W.cell? ⟨b + 1, 4, none⟩ = some (.slice a n cap) ∧ W.cell? ⟨w2.heap.size, 0, none⟩ = some (.string pn) ∧ W.cell? ⟨w2.heap.size, 1, none⟩ = some (.int .i64 (j : Nat)) ∧ W.cell? ⟨w2.heap.size, 2, none⟩ = some (.bool po) ∧ W.cell? ⟨w2.heap.size, 3, none⟩ = some (.slice pda pdn pdc)) from fun W hW => by
      have h1 := HXA2.out.below hW (by have := HXA2.out.lt; rw [World.size_alloc] at this; exact this)
      have h2 := HXB2.out.below hW (by have := HXB2.out.lt; rw [World.size_alloc] at this; exact this)
      have h3 := HXC2.out.below hW (by have := HXC2.out.lt; rw [World.size_alloc] at this; exact this)
      exact ⟨h1.cell 0 rfl, h1.cell 1 rfl, h2.cell 4 rfl, h3.cell 0 rfl, h3.cell 1 rfl, h3.cell 2 rfl, h3.cell 3 rfl⟩)
    go_upto_region 2 with (refine wpList_store_new rfl 48 (.tmp 5) (.tmp 12) rfl 4 _ [.string pn, .int .i64 (j : Nat), .bool po, .slice pda pdn pdc] rfl rfl (by kernel_rfl) (by simp [Value.oneCell']) rfl rfl ?_)
    by_cases hn1 : n = 1
    · subst hn1
      obtain ⟨gx, ox, hix, hcel⟩ := HEL.out Nat.zero_lt_one
      have HRC := Lib.hid (HREC.out Nat.zero_lt_one j hjn)
      rw [decide_eq_true rfl, Bool.true_and] at HL
      obtain ⟨k0, m0, s0, nm0, a0, n0, cap0, c0, hv0⟩ := HONE.out Nat.zero_lt_one
      rw [hv0] at hcel HRC HL
      clear HREC HEL HONE hv0
      rw [list5] at hcel HRC
      generalize (VT.mk k0 m0 s0 nm0 a0 n0 cap0 c0).has d j = z at *
      have HZ := Lib.hid (show res = z from HL.out)
      have HCE := Lib.hid (show ∀ W, Below w.heap.size w W → (W.cell? ⟨gx, ox, none⟩ = some (.int .i64 k0) ∧ W.cell? ⟨gx, ox + 1, none⟩ = some (.int .i64 m0) ∧ W.cell? ⟨gx, ox + 2, none⟩ = some (.string s0) ∧ W.cell? ⟨gx, ox + 3, none⟩ = some (.slice nm0.a nm0.n nm0.cap) ∧ W.cell? ⟨gx, ox + 4, none⟩ = some (.slice a0 n0 cap0)) from fun W hW => ⟨hcel W hW 0 _ rfl, hcel W hW 1 _ rfl, hcel W hW 2 _ rfl, hcel W hW 3 _ rfl, hcel W hW 4 _ rfl⟩)
      clear hcel HL
      have HSZ3 := Lib.hid (show w.heap.size ≤ w2.heap.size + 1 from by have := HB2.out.size; rw [World.size_alloc] at this; exact this)
      have HS3 := Lib.hid (show (w2.alloc (.cells #[.string pn, .int .i64 (j : Nat), .bool po, .slice pda pdn pdc] 48)).heap.size = w2.heap.size + 1 from World.size_alloc ..)
      generalize w2.alloc (.cells #[.string pn, .int .i64 (j : Nat), .bool po, .slice pda pdn pdc] 48) = W3 at *
      obtain ⟨b2, hb2⟩ : ∃ b2, w2.heap.size = b2 := ⟨_, rfl⟩
      rw [hb2] at HS HSZ3 HS3 ⊢
      have HBA := Lib.hid HB2.out
      clear hb2
      have HS2 := Lib.hid (show ∀ W, Below (b2 + 1) W3 W → (W.cell? ⟨b, 0, none⟩ = some (.pointer (some ⟨g, x, none⟩)) ∧ W.cell? ⟨b, 1, none⟩ = some (.slice (some ⟨g, o, none⟩) d.n d.cap) ∧ W.cell? ⟨b + 1, 4, none⟩ = some (.slice a 1 cap) ∧ W.cell? ⟨b2, 0, none⟩ = some (.string pn) ∧ W.cell? ⟨b2, 1, none⟩ = some (.int .i64 (j : Nat)) ∧ W.cell? ⟨b2, 2, none⟩ = some (.bool po) ∧ W.cell? ⟨b2, 3, none⟩ = some (.slice pda pdn pdc) ∧ W.cell? ⟨gx, ox, none⟩ = some (.int .i64 k0) ∧ W.cell? ⟨gx, ox + 1, none⟩ = some (.int .i64 m0) ∧ W.cell? ⟨gx, ox + 2, none⟩ = some (.string s0) ∧ W.cell? ⟨gx, ox + 3, none⟩ = some (.slice nm0.a nm0.n nm0.cap) ∧ W.cell? ⟨gx, ox + 4, none⟩ = some (.slice a0 n0 cap0)) from fun W hW => by
        obtain ⟨a1, a2, a3, a4, a5, a6, a7⟩ := HS.out W hW
        have hbw : Below w.heap.size w W := HB2.out.trans (hW.mono HSZ3.out)
        obtain ⟨e1, e2, e3, e4, e5⟩ := HCE.out W hbw
        exact ⟨a1, a2, a3, a4, a5, a6, a7, e1, e2, e3, e4, e5⟩)
      have HBX0 := Lib.hid (Below.drew (Below.refl (b2 + 1) W3))
      have HS0 := Lib.hid (HS2.out _ HBX0.out)
      clear HS HCE HXA2 HXB2 HXC2
      go_region_held3 (fun W => W.cell? ⟨b, 0, none⟩ = some (.pointer (some ⟨g, x, none⟩)) ∧ W.cell? ⟨b, 1, none⟩ = some (.slice (some ⟨g, o, none⟩) d.n d.cap) ∧ W.cell? ⟨b + 1, 4, none⟩ = some (.slice a 1 cap) ∧ W.cell? ⟨b2, 0, none⟩ = some (.string pn) ∧ W.cell? ⟨b2, 1, none⟩ = some (.int .i64 (j : Nat)) ∧ W.cell? ⟨b2, 2, none⟩ = some (.bool po) ∧ W.cell? ⟨b2, 3, none⟩ = some (.slice pda pdn pdc) ∧ W.cell? ⟨gx, ox, none⟩ = some (.int .i64 k0) ∧ W.cell? ⟨gx, ox + 1, none⟩ = some (.int .i64 m0) ∧ W.cell? ⟨gx, ox + 2, none⟩ = some (.string s0) ∧ W.cell? ⟨gx, ox + 3, none⟩ = some (.slice nm0.a nm0.n nm0.cap) ∧ W.cell? ⟨gx, ox + 4, none⟩ = some (.slice a0 n0 cap0)) (first | with_reducible exact HS2'.out | with_reducible exact HS1.out | with_reducible exact HS0.out) (first
        | (go_at_call 54; (with_reducible refine (HO2.out _).mono ?_); rintro e w3 ⟨rfl, h3⟩; have HBX1 := Lib.hid (HBX0.out.trans (h3.mono (by have h := HBX0.out.size; rw [HS3.out] at h; exact h))); have HS1 := Lib.hid (HS2.out _ HBX1.out); clear h3)
        | (go_at_call 44; (with_reducible refine (HRC.out _ (HBA.out.trans (HBX1.out.mono HSZ3.out))).mono ?_); rintro e w4 ⟨rfl, h4⟩; have HBX2 := Lib.hid (HBX1.out.trans (h4.mono (by have h := HBX1.out.size; rw [HS3.out] at h; exact h))); have HS2' := Lib.hid (HS2.out _ HBX2.out); clear h4))
      go_wp2_with fail
      go_ret
      exact ⟨by rw [HZ.out]; first | rfl | simp, HBA.out.trans (HBX2.out.mono HSZ3.out)⟩
    · have q1 : ((n : Int) == 1) = false := beq_eq_false_iff_ne.2 (by omega)
      have q1n : decide (n = 1) = false := decide_eq_false hn1
      have HZ := Lib.hid (show res = false from by rw [HL.out, q1n]; rfl)
      obtain ⟨a1, a2, a3, a4, a5, a6, a7⟩ := HS.out _ (Below.refl _ _)
      clear HREC HEL HONE HS HXA2 HXB2 HXC2 HL
      go_quiet (fail)
      go_wp2_with fail
      go_ret
      exact ⟨by rw [HZ.out]; first | rfl | simp, below_drewM HB2.out _⟩
  · rw [HPF.out hf, decide_eq_false hf] at HNM
    rw [decide_eq_false hf] at HL
    have HZ := Lib.hid (show res = false from by rw [HL.out]; rfl)
    clear HPT HPF HL HREC HEL HONE HOF hf
    go_enter Tryz.func75, Tryz.ntmps75
    go_wp2_with fail
    refine HNM.out.mono ?_
    generalize (w.alloc (.cells #[.pointer (some ⟨g, x, none⟩), .slice (some ⟨g, o, none⟩) d.n d.cap] 72)).alloc (.cells #[.int .i64 k, .int .i64 m, .string s, .slice nm.a nm.n nm.cap, .slice a n cap] 26) = W1 at *
    rintro e w2 ⟨rfl, h2⟩
    have HB2 := Lib.hid ((HB1.out.trans (h2.mono HB1.out.size)).alloc (Nat.le_trans HB1.out.size h2.size) (.cells #[.string ByteArray.empty, .int .i64 0, .bool false, .slice none 0 0] 48))
    clear h2 p0 p1 v2 HNM HXA HXB HB1
    go_upto_region 2 with (refine wpList_store_new rfl 48 (.tmp 5) (.tmp 12) rfl 4 _ [.string ByteArray.empty, .int .i64 0, .bool false, .slice none 0 0] rfl rfl (by kernel_rfl) (by simp [Value.oneCell']) rfl rfl ?_)
    go_quiet (fail)
    go_wp2_with fail
    go_ret
    exact ⟨by rw [HZ.out]; first | rfl | simp, below_drewM HB2.out _⟩
end Go.Proofs.YtjhecpkdpomkmaaGreat
