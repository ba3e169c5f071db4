/-
  Package bounds: 'Of'; the document's 'Of', 'Size'.
-/
import Derived.Test.YtfnpjdglfaaegaaBdY
import Derived.Test.YtfnpjdglfaaegaaShEv
namespace Go.Proofs.Ytfnpjdglfaaegaa
open Go.RowKit Go.Shelf
set_option linter.unusedVariables false
set_option linter.unusedSimpArgs false
set_option maxRecDepth 100000

def TT.knd : TT → Int
  | .nil => 0
  | .mk kind .. => kind
def TT.cn : TT → CT
  | .nil => .nil
  | .mk _ _ con .. => con
def isSz (k : Int) : Bool := k == 5 || k == 6 || k == 7 || k == 9
def ofB (t : TT) : Bool := t.knd == 2 || isSz t.knd
def ofP (t : TT) (x : Int) : Prop := if t.knd = 2 then adm t.cn 40 x = true else if isSz t.knd = true then 0 ≤ x ∧ adm t.cn 40 x = true else False
theorem Ans.cast {w : World} {v : Value} {p q : Int → Prop} {K L : Nat} {r : List Rg} (h : Ans w v p K r) (hpq : ∀ n, I64 n → (p n ↔ q n)) (hK : K ≤ L) : Ans w v q L r :=
  ⟨h.1, ⟨h.2.1.1, h.2.1.2.1, fun n hn => (h.2.1.2.2 n hn).trans (hpq n hn)⟩, Nat.le_trans h.2.2 hK⟩
set_option maxHeartbeats 1000000 in
theorem rSize_ok (w : World) : Calls Try.prog 21 #[] w fun e w' => ∃ v', e = .returned v' ∧ RSl w' v' sizeL ∧ Below w.heap.size w w' := by
  have HR := Lib.hid (rsl_lit w sizeL sizeL_bd #[.int .i64 0, .int .i64 9223372036854775807] rfl 1 rfl)
  have HB := Lib.hid ((Below.refl w.heap.size w).alloc (Nat.le_refl _) (.cells #[.int .i64 0, .int .i64 9223372036854775807] 51))
  go_enter Try.func21, Try.ntmps21
  go_wp2_with fail
  go_ret
  exact ⟨_, rfl, HR.out, HB.out⟩
/-- the cells of a type that tell its kind and its constraint -/
theorem tcells_con {B : Nat} {W : World} {t : TT} (h : TIn B W t) : ∃ op lo hi lw hg ca cn cc cch, t.cn = CT.mk op lo hi lw hg ca cn cc cch ∧ CIn B W t.cn ∧
    t.cells[0]? = some (.int .i64 t.knd) ∧ t.cells[2]? = some (.int .i64 op) ∧ t.cells[3]? = some (.int .i64 lo) ∧ t.cells[4]? = some (.int .i64 hi) ∧ t.cells[5]? = some (.bool lw) ∧ t.cells[6]? = some (.bool hg) ∧ t.cells[7]? = some (.slice ca cn cc) := by
  obtain ⟨kd', tn', op', lo', hi', lw', hg', ca', cn', cc', cch', ext', fr', sa', sn', sc', sf', ma', mn', mc', mf', pa', pn', pc', pf', ptf', aa', an', ac', af', atf', ea', en', ec', etf', rfl⟩ := h.open
  exact ⟨op', lo', hi', lw', hg', ca', cn', cc', cch', rfl, h.1.2.2.1, rfl, rfl, rfl, rfl, rfl, rfl, rfl⟩
set_option maxHeartbeats 8000000 in
theorem Of_ok (t : TT) (B : Nat) (w : World) (ht : TIn B w t) (hB : B ≤ w.heap.size) (hsz : 2 * t.cn.sz ≤ 200) :
    Calls Try.prog 14 #[.agg t.cells.toArray] w fun e w' => ∃ v r, e = .returned (.tuple #[v, .bool (ofB t)]) ∧ Ans w' v (ofP t) 10000 r ∧ Below w.heap.size w w' := by
  obtain ⟨op, lo, hi, lw, hg, ca, cn, cc, cch, hcn, hci, e0, e2, e3, e4, e5, e6, e7⟩ := tcells_con ht
  have HCN := Lib.hid hcn
  have HCI := Lib.hid (show CIn w.heap.size w t.cn from hci.below (Below.refl _ _) hB)
  have hbx := Bx.new w t.cells.toArray 35
  have HX := Lib.hid hbx
  have hB0 := (Below.refl w.heap.size w).alloc (Nat.le_refl _) (.cells t.cells.toArray 35)
  have HB0 := Lib.hid hB0
  obtain ⟨kd, hkd⟩ : ∃ kd, t.knd = kd := ⟨_, rfl⟩
  have HKD := Lib.hid hkd
  have k0 := hbx.cell 0 (v := .int .i64 kd) (by rw [← hkd]; simpa using e0)
  have HS := Lib.hid (show ∀ w', Below (w.alloc (.cells t.cells.toArray 35)).heap.size (w.alloc (.cells t.cells.toArray 35)) w' → (w'.cell? ⟨w.heap.size, 2, none⟩ = some (.int .i64 op) ∧ w'.cell? ⟨w.heap.size, 3, none⟩ = some (.int .i64 lo) ∧ w'.cell? ⟨w.heap.size, 4, none⟩ = some (.int .i64 hi) ∧ w'.cell? ⟨w.heap.size, 5, none⟩ = some (.bool lw) ∧ w'.cell? ⟨w.heap.size, 6, none⟩ = some (.bool hg) ∧ w'.cell? ⟨w.heap.size, 7, none⟩ = some (.slice ca cn cc)) from fun w' hb =>
    have h := hbx.below hb hbx.lt
    ⟨h.cell 2 (by simpa using e2), h.cell 3 (by simpa using e3), h.cell 4 (by simpa using e4), h.cell 5 (by simpa using e5), h.cell 6 (by simpa using e6), h.cell 7 (by simpa using e7)⟩)
  have hcx := fun (w' : World) (vp : Value) (Q : List Rg) (hb : Below w.heap.size w w') (hp : RSl w' vp Q) (hl : Q.length ≤ 10) => Set_ok t.cn w.heap.size w' vp Q (HCI.out.below hb (Nat.le_refl _)) hb.size hp (by omega) (by omega)
  rw [show t.cn.v = .agg #[.int .i64 op, .int .i64 lo, .int .i64 hi, .bool lw, .bool hg, .slice ca cn cc] from by rw [hcn]; rfl] at hcx
  have HSET := Lib.hid hcx
  have HINT := Lib.hid (show kd = 2 → ∀ (w' : World) (v : Value) (r : List Rg) (K : Nat), K ≤ 10000 → Ans w' v (fun x => mem wholeL x ∧ adm t.cn 40 x = true) K r → Ans w' v (ofP t) 10000 r from fun h w' v r K hK ha => ha.cast (fun n hn => by
    unfold ofP
    rw [hkd, if_pos h, wholeL_says.2.2 n hn]
    simp) hK)
  have HSIZ := Lib.hid (show kd = 5 ∨ kd = 6 ∨ kd = 7 ∨ kd = 9 → ∀ (w' : World) (v : Value) (r : List Rg) (K : Nat), K ≤ 10000 → Ans w' v (fun x => mem sizeL x ∧ adm t.cn 40 x = true) K r → Ans w' v (ofP t) 10000 r from fun h w' v r K hK ha => ha.cast (fun n hn => by
    unfold ofP
    rw [hkd, if_neg (by omega), if_pos (by unfold isSz; rcases h with h | h | h | h <;> subst h <;> rfl), sizeL_mem n hn]) hK)
  have hob : ofB t = (kd == 2 || isSz kd) := by unfold ofB; rw [hkd]
  rw [hob]
  clear e0 e2 e3 e4 e5 e6 e7 ht hB hsz hcn hci hcx hkd hob hbx hB0
  by_cases h2 : kd = 2
  · subst h2
    rw [show ((2 : Int) == 2 || isSz 2) = true from rfl]
    go_enter Try.func14, Try.ntmps14
    go_wp2_with fail
    generalize w.alloc (.cells t.cells.toArray 35) = W at *
    clear k0
    have HBW := Lib.hid (Below.drew (Below.refl W.heap.size W))
    have HS0 := Lib.hid (HS.out _ HBW.out)
    go_region_held3 (fun w' => w'.cell? ⟨w.heap.size, 2, none⟩ = some (.int .i64 op) ∧ w'.cell? ⟨w.heap.size, 3, none⟩ = some (.int .i64 lo) ∧ w'.cell? ⟨w.heap.size, 4, none⟩ = some (.int .i64 hi) ∧ w'.cell? ⟨w.heap.size, 5, none⟩ = some (.bool lw) ∧ w'.cell? ⟨w.heap.size, 6, none⟩ = some (.bool hg) ∧ w'.cell? ⟨w.heap.size, 7, none⟩ = some (.slice ca cn cc)) (first | with_reducible exact HS2.out | with_reducible exact HS1.out | with_reducible exact HS0.out) (first
      | (go_at_call 28; (with_reducible refine (Whole_ok _).mono ?_); rintro e w1 ⟨vp, rfl, h1, h2⟩; have HBW1 := Lib.hid (HBW.out.trans (h2.mono HBW.out.size)); have HS1 := Lib.hid (HS.out _ HBW1.out); have HC1 := Lib.hid (HSET.out w1 vp wholeL (HB0.out.trans (HBW1.out.mono HB0.out.size)) h1 (by simp [wholeL])); clear h1 h2)
      | (go_at_call 11; (with_reducible refine HC1.out.mono ?_); rintro e w2 ⟨va, ra, rfl, h1, h2⟩; have HA := Lib.hid h1; have HBW2 := Lib.hid (HBW1.out.trans (h2.mono HBW1.out.size)); have HS2 := Lib.hid (HS.out _ HBW2.out); clear h1 h2))
    go_wp2_with fail
    go_ret2
    exact ⟨_, ra, rfl, HINT.out (by simp) _ _ _ _ (by decide) HA.out, HB0.out.trans (HBW2.out.mono HB0.out.size)⟩
  by_cases h5 : kd = 5
  · subst h5
    rw [show ((5 : Int) == 2 || isSz 5) = true from rfl]
    go_enter Try.func14, Try.ntmps14
    go_wp2_with fail
    generalize w.alloc (.cells t.cells.toArray 35) = W at *
    clear k0
    have HBW := Lib.hid (Below.drew (Below.refl W.heap.size W))
    have HS0 := Lib.hid (HS.out _ HBW.out)
    go_region_held3 (fun w' => w'.cell? ⟨w.heap.size, 2, none⟩ = some (.int .i64 op) ∧ w'.cell? ⟨w.heap.size, 3, none⟩ = some (.int .i64 lo) ∧ w'.cell? ⟨w.heap.size, 4, none⟩ = some (.int .i64 hi) ∧ w'.cell? ⟨w.heap.size, 5, none⟩ = some (.bool lw) ∧ w'.cell? ⟨w.heap.size, 6, none⟩ = some (.bool hg) ∧ w'.cell? ⟨w.heap.size, 7, none⟩ = some (.slice ca cn cc)) (first | with_reducible exact HS2.out | with_reducible exact HS1.out | with_reducible exact HS0.out) (first
      | (go_at_call 20; (with_reducible refine (Size_ok _).mono ?_); rintro e w1 ⟨vp, rfl, h1, h2⟩; have HBW1 := Lib.hid (HBW.out.trans (h2.mono HBW.out.size)); have HS1 := Lib.hid (HS.out _ HBW1.out); have HC1 := Lib.hid (HSET.out w1 vp sizeL (HB0.out.trans (HBW1.out.mono HB0.out.size)) h1 (by simp [sizeL])); clear h1 h2)
      | (go_at_call 11; (with_reducible refine HC1.out.mono ?_); rintro e w2 ⟨va, ra, rfl, h1, h2⟩; have HA := Lib.hid h1; have HBW2 := Lib.hid (HBW1.out.trans (h2.mono HBW1.out.size)); have HS2 := Lib.hid (HS.out _ HBW2.out); clear h1 h2))
    go_wp2_with fail
    go_ret2
    exact ⟨_, ra, rfl, HSIZ.out (by simp) _ _ _ _ (by decide) HA.out, HB0.out.trans (HBW2.out.mono HB0.out.size)⟩
  by_cases h6 : kd = 6
  · subst h6
    rw [show ((6 : Int) == 2 || isSz 6) = true from rfl]
    go_enter Try.func14, Try.ntmps14
    go_wp2_with fail
    generalize w.alloc (.cells t.cells.toArray 35) = W at *
    clear k0
    have HBW := Lib.hid (Below.drew (Below.refl W.heap.size W))
    have HS0 := Lib.hid (HS.out _ HBW.out)
    go_region_held3 (fun w' => w'.cell? ⟨w.heap.size, 2, none⟩ = some (.int .i64 op) ∧ w'.cell? ⟨w.heap.size, 3, none⟩ = some (.int .i64 lo) ∧ w'.cell? ⟨w.heap.size, 4, none⟩ = some (.int .i64 hi) ∧ w'.cell? ⟨w.heap.size, 5, none⟩ = some (.bool lw) ∧ w'.cell? ⟨w.heap.size, 6, none⟩ = some (.bool hg) ∧ w'.cell? ⟨w.heap.size, 7, none⟩ = some (.slice ca cn cc)) (first | with_reducible exact HS2.out | with_reducible exact HS1.out | with_reducible exact HS0.out) (first
      | (go_at_call 20; (with_reducible refine (Size_ok _).mono ?_); rintro e w1 ⟨vp, rfl, h1, h2⟩; have HBW1 := Lib.hid (HBW.out.trans (h2.mono HBW.out.size)); have HS1 := Lib.hid (HS.out _ HBW1.out); have HC1 := Lib.hid (HSET.out w1 vp sizeL (HB0.out.trans (HBW1.out.mono HB0.out.size)) h1 (by simp [sizeL])); clear h1 h2)
      | (go_at_call 11; (with_reducible refine HC1.out.mono ?_); rintro e w2 ⟨va, ra, rfl, h1, h2⟩; have HA := Lib.hid h1; have HBW2 := Lib.hid (HBW1.out.trans (h2.mono HBW1.out.size)); have HS2 := Lib.hid (HS.out _ HBW2.out); clear h1 h2))
    go_wp2_with fail
    go_ret2
    exact ⟨_, ra, rfl, HSIZ.out (by simp) _ _ _ _ (by decide) HA.out, HB0.out.trans (HBW2.out.mono HB0.out.size)⟩
  by_cases h7 : kd = 7
  · subst h7
    rw [show ((7 : Int) == 2 || isSz 7) = true from rfl]
    go_enter Try.func14, Try.ntmps14
    go_wp2_with fail
    generalize w.alloc (.cells t.cells.toArray 35) = W at *
    clear k0
    have HBW := Lib.hid (Below.drew (Below.refl W.heap.size W))
    have HS0 := Lib.hid (HS.out _ HBW.out)
    go_region_held3 (fun w' => w'.cell? ⟨w.heap.size, 2, none⟩ = some (.int .i64 op) ∧ w'.cell? ⟨w.heap.size, 3, none⟩ = some (.int .i64 lo) ∧ w'.cell? ⟨w.heap.size, 4, none⟩ = some (.int .i64 hi) ∧ w'.cell? ⟨w.heap.size, 5, none⟩ = some (.bool lw) ∧ w'.cell? ⟨w.heap.size, 6, none⟩ = some (.bool hg) ∧ w'.cell? ⟨w.heap.size, 7, none⟩ = some (.slice ca cn cc)) (first | with_reducible exact HS2.out | with_reducible exact HS1.out | with_reducible exact HS0.out) (first
      | (go_at_call 20; (with_reducible refine (Size_ok _).mono ?_); rintro e w1 ⟨vp, rfl, h1, h2⟩; have HBW1 := Lib.hid (HBW.out.trans (h2.mono HBW.out.size)); have HS1 := Lib.hid (HS.out _ HBW1.out); have HC1 := Lib.hid (HSET.out w1 vp sizeL (HB0.out.trans (HBW1.out.mono HB0.out.size)) h1 (by simp [sizeL])); clear h1 h2)
      | (go_at_call 11; (with_reducible refine HC1.out.mono ?_); rintro e w2 ⟨va, ra, rfl, h1, h2⟩; have HA := Lib.hid h1; have HBW2 := Lib.hid (HBW1.out.trans (h2.mono HBW1.out.size)); have HS2 := Lib.hid (HS.out _ HBW2.out); clear h1 h2))
    go_wp2_with fail
    go_ret2
    exact ⟨_, ra, rfl, HSIZ.out (by simp) _ _ _ _ (by decide) HA.out, HB0.out.trans (HBW2.out.mono HB0.out.size)⟩
  by_cases h9 : kd = 9
  · subst h9
    rw [show ((9 : Int) == 2 || isSz 9) = true from rfl]
    go_enter Try.func14, Try.ntmps14
    go_wp2_with fail
    generalize w.alloc (.cells t.cells.toArray 35) = W at *
    clear k0
    have HBW := Lib.hid (Below.drew (Below.refl W.heap.size W))
    have HS0 := Lib.hid (HS.out _ HBW.out)
    go_region_held3 (fun w' => w'.cell? ⟨w.heap.size, 2, none⟩ = some (.int .i64 op) ∧ w'.cell? ⟨w.heap.size, 3, none⟩ = some (.int .i64 lo) ∧ w'.cell? ⟨w.heap.size, 4, none⟩ = some (.int .i64 hi) ∧ w'.cell? ⟨w.heap.size, 5, none⟩ = some (.bool lw) ∧ w'.cell? ⟨w.heap.size, 6, none⟩ = some (.bool hg) ∧ w'.cell? ⟨w.heap.size, 7, none⟩ = some (.slice ca cn cc)) (first | with_reducible exact HS2.out | with_reducible exact HS1.out | with_reducible exact HS0.out) (first
      | (go_at_call 20; (with_reducible refine (Size_ok _).mono ?_); rintro e w1 ⟨vp, rfl, h1, h2⟩; have HBW1 := Lib.hid (HBW.out.trans (h2.mono HBW.out.size)); have HS1 := Lib.hid (HS.out _ HBW1.out); have HC1 := Lib.hid (HSET.out w1 vp sizeL (HB0.out.trans (HBW1.out.mono HB0.out.size)) h1 (by simp [sizeL])); clear h1 h2)
      | (go_at_call 11; (with_reducible refine HC1.out.mono ?_); rintro e w2 ⟨va, ra, rfl, h1, h2⟩; have HA := Lib.hid h1; have HBW2 := Lib.hid (HBW1.out.trans (h2.mono HBW1.out.size)); have HS2 := Lib.hid (HS.out _ HBW2.out); clear h1 h2))
    go_wp2_with fail
    go_ret2
    exact ⟨_, ra, rfl, HSIZ.out (by simp) _ _ _ _ (by decide) HA.out, HB0.out.trans (HBW2.out.mono HB0.out.size)⟩
  have z2 : (kd == 2) = false := beq_false_of_ne h2
  have z5 : (kd == 5) = false := beq_false_of_ne h5
  have z6 : (kd == 6) = false := beq_false_of_ne h6
  have z7 : (kd == 7) = false := beq_false_of_ne h7
  have z9 : (kd == 9) = false := beq_false_of_ne h9
  have hsz9 : isSz kd = false := by unfold isSz; rw [z5, z6, z7, z9]; rfl
  have HF := Lib.hid (show ∀ w', Ans w' (.slice none 0 0) (ofP t) 10000 [] from fun w' => ⟨RSl.nil w', ⟨rgt_nil, Bd.nil, fun n hn => by
    unfold ofP
    rw [HKD.out, if_neg h2, hsz9]
    simp [mem_nil]⟩, by simp⟩)
  rw [z2, hsz9, show (false || false) = false from rfl]
  clear h2 h5 h6 h7 h9 hsz9
  go_enter Try.func14, Try.ntmps14
  go_wp2_with fail
  go_ret2
  exact ⟨_, [], rfl, HF.out _, HB0.out⟩
set_option maxHeartbeats 8000000 in
theorem rOf_ok (t : TT) (B : Nat) (w : World) (ht : TIn B w t) (hB : B ≤ w.heap.size) (hsz : 2 * t.cn.sz ≤ 200) :
    Calls Try.prog 15 #[.agg t.cells.toArray] w fun e w' => ∃ v r, e = .returned (.tuple #[v, .bool (ofB t)]) ∧ Ans w' v (ofP t) 10000 r ∧ Below w.heap.size w w' := by
  obtain ⟨op, lo, hi, lw, hg, ca, cn, cc, cch, hcn, hci, e0, e2, e3, e4, e5, e6, e7⟩ := tcells_con ht
  have HCN := Lib.hid hcn
  have HCI := Lib.hid (show CIn w.heap.size w t.cn from hci.below (Below.refl _ _) hB)
  have hbx := Bx.new w t.cells.toArray 35
  have HX := Lib.hid hbx
  have hB0 := (Below.refl w.heap.size w).alloc (Nat.le_refl _) (.cells t.cells.toArray 35)
  have HB0 := Lib.hid hB0
  obtain ⟨kd, hkd⟩ : ∃ kd, t.knd = kd := ⟨_, rfl⟩
  have HKD := Lib.hid hkd
  have k0 := hbx.cell 0 (v := .int .i64 kd) (by rw [← hkd]; simpa using e0)
  have HS := Lib.hid (show ∀ w', Below (w.alloc (.cells t.cells.toArray 35)).heap.size (w.alloc (.cells t.cells.toArray 35)) w' → (w'.cell? ⟨w.heap.size, 2, none⟩ = some (.int .i64 op) ∧ w'.cell? ⟨w.heap.size, 3, none⟩ = some (.int .i64 lo) ∧ w'.cell? ⟨w.heap.size, 4, none⟩ = some (.int .i64 hi) ∧ w'.cell? ⟨w.heap.size, 5, none⟩ = some (.bool lw) ∧ w'.cell? ⟨w.heap.size, 6, none⟩ = some (.bool hg) ∧ w'.cell? ⟨w.heap.size, 7, none⟩ = some (.slice ca cn cc)) from fun w' hb =>
    have h := hbx.below hb hbx.lt
    ⟨h.cell 2 (by simpa using e2), h.cell 3 (by simpa using e3), h.cell 4 (by simpa using e4), h.cell 5 (by simpa using e5), h.cell 6 (by simpa using e6), h.cell 7 (by simpa using e7)⟩)
  have hcx := fun (w' : World) (vp : Value) (Q : List Rg) (hb : Below w.heap.size w w') (hp : RSl w' vp Q) (hl : Q.length ≤ 10) => rSet_ok t.cn w.heap.size w' vp Q (HCI.out.below hb (Nat.le_refl _)) hb.size hp (by omega) (by omega)
  rw [show t.cn.v = .agg #[.int .i64 op, .int .i64 lo, .int .i64 hi, .bool lw, .bool hg, .slice ca cn cc] from by rw [hcn]; rfl] at hcx
  have HSET := Lib.hid hcx
  have HINT := Lib.hid (show kd = 2 → ∀ (w' : World) (v : Value) (r : List Rg) (K : Nat), K ≤ 10000 → Ans w' v (fun x => mem wholeL x ∧ adm t.cn 40 x = true) K r → Ans w' v (ofP t) 10000 r from fun h w' v r K hK ha => ha.cast (fun n hn => by
    unfold ofP
    rw [hkd, if_pos h, wholeL_says.2.2 n hn]
    simp) hK)
  have HSIZ := Lib.hid (show kd = 5 ∨ kd = 6 ∨ kd = 7 ∨ kd = 9 → ∀ (w' : World) (v : Value) (r : List Rg) (K : Nat), K ≤ 10000 → Ans w' v (fun x => mem sizeL x ∧ adm t.cn 40 x = true) K r → Ans w' v (ofP t) 10000 r from fun h w' v r K hK ha => ha.cast (fun n hn => by
    unfold ofP
    rw [hkd, if_neg (by omega), if_pos (by unfold isSz; rcases h with h | h | h | h <;> subst h <;> rfl), sizeL_mem n hn]) hK)
  have hob : ofB t = (kd == 2 || isSz kd) := by unfold ofB; rw [hkd]
  rw [hob]
  clear e0 e2 e3 e4 e5 e6 e7 ht hB hsz hcn hci hcx hkd hob hbx hB0
  by_cases h2 : kd = 2
  · subst h2
    rw [show ((2 : Int) == 2 || isSz 2) = true from rfl]
    have hs1 := HS.out _ (Below.refl _ _)
    obtain ⟨c2, c3, c4, c5, c6, c7⟩ := hs1
    have HBL := Lib.hid (lit_below (w.alloc (.cells t.cells.toArray 35)) (.cells #[.int .i64 (-9223372036854775808), .int .i64 9223372036854775807] 51))
    have HBL2 := Lib.hid (HB0.out.trans (HBL.out.mono HB0.out.size))
    have hsz1 : (w.alloc (.cells t.cells.toArray 35)).heap.size = w.heap.size + 1 := by simp
    have hcl := HSET.out _ _ wholeL HBL2.out (rsl_lit (w.alloc (.cells t.cells.toArray 35)) wholeL wholeL_bd #[.int .i64 (-9223372036854775808), .int .i64 9223372036854775807] rfl 1 rfl) (by simp [wholeL])
    rw [hsz1] at hcl
    have HCL := Lib.hid hcl
    clear hcl hsz1
    go_enter Try.func15, Try.ntmps15
    go_wp2_with fail
    refine HCL.out.mono ?_
    rintro e w2 ⟨va, ra, rfl, h1, h2⟩
    have HA := Lib.hid h1
    have HB2 := Lib.hid (HBL2.out.trans (h2.mono HBL2.out.size))
    clear h1 h2 c2 c3 c4 c5 c6 c7
    go_wp2_with fail
    go_ret2
    exact ⟨_, ra, rfl, HINT.out (by simp) _ _ _ _ (by decide) HA.out, HB2.out⟩
  by_cases h5 : kd = 5
  · subst h5
    rw [show ((5 : Int) == 2 || isSz 5) = true from rfl]
    go_enter Try.func15, Try.ntmps15
    go_wp2_with fail
    generalize w.alloc (.cells t.cells.toArray 35) = W at *
    clear k0
    have HBW := Lib.hid (Below.drew (Below.refl W.heap.size W))
    have HS0 := Lib.hid (HS.out _ HBW.out)
    go_region_held3 (fun w' => w'.cell? ⟨w.heap.size, 2, none⟩ = some (.int .i64 op) ∧ w'.cell? ⟨w.heap.size, 3, none⟩ = some (.int .i64 lo) ∧ w'.cell? ⟨w.heap.size, 4, none⟩ = some (.int .i64 hi) ∧ w'.cell? ⟨w.heap.size, 5, none⟩ = some (.bool lw) ∧ w'.cell? ⟨w.heap.size, 6, none⟩ = some (.bool hg) ∧ w'.cell? ⟨w.heap.size, 7, none⟩ = some (.slice ca cn cc)) (first | with_reducible exact HS2.out | with_reducible exact HS1.out | with_reducible exact HS0.out) (first
      | (go_at_call 21; (with_reducible refine (rSize_ok _).mono ?_); rintro e w1 ⟨vp, rfl, h1, h2⟩; have HBW1 := Lib.hid (HBW.out.trans (h2.mono HBW.out.size)); have HS1 := Lib.hid (HS.out _ HBW1.out); have HC1 := Lib.hid (HSET.out w1 vp sizeL (HB0.out.trans (HBW1.out.mono HB0.out.size)) h1 (by simp [sizeL])); clear h1 h2)
      | (go_at_call 12; (with_reducible refine HC1.out.mono ?_); rintro e w2 ⟨va, ra, rfl, h1, h2⟩; have HA := Lib.hid h1; have HBW2 := Lib.hid (HBW1.out.trans (h2.mono HBW1.out.size)); have HS2 := Lib.hid (HS.out _ HBW2.out); clear h1 h2))
    go_wp2_with fail
    go_ret2
    exact ⟨_, ra, rfl, HSIZ.out (by simp) _ _ _ _ (by decide) HA.out, HB0.out.trans (HBW2.out.mono HB0.out.size)⟩
  by_cases h6 : kd = 6
  · subst h6
    rw [show ((6 : Int) == 2 || isSz 6) = true from rfl]
    go_enter Try.func15, Try.ntmps15
    go_wp2_with fail
    generalize w.alloc (.cells t.cells.toArray 35) = W at *
    clear k0
    have HBW := Lib.hid (Below.drew (Below.refl W.heap.size W))
    have HS0 := Lib.hid (HS.out _ HBW.out)
    go_region_held3 (fun w' => w'.cell? ⟨w.heap.size, 2, none⟩ = some (.int .i64 op) ∧ w'.cell? ⟨w.heap.size, 3, none⟩ = some (.int .i64 lo) ∧ w'.cell? ⟨w.heap.size, 4, none⟩ = some (.int .i64 hi) ∧ w'.cell? ⟨w.heap.size, 5, none⟩ = some (.bool lw) ∧ w'.cell? ⟨w.heap.size, 6, none⟩ = some (.bool hg) ∧ w'.cell? ⟨w.heap.size, 7, none⟩ = some (.slice ca cn cc)) (first | with_reducible exact HS2.out | with_reducible exact HS1.out | with_reducible exact HS0.out) (first
      | (go_at_call 21; (with_reducible refine (rSize_ok _).mono ?_); rintro e w1 ⟨vp, rfl, h1, h2⟩; have HBW1 := Lib.hid (HBW.out.trans (h2.mono HBW.out.size)); have HS1 := Lib.hid (HS.out _ HBW1.out); have HC1 := Lib.hid (HSET.out w1 vp sizeL (HB0.out.trans (HBW1.out.mono HB0.out.size)) h1 (by simp [sizeL])); clear h1 h2)
      | (go_at_call 12; (with_reducible refine HC1.out.mono ?_); rintro e w2 ⟨va, ra, rfl, h1, h2⟩; have HA := Lib.hid h1; have HBW2 := Lib.hid (HBW1.out.trans (h2.mono HBW1.out.size)); have HS2 := Lib.hid (HS.out _ HBW2.out); clear h1 h2))
    go_wp2_with fail
    go_ret2
    exact ⟨_, ra, rfl, HSIZ.out (by simp) _ _ _ _ (by decide) HA.out, HB0.out.trans (HBW2.out.mono HB0.out.size)⟩
  by_cases h7 : kd = 7
  · subst h7
    rw [show ((7 : Int) == 2 || isSz 7) = true from rfl]
    go_enter Try.func15, Try.ntmps15
    go_wp2_with fail
    generalize w.alloc (.cells t.cells.toArray 35) = W at *
    clear k0
    have HBW := Lib.hid (Below.drew (Below.refl W.heap.size W))
    have HS0 := Lib.hid (HS.out _ HBW.out)
    go_region_held3 (fun w' => w'.cell? ⟨w.heap.size, 2, none⟩ = some (.int .i64 op) ∧ w'.cell? ⟨w.heap.size, 3, none⟩ = some (.int .i64 lo) ∧ w'.cell? ⟨w.heap.size, 4, none⟩ = some (.int .i64 hi) ∧ w'.cell? ⟨w.heap.size, 5, none⟩ = some (.bool lw) ∧ w'.cell? ⟨w.heap.size, 6, none⟩ = some (.bool hg) ∧ w'.cell? ⟨w.heap.size, 7, none⟩ = some (.slice ca cn cc)) (first | with_reducible exact HS2.out | with_reducible exact HS1.out | with_reducible exact HS0.out) (first
      | (go_at_call 21; (with_reducible refine (rSize_ok _).mono ?_); rintro e w1 ⟨vp, rfl, h1, h2⟩; have HBW1 := Lib.hid (HBW.out.trans (h2.mono HBW.out.size)); have HS1 := Lib.hid (HS.out _ HBW1.out); have HC1 := Lib.hid (HSET.out w1 vp sizeL (HB0.out.trans (HBW1.out.mono HB0.out.size)) h1 (by simp [sizeL])); clear h1 h2)
      | (go_at_call 12; (with_reducible refine HC1.out.mono ?_); rintro e w2 ⟨va, ra, rfl, h1, h2⟩; have HA := Lib.hid h1; have HBW2 := Lib.hid (HBW1.out.trans (h2.mono HBW1.out.size)); have HS2 := Lib.hid (HS.out _ HBW2.out); clear h1 h2))
    go_wp2_with fail
    go_ret2
    exact ⟨_, ra, rfl, HSIZ.out (by simp) _ _ _ _ (by decide) HA.out, HB0.out.trans (HBW2.out.mono HB0.out.size)⟩
  by_cases h9 : kd = 9
  · subst h9
    rw [show ((9 : Int) == 2 || isSz 9) = true from rfl]
    go_enter Try.func15, Try.ntmps15
    go_wp2_with fail
    generalize w.alloc (.cells t.cells.toArray 35) = W at *
    clear k0
    have HBW := Lib.hid (Below.drew (Below.refl W.heap.size W))
    have HS0 := Lib.hid (HS.out _ HBW.out)
    go_region_held3 (fun w' => w'.cell? ⟨w.heap.size, 2, none⟩ = some (.int .i64 op) ∧ w'.cell? ⟨w.heap.size, 3, none⟩ = some (.int .i64 lo) ∧ w'.cell? ⟨w.heap.size, 4, none⟩ = some (.int .i64 hi) ∧ w'.cell? ⟨w.heap.size, 5, none⟩ = some (.bool lw) ∧ w'.cell? ⟨w.heap.size, 6, none⟩ = some (.bool hg) ∧ w'.cell? ⟨w.heap.size, 7, none⟩ = some (.slice ca cn cc)) (first | with_reducible exact HS2.out | with_reducible exact HS1.out | with_reducible exact HS0.out) (first
      | (go_at_call 21; (with_reducible refine (rSize_ok _).mono ?_); rintro e w1 ⟨vp, rfl, h1, h2⟩; have HBW1 := Lib.hid (HBW.out.trans (h2.mono HBW.out.size)); have HS1 := Lib.hid (HS.out _ HBW1.out); have HC1 := Lib.hid (HSET.out w1 vp sizeL (HB0.out.trans (HBW1.out.mono HB0.out.size)) h1 (by simp [sizeL])); clear h1 h2)
      | (go_at_call 12; (with_reducible refine HC1.out.mono ?_); rintro e w2 ⟨va, ra, rfl, h1, h2⟩; have HA := Lib.hid h1; have HBW2 := Lib.hid (HBW1.out.trans (h2.mono HBW1.out.size)); have HS2 := Lib.hid (HS.out _ HBW2.out); clear h1 h2))
    go_wp2_with fail
    go_ret2
    exact ⟨_, ra, rfl, HSIZ.out (by simp) _ _ _ _ (by decide) HA.out, HB0.out.trans (HBW2.out.mono HB0.out.size)⟩
  have z2 : (kd == 2) = false := beq_false_of_ne h2
  have z5 : (kd == 5) = false := beq_false_of_ne h5
  have z6 : (kd == 6) = false := beq_false_of_ne h6
  have z7 : (kd == 7) = false := beq_false_of_ne h7
  have z9 : (kd == 9) = false := beq_false_of_ne h9
  have hsz9 : isSz kd = false := by unfold isSz; rw [z5, z6, z7, z9]; rfl
  have HF := Lib.hid (show ∀ w', Ans w' (.slice none 0 0) (ofP t) 10000 [] from fun w' => ⟨RSl.nil w', ⟨rgt_nil, Bd.nil, fun n hn => by
    unfold ofP
    rw [HKD.out, if_neg h2, hsz9]
    simp [mem_nil]⟩, by simp⟩)
  rw [z2, hsz9, show (false || false) = false from rfl]
  clear h2 h5 h6 h7 h9 hsz9
  go_enter Try.func15, Try.ntmps15
  go_wp2_with fail
  go_ret2
  exact ⟨_, [], rfl, HF.out _, HB0.out⟩
end Go.Proofs.Ytfnpjdglfaaegaa
