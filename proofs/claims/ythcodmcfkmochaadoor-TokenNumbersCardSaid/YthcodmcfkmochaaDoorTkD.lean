/-
  The laws of package token: a number's digits ('digits').
-/
import Derived.Test.YthcodmcfkmochaaDoorTkG
namespace Go.Proofs.YthcodmcfkmochaaDoor
open Go.RowKit
set_option linter.unusedVariables false
set_option linter.unusedSimpArgs false
set_option maxRecDepth 100000

def dtx (x : Int) : List Nat := if x < 0 then 45 :: dig 19 x.natAbs else if x = 0 then [48] else dig 19 x.natAbs
theorem str_nil (o : List Nat) : ((bstr o).toList == []) = decide (o = []) := by
  rw [ByteArray.toList_eq]
  unfold bstr
  cases o with
  | nil => rfl
  | cons c r => simp
theorem one_char (w : World) (r : Nat) : (convert 24 9 (.slice (some ⟨w.heap.size, 0, none⟩) 1 1)).run Tryd.prog (w.alloc (.cells #[.int .u8 (48 + (r : Int))] 5)) = .ok (.string (bstr [48 + r])) (w.alloc (.cells #[.int .u8 (48 + (r : Int))] 5)) :=
  conv_to _ _ [48 + r] (lit_sl w [48 + r] _ (by unfold u8s; simp) 1 rfl) 9 Tryd.underlying9
theorem tmod_cases (z : Int) : (∃ r : Nat, z.natAbs % 10 = r ∧ r ≤ 9 ∧ z.tmod 10 = (r : Int)) ∨ (∃ r : Nat, z.natAbs % 10 = r ∧ r ≤ 9 ∧ 0 < r ∧ z.tmod 10 = -(r : Int)) := by
  have h := tmod_eq_if z 10
  by_cases h0 : 0 ≤ z
  · rw [if_pos h0] at h
    exact .inl ⟨z.natAbs % 10, rfl, by omega, by omega⟩
  · rw [if_neg h0] at h
    by_cases h1 : z.natAbs % 10 = 0
    · exact .inl ⟨z.natAbs % 10, rfl, by omega, by omega⟩
    · exact .inr ⟨z.natAbs % 10, rfl, by omega, by omega, by omega⟩
theorem tdiv_abs (z : Int) : (z.tdiv 10).natAbs = z.natAbs / 10 := by
  have h := tdiv_eq_if z 10
  by_cases h0 : 0 ≤ z
  · rw [if_pos h0] at h
    omega
  · rw [if_neg h0] at h
    omega
def RelDg (w : World) (D : List Nat) (nv ov : Value) (wr : World) : Prop := ∃ (z : Int) (f : Nat) (o : List Nat), nv = .int .i64 z ∧ ov = .string (bstr o) ∧ (z.natAbs < 9223372036854775808 ∧ z.natAbs < 10 ^ f ∧ f ≤ 19) ∧ dig f z.natAbs ++ o = D ∧ Below w.heap.size w wr
theorem succ_of {f : Nat} {z : Int} (h : z.natAbs < 10 ^ f) (h0 : ¬ z = 0) : ∃ g, f = g + 1 := by
  cases f with
  | zero =>
    rw [Nat.pow_zero] at h
    omega
  | succ g => exact ⟨g, rfl⟩
def absV (v : Value) : Nat := match v with | .int _ z => z.natAbs | _ => 0
set_option maxHeartbeats 4000000 in
theorem digits_ok (x : Int) (hx : x.natAbs < 9223372036854775808) (w : World) : Calls Tryd.prog 13 #[.int .i64 x] w fun e w' => e = .returned (.string (bstr (dtx x))) ∧ Below w.heap.size w w' := by
  obtain ⟨D, hD⟩ : ∃ D, dig 19 x.natAbs = D := ⟨_, rfl⟩
  have HD := Lib.hid hD
  have HX := Lib.hid hx
  have h10 : x.natAbs < 10 ^ 19 := Nat.lt_trans hx (by decide)
  have H10 := Lib.hid h10
  have h3 : x < 0 ∨ x = 0 ∨ 0 < x := by omega
  clear hD h10
  rcases h3 with h | h | h
  · have hne : D ≠ [] := fun e => by obtain ⟨c, r, e2, _⟩ := dig_head 19 x.natAbs H10.out (by omega); rw [HD.out, e] at e2; cases e2
    have HNE := Lib.hid hne
    have HDT := Lib.hid (show dtx x = 45 :: D from by unfold dtx; rw [if_pos h, HD.out])
    have q0 : decide (x < 0) = true := decide_eq_true h
    clear hx h hne
    go_enter Tryd.func13, Tryd.ntmps13
    go_wp2_with fail
    go_loopw [0, 3, 5] (fun nv ov _ wr => RelDg w D nv ov wr) (fun nv _ _ _ => absV nv)
    case atStart => exact ⟨x, 19, [], rfl, rfl, ⟨HX.out, H10.out, Nat.le_refl _⟩, by rw [HD.out, List.append_nil], Below.refl _ _⟩
    case round =>
      obtain ⟨z, f, o, rfl, rfl, ⟨hz1, hz2, hf⟩, ho, hbel⟩ := hrel
      have HO := Lib.hid ho
      have HB := Lib.hid hbel
      clear ho hbel
      by_cases hz0 : z = 0
      · subst hz0
        have hoD : o = D := by have := HO.out; rw [show (0 : Int).natAbs = 0 from rfl, dig_zero, List.nil_append] at this; exact this
        subst hoD
        have q3 : ((bstr o).toList == []) = false := by rw [str_nil]; exact decide_eq_false HNE.out
        have s1 : (bstr o).size ≤ 19 := by rw [bstr_size, ← HD.out]; exact dig_len _ _
        have s2 : (⟨#[45]⟩ : ByteArray).size = 1 := rfl
        have q10 : ¬ (9223372036854775807 < (⟨#[45]⟩ : ByteArray).size + (bstr o).size) := by omega
        have q4 : (⟨#[45]⟩ : ByteArray) ++ bstr o = bstr (45 :: o) := bstr_cat [45] o
        clear HO hz1 hz2
        go_wp2_with fail
        go_ret
        rw [HDT.out]
        exact ⟨rfl, HB.out⟩
      · have q1 : decide (z = 0) = false := decide_eq_false hz0
        have q1b : (z != 0) = true := by simp; exact hz0
        obtain ⟨g, rfl⟩ : ∃ g, f = g + 1 := succ_of hz2 hz0
        have hst := dig_step (f := g) (m := z.natAbs) (by omega)
        have hab := tdiv_abs z
        obtain ⟨y, hy⟩ : ∃ y, z.tdiv 10 = y := ⟨_, rfl⟩
        rw [hy] at hab
        rcases tmod_cases z with ⟨r, hr, hr9, ht⟩ | ⟨r, hr, hr9, hr0, ht⟩
        · have q2 : decide ((r : Int) < 0) = false := decide_eq_false (by omega)
          have q5 : IntKind.u8.wrap (r : Int) = (r : Int) := by simp [IntKind.wrap, IntKind.signed, IntKind.bits]; omega
          have q6 : IntKind.u8.wrap (48 + (r : Int)) = 48 + (r : Int) := by simp [IntKind.wrap, IntKind.signed, IntKind.bits]; omega
          have s1 : (bstr o).size ≤ 19 := by
            rw [bstr_size]
            have h1 := dig_len 19 x.natAbs
            rw [HD.out, ← HO.out, List.length_append] at h1
            omega
          have s2 : (bstr [48 + r]).size = 1 := bstr_size _
          have q10 : ¬ (9223372036854775807 < (bstr [48 + r]).size + (bstr o).size) := by omega
          have q7 := one_char wr r
          have q8 : bstr [48 + r] ++ bstr o = bstr ((48 + r) :: o) := bstr_cat [48 + r] o
          have q9 : IntKind.i64.wrap y = y := by have := hab; simp [IntKind.wrap, IntKind.signed, IntKind.bits]; omega
          have HDS : Go.RowKit.Hid (dig g y.natAbs ++ (48 + r) :: o = D) := Lib.hid (by have := HO.out; rw [hst, List.append_assoc] at this; rw [hab, ← hr]; exact this)
          have HYB : Go.RowKit.Hid (y.natAbs < 9223372036854775808 ∧ y.natAbs < 10 ^ g ∧ g ≤ 19) := Lib.hid (by rw [Nat.pow_succ] at hz2; omega)
          have HYA : Go.RowKit.Hid (y.natAbs < z.natAbs) := Lib.hid (by omega)
          clear hst HO hz2 hf
          go_wp2_with fail
          go_roundw
          case rel => exact ⟨y, g, (48 + r) :: o, by first | rfl | go_num, rfl, HYB.out, HDS.out, HB.out.alloc (HB.out.size) _⟩
          case measure => exact HYA.out
        · have q2 : decide ((-(r : Int)) < 0) = true := decide_eq_true (by omega)
          have q5 : IntKind.u8.wrap (r : Int) = (r : Int) := by simp [IntKind.wrap, IntKind.signed, IntKind.bits]; omega
          have q6 : IntKind.u8.wrap (48 + (r : Int)) = 48 + (r : Int) := by simp [IntKind.wrap, IntKind.signed, IntKind.bits]; omega
          have s1 : (bstr o).size ≤ 19 := by
            rw [bstr_size]
            have h1 := dig_len 19 x.natAbs
            rw [HD.out, ← HO.out, List.length_append] at h1
            omega
          have s2 : (bstr [48 + r]).size = 1 := bstr_size _
          have q10 : ¬ (9223372036854775807 < (bstr [48 + r]).size + (bstr o).size) := by omega
          have q7 := one_char wr r
          have q8 : bstr [48 + r] ++ bstr o = bstr ((48 + r) :: o) := bstr_cat [48 + r] o
          have q9 : IntKind.i64.wrap y = y := by have := hab; simp [IntKind.wrap, IntKind.signed, IntKind.bits]; omega
          have HDS : Go.RowKit.Hid (dig g y.natAbs ++ (48 + r) :: o = D) := Lib.hid (by have := HO.out; rw [hst, List.append_assoc] at this; rw [hab, ← hr]; exact this)
          have HYB : Go.RowKit.Hid (y.natAbs < 9223372036854775808 ∧ y.natAbs < 10 ^ g ∧ g ≤ 19) := Lib.hid (by rw [Nat.pow_succ] at hz2; omega)
          have HYA : Go.RowKit.Hid (y.natAbs < z.natAbs) := Lib.hid (by omega)
          clear hst HO hz2 hf
          go_wp2_with fail
          go_roundw
          case rel => exact ⟨y, g, (48 + r) :: o, by first | rfl | go_num, rfl, HYB.out, HDS.out, HB.out.alloc (HB.out.size) _⟩
          case measure => exact HYA.out
  · have hne : D = [] := by rw [← HD.out, h]; rfl
    have HNE := Lib.hid hne
    have HDT := Lib.hid (show dtx x = [48] from by unfold dtx; rw [if_neg (by omega), if_pos h])
    have q0 : decide (x < 0) = false := decide_eq_false (by omega)
    clear hx h hne
    go_enter Tryd.func13, Tryd.ntmps13
    go_wp2_with fail
    go_loopw [0, 3, 5] (fun nv ov _ wr => RelDg w D nv ov wr) (fun nv _ _ _ => absV nv)
    case atStart => exact ⟨x, 19, [], rfl, rfl, ⟨HX.out, H10.out, Nat.le_refl _⟩, by rw [HD.out, List.append_nil], Below.refl _ _⟩
    case round =>
      obtain ⟨z, f, o, rfl, rfl, ⟨hz1, hz2, hf⟩, ho, hbel⟩ := hrel
      have HO := Lib.hid ho
      have HB := Lib.hid hbel
      clear ho hbel
      by_cases hz0 : z = 0
      · subst hz0
        have hoD : o = D := by have := HO.out; rw [show (0 : Int).natAbs = 0 from rfl, dig_zero, List.nil_append] at this; exact this
        subst hoD
        have q3 : ((bstr o).toList == []) = true := by rw [str_nil]; exact decide_eq_true HNE.out
        have s1 : (bstr o).size ≤ 19 := by rw [bstr_size, ← HD.out]; exact dig_len _ _
        have s2 : (⟨#[45]⟩ : ByteArray).size = 1 := rfl
        have q10 : ¬ (9223372036854775807 < (⟨#[45]⟩ : ByteArray).size + (bstr o).size) := by omega
        have q4 : (⟨#[45]⟩ : ByteArray) ++ bstr o = bstr (45 :: o) := bstr_cat [45] o
        clear HO hz1 hz2
        go_wp2_with fail
        go_ret
        rw [HDT.out]
        exact ⟨rfl, HB.out⟩
      · have q1 : decide (z = 0) = false := decide_eq_false hz0
        have q1b : (z != 0) = true := by simp; exact hz0
        obtain ⟨g, rfl⟩ : ∃ g, f = g + 1 := succ_of hz2 hz0
        have hst := dig_step (f := g) (m := z.natAbs) (by omega)
        have hab := tdiv_abs z
        obtain ⟨y, hy⟩ : ∃ y, z.tdiv 10 = y := ⟨_, rfl⟩
        rw [hy] at hab
        rcases tmod_cases z with ⟨r, hr, hr9, ht⟩ | ⟨r, hr, hr9, hr0, ht⟩
        · have q2 : decide ((r : Int) < 0) = false := decide_eq_false (by omega)
          have q5 : IntKind.u8.wrap (r : Int) = (r : Int) := by simp [IntKind.wrap, IntKind.signed, IntKind.bits]; omega
          have q6 : IntKind.u8.wrap (48 + (r : Int)) = 48 + (r : Int) := by simp [IntKind.wrap, IntKind.signed, IntKind.bits]; omega
          have s1 : (bstr o).size ≤ 19 := by
            rw [bstr_size]
            have h1 := dig_len 19 x.natAbs
            rw [HD.out, ← HO.out, List.length_append] at h1
            omega
          have s2 : (bstr [48 + r]).size = 1 := bstr_size _
          have q10 : ¬ (9223372036854775807 < (bstr [48 + r]).size + (bstr o).size) := by omega
          have q7 := one_char wr r
          have q8 : bstr [48 + r] ++ bstr o = bstr ((48 + r) :: o) := bstr_cat [48 + r] o
          have q9 : IntKind.i64.wrap y = y := by have := hab; simp [IntKind.wrap, IntKind.signed, IntKind.bits]; omega
          have HDS : Go.RowKit.Hid (dig g y.natAbs ++ (48 + r) :: o = D) := Lib.hid (by have := HO.out; rw [hst, List.append_assoc] at this; rw [hab, ← hr]; exact this)
          have HYB : Go.RowKit.Hid (y.natAbs < 9223372036854775808 ∧ y.natAbs < 10 ^ g ∧ g ≤ 19) := Lib.hid (by rw [Nat.pow_succ] at hz2; omega)
          have HYA : Go.RowKit.Hid (y.natAbs < z.natAbs) := Lib.hid (by omega)
          clear hst HO hz2 hf
          go_wp2_with fail
          go_roundw
          case rel => exact ⟨y, g, (48 + r) :: o, by first | rfl | go_num, rfl, HYB.out, HDS.out, HB.out.alloc (HB.out.size) _⟩
          case measure => exact HYA.out
        · have q2 : decide ((-(r : Int)) < 0) = true := decide_eq_true (by omega)
          have q5 : IntKind.u8.wrap (r : Int) = (r : Int) := by simp [IntKind.wrap, IntKind.signed, IntKind.bits]; omega
          have q6 : IntKind.u8.wrap (48 + (r : Int)) = 48 + (r : Int) := by simp [IntKind.wrap, IntKind.signed, IntKind.bits]; omega
          have s1 : (bstr o).size ≤ 19 := by
            rw [bstr_size]
            have h1 := dig_len 19 x.natAbs
            rw [HD.out, ← HO.out, List.length_append] at h1
            omega
          have s2 : (bstr [48 + r]).size = 1 := bstr_size _
          have q10 : ¬ (9223372036854775807 < (bstr [48 + r]).size + (bstr o).size) := by omega
          have q7 := one_char wr r
          have q8 : bstr [48 + r] ++ bstr o = bstr ((48 + r) :: o) := bstr_cat [48 + r] o
          have q9 : IntKind.i64.wrap y = y := by have := hab; simp [IntKind.wrap, IntKind.signed, IntKind.bits]; omega
          have HDS : Go.RowKit.Hid (dig g y.natAbs ++ (48 + r) :: o = D) := Lib.hid (by have := HO.out; rw [hst, List.append_assoc] at this; rw [hab, ← hr]; exact this)
          have HYB : Go.RowKit.Hid (y.natAbs < 9223372036854775808 ∧ y.natAbs < 10 ^ g ∧ g ≤ 19) := Lib.hid (by rw [Nat.pow_succ] at hz2; omega)
          have HYA : Go.RowKit.Hid (y.natAbs < z.natAbs) := Lib.hid (by omega)
          clear hst HO hz2 hf
          go_wp2_with fail
          go_roundw
          case rel => exact ⟨y, g, (48 + r) :: o, by first | rfl | go_num, rfl, HYB.out, HDS.out, HB.out.alloc (HB.out.size) _⟩
          case measure => exact HYA.out
  · have hne : D ≠ [] := fun e => by obtain ⟨c, r, e2, _⟩ := dig_head 19 x.natAbs H10.out (by omega); rw [HD.out, e] at e2; cases e2
    have HNE := Lib.hid hne
    have HDT := Lib.hid (show dtx x = D from by unfold dtx; rw [if_neg (by omega), if_neg (by omega), HD.out])
    have q0 : decide (x < 0) = false := decide_eq_false (by omega)
    clear hx h hne
    go_enter Tryd.func13, Tryd.ntmps13
    go_wp2_with fail
    go_loopw [0, 3, 5] (fun nv ov _ wr => RelDg w D nv ov wr) (fun nv _ _ _ => absV nv)
    case atStart => exact ⟨x, 19, [], rfl, rfl, ⟨HX.out, H10.out, Nat.le_refl _⟩, by rw [HD.out, List.append_nil], Below.refl _ _⟩
    case round =>
      obtain ⟨z, f, o, rfl, rfl, ⟨hz1, hz2, hf⟩, ho, hbel⟩ := hrel
      have HO := Lib.hid ho
      have HB := Lib.hid hbel
      clear ho hbel
      by_cases hz0 : z = 0
      · subst hz0
        have hoD : o = D := by have := HO.out; rw [show (0 : Int).natAbs = 0 from rfl, dig_zero, List.nil_append] at this; exact this
        subst hoD
        have q3 : ((bstr o).toList == []) = false := by rw [str_nil]; exact decide_eq_false HNE.out
        have s1 : (bstr o).size ≤ 19 := by rw [bstr_size, ← HD.out]; exact dig_len _ _
        have s2 : (⟨#[45]⟩ : ByteArray).size = 1 := rfl
        have q10 : ¬ (9223372036854775807 < (⟨#[45]⟩ : ByteArray).size + (bstr o).size) := by omega
        have q4 : (⟨#[45]⟩ : ByteArray) ++ bstr o = bstr (45 :: o) := bstr_cat [45] o
        clear HO hz1 hz2
        go_wp2_with fail
        go_ret
        rw [HDT.out]
        exact ⟨rfl, HB.out⟩
      · have q1 : decide (z = 0) = false := decide_eq_false hz0
        have q1b : (z != 0) = true := by simp; exact hz0
        obtain ⟨g, rfl⟩ : ∃ g, f = g + 1 := succ_of hz2 hz0
        have hst := dig_step (f := g) (m := z.natAbs) (by omega)
        have hab := tdiv_abs z
        obtain ⟨y, hy⟩ : ∃ y, z.tdiv 10 = y := ⟨_, rfl⟩
        rw [hy] at hab
        rcases tmod_cases z with ⟨r, hr, hr9, ht⟩ | ⟨r, hr, hr9, hr0, ht⟩
        · have q2 : decide ((r : Int) < 0) = false := decide_eq_false (by omega)
          have q5 : IntKind.u8.wrap (r : Int) = (r : Int) := by simp [IntKind.wrap, IntKind.signed, IntKind.bits]; omega
          have q6 : IntKind.u8.wrap (48 + (r : Int)) = 48 + (r : Int) := by simp [IntKind.wrap, IntKind.signed, IntKind.bits]; omega
          have s1 : (bstr o).size ≤ 19 := by
            rw [bstr_size]
            have h1 := dig_len 19 x.natAbs
            rw [HD.out, ← HO.out, List.length_append] at h1
            omega
          have s2 : (bstr [48 + r]).size = 1 := bstr_size _
          have q10 : ¬ (9223372036854775807 < (bstr [48 + r]).size + (bstr o).size) := by omega
          have q7 := one_char wr r
          have q8 : bstr [48 + r] ++ bstr o = bstr ((48 + r) :: o) := bstr_cat [48 + r] o
          have q9 : IntKind.i64.wrap y = y := by have := hab; simp [IntKind.wrap, IntKind.signed, IntKind.bits]; omega
          have HDS : Go.RowKit.Hid (dig g y.natAbs ++ (48 + r) :: o = D) := Lib.hid (by have := HO.out; rw [hst, List.append_assoc] at this; rw [hab, ← hr]; exact this)
          have HYB : Go.RowKit.Hid (y.natAbs < 9223372036854775808 ∧ y.natAbs < 10 ^ g ∧ g ≤ 19) := Lib.hid (by rw [Nat.pow_succ] at hz2; omega)
          have HYA : Go.RowKit.Hid (y.natAbs < z.natAbs) := Lib.hid (by omega)
          clear hst HO hz2 hf
          go_wp2_with fail
          go_roundw
          case rel => exact ⟨y, g, (48 + r) :: o, by first | rfl | go_num, rfl, HYB.out, HDS.out, HB.out.alloc (HB.out.size) _⟩
          case measure => exact HYA.out
        · have q2 : decide ((-(r : Int)) < 0) = true := decide_eq_true (by omega)
          have q5 : IntKind.u8.wrap (r : Int) = (r : Int) := by simp [IntKind.wrap, IntKind.signed, IntKind.bits]; omega
          have q6 : IntKind.u8.wrap (48 + (r : Int)) = 48 + (r : Int) := by simp [IntKind.wrap, IntKind.signed, IntKind.bits]; omega
          have s1 : (bstr o).size ≤ 19 := by
            rw [bstr_size]
            have h1 := dig_len 19 x.natAbs
            rw [HD.out, ← HO.out, List.length_append] at h1
            omega
          have s2 : (bstr [48 + r]).size = 1 := bstr_size _
          have q10 : ¬ (9223372036854775807 < (bstr [48 + r]).size + (bstr o).size) := by omega
          have q7 := one_char wr r
          have q8 : bstr [48 + r] ++ bstr o = bstr ((48 + r) :: o) := bstr_cat [48 + r] o
          have q9 : IntKind.i64.wrap y = y := by have := hab; simp [IntKind.wrap, IntKind.signed, IntKind.bits]; omega
          have HDS : Go.RowKit.Hid (dig g y.natAbs ++ (48 + r) :: o = D) := Lib.hid (by have := HO.out; rw [hst, List.append_assoc] at this; rw [hab, ← hr]; exact this)
          have HYB : Go.RowKit.Hid (y.natAbs < 9223372036854775808 ∧ y.natAbs < 10 ^ g ∧ g ≤ 19) := Lib.hid (by rw [Nat.pow_succ] at hz2; omega)
          have HYA : Go.RowKit.Hid (y.natAbs < z.natAbs) := Lib.hid (by omega)
          clear hst HO hz2 hf
          go_wp2_with fail
          go_roundw
          case rel => exact ⟨y, g, (48 + r) :: o, by first | rfl | go_num, rfl, HYB.out, HDS.out, HB.out.alloc (HB.out.size) _⟩
          case measure => exact HYA.out
end Go.Proofs.YthcodmcfkmochaaDoor
