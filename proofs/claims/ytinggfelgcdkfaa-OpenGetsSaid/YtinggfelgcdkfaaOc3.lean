/-
  The walks of package octets: which number octets are, or why none.
-/
import Derived.Test.YtinggfelgcdkfaaOc2
import Derived.Deep.RegionHeld3
namespace Go.Proofs.Ytinggfelgcdkfaa
open Go.RowKit
set_option linter.unusedVariables false
set_option linter.unusedSimpArgs false
set_option maxRecDepth 100000

def uerr (l : List Nat) : Int := if l = [] ∨ (l.length ≠ 1 ∧ l.getD 0 0 = 0) then 3 else if 8 < l.length then 11 else 0
def uval (l : List Nat) : Nat := if uerr l = 0 then unum l else 0
def serr (l : List Nat) : Int := if l = [] ∨ (l.length ≠ 1 ∧ l.getD 0 0 = sgn (l.getD 1 0)) then 3 else if 8 < l.length then 11 else 0
def sval (l : List Nat) : Int := if serr l = 0 then snum l else 0
theorem uval_bad {l : List Nat} (h : uerr l ≠ 0) : uval l = 0 := if_neg h
theorem uval_good {l : List Nat} (h : uerr l = 0) : uval l = unum l := if_pos h
theorem ext_zero (l : List Nat) (hl : ∀ i, l.getD i 0 < 256) (h8 : l.length ≤ 8) : ext 0 l = unum l := by
  unfold ext
  have h1 := unum_lt l (mem_lt hl)
  have h2 : 2 ^ (8 * l.length) ≤ 2 ^ 64 := pow_le (by omega)
  rw [Nat.zero_mul, Nat.zero_add, Nat.mod_eq_of_lt (by omega)]
theorem extend_zero (w : World) (g o cap : Nat) (l : List Nat) (hd : DataAt w g o l) (n : Nat) (hn : l.length = n) (h8 : n ≤ 8) :
    Calls Try.prog 74 #[.int .u64 0, .slice (some ⟨g, o, none⟩) n cap] w fun e w' => e = .returned (.int .u64 (unum l : Nat)) ∧ w = w' := by
  subst hn
  have h := extend_at 0 w g o cap l hd (by omega) (by omega)
  rw [ext_zero l hd.byte h8] at h
  exact h
theorem fromU_at (w : World) (g o cap : Nat) (l : List Nat) (hd : DataAt w g o l) (n : Nat) (hn : l.length = n) (h0 : 0 < n) (hl : n ≤ 9223372036854775807) :
    Calls Try.prog 51 #[.slice (some ⟨g, o, none⟩) n cap] w fun e w' => e = .returned (.tuple #[.int .u64 (uval l : Nat), .int .i64 (uerr l)]) ∧ w = w' := by
  have hc0 := hd.cell 0 (by omega)
  rw [Nat.add_zero] at hc0
  have hb0 := hd.byte 0
  have hne : l ≠ [] := by rintro rfl; simp at hn; omega
  by_cases h1 : n = 1
  · have he : uerr l = 0 := by unfold uerr; rw [if_neg (by simp [hne, hn, h1]), if_neg (by omega)]
    have HE := Lib.hid he
    subst h1
    have C := Lib.hid (extend_zero w g o cap l hd _ hn (by omega))
    clear he hd hn hne
    go_enter Try.func51, Try.ntmps51
    go_wp2_with (go_at_call 74; refine C.out.mono ?_; rintro e w' ⟨rfl, rfl⟩)
    go_ret2
    rw [HE.out, uval_good HE.out]
    exact ⟨rfl, rfl⟩
  · by_cases hz : l.getD 0 0 = 0
    · have he : uerr l = 3 := by unfold uerr; rw [if_pos (.inr ⟨by omega, hz⟩)]
      have HE := Lib.hid he
      rw [hz] at hc0
      clear he hd hn hne hb0 hz
      go_enter Try.func51, Try.ntmps51
      go_wp2_with fail
      go_ret2
      rw [HE.out, uval_bad (by rw [HE.out]; decide)]
      exact ⟨rfl, rfl⟩
    · by_cases h8 : 8 < n
      · have he : uerr l = 11 := by unfold uerr; rw [if_neg (fun h => h.elim hne fun h => hz h.2), if_pos (by omega)]
        have HE := Lib.hid he
        clear he hd hn hne
        generalize l.getD 0 0 = x at *
        have hq1 : ((n : Int) == 0) = false := by rw [beq_eq_false_iff_ne]; omega
        have hq2 : ((x : Int) == 0) = false := by rw [beq_eq_false_iff_ne]; omega
        go_enter Try.func51, Try.ntmps51
        go_wp2_with fail
        go_ret2
        rw [HE.out, uval_bad (by rw [HE.out]; decide)]
        exact ⟨rfl, rfl⟩
      · have he : uerr l = 0 := by unfold uerr; rw [if_neg (fun h => h.elim hne fun h => hz h.2), if_neg (by omega)]
        have HE := Lib.hid he
        have C := Lib.hid (extend_zero w g o cap l hd n hn (by omega))
        clear he hd hn hne
        generalize l.getD 0 0 = x at *
        have hq1 : ((n : Int) == 0) = false := by rw [beq_eq_false_iff_ne]; omega
        have hq2 : ((x : Int) == 0) = false := by rw [beq_eq_false_iff_ne]; omega
        go_enter Try.func51, Try.ntmps51
        go_wp2_with (go_at_call 74; refine C.out.mono ?_; rintro e w' ⟨rfl, rfl⟩)
        go_ret2
        rw [HE.out, uval_good HE.out]
        exact ⟨rfl, rfl⟩
theorem fromU_none (w : World) (a : Option Addr) (cap : Nat) :
    Calls Try.prog 51 #[.slice a 0 cap] w fun e w' => e = .returned (.tuple #[.int .u64 (uval [] : Nat), .int .i64 (uerr [])]) ∧ w = w' := by
  go_enter Try.func51, Try.ntmps51
  go_wp2_with fail
  go_ret2
  exact ⟨rfl, rfl⟩
theorem fromU_ok (w : World) (s : Value) (l : List Nat) (h : SlAt w s l) (hl : l.length ≤ 9223372036854775807) :
    Calls Try.prog 51 #[s] w fun e w' => e = .returned (.tuple #[.int .u64 (uval l : Nat), .int .i64 (uerr l)]) ∧ w = w' := by
  rcases h with ⟨g, o, cap, rfl, hd⟩ | ⟨rfl, a, cap, rfl⟩
  · by_cases h0 : l = []
    · subst h0
      exact fromU_none w _ _
    · exact fromU_at w g o cap l hd _ rfl (by cases l <;> simp_all) hl
  · exact fromU_none w _ _
theorem sval_bad {l : List Nat} (h : serr l ≠ 0) : sval l = 0 := if_neg h
theorem sval_good {l : List Nat} (h : serr l = 0) : sval l = snum l := if_pos h
theorem ext_sign (l : List Nat) (hl : ∀ i, l.getD i 0 < 256) (h0 : 0 < l.length) (h8 : l.length ≤ 8) (v : Nat) (hv : (v : Int) = -((l.getD 0 0 : Nat) / 128 : Int) % 18446744073709551616) : wrap64 (ext v l : Nat) = snum l := by
  cases l with
  | nil => simp at h0
  | cons a r =>
    obtain ⟨f1, f2, f3, f4⟩ := smin_facts a r (mem_lt hl) h8
    have hN := unum_lt (a :: r) (mem_lt hl)
    have ha := hl 0
    simp only [List.getD_cons_zero] at ha hv
    have e4 : 2 ^ (8 * (a :: r).length) ≤ 2 ^ 64 := pow_le (by omega)
    unfold ext snum
    simp only [List.getD_cons_zero]
    rw [List.length_cons] at *
    have e2 : 2 ^ (8 * (r.length + 1)) = 256 * 2 ^ (8 * r.length) := pow8 r.length
    have e5 : ((2 : Int) ^ (8 * (r.length + 1))) = ((2 ^ (8 * (r.length + 1)) : Nat) : Int) := by rw [Int.natCast_pow]; rfl
    have e1 := unum_cons a r
    have hr := unum_lt r (mem_lt (fun i => hl (i + 1)))
    rw [e5]
    by_cases h128 : 128 ≤ a
    · rw [if_pos h128]
      have hv1 : v = 18446744073709551615 := by omega
      rw [hv1]
      have b1 : 128 * 2 ^ (8 * r.length) ≤ a * 2 ^ (8 * r.length) := Nat.mul_le_mul_right _ h128
      generalize 2 ^ (8 * (r.length + 1)) = P at *
      unfold wrap64
      omega
    · rw [if_neg h128]
      have hv0 : v = 0 := by omega
      rw [hv0]
      have b1 : a * 2 ^ (8 * r.length) ≤ 127 * 2 ^ (8 * r.length) := Nat.mul_le_mul_right _ (by omega)
      generalize 2 ^ (8 * (r.length + 1)) = P at *
      unfold wrap64
      omega
theorem extend_sign (w : World) (g o cap : Nat) (l : List Nat) (hd : DataAt w g o l) (n : Nat) (hn : l.length = n) (h0 : 0 < n) (h8 : n ≤ 8) (x : Nat) (hx : l.getD 0 0 = x) :
    Calls Try.prog 74 #[.int .u64 (IntKind.u64.wrap (-((x : Int) / 128))), .slice (some ⟨g, o, none⟩) n cap] w fun e w' => (∃ x : Nat, e = .returned (.int .u64 x) ∧ x < 2 ^ 64 ∧ wrap64 x = snum l) ∧ w = w' := by
  subst hn hx
  have e : ∃ v : Nat, v < 2 ^ 64 ∧ IntKind.u64.wrap (-(((l.getD 0 0 : Nat) : Int) / 128)) = v := ⟨(-(((l.getD 0 0 : Nat) : Int) / 128) % 18446744073709551616).toNat, by omega, by rw [IntKind.wrap_u64]; omega⟩
  obtain ⟨v, hv2, hv⟩ := e
  rw [hv]
  rw [IntKind.wrap_u64] at hv
  refine (extend_at v w g o cap l hd hv2 (by omega)).mono ?_
  rintro e w' ⟨rfl, rfl⟩
  exact ⟨⟨_, rfl, ext_lt _ _, ext_sign l hd.byte h0 h8 v hv.symm⟩, rfl⟩
set_option maxHeartbeats 1000000 in
theorem fromS_one (w : World) (g o cap : Nat) (l : List Nat) (hd : DataAt w g o l) (hn : l.length = 1) :
    Calls Try.prog 54 #[.slice (some ⟨g, o, none⟩) 1 cap] w fun e w' => e = .returned (.tuple #[.int .i64 (sval l), .int .i64 (serr l)]) ∧ Below w.heap.size w w' := by
  have hc0 := hd.cell 0 (by omega)
  rw [Nat.add_zero] at hc0
  have hb0 := hd.byte 0
  have hne : l ≠ [] := by rintro rfl; simp at hn
  have he : serr l = 0 := by unfold serr; rw [if_neg (by simp [hne, hn]), if_neg (by omega)]
  have HE := Lib.hid he
  have HD := Lib.hid hd
  have HN := Lib.hid hn
  clear he hd hn hne
  obtain ⟨x, hx⟩ : ∃ x, l.getD 0 0 = x := ⟨_, rfl⟩
  have HX := Lib.hid hx
  rw [hx] at hc0 hb0
  clear hx
  go_enter Try.func54, Try.ntmps54
  go_wp2_with fail
  go_region
  go_wp2_with fail
  refine (extend_sign w.drew g o cap l (HD.out.below ((Below.refl _ w).drew)) 1 HN.out (by decide) (by decide) x HX.out).mono ?_
  rintro e w' ⟨⟨y, rfl, hy, hyw⟩, rfl⟩
  have HY := Lib.hid hyw
  clear hyw
  go_wp2_with fail
  go_ret2
  rw [HE.out, sval_good HE.out, ← HY.out]
  exact ⟨rfl, (Below.refl _ w).drew⟩
set_option maxHeartbeats 2000000 in
theorem fromS_at (w : World) (g o cap : Nat) (l : List Nat) (hd : DataAt w g o l) (n : Nat) (hn : l.length = n) (h2 : 2 ≤ n) (hl : n ≤ 9223372036854775807) :
    Calls Try.prog 54 #[.slice (some ⟨g, o, none⟩) n cap] w fun e w' => e = .returned (.tuple #[.int .i64 (sval l), .int .i64 (serr l)]) ∧ Below w.heap.size w w' := by
  have hc0 := hd.cell 0 (by omega)
  rw [Nat.add_zero] at hc0
  have hb0 := hd.byte 0
  have hc1 := hd.cell 1 (by omega)
  have hb1 := hd.byte 1
  have hne : l ≠ [] := by rintro rfl; simp at hn; omega
  have hq1 : ((n : Int) == 0) = false := by rw [beq_eq_false_iff_ne]; omega
  obtain ⟨x, hx⟩ : ∃ x, l.getD 0 0 = x := ⟨_, rfl⟩
  obtain ⟨y, hy⟩ : ∃ y, l.getD 1 0 = y := ⟨_, rfl⟩
  have hq3 : (1 : Int) < n := by omega
  have hq4 : 0 < n := by omega
  by_cases hz : x = sgn y
  · have he : serr l = 3 := by unfold serr; rw [if_pos (.inr ⟨by omega, by rw [hx, hy]; exact hz⟩)]
    have HE := Lib.hid he
    rw [hx] at hc0 hb0
    rw [hy] at hc1 hb1
    have hq2 : ((x : Int) == (sgn y : Int)) = true := by rw [hz]; exact beq_self_eq_true _
    clear he hd hn hne hx hy hz
    go_enter Try.func54, Try.ntmps54
    go_wp2_with fail
    go_region_held3 (fun w' => w'.cell? ⟨g, o, none⟩ = some (.int .u8 x) ∧ w'.cell? ⟨g, o + 1, none⟩ = some (.int .u8 y)) (exact ⟨hc0, hc1⟩) (first | (go_at_call 75; refine (sign_ok y _ hb1).mono ?_; rintro e w3 ⟨rfl, rfl⟩))
    go_wp2_with fail
    go_ret2
    rw [HE.out, sval_bad (by rw [HE.out]; decide)]
    exact ⟨rfl, (Below.refl _ w).drew⟩
  · have hcond : ¬ (l = [] ∨ (l.length ≠ 1 ∧ l.getD 0 0 = sgn (l.getD 1 0))) := fun h => h.elim hne fun h => hz (by rw [← hx, ← hy]; exact h.2)
    have hq2 : ((x : Int) == (sgn y : Int)) = false := by rw [beq_eq_false_iff_ne]; omega
    by_cases h8 : 8 < n
    · have he : serr l = 11 := by unfold serr; rw [if_neg hcond, if_pos (by omega)]
      have HE := Lib.hid he
      rw [hx] at hc0 hb0
      rw [hy] at hc1 hb1
      clear he hd hn hne hx hy hz hcond
      go_enter Try.func54, Try.ntmps54
      go_wp2_with fail
      go_region_held3 (fun w' => w'.cell? ⟨g, o, none⟩ = some (.int .u8 x) ∧ w'.cell? ⟨g, o + 1, none⟩ = some (.int .u8 y)) (exact ⟨hc0, hc1⟩) (first | (go_at_call 75; refine (sign_ok y _ hb1).mono ?_; rintro e w3 ⟨rfl, rfl⟩))
      go_wp2_with fail
      go_ret2
      rw [HE.out, sval_bad (by rw [HE.out]; decide)]
      exact ⟨rfl, (Below.refl _ w).drew⟩
    · have he : serr l = 0 := by unfold serr; rw [if_neg hcond, if_neg (by omega)]
      have HE := Lib.hid he
      have HD := Lib.hid hd
      have HN := Lib.hid hn
      have HX := Lib.hid hx
      rw [hx] at hc0 hb0
      rw [hy] at hc1 hb1
      clear he hd hn hne hx hy hz hcond
      go_enter Try.func54, Try.ntmps54
      go_wp2_with fail
      go_region_held3 (fun w' => w'.cell? ⟨g, o, none⟩ = some (.int .u8 x) ∧ w'.cell? ⟨g, o + 1, none⟩ = some (.int .u8 y)) (exact ⟨hc0, hc1⟩) (first | (go_at_call 75; refine (sign_ok y _ hb1).mono ?_; rintro e w3 ⟨rfl, rfl⟩))
      go_wp2_with fail
      refine (extend_sign w.drew g o cap l (HD.out.below ((Below.refl _ w).drew)) n HN.out (by omega) (by omega) x HX.out).mono ?_
      rintro e w' ⟨⟨y, rfl, hy, hyw⟩, rfl⟩
      have HY := Lib.hid hyw
      clear hyw
      go_wp2_with fail
      go_ret2
      rw [HE.out, sval_good HE.out, ← HY.out]
      exact ⟨rfl, (Below.refl _ w).drew⟩
theorem fromS_none (w : World) (a : Option Addr) (cap : Nat) :
    Calls Try.prog 54 #[.slice a 0 cap] w fun e w' => e = .returned (.tuple #[.int .i64 (sval []), .int .i64 (serr [])]) ∧ Below w.heap.size w w' := by
  go_enter Try.func54, Try.ntmps54
  go_wp2_with fail
  go_region
  go_wp2_with fail
  go_ret2
  exact ⟨rfl, (Below.refl _ w).drew⟩
theorem fromS_ok (w : World) (s : Value) (l : List Nat) (h : SlAt w s l) (hl : l.length ≤ 9223372036854775807) :
    Calls Try.prog 54 #[s] w fun e w' => e = .returned (.tuple #[.int .i64 (sval l), .int .i64 (serr l)]) ∧ Below w.heap.size w w' := by
  rcases h with ⟨g, o, cap, rfl, hd⟩ | ⟨rfl, a, cap, rfl⟩
  · by_cases h0 : l = []
    · subst h0
      exact fromS_none w _ _
    · have h1 : 0 < l.length := by cases l <;> simp_all
      by_cases h2 : l.length = 1
      · rw [h2]
        exact fromS_one w g o cap l hd h2
      · exact fromS_at w g o cap l hd _ rfl (by omega) hl
  · exact fromS_none w _ _
end Go.Proofs.Ytinggfelgcdkfaa
