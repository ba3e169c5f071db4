/-
  The walks of package octets: which number octets are, or why none.
-/
import Derived.Test.YtbbbgoigacledaaOc2
import Derived.Deep.RegionHeld3
namespace Go.Proofs.Ytbbbgoigacledaa
open Go.RowKit
set_option linter.unusedVariables false
set_option linter.unusedSimpArgs false
set_option maxRecDepth 100000

def uerr (l : List Nat) : Int := if l = [] ∨ (l.length ≠ 1 ∧ l.getD 0 0 = 0) then 3 else if 8 < l.length then 11 else 0
def uval (l : List Nat) : Nat := if uerr l = 0 then unum l else 0
def serr (l : List Nat) : Int := if l = [] ∨ (l.length ≠ 1 ∧ l.getD 0 0 = sgn (l.getD 1 0)) then 3 else if 8 < l.length then 11 else 0
def sval (l : List Nat) : Int := if serr l = 0 then snum l else 0
theorem uval_bad {l : List Nat} (h : uerr l ≠ 0) : uval l = 0 := if_neg h
theorem uval_good {l : List Nat} (h : uerr l = 0) : uval l = unum l := if_pos h
theorem ext_zero (l : List Nat) (hl : ∀ i, l.getD i 0 < 256) (h8 : l.length ≤ 8) : ext 0 l = unum l := by
  unfold ext
  have h1 := unum_lt l (mem_lt hl)
  have h2 : 2 ^ (8 * l.length) ≤ 2 ^ 64 := pow_le (by omega)
  rw [Nat.zero_mul, Nat.zero_add, Nat.mod_eq_of_lt (by omega)]
theorem extend_zero (w : World) (g o cap : Nat) (l : List Nat) (hd : DataAt w g o l) (n : Nat) (hn : l.length = n) (h8 : n ≤ 8) :
    Calls Try.prog 109 #[.int .u64 0, .slice (some ⟨g, o, none⟩) n cap] w fun e w' => e = .returned (.int .u64 (unum l : Nat)) ∧ w = w' := by
  subst hn
  have h := extend_at 0 w g o cap l hd (by omega) (by omega)
  rw [ext_zero l hd.byte h8] at h
  exact h
theorem fromU_at (w : World) (g o cap : Nat) (l : List Nat) (hd : DataAt w g o l) (n : Nat) (hn : l.length = n) (h0 : 0 < n) (hl : n ≤ 9223372036854775807) :
    Calls Try.prog 108 #[.slice (some ⟨g, o, none⟩) n cap] w fun e w' => e = .returned (.tuple #[.int .u64 (uval l : Nat), .int .i64 (uerr l)]) ∧ w = w' := by
  have hc0 := hd.cell 0 (by omega)
  rw [Nat.add_zero] at hc0
  have hb0 := hd.byte 0
  have hne : l ≠ [] := by rintro rfl; simp at hn; omega
  by_cases h1 : n = 1
  · have he : uerr l = 0 := by unfold uerr; rw [if_neg (by simp [hne, hn, h1]), if_neg (by omega)]
    have HE := Lib.hid he
    subst h1
    have C := Lib.hid (extend_zero w g o cap l hd _ hn (by omega))
    clear he hd hn hne
    go_enter Try.func108, Try.ntmps108
    go_wp2_with (go_at_call 109; refine C.out.mono ?_; rintro e w' ⟨rfl, rfl⟩)
    go_ret2
    rw [HE.out, uval_good HE.out]
    exact ⟨rfl, rfl⟩
  · by_cases hz : l.getD 0 0 = 0
    · have he : uerr l = 3 := by unfold uerr; rw [if_pos (.inr ⟨by omega, hz⟩)]
      have HE := Lib.hid he
      rw [hz] at hc0
      clear he hd hn hne hb0 hz
      go_enter Try.func108, Try.ntmps108
      go_wp2_with fail
      go_ret2
      rw [HE.out, uval_bad (by rw [HE.out]; decide)]
      exact ⟨rfl, rfl⟩
    · by_cases h8 : 8 < n
      · have he : uerr l = 11 := by unfold uerr; rw [if_neg (fun h => h.elim hne fun h => hz h.2), if_pos (by omega)]
        have HE := Lib.hid he
        clear he hd hn hne
        generalize l.getD 0 0 = x at *
        have hq1 : ((n : Int) == 0) = false := by rw [beq_eq_false_iff_ne]; omega
        have hq2 : ((x : Int) == 0) = false := by rw [beq_eq_false_iff_ne]; omega
        go_enter Try.func108, Try.ntmps108
        go_wp2_with fail
        go_ret2
        rw [HE.out, uval_bad (by rw [HE.out]; decide)]
        exact ⟨rfl, rfl⟩
      · have he : uerr l = 0 := by unfold uerr; rw [if_neg (fun h => h.elim hne fun h => hz h.2), if_neg (by omega)]
        have HE := Lib.hid he
        have C := Lib.hid (extend_zero w g o cap l hd n hn (by omega))
        clear he hd hn hne
        generalize l.getD 0 0 = x at *
        have hq1 : ((n : Int) == 0) = false := by rw [beq_eq_false_iff_ne]; omega
        have hq2 : ((x : Int) == 0) = false := by rw [beq_eq_false_iff_ne]; omega
        go_enter Try.func108, Try.ntmps108
        go_wp2_with (go_at_call 109; refine C.out.mono ?_; rintro e w' ⟨rfl, rfl⟩)
        go_ret2
        rw [HE.out, uval_good HE.out]
        exact ⟨rfl, rfl⟩
theorem fromU_none (w : World) (a : Option Addr) (cap : Nat) :
    Calls Try.prog 108 #[.slice a 0 cap] w fun e w' => e = .returned (.tuple #[.int .u64 (uval [] : Nat), .int .i64 (uerr [])]) ∧ w = w' := by
  go_enter Try.func108, Try.ntmps108
  go_wp2_with fail
  go_ret2
  exact ⟨rfl, rfl⟩
theorem fromU_ok (w : World) (s : Value) (l : List Nat) (h : SlAt w s l) (hl : l.length ≤ 9223372036854775807) :
    Calls Try.prog 108 #[s] w fun e w' => e = .returned (.tuple #[.int .u64 (uval l : Nat), .int .i64 (uerr l)]) ∧ w = w' := by
  rcases h with ⟨g, o, cap, rfl, hd⟩ | ⟨rfl, a, cap, rfl⟩
  · by_cases h0 : l = []
    · subst h0
      exact fromU_none w _ _
    · exact fromU_at w g o cap l hd _ rfl (by cases l <;> simp_all) hl
  · exact fromU_none w _ _
theorem sval_bad {l : List Nat} (h : serr l ≠ 0) : sval l = 0 := if_neg h
theorem sval_good {l : List Nat} (h : serr l = 0) : sval l = snum l := if_pos h
theorem ext_sign (l : List Nat) (hl : ∀ i, l.getD i 0 < 256) (h0 : 0 < l.length) (h8 : l.length ≤ 8) (v : Nat) (hv : (v : Int) = -((l.getD 0 0 : Nat) / 128 : Int) % 18446744073709551616) : wrap64 (ext v l : Nat) = snum l := by
  cases l with
  | nil => simp at h0
  | cons a r =>
    obtain ⟨f1, f2, f3, f4⟩ := smin_facts a r (mem_lt hl) h8
    have hN := unum_lt (a :: r) (mem_lt hl)
    have ha := hl 0
    simp only [List.getD_cons_zero] at ha hv
    have e4 : 2 ^ (8 * (a :: r).length) ≤ 2 ^ 64 := pow_le (by omega)
    unfold ext snum
    simp only [List.getD_cons_zero]
    rw [List.length_cons] at *
    have e2 : 2 ^ (8 * (r.length + 1)) = 256 * 2 ^ (8 * r.length) := pow8 r.length
    have e5 : ((2 : Int) ^ (8 * (r.length + 1))) = ((2 ^ (8 * (r.length + 1)) : Nat) : Int) := by rw [Int.natCast_pow]; rfl
    have e1 := unum_cons a r
    have hr := unum_lt r (mem_lt (fun i => hl (i + 1)))
    rw [e5]
    by_cases h128 : 128 ≤ a
    · rw [if_pos h128]
      have hv1 : v = 18446744073709551615 := by omega
      rw [hv1]
      have b1 : 128 * 2 ^ (8 * r.length) ≤ a * 2 ^ (8 * r.length) := Nat.mul_le_mul_right _ h128
      generalize 2 ^ (8 * (r.length + 1)) = P at *
      unfold wrap64
      omega
    · rw [if_neg h128]
      have hv0 : v = 0 := by omega
      rw [hv0]
      have b1 : a * 2 ^ (8 * r.length) ≤ 127 * 2 ^ (8 * r.length) := Nat.mul_le_mul_right _ (by omega)
      generalize 2 ^ (8 * (r.length + 1)) = P at *
      unfold wrap64
      omega
theorem extend_sign (w : World) (g o cap : Nat) (l : List Nat) (hd : DataAt w g o l) (n : Nat) (hn : l.length = n) (h0 : 0 < n) (h8 : n ≤ 8) (x : Nat) (hx : l.getD 0 0 = x) :
    Calls Try.prog 109 #[.int .u64 (IntKind.u64.wrap (-((x : Int) / 128))), .slice (some ⟨g, o, none⟩) n cap] w fun e w' => (∃ x : Nat, e = .returned (.int .u64 x) ∧ x < 2 ^ 64 ∧ wrap64 x = snum l) ∧ w = w' := by
  subst hn hx
  have e : ∃ v : Nat, v < 2 ^ 64 ∧ IntKind.u64.wrap (-(((l.getD 0 0 : Nat) : Int) / 128)) = v := ⟨(-(((l.getD 0 0 : Nat) : Int) / 128) % 18446744073709551616).toNat, by omega, by rw [IntKind.wrap_u64]; omega⟩
  obtain ⟨v, hv2, hv⟩ := e
  rw [hv]
  rw [IntKind.wrap_u64] at hv
  refine (extend_at v w g o cap l hd hv2 (by omega)).mono ?_
  rintro e w' ⟨rfl, rfl⟩
  exact ⟨⟨_, rfl, ext_lt _ _, ext_sign l hd.byte h0 h8 v hv.symm⟩, rfl⟩
end Go.Proofs.Ytbbbgoigacledaa
