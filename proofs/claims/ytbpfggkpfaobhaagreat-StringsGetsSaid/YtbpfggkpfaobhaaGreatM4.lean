import Derived.Lib.ItoaNum
import Derived.Test.YtbpfggkpfaobhaaGreatM1
import Derived.Lib.Walk
import Derived.Lib.Small
import Derived.Lib.Strings
import Derived.Lib.Slices
import Derived.ArgAppend
import Derived.Deep.AppendLies
import Derived.Deep.RegionHeld3
/-
  Plain facts on numbers and their octets: how many bits a number needs, how many octets, with a sign and without. No program is named here.
-/
namespace Go.Proofs.YtbpfggkpfaobhaaGreat
set_option linter.unusedVariables false
set_option linter.unusedSimpArgs false
set_option maxRecDepth 100000

/-- how many bits a number needs -/
def wid (v : Nat) : Nat := Lib.bitLen v
theorem wid_zero : wid 0 = 0 := by decide
theorem wid_le (v k : Nat) (hk : k ≤ 64) (h : v < 2 ^ k) : wid v ≤ k := Lib.bitLen_le v k hk h
theorem wid_le64 (v : Nat) (h : v < 2 ^ 64) : wid v ≤ 64 := wid_le v 64 (Nat.le_refl _) h
theorem wid_bounds (v : Nat) (h : v < 2 ^ 64) (h0 : v ≠ 0) : 1 ≤ wid v ∧ 2 ^ (wid v - 1) ≤ v ∧ v < 2 ^ wid v := Lib.bitLenAux_bounds 64 v h h0
theorem wid_lt (v : Nat) (h : v < 2 ^ 64) : v < 2 ^ wid v := by
  by_cases h0 : v = 0
  · subst h0; decide
  · exact (wid_bounds v h h0).2.2
theorem wid_half (v : Nat) (h : v < 2 ^ 64) (h0 : v ≠ 0) : wid v = 1 + wid (v / 2) := Lib.bitLen_half v h0 h
theorem pow_lt {a b : Nat} (h : 2 ^ a < 2 ^ b) : a < b := (Nat.pow_lt_pow_iff_right (by decide)).1 h
theorem pow_le {a b : Nat} (h : a ≤ b) : 2 ^ a ≤ 2 ^ b := Nat.pow_le_pow_right (by decide) h
theorem wid_mono (v u : Nat) (h : v ≤ u) (hu : u < 2 ^ 64) : wid v ≤ wid u := wid_le _ _ (wid_le64 u hu) (Nat.lt_of_le_of_lt h (wid_lt u hu))

/-- how many octets a number needs -/
def cnt (v : Nat) : Nat := max 1 ((wid v + 7) / 8)
theorem cnt_pos (v : Nat) : 1 ≤ cnt v := by unfold cnt; omega
theorem cnt_le (v : Nat) (h : v < 2 ^ 64) : cnt v ≤ 8 := by have := wid_le64 v h; unfold cnt; omega
theorem cnt_lt (v : Nat) (h : v < 2 ^ 64) : v < 2 ^ (8 * cnt v) := by
  have h1 := wid_lt v h
  have h2 : 2 ^ wid v ≤ 2 ^ (8 * cnt v) := pow_le (by unfold cnt; omega)
  omega
theorem cnt_ge (v : Nat) (h : v < 2 ^ 64) (h1 : cnt v ≠ 1) : 2 ^ (8 * (cnt v - 1)) ≤ v := by
  have h0 : v ≠ 0 := by
    rintro rfl
    exact h1 (by decide)
  have h2 := (wid_bounds v h h0).2.1
  have h3 : 2 ^ (8 * (cnt v - 1)) ≤ 2 ^ (wid v - 1) := pow_le (by unfold cnt at *; omega)
  omega
theorem cnt_uniq (v k : Nat) (h : v < 2 ^ 64) (h1 : 1 ≤ k) (h2 : v < 2 ^ (8 * k)) (h3 : k = 1 ∨ 2 ^ (8 * (k - 1)) ≤ v) : cnt v = k := by
  have a1 := cnt_pos v
  have a2 := cnt_lt v h
  have a3 := cnt_ge v h
  generalize cnt v = c at *
  have b1 : ¬ c < k := by
    intro hlt
    rcases h3 with h3 | h3
    · omega
    · have := pow_lt (Nat.lt_of_le_of_lt h3 a2)
      omega
  have b2 : ¬ k < c := by
    intro hlt
    have := pow_lt (Nat.lt_of_le_of_lt (a3 (by omega)) h2)
    omega
  omega
theorem cnt_mono (v u : Nat) (h : v ≤ u) (hu : u < 2 ^ 64) : cnt v ≤ cnt u := by
  have := wid_mono v u h hu
  unfold cnt
  omega

/-- a number without its sign -/
def mag (n : Int) : Nat := (if n < 0 then -n - 1 else n).toNat
theorem mag_neg (n : Int) (h : n < 0) : (mag n : Int) = -n - 1 := by unfold mag; rw [if_pos h]; omega
theorem mag_pos (n : Int) (h : 0 ≤ n) : (mag n : Int) = n := by unfold mag; rw [if_neg (by omega)]; omega
theorem mag_lt (n : Int) (h : -9223372036854775808 ≤ n) (h' : n ≤ 9223372036854775807) : mag n < 2 ^ 63 := by
  by_cases h0 : n < 0
  · have := mag_neg n h0; omega
  · have := mag_pos n (by omega); omega
/-- how many octets a number with a sign needs -/
def scnt (n : Int) : Nat := wid (mag n) / 8 + 1
theorem scnt_pos (n : Int) : 1 ≤ scnt n := by unfold scnt; omega
theorem scnt_le (n : Int) (h : mag n < 2 ^ 63) : scnt n ≤ 8 := by have := wid_le (mag n) 63 (by omega) h; unfold scnt; omega
theorem scnt_lt (n : Int) (h : mag n < 2 ^ 63) : mag n < 2 ^ (8 * scnt n - 1) := by
  have h1 := wid_lt (mag n) (by omega)
  have h2 : 2 ^ wid (mag n) ≤ 2 ^ (8 * scnt n - 1) := pow_le (by unfold scnt; omega)
  omega
theorem scnt_ge (n : Int) (h : mag n < 2 ^ 63) (h1 : scnt n ≠ 1) : 2 ^ (8 * (scnt n - 1) - 1) ≤ mag n := by
  have h0 : mag n ≠ 0 := by
    intro h0
    exact h1 (by unfold scnt; rw [h0]; decide)
  have h2 := (wid_bounds (mag n) (by omega) h0).2.1
  have h3 : 2 ^ (8 * (scnt n - 1) - 1) ≤ 2 ^ (wid (mag n) - 1) := pow_le (by unfold scnt at *; omega)
  omega
theorem scnt_uniq (n : Int) (k : Nat) (h : mag n < 2 ^ 63) (h1 : 1 ≤ k) (h2 : mag n < 2 ^ (8 * k - 1)) (h3 : k = 1 ∨ 2 ^ (8 * (k - 1) - 1) ≤ mag n) : scnt n = k := by
  have a1 := scnt_pos n
  have a2 := scnt_lt n h
  have a3 := scnt_ge n h
  generalize scnt n = c at *
  have b1 : ¬ c < k := by
    intro hlt
    rcases h3 with h3 | h3
    · omega
    · have := pow_lt (Nat.lt_of_le_of_lt h3 a2)
      omega
  have b2 : ¬ k < c := by
    intro hlt
    have := pow_lt (Nat.lt_of_le_of_lt (a3 (by omega)) h2)
    omega
  omega

/-- the k lowest octets of v, the highest first -/
def low (v k : Nat) : List Nat := (List.range k).map fun i => v / 2 ^ (8 * (k - 1 - i)) % 256
theorem low_length (v k : Nat) : (low v k).length = k := by simp [low]
theorem low_lt (v k i : Nat) : (low v k).getD i 0 < 256 := by
  unfold low
  rw [List.getD_eq_getElem?_getD, List.getElem?_map]
  cases h : (List.range k)[i]? with
  | none => simp
  | some j => simp; omega
theorem low_getD (v k i : Nat) (h : i < k) : (low v k).getD i 0 = v / 2 ^ (8 * (k - 1 - i)) % 256 := by
  simp [low, List.getD_eq_getElem?_getD, h]
theorem low_succ (v k : Nat) : low v (k + 1) = low (v / 256) k ++ [v % 256] := by
  apply List.ext_getElem
  · simp [low]
  · intro i h1 h2
    rw [low_length] at h1
    have e1 : (low v (k + 1))[i]'(by rw [low_length]; omega) = v / 2 ^ (8 * (k - i)) % 256 := by simp [low]
    rw [e1, List.getElem_append]
    split
    · rename_i hi
      rw [low_length] at hi
      simp only [low, List.getElem_map, List.getElem_range]
      have e2 : 8 * (k - i) = 8 + 8 * (k - 1 - i) := by omega
      rw [e2, Nat.pow_add, ← Nat.div_div_eq_div_mul]
    · rename_i hi
      rw [low_length] at hi
      have : k - i = 0 := by omega
      simp [this]
/-- the number that octets are -/
def unum (l : List Nat) : Nat := l.foldl (fun a b => 256 * a + b) 0
theorem unum_nil : unum [] = 0 := rfl
theorem unum_snoc (l : List Nat) (b : Nat) : unum (l ++ [b]) = 256 * unum l + b := by simp [unum, List.foldl_append]
theorem foldl_oct (l : List Nat) : ∀ a, l.foldl (fun a b => 256 * a + b) a = a * 2 ^ (8 * l.length) + unum l := by
  induction l with
  | nil => intro a; simp [unum]
  | cons b l ih =>
    intro a
    have e : unum (b :: l) = b * 2 ^ (8 * l.length) + unum l := by
      show List.foldl _ (256 * 0 + b) l = _
      rw [ih]; simp
    rw [List.foldl_cons, ih, e, List.length_cons, show 8 * (l.length + 1) = 8 + 8 * l.length by omega, Nat.pow_add, Nat.add_mul, ← Nat.mul_assoc]
    rw [show (2 : Nat) ^ 8 = 256 from rfl, Nat.mul_comm 256 a, Nat.add_assoc]
theorem unum_cons (b : Nat) (l : List Nat) : unum (b :: l) = b * 2 ^ (8 * l.length) + unum l := by
  show List.foldl _ (256 * 0 + b) l = _
  rw [foldl_oct]; simp
theorem unum_lt (l : List Nat) (h : ∀ x ∈ l, x < 256) : unum l < 2 ^ (8 * l.length) := by
  induction l with
  | nil => simp [unum]
  | cons b l ih =>
    have h1 := ih (fun x hx => h x (List.mem_cons_of_mem _ hx))
    have h2 := h b List.mem_cons_self
    rw [unum_cons, List.length_cons, show 8 * (l.length + 1) = 8 + 8 * l.length by omega, Nat.pow_add, show (2 : Nat) ^ 8 = 256 from rfl]
    have h3 : (b + 1) * 2 ^ (8 * l.length) ≤ 256 * 2 ^ (8 * l.length) := Nat.mul_le_mul_right _ (by omega)
    rw [Nat.add_mul] at h3
    omega
theorem unum_low (k : Nat) : ∀ v, unum (low v k) = v % 2 ^ (8 * k) := by
  induction k with
  | zero => intro v; simp [low, unum, Nat.mod_one]
  | succ k ih =>
    intro v
    rw [low_succ, unum_snoc, ih, show 8 * (k + 1) = 8 + 8 * k by omega, Nat.pow_add, Nat.mod_mul, show (2 : Nat) ^ 8 = 256 from rfl]
    omega
theorem mem_lt {l : List Nat} (h : ∀ i, l.getD i 0 < 256) : ∀ x ∈ l, x < 256 := by
  intro x hx
  obtain ⟨i, hi, rfl⟩ := List.mem_iff_getElem.1 hx
  have := h i
  rwa [List.getD_eq_getElem?_getD, List.getElem?_eq_getElem hi] at this
theorem getD_lt {l : List Nat} (h : ∀ x ∈ l, x < 256) (i : Nat) : l.getD i 0 < 256 := by
  rw [List.getD_eq_getElem?_getD]
  cases hi : l[i]? with
  | none => simp
  | some x => exact h x (List.mem_of_getElem? hi)
theorem cons_lt {a : Nat} {l : List Nat} (ha : a < 256) (h : ∀ x ∈ l, x < 256) : ∀ x ∈ a :: l, x < 256 := by
  intro x hx
  rcases List.mem_cons.1 hx with rfl | hx
  · exact ha
  · exact h x hx
theorem low_mem (v k : Nat) : ∀ x ∈ low v k, x < 256 := mem_lt (low_lt v k)
theorem low_unum (l : List Nat) (h : ∀ x ∈ l, x < 256) : low (unum l) l.length = l := by
  suffices hs : ∀ r : List Nat, (∀ x ∈ r, x < 256) → low (unum r.reverse) r.length = r.reverse by
    have := hs l.reverse (fun x hx => h x (List.mem_reverse.1 hx))
    simpa using this
  intro r
  induction r with
  | nil => intro _; rfl
  | cons b r ih =>
    intro h
    have hb := h b List.mem_cons_self
    rw [List.reverse_cons, unum_snoc, List.length_cons, low_succ]
    rw [show (256 * unum r.reverse + b) / 256 = unum r.reverse by omega, show (256 * unum r.reverse + b) % 256 = b by omega, ih (fun x hx => h x (List.mem_cons_of_mem _ hx))]
theorem low_mod (v k m : Nat) (h : k ≤ m) : low (v % 2 ^ (8 * m)) k = low v k := by
  have e1 := low_unum (low (v % 2 ^ (8 * m)) k) (low_mem _ _)
  have e2 := low_unum (low v k) (low_mem _ _)
  rw [low_length, unum_low] at e1 e2
  rw [← e1, ← e2]
  congr 1
  have : 2 ^ (8 * m) = 2 ^ (8 * k) * 2 ^ (8 * (m - k)) := by rw [← Nat.pow_add]; congr 1; omega
  rw [this, Nat.mod_mul_right_mod]
theorem low_head (v k : Nat) (h : v < 2 ^ (8 * k)) : low v (k + 1) = 0 :: low v k := by
  have e1 := low_unum (0 :: low v k) (cons_lt (by omega) (low_mem _ _))
  rw [unum_cons, unum_low, Nat.mod_eq_of_lt h, List.length_cons, low_length] at e1
  simpa using e1
theorem low_cons (v k : Nat) : low v (k + 1) = (v / 2 ^ (8 * k) % 256) :: low v k := by
  have h1 : unum ((v / 2 ^ (8 * k) % 256) :: low v k) = v % 2 ^ (8 * (k + 1)) := by
    rw [unum_cons, unum_low, low_length, show 8 * (k + 1) = 8 * k + 8 by omega, Nat.pow_add, Nat.mod_mul, show (2 : Nat) ^ 8 = 256 from rfl, Nat.mul_comm]
    omega
  have e1 := low_unum ((v / 2 ^ (8 * k) % 256) :: low v k) (cons_lt (by omega) (low_mem _ _))
  rw [h1, List.length_cons, low_length, low_mod _ _ _ (Nat.le_refl _)] at e1
  exact e1

/-- the number that octets are, with a sign -/
def snum (l : List Nat) : Int := if 128 ≤ l.getD 0 0 then (unum l : Int) - 2 ^ (8 * l.length) else unum l
/-- octets that can't be shorter -/
def umin (l : List Nat) : Prop := l ≠ [] ∧ (l.length = 1 ∨ l.getD 0 0 ≠ 0)
def smin (l : List Nat) : Prop := l ≠ [] ∧ (l.length = 1 ∨ l.getD 0 0 ≠ if 128 ≤ l.getD 1 0 then 255 else 0)
theorem pow8 (m : Nat) : 2 ^ (8 * m + 8) = 256 * 2 ^ (8 * m) := by rw [Nat.pow_add, Nat.mul_comm]
theorem umin_cnt (l : List Nat) (h : ∀ x ∈ l, x < 256) (hm : umin l) (h8 : l.length ≤ 8) : cnt (unum l) = l.length := by
  obtain ⟨h0, h1⟩ := hm
  have hlt := unum_lt l h
  have h64 : 2 ^ (8 * l.length) ≤ 2 ^ 64 := pow_le (by omega)
  have hpos : 0 < l.length := by cases l <;> simp_all
  refine cnt_uniq _ _ (by omega) (by omega) hlt ?_
  rcases h1 with h1 | h1
  · exact .inl h1
  · right
    cases l with
    | nil => simp at hpos
    | cons a r =>
      simp at h1
      rw [unum_cons, List.length_cons, Nat.add_sub_cancel]
      have := Nat.le_mul_of_pos_left (2 ^ (8 * r.length)) (show 0 < a by omega)
      omega
theorem umin_low (v : Nat) (h : v < 2 ^ 64) : umin (low v (cnt v)) := by
  have h1 := cnt_pos v
  refine ⟨fun e => ?_, ?_⟩
  · have := low_length v (cnt v)
    rw [e] at this
    simp at this
    omega
  · rw [low_length]
    by_cases hc : cnt v = 1
    · exact .inl hc
    · right
      have h2 := cnt_ge v h hc
      have h3 := cnt_lt v h
      rw [low_getD _ _ _ (by omega)]
      generalize cnt v = c at *
      obtain ⟨m, rfl⟩ : ∃ m, c = m + 1 := ⟨c - 1, by omega⟩
      simp only [Nat.add_sub_cancel, Nat.sub_zero] at *
      rw [show 8 * (m + 1) = 8 * m + 8 by omega, pow8] at h3
      have hp : 0 < 2 ^ (8 * m) := Nat.pow_pos (by decide)
      have h4 : 1 ≤ v / 2 ^ (8 * m) := (Nat.le_div_iff_mul_le hp).2 (by omega)
      have h5 : v / 2 ^ (8 * m) < 256 := (Nat.div_lt_iff_lt_mul hp).2 (by omega)
      omega
/-- a number as it lies in 64 bits -/
def u64n (n : Int) : Nat := (n % 18446744073709551616).toNat
theorem u64n_lt (n : Int) : u64n n < 2 ^ 64 := by unfold u64n; omega
theorem u64n_cast (n : Int) : (u64n n : Int) = n % 18446744073709551616 := by unfold u64n; omega
theorem smin_facts (a : Nat) (r : List Nat) (h : ∀ x ∈ a :: r, x < 256) (h8 : (a :: r).length ≤ 8) :
    mag (snum (a :: r)) < 2 ^ (8 * (r.length + 1) - 1) ∧ mag (snum (a :: r)) < 2 ^ 63 ∧ u64n (snum (a :: r)) % 2 ^ (8 * (r.length + 1)) = unum (a :: r) ∧
      ((mag (snum (a :: r)) = unum (a :: r) ∧ a < 128) ∨ (mag (snum (a :: r)) + unum (a :: r) + 1 = 2 ^ (8 * r.length + 8) ∧ 128 ≤ a)) := by
  have ha := h a List.mem_cons_self
  have hr := unum_lt r (fun x hx => h x (List.mem_cons_of_mem _ hx))
  have hN := unum_lt (a :: r) h
  have e1 := unum_cons a r
  rw [List.length_cons] at hN h8
  have hs : snum (a :: r) = if 128 ≤ a then (unum (a :: r) : Int) - 2 ^ (8 * (r.length + 1)) else unum (a :: r) := by unfold snum; simp
  rw [hs, show 8 * (r.length + 1) - 1 = 8 * r.length + 7 by omega]
  rw [show 8 * (r.length + 1) = 8 * r.length + 8 by omega] at *
  generalize hm : r.length = m at *
  have e2 := pow8 m
  have e3 : 2 ^ (8 * m + 7) = 128 * 2 ^ (8 * m) := by rw [Nat.pow_add, Nat.mul_comm]
  have e4 : 2 ^ (8 * m + 8) ≤ 2 ^ 64 := pow_le (by omega)
  have e5 : ((2 : Int) ^ (8 * m + 8)) = ((2 ^ (8 * m + 8) : Nat) : Int) := by rw [Int.natCast_pow]; rfl
  have e6 : ∃ t, 18446744073709551616 = 2 ^ (8 * m + 8) * t := ⟨2 ^ (64 - (8 * m + 8)), by rw [← Nat.pow_add]; rw [show 8 * m + 8 + (64 - (8 * m + 8)) = 64 by omega]⟩
  rw [e5]
  generalize unum (a :: r) = N at *
  generalize hQ : 2 ^ (8 * m + 8) = P at *
  generalize 2 ^ (8 * m + 7) = H at *
  by_cases hhi : 128 ≤ a
  · rw [if_pos hhi]
    have b1 : 128 * 2 ^ (8 * m) ≤ a * 2 ^ (8 * m) := Nat.mul_le_mul_right _ hhi
    have hneg : (N : Int) - (P : Int) < 0 := by omega
    have hmag := mag_neg _ hneg
    generalize mag ((N : Int) - (P : Int)) = M at *
    have hP : 2 ^ 63 = 9223372036854775808 := by decide
    refine ⟨by omega, by omega, ?_, .inr ⟨by omega, hhi⟩⟩
    obtain ⟨t, ht⟩ := e6
    have ht0 : 0 < t := by
      rcases Nat.eq_zero_or_pos t with h0 | h0
      · rw [h0] at ht; simp at ht
      · exact h0
    have hu : u64n ((N : Int) - (P : Int)) = N + P * (t - 1) := by
      have h1 : P * t = P * (t - 1) + P := by
        obtain ⟨t', rfl⟩ : ∃ t', t = t' + 1 := ⟨t - 1, by omega⟩
        rw [Nat.add_sub_cancel, Nat.mul_add, Nat.mul_one]
      unfold u64n
      generalize P * (t - 1) = U at *
      generalize P * t = V at *
      omega
    rw [hu, Nat.add_mul_mod_self_left, Nat.mod_eq_of_lt hN]
  · rw [if_neg hhi]
    have b1 : a * 2 ^ (8 * m) ≤ 127 * 2 ^ (8 * m) := Nat.mul_le_mul_right _ (by omega)
    have hmag := mag_pos (N : Int) (by omega)
    generalize mag (N : Int) = M at *
    have hP : 2 ^ 63 = 9223372036854775808 := by decide
    refine ⟨by omega, by omega, ?_, .inl ⟨by omega, by omega⟩⟩
    have hu : u64n (N : Int) = N := by unfold u64n; omega
    rw [hu, Nat.mod_eq_of_lt hN]
theorem smin_scnt (l : List Nat) (h : ∀ x ∈ l, x < 256) (hm : smin l) (h8 : l.length ≤ 8) : scnt (snum l) = l.length := by
  obtain ⟨h0, h1⟩ := hm
  cases l with
  | nil => exact absurd rfl h0
  | cons a r =>
    obtain ⟨f1, f2, f3, f4⟩ := smin_facts a r h h8
    refine scnt_uniq _ _ f2 (by simp) f1 ?_
    rcases h1 with h1 | h1
    · exact .inl h1
    · cases r with
      | nil => exact .inl rfl
      | cons b t =>
        right
        have ha := h a List.mem_cons_self
        have hb := h b (List.mem_cons_of_mem _ List.mem_cons_self)
        have ht := unum_lt t (fun x hx => h x (List.mem_cons_of_mem _ (List.mem_cons_of_mem _ hx)))
        have e1 := unum_cons a (b :: t)
        have e2 := unum_cons b t
        simp only [List.length_cons, Nat.add_sub_cancel] at *
        rw [show 8 * (t.length + 1) = 8 * t.length + 8 by omega, pow8] at e1
        rw [show 8 * (t.length + 1) + 8 = 8 * t.length + 16 by omega, show 2 ^ (8 * t.length + 16) = 65536 * 2 ^ (8 * t.length) by rw [Nat.pow_add, Nat.mul_comm]] at f4
        rw [show 8 * (t.length + 1) - 1 = 8 * t.length + 7 by omega, show 2 ^ (8 * t.length + 7) = 128 * 2 ^ (8 * t.length) by rw [Nat.pow_add, Nat.mul_comm]]
        generalize 2 ^ (8 * t.length) = q at *
        generalize unum t = T at *
        generalize unum (a :: b :: t) = N at *
        generalize mag (snum (a :: b :: t)) = M at *
        simp at h1
        have hbq1 : b * q ≤ 255 * q := Nat.mul_le_mul_right _ (by omega)
        rcases f4 with ⟨f4, f5⟩ | ⟨f4, f5⟩
        · by_cases hb8 : 128 ≤ b
          · have : 128 * q ≤ b * q := Nat.mul_le_mul_right _ hb8
            omega
          · rw [if_neg hb8] at h1
            have : 1 * (256 * q) ≤ a * (256 * q) := Nat.mul_le_mul_right _ (by omega)
            omega
        · by_cases hb8 : 128 ≤ b
          · rw [if_pos hb8] at h1
            have : a * (256 * q) ≤ 254 * (256 * q) := Nat.mul_le_mul_right _ (by omega)
            omega
          · have : b * q ≤ 127 * q := Nat.mul_le_mul_right _ (by omega)
            have : a * (256 * q) ≤ 255 * (256 * q) := Nat.mul_le_mul_right _ (by omega)
            omega
theorem low_snum (l : List Nat) (h : ∀ x ∈ l, x < 256) (h0 : l ≠ []) (h8 : l.length ≤ 8) : low (u64n (snum l)) l.length = l := by
  cases l with
  | nil => exact absurd rfl h0
  | cons a r =>
    obtain ⟨f1, f2, f3, f4⟩ := smin_facts a r h h8
    rw [← low_mod _ _ _ (Nat.le_refl _), List.length_cons, f3]
    exact low_unum (a :: r) h
theorem unum_sign (n : Int) (k : Nat) (hk : 1 ≤ k) (h8 : k ≤ 8) (h : mag n < 2 ^ (8 * k - 1)) :
    (0 ≤ n ∧ unum (low (u64n n) k) = n.toNat ∧ n.toNat < 128 * 2 ^ (8 * (k - 1))) ∨ (n < 0 ∧ (unum (low (u64n n) k) : Int) = n + 2 ^ (8 * k) ∧ 128 * 2 ^ (8 * (k - 1)) ≤ unum (low (u64n n) k)) := by
  rw [unum_low]
  obtain ⟨m, rfl⟩ : ∃ m, k = m + 1 := ⟨k - 1, by omega⟩
  rw [show 8 * (m + 1) - 1 = 8 * m + 7 by omega] at h
  rw [Nat.add_sub_cancel, show 8 * (m + 1) = 8 * m + 8 by omega]
  have e2 := pow8 m
  have e3 : 2 ^ (8 * m + 7) = 128 * 2 ^ (8 * m) := by rw [Nat.pow_add, Nat.mul_comm]
  have e4 : 2 ^ (8 * m + 8) ≤ 2 ^ 64 := pow_le (by omega)
  have e5 : ((2 : Int) ^ (8 * m + 8)) = ((2 ^ (8 * m + 8) : Nat) : Int) := by rw [Int.natCast_pow]; rfl
  have e6 : ∃ t, 18446744073709551616 = 2 ^ (8 * m + 8) * t := ⟨2 ^ (64 - (8 * m + 8)), by rw [← Nat.pow_add]; rw [show 8 * m + 8 + (64 - (8 * m + 8)) = 64 by omega]⟩
  rw [e5]
  generalize 2 ^ (8 * m + 8) = P at *
  generalize 2 ^ (8 * m + 7) = H at *
  generalize 2 ^ (8 * m) = q at *
  have hP : 2 ^ 64 = 18446744073709551616 := by decide
  by_cases hn : 0 ≤ n
  · left
    have hm := mag_pos n hn
    have hu : u64n n = n.toNat := by unfold u64n; omega
    rw [hu, Nat.mod_eq_of_lt (by omega)]
    exact ⟨hn, rfl, by omega⟩
  · right
    have hm := mag_neg n (by omega)
    obtain ⟨t, ht⟩ := e6
    have ht0 : 0 < t := by
      rcases Nat.eq_zero_or_pos t with h0 | h0
      · rw [h0] at ht; simp at ht
      · exact h0
    have hu : u64n n = (n + P).toNat + P * (t - 1) := by
      have h1 : P * t = P * (t - 1) + P := by
        obtain ⟨t', rfl⟩ : ∃ t', t = t' + 1 := ⟨t - 1, by omega⟩
        rw [Nat.add_sub_cancel, Nat.mul_add, Nat.mul_one]
      unfold u64n
      generalize P * (t - 1) = U at *
      generalize P * t = V at *
      omega
    rw [hu, Nat.add_mul_mod_self_left, Nat.mod_eq_of_lt (by omega)]
    exact ⟨by omega, by omega, by omega⟩
theorem snum_low (n : Int) (h : mag n < 2 ^ 63) : snum (low (u64n n) (scnt n)) = n ∧ smin (low (u64n n) (scnt n)) := by
  have h1 := scnt_pos n
  have h2 := scnt_lt n h
  have h3 := scnt_ge n h
  have h8 := scnt_le n h
  have hs := unum_sign n (scnt n) h1 h8 h2
  generalize scnt n = k at *
  obtain ⟨m, rfl⟩ : ∃ m, k = m + 1 := ⟨k - 1, by omega⟩
  have hl := low_cons (u64n n) m
  have hmem := low_mem (u64n n) (m + 1)
  have hlen := low_length (u64n n) (m + 1)
  generalize low (u64n n) (m + 1) = l at *
  have hr := unum_lt (low (u64n n) m) (low_mem _ _)
  rw [low_length] at hr
  have hu := unum_cons (u64n n / 2 ^ (8 * m) % 256) (low (u64n n) m)
  rw [← hl, low_length] at hu
  have ha : l.getD 0 0 = u64n n / 2 ^ (8 * m) % 256 := by rw [hl]; rfl
  rw [← ha] at hu
  have ha2 : l.getD 0 0 < 256 := by rw [ha]; omega
  generalize ha3 : l.getD 0 0 = a at *
  have e2 := pow8 m
  rw [Nat.add_sub_cancel] at hs
  have hsn : snum l = n ∧ (128 ≤ a ↔ n < 0) := by
    unfold snum
    rw [ha3, hlen]
    rcases hs with ⟨s1, s2, s3⟩ | ⟨s1, s2, s3⟩
    · have : ¬ 128 ≤ a := by
        intro h128
        have : 128 * 2 ^ (8 * m) ≤ a * 2 ^ (8 * m) := Nat.mul_le_mul_right _ h128
        omega
      rw [if_neg this]
      exact ⟨by omega, by omega⟩
    · have : 128 ≤ a := by
        rcases Nat.lt_or_ge a 128 with h128 | h128
        · have : a * 2 ^ (8 * m) ≤ 127 * 2 ^ (8 * m) := Nat.mul_le_mul_right _ (by omega)
          omega
        · exact h128
      rw [if_pos this]
      exact ⟨by omega, by omega⟩
  refine ⟨hsn.1, fun e => ?_, ?_⟩
  · rw [e] at hlen
    simp at hlen
  · rw [hlen, ha3]
    cases m with
    | zero => exact .inl rfl
    | succ j =>
      right
      have h3 := h3 (by omega)
      have hl2 := low_cons (u64n n) j
      have hb : l.getD 1 0 = u64n n / 2 ^ (8 * j) % 256 := by rw [hl, hl2]; rfl
      have hu2 := unum_cons (u64n n / 2 ^ (8 * j) % 256) (low (u64n n) j)
      rw [← hl2, low_length, ← hb] at hu2
      have hr2 := unum_lt (low (u64n n) j) (low_mem _ _)
      rw [low_length] at hr2
      have hb2 : l.getD 1 0 < 256 := by rw [hb]; omega
      generalize l.getD 1 0 = b at *
      rw [hu2] at hu
      rw [show 8 * (j + 1) = 8 * j + 8 by omega, pow8] at hu
      rw [show 8 * (j + 1 + 1 - 1) - 1 = 8 * j + 7 by omega, show 2 ^ (8 * j + 7) = 128 * 2 ^ (8 * j) by rw [Nat.pow_add, Nat.mul_comm]] at h3
      rw [show 8 * (j + 1 + 1) = 8 * j + 16 by omega, show (2 : Int) ^ (8 * j + 16) = ((65536 * 2 ^ (8 * j) : Nat) : Int) by rw [Int.natCast_mul, Int.natCast_pow, Int.pow_add, Int.mul_comm]; rfl] at hs
      generalize 2 ^ (8 * j) = q at *
      split
      · rename_i hb8
        intro ha255
        have h1 : 128 * q ≤ b * q := Nat.mul_le_mul_right _ hb8
        have hneg : n < 0 := hsn.2.1 (by omega)
        have hm := mag_neg n hneg
        rcases hs with ⟨s1, s2, s3⟩ | ⟨s1, s2, s3⟩
        · omega
        · rw [ha255] at hu
          omega
      · rename_i hb8
        intro ha0
        have h1 : b * q ≤ 127 * q := Nat.mul_le_mul_right _ (by omega)
        have hneg : ¬ n < 0 := fun hn => by have := hsn.2.2 hn; omega
        have hm := mag_pos n (by omega)
        rcases hs with ⟨s1, s2, s3⟩ | ⟨s1, s2, s3⟩
        · rw [ha0] at hu
          omega
        · omega
end Go.Proofs.YtbpfggkpfaobhaaGreat

/-
  The walks of package octets.
-/
namespace Go.Proofs.YtbpfggkpfaobhaaGreat
open Go.RowKit
set_option linter.unusedVariables false
set_option linter.unusedSimpArgs false
set_option maxRecDepth 100000

theorem tab_at (b : Int) (h : b.toNat < Lib.len8tab.size) : ((Lib.len8tab[b.toNat]'h).toNat : Int) = Lib.len8 b := by
  unfold Lib.len8
  rw [getElem?_pos Lib.len8tab b.toNat h]
  rfl
theorem len_arm (x : Int) (h0 : 0 ≤ x) (h1 : x ≤ 18446744073709551615) (b : Int) (h : b.toNat < Lib.len8tab.size) (k : Nat) (hk : 2 ^ k ≤ x ∨ k = 0) (hb : b = x / 2 ^ k) (h2 : b < 256) (hk2 : k ≤ 56) :
    wrap64 (k + wrap64 (Lib.len8tab[b.toNat]'h).toNat) = wid x.toNat := by
  have hp : (0 : Int) < 2 ^ k := Int.pow_pos (by decide)
  have hb0 : 0 ≤ b := by rw [hb]; exact Int.ediv_nonneg h0 (Int.le_of_lt hp)
  rw [tab_at b h]
  clear h
  have hb1 : b ≤ 255 := by omega
  rw [Lib.len8_of b hb0 hb1]
  have e : b.toNat = x.toNat / 2 ^ k := by
    have : ((x.toNat / 2 ^ k : Nat) : Int) = x / 2 ^ k := by rw [Int.natCast_ediv, Int.natCast_pow, Int.toNat_of_nonneg h0]; rfl
    omega
  have l := Lib.bitLen_le8' b hb0 hb1
  rw [e] at l ⊢
  have key : k + Lib.bitLen (x.toNat / 2 ^ k) = wid x.toNat := by
    unfold wid
    rcases hk with hk | hk
    · have g1 : 2 ^ k ≤ x.toNat := by
        have : ((2 ^ k : Nat) : Int) ≤ x := (by rw [Int.natCast_pow]; exact hk)
        omega
      have g2 : x.toNat < 2 ^ 64 := by omega
      exact (Lib.bitLen_shift k x.toNat g1 g2).symm
    · subst hk
      rw [Nat.pow_zero, Nat.div_one, Nat.zero_add]
  rw [← key]
  clear key e
  generalize Lib.bitLen (x.toNat / 2 ^ k) = B at *
  unfold wrap64
  omega
theorem wrap_zero (z : Int) : wrap64 (wrap64 z) = wrap64 ((0 : Nat) + wrap64 z) := by simp
set_option maxHeartbeats 4000000 in
set_option maxRecDepth 100000 in
theorem len64_ok (x : Int) (w : World) (h0 : 0 ≤ x) (h1 : x ≤ 18446744073709551615) :
    Calls Tryz.prog 66 #[.int .u64 x] w fun e w' => e = .returned (.int .i64 (wid x.toNat)) ∧ w = w' := by
  go_enter Tryz.func66, Tryz.ntmps66
  have hsz := Lib.len8tab_size
  go_wp2
  all_goals
    go_ret
    refine ⟨rint ?_, rfl⟩
    first
    | exact len_arm x h0 h1 _ _ 56 (by omega) (by omega) (by omega) (by omega)
    | exact len_arm x h0 h1 _ _ 48 (by omega) (by omega) (by omega) (by omega)
    | exact len_arm x h0 h1 _ _ 40 (by omega) (by omega) (by omega) (by omega)
    | exact len_arm x h0 h1 _ _ 32 (by omega) (by omega) (by omega) (by omega)
    | exact len_arm x h0 h1 _ _ 24 (by omega) (by omega) (by omega) (by omega)
    | exact len_arm x h0 h1 _ _ 16 (by omega) (by omega) (by omega) (by omega)
    | exact len_arm x h0 h1 _ _ 8 (by omega) (by omega) (by omega) (by omega)
    | (rw [wrap_zero]; exact len_arm x h0 h1 _ _ 0 (.inr rfl) (by omega) (by omega) (by omega))
theorem width_ok (v : Nat) (w : World) (h : v < 2 ^ 64) :
    Calls Tryz.prog 48 #[.int .u64 v] w fun e w' => e = .returned (.int .i64 (wid v)) ∧ w = w' := by
  go_enter Tryz.func48, Tryz.ntmps48
  go_wp2_with (go_at_call 66; refine (len64_ok _ _ (by omega) (by omega)).mono ?_; rintro e w' ⟨rfl, rfl⟩)
  go_ret
  exact ⟨rfl, rfl⟩
theorem count_ok (v : Nat) (w : World) (h : v < 2 ^ 64) :
    Calls Tryz.prog 98 #[.int .u64 v] w fun e w' => e = .returned (.int .i64 (cnt v)) ∧ w = w' := by
  have hw := wid_le64 v h
  unfold cnt
  go_enter Tryz.func98, Tryz.ntmps98
  go_wp2_with (go_at_call 48; refine (width_ok _ _ h).mono ?_; rintro e w' ⟨rfl, rfl⟩)
  generalize wid v = x at *
  go_ret
  exact ⟨rint (by omega), rfl⟩
/-- a slice of one's own -/
def New (w w' : World) (v : Value) (l : List Nat) : Prop := ∃ g cap, v = .slice (some ⟨g, 0, none⟩) l.length cap ∧ w.heap.size ≤ g ∧ l.length ≤ cap ∧ DataAt w' g 0 l
theorem New.sl {w w' : World} {v : Value} {l : List Nat} (h : New w w' v l) : SlAt w' v l := by
  obtain ⟨g, cap, rfl, _, _, hd⟩ := h
  exact .inl ⟨g, 0, cap, rfl, hd⟩
theorem New.below {w w' w2 : World} {v : Value} {l : List Nat} (h : New w w' v l) (hb : Below w'.heap.size w' w2) : New w w2 v l := by
  obtain ⟨g, cap, rfl, hg, hc, hd⟩ := h
  exact ⟨g, cap, rfl, hg, hc, hd.below hb⟩
theorem data_cells {w : World} {g o : Nat} {l : List Nat} (h : DataAt w g o l) : ∀ j u, (u8s l)[j]? = some u → w.cell? ((⟨g, o, none⟩ : Addr).add j) = some u := by
  intro j u hj
  rw [Addr.add_mid]
  obtain ⟨hlt, hu⟩ := List.getElem?_eq_some_iff.1 hj
  have hl : j < l.length := by simpa [u8s] using hlt
  rw [h.cell j hl, ← hu]
  simp [u8s, List.getD_eq_getElem?_getD, hl]
theorem new_of_own {w w' : World} {v : Value} {l : List Nat} (h : w'.ownsRow w.heap.size 5 1 v l.length (u8s l)) (hl : 0 < l.length) (hb : ∀ j, l.getD j 0 < 256) : New w w' v l := by
  have h2 := h.2
  rcases h2 with ⟨_, h0⟩ | ⟨g, cap, cur, hv, hg, _, hcap, _⟩
  · omega
  subst hv
  refine ⟨g, cap, rfl, hg, hcap, fun i hi => ?_, hb⟩
  rw [Nat.zero_add, h.cellAt i (by omega)]
  unfold u8s
  rw [List.getElem?_map, List.getElem?_eq_getElem hi, List.getD_eq_getElem?_getD, List.getElem?_eq_getElem hi]
  rfl
theorem add_ok (w : World) (g o cap : Nat) (l : List Nat) (hd : DataAt w g o l) (h0 : 0 < l.length) (hl : l.length ≤ 1000000) :
    Calls Tryz.prog 104 #[.slice none 0 0, .slice (some ⟨g, o, none⟩) l.length cap] w fun e w' => ∃ v, e = .returned v ∧ New w w' v l ∧ Below w.heap.size w w' := by
  obtain ⟨i0, hi, hz0, hz1, hz2⟩ := info_parts info_u8
  have hown0 := World.ownsRow_nil w w.heap.size 5 1
  have HD := Lib.hid hd
  clear hd
  go_enter Tryz.func104, Tryz.ntmps104
  go_wp2_with (at_builtin; refine wpList_append_own _ rfl (.tmp 5) (.tmp 6) 22 rfl w.heap.size 5 i0 (.int .u8 0) 1 1 Tryz.underlying22 hi hz0 hz1 hz2 rfl (by decide) _ 0 [] rfl hown0 ⟨g, o, none⟩ l.length cap (u8s l) rfl (by simp [u8s]) (data_cells HD.out) (u8s_one l) (by unfold maxLen; omega) (by omega) (Nat.le_refl _) ?_; intro v' w4 hown4 hgr4 _)
  go_ret
  rw [Nat.zero_add, List.nil_append] at hown4
  exact ⟨_, rfl, new_of_own hown4 h0 HD.out.byte, (Below.refl _ _).grown hgr4 (Nat.le_refl _) (fun k hk => by cases hk)⟩
theorem eight_cells (v : Nat) (h : v < 2 ^ 64) : (u8s (low v 8)).toArray = #[Value.int IntKind.u8 ((v : Int) / 72057594037927936), Value.int IntKind.u8 ((v : Int) / 281474976710656 % 256),
          Value.int IntKind.u8 ((v : Int) / 1099511627776 % 256), Value.int IntKind.u8 ((v : Int) / 4294967296 % 256),
          Value.int IntKind.u8 ((v : Int) / 16777216 % 256), Value.int IntKind.u8 ((v : Int) / 65536 % 256),
          Value.int IntKind.u8 ((v : Int) / 256 % 256), Value.int IntKind.u8 ((v : Int) % 256)] := by
  have e : (v : Int) / 72057594037927936 = ((v / 72057594037927936 % 256 : Nat) : Int) := by omega
  rw [e]
  simp [u8s, low, List.range_succ]
theorem low_drop (v k : Nat) (h8 : k ≤ 8) (i : Nat) (hi : i < k) : (low v 8).getD (8 - k + i) 0 = (low v k).getD i 0 := by
  rw [low_getD _ _ _ (by omega), low_getD _ _ _ hi]
  congr 3
  omega
set_option maxHeartbeats 1000000 in
theorem lowest_ok (v k : Nat) (w : World) (h : v < 2 ^ 64) (h1 : 1 ≤ k) (h8 : k ≤ 8) :
    Calls Tryz.prog 102 #[.int .u64 v, .int .i64 k] w fun e w' => ∃ s, e = .returned s ∧ New w w' s (low v k) ∧ Below w.heap.size w w' := by
  have hc := eight_cells v h
  have hd : DataAt (w.alloc (.cells (u8s (low v 8)).toArray 5)) w.heap.size 0 (low v 8) := data_of_row _ _ _ (heap_alloc_new _ _) (low_lt v 8)
  have HB := Lib.hid ((Below.refl w.heap.size w).alloc (Nat.le_refl _) (.cells (u8s (low v 8)).toArray 5))
  have c1 := add_ok _ _ 0 8 (low v 8) hd (by rw [low_length]; omega) (by rw [low_length]; omega)
  rw [low_length] at c1
  rw [hc] at c1 HB
  clear hc hd
  go_enter Tryz.func102, Tryz.ntmps102
  go_wp2_with fail
  refine c1.mono ?_
  rintro e w1 ⟨s, rfl, ⟨g, cap, rfl, hg, hcap, hd⟩, hb⟩
  have HB1 := Lib.hid (HB.out.trans (hb.mono (by simp)))
  have HD := Lib.hid hd
  clear c1 hd hb HB
  rw [low_length] at hcap ⊢
  have hd2 : DataAt w1 g (8 - k) (low v k) := ⟨fun i hi => by
    rw [low_length] at hi
    have := HD.out.cell (8 - k + i) (by rw [low_length]; omega)
    rw [Nat.zero_add, low_drop v k h8 i hi] at this
    exact this, low_lt v k⟩
  have c2 := add_ok w1 g (8 - k) (cap - (8 - k)) (low v k) hd2 (by rw [low_length]; omega) (by rw [low_length]; omega)
  rw [show (low v k).length = 8 - (8 - k) by rw [low_length]; omega] at c2
  have C2 := Lib.hid c2
  clear c2 hd2
  go_wp2_with fail
  refine C2.out.mono ?_
  rintro e w2 ⟨s, rfl, ⟨g2, cap2, rfl, hg2, hcap2, hd2⟩, hb2⟩
  have hsz := HB1.out.size
  go_wp2_with fail
  go_ret
  exact ⟨_, rfl, ⟨g2, cap2, rfl, by omega, hcap2, hd2⟩, HB1.out.trans (hb2.mono hsz)⟩
end Go.Proofs.YtbpfggkpfaobhaaGreat

/-
  The walks of package octets: there and back.
-/
namespace Go.Proofs.YtbpfggkpfaobhaaGreat
open Go.RowKit
set_option linter.unusedVariables false
set_option linter.unusedSimpArgs false
set_option maxRecDepth 100000

theorem i64_bounds {n : Int} (h : (Lit.int .i64 n).wf = true) : -9223372036854775808 ≤ n ∧ n ≤ 9223372036854775807 := by
  simp [Lit.wf, IntKind.min, IntKind.max, IntKind.signed, IntKind.bits] at h
  omega
theorem u64_bounds {n : Int} (h : (Lit.int .u64 n).wf = true) : 0 ≤ n ∧ n ≤ 18446744073709551615 := by
  simp [Lit.wf, IntKind.min, IntKind.max, IntKind.signed, IntKind.bits] at h
  omega
theorem unsigned_ok (v : Nat) (w : World) (h : v < 2 ^ 64) :
    Calls Tryz.prog 99 #[.int .u64 v] w fun e w' => ∃ s, e = .returned s ∧ New w w' s (low v (cnt v)) ∧ Below w.heap.size w w' := by
  have c1 := cnt_pos v
  have c8 := cnt_le v h
  go_enter Tryz.func99, Tryz.ntmps99
  go_wp2_with (first | (go_at_call 98; refine (count_ok _ _ h).mono ?_; rintro e w' ⟨rfl, rfl⟩) | (go_at_call 102; refine (lowest_ok _ _ _ h c1 c8).mono ?_; rintro e w1 ⟨s, rfl, hn, hb⟩; have HN := Lib.hid hn; have HB := Lib.hid hb; clear hn hb))
  go_ret
  exact ⟨_, rfl, HN.out, HB.out⟩
theorem xor_mag (n : Int) (h : mag n < 2 ^ 63) (hn : n < 0) : IntKind.u64.wrap (bits BinOp.xor IntKind.i64 (-1) n) = mag n := by
  have hm := mag_neg n hn
  have h1 : BitVec.ofInt 64 (-1) = BitVec.allOnes 64 := by decide
  have key : (BitVec.ofInt 64 (-1) ^^^ BitVec.ofInt 64 n).toNat = 2 ^ 64 - 1 - (n % ((2 ^ 64 : Nat) : Int)).toNat := by
    rw [h1, BitVec.allOnes_xor, BitVec.toNat_not, BitVec.toNat_ofInt]
  have e : bits BinOp.xor IntKind.i64 (-1) n = IntKind.i64.wrap (((BitVec.ofInt 64 (-1) ^^^ BitVec.ofInt 64 n).toNat : Nat) : Int) := rfl
  rw [e, key, IntKind.wrap_i64, IntKind.wrap_u64]
  omega
theorem wrap_u64n (n : Int) : IntKind.u64.wrap n = u64n n := by rw [IntKind.wrap_u64, u64n_cast]
/-! ### back -/
def sgn (x : Nat) : Nat := if 128 ≤ x then 255 else 0
theorem sgn_eq (x : Nat) (h : x < 256) : -((x : Int) / 128) % 256 = (sgn x : Nat) := by
  unfold sgn
  split <;> omega
/-- a number with octets behind it, in 64 bits -/
def ext (v : Nat) (l : List Nat) : Nat := (v * 2 ^ (8 * l.length) + unum l) % 2 ^ 64
theorem ext_lt (v : Nat) (l : List Nat) : ext v l < 2 ^ 64 := Nat.mod_lt _ (by decide)
theorem ext_nil (v : Nat) (h : v < 2 ^ 64) : ext v [] = v := by unfold ext; rw [unum_nil]; simpa using Nat.mod_eq_of_lt h
theorem ext_snoc (v : Nat) (l : List Nat) (b : Nat) : ext v (l ++ [b]) = (256 * ext v l + b) % 2 ^ 64 := by
  unfold ext
  rw [unum_snoc, List.length_append, List.length_singleton, show 8 * (l.length + 1) = 8 * l.length + 8 by omega, pow8]
  rw [show v * (256 * 2 ^ (8 * l.length)) = 256 * (v * 2 ^ (8 * l.length)) by rw [Nat.mul_left_comm]]
  omega
def RelX (w : World) (v : Nat) (l : List Nat) (x i : Value) (wr : World) : Prop := ∃ j : Nat, j ≤ l.length ∧ i = .int .i64 j ∧ x = .int .u64 (ext v (l.take j) : Nat) ∧ wr = w
theorem relX_next {w : World} {v : Nat} {l : List Nat} {j : Nat} {x : Int} (hj : j < l.length) (hx : x = (ext v (l.take (j + 1)) : Nat)) : RelX w v l (.int .u64 x) (.int .i64 ((j : Int) + 1)) w :=
  ⟨j + 1, hj, rfl, by rw [hx], rfl⟩
theorem ext_next (v : Nat) (l : List Nat) (j : Nat) (hj : j < l.length) : ext v (l.take (j + 1)) = (256 * ext v (l.take j) + l.getD j 0) % 2 ^ 64 := by
  rw [List.take_succ_eq_append_getElem hj, ext_snoc, List.getD_eq_getElem?_getD, List.getElem?_eq_getElem hj]
  rfl
theorem or_shift (x b : Nat) (hx : x < 2 ^ 64) (hb : b < 256) : bits BinOp.or IntKind.u64 ((x : Int) * 256 % 18446744073709551616) (b : Int) = (((256 * x + b) % 2 ^ 64 : Nat) : Int) := by
  have e : (x : Int) * 256 % 18446744073709551616 = ((256 * (x % 2 ^ 56) : Nat) : Int) := by omega
  rw [e, bits_or_u64_nat _ _ (by omega) (by omega)]
  rw [show 256 * (x % 2 ^ 56) = 2 ^ 8 * (x % 2 ^ 56) from rfl, ← Nat.two_pow_add_eq_or_of_lt (by omega)]
  congr 1
  omega
theorem extend_at (v : Nat) (w : World) (g o cap : Nat) (l : List Nat) (hd : DataAt w g o l) (hv : v < 2 ^ 64) (hl : l.length ≤ 1000000) :
    Calls Tryz.prog 105 #[.int .u64 v, .slice (some ⟨g, o, none⟩) l.length cap] w fun e w' => e = .returned (.int .u64 (ext v l : Nat)) ∧ w = w' := by
  have HD := Lib.hid hd
  clear hd
  go_enter Tryz.func105, Tryz.ntmps105
  go_wp2_with fail
  go_loopw [0, 9] (fun x i wr => RelX w v l x i wr) (fun _ i _ => l.length - (intOf i).toNat)
  case atStart => exact ⟨0, Nat.zero_le _, rfl, by rw [List.take_zero, ext_nil v hv], rfl⟩
  case round =>
    obtain ⟨j, hj, rfl, rfl, rfl⟩ := hrel
    by_cases hlt : j < l.length
    · have hc := HD.out.cell j hlt
      have hb := HD.out.byte j
      have HN := Lib.hid (ext_next v l j hlt)
      have hx := ext_lt v (l.take j)
      generalize ext v (l.take j) = y at *
      generalize l.getD j 0 = b at *
      have HO := Lib.hid (or_shift y b hx hb)
      go_wp2_with fail
      go_roundw
      case rel => exact relX_next hlt (by rw [HN.out]; exact HO.out)
      case measure => simp [intOf]; omega
    · obtain rfl : j = l.length := by omega
      rw [List.take_length]
      go_wp2_with fail
      go_ret
      exact ⟨rfl, rfl⟩
end Go.Proofs.YtbpfggkpfaobhaaGreat

/-
  The walks of package octets: which number octets are, or why none.
-/
namespace Go.Proofs.YtbpfggkpfaobhaaGreat
open Go.RowKit
set_option linter.unusedVariables false
set_option linter.unusedSimpArgs false
set_option maxRecDepth 100000

def uerr (l : List Nat) : Int := if l = [] ∨ (l.length ≠ 1 ∧ l.getD 0 0 = 0) then 3 else if 8 < l.length then 11 else 0
def uval (l : List Nat) : Nat := if uerr l = 0 then unum l else 0
def serr (l : List Nat) : Int := if l = [] ∨ (l.length ≠ 1 ∧ l.getD 0 0 = sgn (l.getD 1 0)) then 3 else if 8 < l.length then 11 else 0
def sval (l : List Nat) : Int := if serr l = 0 then snum l else 0
theorem uval_bad {l : List Nat} (h : uerr l ≠ 0) : uval l = 0 := if_neg h
theorem uval_good {l : List Nat} (h : uerr l = 0) : uval l = unum l := if_pos h
theorem ext_zero (l : List Nat) (hl : ∀ i, l.getD i 0 < 256) (h8 : l.length ≤ 8) : ext 0 l = unum l := by
  unfold ext
  have h1 := unum_lt l (mem_lt hl)
  have h2 : 2 ^ (8 * l.length) ≤ 2 ^ 64 := pow_le (by omega)
  rw [Nat.zero_mul, Nat.zero_add, Nat.mod_eq_of_lt (by omega)]
theorem extend_zero (w : World) (g o cap : Nat) (l : List Nat) (hd : DataAt w g o l) (n : Nat) (hn : l.length = n) (h8 : n ≤ 8) :
    Calls Tryz.prog 105 #[.int .u64 0, .slice (some ⟨g, o, none⟩) n cap] w fun e w' => e = .returned (.int .u64 (unum l : Nat)) ∧ w = w' := by
  subst hn
  have h := extend_at 0 w g o cap l hd (by omega) (by omega)
  rw [ext_zero l hd.byte h8] at h
  exact h
theorem fromU_at (w : World) (g o cap : Nat) (l : List Nat) (hd : DataAt w g o l) (n : Nat) (hn : l.length = n) (h0 : 0 < n) (hl : n ≤ 9223372036854775807) :
    Calls Tryz.prog 103 #[.slice (some ⟨g, o, none⟩) n cap] w fun e w' => e = .returned (.tuple #[.int .u64 (uval l : Nat), .int .i64 (uerr l)]) ∧ w = w' := by
  have hc0 := hd.cell 0 (by omega)
  rw [Nat.add_zero] at hc0
  have hb0 := hd.byte 0
  have hne : l ≠ [] := by rintro rfl; simp at hn; omega
  by_cases h1 : n = 1
  · have he : uerr l = 0 := by unfold uerr; rw [if_neg (by simp [hne, hn, h1]), if_neg (by omega)]
    have HE := Lib.hid he
    subst h1
    have C := Lib.hid (extend_zero w g o cap l hd _ hn (by omega))
    clear he hd hn hne
    go_enter Tryz.func103, Tryz.ntmps103
    go_wp2_with (go_at_call 105; refine C.out.mono ?_; rintro e w' ⟨rfl, rfl⟩)
    go_ret2
    rw [HE.out, uval_good HE.out]
    exact ⟨rfl, rfl⟩
  · by_cases hz : l.getD 0 0 = 0
    · have he : uerr l = 3 := by unfold uerr; rw [if_pos (.inr ⟨by omega, hz⟩)]
      have HE := Lib.hid he
      rw [hz] at hc0
      clear he hd hn hne hb0 hz
      go_enter Tryz.func103, Tryz.ntmps103
      go_wp2_with fail
      go_ret2
      rw [HE.out, uval_bad (by rw [HE.out]; decide)]
      exact ⟨rfl, rfl⟩
    · by_cases h8 : 8 < n
      · have he : uerr l = 11 := by unfold uerr; rw [if_neg (fun h => h.elim hne fun h => hz h.2), if_pos (by omega)]
        have HE := Lib.hid he
        clear he hd hn hne
        generalize l.getD 0 0 = x at *
        have hq1 : ((n : Int) == 0) = false := by rw [beq_eq_false_iff_ne]; omega
        have hq2 : ((x : Int) == 0) = false := by rw [beq_eq_false_iff_ne]; omega
        go_enter Tryz.func103, Tryz.ntmps103
        go_wp2_with fail
        go_ret2
        rw [HE.out, uval_bad (by rw [HE.out]; decide)]
        exact ⟨rfl, rfl⟩
      · have he : uerr l = 0 := by unfold uerr; rw [if_neg (fun h => h.elim hne fun h => hz h.2), if_neg (by omega)]
        have HE := Lib.hid he
        have C := Lib.hid (extend_zero w g o cap l hd n hn (by omega))
        clear he hd hn hne
        generalize l.getD 0 0 = x at *
        have hq1 : ((n : Int) == 0) = false := by rw [beq_eq_false_iff_ne]; omega
        have hq2 : ((x : Int) == 0) = false := by rw [beq_eq_false_iff_ne]; omega
        go_enter Tryz.func103, Tryz.ntmps103
        go_wp2_with (go_at_call 105; refine C.out.mono ?_; rintro e w' ⟨rfl, rfl⟩)
        go_ret2
        rw [HE.out, uval_good HE.out]
        exact ⟨rfl, rfl⟩
theorem fromU_none (w : World) (a : Option Addr) (cap : Nat) :
    Calls Tryz.prog 103 #[.slice a 0 cap] w fun e w' => e = .returned (.tuple #[.int .u64 (uval [] : Nat), .int .i64 (uerr [])]) ∧ w = w' := by
  go_enter Tryz.func103, Tryz.ntmps103
  go_wp2_with fail
  go_ret2
  exact ⟨rfl, rfl⟩
theorem fromU_ok (w : World) (s : Value) (l : List Nat) (h : SlAt w s l) (hl : l.length ≤ 9223372036854775807) :
    Calls Tryz.prog 103 #[s] w fun e w' => e = .returned (.tuple #[.int .u64 (uval l : Nat), .int .i64 (uerr l)]) ∧ w = w' := by
  rcases h with ⟨g, o, cap, rfl, hd⟩ | ⟨rfl, a, cap, rfl⟩
  · by_cases h0 : l = []
    · subst h0
      exact fromU_none w _ _
    · exact fromU_at w g o cap l hd _ rfl (by cases l <;> simp_all) hl
  · exact fromU_none w _ _
theorem sval_bad {l : List Nat} (h : serr l ≠ 0) : sval l = 0 := if_neg h
theorem sval_good {l : List Nat} (h : serr l = 0) : sval l = snum l := if_pos h
theorem ext_sign (l : List Nat) (hl : ∀ i, l.getD i 0 < 256) (h0 : 0 < l.length) (h8 : l.length ≤ 8) (v : Nat) (hv : (v : Int) = -((l.getD 0 0 : Nat) / 128 : Int) % 18446744073709551616) : wrap64 (ext v l : Nat) = snum l := by
  cases l with
  | nil => simp at h0
  | cons a r =>
    obtain ⟨f1, f2, f3, f4⟩ := smin_facts a r (mem_lt hl) h8
    have hN := unum_lt (a :: r) (mem_lt hl)
    have ha := hl 0
    simp only [List.getD_cons_zero] at ha hv
    have e4 : 2 ^ (8 * (a :: r).length) ≤ 2 ^ 64 := pow_le (by omega)
    unfold ext snum
    simp only [List.getD_cons_zero]
    rw [List.length_cons] at *
    have e2 : 2 ^ (8 * (r.length + 1)) = 256 * 2 ^ (8 * r.length) := pow8 r.length
    have e5 : ((2 : Int) ^ (8 * (r.length + 1))) = ((2 ^ (8 * (r.length + 1)) : Nat) : Int) := by rw [Int.natCast_pow]; rfl
    have e1 := unum_cons a r
    have hr := unum_lt r (mem_lt (fun i => hl (i + 1)))
    rw [e5]
    by_cases h128 : 128 ≤ a
    · rw [if_pos h128]
      have hv1 : v = 18446744073709551615 := by omega
      rw [hv1]
      have b1 : 128 * 2 ^ (8 * r.length) ≤ a * 2 ^ (8 * r.length) := Nat.mul_le_mul_right _ h128
      generalize 2 ^ (8 * (r.length + 1)) = P at *
      unfold wrap64
      omega
    · rw [if_neg h128]
      have hv0 : v = 0 := by omega
      rw [hv0]
      have b1 : a * 2 ^ (8 * r.length) ≤ 127 * 2 ^ (8 * r.length) := Nat.mul_le_mul_right _ (by omega)
      generalize 2 ^ (8 * (r.length + 1)) = P at *
      unfold wrap64
      omega
theorem extend_sign (w : World) (g o cap : Nat) (l : List Nat) (hd : DataAt w g o l) (n : Nat) (hn : l.length = n) (h0 : 0 < n) (h8 : n ≤ 8) (x : Nat) (hx : l.getD 0 0 = x) :
    Calls Tryz.prog 105 #[.int .u64 (IntKind.u64.wrap (-((x : Int) / 128))), .slice (some ⟨g, o, none⟩) n cap] w fun e w' => (∃ x : Nat, e = .returned (.int .u64 x) ∧ x < 2 ^ 64 ∧ wrap64 x = snum l) ∧ w = w' := by
  subst hn hx
  have e : ∃ v : Nat, v < 2 ^ 64 ∧ IntKind.u64.wrap (-(((l.getD 0 0 : Nat) : Int) / 128)) = v := ⟨(-(((l.getD 0 0 : Nat) : Int) / 128) % 18446744073709551616).toNat, by omega, by rw [IntKind.wrap_u64]; omega⟩
  obtain ⟨v, hv2, hv⟩ := e
  rw [hv]
  rw [IntKind.wrap_u64] at hv
  refine (extend_at v w g o cap l hd hv2 (by omega)).mono ?_
  rintro e w' ⟨rfl, rfl⟩
  exact ⟨⟨_, rfl, ext_lt _ _, ext_sign l hd.byte h0 h8 v hv.symm⟩, rfl⟩
end Go.Proofs.YtbpfggkpfaobhaaGreat
