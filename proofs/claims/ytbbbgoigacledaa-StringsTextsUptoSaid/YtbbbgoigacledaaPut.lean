/-
  A Writer's methods Put, Align, Octets, Len, Bytes, in the words of its bits.
-/
import Derived.Test.YtbbbgoigacledaaWr
import Derived.Laws.CopyOwn
namespace Go.Proofs.Ytbbbgoigacledaa
open Go.RowKit
set_option linter.unusedVariables false
set_option linter.unusedSimpArgs false
set_option maxRecDepth 100000

theorem oct_one : ∀ u, u < 8 → ∀ t : Bool, oct (List.replicate u false ++ [t]) 0 = t.toNat * 2 ^ (7 - u) := by decide
theorem bit_one (v s : Nat) : v / 2 ^ s % 256 &&& 1 = (v.testBit s).toNat := by
  rw [Nat.testBit_eq_decide_div_mod_eq, nat_mask1, Nat.mod_mod_of_dvd _ (by decide : 2 ∣ 256)]
  have : v / 2 ^ s % 2 < 2 := Nat.mod_lt _ (by omega)
  by_cases h : v / 2 ^ s % 2 = 1
  · simp [h]
  · have h0 : v / 2 ^ s % 2 = 0 := by omega
    simp [h0]
theorem put_arg (v s n : Nat) : bits BinOp.and IntKind.u8 ((v : Int) / 2 ^ s % 256) 1 * 2 ^ (7 - n % 8) % 256 = ((oct (List.replicate (n % 8) false ++ [v.testBit s]) 0 : Nat) : Int) := by
  have e1 : ((v : Int) / 2 ^ s % 256) = ((v / 2 ^ s % 256 : Nat) : Int) := by
    rw [Int.natCast_emod, Int.natCast_ediv, Int.natCast_pow]; rfl
  rw [e1, show (1 : Int) = ((1 : Nat) : Int) from rfl, u8_and_nat _ _ (Nat.mod_lt _ (by omega)) (by omega), bit_one, oct_one _ (Nat.mod_lt _ (by omega))]
  have hlt : (v.testBit s).toNat * 2 ^ (7 - n % 8) < 256 := by
    have h1 : (v.testBit s).toNat ≤ 1 := by cases v.testBit s <;> simp
    have h2 : 2 ^ (7 - n % 8) ≤ 2 ^ 7 := Nat.pow_le_pow_right (by omega) (by omega)
    have := Nat.mul_le_mul h1 h2
    omega
  have h3 := congrArg (fun n : Nat => (n : Int)) (Nat.mod_eq_of_lt hlt)
  simp only [Int.natCast_emod, Int.natCast_mul, Int.natCast_pow] at h3
  rw [Int.natCast_mul, Int.natCast_pow]
  exact h3
theorem WrAt.len65 {w : World} {b : Nat} {B : List Bool} (h : WrAt w b B) : w.cell? ⟨b, 65, none⟩ = some (.int .i64 B.length) := by
  obtain ⟨c, hb, _⟩ := h
  exact cell_of_list hb (wrCells_len _ _ _)
theorem put_ok (w : World) (b : Nat) (B : List Bool) (v k : Nat) (h : WrAt w b B) (hk : k ≤ 64) (hv : v < 2 ^ k) (hn : B.length ≤ 100000000000) :
    Calls Try.prog 30 #[.pointer (some ⟨b, 0, none⟩), .int .u64 v, .int .i64 k] w fun e w' =>
      e = .returned (.int .i64 0) ∧ WrAt w' b (B ++ nb v k) ∧ Only b w w' := by
  go_enter Try.func30, Try.ntmps30
  have hz : ((v : Int) / 2 ^ k != 0) = false := by
    have : (v : Int) / 2 ^ k = 0 := by
      rw [Int.ediv_eq_zero_of_lt (by omega) (by exact_mod_cast hv)]
    simp [this]
  have hw1 : widthB k = true := by simp [widthB]; omega
  go_wp2_with (go_at_call 49; refine (isWidth_any _ _).mono ?_; rintro e w' ⟨rfl, rfl⟩)
  go_loopw [23] (fun i wr => ∃ j : Nat, j ≤ k ∧ i = .int .i64 j ∧ WrAt wr b (B ++ (nb v k).take j) ∧ Only b w wr) (fun i _ => k - (intOf i).toNat)
  case atStart => exact ⟨0, Nat.zero_le _, rfl, by simpa using h, Only.refl _ _⟩
  case round =>
    obtain ⟨j, hj, rfl, hwr, hon⟩ := hrel
    have hlen : (B ++ (nb v k).take j).length = B.length + j := by simp [nb_length]; omega
    by_cases hlt : j < k
    · have h65 := hwr.len65
      rw [hlen] at h65
      have HWR := Lib.hid hwr
      have HON := Lib.hid hon
      have HL := Lib.hid hlen
      clear hwr hon hlen
      go_wp2_with fail
      rw [show (B.length + j) % 8 = (B.length + j) % 8 from rfl, put_arg v (k - 1 - j) (B.length + j)]
      have hx := HL.out
      refine (add_abs wr b _ [v.testBit (k - 1 - j)] _ HWR.out (by rw [hx]; simp; omega) (by rw [hx]) (by rw [hx]; omega)).mono ?_
      rintro e w' ⟨rfl, hwr', hon'⟩
      rw [List.append_assoc, ← nb_take_succ v k j hlt] at hwr'
      have HWR' := Lib.hid hwr'
      have HON' := Lib.hid (HON.out.trans hon')
      clear hwr' hon' hx HWR HON HL h65
      go_wp2_with fail
      go_roundw
      case rel => exact ⟨j + 1, by omega, by go_num, HWR'.out, HON'.out⟩
      case measure => simp [intOf]; omega
    · obtain rfl : j = k := by omega
      have hwr' : WrAt wr b (B ++ nb v j) := by rwa [List.take_of_length_le (by rw [nb_length]; omega)] at hwr
      have HWR' := Lib.hid hwr'
      have HON' := Lib.hid hon
      clear hwr hon hlen hwr'
      go_wp2_with fail
      go_ret
      exact ⟨rfl, HWR'.out, HON'.out⟩

theorem put_wide (w : World) (b : Nat) (v : Nat) (z : Int) (hz : widthB z = false) :
    Calls Try.prog 30 #[.pointer (some ⟨b, 0, none⟩), .int .u64 v, .int .i64 z] w fun e w' => e = .returned (.int .i64 1) ∧ w = w' := by
  go_enter Try.func30, Try.ntmps30
  go_wp2_with (go_at_call 49; refine (isWidth_any _ _).mono ?_; rintro e w' ⟨rfl, rfl⟩)
  go_ret
  exact ⟨rfl, rfl⟩
theorem put_big (w : World) (b : Nat) (v k : Nat) (hk : k ≤ 64) (hv : 2 ^ k ≤ v) :
    Calls Try.prog 30 #[.pointer (some ⟨b, 0, none⟩), .int .u64 v, .int .i64 k] w fun e w' => e = .returned (.int .i64 1) ∧ w = w' := by
  go_enter Try.func30, Try.ntmps30
  have hz : ((v : Int) / 2 ^ k != 0) = true := by
    have h1 : 1 ≤ v / 2 ^ k := by
      have := Nat.div_le_div_right (c := 2 ^ k) hv
      rwa [Nat.div_self (Nat.two_pow_pos k)] at this
    have h2 : (v : Int) / 2 ^ k = ((v / 2 ^ k : Nat) : Int) := by rw [Int.natCast_ediv, Int.natCast_pow]; rfl
    rw [h2]
    simp; omega
  have hw1 : widthB k = true := by simp [widthB]; omega
  go_wp2_with (go_at_call 49; refine (isWidth_any _ _).mono ?_; rintro e w' ⟨rfl, rfl⟩)
  go_ret
  exact ⟨rfl, rfl⟩
theorem put_nil (w : World) (v z : Int) :
    Calls Try.prog 30 #[.pointer none, .int .u64 v, .int .i64 z] w fun e w' => e = .returned (.int .i64 1) ∧ w = w' := by
  go_enter Try.func30, Try.ntmps30
  go_wp2_with fail
  go_ret
  exact ⟨rfl, rfl⟩

theorem oct_false (m : Nat) : oct (List.replicate m false) 0 = 0 := by
  apply Nat.eq_of_testBit_eq
  intro i
  rw [oct_testBit, List.getD_eq_getElem?_getD, List.getElem?_replicate]
  split <;> simp
theorem align_ok (w : World) (b : Nat) (B : List Bool) (h : WrAt w b B) (hn : B.length ≤ 100000000000) :
    Calls Try.prog 73 #[.pointer (some ⟨b, 0, none⟩)] w fun e w' => e = .returned (.tuple #[]) ∧ WrAt w' b (padded B) ∧ Only b w w' := by
  have h65 := h.len65
  go_enter Try.func73, Try.ntmps73
  have HW := Lib.hid h
  clear h
  go_wp2_with (go_at_call 86; refine (gap_any _ _ (by omega)).mono ?_; rintro e w' ⟨rfl, rfl⟩)
  have hx := add_abs w b B (List.replicate ((8 - B.length % 8) % 8) false) 0 HW.out (by simp; omega) (by rw [List.replicate_append_replicate, oct_false]) (by omega)
  rw [List.length_replicate] at hx
  refine hx.mono ?_
  rintro e w' ⟨rfl, h1, h2⟩
  have H1 := Lib.hid h1
  have H2 := Lib.hid h2
  clear h1 h2 hx
  go_wp2_with fail
  go_end0
  exact ⟨rfl, H1.out, H2.out⟩
theorem align_nil (w : World) : Calls Try.prog 73 #[.pointer none] w fun e w' => e = .returned (.tuple #[]) ∧ w = w' := by
  go_enter Try.func73, Try.ntmps73
  go_wp2_with fail
  go_end0
  exact ⟨rfl, rfl⟩
theorem len_ok (w : World) (b : Nat) (B : List Bool) (h : WrAt w b B) :
    Calls Try.prog 14 #[.pointer (some ⟨b, 0, none⟩)] w fun e w' => e = .returned (.int .i64 B.length) ∧ w = w' := by
  have h65 := h.len65
  go_enter Try.func14, Try.ntmps14
  clear h
  go_wp2_with fail
  go_ret
  exact ⟨rfl, rfl⟩
theorem len_nil (w : World) : Calls Try.prog 14 #[.pointer none] w fun e w' => e = .returned (.int .i64 0) ∧ w = w' := by
  go_enter Try.func14, Try.ntmps14
  go_wp2_with fail
  go_ret
  exact ⟨rfl, rfl⟩

/-- octets l lie in block g from offset o on -/
structure DataAt (w : World) (g o : Nat) (l : List Nat) : Prop where
  cell : ∀ i, i < l.length → w.cell? ⟨g, o + i, none⟩ = some (.int .u8 (l.getD i 0 : Nat))
  byte : ∀ i, l.getD i 0 < 256
theorem DataAt.keep {w w' : World} {g o b : Nat} {l : List Nat} (h : DataAt w g o l) (ho : Only b w w') (hg : g ≠ b) : DataAt w' g o l :=
  ⟨fun i hi => by
    have hc := h.cell i hi
    rw [← hc]
    exact World.cell?_of_block (w := w) (ho.block g (World.block_lt_of_cell? w _ hc) hg), h.byte⟩
theorem DataAt.below {w w' : World} {g o : Nat} {l : List Nat} (h : DataAt w g o l) (ho : Below w.heap.size w w') : DataAt w' g o l :=
  ⟨fun i hi => by
    have hc := h.cell i hi
    rw [← hc]
    exact World.cell?_of_block (w := w) (ho.block g (World.block_lt_of_cell? w _ hc)), h.byte⟩

theorem oct_first : ∀ u, u < 8 → ∀ o, o < 256 → oct (List.replicate u false ++ (nb o 8).take (8 - u)) 0 = o / 2 ^ u := by
  intro u hu o ho
  apply Nat.eq_of_testBit_eq
  intro i
  rw [oct_testBit, Nat.testBit_div_two_pow]
  rcases Nat.lt_or_ge i 8 with hi | hi
  · simp only [hi, decide_true, Bool.true_and]
    rw [List.getD_eq_getElem?_getD]
    rcases Nat.lt_or_ge (8 * 0 + (7 - i)) u with h | h
    · rw [List.getElem?_append_left (by simpa using h), List.getElem?_replicate, if_pos h]
      have : o < 2 ^ (i + u) := Nat.lt_of_lt_of_le ho (by have := Nat.pow_le_pow_right (n := 2) (by omega) (show 8 ≤ i + u by omega); simpa using this)
      rw [Nat.testBit_lt_two_pow this]; rfl
    · rw [List.getElem?_append_right (by simpa using h), List.length_replicate, List.getElem?_take, if_pos (by omega), ← List.getD_eq_getElem?_getD, nb_getD _ _ _ (by omega)]
      congr 1; omega
  · have h1 : o < 2 ^ (i + u) := Nat.lt_of_lt_of_le ho (by have := Nat.pow_le_pow_right (n := 2) (by omega) (show 8 ≤ i + u by omega); simpa using this)
    rw [Nat.testBit_lt_two_pow h1]
    simp; omega
theorem oct_second : ∀ u, u < 8 → ∀ o, o < 256 → oct ((nb o 8).drop (8 - u)) 0 = o * 2 ^ (8 - u) % 256 := by
  intro u hu o ho
  apply Nat.eq_of_testBit_eq
  intro i
  rw [oct_testBit, show 256 = 2 ^ 8 from rfl, Nat.testBit_mod_two_pow]
  rcases Nat.lt_or_ge i 8 with hi | hi
  · simp only [hi, decide_true, Bool.true_and]
    rw [Nat.testBit_mul_two_pow, List.getD_eq_getElem?_getD, List.getElem?_drop]
    rcases Nat.lt_or_ge i (8 - u) with h | h
    · rw [List.getElem?_eq_none (by rw [nb_length]; omega)]
      simp; omega
    · rw [← List.getD_eq_getElem?_getD, nb_getD _ _ _ (by omega)]
      simp [h]
      congr 1; omega
  · have : ¬ i < 8 := by omega
    simp [this]
theorem bitsOf_take_succ (l : List Nat) (k : Nat) (h : k < l.length) : bitsOf (l.take (k + 1)) = bitsOf (l.take k) ++ nb (l.getD k 0) 8 := by
  rw [List.take_succ_eq_append_getElem h, bitsOf_append]
  simp [bitsOf, List.getD_eq_getElem?_getD, h]

theorem woctets_at (w : World) (b : Nat) (B : List Bool) (g o cap : Nat) (l : List Nat) (h : WrAt w b B) (hd : DataAt w g o l) (hg : g ≠ b) (hn : B.length ≤ 10000000000) (hl : l.length ≤ 1000000000) :
    Calls Try.prog 34 #[.pointer (some ⟨b, 0, none⟩), .slice (some ⟨g, o, none⟩) l.length cap] w fun e w' =>
      e = .returned (.int .i64 0) ∧ WrAt w' b (B ++ bitsOf l) ∧ Only b w w' := by
  have h65 := h.len65
  have HW := Lib.hid h
  have HD := Lib.hid hd
  clear h hd
  go_enter Try.func34, Try.ntmps34
  go_wp2_with fail
  go_loopw [17] (fun i wr => ∃ j : Nat, j ≤ l.length ∧ i = .int .i64 j ∧ WrAt wr b (B ++ bitsOf (l.take j)) ∧ Only b w wr) (fun i _ => l.length - (intOf i).toNat)
  case atStart => exact ⟨0, Nat.zero_le _, rfl, by simpa [bitsOf] using HW.out, Only.refl _ _⟩
  case round =>
    obtain ⟨j, hj, rfl, hwr, hon⟩ := hrel
    have hlen : (B ++ bitsOf (l.take j)).length = B.length + 8 * j := by simp [bitsOf_length]; omega
    by_cases hlt : j < l.length
    · have hc := (HD.out.keep hon hg).cell j hlt
      have hb8 := HD.out.byte j
      obtain ⟨x, hx⟩ : ∃ x, l.getD j 0 = x := ⟨_, rfl⟩
      rw [hx] at hc hb8
      have HX := Lib.hid hx
      have HL := Lib.hid hlen
      have HWR := Lib.hid hwr
      have HON := Lib.hid hon
      clear hwr hon hlen h65 hx
      go_wp2_with fail
      have hu : B.length % 8 < 8 := Nat.mod_lt _ (by omega)
      have hA : ((x : Int) / 2 ^ (B.length % 8)) = ((x / 2 ^ (B.length % 8) : Nat) : Int) := by rw [Int.natCast_ediv, Int.natCast_pow]; rfl
      have hB : (8 - (B.length : Int) % 8) = (((nb x 8).take (8 - B.length % 8)).length : Nat) := by rw [List.length_take, nb_length]; omega
      have hm : (B ++ bitsOf (l.take j)).length % 8 = B.length % 8 := by rw [HL.out]; omega
      have c1 := add_abs wr b _ ((nb x 8).take (8 - B.length % 8)) (x / 2 ^ (B.length % 8)) HWR.out (by rw [hm, List.length_take, nb_length]; omega) (by rw [hm, oct_first _ hu _ hb8]) (by rw [HL.out]; omega)
      rw [← hA, ← hB] at c1
      refine c1.mono ?_
      rintro e w1 ⟨rfl, hw1, ho1⟩
      have HW1 := Lib.hid hw1
      have HO1 := Lib.hid ho1
      clear c1 hA hB hm hw1 ho1 hc
      go_wp2_with fail
      have hlen1 : (B ++ bitsOf (l.take j) ++ (nb x 8).take (8 - B.length % 8)).length = B.length + 8 * j + (8 - B.length % 8) := by
        rw [List.length_append, HL.out, List.length_take, nb_length]; omega
      have hm : (B ++ bitsOf (l.take j) ++ (nb x 8).take (8 - B.length % 8)).length % 8 = 0 := by rw [hlen1]; omega
      have hA : ((x : Int) * 2 ^ (8 - B.length % 8) % 256) = ((x * 2 ^ (8 - B.length % 8) % 256 : Nat) : Int) := by rw [Int.natCast_emod, Int.natCast_mul, Int.natCast_pow]; rfl
      have hB : ((B.length : Int) % 8) = (((nb x 8).drop (8 - B.length % 8)).length : Nat) := by rw [List.length_drop, nb_length]; omega
      have c2 := add_abs w1 b _ ((nb x 8).drop (8 - B.length % 8)) (x * 2 ^ (8 - B.length % 8) % 256) HW1.out (by rw [hm, List.length_drop, nb_length]; omega) (by rw [hm, ← oct_second _ hu _ hb8]; rfl) (by rw [hlen1]; omega)
      rw [← hA, ← hB] at c2
      refine c2.mono ?_
      rintro e w2 ⟨rfl, hw2, ho2⟩
      rw [List.append_assoc, List.append_assoc, List.take_append_drop, ← HX.out, ← bitsOf_take_succ l j hlt] at hw2
      have HW2 := Lib.hid hw2
      have HO2 := Lib.hid ((HON.out.trans HO1.out).trans ho2)
      clear c2 hA hB hm hw2 ho2 hlen1 HW1 HO1 HL HX HON HWR hu hb8
      go_wp2_with fail
      go_roundw
      case rel => exact ⟨j + 1, by omega, by go_num, HW2.out, HO2.out⟩
      case measure => simp [intOf]; omega
    · obtain rfl : j = l.length := by omega
      have hwr' : WrAt wr b (B ++ bitsOf l) := by rwa [List.take_of_length_le (Nat.le_refl _)] at hwr
      have HWR' := Lib.hid hwr'
      have HON' := Lib.hid hon
      clear hwr hon hlen hwr' h65
      go_wp2_with fail
      go_ret
      exact ⟨rfl, HWR'.out, HON'.out⟩
theorem woctets_none (w : World) (b : Nat) (B : List Bool) (a : Option Addr) (cap : Nat) (h : WrAt w b B) :
    Calls Try.prog 34 #[.pointer (some ⟨b, 0, none⟩), .slice a 0 cap] w fun e w' => e = .returned (.int .i64 0) ∧ w = w' := by
  have h65 := h.len65
  clear h
  go_enter Try.func34, Try.ntmps34
  go_wp2_with fail
  refine wp_loop_once ?_
  go_wp2_with fail
  go_ret
  exact ⟨rfl, rfl⟩
theorem woctets_nil (w : World) (s : Value) :
    Calls Try.prog 34 #[.pointer none, s] w fun e w' => e = .returned (.int .i64 1) ∧ w = w' := by
  go_enter Try.func34, Try.ntmps34
  go_wp2_with fail
  go_ret
  exact ⟨rfl, rfl⟩
end Go.Proofs.Ytbbbgoigacledaa
