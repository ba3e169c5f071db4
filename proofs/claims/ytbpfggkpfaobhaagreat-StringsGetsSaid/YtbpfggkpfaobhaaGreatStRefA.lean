/-
  The document's answer for package strings: PutOctets, PutBits, number, PutText.
-/
import Derived.Test.YtbpfggkpfaobhaaGreatStRefQ
namespace Go.Proofs.YtbpfggkpfaobhaaGreat
open Go.RowKit Go.Shelf
set_option linter.unusedVariables false
set_option linter.unusedSimpArgs false
set_option maxRecDepth 100000

theorem info_i64 : (Tryz.prog.info? 3).map (fun i => (i.zero, i.size, i.bytes)) = some (some (.int .i64 0), 1, 8) := by kernel_rfl
def i64s (z : List Int) : List Value := z.map fun x => Value.int .i64 x
theorem i64s_snoc (z : List Int) (x : Int) : i64s (z ++ [x]) = i64s z ++ [.int .i64 x] := by simp [i64s]
def OwnI (base : Nat) (w : World) (v : Value) (z : List Int) : Prop := w.ownsRow base 3 1 v z.length (i64s z)
theorem OwnI.nil (base : Nat) (w : World) : OwnI base w (.slice none 0 0) [] := World.ownsRow_nil _ _ _ _
theorem OwnI.inat {base : Nat} {w : World} {v : Value} {z : List Int} (h : OwnI base w v z) : InAt w v z := by
  have h1 : w.ownsRow base 3 1 v z.length (i64s z) := h
  rcases h1.2 with ⟨e, h0⟩ | ⟨g, cap, cur, hv, hg, _, hcap, _⟩
  · exact .inl ⟨e, List.length_eq_zero_iff.1 h0⟩
  · subst hv
    refine .inr ⟨g, 0, cap, rfl, hcap, fun i hi => ?_⟩
    rw [Nat.zero_add, h1.cellAt i (by omega)]
    unfold i64s
    rw [List.getElem?_map, List.getElem?_eq_getElem hi, List.getD_eq_getElem?_getD, List.getElem?_eq_getElem hi]
    rfl
theorem cell_one_int (w : World) (x : Int) : ∀ j u, ([.int .i64 x] : List Value)[j]? = some u → (w.alloc (.cells #[.int .i64 x] 3)).cell? ((⟨w.heap.size, 0, none⟩ : Addr).add j) = some u := by
  intro j u hj
  cases j with
  | zero =>
    simp at hj
    subst hj
    rw [Addr.add_mid, cell_of_row _ _ _ _ _ _ (heap_alloc_new w _)]
    rfl
  | succ j => simp at hj
def RelZi (w : World) (n : Nat) (z : List Int) (v i : Value) (wr : World) : Prop := ∃ j : Nat, j ≤ n ∧ i = .int .i64 j ∧ OwnI w.heap.size wr v (z.take j) ∧ Below w.heap.size w wr
theorem relZi_next {w w4 : World} {n j : Nat} {z : List Int} {v : Value} {x : Int} (hj : j < n) (hn : z.length = n) (hx : z.getD j 0 = x) (h : w4.ownsRow w.heap.size 3 1 v ((z.take j).length + 1) (i64s (z.take j) ++ [.int .i64 x])) (hb : Below w.heap.size w w4) : RelZi w n z v (.int .i64 ((j : Int) + 1)) w4 := by
  refine ⟨j + 1, hj, by go_num, ?_, hb⟩
  have e : z.take (j + 1) = z.take j ++ [x] := by
    rw [List.take_succ_eq_append_getElem (by omega)]
    rw [← hx]
    simp [List.getD_eq_getElem?_getD, hn, hj]
  unfold OwnI
  rw [e, List.length_append, List.length_singleton, i64s_snoc]
  exact h
theorem ints_back (u : List Nat) : (ints u).map Int.toNat = u := by
  unfold ints
  rw [List.map_map]
  conv => rhs; rw [← List.map_id u]
  apply List.map_congr_left
  intro x _
  simp
theorem ints_pos (u : List Nat) : posOk (ints u) = true := posOk_all fun i _ => by rw [ints_at]; omega
/-- the document's numbers of bits -/
def bz (c : Nat) : Int := if c = 48 then 0 else if c = 49 then 1 else -1
theorem bz_vals : bz 48 = 0 ∧ bz 49 = 1 := by decide
theorem bz_pos (l : List Nat) : posOk (l.map bz) = isBit l := by
  unfold posOk isBit
  rw [List.all_map]
  congr 1
  funext c
  show decide (0 ≤ bz c) = (c == 48 || c == 49)
  unfold bz
  by_cases h1 : c = 48
  · simp [h1]
  · by_cases h2 : c = 49
    · simp [h2]
    · simp [h1, h2]
theorem bz_nat {l : List Nat} (h : isBit l = true) : (l.map bz).map Int.toNat = bitN l := by
  unfold bitN
  rw [List.map_map]
  apply List.map_congr_left
  intro c hc
  have := (List.all_eq_true.1 h) c hc
  simp at this
  rcases this with rfl | rfl <;> rfl
theorem bz_lt (l : List Nat) : ∀ x ∈ l.map bz, x < 256 := by
  intro x hx
  obtain ⟨c, _, rfl⟩ := List.mem_map.1 hx
  unfold bz
  split
  · omega
  · split <;> omega
theorem map_getD (f : Nat → Int) (l : List Nat) (j : Nat) (hj : j < l.length) : (l.map f).getD j 0 = f (l.getD j 0) := by
  rw [List.getD_eq_getElem?_getD, List.getD_eq_getElem?_getD, List.getElem?_map, List.getElem?_eq_getElem hj]
  rfl
theorem eB_same {ok al tx : Bool} {k : Nat} {B : List Bool} {lo hi : Int} {u v : List Nat} (hl : u.length = v.length) (h : ok = true → u = v) : eB ok al tx k B lo hi u = eB ok al tx k B lo hi v := by
  cases ok with
  | true => rw [h rfl]
  | false =>
    unfold eB
    rw [hl]
    split
    · rename_i h1
      unfold eE at h1
      split at h1 <;> cases h1
    · rfl
theorem idx_first : ∀ (l : List Nat) (c j : Nat), (∀ i, i < j → l.getD i 0 ≠ c) → j < l.length → l.getD j 0 = c → l.idxOf c = j
  | [], c, j, _, hj, _ => by simp at hj
  | x :: l, c, 0, _, _, e => by
    have e2 : x = c := e
    rw [e2]
    exact List.idxOf_cons_self
  | x :: l, c, j + 1, h, hj, e => by
    have h0 : x ≠ c := h 0 (by omega)
    have ih := idx_first l c j (fun i hi => h (i + 1) (by omega)) (by simpa using hj) e
    simp [List.idxOf_cons, ih, beq_false_of_ne h0]
def NoC (l : List Nat) (c j : Nat) : Prop := ∀ i, i < j → l.getD i 0 ≠ c
theorem noC_next {l : List Nat} {c j : Nat} (h : NoC l c j) (h1 : l.getD j 0 ≠ c) : NoC l c (j + 1) := fun i hi => by
  by_cases e : i = j
  · subst e; exact h1
  · exact h i (by omega)
theorem getD_mem {l : List Nat} {j : Nat} (hj : j < l.length) : l.getD j 0 ∈ l := by
  rw [List.getD_eq_getElem?_getD, List.getElem?_eq_getElem hj]
  exact List.getElem_mem hj
theorem sp_ne {l : List Nat} (h : 0 < l.length) : sp l = l := by
  unfold sp
  rw [if_neg (by intro e; rw [e] at h; simp at h)]
theorem numOf_hit {l : List Nat} {c j k : Nat} (h : NoC l c j) (hj : j < l.length) (e : l.getD j 0 = c) : numOf l k c = if 2 ^ k ≤ l.getD (l.length - 1) 0 then (j : Int) else (c : Int) := by
  unfold numOf
  rw [sp_ne (by omega), if_pos (by rw [← e]; exact getD_mem hj), idx_first l c j h hj e]
theorem numOf_miss {l : List Nat} {c k : Nat} (h : NoC l c l.length) (h0 : 0 < l.length) : numOf l k c = -1 := by
  refine nmo_neg ?_
  rw [sp_ne h0]
  intro hm
  have h1 := List.idxOf_lt_length_of_mem hm
  exact h _ h1 (mem_idx hm).2
theorem numOf_nil {c k : Nat} (hk : 7 ≤ k) : numOf [] k c = if c < 128 then (c : Int) else -1 := by
  have hs : sp [] = List.range 128 := if_pos rfl
  unfold numOf
  rw [hs]
  have hp : 2 ^ 7 ≤ 2 ^ k := Nat.pow_le_pow_right (by decide) hk
  have hl : (List.range 128).getD ((List.range 128).length - 1) 0 = 127 := by decide
  by_cases h : c < 128
  · rw [if_pos h, if_pos (List.mem_range.2 h), hl, if_neg (by omega)]
  · rw [if_neg h, if_neg (fun hm => h (List.mem_range.1 hm))]
set_option maxHeartbeats 4000000 in
theorem rnumber_ok (fr : ByteArray) (c k : Nat) (w : World) (hs : fr.size ≤ 1000000) (hc : c < 256) (hk : k ≤ 8) (h7 : fr.size = 0 → 7 ≤ k) :
    Calls Tryz.prog 39 #[.string fr, .int .u8 (c : Nat), .int .i64 (k : Nat)] w fun e w' => e = .returned (.int .i64 (numOf (cods fr) k c)) ∧ w = w' := by
  by_cases h0 : fr.size = 0
  · obtain rfl : fr = ⟨#[]⟩ := by
      apply ByteArray.ext
      exact Array.eq_empty_of_size_eq_zero h0
    have hn : numOf (cods ⟨#[]⟩) k c = if c < 128 then (c : Int) else -1 := numOf_nil (h7 rfl)
    by_cases h8 : c < 128
    · rw [if_pos h8] at hn
      rw [hn]
      have q1 : decide ((128 : Int) ≤ (c : Int)) = false := decide_eq_false (by omega)
      have q2 : decide (128 ≤ c) = false := decide_eq_false (by omega)
      have q3 : IntKind.i64.wrap (c : Int) = (c : Int) := by rw [IntKind.wrap_i64]; omega
      clear hn h7 h8 h0
      go_enter Tryz.func39, Tryz.ntmps39
      go_wp2_with fail
      go_ret
      exact ⟨rfl, rfl⟩
    · rw [if_neg h8] at hn
      rw [hn]
      have q1 : decide ((128 : Int) ≤ (c : Int)) = true := decide_eq_true (by omega)
      have q2 : decide (128 ≤ c) = true := decide_eq_true (by omega)
      clear hn h7 h8 h0
      go_enter Tryz.func39, Tryz.ntmps39
      go_wp2_with fail
      go_ret
      exact ⟨rfl, rfl⟩
  obtain ⟨n, hn⟩ : ∃ n, fr.size = n + 1 := ⟨fr.size - 1, by omega⟩
  have hlen := cods_length fr
  have hat := Lib.hid (cods_at fr)
  have qe0 := not_empty h0
  have qe : fr.toList.isEmpty = false := by simpa using qe0
  clear qe0
  obtain ⟨y, hy⟩ : ∃ y, (cods fr).getD n 0 = y := ⟨_, rfl⟩
  have e2 : (fr[n]'(by omega)).toNat = y := (hat.out n (by omega)).trans hy
  have hlast : (cods fr).getD ((cods fr).length - 1) 0 = y := by rw [hlen, hn]; exact hy
  have HHIT := Lib.hid (fun (j : Nat) (h : NoC (cods fr) c j) (hj : j < fr.size) (e : (cods fr).getD j 0 = c) => (show numOf (cods fr) k c = if 2 ^ k ≤ y then (j : Int) else (c : Int) by
    rw [numOf_hit h (by rw [hlen]; exact hj) e, hlast]))
  have HMISS := Lib.hid (fun (h : NoC (cods fr) c fr.size) => (show numOf (cods fr) k c = -1 from numOf_miss (by rw [hlen]; exact h) (by rw [hlen]; omega)))
  have hy8 : y < 256 := by rw [← e2]; exact UInt8.toNat_lt _
  have q7 : (0 : Int) ≤ (n : Int) := by omega
  have q8 : (n : Int) < (fr.size : Int) := by omega
  have q10 : (fr.size : Int) - 1 = (n : Int) := by omega
  have w1 : IntKind.i64.wrap (y : Int) = (y : Int) := by rw [IntKind.wrap_i64]; omega
  have w2 : IntKind.i64.wrap (c : Int) = (c : Int) := by rw [IntKind.wrap_i64]; omega
  generalize numOf (cods fr) k c = R at *
  clear hy hlast hlen h7 h0
  go_enter Tryz.func39, Tryz.ntmps39
  go_wp2_with fail
  go_loopw [7] (fun i wr => ∃ j : Nat, j ≤ fr.size ∧ i = .int .i64 j ∧ NoC (cods fr) c j ∧ wr = w) (fun i _ => fr.size - (intOf i).toNat)
  case atStart => exact ⟨0, Nat.zero_le _, rfl, (fun i h => by omega), rfl⟩
  case round =>
    obtain ⟨j, hj, rfl, hno, rfl⟩ := hrel
    have HNO := Lib.hid hno
    clear hno
    by_cases hlt : j < fr.size
    · have q1 : decide ((j : Int) < (fr.size : Int)) = true := decide_eq_true (by omega)
      have q5 : (j : Int) < (fr.size : Int) := by omega
      have q6 : (0 : Int) ≤ (j : Int) := by omega
      obtain ⟨x, hx⟩ : ∃ x, (cods fr).getD j 0 = x := ⟨_, rfl⟩
      have e : (fr[j]'hlt).toNat = x := (hat.out j hlt).trans hx
      have HX := Lib.hid hx
      clear hx
      by_cases hxc : x = c
      · subst hxc
        have hR := HHIT.out j HNO.out hlt HX.out
        clear HHIT HMISS
        have r1 : ((x : Int) == (x : Int)) = true := by simp
        have hk' : k = 0 ∨ k = 1 ∨ k = 2 ∨ k = 3 ∨ k = 4 ∨ k = 5 ∨ k = 6 ∨ k = 7 ∨ k = 8 := by omega
        clear hk
        rcases hk' with rfl | rfl | rfl | rfl | rfl | rfl | rfl | rfl | rfl
        · by_cases hp : 1 ≤ y
          · rw [if_pos (show 2 ^ 0 ≤ y from hp)] at hR
            subst hR
            have r2 : decide ((1 : Int) ≤ (y : Int)) = true := decide_eq_true (by omega)
            have r3 : decide (1 ≤ y) = true := decide_eq_true hp
            clear hp
            go_wp2_with fail
            go_ret
            exact ⟨rfl, rfl⟩
          · rw [if_neg (show ¬ 2 ^ 0 ≤ y from hp)] at hR
            subst hR
            have r2 : decide ((1 : Int) ≤ (y : Int)) = false := decide_eq_false (by omega)
            have r3 : decide (1 ≤ y) = false := decide_eq_false hp
            clear hp
            go_wp2_with fail
            go_ret
            exact ⟨rfl, rfl⟩
        · by_cases hp : 2 ≤ y
          · rw [if_pos (show 2 ^ 1 ≤ y from hp)] at hR
            subst hR
            have r2 : decide ((2 : Int) ≤ (y : Int)) = true := decide_eq_true (by omega)
            have r3 : decide (2 ≤ y) = true := decide_eq_true hp
            clear hp
            go_wp2_with fail
            go_ret
            exact ⟨rfl, rfl⟩
          · rw [if_neg (show ¬ 2 ^ 1 ≤ y from hp)] at hR
            subst hR
            have r2 : decide ((2 : Int) ≤ (y : Int)) = false := decide_eq_false (by omega)
            have r3 : decide (2 ≤ y) = false := decide_eq_false hp
            clear hp
            go_wp2_with fail
            go_ret
            exact ⟨rfl, rfl⟩
        · by_cases hp : 4 ≤ y
          · rw [if_pos (show 2 ^ 2 ≤ y from hp)] at hR
            subst hR
            have r2 : decide ((4 : Int) ≤ (y : Int)) = true := decide_eq_true (by omega)
            have r3 : decide (4 ≤ y) = true := decide_eq_true hp
            clear hp
            go_wp2_with fail
            go_ret
            exact ⟨rfl, rfl⟩
          · rw [if_neg (show ¬ 2 ^ 2 ≤ y from hp)] at hR
            subst hR
            have r2 : decide ((4 : Int) ≤ (y : Int)) = false := decide_eq_false (by omega)
            have r3 : decide (4 ≤ y) = false := decide_eq_false hp
            clear hp
            go_wp2_with fail
            go_ret
            exact ⟨rfl, rfl⟩
        · by_cases hp : 8 ≤ y
          · rw [if_pos (show 2 ^ 3 ≤ y from hp)] at hR
            subst hR
            have r2 : decide ((8 : Int) ≤ (y : Int)) = true := decide_eq_true (by omega)
            have r3 : decide (8 ≤ y) = true := decide_eq_true hp
            clear hp
            go_wp2_with fail
            go_ret
            exact ⟨rfl, rfl⟩
          · rw [if_neg (show ¬ 2 ^ 3 ≤ y from hp)] at hR
            subst hR
            have r2 : decide ((8 : Int) ≤ (y : Int)) = false := decide_eq_false (by omega)
            have r3 : decide (8 ≤ y) = false := decide_eq_false hp
            clear hp
            go_wp2_with fail
            go_ret
            exact ⟨rfl, rfl⟩
        · by_cases hp : 16 ≤ y
          · rw [if_pos (show 2 ^ 4 ≤ y from hp)] at hR
            subst hR
            have r2 : decide ((16 : Int) ≤ (y : Int)) = true := decide_eq_true (by omega)
            have r3 : decide (16 ≤ y) = true := decide_eq_true hp
            clear hp
            go_wp2_with fail
            go_ret
            exact ⟨rfl, rfl⟩
          · rw [if_neg (show ¬ 2 ^ 4 ≤ y from hp)] at hR
            subst hR
            have r2 : decide ((16 : Int) ≤ (y : Int)) = false := decide_eq_false (by omega)
            have r3 : decide (16 ≤ y) = false := decide_eq_false hp
            clear hp
            go_wp2_with fail
            go_ret
            exact ⟨rfl, rfl⟩
        · by_cases hp : 32 ≤ y
          · rw [if_pos (show 2 ^ 5 ≤ y from hp)] at hR
            subst hR
            have r2 : decide ((32 : Int) ≤ (y : Int)) = true := decide_eq_true (by omega)
            have r3 : decide (32 ≤ y) = true := decide_eq_true hp
            clear hp
            go_wp2_with fail
            go_ret
            exact ⟨rfl, rfl⟩
          · rw [if_neg (show ¬ 2 ^ 5 ≤ y from hp)] at hR
            subst hR
            have r2 : decide ((32 : Int) ≤ (y : Int)) = false := decide_eq_false (by omega)
            have r3 : decide (32 ≤ y) = false := decide_eq_false hp
            clear hp
            go_wp2_with fail
            go_ret
            exact ⟨rfl, rfl⟩
        · by_cases hp : 64 ≤ y
          · rw [if_pos (show 2 ^ 6 ≤ y from hp)] at hR
            subst hR
            have r2 : decide ((64 : Int) ≤ (y : Int)) = true := decide_eq_true (by omega)
            have r3 : decide (64 ≤ y) = true := decide_eq_true hp
            clear hp
            go_wp2_with fail
            go_ret
            exact ⟨rfl, rfl⟩
          · rw [if_neg (show ¬ 2 ^ 6 ≤ y from hp)] at hR
            subst hR
            have r2 : decide ((64 : Int) ≤ (y : Int)) = false := decide_eq_false (by omega)
            have r3 : decide (64 ≤ y) = false := decide_eq_false hp
            clear hp
            go_wp2_with fail
            go_ret
            exact ⟨rfl, rfl⟩
        · by_cases hp : 128 ≤ y
          · rw [if_pos (show 2 ^ 7 ≤ y from hp)] at hR
            subst hR
            have r2 : decide ((128 : Int) ≤ (y : Int)) = true := decide_eq_true (by omega)
            have r3 : decide (128 ≤ y) = true := decide_eq_true hp
            clear hp
            go_wp2_with fail
            go_ret
            exact ⟨rfl, rfl⟩
          · rw [if_neg (show ¬ 2 ^ 7 ≤ y from hp)] at hR
            subst hR
            have r2 : decide ((128 : Int) ≤ (y : Int)) = false := decide_eq_false (by omega)
            have r3 : decide (128 ≤ y) = false := decide_eq_false hp
            clear hp
            go_wp2_with fail
            go_ret
            exact ⟨rfl, rfl⟩
        · by_cases hp : 256 ≤ y
          · rw [if_pos (show 2 ^ 8 ≤ y from hp)] at hR
            subst hR
            have r2 : decide ((256 : Int) ≤ (y : Int)) = true := decide_eq_true (by omega)
            have r3 : decide (256 ≤ y) = true := decide_eq_true hp
            clear hp
            go_wp2_with fail
            go_ret
            exact ⟨rfl, rfl⟩
          · rw [if_neg (show ¬ 2 ^ 8 ≤ y from hp)] at hR
            subst hR
            have r2 : decide ((256 : Int) ≤ (y : Int)) = false := decide_eq_false (by omega)
            have r3 : decide (256 ≤ y) = false := decide_eq_false hp
            clear hp
            go_wp2_with fail
            go_ret
            exact ⟨rfl, rfl⟩
      · have r1 : ((x : Int) == (c : Int)) = false := beq_false_of_ne (by omega)
        have r2 : decide (x = c) = false := decide_eq_false hxc
        have HN2 := Lib.hid (noC_next HNO.out (by rw [HX.out]; exact hxc))
        clear HHIT HMISS
        go_wp2_with fail
        go_roundw
        case rel => exact ⟨j + 1, hlt, by go_num, HN2.out, trivial⟩
        case measure => simp [intOf]; omega
    · obtain rfl : j = fr.size := by omega
      have q1 : decide ((fr.size : Int) < (fr.size : Int)) = false := decide_eq_false (by omega)
      have hR := HMISS.out HNO.out
      clear HHIT HMISS
      subst hR
      go_wp2_with fail
      go_ret
      exact ⟨rfl, rfl⟩
theorem tnum_ge (l : List Nat) (k c : Nat) : -1 ≤ numOf l k c := by
  unfold numOf
  split
  · split <;> omega
  · omega
theorem tnum_pos (f : Nat → Int) (hf : ∀ c, -1 ≤ f c) (l : List Nat) : posOk (l.map f) = allOk f l := by
  unfold posOk allOk
  rw [List.all_map]
  congr 1
  funext c
  have h := hf c
  show decide (0 ≤ f c) = (f c != -1)
  by_cases h1 : f c = -1
  · simp [h1]
  · rw [decide_eq_true (show 0 ≤ f c by omega)]
    simp [h1]
theorem tnum_nat (f : Nat → Int) (l : List Nat) : (l.map f).map Int.toNat = numN f l := by
  unfold numN
  rw [List.map_map]
  rfl
theorem tnum_lt {l : List Nat} (h : isAl l = true) (al : Bool) (u : List Nat) : ∀ x ∈ u.map (numOf l (wdT l al)), x < 256 := by
  intro x hx
  obtain ⟨c, _, rfl⟩ := List.mem_map.1 hx
  by_cases hm : c ∈ sp l
  · obtain ⟨n, h1, _, h2⟩ := nmo_fits h al hm
    rw [h1]
    omega
  · rw [nmo_neg hm]
    omega
theorem wdT_7 (al : Bool) : 7 ≤ wdT [] al := by
  cases al <;> decide
theorem tE_al {fl : List Nat} {al : Bool} {l : List Nat} {lo hi : Int} (h : isAl fl = true) : tE fl al l lo hi = eE (allOk (numOf fl (wdT fl al)) l) l.length lo hi := if_pos h
theorem tB_al {fl : List Nat} {al : Bool} {l : List Nat} {B : List Bool} {lo hi : Int} (h : isAl fl = true) : tB fl al l B lo hi = eB (allOk (numOf fl (wdT fl al)) l) al true (wdT fl al) B lo hi (numN (numOf fl (wdT fl al)) l) := by
  unfold tB eB
  rw [tE_al h, numN_length]
end Go.Proofs.YtbpfggkpfaobhaaGreat
