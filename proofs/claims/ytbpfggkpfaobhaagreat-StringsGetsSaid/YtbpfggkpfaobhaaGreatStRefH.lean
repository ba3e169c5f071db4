/-
  The document's answer for package strings: what its reading tells against the program's; GetOctets, GetBits.
-/
import Derived.Test.YtbpfggkpfaobhaaGreatStRefG8
import Derived.Test.YtbpfggkpfaobhaaGreatStTxt
namespace Go.Proofs.YtbpfggkpfaobhaaGreat
open Go.RowKit Go.Shelf
set_option linter.unusedVariables false
set_option linter.unusedSimpArgs false
set_option maxRecDepth 100000

/-- what n units of k bits are, where they all are there -/
theorem uGo_yes (L : List Nat) (k : Nat) (hk : k ≤ 64) : ∀ (n p : Nat) (acc : List Nat), p + n * k ≤ 8 * L.length → uGo L k n p acc = ⟨0, acc ++ (List.range n).map (fun i => bitsAt (bitsOf L) (p + k * i) k), p + n * k⟩
  | 0, p, acc, _ => by simp [uGo]
  | n + 1, p, acc, h => by
    have hm : (n + 1) * k = n * k + k := by rw [Nat.add_mul, Nat.one_mul]
    have hw : widthB (k : Int) = true := by simp [widthB]; omega
    have h0 : gerr L p k = 0 := by
      unfold gerr
      rw [hw, if_neg (by simp), Int.toNat_natCast, if_pos (by omega)]
    have h1 : gval L p k = bitsAt (bitsOf L) p k := by unfold gval; rw [if_pos h0, Int.toNat_natCast]
    have h2 : gpos L p k = p + k := by unfold gpos; rw [if_pos h0, Int.toNat_natCast]
    rw [uGo_step h0, h1, h2, uGo_yes L k hk n (p + k) _ (by omega), List.append_assoc, hm]
    congr 1
    · rw [List.range_succ_eq_map, List.map_cons, List.map_map, List.singleton_append]
      congr 2
      apply List.map_congr_left
      intro i _
      show bitsAt (bitsOf L) (p + k + k * i) k = bitsAt (bitsOf L) (p + k * (i + 1)) k
      rw [Nat.mul_add, Nat.mul_one, Nat.add_assoc, Nat.add_comm k (k * i)]
    · omega
/-- where they are not -/
theorem uGo_no (L : List Nat) (k : Nat) (hk : k ≤ 64) (h1 : 1 ≤ k) : ∀ (n p : Nat) (acc : List Nat), 1 ≤ n → 8 * L.length < p + n * k → (uGo L k n p acc).e = 2 ∧ (uGo L k n p acc).l = []
  | 0, p, acc, h, _ => by omega
  | n + 1, p, acc, _, h => by
    have hm : (n + 1) * k = n * k + k := by rw [Nat.add_mul, Nat.one_mul]
    have hw : widthB (k : Int) = true := by simp [widthB]; omega
    by_cases hp : p + k ≤ 8 * L.length
    · have h0 : gerr L p k = 0 := by
        unfold gerr
        rw [hw, if_neg (by simp), Int.toNat_natCast, if_pos hp]
      have h2 : gpos L p k = p + k := by unfold gpos; rw [if_pos h0, Int.toNat_natCast]
      rw [uGo_step h0, h2]
      have hn : 1 ≤ n := by
        cases n with
        | zero => omega
        | succ n => omega
      exact uGo_no L k hk h1 n (p + k) _ hn (by omega)
    · have h0 : gerr L p k = 2 := by
        unfold gerr
        rw [hw, if_neg (by simp), Int.toNat_natCast, if_neg hp]
      rw [uGo_stop (by rw [h0]; decide), h0]
      exact ⟨rfl, rfl⟩
/-- octets read at once and one by one -/
theorem octs_same (L : List Nat) (n p : Nat) : Same (oGo L n p) (uGo L 8 n p []) := by
  have hz : ((n : Nat) : Int).toNat = n := Int.toNat_natCast n
  by_cases h : p + n * 8 ≤ 8 * L.length
  · have h0 : oerr L p n = 0 := by
      unfold oerr
      rw [if_neg (by omega), if_neg (by omega)]
    rw [uGo_yes L 8 (by decide) n p [] h]
    refine ⟨h0, ?_, fun _ => ?_⟩
    · show olst L p n = [] ++ _
      unfold olst
      rw [if_pos h0, hz]
      rfl
    · show opos L p n = p + n * 8
      unfold opos
      rw [if_pos h0, hz]
      omega
  · cases n with
    | zero =>
      have h0 : oerr L p ((0 : Nat) : Int) = 0 := by
        unfold oerr
        rw [if_neg (by omega), if_neg (by omega)]
      refine ⟨h0, ?_, fun _ => ?_⟩
      · show olst L p ((0 : Nat) : Int) = []
        unfold olst
        rw [if_pos h0]
        rfl
      · show opos L p ((0 : Nat) : Int) = p
        unfold opos
        rw [if_pos h0]
        rfl
    | succ n =>
      obtain ⟨h1, h2⟩ := uGo_no L 8 (by decide) (by decide) (n + 1) p [] (by omega) (by omega)
      have h0 : oerr L p ((n + 1 : Nat) : Int) = 2 := by
        unfold oerr
        rw [if_neg (by omega), if_pos (by omega)]
      refine ⟨?_, ?_, fun h3 => ?_⟩
      · rw [h1]; exact h0
      · rw [h2]; exact olst_bad (by rw [h0]; decide)
      · have h4 : oerr L p ((n + 1 : Nat) : Int) = 0 := h3
        rw [h0] at h4
        cases h4
theorem same_part2 {al : Bool} {U V : Nat → Nat → Ro} {L : List Nat} {n p : Nat} (h : ∀ q, Same (U n q) (V n q)) : Same (rdPart al U L n p) (rdPart al V L n p) := by
  unfold rdPart
  split
  · split
    · exact h _
    · exact .refl _
  · exact h _
theorem same_rS {al tx : Bool} {k : Nat} {U V : Nat → Nat → Ro} {L : List Nat} {p : Nat} {lo hi : Int} (h : ∀ n q, Same (U n q) (V n q)) : Same (rS al tx k U L p lo hi) (rS al tx k V L p lo hi) := by
  unfold rS
  split
  · exact .refl _
  · split
    · exact same_part2 fun q => h _ q
    · split
      · exact .refl _
      · exact same_fin (same_part2 fun q => h _ q)
/-- few octets: a first length that is no last one is followed by too few units -/
theorem last_of {al tx : Bool} {k : Nat} {U : Nat → Nat → Ro} {L : List Nat} {p : Nat} {lo hi : Int} (hL : L.length ≤ 2000) (h : (0 ≤ hi ∧ hi ≤ 65535) ∨ ∀ n q, 16384 ≤ n → (U n q).e ≠ 0) : Last al tx k U L p lo hi := by
  intro hm he
  by_cases hh : 0 ≤ hi ∧ hi ≤ 65535
  · rw [gl_nar hh] at hm
    cases hm
  · have hU := h.resolve_left hh
    rw [gl_open hh] at hm
    have hv := rlF_m al L p hm
    unfold gU rdPart
    rw [gl_open hh]
    split
    · split
      · exact hU _ _ hv
      · rename_i ha; exact ha
    · exact hU _ _ hv
theorem uGo_few {L : List Nat} (hL : L.length ≤ 2000) {k : Nat} (hk : k ≤ 64) (h1 : 1 ≤ k) (n q : Nat) (hn : 16384 ≤ n) : (uGo L k n q []).e ≠ 0 := by
  have hm : n * 1 ≤ n * k := Nat.mul_le_mul_left n h1
  rw [(uGo_no L k hk h1 n q [] (by omega) (by omega)).1]
  decide
theorem oGo_few {L : List Nat} (hL : L.length ≤ 2000) (n q : Nat) (hn : 16384 ≤ n) : (oGo L n q).e ≠ 0 := by
  rw [(octs_same L n q).1]
  exact uGo_few hL (by decide) (by decide) n q hn
theorem uGo_lt (L : List Nat) (k : Nat) (hk : k ≤ 8) : ∀ (n p : Nat) (acc : List Nat), (∀ x ∈ acc, x < 2 ^ k) → ∀ x ∈ (uGo L k n p acc).l, x < 2 ^ k
  | 0, p, acc, h => h
  | n + 1, p, acc, h => by
    unfold uGo
    split
    · refine uGo_lt L k hk n _ _ fun x hx => ?_
      rcases List.mem_append.1 hx with hx | hx
      · exact h x hx
      · rw [List.mem_singleton.1 hx]; exact gval_lt L p k
    · intro x hx; cases hx
theorem rS_lt (al tx : Bool) (k : Nat) (hk : k ≤ 8) (L : List Nat) (p : Nat) (lo hi : Int) : ∀ x ∈ (rS al tx k (fun n p => uGo L k n p []) L p lo hi).l, x < 2 ^ k := by
  have hp : ∀ (c : Bool) (n q : Nat), ∀ x ∈ (rdPart c (fun n p => uGo L k n p []) L n q).l, x < 2 ^ k := fun c n q => by
    unfold rdPart
    split
    · split
      · exact uGo_lt L k hk _ _ [] (fun x hx => by cases hx)
      · intro x hx; cases hx
    · exact uGo_lt L k hk _ _ [] (fun x hx => by cases hx)
  unfold rS
  split
  · intro x hx; cases hx
  · split
    · exact hp _ _ _
    · split
      · intro x hx; cases hx
      · unfold rdFin
        split
        · split
          · intro x hx; cases hx
          · exact hp _ _ _
        · intro x hx; cases hx
theorem uGo_nil (L : List Nat) (k : Nat) : ∀ (n p : Nat) (acc : List Nat), (uGo L k n p acc).e ≠ 0 → (uGo L k n p acc).l = []
  | 0, p, acc, h => absurd rfl h
  | n + 1, p, acc, h => by
    unfold uGo at h ⊢
    split
    · rename_i h0
      rw [if_pos h0] at h
      exact uGo_nil L k n _ _ h
    · rfl
theorem rS_nil (al tx : Bool) (k : Nat) (L : List Nat) (p : Nat) (lo hi : Int) : (rS al tx k (fun n p => uGo L k n p []) L p lo hi).e ≠ 0 → (rS al tx k (fun n p => uGo L k n p []) L p lo hi).l = [] := by
  have hp : ∀ (c : Bool) (n q : Nat), (rdPart c (fun n p => uGo L k n p []) L n q).e ≠ 0 → (rdPart c (fun n p => uGo L k n p []) L n q).l = [] := fun c n q => by
    unfold rdPart
    split
    · split
      · exact uGo_nil L k _ _ []
      · intro _; rfl
    · exact uGo_nil L k _ _ []
  unfold rS
  split
  · intro _; rfl
  · split
    · exact hp _ _ _
    · split
      · intro _; rfl
      · unfold rdFin
        split
        · split
          · intro _; rfl
          · intro h; exact absurd rfl h
        · intro _; rfl
theorem uGo_len2 (L : List Nat) (k n p : Nat) : (uGo L k n p []).l.length ≤ n := by have := uGo_len L k n p []; simpa using this
theorem rS_len (al tx : Bool) (k : Nat) (L : List Nat) (p : Nat) (lo hi : Int) : (rS al tx k (fun n p => uGo L k n p []) L p lo hi).l.length ≤ 100000 := by
  have hp : ∀ (c : Bool) (n q : Nat), (rdPart c (fun n p => uGo L k n p []) L n q).l.length ≤ n := fun c n q => by
    unfold rdPart
    split
    · split
      · exact uGo_len2 L k _ _
      · exact Nat.zero_le _
    · exact uGo_len2 L k _ _
  unfold rS
  split
  · exact Nat.zero_le _
  · rename_i hb
    split
    · rename_i hf
      have := of_decide_eq_true hf
      have := hp (algn al tx k lo.toNat lo hi) lo.toNat p
      omega
    · split
      · exact Nat.zero_le _
      · unfold rdFin
        split
        · split
          · exact Nat.zero_le _
          · have h1 := hp (algn al tx k (gl al L p lo hi).v lo hi) (gl al L p lo hi).v (gl al L p lo hi).p
            have h2 := gl_v al L p lo hi (by unfold lBad at hb; omega)
            unfold gU
            show (rdPart _ _ _ _ _).l.length ≤ 100000
            omega
        · exact Nat.zero_le _
/-- the octets gathered so far -/
def RelOb (w : World) (n : Nat) (z : List Nat) (v i : Value) (wr : World) : Prop := ∃ j : Nat, j ≤ n ∧ i = .int .i64 j ∧ Own w.heap.size wr v (z.take j) ∧ Below w.heap.size w wr
theorem relOb_next {w w4 : World} {n j x : Nat} {z : List Nat} {v : Value} (hj : j < n) (hn : z.length = n) (hx : z.getD j 0 = x) (hz : ∀ i, z.getD i 0 < 256) (h : w4.ownsRow w.heap.size 5 1 v ((z.take j).length + 1) (u8s (z.take j) ++ [.int .u8 (x : Nat)])) (hb : Below w.heap.size w w4) : RelOb w n z v (.int .i64 ((j : Int) + 1)) w4 := by
  refine ⟨j + 1, hj, by go_num, ?_, hb⟩
  have e : z.take (j + 1) = z.take j ++ [x] := by
    rw [List.take_succ_eq_append_getElem (by omega), ← hx]
    simp [List.getD_eq_getElem?_getD, hn, hj]
  rw [e]
  refine own_snoc h (getD_lt fun y hy => mem_lt hz y (List.mem_of_mem_take hy)) (by rw [← hx]; exact hz j)
set_option maxHeartbeats 2000000 in
theorem rgetOctets_ok (w : World) (b : Nat) (L : List Nat) (p : Nat) (al : Bool) (lo hi : Int) (hq : QAt w b (bitsOf L) p) (hL : L.length ≤ 2000) (b2 : -9223372036854775808 ≤ lo ∧ lo ≤ 9223372036854775807) (b3 : -9223372036854775808 ≤ hi ∧ hi ≤ 9223372036854775807) :
    Calls Tryz.prog 11 #[.pointer (some ⟨b, 0, none⟩), .bool al, .int .i64 lo, .int .i64 hi] w fun e w2 => ∃ v, e = .returned (.tuple #[v, .int .i64 (rS al false 8 (fun n p => uGo L 8 n p []) L p lo hi).e]) ∧ SlAt w2 v (rS al false 8 (fun n p => uGo L 8 n p []) L p lo hi).l ∧ QAt w2 b (bitsOf L) (rS al false 8 (fun n p => uGo L 8 n p []) L p lo hi).p ∧ Only b w w2 := by
  obtain ⟨i0, hi0, hz0, hz1, hz2⟩ := info_parts info_u8
  have hP := rgetS_ok w b L p al 8 false lo hi hq (by decide) (by omega) b2 b3 (last_of hL (.inr fun n q hn => uGo_few hL (by decide) (by decide) n q hn))
  have hlt := getD_lt (rS_lt al false 8 (by decide) L p lo hi)
  have hlen := rS_len al false 8 L p lo hi
  generalize rS al false 8 (fun n p => uGo L 8 n p []) L p lo hi = o at *
  obtain ⟨oe, l, q⟩ := o
  simp only at hP hlt hlen ⊢
  have HP := Lib.hid hP
  have HLT := Lib.hid hlt
  clear hP hlt hq
  go_enter Tryz.func11, Tryz.ntmps11
  go_wp2_with fail
  refine HP.out.mono ?_
  rintro e w2 ⟨v, rfl, h1, h2, h3⟩
  obtain ⟨a, n, cap, rfl, hzn, hcap⟩ := h1.shape
  rw [ints_length] at hzn
  have HIN := Lib.hid h1
  have HQ := Lib.hid h2
  have HO := Lib.hid h3
  have HZ := Lib.hid hzn
  have hn5 : n ≤ 100000 := by omega
  clear h1 h2 h3 hzn hlen HP
  go_wp2_with fail
  go_loopw [12, 13] (fun v i wr => RelOb w2 n l v i wr) (fun _ i _ => n - (intOf i).toNat)
  case atStart => exact ⟨0, Nat.zero_le _, rfl, Own.nil _ _, Below.refl _ _⟩
  case round =>
    obtain ⟨j, hj, rfl, hown, hbel⟩ := hrel
    have HOW := Lib.hid hown
    have HB := Lib.hid hbel
    clear hown hbel
    by_cases hlt : j < n
    · have q1 : decide ((j : Int) < (n : Int)) = true := decide_eq_true (by omega)
      obtain ⟨g, o, rfl, hcl⟩ := InAt.ptr (HIN.out.below HB.out) (show 0 < n by omega)
      obtain ⟨x, hx⟩ : ∃ x, l.getD j 0 = x := ⟨_, rfl⟩
      have c1 := hcl j hlt
      rw [ints_at, hx] at c1
      have hx8 := HLT.out j
      rw [hx] at hx8
      have HX := Lib.hid hx
      have q2 : (x : Int) % 256 = (x : Int) := by omega
      have hsz := HB.out.size
      have hzt : (l.take j).length ≤ 100000 := by rw [List.length_take, HZ.out]; omega
      clear hcl hx
      go_wp2_with (at_builtin; refine wpList_append_own _ rfl (.tmp 29) (.tmp 35) 22 rfl w2.heap.size 5 i0 (.int .u8 0) 1 1 Tryz.underlying22 hi0 hz0 hz1 hz2 rfl (by decide) _ (l.take j).length (u8s (l.take j)) rfl (HOW.out.1.alloc _) ⟨wr.heap.size, 0, none⟩ 1 1 [.int .u8 (x : Nat)] rfl rfl (cell_one_new _ _ _) (by simp [Value.oneCell']) (by unfold maxLen; omega) (by omega) (by simp; omega) ?_; intro v' w4 hown4 hgr4 _; have HO4 := Lib.hid hown4; have HG4 := Lib.hid hgr4; clear hown4 hgr4)
      have h2 := HOW.out.1.alloc (.cells #[.int .u8 (x : Nat)] 5)
      have HB4 := Lib.hid ((HB.out.alloc HB.out.size (.cells #[.int .u8 (x : Nat)] 5)).grown HG4.out (by simp; omega) (fun k hk => (h2.lt k hk).1))
      clear h2 HG4 HOW HB c1
      go_roundw
      case rel => exact relOb_next hlt HZ.out HX.out HLT.out HO4.out HB4.out
      case measure => simp [intOf]; omega
    · obtain rfl : j = n := by omega
      have q1 : decide ((j : Int) < (j : Int)) = false := decide_eq_false (by omega)
      have hown := HOW.out
      rw [List.take_of_length_le (by rw [HZ.out]; exact Nat.le_refl _)] at hown
      have HS := Lib.hid hown.sl
      have HQ2 := Lib.hid (HQ.out.below HB.out)
      have HO2 := Lib.hid (HO.out.trans (Only.of_below HB.out))
      clear hown HOW
      go_wp2_with fail
      go_ret2
      exact ⟨_, rfl, HS.out, HQ2.out, HO2.out⟩
set_option maxHeartbeats 2000000 in
theorem rgetBits_ok (w : World) (b : Nat) (L : List Nat) (p : Nat) (al : Bool) (lo hi : Int) (hq : QAt w b (bitsOf L) p) (hL : L.length ≤ 2000) (b2 : -9223372036854775808 ≤ lo ∧ lo ≤ 9223372036854775807) (b3 : -9223372036854775808 ≤ hi ∧ hi ≤ 9223372036854775807) :
    Calls Tryz.prog 15 #[.pointer (some ⟨b, 0, none⟩), .bool al, .int .i64 lo, .int .i64 hi] w fun e w2 => e = .returned (.tuple #[.string (bitS (rS al false 1 (fun n p => uGo L 1 n p []) L p lo hi)), .int .i64 (rS al false 1 (fun n p => uGo L 1 n p []) L p lo hi).e]) ∧ QAt w2 b (bitsOf L) (rS al false 1 (fun n p => uGo L 1 n p []) L p lo hi).p ∧ Only b w w2 := by
  obtain ⟨i0, hi0, hz0, hz1, hz2⟩ := info_parts info_u8
  have hP := rgetS_ok w b L p al 1 false lo hi hq (by decide) (by omega) b2 b3 (last_of hL (.inr fun n q hn => uGo_few hL (by decide) (by decide) n q hn))
  have hlt := rS_lt al false 1 (by decide) L p lo hi
  have hlen := rS_len al false 1 L p lo hi
  have hnl := rS_nil al false 1 L p lo hi
  generalize rS al false 1 (fun n p => uGo L 1 n p []) L p lo hi = o at *
  obtain ⟨oe, l, q⟩ := o
  simp only at hP hlt hlen hnl ⊢
  have hbs : bitS ⟨oe, l, q⟩ = bstr (l.map fun u => (u + 48) % 256) := by
    by_cases he : oe = 0
    · exact if_pos he
    · rw [hnl he]; exact if_neg he
  rw [hbs]
  have HP := Lib.hid hP
  have HLT := Lib.hid (show ∀ j, j < l.length → l.getD j 0 < 2 from fun j hj => hlt _ (getD_mem hj))
  have HM := Lib.hid (show ∀ j, j < l.length → (l.map fun u => (u + 48) % 256).getD j 0 = (l.getD j 0 + 48) % 256 from fun j hj => by
    rw [List.getD_eq_getElem?_getD, List.getD_eq_getElem?_getD, List.getElem?_map, List.getElem?_eq_getElem hj]
    rfl)
  have HM8 := Lib.hid (show ∀ i, (l.map fun u => (u + 48) % 256).getD i 0 < 256 from getD_lt fun x hx => by
    obtain ⟨y, _, rfl⟩ := List.mem_map.1 hx
    exact Nat.mod_lt _ (by decide))
  have HML := Lib.hid (show (l.map fun u => (u + 48) % 256).length = l.length from List.length_map ..)
  generalize (l.map fun u => (u + 48) % 256) = z at *
  clear hP hlt hq hnl hbs
  go_enter Tryz.func15, Tryz.ntmps15
  go_wp2_with fail
  refine HP.out.mono ?_
  rintro e w2 ⟨v, rfl, h1, h2, h3⟩
  obtain ⟨a, n, cap, rfl, hzn, hcap⟩ := h1.shape
  rw [ints_length] at hzn
  have HIN := Lib.hid h1
  have HQ := Lib.hid h2
  have HO := Lib.hid h3
  have HZ := Lib.hid hzn
  have HZZ := Lib.hid (show z.length = n from HML.out.trans hzn)
  have hn5 : n ≤ 100000 := by omega
  clear h1 h2 h3 hzn hlen HP HML
  go_wp2_with fail
  go_loopw [12, 13] (fun v i wr => RelOb w2 n z v i wr) (fun _ i _ => n - (intOf i).toNat)
  case atStart => exact ⟨0, Nat.zero_le _, rfl, Own.nil _ _, Below.refl _ _⟩
  case round =>
    obtain ⟨j, hj, rfl, hown, hbel⟩ := hrel
    have HOW := Lib.hid hown
    have HB := Lib.hid hbel
    clear hown hbel
    by_cases hlt : j < n
    · have q1 : decide ((j : Int) < (n : Int)) = true := decide_eq_true (by omega)
      obtain ⟨g, o, rfl, hcl⟩ := InAt.ptr (HIN.out.below HB.out) (show 0 < n by omega)
      obtain ⟨x, hx⟩ : ∃ x, l.getD j 0 = x := ⟨_, rfl⟩
      have c1 := hcl j hlt
      rw [ints_at, hx] at c1
      have hjl : j < l.length := by rw [HZ.out]; exact hlt
      have hx8 := HLT.out j hjl
      rw [hx] at hx8
      obtain ⟨y, hy⟩ : ∃ y, 48 + x = y := ⟨_, rfl⟩
      have HX := Lib.hid (show z.getD j 0 = y by rw [HM.out j hjl, hx]; omega)
      have q2 : (x : Int) % 256 = (x : Int) := by omega
      have q3 : (48 : Int) + (x : Int) = (y : Int) := by omega
      have q4 : (y : Int) % 256 = (y : Int) := by omega
      have hsz := HB.out.size
      have hzt : (z.take j).length ≤ 100000 := by rw [List.length_take, HZZ.out]; omega
      clear hcl hx hy hjl
      go_wp2_with (at_builtin; refine wpList_append_own _ rfl (.tmp 29) (.tmp 36) 22 rfl w2.heap.size 5 i0 (.int .u8 0) 1 1 Tryz.underlying22 hi0 hz0 hz1 hz2 rfl (by decide) _ (z.take j).length (u8s (z.take j)) rfl (HOW.out.1.alloc _) ⟨wr.heap.size, 0, none⟩ 1 1 [.int .u8 (y : Nat)] rfl rfl (cell_one_new _ _ _) (by simp [Value.oneCell']) (by unfold maxLen; omega) (by omega) (by simp; omega) ?_; intro v' w4 hown4 hgr4 _; have HO4 := Lib.hid hown4; have HG4 := Lib.hid hgr4; clear hown4 hgr4)
      have h2 := HOW.out.1.alloc (.cells #[.int .u8 (y : Nat)] 5)
      have HB4 := Lib.hid ((HB.out.alloc HB.out.size (.cells #[.int .u8 (y : Nat)] 5)).grown HG4.out (by simp; omega) (fun k hk => (h2.lt k hk).1))
      clear h2 HG4 HOW HB c1
      go_roundw
      case rel => exact relOb_next hlt HZZ.out HX.out HM8.out HO4.out HB4.out
      case measure => simp [intOf]; omega
    · obtain rfl : j = n := by omega
      have q1 : decide ((j : Int) < (j : Int)) = false := decide_eq_false (by omega)
      have hown := HOW.out
      rw [List.take_of_length_le (by rw [HZZ.out]; exact Nat.le_refl _)] at hown
      have cs := conv_sl wr _ _ hown.sl
      have HQ2 := Lib.hid (HQ.out.below HB.out)
      have HO2 := Lib.hid (HO.out.trans (Only.of_below HB.out))
      clear hown HOW
      go_wp2_with fail
      go_ret2
      exact ⟨rfl, HQ2.out, HO2.out⟩
end Go.Proofs.YtbpfggkpfaobhaaGreat
