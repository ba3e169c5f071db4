/-
  Package token: what stands at a place; where a comment ends; where a sign ends.
-/
import Derived.Test.YthcodmcfkmochaaDoorTkQ
import Derived.Test.YthcodmcfkmochaaDoorTkN
import Derived.Test.YthcodmcfkmochaaDoorShelf
import Derived.Lib.Strings
namespace Go.Proofs.YthcodmcfkmochaaDoor
open Go.RowKit
set_option linter.unusedVariables false
set_option linter.unusedSimpArgs false
set_option maxRecDepth 100000

theorem nat_inj : ∀ {a b : List UInt8}, a.map (·.toNat) = b.map (·.toNat) → a = b
  | [], [], _ => rfl
  | [], _ :: _, h => by cases h
  | _ :: _, [], h => by cases h
  | x :: a, y :: b, h => by
    injection h with h1 h2
    rw [UInt8.toNat_inj.1 h1, nat_inj h2]
theorem tail_list (s : ByteArray) (i : Nat) : (s.extract i s.size).data.toList = s.data.toList.drop i := by
  rw [ByteArray.data_extract, Array.toList_extract, List.extract_eq_take_drop]
  exact List.take_of_length_le (by rw [List.length_drop]; exact Nat.le_refl _)
theorem pre_has (s g : ByteArray) (i : Nat) : Lib.hasPrefix (s.extract i s.size).data.toList g.data.toList = hasP (cods s) i (cods g) := by
  unfold hasP Lib.hasPrefix
  rw [Bool.eq_iff_iff, List.isPrefixOf_iff_prefix, decide_eq_true_eq, tail_list, List.prefix_iff_eq_take, cods_length]
  have e : ((cods s).drop i).take g.size = ((s.data.toList.drop i).take g.data.toList.length).map (·.toNat) := by
    unfold cods
    rw [List.map_take, List.map_drop]
    rfl
  rw [e]
  unfold cods
  constructor
  · intro h; exact (congrArg (List.map (·.toNat)) h).symm
  · intro h; exact (nat_inj h).symm
theorem has_ok (s g : ByteArray) (i : Nat) (hi : i ≤ s.size) (w : World) : Calls Tryd.prog 25 #[.string s, .int .i64 (i : Nat), .string g] w fun e w' => e = .returned (.bool (hasP (cods s) i (cods g))) ∧ w = w' := by
  have HP := Lib.hid (fun w => Tryd.strings_HasPrefix (s.extract i s.size) g w)
  rw [pre_has] at HP
  have q1 : (i : Int) ≤ (s.size : Int) := by omega
  have q2 : (0 : Int) ≤ (i : Int) := by omega
  generalize hasP (cods s) i (cods g) = b at *
  go_enter Tryd.func25, Tryd.ntmps25
  go_wp2_with fail
  refine (HP.out _).mono ?_
  rintro e w1 ⟨rfl, rfl⟩
  go_wp2_with fail
  go_ret
  exact ⟨rfl, rfl⟩
theorem hyp_codes : cods ⟨#[45, 45]⟩ = [45, 45] := by decide
theorem has_two (l : List Nat) (i x : Nat) (h0 : x ≠ 0) : hasP l i [x, x] = decide (tAt l i = x ∧ tAt l (i + 1) = x) := by
  unfold hasP
  rw [decide_eq_decide]
  constructor
  · intro h0'
    have h : (l.drop i).take 2 = [x, x] := h0'
    have h1 : ((l.drop i).take 2).getD 0 0 = x := by rw [h]; rfl
    have h2 : ((l.drop i).take 2).getD 1 0 = x := by rw [h]; rfl
    rw [List.getD_eq_getElem?_getD, List.getElem?_take, if_pos (by decide), List.getElem?_drop] at h1 h2
    unfold tAt
    rw [List.getD_eq_getElem?_getD, List.getD_eq_getElem?_getD]
    exact ⟨h1, h2⟩
  · rintro ⟨h1, h2⟩
    have i1 := tAt_in (l := l) (i := i + 1) (by rw [h2]; exact h0)
    rw [List.drop_eq_getElem_cons (show i < l.length by omega), List.drop_eq_getElem_cons i1]
    unfold tAt at h1 h2
    rw [List.getD_eq_getElem?_getD, List.getElem?_eq_getElem (by omega)] at h1
    rw [List.getD_eq_getElem?_getD, List.getElem?_eq_getElem i1] at h2
    have h1' : l[i] = x := h1
    have h2' : l[i + 1] = x := h2
    rw [h1', h2']
    rfl
theorem has_hyp (s : ByteArray) (i : Nat) (hi : i ≤ s.size) (b : Bool) (hb : decide (tAt (cods s) i = 45 ∧ tAt (cods s) (i + 1) = 45) = b) (w : World) : Calls Tryd.prog 25 #[.string s, .int .i64 (i : Nat), .string ⟨#[45, 45]⟩] w fun e w' => e = .returned (.bool b) ∧ w = w' := by
  have h := has_ok s ⟨#[45, 45]⟩ i hi w
  rw [hyp_codes, has_two _ _ 45 (by decide), hb] at h
  exact h
theorem cGo_step {l : List Nat} {n e : Nat} (h : e < l.length) (h1 : ¬ tAt l e = 10) (h2 : ¬ (tAt l e = 45 ∧ tAt l (e + 1) = 45)) : cGo l (n + 1) e = cGo l n (e + 1) := (if_pos h).trans ((if_neg h1).trans (if_neg h2))
theorem cGo_line {l : List Nat} {n e : Nat} (h : e < l.length) (h1 : tAt l e = 10) : cGo l (n + 1) e = e := (if_pos h).trans (if_pos h1)
theorem cGo_two {l : List Nat} {n e : Nat} (h : e < l.length) (h1 : ¬ tAt l e = 10) (h2 : tAt l e = 45 ∧ tAt l (e + 1) = 45) : cGo l (n + 1) e = e + 2 := (if_pos h).trans ((if_neg h1).trans (if_pos h2))
theorem cGo_end {l : List Nat} {n e : Nat} (h : ¬ e < l.length) : cGo l (n + 1) e = l.length := if_neg h
set_option maxHeartbeats 4000000 in
theorem commentEnd_ok (s : ByteArray) (p : Nat) (w : World) (hp : p + 2 ≤ s.size) (hs : s.size ≤ 100000) :
    Calls Tryd.prog 26 #[.agg #[.string s, .int .i64 (p : Nat)]] w fun e w' => e = .returned (.int .i64 (cEnd (cods s) p : Nat)) ∧ Below w.heap.size w w' := by
  obtain ⟨hb0, hk⟩ := scbox w s p
  have HB0 := Lib.hid hb0
  have HK := Lib.hid hk
  have HAT := Lib.hid (fun z i h x hx w => tat_int s z i h x hx w)
  have HH := Lib.hid (fun i hi b hb w => has_hyp s i hi b hb w)
  have hlen := cods_length s
  obtain ⟨R, hR⟩ : ∃ R, cEnd (cods s) p = R := ⟨_, rfl⟩
  rw [hR]
  have HG0 := Lib.hid (show cGo (cods s) (s.size + 1) (p + 2) = R by rw [← hR]; unfold cEnd; rw [hlen])
  have HL := Lib.hid hlen
  generalize cods s = l at *
  clear hb0 hk hR hlen
  go_enter Tryd.func26, Tryd.ntmps26
  go_wp2_with fail
  generalize w.alloc (.cells #[.string s, .int .i64 (p : Nat)] 38) = W at *
  go_loopw [3] (fun ev wr => RelE W l (cGo l) R ev wr) (fun ev _ => s.size + 1 - (intOf ev).toNat)
  case atStart => exact ⟨p + 2, s.size + 1, by go_num, by rw [HL.out]; exact hp, HG0.out, by rw [HL.out]; omega, Below.refl _ _⟩
  case round =>
    clear HG0
    obtain ⟨j, n, rfl, hj, hgo, hn, hb⟩ := hrel
    rw [HL.out] at hj hn
    obtain ⟨m, rfl⟩ : ∃ m, n = m + 1 := ⟨n - 1, by omega⟩
    have HGO := Lib.hid hgo
    have HB := Lib.hid hb
    obtain ⟨k0, k1⟩ := HK.out wr hb
    obtain ⟨x, hx⟩ : ∃ x, tAt l j = x := ⟨_, rfl⟩
    have HA0 := Lib.hid (fun w => HAT.out (j : Int) j rfl x hx w)
    have HX := Lib.hid hx
    clear hgo hb hx
    by_cases hlt : j < s.size
    · have q1 : decide ((j : Int) < (s.size : Int)) = true := decide_eq_true (by omega)
      have q1n : decide (j < s.size) = true := decide_eq_true hlt
      by_cases hx : x = 10
      · have q2 : ((x : Int) == 10) = true := by rw [hx]; rfl
        have HE := Lib.hid ((cGo_line (by rw [HL.out]; exact hlt) (HX.out.trans hx)).symm.trans HGO.out)
        clear hx
        go_wp2_with fail
        refine (HA0.out _).mono ?_
        rintro e w5 ⟨rfl, rfl⟩
        go_wp2_with fail
        go_ret
        rw [← HE.out]
        exact ⟨rfl, HB0.out.trans (HB.out.mono HB0.out.size)⟩
      · have q2 : ((x : Int) == 10) = false := beq_false_of_ne (by omega)
        have q3 : decide (x = 10) = false := decide_eq_false hx
        by_cases h2 : tAt l j = 45 ∧ tAt l (j + 1) = 45
        · have HE := Lib.hid ((cGo_two (by rw [HL.out]; exact hlt) (by rw [HX.out]; exact hx) h2).symm.trans HGO.out)
          have HHj := Lib.hid (fun w => HH.out j (by omega) true (decide_eq_true h2) w)
          clear hx h2
          go_wp2_with fail
          refine (HA0.out _).mono ?_
          rintro e w5 ⟨rfl, rfl⟩
          go_wp2_with fail
          refine (HHj.out _).mono ?_
          rintro e w5 ⟨rfl, rfl⟩
          go_wp2_with fail
          go_ret
          rw [← HE.out]
          exact ⟨by go_num, HB0.out.trans (HB.out.mono HB0.out.size)⟩
        · have HN := Lib.hid ((cGo_step (by rw [HL.out]; exact hlt) (by rw [HX.out]; exact hx) h2).symm.trans HGO.out)
          have HHj := Lib.hid (fun w => HH.out j (by omega) false (decide_eq_false h2) w)
          clear hx h2
          go_wp2_with fail
          refine (HA0.out _).mono ?_
          rintro e w5 ⟨rfl, rfl⟩
          go_wp2_with fail
          refine (HHj.out _).mono ?_
          rintro e w5 ⟨rfl, rfl⟩
          go_wp2_with fail
          go_roundw
          case rel => exact ⟨j + 1, m, by go_num, by rw [HL.out]; omega, HN.out, by rw [HL.out]; omega, HB.out⟩
          case measure => simp [intOf]; omega
    · have q1 : decide ((j : Int) < (s.size : Int)) = false := decide_eq_false (by omega)
      have q1n : decide (j < s.size) = false := decide_eq_false hlt
      have HE := Lib.hid ((cGo_end (by rw [HL.out]; exact hlt)).symm.trans HGO.out)
      rw [HL.out] at HE
      clear hlt
      go_wp2_with fail
      go_ret
      rw [← HE.out]
      exact ⟨rfl, HB0.out.trans (HB.out.mono HB0.out.size)⟩
end Go.Proofs.YthcodmcfkmochaaDoor
