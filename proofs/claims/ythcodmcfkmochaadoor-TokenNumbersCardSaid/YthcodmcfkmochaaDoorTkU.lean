/-
  Words: package token's isWord, Upper, Lower, and the document's.
-/
import Derived.Test.YthcodmcfkmochaaDoorTkC
namespace Go.Proofs.YthcodmcfkmochaaDoor
open Go.RowKit
set_option linter.unusedVariables false
set_option linter.unusedSimpArgs false
set_option maxRecDepth 100000

def isWd (s : ByteArray) : Bool := decide ((tkEnd (cods s) 0).1 = 1) && decide ((tkEnd (cods s) 0).2 = s.size)
theorem isWd_in {s : ByteArray} (h : isWd s = true) : isLt (tAt (cods s) 0) = true ∧ 0 < s.size ∧ wEnd (cods s) 0 = s.size := by
  unfold isWd at h
  rw [Bool.and_eq_true, decide_eq_true_eq, decide_eq_true_eq] at h
  obtain ⟨h1, h2⟩ := h
  cases hl : isLt (tAt (cods s) 0) with
  | true =>
    rw [tkEnd_w hl] at h2
    refine ⟨rfl, ?_, h2⟩
    have := tAt_in (l := cods s) (i := 0) (by intro e; rw [e] at hl; exact absurd hl (by decide))
    rw [cods_length] at this
    exact this
  | false =>
    exfalso
    by_cases hd : isDg (tAt (cods s) 0) = true ∨ (tAt (cods s) 0 = 45 ∧ isDg (tAt (cods s) (0 + 1)) = true)
    · rw [tkEnd_i hl hd] at h1; exact absurd (show (2 : Nat) = 1 from h1) (by decide)
    · by_cases hq : tAt (cods s) 0 = 34
      · rw [tkEnd_q hl hd hq] at h1; exact absurd (show (4 : Nat) = 1 from h1) (by decide)
      · rw [tkEnd_s hl hd hq] at h1; exact absurd (show (3 : Nat) = 1 from h1) (by decide)
theorem isWord_ok (s : ByteArray) (w : World) (hgl : Gl w) (hs : s.size ≤ 100000) : Calls Tryd.prog 14 #[.string s] w fun e w' => e = .returned (.bool (isWd s)) ∧ Below w.heap.size w w' := by
  have hE := end_ok s 0 w hgl (Nat.zero_le _) hs
  unfold isWd
  obtain ⟨k, e, hke⟩ : ∃ k e, tkEnd (cods s) 0 = (k, e) := ⟨_, _, rfl⟩
  rw [hke] at hE ⊢
  simp only at hE ⊢
  have HE := Lib.hid (show Calls Tryd.prog 19 #[.agg #[.string s, .int .i64 0]] w fun e1 w' => e1 = .returned (.tuple #[.int .i64 (k : Nat), .int .i64 (e : Nat)]) ∧ Below w.heap.size w w' from hE)
  clear hE hke hgl
  by_cases h1 : k = 1
  · have q1 : ((k : Int) == 1) = true := by rw [h1]; rfl
    have q1n : decide (k = 1) = true := decide_eq_true h1
    clear h1
    by_cases h2 : e = s.size
    · have q2 : ((e : Int) == (s.size : Int)) = true := by rw [h2]; simp
      have q2n : decide (e = s.size) = true := decide_eq_true h2
      clear h2
      go_enter Tryd.func14, Tryd.ntmps14
      go_wp2_with fail
      refine HE.out.mono ?_
      rintro r w1 ⟨rfl, hb⟩
      have HB := Lib.hid hb
      clear hb
      go_wp2_with fail
      go_ret
      exact ⟨by rw [q1n, q2n]; rfl, HB.out⟩
    · have q2 : ((e : Int) == (s.size : Int)) = false := beq_false_of_ne (by omega)
      have q2n : decide (e = s.size) = false := decide_eq_false h2
      clear h2
      go_enter Tryd.func14, Tryd.ntmps14
      go_wp2_with fail
      refine HE.out.mono ?_
      rintro r w1 ⟨rfl, hb⟩
      have HB := Lib.hid hb
      clear hb
      go_wp2_with fail
      go_ret
      exact ⟨by rw [q1n, q2n]; rfl, HB.out⟩
  · have q1 : ((k : Int) == 1) = false := beq_false_of_ne (by omega)
    have q1n : decide (k = 1) = false := decide_eq_false h1
    clear h1
    go_enter Tryd.func14, Tryd.ntmps14
    go_wp2_with fail
    refine HE.out.mono ?_
    rintro r w1 ⟨rfl, hb⟩
    have HB := Lib.hid hb
    clear hb
    go_wp2_with fail
    go_ret
    exact ⟨by rw [q1n]; rfl, HB.out⟩
theorem upper_ok (s : ByteArray) (w : World) (hgl : Gl w) (hs : s.size ≤ 100000) : Calls Tryd.prog 8 #[.string s] w fun e w' => e = .returned (.bool (isWd s && isUp (tAt (cods s) 0))) ∧ Below w.heap.size w w' := by
  have HW := Lib.hid (isWord_ok s w hgl hs)
  cases hw : isWd s with
  | true =>
    rw [hw] at HW
    obtain ⟨_, h0, _⟩ := isWd_in hw
    obtain ⟨x, hx⟩ : ∃ x, tAt (cods s) 0 = x := ⟨_, rfl⟩
    have e1 : (s[0]'h0).toNat = x := (cods_at s 0 h0).trans hx
    rw [hx]
    have HP := Lib.hid (fun w => tup_ok x w)
    have q1 : (0 : Int) < (s.size : Int) := by omega
    have q2 : 0 < s.size := h0
    clear hw hx hgl
    generalize isUp x = b at *
    go_enter Tryd.func8, Tryd.ntmps8
    go_wp2_with fail
    refine HW.out.mono ?_
    rintro r w1 ⟨rfl, hb⟩
    have HB := Lib.hid hb
    clear hb
    go_wp2_with fail
    refine (HP.out _).mono ?_
    rintro r w2 ⟨rfl, rfl⟩
    go_wp2_with fail
    go_ret
    exact ⟨by simp, HB.out⟩
  | false =>
    rw [hw] at HW
    clear hw hgl
    go_enter Tryd.func8, Tryd.ntmps8
    go_wp2_with fail
    refine HW.out.mono ?_
    rintro r w1 ⟨rfl, hb⟩
    have HB := Lib.hid hb
    clear hb
    go_wp2_with fail
    go_ret
    exact ⟨by simp, HB.out⟩
theorem lower_ok (s : ByteArray) (w : World) (hgl : Gl w) (hs : s.size ≤ 100000) : Calls Tryd.prog 10 #[.string s] w fun e w' => e = .returned (.bool (isWd s && isLo (tAt (cods s) 0))) ∧ Below w.heap.size w w' := by
  have HW := Lib.hid (isWord_ok s w hgl hs)
  cases hw : isWd s with
  | true =>
    rw [hw] at HW
    obtain ⟨_, h0, _⟩ := isWd_in hw
    obtain ⟨x, hx⟩ : ∃ x, tAt (cods s) 0 = x := ⟨_, rfl⟩
    have e1 : (s[0]'h0).toNat = x := (cods_at s 0 h0).trans hx
    rw [hx]
    have HP := Lib.hid (fun w => tlo_ok x w)
    have q1 : (0 : Int) < (s.size : Int) := by omega
    have q2 : 0 < s.size := h0
    clear hw hx hgl
    generalize isLo x = b at *
    go_enter Tryd.func10, Tryd.ntmps10
    go_wp2_with fail
    refine HW.out.mono ?_
    rintro r w1 ⟨rfl, hb⟩
    have HB := Lib.hid hb
    clear hb
    go_wp2_with fail
    refine (HP.out _).mono ?_
    rintro r w2 ⟨rfl, rfl⟩
    go_wp2_with fail
    go_ret
    exact ⟨by simp, HB.out⟩
  | false =>
    rw [hw] at HW
    clear hw hgl
    go_enter Tryd.func10, Tryd.ntmps10
    go_wp2_with fail
    refine HW.out.mono ?_
    rintro r w1 ⟨rfl, hb⟩
    have HB := Lib.hid hb
    clear hb
    go_wp2_with fail
    go_ret
    exact ⟨by simp, HB.out⟩
/-- the document's count of a word's letters; below 0: it ends with a hyphen -/
def rwGo (l : List Nat) : Nat → Nat → Int
  | 0, n => n
  | f + 1, n => if n < l.length then (if isA (tAt l n) = true then rwGo l f (n + 1) else if tAt l n ≠ 45 ∨ (n + 1 < l.length ∧ tAt l (n + 1) = 45) then n else if n + 1 = l.length ∨ ¬ isA (tAt l (n + 1)) = true then -1 else rwGo l f (n + 1)) else n
def rWord (l : List Nat) : Int := if l.length = 0 ∨ ¬ isLt (tAt l 0) = true then 0 else rwGo l (l.length + 1) 1
theorem rwGo_end {l : List Nat} {f n : Nat} (h : ¬ n < l.length) : rwGo l (f + 1) n = n := if_neg h
theorem rwGo_step {l : List Nat} {f n : Nat} (h : isA (tAt l n) = true) : rwGo l (f + 1) n = rwGo l f (n + 1) := (if_pos (isA_in h)).trans (if_pos h)
theorem rwGo_stop {l : List Nat} {f n : Nat} (h : n < l.length) (h1 : ¬ isA (tAt l n) = true) (h2 : tAt l n ≠ 45 ∨ (n + 1 < l.length ∧ tAt l (n + 1) = 45)) : rwGo l (f + 1) n = n := (if_pos h).trans ((if_neg h1).trans (if_pos h2))
theorem rwGo_bad {l : List Nat} {f n : Nat} (h : n < l.length) (h1 : ¬ isA (tAt l n) = true) (h2 : ¬ (tAt l n ≠ 45 ∨ (n + 1 < l.length ∧ tAt l (n + 1) = 45))) (h3 : n + 1 = l.length ∨ ¬ isA (tAt l (n + 1)) = true) : rwGo l (f + 1) n = -1 := (if_pos h).trans ((if_neg h1).trans ((if_neg h2).trans (if_pos h3)))
theorem rwGo_hyp {l : List Nat} {f n : Nat} (h : n < l.length) (h1 : ¬ isA (tAt l n) = true) (h2 : ¬ (tAt l n ≠ 45 ∨ (n + 1 < l.length ∧ tAt l (n + 1) = 45))) (h3 : ¬ (n + 1 = l.length ∨ ¬ isA (tAt l (n + 1)) = true)) : rwGo l (f + 1) n = rwGo l f (n + 1) := (if_pos h).trans ((if_neg h1).trans ((if_neg h2).trans (if_neg h3)))
/-- the two counts of a word -/
theorem word_same (l : List Nat) : ∀ (n f e : Nat), 1 ≤ e → e ≤ l.length → l.length + 1 ≤ n + e → l.length + 1 ≤ f + e → rwGo l f e = if wGo l 0 n e = 0 then -1 else (wGo l 0 n e : Int)
  | 0, f, e, _, h, h1, _ => by omega
  | n + 1, 0, e, _, h, _, h1 => by omega
  | n + 1, f + 1, e, h0, h, h1, h2 => by
    by_cases hA : isA (tAt l e) = true
    · have := isA_in hA
      rw [rwGo_step hA, wGo_step hA]
      exact word_same l n f (e + 1) (by omega) this (by omega) (by omega)
    · by_cases hlt : e < l.length
      · by_cases hs : tAt l e ≠ 45 ∨ tAt l (e + 1) = 45
        · rw [wGo_end hA hs, rwGo_stop hlt hA (hs.imp id fun h => ⟨tAt_in (by rw [h]; decide), h⟩), if_neg (by omega)]
        · have hs2 : ¬ (tAt l e ≠ 45 ∨ (e + 1 < l.length ∧ tAt l (e + 1) = 45)) := fun h => hs (h.imp id fun h => h.2)
          by_cases h3 : isA (tAt l (e + 1)) = true
          · have hin := isA_in h3
            cases f with
            | zero => omega
            | succ f =>
              rw [wGo_two hA hs h3, rwGo_hyp hlt hA hs2 (fun h => h.elim (by omega) (fun h => h h3)), rwGo_step h3]
              cases n with
              | zero => omega
              | succ n =>
                have e2 : wGo l 0 (n + 1) (e + 2) = wGo l 0 (n + 1) (e + 2) := rfl
                exact word_same l (n + 1) f (e + 2) (by omega) hin (by omega) (by omega)
          · rw [wGo_bad hA hs h3, rwGo_bad hlt hA hs2 (.inr h3), if_pos rfl]
      · have he : e = l.length := by omega
        have h4 : tAt l e ≠ 45 := by rw [tAt_out (by omega)]; decide
        rw [rwGo_end hlt, wGo_end hA (.inl h4), if_neg (by omega)]
theorem rWord_same {l : List Nat} (h : isLt (tAt l 0) = true) : rWord l = if wEnd l 0 = 0 then -1 else (wEnd l 0 : Int) := by
  have hin := tAt_in (l := l) (i := 0) (by intro e; rw [e] at h; exact absurd h (by decide))
  unfold rWord
  rw [if_neg (by rintro (h1 | h1); omega; exact h1 h)]
  exact word_same l (l.length + 1) (l.length + 1) 1 (by omega) hin (by omega) (by omega)
theorem rWord_no {l : List Nat} (h : ¬ isLt (tAt l 0) = true) : rWord l = 0 := if_pos (.inr h)
/-- the document's Upper and Lower are the program's -/
theorem wd_same (s : ByteArray) (h : 0 < s.size) : isWd s = decide (rWord (cods s) = (s.size : Int)) := by
  by_cases hl : isLt (tAt (cods s) 0) = true
  · unfold isWd
    rw [tkEnd_w hl, rWord_same hl]
    show (decide (1 = 1) && decide (wEnd (cods s) 0 = s.size)) = _
    rw [decide_eq_true rfl, Bool.true_and, decide_eq_decide]
    split <;> omega
  · rw [rWord_no hl, decide_eq_false (by omega)]
    rw [Bool.eq_false_iff]
    exact fun h => hl (isWd_in h).1
theorem wd_empty {s : ByteArray} (h : s.size = 0) : isWd s = false := by
  rw [Bool.eq_false_iff]
  intro h1
  have := (isWd_in h1).2.1
  omega
set_option maxHeartbeats 4000000 in
theorem rword_ok (s : ByteArray) (w : World) (hs : s.size ≤ 100000) : Calls Tryd.prog 16 #[.string s] w fun e w' => e = .returned (.int .i64 (rWord (cods s))) ∧ w = w' := by
  have hlen := cods_length s
  have HAT := Lib.hid (fun (i : Nat) (h : i < s.size) => (show (s[i]'h).toNat = tAt (cods s) i from cods_at s i h))
  by_cases h0 : s.size = 0
  · have hR : rWord (cods s) = 0 := if_pos (.inl (by omega))
    rw [hR]
    have q1 : ((s.size : Int) == 0) = true := by rw [h0]; rfl
    have q1n : decide (s.size = 0) = true := decide_eq_true h0
    clear hlen HAT hR
    go_enter Tryd.func16, Tryd.ntmps16
    go_wp2_with fail
    go_ret
    exact ⟨rfl, rfl⟩
  have p0 : 0 < s.size := by omega
  have q1 : ((s.size : Int) == 0) = false := beq_false_of_ne (by omega)
  have q1n : decide (s.size = 0) = false := decide_eq_false h0
  have q2 : (0 : Int) < (s.size : Int) := by omega
  obtain ⟨x, hx⟩ : ∃ x, tAt (cods s) 0 = x := ⟨_, rfl⟩
  have e1 : (s[0]'p0).toNat = x := (HAT.out 0 p0).trans hx
  have HLx := Lib.hid (fun w => rlt_ok x w)
  cases hlx : isLt x with
  | false =>
    rw [hlx] at HLx
    rw [rWord_no (by rw [hx, hlx]; decide)]
    clear hlen HAT hx hlx h0
    go_enter Tryd.func16, Tryd.ntmps16
    go_wp2_with fail
    refine (HLx.out _).mono ?_
    rintro r w1 ⟨rfl, rfl⟩
    go_wp2_with fail
    go_ret
    exact ⟨rfl, rfl⟩
  | true =>
    rw [hlx] at HLx
    obtain ⟨R, hR⟩ : ∃ R, rWord (cods s) = R := ⟨_, rfl⟩
    rw [hR]
    have HG := Lib.hid (show rwGo (cods s) (s.size + 1) 1 = R by rw [← hR]; unfold rWord; rw [if_neg (by rintro (h1 | h1); omega; exact h1 (by rw [hx]; exact hlx)), hlen])
    have HL := Lib.hid hlen
    generalize cods s = l at *
    clear hx hlx hR hlen h0
    go_enter Tryd.func16, Tryd.ntmps16
    go_wp2_with fail
    refine (HLx.out _).mono ?_
    rintro r w1 ⟨rfl, rfl⟩
    clear e1
    go_wp2_with fail
    go_loopw [3] (fun nv wr => (∃ n f : Nat, nv = .int .i64 n ∧ 1 ≤ n ∧ n ≤ s.size ∧ s.size + 1 ≤ f + n ∧ rwGo l f n = R) ∧ wr = w) (fun nv _ => s.size - (intOf nv).toNat)
    case atStart => exact ⟨⟨1, s.size + 1, rfl, Nat.le_refl _, p0, by omega, HG.out⟩, rfl⟩
    case round =>
      clear HG
      obtain ⟨⟨n, f, rfl, hn1, hn, hf, hgo⟩, rfl⟩ := hrel
      obtain ⟨m, rfl⟩ : ∃ m, f = m + 1 := ⟨f - 1, by omega⟩
      have HGO := Lib.hid hgo
      clear hgo
      by_cases hlt : n < s.size
      · have r1 : decide ((n : Int) < (s.size : Int)) = true := decide_eq_true (by omega)
        have r1n : decide (n < s.size) = true := decide_eq_true hlt
        have r2 : (n : Int) < (s.size : Int) := by omega
        have r3 : (0 : Int) ≤ (n : Int) := by omega
        obtain ⟨y, hy⟩ : ∃ y, tAt l n = y := ⟨_, rfl⟩
        obtain ⟨z, hz⟩ : ∃ z, tAt l (n + 1) = z := ⟨_, rfl⟩
        have e2 : (s[n]'hlt).toNat = y := (HAT.out n hlt).trans hy
        have HLy := Lib.hid (fun w => rlt_ok y w)
        have HDy := Lib.hid (fun w => rdg_ok y w)
        have HLz := Lib.hid (fun w => rlt_ok z w)
        have HDz := Lib.hid (fun w => rdg_ok z w)
        have HY := Lib.hid hy
        have HZ := Lib.hid hz
        have HLT := Lib.hid (show n < l.length by rw [HL.out]; exact hlt)
        clear hy hz
        cases hly : isLt y with
        | true =>
          rw [hly] at HLy
          have HN := Lib.hid ((rwGo_step (show isA (tAt l n) = true by rw [HY.out]; unfold isA; rw [hly]; rfl)).symm.trans HGO.out)
          clear hly
          go_wp2_with fail
          refine (HLy.out _).mono ?_
          rintro r w1 ⟨rfl, rfl⟩
          go_wp2_with fail
          go_roundw
          case rel => exact ⟨⟨n + 1, m, by go_num, by omega, by omega, by omega, HN.out⟩, trivial⟩
          case measure => simp [intOf]; omega
        | false =>
          rw [hly] at HLy
          cases hdy : isDg y with
          | true =>
            rw [hdy] at HDy
            have HN := Lib.hid ((rwGo_step (show isA (tAt l n) = true by rw [HY.out]; unfold isA; rw [hly, hdy]; rfl)).symm.trans HGO.out)
            clear hly hdy
            go_wp2_with fail
            refine (HLy.out _).mono ?_
            rintro r w1 ⟨rfl, rfl⟩
            go_wp2_with fail
            refine (HDy.out _).mono ?_
            rintro r w1 ⟨rfl, rfl⟩
            go_wp2_with fail
            go_roundw
            case rel => exact ⟨⟨n + 1, m, by go_num, by omega, by omega, by omega, HN.out⟩, trivial⟩
            case measure => simp [intOf]; omega
          | false =>
            rw [hdy] at HDy
            have HNA := Lib.hid (show ¬ isA (tAt l n) = true by rw [HY.out]; unfold isA; rw [hly, hdy]; decide)
            clear hly hdy
            by_cases hy : y = 45
            · have s1 : ((y : Int) == 45) = true := by rw [hy]; rfl
              have s2 : ((y : Int) != 45) = false := by rw [hy]; rfl
              by_cases hl1 : n + 1 < s.size
              · have t1 : decide ((n : Int) + 1 < (s.size : Int)) = true := decide_eq_true (by omega)
                have t1n : decide (n + 1 < s.size) = true := decide_eq_true hl1
                have t2 : (n : Int) + 1 < (s.size : Int) := by omega
                have t3 : (0 : Int) ≤ (n : Int) + 1 := by omega
                have t4 : ((n : Int) + 1 == (s.size : Int)) = false := beq_false_of_ne (by omega)
                have t4n : decide (n + 1 = s.size) = false := decide_eq_false (by omega)
                have e3 : (s[n + 1]'hl1).toNat = z := (HAT.out (n + 1) hl1).trans HZ.out
                by_cases hz : z = 45
                · have s3 : ((z : Int) == 45) = true := by rw [hz]; rfl
                  have HE := Lib.hid ((rwGo_stop HLT.out HNA.out (.inr ⟨by rw [HL.out]; exact hl1, HZ.out.trans hz⟩)).symm.trans HGO.out)
                  clear hy hz
                  go_wp2_with fail
                  refine (HLy.out _).mono ?_
                  rintro r w1 ⟨rfl, rfl⟩
                  go_wp2_with fail
                  refine (HDy.out _).mono ?_
                  rintro r w1 ⟨rfl, rfl⟩
                  go_wp2_with fail
                  go_ret
                  rw [← HE.out]
                  exact ⟨rfl, rfl⟩
                · have s3 : ((z : Int) == 45) = false := beq_false_of_ne (by omega)
                  have s4 : decide (z = 45) = false := decide_eq_false hz
                  have HNO := Lib.hid (show ¬ (tAt l n ≠ 45 ∨ (n + 1 < l.length ∧ tAt l (n + 1) = 45)) by rw [HY.out, HZ.out]; omega)
                  clear hy hz
                  cases hlz : isLt z with
                  | true =>
                    rw [hlz] at HLz
                    have HN := Lib.hid ((rwGo_hyp HLT.out HNA.out HNO.out (by rw [HZ.out, HL.out]; rintro (h | h); omega; exact h (by unfold isA; rw [hlz]; rfl))).symm.trans HGO.out)
                    clear hlz
                    go_wp2_with fail
                    refine (HLy.out _).mono ?_
                    rintro r w1 ⟨rfl, rfl⟩
                    go_wp2_with fail
                    refine (HDy.out _).mono ?_
                    rintro r w1 ⟨rfl, rfl⟩
                    go_wp2_with fail
                    refine (HLz.out _).mono ?_
                    rintro r w1 ⟨rfl, rfl⟩
                    go_wp2_with fail
                    go_roundw
                    case rel => exact ⟨⟨n + 1, m, by go_num, by omega, by omega, by omega, HN.out⟩, trivial⟩
                    case measure => simp [intOf]; omega
                  | false =>
                    rw [hlz] at HLz
                    cases hdz : isDg z with
                    | true =>
                      rw [hdz] at HDz
                      have HN := Lib.hid ((rwGo_hyp HLT.out HNA.out HNO.out (by rw [HZ.out, HL.out]; rintro (h | h); omega; exact h (by unfold isA; rw [hlz, hdz]; rfl))).symm.trans HGO.out)
                      clear hlz hdz
                      go_wp2_with fail
                      refine (HLy.out _).mono ?_
                      rintro r w1 ⟨rfl, rfl⟩
                      go_wp2_with fail
                      refine (HDy.out _).mono ?_
                      rintro r w1 ⟨rfl, rfl⟩
                      go_wp2_with fail
                      refine (HLz.out _).mono ?_
                      rintro r w1 ⟨rfl, rfl⟩
                      go_wp2_with fail
                      refine (HDz.out _).mono ?_
                      rintro r w1 ⟨rfl, rfl⟩
                      go_wp2_with fail
                      go_roundw
                      case rel => exact ⟨⟨n + 1, m, by go_num, by omega, by omega, by omega, HN.out⟩, trivial⟩
                      case measure => simp [intOf]; omega
                    | false =>
                      rw [hdz] at HDz
                      have HE := Lib.hid ((rwGo_bad HLT.out HNA.out HNO.out (.inr (by rw [HZ.out]; unfold isA; rw [hlz, hdz]; decide))).symm.trans HGO.out)
                      clear hlz hdz
                      go_wp2_with fail
                      refine (HLy.out _).mono ?_
                      rintro r w1 ⟨rfl, rfl⟩
                      go_wp2_with fail
                      refine (HDy.out _).mono ?_
                      rintro r w1 ⟨rfl, rfl⟩
                      go_wp2_with fail
                      refine (HLz.out _).mono ?_
                      rintro r w1 ⟨rfl, rfl⟩
                      go_wp2_with fail
                      refine (HDz.out _).mono ?_
                      rintro r w1 ⟨rfl, rfl⟩
                      go_wp2_with fail
                      go_ret
                      rw [← HE.out]
                      exact ⟨rfl, rfl⟩
              · have t1 : decide ((n : Int) + 1 < (s.size : Int)) = false := decide_eq_false (by omega)
                have t1n : decide (n + 1 < s.size) = false := decide_eq_false hl1
                have t4 : ((n : Int) + 1 == (s.size : Int)) = true := by rw [show (n : Int) + 1 = (s.size : Int) by omega]; simp
                have t4n : decide (n + 1 = s.size) = true := decide_eq_true (by omega)
                have HE := Lib.hid ((rwGo_bad HLT.out HNA.out (by rw [HY.out, HL.out]; omega) (.inl (by rw [HL.out]; omega))).symm.trans HGO.out)
                clear hy
                go_wp2_with fail
                refine (HLy.out _).mono ?_
                rintro r w1 ⟨rfl, rfl⟩
                go_wp2_with fail
                refine (HDy.out _).mono ?_
                rintro r w1 ⟨rfl, rfl⟩
                go_wp2_with fail
                go_ret
                rw [← HE.out]
                exact ⟨rfl, rfl⟩
            · have s1 : ((y : Int) == 45) = false := beq_false_of_ne (by omega)
              have s2 : ((y : Int) != 45) = true := by simp; omega
              have s3 : decide (y = 45) = false := decide_eq_false hy
              have HE := Lib.hid ((rwGo_stop HLT.out HNA.out (.inl (by rw [HY.out]; exact hy))).symm.trans HGO.out)
              clear hy
              go_wp2_with fail
              refine (HLy.out _).mono ?_
              rintro r w1 ⟨rfl, rfl⟩
              go_wp2_with fail
              refine (HDy.out _).mono ?_
              rintro r w1 ⟨rfl, rfl⟩
              go_wp2_with fail
              go_ret
              rw [← HE.out]
              exact ⟨rfl, rfl⟩
      · have r1 : decide ((n : Int) < (s.size : Int)) = false := decide_eq_false (by omega)
        have r1n : decide (n < s.size) = false := decide_eq_false hlt
        have HE := Lib.hid ((rwGo_end (by rw [HL.out]; exact hlt)).symm.trans HGO.out)
        go_wp2_with fail
        go_ret
        rw [← HE.out]
        exact ⟨rfl, rfl⟩
theorem rupper_ok (s : ByteArray) (w : World) (hs : s.size ≤ 100000) : Calls Tryd.prog 9 #[.string s] w fun e w' => e = .returned (.bool (isWd s && isUp (tAt (cods s) 0))) ∧ w = w' := by
  have HW := Lib.hid (fun w => rword_ok s w hs)
  by_cases h0 : s.size = 0
  · rw [wd_empty h0]
    have q1 : decide ((0 : Int) < (s.size : Int)) = false := decide_eq_false (by omega)
    have q1n : decide (0 < s.size) = false := decide_eq_false (by omega)
    clear HW
    go_enter Tryd.func9, Tryd.ntmps9
    go_wp2_with fail
    go_ret
    exact ⟨rfl, rfl⟩
  · have p0 : 0 < s.size := by omega
    have q1 : decide ((0 : Int) < (s.size : Int)) = true := decide_eq_true (by omega)
    have q1n : decide (0 < s.size) = true := decide_eq_true p0
    have q2 : (0 : Int) < (s.size : Int) := by omega
    have hws := wd_same s p0
    cases hw : isWd s with
    | true =>
      obtain ⟨hl, _, _⟩ := isWd_in hw
      rw [hw] at hws
      have hR : rWord (cods s) = (s.size : Int) := of_decide_eq_true hws.symm
      rw [hR] at HW
      obtain ⟨x, hx⟩ : ∃ x, tAt (cods s) 0 = x := ⟨_, rfl⟩
      have e1 : (s[0]'p0).toNat = x := (cods_at s 0 p0).trans hx
      rw [hx] at hl ⊢
      rw [isLt_iff] at hl
      have q3 : ((s.size : Int) == (s.size : Int)) = true := by simp
      by_cases hu : x < 97
      · rw [show isUp x = true from isUp_iff.2 (by omega)]
        have v1 : decide ((x : Int) < 97) = true := decide_eq_true (by omega)
        have v1n : decide (x < 97) = true := decide_eq_true (by omega)
        clear hl hu hx hR hws hw h0
        go_enter Tryd.func9, Tryd.ntmps9
        go_wp2_with fail
        refine (HW.out _).mono ?_
        rintro r w1 ⟨rfl, rfl⟩
        go_wp2_with fail
        go_ret
        exact ⟨rfl, rfl⟩
      · rw [show isUp x = false from Bool.eq_false_iff.2 fun h => by rw [isUp_iff] at h; omega]
        have v1 : decide ((x : Int) < 97) = false := decide_eq_false (by omega)
        have v1n : decide (x < 97) = false := decide_eq_false (by omega)
        clear hl hu hx hR hws hw h0
        go_enter Tryd.func9, Tryd.ntmps9
        go_wp2_with fail
        refine (HW.out _).mono ?_
        rintro r w1 ⟨rfl, rfl⟩
        go_wp2_with fail
        go_ret
        exact ⟨rfl, rfl⟩
    | false =>
      rw [hw] at hws
      have hR : ¬ rWord (cods s) = (s.size : Int) := of_decide_eq_false hws.symm
      have q3 : (rWord (cods s) == (s.size : Int)) = false := by simpa using hR
      have q4 : decide (rWord (cods s) = (s.size : Int)) = false := decide_eq_false hR
      generalize rWord (cods s) = Z at *
      clear hR hws hw h0
      go_enter Tryd.func9, Tryd.ntmps9
      go_wp2_with fail
      refine (HW.out _).mono ?_
      rintro r w1 ⟨rfl, rfl⟩
      go_wp2_with fail
      go_ret
      exact ⟨rfl, rfl⟩
theorem rlower_ok (s : ByteArray) (w : World) (hs : s.size ≤ 100000) : Calls Tryd.prog 11 #[.string s] w fun e w' => e = .returned (.bool (isWd s && isLo (tAt (cods s) 0))) ∧ w = w' := by
  have HW := Lib.hid (fun w => rword_ok s w hs)
  by_cases h0 : s.size = 0
  · rw [wd_empty h0]
    have q1 : decide ((0 : Int) < (s.size : Int)) = false := decide_eq_false (by omega)
    have q1n : decide (0 < s.size) = false := decide_eq_false (by omega)
    clear HW
    go_enter Tryd.func11, Tryd.ntmps11
    go_wp2_with fail
    go_ret
    exact ⟨rfl, rfl⟩
  · have p0 : 0 < s.size := by omega
    have q1 : decide ((0 : Int) < (s.size : Int)) = true := decide_eq_true (by omega)
    have q1n : decide (0 < s.size) = true := decide_eq_true p0
    have q2 : (0 : Int) < (s.size : Int) := by omega
    have hws := wd_same s p0
    cases hw : isWd s with
    | true =>
      obtain ⟨hl, _, _⟩ := isWd_in hw
      rw [hw] at hws
      have hR : rWord (cods s) = (s.size : Int) := of_decide_eq_true hws.symm
      rw [hR] at HW
      obtain ⟨x, hx⟩ : ∃ x, tAt (cods s) 0 = x := ⟨_, rfl⟩
      have e1 : (s[0]'p0).toNat = x := (cods_at s 0 p0).trans hx
      rw [hx] at hl ⊢
      rw [isLt_iff] at hl
      have q3 : ((s.size : Int) == (s.size : Int)) = true := by simp
      by_cases hu : 97 ≤ x
      · rw [show isLo x = true from isLo_iff.2 (by omega)]
        have v1 : decide ((97 : Int) ≤ (x : Int)) = true := decide_eq_true (by omega)
        have v1n : decide (97 ≤ x) = true := decide_eq_true (by omega)
        clear hl hu hx hR hws hw h0
        go_enter Tryd.func11, Tryd.ntmps11
        go_wp2_with fail
        refine (HW.out _).mono ?_
        rintro r w1 ⟨rfl, rfl⟩
        go_wp2_with fail
        go_ret
        exact ⟨rfl, rfl⟩
      · rw [show isLo x = false from Bool.eq_false_iff.2 fun h => by rw [isLo_iff] at h; omega]
        have v1 : decide ((97 : Int) ≤ (x : Int)) = false := decide_eq_false (by omega)
        have v1n : decide (97 ≤ x) = false := decide_eq_false (by omega)
        clear hl hu hx hR hws hw h0
        go_enter Tryd.func11, Tryd.ntmps11
        go_wp2_with fail
        refine (HW.out _).mono ?_
        rintro r w1 ⟨rfl, rfl⟩
        go_wp2_with fail
        go_ret
        exact ⟨rfl, rfl⟩
    | false =>
      rw [hw] at hws
      have hR : ¬ rWord (cods s) = (s.size : Int) := of_decide_eq_false hws.symm
      have q3 : (rWord (cods s) == (s.size : Int)) = false := by simpa using hR
      have q4 : decide (rWord (cods s) = (s.size : Int)) = false := decide_eq_false hR
      generalize rWord (cods s) = Z at *
      clear hR hws hw h0
      go_enter Tryd.func11, Tryd.ntmps11
      go_wp2_with fail
      refine (HW.out _).mono ?_
      rintro r w1 ⟨rfl, rfl⟩
      go_wp2_with fail
      go_ret
      exact ⟨rfl, rfl⟩
end Go.Proofs.YthcodmcfkmochaaDoor
