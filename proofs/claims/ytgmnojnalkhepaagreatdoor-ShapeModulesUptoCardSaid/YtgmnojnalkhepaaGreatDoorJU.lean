/-
  A bundle of texts, one behind the other: ShU1, ShU2, ShU3, ShX1.
-/
import Derived.Test.YtgmnojnalkhepaaGreatDoorJI
import Derived.Test.YtgmnojnalkhepaaGreatDoorJK
import Derived.Test.YtgmnojnalkhepaaGreatDoorJP
import Derived.Test.YtgmnojnalkhepaaGreatDoorJJ
import Derived.Test.YtgmnojnalkhepaaGreatDoorRows
import Derived.Deep.DeepHandedRow
import Derived.Test.YtgmnojnalkhepaaGreatDoorJM
import Derived.Laws.CopyRow
/-
  How long a type's text is at most: by what the type weighs (its places and letters); no walk here.
-/
namespace Go.Proofs.YtgmnojnalkhepaaGreatDoor
open Go.RowKit
set_option linter.unusedVariables false
set_option linter.unusedSimpArgs false
set_option maxRecDepth 100000

def sumN (f : Nat → Nat) : Nat → Nat
  | 0 => 0
  | n + 1 => sumN f n + f n
theorem sumN_le {f g : Nat → Nat} : ∀ {n : Nat}, (∀ i, i < n → f i ≤ g i) → sumN f n ≤ sumN g n
  | 0, _ => Nat.le_refl _
  | n + 1, h => Nat.add_le_add (sumN_le fun i hi => h i (by omega)) (h n (by omega))
theorem sumN_mul (a : Nat) (g : Nat → Nat) : ∀ n, sumN (fun i => a * g i) n = a * sumN g n
  | 0 => rfl
  | n + 1 => by simp only [sumN, sumN_mul a g n, Nat.mul_add]
theorem sumN_one {f : Nat → Nat} : ∀ {n i : Nat}, i < n → f i ≤ sumN f n
  | n + 1, i, h => by
    simp only [sumN]
    by_cases e : i = n
    · subst e; omega
    · have := sumN_one (f := f) (show i < n by omega); omega
theorem sumN_le_mul {f g : Nat → Nat} {a n : Nat} (h : ∀ i, i < n → f i ≤ a * g i) : sumN f n ≤ a * sumN g n := by
  rw [← sumN_mul]
  exact sumN_le h
theorem catL_len (f : Nat → List UInt8) : ∀ n, (catL f n).length = sumN (fun i => (f i).length) n
  | 0 => rfl
  | n + 1 => by simp only [catL, sumN, List.length_append, catL_len f n]
def SL.wt (s : SL) : Nat := 1 + sumN (fun i => (s.f i).size + 1) s.n
def CT.wt : CT → Nat
  | .nil => 0
  | .mk _ _ _ _ _ _ n _ ch => 1 + sumN (fun i => (ch i).wt) n
def VT.wt : VT → Nat
  | .nil => 0
  | .mk _ _ s nm _ n _ ch => 1 + s.size + nm.wt + sumN (fun i => (ch i).wt) n
def DL.wt (d : DL) : Nat := 1 + sumN (fun i => (d.f i).wt) d.n
def PD.wt (p : PD) : Nat := 1 + p.name.size + p.d.wt
def TT.wt : TT → Nat
  | .nil => 0
  | .mk _ tn c _ fr nm mo pa pt ad at_ _ en _ et => 1 + tn.size + c.wt + fr.size + nm.wt + mo.wt + sumN (fun i => (pa.f i).wt + (pt i).wt) pa.n + sumN (fun i => (ad.f i).wt + (at_ i).wt) ad.n + sumN (fun i => (et i).wt) en

theorem CT.txt_wt {B : Nat} {W : World} : ∀ (c : CT), CIn B W c → c.txt.length + 10 ≤ 60 * c.wt
  | .nil, h => h.elim
  | .mk op lo hi lw hg a n cap ch, h => by
    show (if op = 1 then spanT lo hi lw hg else catL (conF op ch) n).length + 10 ≤ 60 * (1 + sumN (fun i => (ch i).wt) n)
    split
    · have := spanT_len lo hi lw hg h.1.2.1 h.1.2.2
      omega
    · rw [catL_len]
      have := sumN_le_mul (n := n) (a := 60) (f := fun i => (conF op ch i).length) (g := fun i => (ch i).wt) (fun i hi => by
        have h1 := (conF_len op ch i).2
        have h2 := CT.txt_wt (ch i) (h.2.2 i hi)
        show (conF op ch i).length ≤ 60 * (ch i).wt
        omega)
      omega
/-- each quote twice -/
def dbl : List UInt8 → List UInt8
  | [] => []
  | c :: r => if c = 34 then 34 :: 34 :: dbl r else c :: dbl r
theorem dbl_len : ∀ l : List UInt8, (dbl l).length ≤ 2 * l.length ∧ l.length ≤ (dbl l).length
  | [] => by simp [dbl]
  | c :: r => by
    have := dbl_len r
    simp only [dbl]
    split <;> simp only [List.length_cons] <;> omega
theorem index_cons34 (s : List UInt8) : Lib.index (34 :: s) [34] = 0 := Lib.index_first (i := 0) (Nat.zero_le _) (by simp [Lib.occAt]) (fun _ h => absurd h (Nat.not_lt_zero _))
theorem index_cons_ne {c : UInt8} {s : List UInt8} {i : Nat} (hc : c ≠ 34) (h : Lib.index s [34] = i) : Lib.index (c :: s) [34] = ((i + 1 : Nat) : Int) := by
  have hp : List.isPrefixOf [(34 : UInt8)] (c :: s) = false := by simp [List.isPrefixOf, Ne.symm hc]
  show (if List.isPrefixOf [(34 : UInt8)] (c :: s) = true then 0 else if Lib.index s [34] == -1 then -1 else Lib.index s [34] + 1) = ((i + 1 : Nat) : Int)
  rw [hp, h, if_neg (by decide), if_neg (fun e => by have := beq_iff_eq.1 e; omega)]
  rfl
theorem replaceK_dbl : ∀ (s : List UInt8) (k : Nat), Lib.count s [34] = k → Lib.replaceK [34] [34, 34] k s = dbl s
  | [], k, h => by
    have h0 : Lib.count [] [34] = 0 := by rw [Lib.count_one]; rfl
    rw [h0] at h
    subst h
    rfl
  | c :: s, k, h => by
    by_cases hc : c = 34
    · subst hc
      rw [Lib.count_cons_eq] at h
      obtain ⟨k', rfl⟩ : ∃ k', k = k' + 1 := ⟨Lib.count s [34], by omega⟩
      rw [Lib.replaceK_hit _ _ _ _ 0 (index_cons34 s)]
      have := replaceK_dbl s k' (by omega)
      simp [dbl, this]
    · rw [Lib.count_cons_ne _ _ _ hc] at h
      have ih := replaceK_dbl s k h
      cases k with
      | zero =>
        simp only [Lib.replaceK] at ih ⊢
        simp only [dbl, if_neg hc, ← ih]
      | succ k' =>
        obtain ⟨i, hi⟩ := Lib.index_of_count (s := s) (old := [34]) (by omega)
        rw [Lib.replaceK_hit _ _ _ _ i hi] at ih
        rw [Lib.replaceK_hit _ _ _ _ (i + 1) (index_cons_ne hc hi)]
        simp only [dbl, if_neg hc, ← ih]
        simp
theorem replaceAll_dbl (s : List UInt8) : Lib.replaceAll s [34] [34, 34] = dbl s := by
  unfold Lib.replaceAll Lib.replace
  rw [if_neg (by decide)]
  refine replaceK_dbl s _ ?_
  unfold Lib.replaceNum
  rw [if_pos (.inl (by decide))]
theorem quoT_dbl (s : ByteArray) : quoT s = 34 :: (dbl s.data.toList ++ [34]) := by unfold quoT; rw [replaceAll_dbl]; rfl
theorem quoT_len (s : ByteArray) : (quoT s).length ≤ 2 * s.size + 2 := by
  rw [quoT_dbl]
  have h := (dbl_len s.data.toList).1
  have e : s.data.toList.length = s.size := Array.length_toList
  simp only [List.length_cons, List.length_append, List.length_nil]
  omega
theorem quo_ok (s : ByteArray) (h : s.size ≤ 1000000000) : QOk s := by
  refine ⟨h, by have := quoT_len s; omega, ?_⟩
  have h1 := Lib.countB_mul_le (bs [34]) (by decide) s.size s (Nat.le_refl _)
  have e : (bs [34]).size = 1 := rfl
  rw [e] at h1
  omega
theorem VT.txt_wt {B : Nat} {W : World} : ∀ (v : VT), VIn B W v → v.txt.length ≤ 30 * v.wt
  | .nil, h => h.elim
  | .mk kd m s nm a n cap ch, h => by
    have h1 := itoa_len h.1.2.1
    have h2 := quoT_len s
    have e : s.data.toList.length = s.size := Array.length_toList
    show (if kd = 2 then Lib.itoa m else if kd = 3 then s.data.toList else if kd = 7 then quoT s else if m = 0 then [70, 65, 76, 83, 69] else [84, 82, 85, 69]).length ≤ 30 * (1 + s.size + nm.wt + sumN (fun i => (ch i).wt) n)
    split
    · omega
    · split
      · omega
      · split
        · omega
        · split <;> simp only [List.length_cons, List.length_nil] <;> omega
theorem bndT_len (c : CT) (ext : Bool) (tb tc : List UInt8) : (bndT c ext tb tc).length ≤ tb.length + c.txt.length + 5 + tc.length := by
  unfold bndT moreT
  split
  · simp
  · cases ext <;> simp only [List.length_append, List.length_cons, List.length_nil, if_true, Bool.false_eq_true, if_false] <;> omega
theorem partT_len {B : Nat} {W : World} (p : PD) (T : List UInt8) (hp : PDIn B W p) : (partT p T).length ≤ 30 * p.wt + T.length := by
  unfold partT PD.wt DL.wt
  have e : p.name.data.toList.length = p.name.size := Array.length_toList
  have h1 := sumN_le_mul (n := p.d.n) (a := 30) (f := fun i => (dfT ++ (p.d.f i).txt).length) (g := fun i => (p.d.f i).wt) (fun i hi => by
    have h2 := VT.txt_wt (p.d.f i) (hp.2.2 i hi)
    show (dfT ++ (p.d.f i).txt).length ≤ 30 * (p.d.f i).wt
    rw [List.length_append]
    have h3 : dfT.length = 9 := rfl
    have h4 : (p.d.f i).txt.length + 9 ≤ 30 * (p.d.f i).wt := by
      obtain ⟨kd, m, s, nm, a, n, cap, ch, hv⟩ := (hp.2.2 i hi).open
      have hin := hp.2.2 i hi
      rw [hv] at hin ⊢
      have g1 := itoa_len hin.1.2.1
      have g2 := quoT_len s
      have g3 : s.data.toList.length = s.size := Array.length_toList
      show (if kd = 2 then Lib.itoa m else if kd = 3 then s.data.toList else if kd = 7 then quoT s else if m = 0 then [70, 65, 76, 83, 69] else [84, 82, 85, 69]).length + 9 ≤ 30 * (1 + s.size + nm.wt + sumN (fun i => (ch i).wt) n)
      split
      · omega
      · split
        · omega
        · split
          · omega
          · split <;> simp only [List.length_cons, List.length_nil] <;> omega
    omega)
  have h5 : (if p.opt = true then optT else []).length ≤ 9 := by cases p.opt <;> simp [optT]
  simp only [List.length_append, List.length_cons, List.length_nil, catL_len]
  simp only [List.length_append] at h1
  omega
theorem braT_len {f g : Nat → List UInt8} {n m : Nat} {ext : Bool} {F G : Nat → Nat} (h1 : ∀ i, i < n → (f i).length + 2 ≤ F i) (h2 : ∀ i, i < m → (g i).length + 2 ≤ G i) : (braT f n ext g m).length ≤ 8 + sumN F n + sumN G m := by
  have s1 := sumN_le (f := fun i => (sepT i ++ f i).length) (g := F) (n := n) (fun i hi => by
    have := h1 i hi
    have h3 : (sepT i).length ≤ 2 := by unfold sepT; split <;> simp
    show (sepT i ++ f i).length ≤ F i
    rw [List.length_append]
    omega)
  have s2 := sumN_le (f := fun i => ([44, 32] ++ g i).length) (g := G) (n := m) (fun i hi => by
    have := h2 i hi
    show ([44, 32] ++ g i).length ≤ G i
    simp only [List.length_append, List.length_cons, List.length_nil]
    omega)
  have s3 : (if ext = true then sepT n ++ [46, 46, 46] else []).length ≤ 5 := by
    have h3 : (sepT n).length ≤ 2 := by unfold sepT; split <;> simp
    cases ext
    · simp
    · simp only [if_true, List.length_append, List.length_cons, List.length_nil]; omega
  unfold braT
  simp only [List.length_append, List.length_cons, List.length_nil, catL_len] at s1 s2 s3 ⊢
  omega
theorem nmT_len (s : SL) : ∀ i, i < s.n → ((s.f i).data.toList).length + 2 ≤ 2 * ((s.f i).size + 1) := fun i _ => by
  have e : (s.f i).data.toList.length = (s.f i).size := Array.length_toList
  omega
theorem TQ.kid {kd : Int} {tn : ByteArray} {con : CT} {ext : Bool} {fr : ByteArray} {nm mo : SL} {pa : PL} {pt : Nat → TT} {ad : PL} {at_ : Nat → TT} {ea : Option Addr} {en ec : Nat} {et : Nat → TT} (h : TQ (.mk kd tn con ext fr nm mo pa pt ad at_ ea en ec et)) :
    (kd = 9 → 0 < en) ∧ (∀ i, i < pa.n → TQ (pt i)) ∧ (∀ i, i < ad.n → TQ (at_ i)) ∧ (∀ i, i < en → TQ (et i)) :=
  ⟨h.2.2.1, fun i hi => (h.2.2.2.1 i hi).2, fun i hi => (h.2.2.2.2.1 i hi).2, h.2.2.2.2.2⟩
/-- a type's text is not longer than so -/
theorem TT.txt_wt {B : Nat} {W : World} : ∀ (t : TT), TIn B W t → TQ t → t.txt.length + 20 ≤ 100 * t.wt
  | .nil, h, _ => h.elim
  | .mk kd tn con ext fr nm mo pa pt ad at_ ea en ec et, h, hq => by
    obtain ⟨q9, qp, qa, qe⟩ := hq.kid
    obtain ⟨⟨_, _, hc, _, _, _⟩, ⟨_, hp⟩, ⟨_, ha⟩, ⟨_, he⟩⟩ := h
    have cc := CT.txt_wt con hc
    have e1 : tn.data.toList.length = tn.size := Array.length_toList
    have P := fun i (hi : i < pa.n) => TT.txt_wt (pt i) (hp i hi).2 (qp i hi)
    have A := fun i (hi : i < ad.n) => TT.txt_wt (at_ i) (ha i hi).2 (qa i hi)
    have E := fun i (hi : i < en) => TT.txt_wt (et i) (he i hi) (qe i hi)
    have PT : ∀ i, i < pa.n → (partT (pa.f i) (pt i).txt).length + 2 ≤ 100 * ((pa.f i).wt + (pt i).wt) := fun i hi => by
      have := P i hi
      have h2 := partT_len (pa.f i) (pt i).txt (hp i hi).1
      have h3 : 1 ≤ (pa.f i).wt := by unfold PD.wt; omega
      omega
    have AT : ∀ i, i < ad.n → (partT (ad.f i) (at_ i).txt).length + 2 ≤ 100 * ((ad.f i).wt + (at_ i).wt) := fun i hi => by
      have := A i hi
      have h2 := partT_len (ad.f i) (at_ i).txt (ha i hi).1
      have h3 : 1 ≤ (ad.f i).wt := by unfold PD.wt; omega
      omega
    have PB := braT_len (ext := ext) PT AT
    have NB := braT_len (ext := ext) (nmT_len nm) (nmT_len mo)
    rw [sumN_mul, sumN_mul] at PB NB
    have hn : nm.wt = 1 + sumN (fun i => (nm.f i).size + 1) nm.n := rfl
    have hm : mo.wt = 1 + sumN (fun i => (mo.f i).size + 1) mo.n := rfl
    have B1 := bndT_len con ext [32, 40] [41]
    have B2 := bndT_len con ext szB szC
    have B3 : szB.length = 8 ∧ szC.length = 2 := ⟨rfl, rfl⟩
    have Q := quoT_len fr
    have QF : (if fr.size = 0 then [] else [32, 40, 70, 82, 79, 77, 32, 40] ++ (quoT fr ++ [41, 41])).length ≤ 2 * fr.size + 12 := by
      split
      · simp
      · simp only [List.length_append, List.length_cons, List.length_nil]; omega
    have hw : (TT.mk kd tn con ext fr nm mo pa pt ad at_ ea en ec et).wt = 1 + tn.size + con.wt + fr.size + nm.wt + mo.wt + sumN (fun i => (pa.f i).wt + (pt i).wt) pa.n + sumN (fun i => (ad.f i).wt + (at_ i).wt) ad.n + sumN (fun i => (et i).wt) en := rfl
    rw [hw]
    simp only [List.length_cons, List.length_nil] at B1
    have hcase : kd = 1 ∨ kd = 2 ∨ kd = 3 ∨ kd = 4 ∨ kd = 5 ∨ kd = 6 ∨ kd = 7 ∨ kd = 8 ∨ kd = 9 ∨ kd = 10 ∨ kd = 11 := by have := hq.1; omega
    clear hq hw
    rcases hcase with rfl | rfl | rfl | rfl | rfl | rfl | rfl | rfl | rfl | rfl | rfl
    · show ([66, 79, 79, 76, 69, 65, 78] : List UInt8).length + 20 ≤ _
      simp only [List.length_append, List.length_cons, List.length_nil]
      omega
    · show (([73, 78, 84, 69, 71, 69, 82] : List UInt8) ++ bndT con ext [32, 40] [41]).length + 20 ≤ _
      simp only [List.length_append, List.length_cons, List.length_nil]
      omega
    · show (([69, 78, 85, 77, 69, 82, 65, 84, 69, 68, 32] : List UInt8) ++ braT (fun i => (nm.f i).data.toList) nm.n ext (fun i => (mo.f i).data.toList) mo.n).length + 20 ≤ _
      simp only [List.length_append, List.length_cons, List.length_nil]
      omega
    · show ([78, 85, 76, 76] : List UInt8).length + 20 ≤ _
      simp only [List.length_append, List.length_cons, List.length_nil]
      omega
    · show (([66, 73, 84, 32, 83, 84, 82, 73, 78, 71] : List UInt8) ++ bndT con ext szB szC).length + 20 ≤ _
      simp only [List.length_append, List.length_cons, List.length_nil]
      omega
    · show (([79, 67, 84, 69, 84, 32, 83, 84, 82, 73, 78, 71] : List UInt8) ++ bndT con ext szB szC).length + 20 ≤ _
      simp only [List.length_append, List.length_cons, List.length_nil]
      omega
    · show (([73, 65, 53, 83, 116, 114, 105, 110, 103] : List UInt8) ++ ((if fr.size = 0 then [] else [32, 40, 70, 82, 79, 77, 32, 40] ++ (quoT fr ++ [41, 41])) ++ bndT con ext szB szC)).length + 20 ≤ _
      rw [List.length_append, List.length_append]
      simp only [List.length_cons, List.length_nil]
      omega
    · show (([83, 69, 81, 85, 69, 78, 67, 69, 32] : List UInt8) ++ braT (fun i => partT (pa.f i) (pt i).txt) pa.n ext (fun i => partT (ad.f i) (at_ i).txt) ad.n).length + 20 ≤ _
      simp only [List.length_append, List.length_cons, List.length_nil]
      omega
    · show (([83, 69, 81, 85, 69, 78, 67, 69] : List UInt8) ++ (bndT con ext szB szC ++ ([32, 79, 70, 32] ++ (et 0).txt))).length + 20 ≤ _
      have h0 := q9 rfl
      have h1 := E 0 h0
      have h2 := sumN_one (f := fun i => (et i).wt) h0
      try simp only at h2
      simp only [List.length_append, List.length_cons, List.length_nil]
      omega
    · show (([67, 72, 79, 73, 67, 69, 32] : List UInt8) ++ braT (fun i => partT (pa.f i) (pt i).txt) pa.n ext (fun i => partT (ad.f i) (at_ i).txt) ad.n).length + 20 ≤ _
      simp only [List.length_append, List.length_cons, List.length_nil]
      omega
    · show tn.data.toList.length + 20 ≤ _
      omega
theorem compOk_in {p : PD} {t : Bool} (h : compOk p t = true) : t = true := by
  simp only [compOk, Bool.and_eq_true] at h
  exact h.2.1
theorem altOk_in {p : PD} {t : Bool} (h : altOk p t = true) : t = true := by
  simp only [altOk, Bool.and_eq_true] at h
  exact compOk_in h.1
theorem tFlds_kind {kd : Int} {b0 b1 ext b3 b4 b5 b6 b7 b8 : Bool} (h : tFlds kd b0 b1 ext b3 b4 b5 b6 b7 b8 = true) : (1 ≤ kd ∧ kd ≤ 11) ∧ (kd = 9 → b8 = true) ∧ (kd = 11 → b0 = true) := by
  unfold tFlds at h
  repeat' split at h
  all_goals first | (exact absurd h (by decide)) | skip
  all_goals refine ⟨by omega, fun k => ?_, fun k => ?_⟩
  all_goals first | (exact absurd k (by omega)) | skip
  all_goals simp only [Bool.and_eq_true] at h
  · exact h.2.2.2.2.2.2.2
  · exact h.1
/-- what is well-formed, and not too heavy, may be written -/
theorem TQ_of_ok {B : Nat} {W : World} : ∀ (t : TT), TIn B W t → t.wt ≤ 1000000000 → t.ok = true → TQ t
  | .nil, h, _, _ => h.elim
  | .mk kd tn con ext fr nm mo pa pt ad at_ ea en ec et, h, hw, hok => by
    obtain ⟨_, ⟨_, hp⟩, ⟨_, ha⟩, ⟨_, he⟩⟩ := h
    simp only [TT.wt] at hw
    unfold TT.ok at hok
    simp only [Bool.and_eq_true] at hok
    obtain ⟨hf, h11, hc, hal, hn, hm, hpo, hao, he1, heo⟩ := hok
    obtain ⟨k1, k9, k11⟩ := tFlds_kind hf
    have kid : ∀ (l : PL) (tt : Nat → TT), fewOk (fun i => if kd = 10 then altOk (l.f i) (tt i).ok else compOk (l.f i) (tt i).ok) l.n = true → ∀ i, i < l.n → (tt i).ok = true := fun l tt hl i hi => by
      unfold fewOk at hl
      simp only [Bool.and_eq_true] at hl
      have := allN_iff.1 hl.2 i hi
      try simp only at this
      split at this
      · exact altOk_in this
      · exact compOk_in this
    have lst : ∀ (l : PL) (tt : Nat → TT), (∀ i, i < l.n → PDIn B W (l.f i) ∧ TIn B W (tt i)) → sumN (fun i => (l.f i).wt + (tt i).wt) l.n ≤ 1000000000 → ∀ i, i < l.n → (tt i).wt ≤ 1000000000 ∧ ∀ j, j < (l.f i).d.n → VQ ((l.f i).d.f j) := fun l tt hin hl i hi => by
      have h1 := sumN_one (f := fun i => (l.f i).wt + (tt i).wt) hi
      try simp only at h1
      refine ⟨by omega, fun j hj => ?_⟩
      have h3 := sumN_one (f := fun k => ((l.f i).d.f k).wt) hj
      try simp only at h3
      have h4 : (l.f i).wt = 1 + (l.f i).name.size + (1 + sumN (fun k => ((l.f i).d.f k).wt) (l.f i).d.n) := rfl
      obtain ⟨kd, m, s, nm, a, n, cap, ch, hv⟩ := ((hin i hi).1.2.2 j hj).open
      rw [hv] at h3 ⊢
      simp only [VT.wt] at h3
      exact fun _ => quo_ok s (by omega)
    have LP := lst pa pt hp (by omega)
    have LA := lst ad at_ ha (by omega)
    refine ⟨k1, fun _ => quo_ok fr (by omega), fun e => of_decide_eq_true (k9 e), fun i hi => ⟨(LP i hi).2, TQ_of_ok (pt i) (hp i hi).2 (LP i hi).1 (kid pa pt hpo i hi)⟩, fun i hi => ⟨(LA i hi).2, TQ_of_ok (at_ i) (ha i hi).2 (LA i hi).1 (kid ad at_ hao i hi)⟩, fun i hi => TQ_of_ok (et i) (he i hi) ?_ (allN_iff.1 heo i hi)⟩
    have h1 := sumN_one (f := fun i => (et i).wt) hi
    try simp only at h1
    omega
theorem txt_ne : ∀ (t : TT), t.ok = true → t.txt ≠ []
  | .nil, h => by cases h
  | .mk kd tn con ext fr nm mo pa pt ad at_ ea en ec et, hok => by
    unfold TT.ok at hok
    simp only [Bool.and_eq_true] at hok
    obtain ⟨k1, _, k11⟩ := tFlds_kind hok.1
    have hcase : kd = 1 ∨ kd = 2 ∨ kd = 3 ∨ kd = 4 ∨ kd = 5 ∨ kd = 6 ∨ kd = 7 ∨ kd = 8 ∨ kd = 9 ∨ kd = 10 ∨ kd = 11 := by omega
    clear hok
    unfold TT.txt
    rcases hcase with rfl | rfl | rfl | rfl | rfl | rfl | rfl | rfl | rfl | rfl | rfl
    case inr.inr.inr.inr.inr.inr.inr.inr.inr.inr =>
      have h2 := of_decide_eq_true (k11 rfl)
      have e2 : tn.data.toList.length = tn.size := Array.length_toList
      intro h
      have h3 : tn.data.toList = [] := h
      rw [h3] at e2
      exact h2 e2.symm
    all_goals exact List.cons_ne_nil _ _
theorem okT_text {B : Nat} {W : World} (t : TT) (hin : TIn B W t) (hw : t.wt ≤ 2000000) (hok : t.okT = true) : TQ t ∧ t.txt.length ≤ 200000000 ∧ t.txt ≠ [] := by
  unfold TT.okT at hok
  simp only [Bool.and_eq_true] at hok
  have hq := TQ_of_ok t hin (by omega) hok.2
  have := t.txt_wt hin hq
  exact ⟨hq, by omega, txt_ne t hok.2⟩
end Go.Proofs.YtgmnojnalkhepaaGreatDoor

/-
  A law's arguments opened, as in ShO, with what they weigh: at most the bulk of what the call's data say.
-/
namespace Go.Proofs.YtgmnojnalkhepaaGreatDoor
open Go.RowKit Go.ChangeShapes Go.WideShapes Go.Deep
set_option linter.unusedVariables false
set_option linter.unusedSimpArgs false
set_option maxRecDepth 100000

section
variable {H : Type}
theorem bulk_one (d : DataW H) : 1 ≤ Rows.uptoBulk d := by
  cases d with
  | lit l => cases l <;> simp [Rows.uptoBulk]
  | nil => simp [Rows.uptoBulk]
  | ptr d => simp [Rows.uptoBulk]
  | slice elems spare => simp [Rows.uptoBulk]
  | agg parts => simp [Rows.uptoBulk]
  | iface t d => simp [Rows.uptoBulk]
  | map entries => simp [Rows.uptoBulk]
  | held h => simp [Rows.uptoBulk]
theorem bulk_sum : ∀ (l : List (DataW H)) (g : Nat → Nat), (∀ i (h : i < l.length), g i ≤ Rows.uptoBulk (l[i]'h)) → sumN g l.length ≤ Rows.uptoBulkAll l
  | [], _, _ => Nat.zero_le _
  | x :: r, g, h => by
    have h1 := bulk_sum r (fun i => g (i + 1)) (fun i hi => h (i + 1) (by simpa using hi))
    have h0 := h 0 (by simp)
    have h2 : ∀ n, sumN g (n + 1) = g 0 + sumN (fun i => g (i + 1)) n := by
      intro n
      induction n with
      | zero => simp [sumN]
      | succ n ih => rw [sumN, ih]; simp only [sumN]; omega
    rw [List.length_cons, h2]
    simp only [Rows.uptoBulkAll]
    simp only [List.getElem_cons_zero] at h0
    omega
end
theorem uopen_str {H : Type} {enc : TypeId × Value → H} {W : World} {fuel : Nat} {t : TypeId} {cs : List Value} {x : DataW H × List MemPlace} (ht : Tryz.prog.underlying t = some .string)
    (h : DataW.trod enc Tryz.prog W 0 (fun _ => true) true fuel t cs = some x) (hl : Light t x.1) : ∃ s : ByteArray, cs = [.string s] ∧ s.size ≤ 140737488355328 ∧ s.size + 1 ≤ Rows.uptoBulk x.1 := by
  obtain ⟨s, rfl, rfl, _⟩ := DataW.trod_string ht h
  have e : s.data.toList.length = s.size := Array.length_toList
  refine ⟨s, rfl, ?_, ?_⟩
  · have := hl s.data.toList.length (by simp [DataW.weights])
    have hr : reachBytes = 140737488351232 := rfl
    omega
  · simp only [Rows.uptoBulk]
    omega
theorem uopen_struct {H : Type} {enc : TypeId × Value → H} {W : World} {fuel : Nat} {t : TypeId} {fs : Array Field} {cs : List Value} {x : DataW H × List MemPlace} (ht : Tryz.prog.underlying t = some (.struct fs))
    (h : DataW.trod enc Tryz.prog W 0 (fun _ => true) true fuel t cs = some x) (hl : Light t x.1) :
    ∃ (n : Nat) (xs : List (DataW H × List MemPlace)), fuel = n + 1 ∧ cs.length = Tryz.prog.cellsOf t ∧ xs.length = fs.size ∧ Rows.uptoBulk x.1 = Rows.uptoBulkAll (xs.map (·.1)) + 1 ∧ ∀ (i : Nat) (f : Field), fs[i]? = some f → ∀ (ty : TypeId) (off : Nat), f.type = ty → f.offset = off →
      ∃ y, xs[i]? = some y ∧ DataW.trod enc Tryz.prog W 0 (fun _ => true) true n ty ((cs.drop off).take (Tryz.prog.cellsOf ty)) = some y ∧ Light ty y.1 := by
  obtain ⟨xs, n, rfl, rfl, hlen, hxs, hf⟩ := DataW.trod_struct ht h
  refine ⟨n, xs, rfl, hlen, by omega, by simp only [Rows.uptoBulk], fun i f hi ty off e1 e2 => ?_⟩
  subst e1
  subst e2
  have hil : i < xs.length := by
    have := (Array.getElem?_eq_some_iff.1 hi).1
    omega
  have he := hf i f hi
  rw [List.getElem?_eq_getElem hil] at he
  refine ⟨_, List.getElem?_eq_getElem hil, he, ?_⟩
  unfold Light at hl
  simp only [DataW.weights, ht] at hl
  refine light_each hl i f.type _ ?_ ?_
  · rw [List.getElem?_map, Array.getElem?_toList, hi]
    rfl
  · rw [List.getElem?_map, List.getElem?_eq_getElem hil]
    rfl
theorem uopen_row {H : Type} {enc : TypeId × Value → H} {W : World} {X : Type} (dflt : X) (cells : X → List Value) (In : X → Prop) (wt : X → Nat) (k : Nat) {t e : TypeId} (ht : Tryz.prog.underlying t = some (.slice e)) (hk : Tryz.prog.cellsOf e = k) (hk0 : 0 < k)
    (hby : 1 ≤ Tryz.prog.bytesOf e) {fuel : Nat} {cs : List Value} {x : DataW H × List MemPlace}
    (h : DataW.trod enc Tryz.prog W 0 (fun _ => true) true fuel t cs = some x) (hl : Light t x.1)
    (hin : ∀ (n : Nat) (cs' : List Value) (x' : DataW H × List MemPlace), fuel = n + 1 → DataW.trod enc Tryz.prog W 0 (fun _ => true) true n e cs' = some x' → Light e x'.1 → ∃ y : X, cs' = cells y ∧ In y ∧ wt y ≤ Rows.uptoBulk x'.1) :
    ∃ (a : Option Addr) (n cap : Nat) (f : Nat → X), cs = [.slice a n cap] ∧ RowAt W.heap.size W a n cap k (fun i => cells (f i)) ∧ (∀ i, i < n → In (f i)) ∧ 1 + sumN (fun i => wt (f i)) n ≤ Rows.uptoBulk x.1 := by
  rcases DataW.trod_slice ht h with ⟨rfl, _⟩ | ⟨a, len, cap, elems, rest, n, hfu, rfl, rfl, _, hlc, hm, hlen, hel, hsp, _⟩
  · exact ⟨none, 0, 0, fun _ => dflt, rfl, ⟨Nat.le_refl _, by decide, fun _ => ⟨rfl, rfl⟩, fun h => absurd h (by omega)⟩, fun i h => absurd h (by omega), by have := bulk_one x.1; simpa [sumN] using this⟩
  unfold Light at hl
  simp only [DataW.weights, ht, List.mem_cons, List.mem_append, List.length_map] at hl
  have hcap : cap ≤ 140737488355328 := by
    have h1 := hl _ (.inl rfl)
    have h2 := (hsp rfl).1
    have hr : reachBytes = 140737488351232 := rfl
    have h3 : (elems.length + rest.length) * 1 ≤ (elems.length + rest.length) * Tryz.prog.bytesOf e := Nat.mul_le_mul_left _ hby
    omega
  have H0 : ∀ i, i < len → ∃ y : X, (In y ∧ ∀ h : i < elems.length, wt y ≤ Rows.uptoBulk (elems[i]'h).1) ∧ (cells y).length = k ∧ ∀ j u, (cells y)[j]? = some u → W.cell? ((a.add (i * k)).add j) = some u := by
    intro i hi
    have he := hel i hi
    rw [List.getElem?_eq_getElem (by omega)] at he
    obtain ⟨cs', h1, h2⟩ := Option.bind_eq_some_iff.1 he
    obtain ⟨y, rfl, hy, hyw⟩ := hin n cs' _ hfu h2 (light_all (l := elems.map (·.1)) (fun m hm => hl m (.inr (.inl hm))) _ (List.mem_map_of_mem (List.getElem_mem _)))
    rw [hk] at h1
    obtain ⟨_, hcl, hat⟩ := World.cells?_some h1
    refine ⟨y, ⟨hy, fun _ => hyw⟩, hcl, fun j u hj => ?_⟩
    have hj4 : j < k := by have := (List.getElem?_eq_some_iff.1 hj).1; omega
    rw [hat j hj4, hj]
  obtain ⟨f, hf⟩ : ∃ f : Nat → X, ∀ i, i < len → (In (f i) ∧ ∀ h : i < elems.length, wt (f i) ≤ Rows.uptoBulk (elems[i]'h).1) ∧ (cells (f i)).length = k ∧ ∀ j u, (cells (f i))[j]? = some u → W.cell? ((a.add (i * k)).add j) = some u := by
    refine ⟨fun i => if h : i < len then Classical.choose (H0 i h) else dflt, fun i hi => ?_⟩
    simp only [dif_pos hi]
    exact Classical.choose_spec (H0 i hi)
  refine ⟨some a, len, cap, f, rfl, ⟨hlc, hcap, fun h => (by cases h), fun h0 => ?_⟩, fun i hi => (hf i hi).1.1, ?_⟩
  rotate_left
  · have h1 := bulk_sum (elems.map (·.1)) (fun i => wt (f i)) (fun i h => by
      have h' : i < elems.length := by simpa using h
      have := (hf i (by omega)).1.2 h'
      simpa using this)
    rw [List.length_map, hlen] at h1
    simp only [Rows.uptoBulk]
    omega
  obtain ⟨g, o, sp⟩ := a
  obtain ⟨_, hl0, hc0⟩ := hf 0 h0
  have hx := hc0 0 _ (List.getElem?_eq_getElem (by omega))
  have hs : sp = none := by
    simp only [Nat.zero_mul, Addr.add, if_true] at hx
    unfold World.cell? at hx
    split at hx
    · simp at hx
      cases sp with
      | none => rfl
      | some _ => simp at hx
    · cases hx
  subst hs
  refine ⟨g, o, rfl, by have h9 := World.block_lt_of_cell? W _ hx; rw [Addr.add_mid, Addr.add_mid] at h9; exact h9, fun i hi j u hj => ?_⟩
  have := (hf i hi).2.2 j u hj
  rwa [Addr.add_mid, Addr.add_mid] at this

section
variable {H : Type} {enc : TypeId × Value → H} {W : World}
theorem uopen_sl {fuel : Nat} {cs : List Value} {x : DataW H × List MemPlace} (h : DataW.trod enc Tryz.prog W 0 (fun _ => true) true fuel 35 cs = some x) (hl : Light 35 x.1) :
    ∃ s : SL, cs = [s.v] ∧ SLIn W.heap.size W s ∧ s.wt ≤ Rows.uptoBulk x.1 := by
  obtain ⟨a, n, cap, f, rfl, h1, h2, h3⟩ := uopen_row (W := W) ByteArray.empty (fun s => [.string s]) (fun s => s.size ≤ 140737488355328) (fun s => s.size + 1) 1 Tryz.underlying35 kStr (by decide) (by decide +kernel) h hl
    (fun n cs' x' _ h' hl' => uopen_str Tryz.underlying9 h' hl')
  exact ⟨⟨a, n, cap, f⟩, rfl, ⟨h1, h2⟩, h3⟩
theorem uopen_con : ∀ (fuel : Nat) {cs : List Value} {x : DataW H × List MemPlace}, DataW.trod enc Tryz.prog W 0 (fun _ => true) true fuel 34 cs = some x → Light 34 x.1 → ∃ c : CT, cs = c.cells ∧ CIn W.heap.size W c ∧ c.wt ≤ Rows.uptoBulk x.1 := by
  intro fuel
  induction fuel using Nat.strongRecOn with
  | ind fuel ih =>
    intro cs x h hl
    obtain ⟨n, xs, rfl, hlen, hxl, hbk, hf⟩ := uopen_struct Tryz.underlying34 h hl
    rw [kCon] at hlen
    match cs, hlen with
    | [c0, c1, c2, c3, c4, c5], _ =>
      obtain ⟨y0, g0, f0, _⟩ := hf 0 _ rfl 3 0 rfl rfl
      obtain ⟨y1, g1, f1, _⟩ := hf 1 _ rfl 3 1 rfl rfl
      obtain ⟨y2, g2, f2, _⟩ := hf 2 _ rfl 3 2 rfl rfl
      obtain ⟨y3, g3, f3, _⟩ := hf 3 _ rfl 4 3 rfl rfl
      obtain ⟨y4, g4, f4, _⟩ := hf 4 _ rfl 4 4 rfl rfl
      obtain ⟨y5, g5, f5, l5⟩ := hf 5 _ rfl 32 5 rfl rfl
      simp only [kInt, kBool, kCons, List.drop_zero, List.drop_succ_cons, List.take_succ_cons, List.take_zero] at f0 f1 f2 f3 f4 f5
      obtain rfl : xs = [y0, y1, y2, y3, y4, y5] := by
        have hxl' : xs.length = 6 := hxl
        match xs, hxl' with
        | [z0, z1, z2, z3, z4, z5], _ =>
          simp only [List.getElem?_cons_zero, List.getElem?_cons_succ, Option.some.injEq] at g0 g1 g2 g3 g4 g5
          rw [g0, g1, g2, g3, g4, g5]
      simp only [List.map_cons, List.map_nil, Rows.uptoBulkAll] at hbk
      obtain ⟨a0, e0, w0⟩ := open_i f0
      obtain ⟨a1, e1, w1⟩ := open_i f1
      obtain ⟨a2, e2, w2⟩ := open_i f2
      obtain ⟨a3, e3⟩ := open_b f3
      obtain ⟨a4, e4⟩ := open_b f4
      obtain ⟨a, m, cap, ch, e5, hr, hc, u5⟩ := uopen_row (W := W) CT.nil CT.cells (fun c => CIn W.heap.size W c) CT.wt 6 Tryz.underlying32 kCon (by decide) (by decide +kernel) f5 l5
        (fun k cs' x' hk h' hl' => ih k (by omega) h' hl')
      simp only [List.cons.injEq, and_true] at e0 e1 e2 e3 e4 e5
      subst e0; subst e1; subst e2; subst e3; subst e4; subst e5
      refine ⟨.mk a0 a1 a2 a3 a4 a m cap ch, rfl, ⟨⟨w0, w1, w2⟩, hr, hc⟩, ?_⟩
      simp only [CT.wt]
      omega
theorem uopen_val : ∀ (fuel : Nat) {cs : List Value} {x : DataW H × List MemPlace}, DataW.trod enc Tryz.prog W 0 (fun _ => true) true fuel 44 cs = some x → Light 44 x.1 → ∃ c : VT, cs = c.cells ∧ VIn W.heap.size W c ∧ c.wt ≤ Rows.uptoBulk x.1 := by
  intro fuel
  induction fuel using Nat.strongRecOn with
  | ind fuel ih =>
    intro cs x h hl
    obtain ⟨n, xs, rfl, hlen, hxl, hbk, hf⟩ := uopen_struct Tryz.underlying44 h hl
    rw [kVal] at hlen
    match cs, hlen with
    | [c0, c1, c2, c3, c4], _ =>
      obtain ⟨y0, g0, f0, _⟩ := hf 0 _ rfl 3 0 rfl rfl
      obtain ⟨y1, g1, f1, _⟩ := hf 1 _ rfl 3 1 rfl rfl
      obtain ⟨y2, g2, f2, l2⟩ := hf 2 _ rfl 9 2 rfl rfl
      obtain ⟨y3, g3, f3, l3⟩ := hf 3 _ rfl 35 3 rfl rfl
      obtain ⟨y4, g4, f4, l4⟩ := hf 4 _ rfl 40 4 rfl rfl
      simp only [kInt, kStr, kStrs, kVals, List.drop_zero, List.drop_succ_cons, List.take_succ_cons, List.take_zero] at f0 f1 f2 f3 f4
      obtain rfl : xs = [y0, y1, y2, y3, y4] := by
        have hxl' : xs.length = 5 := hxl
        match xs, hxl' with
        | [z0, z1, z2, z3, z4], _ =>
          simp only [List.getElem?_cons_zero, List.getElem?_cons_succ, Option.some.injEq] at g0 g1 g2 g3 g4
          rw [g0, g1, g2, g3, g4]
      simp only [List.map_cons, List.map_nil, Rows.uptoBulkAll] at hbk
      obtain ⟨a0, e0, w0⟩ := open_i f0
      obtain ⟨a1, e1, w1⟩ := open_i f1
      obtain ⟨a2, e2, w2, u2⟩ := uopen_str Tryz.underlying9 f2 l2
      obtain ⟨a3, e3, w3, u3⟩ := uopen_sl f3 l3
      obtain ⟨a, m, cap, ch, e4, hr, hc, u4⟩ := uopen_row (W := W) VT.nil VT.cells (fun c => VIn W.heap.size W c) VT.wt 5 Tryz.underlying40 kVal (by decide) (by decide +kernel) f4 l4
        (fun k cs' x' hk h' hl' => ih k (by omega) h' hl')
      simp only [List.cons.injEq, and_true] at e0 e1 e2 e3 e4
      subst e0; subst e1; subst e2; subst e3; subst e4
      refine ⟨.mk a0 a1 a2 a3 a m cap ch, rfl, ⟨⟨w0, w1, w2, w3⟩, hr, hc⟩, ?_⟩
      simp only [VT.wt]
      omega
theorem uopen_dl {fuel : Nat} {cs : List Value} {x : DataW H × List MemPlace} (h : DataW.trod enc Tryz.prog W 0 (fun _ => true) true fuel 40 cs = some x) (hl : Light 40 x.1) :
    ∃ d : DL, cs = [d.v] ∧ DLIn W.heap.size W d ∧ d.wt ≤ Rows.uptoBulk x.1 := by
  obtain ⟨a, n, cap, f, rfl, h1, h2, h3⟩ := uopen_row (W := W) VT.nil VT.cells (fun c => VIn W.heap.size W c) VT.wt 5 Tryz.underlying40 kVal (by decide) (by decide +kernel) h hl
    (fun n cs' x' _ h' hl' => uopen_val n h' hl')
  exact ⟨⟨a, n, cap, f⟩, rfl, ⟨h1, h2⟩, h3⟩
/-- a part, its type opened by what is handed -/
theorem uopen_part {fuel : Nat} {cs : List Value} {x : DataW H × List MemPlace} (h : DataW.trod enc Tryz.prog W 0 (fun _ => true) true fuel 42 cs = some x) (hl : Light 42 x.1)
    (ih : ∀ (n : Nat) {cs : List Value} {x : DataW H × List MemPlace}, n < fuel → DataW.trod enc Tryz.prog W 0 (fun _ => true) true n 39 cs = some x → Light 39 x.1 → ∃ c : TT, cs = c.cells ∧ TIn W.heap.size W c ∧ c.wt ≤ Rows.uptoBulk x.1) :
    ∃ y : PD × TT, cs = pcells y.1 y.2 ∧ (PDIn W.heap.size W y.1 ∧ TIn W.heap.size W y.2) ∧ y.1.wt + y.2.wt ≤ Rows.uptoBulk x.1 := by
  obtain ⟨n, xs, rfl, hlen, hxl, hbk, hf⟩ := uopen_struct Tryz.underlying42 h hl
  rw [kPart] at hlen
  match cs, hlen with
  | [c0, c1, c2, c3, c4, c5, c6, c7, c8, c9, c10, c11, c12, c13, c14, c15, c16, c17], _ =>
    obtain ⟨y0, g0, f0, l0⟩ := hf 0 _ rfl 9 0 rfl rfl
    obtain ⟨y1, g1, f1, l1⟩ := hf 1 _ rfl 39 1 rfl rfl
    obtain ⟨y2, g2, f2, _⟩ := hf 2 _ rfl 4 16 rfl rfl
    obtain ⟨y3, g3, f3, l3⟩ := hf 3 _ rfl 40 17 rfl rfl
    simp only [kStr, kTyp, kBool, kVals, List.drop_zero, List.drop_succ_cons, List.take_succ_cons, List.take_zero] at f0 f1 f2 f3
    obtain rfl : xs = [y0, y1, y2, y3] := by
      have hxl' : xs.length = 4 := hxl
      match xs, hxl' with
      | [z0, z1, z2, z3], _ =>
        simp only [List.getElem?_cons_zero, List.getElem?_cons_succ, Option.some.injEq] at g0 g1 g2 g3
        rw [g0, g1, g2, g3]
    simp only [List.map_cons, List.map_nil, Rows.uptoBulkAll] at hbk
    obtain ⟨a0, e0, w0, u0⟩ := uopen_str Tryz.underlying9 f0 l0
    obtain ⟨t, e1, w1, u1⟩ := ih n (by omega) f1 l1
    obtain ⟨a2, e2⟩ := open_b f2
    obtain ⟨d, e3, w3, u3⟩ := uopen_dl f3 l3
    simp only [List.cons.injEq, and_true] at e0 e2 e3
    subst e0; subst e2; subst e3
    refine ⟨(⟨a0, a2, d⟩, t), ?_, ⟨⟨w0, w3⟩, w1⟩, ?_⟩
    · unfold pcells
      rw [← e1]
      rfl
    · simp only [PD.wt]
      have := bulk_one y2.1
      omega
theorem uopen_type : ∀ (fuel : Nat) {cs : List Value} {x : DataW H × List MemPlace}, DataW.trod enc Tryz.prog W 0 (fun _ => true) true fuel 39 cs = some x → Light 39 x.1 → ∃ c : TT, cs = c.cells ∧ TIn W.heap.size W c ∧ c.wt ≤ Rows.uptoBulk x.1 := by
  intro fuel
  induction fuel using Nat.strongRecOn with
  | ind fuel ih =>
    intro cs x h hl
    obtain ⟨n, xs, rfl, hlen, hxl, hbk, hf⟩ := uopen_struct Tryz.underlying39 h hl
    rw [kTyp] at hlen
    match cs, hlen with
    | [c0, c1, c2, c3, c4, c5, c6, c7, c8, c9, c10, c11, c12, c13, c14], _ =>
      obtain ⟨y0, g0, f0, l0⟩ := hf 0 _ rfl 3 0 rfl rfl
      obtain ⟨y1, g1, f1, l1⟩ := hf 1 _ rfl 9 1 rfl rfl
      obtain ⟨y2, g2, f2, l2⟩ := hf 2 _ rfl 34 2 rfl rfl
      obtain ⟨y3, g3, f3, l3⟩ := hf 3 _ rfl 4 8 rfl rfl
      obtain ⟨y4, g4, f4, l4⟩ := hf 4 _ rfl 9 9 rfl rfl
      obtain ⟨y5, g5, f5, l5⟩ := hf 5 _ rfl 35 10 rfl rfl
      obtain ⟨y6, g6, f6, l6⟩ := hf 6 _ rfl 35 11 rfl rfl
      obtain ⟨y7, g7, f7, l7⟩ := hf 7 _ rfl 36 12 rfl rfl
      obtain ⟨y8, g8, f8, l8⟩ := hf 8 _ rfl 36 13 rfl rfl
      obtain ⟨y9, g9, f9, l9⟩ := hf 9 _ rfl 37 14 rfl rfl
      simp only [kInt, kStr, kCon, kBool, kStrs, kParts, kTyps, List.drop_zero, List.drop_succ_cons, List.take_succ_cons, List.take_zero] at f0 f1 f2 f3 f4 f5 f6 f7 f8 f9
      obtain rfl : xs = [y0, y1, y2, y3, y4, y5, y6, y7, y8, y9] := by
        have hxl' : xs.length = 10 := hxl
        match xs, hxl' with
        | [z0, z1, z2, z3, z4, z5, z6, z7, z8, z9], _ =>
          simp only [List.getElem?_cons_zero, List.getElem?_cons_succ, Option.some.injEq] at g0 g1 g2 g3 g4 g5 g6 g7 g8 g9
          rw [g0, g1, g2, g3, g4, g5, g6, g7, g8, g9]
      simp only [List.map_cons, List.map_nil, Rows.uptoBulkAll] at hbk
      obtain ⟨a0, e0, w0⟩ := open_i f0
      obtain ⟨a1, e1, w1, u1⟩ := uopen_str Tryz.underlying9 f1 l1
      obtain ⟨c, e2, w2, u2⟩ := uopen_con n f2 l2
      obtain ⟨a3, e3⟩ := open_b f3
      obtain ⟨a4, e4, w4, u4⟩ := uopen_str Tryz.underlying9 f4 l4
      obtain ⟨a5, e5, w5, u5⟩ := uopen_sl f5 l5
      obtain ⟨a6, e6, w6, u6⟩ := uopen_sl f6 l6
      have hpart : ∀ (k : Nat) (cs' : List Value) (x' : DataW H × List MemPlace), n = k + 1 → DataW.trod enc Tryz.prog W 0 (fun _ => true) true k 42 cs' = some x' → Light 42 x'.1 →
          ∃ y : PD × TT, cs' = pcells y.1 y.2 ∧ (PDIn W.heap.size W y.1 ∧ TIn W.heap.size W y.2) ∧ y.1.wt + y.2.wt ≤ Rows.uptoBulk x'.1 := fun k cs' x' hk h' hl' => uopen_part h' hl' (fun m _ _ hm => ih m (by omega))
      obtain ⟨pa, pn, pc, pf, e7, hpr, hp, u7⟩ := uopen_row (W := W) ((⟨ByteArray.empty, false, ⟨none, 0, 0, fun _ => .nil⟩⟩, .nil) : PD × TT) (fun y => pcells y.1 y.2) (fun y => PDIn W.heap.size W y.1 ∧ TIn W.heap.size W y.2) (fun y => y.1.wt + y.2.wt) 18 Tryz.underlying36 kPart (by decide) (by decide +kernel) f7 l7 hpart
      obtain ⟨aa, an, ac, af, e8, har, ha, u8⟩ := uopen_row (W := W) ((⟨ByteArray.empty, false, ⟨none, 0, 0, fun _ => .nil⟩⟩, .nil) : PD × TT) (fun y => pcells y.1 y.2) (fun y => PDIn W.heap.size W y.1 ∧ TIn W.heap.size W y.2) (fun y => y.1.wt + y.2.wt) 18 Tryz.underlying36 kPart (by decide) (by decide +kernel) f8 l8 hpart
      obtain ⟨ea, en, ec, ef, e9, her, he, u9⟩ := uopen_row (W := W) TT.nil TT.cells (fun c => TIn W.heap.size W c) TT.wt 15 Tryz.underlying37 kTyp (by decide) (by decide +kernel) f9 l9
        (fun k cs' x' hk h' hl' => ih k (by omega) h' hl')
      simp only [List.cons.injEq, and_true] at e0 e1 e3 e4 e5 e6 e7 e8 e9
      subst e0; subst e1; subst e3; subst e4; subst e5; subst e6; subst e7; subst e8; subst e9
      refine ⟨.mk a0 a1 c a3 a4 a5 a6 ⟨pa, pn, pc, fun i => (pf i).1⟩ (fun i => (pf i).2) ⟨aa, an, ac, fun i => (af i).1⟩ (fun i => (af i).2) ea en ec ef, ?_, ⟨⟨w0, w1, w2, w4, w5, w6⟩, ⟨hpr, hp⟩, ⟨har, ha⟩, ⟨her, he⟩⟩, ?_⟩
      · simp only [TT.cells]
        rw [← e2]
        rfl
      · simp only [TT.wt]
        omega
end
end Go.Proofs.YtgmnojnalkhepaaGreatDoor

/-
  For a law's second form: that there is an input that fits.
-/
namespace Go.Proofs.YtgmnojnalkhepaaGreatDoor
open Go.RowKit
set_option linter.unusedVariables false
set_option linter.unusedSimpArgs false
set_option maxRecDepth 100000

theorem witness_rowZ {H : Type} {enc : TypeId × Value → H} {C : Checked} {os : Os} {f : FuncId} {fn : Func} {s : OpenSpec} {conds : List PathCond} {apart : Bool} {laid : List (String × DataW Unit)} (modest : Bool) (w0 : World) (args : Array Value) (hos : w0.os = os)
    (hsh : (w0.forCall (fun _ _ => 0) ⟨#[], args, []⟩).Shaped C.prog)
    (hok : Input.okWideB C.prog (w0.forCall (fun _ _ => 0) ⟨#[], args, []⟩) f ⟨#[], args, []⟩ = true)
    (hrow : s.preRow enc C.prog fn conds apart laid (w0.forCall (fun _ _ => 0) ⟨#[], args, []⟩).memory args) :
    ∃ (w : World) (tape : Tape) (i : Input), w.os = os ∧ (w.forCall tape i).Shaped C.prog ∧ i.vars = [] ∧ Input.okWide C.prog (w.forCall tape i) .any w.heap.size f i ∧
      s.preRow enc C.prog fn conds apart laid (w.forCall tape i).memory i.args ∧ ({ modest := modest } : Assume).holds C.prog (lone (Frame.enter C.prog f i.args .normal) [] (w.forCall tape i)) :=
  ⟨w0, fun _ _ => 0, ⟨#[], args, []⟩, hos, hsh, (Input.okWide_of_okWideB (base := 0) hok).1, (Input.okWide_of_okWideB hok).2, hrow, by
    simp only [Assume.holds]
    exact ⟨by simp, by simp, fun _ => Modest.zero, by simp, by simp⟩⟩
end Go.Proofs.YtgmnojnalkhepaaGreatDoor

/-
  The law of a part that may not be: a SEQUENCE of one part; what it weighs, its text; FewValues.
-/
namespace Go.Proofs.YtgmnojnalkhepaaGreatDoor
open Go.RowKit
set_option linter.unusedVariables false
set_option linter.unusedSimpArgs false
set_option maxRecDepth 100000

/-- a SEQUENCE of one part, which lies in block g -/
def sqT (g : Nat) (p : PD) (t : TT) : TT := .mk 8 ⟨#[]⟩ c0T false ⟨#[]⟩ noS noS ⟨some ⟨g, 0, none⟩, 1, 1, fun _ => p⟩ (fun _ => t) noP (fun _ => .nil) none 0 0 (fun _ => .nil)
theorem sq_in {B : Nat} {W : World} {g : Nat} {p : PD} {t : TT} (h : Bx W g (pcells p t).toArray 42) (hg : g < B) (hp : PDIn B W p) (ht : TIn B W t) : TIn B W (sqT g p t) := by
  refine ⟨⟨by unfold I64; omega, by decide, c0_in B W, by decide, noS_in B W, noS_in B W⟩, ⟨RowAt.lit h hg (by show 1 ≤ _; omega) (fun i hi => ?_), fun i hi => ⟨hp, ht⟩⟩, ⟨RowAt.none B W 18 _, fun i h => absurd h (Nat.not_lt_zero i)⟩, ⟨RowAt.none B W 15 _, fun i h => absurd h (Nat.not_lt_zero i)⟩⟩
  have hi : i < 1 := hi
  obtain rfl : i = 0 := by omega
  exact ⟨[], by simp⟩
theorem sq_dep (g : Nat) (p : PD) (t : TT) : (sqT g p t).dep = t.dep + 1 := by
  have e : (sqT g p t).dep = 1 + mxN (fun k => if k < 1 then t.dep else if k < 1 + 0 then TT.dep .nil else TT.dep .nil) (1 + 0 + 0) := rfl
  rw [e]
  simp [mxN]
  omega
theorem sq_ok (g : Nat) (p : PD) (t : TT) : (sqT g p t).ok = compOk p t.ok := by
  have e : (sqT g p t).ok = (allN (fun _ => compOk p t.ok) 1 && true) := rfl
  rw [e]
  simp [allN]
theorem sq_okT {g : Nat} {p : PD} {t : TT} (h : (sqT g p t).okT = true) : t.okT = true := by
  unfold TT.okT at h ⊢
  rw [sq_dep, sq_ok] at h
  simp only [Bool.and_eq_true, decide_eq_true_eq] at h ⊢
  exact ⟨by omega, compOk_in h.2⟩
def sqH : List UInt8 := [83, 69, 81, 85, 69, 78, 67, 69, 32, 123, 32]
theorem sq_txt (g : Nat) (p : PD) (t : TT) : ∃ r, (sqT g p t).txt = (sqH ++ (p.name.data.toList ++ ([32] ++ t.txt))) ++ r := by
  have e : (sqT g p t).txt = [83, 69, 81, 85, 69, 78, 67, 69, 32] ++ braT (fun _ => partT p t.txt) 1 false (fun i => partT (noP.f i) TT.nil.txt) 0 := rfl
  refine ⟨(((if p.opt then optT else []) ++ catL (fun i => dfT ++ (p.d.f i).txt) p.d.n) ++ [32, 125]), ?_⟩
  rw [e]
  simp only [braT, partT, catL, sqH, sepT, if_true, Bool.false_eq_true, if_false, List.nil_append, List.append_nil, List.append_assoc, List.cons_append]
theorem sq_wt (g : Nat) (p : PD) (t : TT) : (sqT g p t).wt = 1 + 1 + 1 + 1 + (p.wt + t.wt) := by
  have e : (sqT g p t).wt = 1 + 0 + 1 + 0 + 1 + 1 + (0 + (p.wt + t.wt)) + 0 + 0 := rfl
  rw [e]
  omega
theorem lowd_A (s : ByteArray) : lowd ((⟨#[65]⟩ : ByteArray) ++ s) = false := by
  have h : tAt (cods ((⟨#[65]⟩ : ByteArray) ++ s)) 0 = 65 := by
    have h0 : 0 < ((⟨#[65]⟩ : ByteArray) ++ s).size := by rw [ByteArray.size_append]; show 0 < 1 + _; omega
    refine (cods_at _ 0 h0).symm.trans ?_
    rw [ByteArray.getElem_append_left (show 0 < (⟨#[65]⟩ : ByteArray).size from by decide)]
    rfl
  unfold lowd
  rw [h]
  simp [isLo]
theorem compOk_A (s : ByteArray) (o : Bool) (d : DL) (b : Bool) : compOk ⟨(⟨#[65]⟩ : ByteArray) ++ s, o, d⟩ b = false := by
  unfold compOk
  rw [lowd_A, Bool.false_and]
/-- a default of FALSE in block g -/
def vFD (g : Nat) : DL := ⟨some ⟨g, 0, none⟩, 1, 1, fun _ => .mk 1 0 ⟨#[]⟩ noS none 0 0 (fun _ => .nil)⟩
theorem compOk_B (s : ByteArray) (g : Nat) (b : Bool) : compOk ⟨s, true, vFD g⟩ b = false := by
  have e : compOk ⟨s, true, vFD g⟩ b = (lowd s && (b && (false && (true && allN (fun i => ((vFD g).f i).dflt) 1)))) := rfl
  rw [e]
  simp
theorem vFD_in {B : Nat} {W : World} {g : Nat} (h : Bx W g #[.int .i64 1, .int .i64 0, .string ⟨#[]⟩, .slice none 0 0, .slice none 0 0] 44) (hg : g < B) : DLIn B W (vFD g) := by
  refine ⟨RowAt.lit h hg (by show 1 ≤ _; omega) (fun i hi => ?_), fun i _ => ⟨⟨by unfold I64; omega, by unfold I64; omega, by decide, noS_in B W⟩, RowAt.none B W 5 _, fun i h => absurd h (Nat.not_lt_zero i)⟩⟩
  have hi : i < 1 := hi
  obtain rfl : i = 0 := by omega
  exact ⟨[], rfl⟩
theorem sq_bad {g : Nat} {p : PD} {t : TT} (h : ∀ b, compOk p b = false) : (sqT g p t).okT = false := by
  unfold TT.okT
  rw [sq_ok, h, Bool.and_false]
/-- a part's cells laid one by one into a block of its own -/
theorem fold_pcells {B : Nat} {W : World} {p : PD} {t : TT} (h : TIn B W t) : List.foldl (fun (cs : Array Value) (x : Value × Nat) => cs.setIfInBounds x.snd x.fst) #[Value.string ⟨#[]⟩, Value.int .i64 0, Value.string ⟨#[]⟩, Value.int .i64 0, Value.int .i64 0, Value.int .i64 0, Value.bool false, Value.bool false, Value.slice none 0 0, Value.bool false, Value.string ⟨#[]⟩, Value.slice none 0 0, Value.slice none 0 0, Value.slice none 0 0, Value.slice none 0 0, Value.slice none 0 0, Value.bool false, Value.slice none 0 0] (pcells p t).zipIdx = (pcells p t).toArray := by
  obtain ⟨kd', tn', op', lo', hi', lw', hg', ca', cn', cc', cch', ext', fr', sa', sn', sc', sf', ma', mn', mc', mf', pa', pn', pc', pf', ptf', aa', an', ac', af', atf', ea', en', ec', etf', rfl⟩ := h.open
  kernel_rfl
theorem run_storeVar_cell {P : Program} (w : World) (g o : Nat) (t ty : TypeId) (c : Array Value) (v : Value) (hg : w.heap[g]? = some (.cells c t (0, 0))) (hi : (P.info? ty).map (·.size) = some 1) (ho : o < c.size)
    (h1 : v.oneCell' = true) : (storeVar ty ⟨g, o, none⟩ v).run P w = .ok () (w.setRow g (c.setIfInBounds o v)) := by
  have := run_storeCells_at (P := P) g o t [v] 0 c w hg (by simp; omega) (fun x hx => by simp at hx; subst hx; exact h1)
  have hc : v.cells = #[v] := by cases v <;> first | rfl | cases h1
  have e : (c.toList.take (o + 0) ++ [v] ++ c.toList.drop (o + 0 + [v].length)).toArray = c.setIfInBounds o v := by
    apply Array.toList_inj.1
    rw [Array.toList_setIfInBounds, List.set_eq_take_append_cons_drop, if_pos (by simpa using ho)]
    simp
  rw [e] at this
  cases hq : P.info? ty with
  | none => simp [hq] at hi
  | some i =>
    have hs : i.size = 1 := by simpa [hq] using hi
    simp [storeVar, sizeOf, typeInfo, hq, hc, hs, this]
/-- one cell stored into a variable -/
theorem wpList_store_cell {ops : Array Oper} {rest : List Oper} {op : Oper} {a : Act} {w : World} {Q : Exit → Act → World → Prop} (hgd : op.guard = none) (ty : TypeId) (x y : Operand) (ho : op.op = .store ty x y) (g o : Nat)
    (c c' : Array Value) (t : TypeId) (v : Value) (hb : Bx w g c t) (hi : (Tryz.prog.info? ty).map (·.size) = some 1) (hoc : o < c.size) (h1 : v.oneCell' = true)
    (hx : a.eval x = .pointer (some ⟨g, o, none⟩)) (hy : a.eval y = v) (hc' : c.setIfInBounds o v = c')
    (h : ∀ w', w'.heap.size = w.heap.size → Bx w' g c' t → Below g w w' → (∀ j, j ≠ g → w'.heap[j]? = w.heap[j]?) → wpList Tryz.prog ops Q rest (a.put op.dst undef) w') : wpList Tryz.prog ops Q (op :: rest) a w := by
  refine wpList_plain hgd fun _ hK => ?_
  unfold Oper.wp execOp
  simp only [ho, hx, hy, Instr.storeAt, Instr.sureAddr, Sem.run_bind, Sem.run_pure, Result.andThen_ok, run_storeVar_cell (P := Tryz.prog) w g o t ty c v hb hi hoc h1]
  obtain ⟨e1, e2, e3, e4⟩ := hb.setRow (c.setIfInBounds o v)
  rw [hc'] at e1 e2 e3 e4 ⊢
  exact hK _ _ (h _ e3 e1 e2 e4)
theorem extract_left (a b : ByteArray) : (a ++ b).extract 0 a.size = a := by
  apply ByteArray.ext
  rw [ByteArray.data_extract, ByteArray.data_append]
  have : a.size = a.data.size := rfl
  rw [this]
  simp
theorem pcells_size {B : Nat} {W : World} {p : PD} {t : TT} (h : TIn B W t) : (pcells p t).toArray.size = 18 := (one_pcells h).1
theorem pset0 (n n' : ByteArray) (o : Bool) (d : DL) (t : TT) : (pcells ⟨n, o, d⟩ t).toArray.setIfInBounds 0 (.string n') = (pcells ⟨n', o, d⟩ t).toArray := by
  apply Array.toList_inj.1
  rw [Array.toList_setIfInBounds]
  rfl
theorem pset16 {B : Nat} {W : World} (n : ByteArray) (o o' : Bool) (d : DL) {t : TT} (h : TIn B W t) : (pcells ⟨n, o, d⟩ t).toArray.setIfInBounds 16 (.bool o') = (pcells ⟨n, o', d⟩ t).toArray := by
  obtain ⟨kd', tn', op', lo', hi', lw', hg', ca', cn', cc', cch', ext', fr', sa', sn', sc', sf', ma', mn', mc', mf', pa', pn', pc', pf', ptf', aa', an', ac', af', atf', ea', en', ec', etf', rfl⟩ := h.open
  rfl
theorem pset17 {B : Nat} {W : World} (n : ByteArray) (o : Bool) (d d' : DL) {t : TT} (h : TIn B W t) : (pcells ⟨n, o, d⟩ t).toArray.setIfInBounds 17 (.slice d'.a d'.n d'.cap) = (pcells ⟨n, o, d'⟩ t).toArray := by
  obtain ⟨kd', tn', op', lo', hi', lw', hg', ca', cn', cc', cch', ext', fr', sa', sn', sc', sf', ma', mn', mc', mf', pa', pn', pc', pf', ptf', aa', an', ac', af', atf', ea', en', ec', etf', rfl⟩ := h.open
  rfl
theorem pcell17 {B : Nat} {W W' : World} {p : PD} {t : TT} {g : Nat} {ty : TypeId} (h : TIn B W t) (hb : Bx W' g (pcells p t).toArray ty) : W'.cell? ⟨g, 17, none⟩ = some (.slice p.d.a p.d.n p.d.cap) := by
  obtain ⟨kd', tn', op', lo', hi', lw', hg', ca', cn', cc', cch', ext', fr', sa', sn', sc', sf', ma', mn', mc', mf', pa', pn', pc', pf', ptf', aa', an', ac', af', atf', ea', en', ec', etf', rfl⟩ := h.open
  exact hb.cell 17 rfl
end Go.Proofs.YtgmnojnalkhepaaGreatDoor
