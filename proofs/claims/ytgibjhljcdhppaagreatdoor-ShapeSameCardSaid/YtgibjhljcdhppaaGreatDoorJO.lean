/-
  A bundle of texts, one behind the other: ShV1, ShV2.
-/
import Derived.Test.YtgibjhljcdhppaaGreatDoorShelf2
import Derived.Test.YtgibjhljcdhppaaGreatDoorJN
import Derived.Test.YtgibjhljcdhppaaGreatDoorJB
import Derived.Test.YtgibjhljcdhppaaGreatDoorJF
/-
  Whether two constraints, values, types are the same (no walk); slices.Equal over strings.
-/
namespace Go.Proofs.YtgibjhljcdhppaaGreatDoor
open Go.RowKit
set_option linter.unusedVariables false
set_option linter.unusedSimpArgs false
set_option maxRecDepth 100000

def sEq (a b : ByteArray) : Bool := a.toList == b.toList
theorem sEq_refl (a : ByteArray) : sEq a a = true := by simp [sEq]
theorem sEq_comm (a b : ByteArray) : sEq a b = sEq b a := Bool.beq_comm
theorem sEq_eq (a b : ByteArray) : sEq a b = decide (a = b) := by
  unfold sEq
  by_cases h : a = b
  · subst h; simp
  · rw [decide_eq_false h]
    refine beq_eq_false_iff_ne.2 fun h2 => h ?_
    rw [ByteArray.toList_eq, ByteArray.toList_eq] at h2
    exact ByteArray.ext (Array.toList_inj.1 h2)
theorem allN_congr {f g : Nat → Bool} {n : Nat} (h : ∀ i, i < n → f i = g i) : allN f n = allN g n := by
  induction n with
  | zero => rfl
  | succ n ih => simp only [allN, ih (fun i hi => h i (by omega)), h n (by omega)]
theorem allN_true {f : Nat → Bool} {n : Nat} (h : ∀ i, i < n → f i = true) : allN f n = true := allN_iff.2 h
def SL.same (s t : SL) : Bool := decide (s.n = t.n) && allN (fun i => sEq (s.f i) (t.f i)) s.n
theorem SL.same_refl (s : SL) : s.same s = true := by simp only [SL.same, decide_true, Bool.true_and]; exact allN_true fun i _ => sEq_refl _
theorem same_comm {n m : Nat} {p q : Nat → Bool} (h : ∀ i, i < n → i < m → p i = q i) : (decide (n = m) && allN p n) = (decide (m = n) && allN q m) := by
  by_cases e : n = m
  · subst e
    rw [allN_congr (fun i hi => h i hi hi)]
  · rw [decide_eq_false e, decide_eq_false (Ne.symm e)]
    rfl
theorem SL.same_comm (s t : SL) : s.same t = t.same s := Go.Proofs.YtgibjhljcdhppaaGreatDoor.same_comm fun i _ _ => sEq_comm _ _
def CT.same : CT → CT → Bool
  | .nil, _ => false
  | .mk .., .nil => false
  | .mk op lo hi low high _ n _ ch, .mk op' lo' hi' low' high' _ n' _ ch' => (op == op') && ((lo == lo') && ((hi == hi') && ((low == low') && ((high == high') && (decide (n = n') && allN (fun i => (ch i).same (ch' i)) n)))))
theorem CT.same_refl {B : Nat} {W : World} : ∀ c : CT, CIn B W c → c.same c = true
  | .nil, h => h.elim
  | .mk op lo hi low high a n cap ch, h => by
    simp only [CT.same, beq_self_eq_true, decide_true, Bool.true_and]
    exact allN_true fun i hi => CT.same_refl (ch i) (h.2.2 i hi)
theorem CT.same_comm : ∀ c d : CT, c.same d = d.same c
  | .nil, .nil => rfl
  | .nil, .mk .. => rfl
  | .mk .., .nil => rfl
  | .mk op lo hi low high a n cap ch, .mk op' lo' hi' low' high' a' n' cap' ch' => by
    simp only [CT.same]
    rw [Bool.beq_comm (a := op), Bool.beq_comm (a := lo), Bool.beq_comm (a := hi), Bool.beq_comm (a := low), Bool.beq_comm (a := high), Go.Proofs.YtgibjhljcdhppaaGreatDoor.same_comm (fun i _ _ => CT.same_comm (ch i) (ch' i))]
def VT.same : VT → VT → Bool
  | .nil, _ => false
  | .mk .., .nil => false
  | .mk k m s nm _ n _ ch, .mk k' m' s' nm' _ n' _ ch' => (k == k') && ((m == m') && (sEq s s' && (nm.same nm' && (decide (n = n') && allN (fun i => (ch i).same (ch' i)) n))))
theorem VT.same_refl {B : Nat} {W : World} : ∀ c : VT, VIn B W c → c.same c = true
  | .nil, h => h.elim
  | .mk k m s nm a n cap ch, h => by
    simp only [VT.same, beq_self_eq_true, sEq_refl, SL.same_refl, decide_true, Bool.true_and]
    exact allN_true fun i hi => VT.same_refl (ch i) (h.2.2 i hi)
theorem VT.same_comm : ∀ c d : VT, c.same d = d.same c
  | .nil, .nil => rfl
  | .nil, .mk .. => rfl
  | .mk .., .nil => rfl
  | .mk k m s nm a n cap ch, .mk k' m' s' nm' a' n' cap' ch' => by
    simp only [VT.same]
    rw [Bool.beq_comm (a := k), Bool.beq_comm (a := m), sEq_comm s, SL.same_comm nm, Go.Proofs.YtgibjhljcdhppaaGreatDoor.same_comm (fun i _ _ => VT.same_comm (ch i) (ch' i))]
def DL.same (d e : DL) : Bool := decide (d.n = e.n) && allN (fun i => (d.f i).same (e.f i)) d.n
def PD.same (p q : PD) (t : Bool) : Bool := sEq p.name q.name && ((p.opt == q.opt) && (p.d.same q.d && t))
def TT.same : TT → TT → Bool
  | .nil, _ => false
  | .mk .., .nil => false
  | .mk kd tn con ext fr nm mo pa pt ad at_ _ en _ et, .mk kd' tn' con' ext' fr' nm' mo' pa' pt' ad' at' _ en' _ et' =>
    (kd == kd') && (sEq tn tn' && ((ext == ext') && (sEq fr fr' && (con.same con' && (nm.same nm' && (mo.same mo' &&
      ((decide (pa.n = pa'.n) && allN (fun i => (pa.f i).same (pa'.f i) ((pt i).same (pt' i))) pa.n) && ((decide (ad.n = ad'.n) && allN (fun i => (ad.f i).same (ad'.f i) ((at_ i).same (at' i))) ad.n) && (decide (en = en') && allN (fun i => (et i).same (et' i)) en)))))))))
theorem DL.same_refl {B : Nat} {W : World} {d : DL} (h : DLIn B W d) : d.same d = true := by
  simp only [DL.same, decide_true, Bool.true_and]
  exact allN_true fun i hi => VT.same_refl _ (h.2 i hi)
theorem DL.same_comm (d e : DL) : d.same e = e.same d := Go.Proofs.YtgibjhljcdhppaaGreatDoor.same_comm fun i _ _ => VT.same_comm _ _
theorem PD.same_comm (p q : PD) (t : Bool) : p.same q t = q.same p t := by
  unfold PD.same
  rw [sEq_comm p.name, Bool.beq_comm (a := p.opt), DL.same_comm p.d]
theorem PD.same_refl {B : Nat} {W : World} {p : PD} (h : PDIn B W p) : p.same p true = true := by
  simp only [PD.same, sEq_refl, beq_self_eq_true, DL.same_refl h.2, Bool.and_self]
theorem TT.same_refl {B : Nat} {W : World} : ∀ t : TT, TIn B W t → t.same t = true
  | .nil, h => h.elim
  | .mk kd tn con ext fr nm mo pa pt ad at_ ea en ec et, ⟨⟨_, _, hc, _, _, _⟩, ⟨_, hp⟩, ⟨_, ha⟩, ⟨_, he⟩⟩ => by
    simp only [TT.same, beq_self_eq_true, sEq_refl, SL.same_refl, CT.same_refl con hc, decide_true, Bool.true_and]
    rw [allN_true (fun i hi => by rw [TT.same_refl (pt i) (hp i hi).2]; exact PD.same_refl (hp i hi).1), allN_true (fun i hi => by rw [TT.same_refl (at_ i) (ha i hi).2]; exact PD.same_refl (ha i hi).1), allN_true (fun i hi => TT.same_refl (et i) (he i hi))]
    rfl
theorem TT.same_comm : ∀ t u : TT, t.same u = u.same t
  | .nil, .nil => rfl
  | .nil, .mk .. => rfl
  | .mk .., .nil => rfl
  | .mk kd tn con ext fr nm mo pa pt ad at_ ea en ec et, .mk kd' tn' con' ext' fr' nm' mo' pa' pt' ad' at' ea' en' ec' et' => by
    simp only [TT.same]
    rw [Bool.beq_comm (a := kd), sEq_comm tn, Bool.beq_comm (a := ext), sEq_comm fr, CT.same_comm con, SL.same_comm nm, SL.same_comm mo,
      Go.Proofs.YtgibjhljcdhppaaGreatDoor.same_comm (p := fun i => (pa.f i).same (pa'.f i) ((pt i).same (pt' i))) (q := fun i => (pa'.f i).same (pa.f i) ((pt' i).same (pt i))) (fun i _ _ => by rw [TT.same_comm (pt i), PD.same_comm]),
      Go.Proofs.YtgibjhljcdhppaaGreatDoor.same_comm (p := fun i => (ad.f i).same (ad'.f i) ((at_ i).same (at' i))) (q := fun i => (ad'.f i).same (ad.f i) ((at' i).same (at_ i))) (fun i _ _ => by rw [TT.same_comm (at_ i), PD.same_comm]),
      Go.Proofs.YtgibjhljcdhppaaGreatDoor.same_comm (p := fun i => (et i).same (et' i)) (q := fun i => (et' i).same (et i)) (fun i _ _ => TT.same_comm (et i) (et' i))]
theorem take_eq (n : Nat) (f g : Nat → ByteArray) : decide ((List.range n).map f = (List.range n).map g) = allN (fun i => sEq (f i) (g i)) n := by
  induction n with
  | zero => rfl
  | succ n ih =>
    rw [List.range_succ, List.map_append, List.map_append]
    show decide (_ ++ [f n] = _ ++ [g n]) = (allN (fun i => sEq (f i) (g i)) n && sEq (f n) (g n))
    rw [sEq_eq (f n) (g n)]
    by_cases h : (List.range n).map f = (List.range n).map g
    · rw [decide_eq_true h] at ih
      rw [← ih, Bool.true_and]
      refine decide_eq_decide.2 ⟨fun e => ?_, fun e => by rw [h, e]⟩
      have e2 := (List.append_inj' e rfl).2
      injection e2
    · rw [decide_eq_false h] at ih
      rw [← ih, Bool.false_and]
      exact decide_eq_false fun e => h (List.append_inj' e rfl).1
theorem eqS_ok (B : Nat) (w : World) (s t : SL) (hs : SLIn B w s) (ht : SLIn B w t) : Calls Tryz.prog 55 #[s.v, t.v] w fun e w' => e = .returned (.bool (s.same t)) ∧ Below w.heap.size w w' := by
  obtain ⟨a, n, cap, f⟩ := s
  obtain ⟨b, m, cap2, g⟩ := t
  have hn : n ≤ 9223372036854775807 := by have h1 : n ≤ cap := hs.1.1; have h2 : cap ≤ 140737488355328 := hs.1.2.1; omega
  have hm : m ≤ 9223372036854775807 := by have h1 : m ≤ cap2 := ht.1.1; have h2 : cap2 ≤ 140737488355328 := ht.1.2.1; omega
  show Calls _ _ #[.slice a n cap, .slice b m cap2] w fun e w' => e = .returned (.bool (decide (n = m) && allN (fun i => sEq (f i) (g i)) n)) ∧ _
  by_cases e : n = m
  · subst e
    by_cases h0 : n = 0
    · subst h0
      refine (Tryz.slices_Equal_string_empty a b cap 0 cap2 w (by omega)).mono ?_
      rintro e w' ⟨rfl, rfl⟩
      exact ⟨rfl, Below.refl _ _⟩
    · obtain ⟨g1, o1, rfl, _, hc1⟩ := hs.1.2.2.2 (by show 0 < n; omega)
      obtain ⟨g2, o2, rfl, _, hc2⟩ := ht.1.2.2.2 (by show 0 < n; omega)
      refine (Tryz.slices_Equal_string g1 o1 n cap g2 o2 n cap2 ((List.range n).map f) ((List.range n).map g) w (by simp) (by simp) hn hn (fun j hj => ?_) (fun j hj => ?_)).mono ?_
      · have hj : j < n := by simpa using hj
        have := hc1 j hj 0 _ rfl
        simpa [List.getD_eq_getElem?_getD, hj] using this
      · have hj : j < n := by simpa using hj
        have := hc2 j hj 0 _ rfl
        simpa [List.getD_eq_getElem?_getD, hj] using this
      · rintro e w' ⟨rfl, q, rfl⟩
        refine ⟨?_, ⟨rfl, rfl, rfl, Nat.le_refl _, fun _ _ => rfl⟩⟩
        rw [List.take_of_length_le (by simp), List.take_of_length_le (by simp), take_eq, show decide (n = n) = true from decide_eq_true rfl, Bool.true_and]
  · refine (Tryz.slices_Equal_string_lens a b n cap m cap2 w e).mono ?_
    rintro e' w' ⟨rfl, rfl⟩
    rw [decide_eq_false e]
    exact ⟨rfl, Below.refl _ _⟩
end Go.Proofs.YtgibjhljcdhppaaGreatDoor

/-
  Package shape: 'sameCon', 'sameValue', 'samePart', 'Same'.
-/
namespace Go.Proofs.YtgibjhljcdhppaaGreatDoor
open Go.RowKit
set_option linter.unusedVariables false
set_option linter.unusedSimpArgs false
set_option maxRecDepth 100000

theorem one_ccells {B : Nat} {W : World} {c : CT} (h : CIn B W c) : c.cells.length = 6 ∧ ∀ v ∈ c.cells, v.oneCell' = true := by
  obtain ⟨op, lo, hi, low, high, a, n, cap, ch, rfl⟩ := h.open
  refine ⟨rfl, fun v hv => ?_⟩
  simp only [CT.cells, List.mem_cons, List.not_mem_nil, or_false] at hv
  rcases hv with rfl | rfl | rfl | rfl | rfl | rfl <;> rfl
theorem one_vcells {B : Nat} {W : World} {c : VT} (h : VIn B W c) : c.cells.length = 5 ∧ ∀ v ∈ c.cells, v.oneCell' = true := by
  obtain ⟨kd, m, s, nm, a, n, cap, ch, rfl⟩ := h.open
  refine ⟨rfl, fun v hv => ?_⟩
  simp only [VT.cells, SL.v, List.mem_cons, List.not_mem_nil, or_false] at hv
  rcases hv with rfl | rfl | rfl | rfl | rfl <;> rfl
theorem enters_sameCon : Enters Tryz.prog 54 := enters_of Tryz.func54 (by kernel_rfl) rfl
theorem enters_sameValue : Enters Tryz.prog 107 := enters_of Tryz.func107 (by kernel_rfl) rfl
theorem enters_samePart : Enters Tryz.prog 57 := enters_of Tryz.func57 (by kernel_rfl) rfl
theorem enters_Same : Enters Tryz.prog 30 := enters_of Tryz.func30 (by kernel_rfl) rfl
theorem RowAt.congr {B : Nat} {W : World} {a : Option Addr} {n cap k : Nat} {c1 c2 : Nat → List Value} (h : RowAt B W a n cap k c1) (e : ∀ i, i < n → c2 i = c1 i) : RowAt B W a n cap k c2 :=
  ⟨h.1, h.2.1, h.2.2.1, fun hn => by
    obtain ⟨g, o, ha, hg, hc⟩ := h.2.2.2 hn
    exact ⟨g, o, ha, hg, fun i hi j u hj => hc i hi j u (by rw [← e i hi]; exact hj)⟩⟩
theorem and_congr {n m : Nat} {p q : Nat → Bool} (h : n = m → ∀ i, i < n → p i = q i) : (decide (n = m) && allN p n) = (decide (n = m) && allN q n) := by
  by_cases e : n = m
  · rw [allN_congr (h e)]
  · rw [decide_eq_false e]
    rfl
theorem eqC_ok (B : Nat) (w : World) (a : Option Addr) (n cap : Nat) (f : Nat → CT) (a' : Option Addr) (n' cap' : Nat) (f' : Nat → CT) (hB : B ≤ w.heap.size) (hr : RowAt B w a n cap 6 (fun i => (f i).cells)) (hr' : RowAt B w a' n' cap' 6 (fun i => (f' i).cells))
    (hc : ∀ i, i < n → CIn B w (f i)) (hc' : ∀ i, i < n' → CIn B w (f' i))
    (hrec : ∀ i, i < n → ∀ d : CT, CIn B w d → ∀ w', Below w.heap.size w w' → Calls Tryz.prog 54 #[.agg ((f i).cells).toArray, .agg (d.cells).toArray] w' fun e w'' => e = .returned (.bool ((f i).same d)) ∧ Below w'.heap.size w' w'') :
    Calls Tryz.prog 105 #[.slice a n cap, .slice a' n' cap', .func (.func 54) #[] #[]] w fun e w' => e = .returned (.bool (decide (n = n') && allN (fun i => (f i).same (f' i)) n)) ∧ Below w.heap.size w w' := by
  have h := eqFnC_ok B w a n cap (fun i => (f i).cells) a' n' cap' (fun i => (if i < n' then f' i else f i).cells) 54 (fun i => (f i).same (if i < n' then f' i else f i)) enters_sameCon hB hr (hr'.congr fun i hi => by simp only [if_pos hi])
    (fun i hi => one_ccells (hc i hi)) (fun i hi => by simp only [if_pos hi]; exact one_ccells (hc' i hi))
    (fun i hi w' hb => hrec i hi (if i < n' then f' i else f i) (by
      by_cases h : i < n'
      · rw [if_pos h]; exact hc' i h
      · rw [if_neg h]; exact hc i hi) w' hb)
  rw [and_congr (q := fun i => (f i).same (f' i)) (fun e i hi => by rw [if_pos (by omega)])] at h
  exact h
theorem eqV_ok (B : Nat) (w : World) (a : Option Addr) (n cap : Nat) (f : Nat → VT) (a' : Option Addr) (n' cap' : Nat) (f' : Nat → VT) (hB : B ≤ w.heap.size) (hr : RowAt B w a n cap 5 (fun i => (f i).cells)) (hr' : RowAt B w a' n' cap' 5 (fun i => (f' i).cells))
    (hc : ∀ i, i < n → VIn B w (f i)) (hc' : ∀ i, i < n' → VIn B w (f' i))
    (hrec : ∀ i, i < n → ∀ d : VT, VIn B w d → ∀ w', Below w.heap.size w w' → Calls Tryz.prog 107 #[.agg ((f i).cells).toArray, .agg (d.cells).toArray] w' fun e w'' => e = .returned (.bool ((f i).same d)) ∧ Below w'.heap.size w' w'') :
    Calls Tryz.prog 106 #[.slice a n cap, .slice a' n' cap', .func (.func 107) #[] #[]] w fun e w' => e = .returned (.bool (decide (n = n') && allN (fun i => (f i).same (f' i)) n)) ∧ Below w.heap.size w w' := by
  have h := eqFnV_ok B w a n cap (fun i => (f i).cells) a' n' cap' (fun i => (if i < n' then f' i else f i).cells) 107 (fun i => (f i).same (if i < n' then f' i else f i)) enters_sameValue hB hr (hr'.congr fun i hi => by simp only [if_pos hi])
    (fun i hi => one_vcells (hc i hi)) (fun i hi => by simp only [if_pos hi]; exact one_vcells (hc' i hi))
    (fun i hi w' hb => hrec i hi (if i < n' then f' i else f i) (by
      by_cases h : i < n'
      · rw [if_pos h]; exact hc' i h
      · rw [if_neg h]; exact hc i hi) w' hb)
  rw [and_congr (q := fun i => (f i).same (f' i)) (fun e i hi => by rw [if_pos (by omega)])] at h
  exact h
theorem eqT_ok (B : Nat) (w : World) (a : Option Addr) (n cap : Nat) (f : Nat → TT) (a' : Option Addr) (n' cap' : Nat) (f' : Nat → TT) (hB : B ≤ w.heap.size) (hr : RowAt B w a n cap 15 (fun i => (f i).cells)) (hr' : RowAt B w a' n' cap' 15 (fun i => (f' i).cells))
    (hc : ∀ i, i < n → TIn B w (f i)) (hc' : ∀ i, i < n' → TIn B w (f' i))
    (hrec : ∀ i, i < n → ∀ d : TT, TIn B w d → ∀ w', Below w.heap.size w w' → Calls Tryz.prog 30 #[.agg ((f i).cells).toArray, .agg (d.cells).toArray] w' fun e w'' => e = .returned (.bool ((f i).same d)) ∧ Below w'.heap.size w' w'') :
    Calls Tryz.prog 58 #[.slice a n cap, .slice a' n' cap', .func (.func 30) #[] #[]] w fun e w' => e = .returned (.bool (decide (n = n') && allN (fun i => (f i).same (f' i)) n)) ∧ Below w.heap.size w w' := by
  have h := eqFnT_ok B w a n cap (fun i => (f i).cells) a' n' cap' (fun i => (if i < n' then f' i else f i).cells) 30 (fun i => (f i).same (if i < n' then f' i else f i)) enters_Same hB hr (hr'.congr fun i hi => by simp only [if_pos hi])
    (fun i hi => one_tcells (hc i hi)) (fun i hi => by simp only [if_pos hi]; exact one_tcells (hc' i hi))
    (fun i hi w' hb => hrec i hi (if i < n' then f' i else f i) (by
      by_cases h : i < n'
      · rw [if_pos h]; exact hc' i h
      · rw [if_neg h]; exact hc i hi) w' hb)
  rw [and_congr (q := fun i => (f i).same (f' i)) (fun e i hi => by rw [if_pos (by omega)])] at h
  exact h
def pcellsP (x : PD × TT) : List Value := pcells x.1 x.2
def PTIn (B : Nat) (W : World) (x : PD × TT) : Prop := PDIn B W x.1 ∧ TIn B W x.2
def sameP (x y : PD × TT) : Bool := x.1.same y.1 (x.2.same y.2)
theorem eqP_ok (B : Nat) (w : World) (a : Option Addr) (n cap : Nat) (f : Nat → (PD × TT)) (a' : Option Addr) (n' cap' : Nat) (f' : Nat → (PD × TT)) (hB : B ≤ w.heap.size) (hr : RowAt B w a n cap 18 (fun i => pcellsP (f i))) (hr' : RowAt B w a' n' cap' 18 (fun i => pcellsP (f' i)))
    (hc : ∀ i, i < n → PTIn B w (f i)) (hc' : ∀ i, i < n' → PTIn B w (f' i))
    (hrec : ∀ i, i < n → ∀ d : (PD × TT), PTIn B w d → ∀ w', Below w.heap.size w w' → Calls Tryz.prog 57 #[.agg (pcellsP (f i)).toArray, .agg (pcellsP d).toArray] w' fun e w'' => e = .returned (.bool (sameP (f i) d)) ∧ Below w'.heap.size w' w'') :
    Calls Tryz.prog 56 #[.slice a n cap, .slice a' n' cap', .func (.func 57) #[] #[]] w fun e w' => e = .returned (.bool (decide (n = n') && allN (fun i => sameP (f i) (f' i)) n)) ∧ Below w.heap.size w w' := by
  have h := eqFnP_ok B w a n cap (fun i => pcellsP (f i)) a' n' cap' (fun i => pcellsP (if i < n' then f' i else f i)) 57 (fun i => sameP (f i) (if i < n' then f' i else f i)) enters_samePart hB hr (hr'.congr fun i hi => by simp only [if_pos hi])
    (fun i hi => one_pcells (p := _) (hc i hi).2) (fun i hi => by simp only [if_pos hi]; exact one_pcells (p := _) (hc' i hi).2)
    (fun i hi w' hb => hrec i hi (if i < n' then f' i else f i) (by
      by_cases h : i < n'
      · rw [if_pos h]; exact hc' i h
      · rw [if_neg h]; exact hc i hi) w' hb)
  rw [and_congr (q := fun i => sameP (f i) (f' i)) (fun e i hi => by rw [if_pos (by omega)])] at h
  exact h
set_option maxHeartbeats 8000000 in
theorem sameCon_ok : ∀ (c d : CT) (B : Nat) (w : World), CIn B w c → CIn B w d → B ≤ w.heap.size →
    Calls Tryz.prog 54 #[.agg c.cells.toArray, .agg d.cells.toArray] w fun e w' => e = .returned (.bool (c.same d)) ∧ Below w.heap.size w w'
  | .nil, _, _, _, h, _, _ => h.elim
  | .mk .., .nil, _, _, _, h, _ => h.elim
  | .mk op lo hi low high a n cap ch, .mk op' lo' hi' low' high' a' n' cap' ch', B, w, hc, hd, hB => by
    have HG := Lib.hid (fun (W : World) (hb : Below w.heap.size w W) => eqC_ok W.heap.size W a n cap ch a' n' cap' ch' (Nat.le_refl _) ((hc.2.1.below hb hB).mono hb.size) ((hd.2.1.below hb hB).mono hb.size) (fun i hi => ((hc.2.2 i hi).below hb hB).below (Below.refl _ _) hb.size) (fun i hi => ((hd.2.2 i hi).below hb hB).below (Below.refl _ _) hb.size)
      (fun i hi d hd w' hb' => sameCon_ok (ch i) d W.heap.size w' ((((hc.2.2 i hi).below hb hB).below (Below.refl _ _) hb.size).below hb' (Nat.le_refl _)) (hd.below hb' (Nat.le_refl _)) hb'.size))
    clear hc hd hB
    simp only [CT.cells]
    have HB0 := Lib.hid (((Below.refl w.heap.size w).alloc (Nat.le_refl _) (.cells #[.int .i64 op, .int .i64 lo, .int .i64 hi, .bool low, .bool high, .slice a n cap] 24)).alloc (by simp) (.cells #[.int .i64 op', .int .i64 lo', .int .i64 hi', .bool low', .bool high', .slice a' n' cap'] 24))
    have HX1 := Lib.hid ((Bx.new w #[.int .i64 op, .int .i64 lo, .int .i64 hi, .bool low, .bool high, .slice a n cap] 24).alloc (.cells #[.int .i64 op', .int .i64 lo', .int .i64 hi', .bool low', .bool high', .slice a' n' cap'] 24))
    have HX2 := Lib.hid (show Bx ((w.alloc (.cells #[.int .i64 op, .int .i64 lo, .int .i64 hi, .bool low, .bool high, .slice a n cap] 24)).alloc (.cells #[.int .i64 op', .int .i64 lo', .int .i64 hi', .bool low', .bool high', .slice a' n' cap'] 24)) (w.heap.size + 1) #[.int .i64 op', .int .i64 lo', .int .i64 hi', .bool low', .bool high', .slice a' n' cap'] 24 by have h := Bx.new (w.alloc (.cells #[.int .i64 op, .int .i64 lo, .int .i64 hi, .bool low, .bool high, .slice a n cap] 24)) #[.int .i64 op', .int .i64 lo', .int .i64 hi', .bool low', .bool high', .slice a' n' cap'] 24; rw [World.size_alloc] at h; exact h)
    obtain ⟨res, hres⟩ : ∃ res, (CT.mk op lo hi low high a n cap ch).same (.mk op' lo' hi' low' high' a' n' cap' ch') = res := ⟨_, rfl⟩
    have HRES := Lib.hid (show res = ((op == op') && ((lo == lo') && ((hi == hi') && ((low == low') && ((high == high') && (decide (n = n') && allN (fun i => (ch i).same (ch' i)) n)))))) from hres.symm)
    rw [hres]
    clear hres
    obtain ⟨b0, h0⟩ : ∃ b, (op == op') = b := ⟨_, rfl⟩
    rw [h0] at HRES
    cases b0 with
    | false =>
      obtain rfl : res = false := by rw [HRES.out]; first | rfl | simp
      go_enter Tryz.func54, Tryz.ntmps54
      go_wp2_with fail
      go_ret
      exact ⟨rfl, HB0.out⟩
    | true =>
      obtain ⟨b1, h1⟩ : ∃ b, (lo == lo') = b := ⟨_, rfl⟩
      rw [h1] at HRES
      cases b1 with
      | false =>
        obtain rfl : res = false := by rw [HRES.out]; first | rfl | simp
        go_enter Tryz.func54, Tryz.ntmps54
        go_wp2_with fail
        go_ret
        exact ⟨rfl, HB0.out⟩
      | true =>
        obtain ⟨b2, h2⟩ : ∃ b, (hi == hi') = b := ⟨_, rfl⟩
        rw [h2] at HRES
        cases b2 with
        | false =>
          obtain rfl : res = false := by rw [HRES.out]; first | rfl | simp
          go_enter Tryz.func54, Tryz.ntmps54
          go_wp2_with fail
          go_ret
          exact ⟨rfl, HB0.out⟩
        | true =>
          obtain ⟨b3, h3⟩ : ∃ b, (low == low') = b := ⟨_, rfl⟩
          rw [h3] at HRES
          cases b3 with
          | false =>
            obtain rfl : res = false := by rw [HRES.out]; first | rfl | simp
            go_enter Tryz.func54, Tryz.ntmps54
            go_wp2_with fail
            go_ret
            exact ⟨rfl, HB0.out⟩
          | true =>
            obtain ⟨b4, h4⟩ : ∃ b, (high == high') = b := ⟨_, rfl⟩
            rw [h4] at HRES
            cases b4 with
            | false =>
              obtain rfl : res = false := by rw [HRES.out]; first | rfl | simp
              go_enter Tryz.func54, Tryz.ntmps54
              go_wp2_with fail
              go_ret
              exact ⟨rfl, HB0.out⟩
            | true =>
              go_enter Tryz.func54, Tryz.ntmps54
              go_wp2_with fail
              have HC0 := Lib.hid (HG.out _ HB0.out)
              obtain ⟨r0, hr0⟩ : ∃ r, (decide (n = n') && allN (fun i => (ch i).same (ch' i)) n) = r := ⟨_, rfl⟩
              rw [hr0] at HC0 HRES
              clear hr0
              refine HC0.out.mono ?_
              rintro e v0 ⟨rfl, hb⟩
              have HW0 := Lib.hid (HB0.out.trans (hb.mono HB0.out.size))
              have HX1_1 := Lib.hid (HX1.out.below hb HX1.out.lt)
              have HX2_1 := Lib.hid (HX2.out.below hb HX2.out.lt)
              clear hb HC0
              cases r0 with
              | false =>
                obtain rfl : res = false := by rw [HRES.out]; first | rfl | simp
                go_wp2_with fail
                go_ret
                exact ⟨rfl, HW0.out⟩
              | true =>
                obtain rfl : res = true := by rw [HRES.out]; first | rfl | simp
                go_wp2_with fail
                go_ret
                exact ⟨rfl, HW0.out⟩
set_option maxHeartbeats 8000000 in
theorem sameValue_ok : ∀ (c d : VT) (B : Nat) (w : World), VIn B w c → VIn B w d → B ≤ w.heap.size →
    Calls Tryz.prog 107 #[.agg c.cells.toArray, .agg d.cells.toArray] w fun e w' => e = .returned (.bool (c.same d)) ∧ Below w.heap.size w w'
  | .nil, _, _, _, h, _, _ => h.elim
  | .mk .., .nil, _, _, _, h, _ => h.elim
  | .mk k m s ⟨na, nn, nc, nf⟩ a n cap ch, .mk k' m' s' ⟨na', nn', nc', nf'⟩ a' n' cap' ch', B, w, hc, hd, hB => by
    have HG := Lib.hid (fun (W : World) (hb : Below w.heap.size w W) => eqV_ok W.heap.size W a n cap ch a' n' cap' ch' (Nat.le_refl _) ((hc.2.1.below hb hB).mono hb.size) ((hd.2.1.below hb hB).mono hb.size) (fun i hi => ((hc.2.2 i hi).below hb hB).below (Below.refl _ _) hb.size) (fun i hi => ((hd.2.2 i hi).below hb hB).below (Below.refl _ _) hb.size)
      (fun i hi d hd w' hb' => sameValue_ok (ch i) d W.heap.size w' ((((hc.2.2 i hi).below hb hB).below (Below.refl _ _) hb.size).below hb' (Nat.le_refl _)) (hd.below hb' (Nat.le_refl _)) hb'.size))
    have HS := Lib.hid (fun (W : World) (hb : Below w.heap.size w W) => eqS_ok w.heap.size W ⟨na, nn, nc, nf⟩ ⟨na', nn', nc', nf'⟩ (hc.1.2.2.2.below hb hB) (hd.1.2.2.2.below hb hB))
    clear hc hd hB
    simp only [VT.cells, SL.v] at HS ⊢
    have HB0 := Lib.hid (((Below.refl w.heap.size w).alloc (Nat.le_refl _) (.cells #[.int .i64 k, .int .i64 m, .string s, .slice na nn nc, .slice a n cap] 58)).alloc (by simp) (.cells #[.int .i64 k', .int .i64 m', .string s', .slice na' nn' nc', .slice a' n' cap'] 58))
    have HX1 := Lib.hid ((Bx.new w #[.int .i64 k, .int .i64 m, .string s, .slice na nn nc, .slice a n cap] 58).alloc (.cells #[.int .i64 k', .int .i64 m', .string s', .slice na' nn' nc', .slice a' n' cap'] 58))
    have HX2 := Lib.hid (show Bx ((w.alloc (.cells #[.int .i64 k, .int .i64 m, .string s, .slice na nn nc, .slice a n cap] 58)).alloc (.cells #[.int .i64 k', .int .i64 m', .string s', .slice na' nn' nc', .slice a' n' cap'] 58)) (w.heap.size + 1) #[.int .i64 k', .int .i64 m', .string s', .slice na' nn' nc', .slice a' n' cap'] 58 by have h := Bx.new (w.alloc (.cells #[.int .i64 k, .int .i64 m, .string s, .slice na nn nc, .slice a n cap] 58)) #[.int .i64 k', .int .i64 m', .string s', .slice na' nn' nc', .slice a' n' cap'] 58; rw [World.size_alloc] at h; exact h)
    obtain ⟨res, hres⟩ : ∃ res, (VT.mk k m s ⟨na, nn, nc, nf⟩ a n cap ch).same (.mk k' m' s' ⟨na', nn', nc', nf'⟩ a' n' cap' ch') = res := ⟨_, rfl⟩
    have HRES := Lib.hid (show res = ((k == k') && ((m == m') && (sEq s s' && ((SL.mk na nn nc nf).same ⟨na', nn', nc', nf'⟩ && (decide (n = n') && allN (fun i => (ch i).same (ch' i)) n))))) from hres.symm)
    rw [hres]
    clear hres
    obtain ⟨b0, h0⟩ : ∃ b, (k == k') = b := ⟨_, rfl⟩
    rw [h0] at HRES
    cases b0 with
    | false =>
      obtain rfl : res = false := by rw [HRES.out]; first | rfl | simp
      go_enter Tryz.func107, Tryz.ntmps107
      go_wp2_with fail
      go_ret
      exact ⟨rfl, HB0.out⟩
    | true =>
      obtain ⟨b1, h1⟩ : ∃ b, (m == m') = b := ⟨_, rfl⟩
      rw [h1] at HRES
      cases b1 with
      | false =>
        obtain rfl : res = false := by rw [HRES.out]; first | rfl | simp
        go_enter Tryz.func107, Tryz.ntmps107
        go_wp2_with fail
        go_ret
        exact ⟨rfl, HB0.out⟩
      | true =>
        obtain ⟨b2, h2⟩ : ∃ b, sEq s s' = b := ⟨_, rfl⟩
        rw [h2] at HRES
        have s2 : (s.toList == s'.toList) = b2 := h2
        cases b2 with
        | false =>
          obtain rfl : res = false := by rw [HRES.out]; first | rfl | simp
          go_enter Tryz.func107, Tryz.ntmps107
          go_wp2_with fail
          go_ret
          exact ⟨rfl, HB0.out⟩
        | true =>
          go_enter Tryz.func107, Tryz.ntmps107
          go_wp2_with fail
          have HC0 := Lib.hid (HS.out _ HB0.out)
          obtain ⟨r0, hr0⟩ : ∃ r, (SL.mk na nn nc nf).same ⟨na', nn', nc', nf'⟩ = r := ⟨_, rfl⟩
          rw [hr0] at HC0 HRES
          clear hr0
          refine HC0.out.mono ?_
          rintro e v0 ⟨rfl, hb⟩
          have HW0 := Lib.hid (HB0.out.trans (hb.mono HB0.out.size))
          have HX1_1 := Lib.hid (HX1.out.below hb HX1.out.lt)
          have HX2_1 := Lib.hid (HX2.out.below hb HX2.out.lt)
          clear hb HC0
          have c1_0_4 : v0.cell? ⟨w.heap.size, 4, none⟩ = some (.slice a n cap) := HX1_1.out.cell 4 rfl
          have c2_0_4 : v0.cell? ⟨w.heap.size + 1, 4, none⟩ = some (.slice a' n' cap') := HX2_1.out.cell 4 rfl
          cases r0 with
          | false =>
            obtain rfl : res = false := by rw [HRES.out]; first | rfl | simp
            go_wp2_with fail
            go_ret
            exact ⟨rfl, HW0.out⟩
          | true =>
            have HC1 := Lib.hid (HG.out _ HW0.out)
            obtain ⟨r1, hr1⟩ : ∃ r, (decide (n = n') && allN (fun i => (ch i).same (ch' i)) n) = r := ⟨_, rfl⟩
            rw [hr1] at HC1 HRES
            clear hr1
            go_wp2_with fail
            clear c1_0_4 c2_0_4
            refine HC1.out.mono ?_
            rintro e v1 ⟨rfl, hb⟩
            have HW1 := Lib.hid (HW0.out.trans (hb.mono HW0.out.size))
            have HX1_2 := Lib.hid (HX1_1.out.below hb HX1_1.out.lt)
            have HX2_2 := Lib.hid (HX2_1.out.below hb HX2_1.out.lt)
            clear hb HC1
            cases r1 with
            | false =>
              obtain rfl : res = false := by rw [HRES.out]; first | rfl | simp
              go_wp2_with fail
              go_ret
              exact ⟨rfl, HW1.out⟩
            | true =>
              obtain rfl : res = true := by rw [HRES.out]; first | rfl | simp
              go_wp2_with fail
              go_ret
              exact ⟨rfl, HW1.out⟩
set_option maxHeartbeats 16000000 in
theorem samePart_ok (B : Nat) (w : World) (x y : PD × TT) (hx : PTIn B w x) (hy : PTIn B w y) (hB : B ≤ w.heap.size)
    (hrec : ∀ w', Below w.heap.size w w' → Calls Tryz.prog 30 #[.agg x.2.cells.toArray, .agg y.2.cells.toArray] w' fun e w'' => e = .returned (.bool (x.2.same y.2)) ∧ Below w'.heap.size w' w'') :
    Calls Tryz.prog 57 #[.agg (pcellsP x).toArray, .agg (pcellsP y).toArray] w fun e w' => e = .returned (.bool (sameP x y)) ∧ Below w.heap.size w w' := by
  obtain ⟨⟨qn, qo, ⟨qa, qk, qc, qf⟩⟩, t⟩ := x
  obtain ⟨⟨qn', qo', ⟨qa', qk', qc', qf'⟩⟩, t'⟩ := y
  obtain ⟨⟨_, hd⟩, ht⟩ := hx
  obtain ⟨⟨_, hd'⟩, ht'⟩ := hy
  have HG := Lib.hid (fun (W : World) (hb : Below w.heap.size w W) => eqV_ok W.heap.size W qa qk qc qf qa' qk' qc' qf' (Nat.le_refl _) ((hd.1.below hb hB).mono hb.size) ((hd'.1.below hb hB).mono hb.size) (fun i hi => ((hd.2 i hi).below hb hB).below (Below.refl _ _) hb.size) (fun i hi => ((hd'.2 i hi).below hb hB).below (Below.refl _ _) hb.size)
      (fun i hi d hd2 w' hb' => sameValue_ok (qf i) d W.heap.size w' ((((hd.2 i hi).below hb hB).below (Below.refl _ _) hb.size).below hb' (Nat.le_refl _)) (hd2.below hb' (Nat.le_refl _)) hb'.size))
  have HT : Hid (∀ w', Below w.heap.size w w' → Calls Tryz.prog 30 #[.agg t.cells.toArray, .agg t'.cells.toArray] w' fun e w'' => e = .returned (.bool (t.same t')) ∧ Below w'.heap.size w' w'') := Lib.hid hrec
  obtain ⟨kd, tn, op, lo, hi, lw, hg, ca, cn, cc, cch, ext, fr, sa, sn, sc, sf, ma, mn, mc, mf, pa, pn, pc, pf, ptf, aa, an, ac, af, atf, ea, en, ec, etf, e1⟩ := ht.open
  obtain ⟨kd', tn', op', lo', hi', lw', hg', ca', cn', cc', cch', ext', fr', sa', sn', sc', sf', ma', mn', mc', mf', pa', pn', pc', pf', ptf', aa', an', ac', af', atf', ea', en', ec', etf', e2⟩ := ht'.open
  obtain ⟨rT, hrT⟩ : ∃ r, t.same t' = r := ⟨_, rfl⟩
  rw [hrT] at HT
  have HRT := Lib.hid hrT
  clear hd hd' hB hrec ht ht' hrT
  subst e1
  subst e2
  have HSP := Lib.hid (show sameP (⟨qn, qo, ⟨qa, qk, qc, qf⟩⟩, TT.mk kd tn (.mk op lo hi lw hg ca cn cc cch) ext fr ⟨sa, sn, sc, sf⟩ ⟨ma, mn, mc, mf⟩ ⟨pa, pn, pc, pf⟩ ptf ⟨aa, an, ac, af⟩ atf ea en ec etf) (⟨qn', qo', ⟨qa', qk', qc', qf'⟩⟩, TT.mk kd' tn' (.mk op' lo' hi' lw' hg' ca' cn' cc' cch') ext' fr' ⟨sa', sn', sc', sf'⟩ ⟨ma', mn', mc', mf'⟩ ⟨pa', pn', pc', pf'⟩ ptf' ⟨aa', an', ac', af'⟩ atf' ea' en' ec' etf') = (sEq qn qn' && ((qo == qo') && ((decide (qk = qk') && allN (fun i => (qf i).same (qf' i)) qk) && rT))) by unfold sameP; rw [HRT.out]; rfl)
  obtain ⟨RR, hRR⟩ : ∃ R, sameP (⟨qn, qo, ⟨qa, qk, qc, qf⟩⟩, TT.mk kd tn (.mk op lo hi lw hg ca cn cc cch) ext fr ⟨sa, sn, sc, sf⟩ ⟨ma, mn, mc, mf⟩ ⟨pa, pn, pc, pf⟩ ptf ⟨aa, an, ac, af⟩ atf ea en ec etf) (⟨qn', qo', ⟨qa', qk', qc', qf'⟩⟩, TT.mk kd' tn' (.mk op' lo' hi' lw' hg' ca' cn' cc' cch') ext' fr' ⟨sa', sn', sc', sf'⟩ ⟨ma', mn', mc', mf'⟩ ⟨pa', pn', pc', pf'⟩ ptf' ⟨aa', an', ac', af'⟩ atf' ea' en' ec' etf') = R := ⟨_, rfl⟩
  rw [hRR] at HSP ⊢
  clear hRR HRT
  simp only [TT.cells, CT.cells, SL.v, PL.v, List.cons_append, List.nil_append] at HT
  simp only [pcellsP, pcells, TT.cells, CT.cells, SL.v, PL.v, DL.v, List.cons_append, List.nil_append]
  have HB0 := Lib.hid (((Below.refl w.heap.size w).alloc (Nat.le_refl _) (.cells #[.string qn, .int .i64 kd, .string tn, .int .i64 op, .int .i64 lo, .int .i64 hi, .bool lw, .bool hg, .slice ca cn cc, .bool ext, .string fr, .slice sa sn sc, .slice ma mn mc, .slice pa pn pc, .slice aa an ac, .slice ea en ec, .bool qo, .slice qa qk qc] 55)).alloc (by simp) (.cells #[.string qn', .int .i64 kd', .string tn', .int .i64 op', .int .i64 lo', .int .i64 hi', .bool lw', .bool hg', .slice ca' cn' cc', .bool ext', .string fr', .slice sa' sn' sc', .slice ma' mn' mc', .slice pa' pn' pc', .slice aa' an' ac', .slice ea' en' ec', .bool qo', .slice qa' qk' qc'] 55))
  have HX1 := Lib.hid ((Bx.new w #[.string qn, .int .i64 kd, .string tn, .int .i64 op, .int .i64 lo, .int .i64 hi, .bool lw, .bool hg, .slice ca cn cc, .bool ext, .string fr, .slice sa sn sc, .slice ma mn mc, .slice pa pn pc, .slice aa an ac, .slice ea en ec, .bool qo, .slice qa qk qc] 55).alloc (.cells #[.string qn', .int .i64 kd', .string tn', .int .i64 op', .int .i64 lo', .int .i64 hi', .bool lw', .bool hg', .slice ca' cn' cc', .bool ext', .string fr', .slice sa' sn' sc', .slice ma' mn' mc', .slice pa' pn' pc', .slice aa' an' ac', .slice ea' en' ec', .bool qo', .slice qa' qk' qc'] 55))
  have HX2 := Lib.hid (show Bx ((w.alloc (.cells #[.string qn, .int .i64 kd, .string tn, .int .i64 op, .int .i64 lo, .int .i64 hi, .bool lw, .bool hg, .slice ca cn cc, .bool ext, .string fr, .slice sa sn sc, .slice ma mn mc, .slice pa pn pc, .slice aa an ac, .slice ea en ec, .bool qo, .slice qa qk qc] 55)).alloc (.cells #[.string qn', .int .i64 kd', .string tn', .int .i64 op', .int .i64 lo', .int .i64 hi', .bool lw', .bool hg', .slice ca' cn' cc', .bool ext', .string fr', .slice sa' sn' sc', .slice ma' mn' mc', .slice pa' pn' pc', .slice aa' an' ac', .slice ea' en' ec', .bool qo', .slice qa' qk' qc'] 55)) (w.heap.size + 1) #[.string qn', .int .i64 kd', .string tn', .int .i64 op', .int .i64 lo', .int .i64 hi', .bool lw', .bool hg', .slice ca' cn' cc', .bool ext', .string fr', .slice sa' sn' sc', .slice ma' mn' mc', .slice pa' pn' pc', .slice aa' an' ac', .slice ea' en' ec', .bool qo', .slice qa' qk' qc'] 55 by have h := Bx.new (w.alloc (.cells #[.string qn, .int .i64 kd, .string tn, .int .i64 op, .int .i64 lo, .int .i64 hi, .bool lw, .bool hg, .slice ca cn cc, .bool ext, .string fr, .slice sa sn sc, .slice ma mn mc, .slice pa pn pc, .slice aa an ac, .slice ea en ec, .bool qo, .slice qa qk qc] 55)) #[.string qn', .int .i64 kd', .string tn', .int .i64 op', .int .i64 lo', .int .i64 hi', .bool lw', .bool hg', .slice ca' cn' cc', .bool ext', .string fr', .slice sa' sn' sc', .slice ma' mn' mc', .slice pa' pn' pc', .slice aa' an' ac', .slice ea' en' ec', .bool qo', .slice qa' qk' qc'] 55; rw [World.size_alloc] at h; exact h)
  obtain ⟨res, hres⟩ : ∃ res, RR = res := ⟨_, rfl⟩
  have HRES := Lib.hid (show res = (sEq qn qn' && ((qo == qo') && ((decide (qk = qk') && allN (fun i => (qf i).same (qf' i)) qk) && rT))) from hres.symm.trans HSP.out)
  rw [hres]
  clear hres
  obtain ⟨b0, h0⟩ : ∃ b, sEq qn qn' = b := ⟨_, rfl⟩
  rw [h0] at HRES
  have s0 : (qn.toList == qn'.toList) = b0 := h0
  cases b0 with
  | false =>
    obtain rfl : res = false := by rw [HRES.out]; first | rfl | simp
    go_enter Tryz.func57, Tryz.ntmps57
    go_wp2_with fail
    go_ret
    exact ⟨rfl, HB0.out⟩
  | true =>
    obtain ⟨b1, h1⟩ : ∃ b, (qo == qo') = b := ⟨_, rfl⟩
    rw [h1] at HRES
    cases b1 with
    | false =>
      obtain rfl : res = false := by rw [HRES.out]; first | rfl | simp
      go_enter Tryz.func57, Tryz.ntmps57
      go_wp2_with fail
      go_ret
      exact ⟨rfl, HB0.out⟩
    | true =>
      go_enter Tryz.func57, Tryz.ntmps57
      go_wp2_with fail
      have HC0 := Lib.hid (HG.out _ HB0.out)
      obtain ⟨r0, hr0⟩ : ∃ r, (decide (qk = qk') && allN (fun i => (qf i).same (qf' i)) qk) = r := ⟨_, rfl⟩
      rw [hr0] at HC0 HRES
      clear hr0
      refine HC0.out.mono ?_
      rintro e v0 ⟨rfl, hb⟩
      have HW0 := Lib.hid (HB0.out.trans (hb.mono HB0.out.size))
      have HX1_1 := Lib.hid (HX1.out.below hb HX1.out.lt)
      have HX2_1 := Lib.hid (HX2.out.below hb HX2.out.lt)
      clear hb HC0
      have c1_0_1 : v0.cell? ⟨w.heap.size, 1, none⟩ = some (.int .i64 kd) := HX1_1.out.cell 1 rfl
      have c1_0_2 : v0.cell? ⟨w.heap.size, 2, none⟩ = some (.string tn) := HX1_1.out.cell 2 rfl
      have c1_0_3 : v0.cell? ⟨w.heap.size, 3, none⟩ = some (.int .i64 op) := HX1_1.out.cell 3 rfl
      have c1_0_4 : v0.cell? ⟨w.heap.size, 4, none⟩ = some (.int .i64 lo) := HX1_1.out.cell 4 rfl
      have c1_0_5 : v0.cell? ⟨w.heap.size, 5, none⟩ = some (.int .i64 hi) := HX1_1.out.cell 5 rfl
      have c1_0_6 : v0.cell? ⟨w.heap.size, 6, none⟩ = some (.bool lw) := HX1_1.out.cell 6 rfl
      have c1_0_7 : v0.cell? ⟨w.heap.size, 7, none⟩ = some (.bool hg) := HX1_1.out.cell 7 rfl
      have c1_0_8 : v0.cell? ⟨w.heap.size, 8, none⟩ = some (.slice ca cn cc) := HX1_1.out.cell 8 rfl
      have c1_0_9 : v0.cell? ⟨w.heap.size, 9, none⟩ = some (.bool ext) := HX1_1.out.cell 9 rfl
      have c1_0_10 : v0.cell? ⟨w.heap.size, 10, none⟩ = some (.string fr) := HX1_1.out.cell 10 rfl
      have c1_0_11 : v0.cell? ⟨w.heap.size, 11, none⟩ = some (.slice sa sn sc) := HX1_1.out.cell 11 rfl
      have c1_0_12 : v0.cell? ⟨w.heap.size, 12, none⟩ = some (.slice ma mn mc) := HX1_1.out.cell 12 rfl
      have c1_0_13 : v0.cell? ⟨w.heap.size, 13, none⟩ = some (.slice pa pn pc) := HX1_1.out.cell 13 rfl
      have c1_0_14 : v0.cell? ⟨w.heap.size, 14, none⟩ = some (.slice aa an ac) := HX1_1.out.cell 14 rfl
      have c1_0_15 : v0.cell? ⟨w.heap.size, 15, none⟩ = some (.slice ea en ec) := HX1_1.out.cell 15 rfl
      have c2_0_1 : v0.cell? ⟨w.heap.size + 1, 1, none⟩ = some (.int .i64 kd') := HX2_1.out.cell 1 rfl
      have c2_0_2 : v0.cell? ⟨w.heap.size + 1, 2, none⟩ = some (.string tn') := HX2_1.out.cell 2 rfl
      have c2_0_3 : v0.cell? ⟨w.heap.size + 1, 3, none⟩ = some (.int .i64 op') := HX2_1.out.cell 3 rfl
      have c2_0_4 : v0.cell? ⟨w.heap.size + 1, 4, none⟩ = some (.int .i64 lo') := HX2_1.out.cell 4 rfl
      have c2_0_5 : v0.cell? ⟨w.heap.size + 1, 5, none⟩ = some (.int .i64 hi') := HX2_1.out.cell 5 rfl
      have c2_0_6 : v0.cell? ⟨w.heap.size + 1, 6, none⟩ = some (.bool lw') := HX2_1.out.cell 6 rfl
      have c2_0_7 : v0.cell? ⟨w.heap.size + 1, 7, none⟩ = some (.bool hg') := HX2_1.out.cell 7 rfl
      have c2_0_8 : v0.cell? ⟨w.heap.size + 1, 8, none⟩ = some (.slice ca' cn' cc') := HX2_1.out.cell 8 rfl
      have c2_0_9 : v0.cell? ⟨w.heap.size + 1, 9, none⟩ = some (.bool ext') := HX2_1.out.cell 9 rfl
      have c2_0_10 : v0.cell? ⟨w.heap.size + 1, 10, none⟩ = some (.string fr') := HX2_1.out.cell 10 rfl
      have c2_0_11 : v0.cell? ⟨w.heap.size + 1, 11, none⟩ = some (.slice sa' sn' sc') := HX2_1.out.cell 11 rfl
      have c2_0_12 : v0.cell? ⟨w.heap.size + 1, 12, none⟩ = some (.slice ma' mn' mc') := HX2_1.out.cell 12 rfl
      have c2_0_13 : v0.cell? ⟨w.heap.size + 1, 13, none⟩ = some (.slice pa' pn' pc') := HX2_1.out.cell 13 rfl
      have c2_0_14 : v0.cell? ⟨w.heap.size + 1, 14, none⟩ = some (.slice aa' an' ac') := HX2_1.out.cell 14 rfl
      have c2_0_15 : v0.cell? ⟨w.heap.size + 1, 15, none⟩ = some (.slice ea' en' ec') := HX2_1.out.cell 15 rfl
      cases r0 with
      | false =>
        obtain rfl : res = false := by rw [HRES.out]; first | rfl | simp
        go_wp2_with fail
        go_ret
        exact ⟨rfl, HW0.out⟩
      | true =>
        have HC1 := Lib.hid (HT.out _ HW0.out)
        obtain ⟨r1, hr1⟩ : ∃ r, rT = r := ⟨_, rfl⟩
        rw [hr1] at HC1 HRES
        clear hr1
        go_wp2_with fail
        clear c1_0_1 c1_0_2 c1_0_3 c1_0_4 c1_0_5 c1_0_6 c1_0_7 c1_0_8 c1_0_9 c1_0_10 c1_0_11 c1_0_12 c1_0_13 c1_0_14 c1_0_15 c2_0_1 c2_0_2 c2_0_3 c2_0_4 c2_0_5 c2_0_6 c2_0_7 c2_0_8 c2_0_9 c2_0_10 c2_0_11 c2_0_12 c2_0_13 c2_0_14 c2_0_15
        refine HC1.out.mono ?_
        rintro e v1 ⟨rfl, hb⟩
        have HW1 := Lib.hid (HW0.out.trans (hb.mono HW0.out.size))
        have HX1_2 := Lib.hid (HX1_1.out.below hb HX1_1.out.lt)
        have HX2_2 := Lib.hid (HX2_1.out.below hb HX2_1.out.lt)
        clear hb HC1
        cases r1 with
        | false =>
          obtain rfl : res = false := by rw [HRES.out]; first | rfl | simp
          go_wp2_with fail
          go_ret
          exact ⟨rfl, HW1.out⟩
        | true =>
          obtain rfl : res = true := by rw [HRES.out]; first | rfl | simp
          go_wp2_with fail
          go_ret
          exact ⟨rfl, HW1.out⟩
set_option maxHeartbeats 16000000 in
theorem Same_ok : ∀ (t u : TT) (B : Nat) (w : World), TIn B w t → TIn B w u → B ≤ w.heap.size →
    Calls Tryz.prog 30 #[.agg t.cells.toArray, .agg u.cells.toArray] w fun e w' => e = .returned (.bool (t.same u)) ∧ Below w.heap.size w w'
  | .nil, _, _, _, h, _, _ => h.elim
  | .mk _ _ .nil _ _ _ _ _ _ _ _ _ _ _ _, _, _, _, h, _, _ => h.1.2.2.1.elim
  | .mk kd tn (.mk op lo hi lw hg ca cn cc cch) ext fr ⟨sa, sn, sc, sf⟩ ⟨ma, mn, mc, mf⟩ ⟨pa, pn, pc, pf⟩ ptf ⟨aa, an, ac, af⟩ atf ea en ec etf, u, B, w, ht, hu, hB => by
    have RP := fun i (hi : i < pn) (d : TT) (W w' : World) (hb : Below w.heap.size w W) (hb' : Below W.heap.size W w') (hd : TIn W.heap.size W d) => Same_ok (ptf i) d W.heap.size w' (((((ht.2.1.2 i hi).2.below hb hB).below (Below.refl _ _) hb.size).below hb' (Nat.le_refl _))) (hd.below hb' (Nat.le_refl _)) hb'.size
    have RA := fun i (hi : i < an) (d : TT) (W w' : World) (hb : Below w.heap.size w W) (hb' : Below W.heap.size W w') (hd : TIn W.heap.size W d) => Same_ok (atf i) d W.heap.size w' (((((ht.2.2.1.2 i hi).2.below hb hB).below (Below.refl _ _) hb.size).below hb' (Nat.le_refl _))) (hd.below hb' (Nat.le_refl _)) hb'.size
    have RE := fun i (hi : i < en) (d : TT) (W w' : World) (hb : Below w.heap.size w W) (hb' : Below W.heap.size W w') (hd : TIn W.heap.size W d) => Same_ok (etf i) d W.heap.size w' (((((ht.2.2.2.2 i hi).below hb hB).below (Below.refl _ _) hb.size).below hb' (Nat.le_refl _))) (hd.below hb' (Nat.le_refl _)) hb'.size
    obtain ⟨kd', tn', op', lo', hi', lw', hg', ca', cn', cc', cch', ext', fr', sa', sn', sc', sf', ma', mn', mc', mf', pa', pn', pc', pf', ptf', aa', an', ac', af', atf', ea', en', ec', etf', rfl⟩ := hu.open
    obtain ⟨⟨_, _, hcon, _, hnm, hmo⟩, ⟨hpr, hp⟩, ⟨har, ha⟩, ⟨her, he⟩⟩ := ht
    obtain ⟨⟨_, _, hcon', _, hnm', hmo'⟩, ⟨hpr', hp'⟩, ⟨har', ha'⟩, ⟨her', he'⟩⟩ := hu
    have up := fun {X : TT} (W : World) (hb : Below w.heap.size w W) (h : TIn B w X) => (h.below hb hB).below (Below.refl _ _) hb.size
    have upd := fun {X : PD} (W : World) (hb : Below w.heap.size w W) (h : PDIn B w X) => (h.below hb hB).below (Below.refl _ _) hb.size
    have HC := Lib.hid (fun (W : World) (hb : Below w.heap.size w W) => sameCon_ok (.mk op lo hi lw hg ca cn cc cch) (.mk op' lo' hi' lw' hg' ca' cn' cc' cch') w.heap.size W (hcon.below hb hB) (hcon'.below hb hB) hb.size)
    have HN := Lib.hid (fun (W : World) (hb : Below w.heap.size w W) => eqS_ok w.heap.size W ⟨sa, sn, sc, sf⟩ ⟨sa', sn', sc', sf'⟩ (hnm.below hb hB) (hnm'.below hb hB))
    have HM := Lib.hid (fun (W : World) (hb : Below w.heap.size w W) => eqS_ok w.heap.size W ⟨ma, mn, mc, mf⟩ ⟨ma', mn', mc', mf'⟩ (hmo.below hb hB) (hmo'.below hb hB))
    have HP := Lib.hid (fun (W : World) (hb : Below w.heap.size w W) => eqP_ok W.heap.size W pa pn pc (fun i => (pf i, ptf i)) pa' pn' pc' (fun i => (pf' i, ptf' i)) (Nat.le_refl _) ((hpr.below hb hB).mono hb.size) ((hpr'.below hb hB).mono hb.size) (fun i hi => ⟨upd W hb (hp i hi).1, up W hb (hp i hi).2⟩) (fun i hi => ⟨upd W hb (hp' i hi).1, up W hb (hp' i hi).2⟩)
      (fun i hi d hd w' hb' => samePart_ok W.heap.size w' (pf i, ptf i) d ⟨(upd W hb (hp i hi).1).below hb' (Nat.le_refl _), (up W hb (hp i hi).2).below hb' (Nat.le_refl _)⟩ ⟨hd.1.below hb' (Nat.le_refl _), hd.2.below hb' (Nat.le_refl _)⟩ hb'.size (fun w'' hb'' => RP i hi d.2 W w'' hb (hb'.trans (hb''.mono hb'.size)) hd.2)))
    have HA := Lib.hid (fun (W : World) (hb : Below w.heap.size w W) => eqP_ok W.heap.size W aa an ac (fun i => (af i, atf i)) aa' an' ac' (fun i => (af' i, atf' i)) (Nat.le_refl _) ((har.below hb hB).mono hb.size) ((har'.below hb hB).mono hb.size) (fun i hi => ⟨upd W hb (ha i hi).1, up W hb (ha i hi).2⟩) (fun i hi => ⟨upd W hb (ha' i hi).1, up W hb (ha' i hi).2⟩)
      (fun i hi d hd w' hb' => samePart_ok W.heap.size w' (af i, atf i) d ⟨(upd W hb (ha i hi).1).below hb' (Nat.le_refl _), (up W hb (ha i hi).2).below hb' (Nat.le_refl _)⟩ ⟨hd.1.below hb' (Nat.le_refl _), hd.2.below hb' (Nat.le_refl _)⟩ hb'.size (fun w'' hb'' => RA i hi d.2 W w'' hb (hb'.trans (hb''.mono hb'.size)) hd.2)))
    have HE := Lib.hid (fun (W : World) (hb : Below w.heap.size w W) => eqT_ok W.heap.size W ea en ec etf ea' en' ec' etf' (Nat.le_refl _) ((her.below hb hB).mono hb.size) ((her'.below hb hB).mono hb.size) (fun i hi => up W hb (he i hi)) (fun i hi => up W hb (he' i hi))
      (fun i hi d hd w' hb' => RE i hi d W w' hb hb' hd))
    clear RP RA RE hcon hnm hmo hpr hp har ha her he hcon' hnm' hmo' hpr' hp' har' ha' her' he' hB up upd
    simp only [CT.cells] at HC
    simp only [SL.v] at HN HM
    simp only [TT.cells, CT.cells, SL.v, PL.v, List.cons_append, List.nil_append]
    have HB0 := Lib.hid (((Below.refl w.heap.size w).alloc (Nat.le_refl _) (.cells #[.int .i64 kd, .string tn, .int .i64 op, .int .i64 lo, .int .i64 hi, .bool lw, .bool hg, .slice ca cn cc, .bool ext, .string fr, .slice sa sn sc, .slice ma mn mc, .slice pa pn pc, .slice aa an ac, .slice ea en ec] 33)).alloc (by simp) (.cells #[.int .i64 kd', .string tn', .int .i64 op', .int .i64 lo', .int .i64 hi', .bool lw', .bool hg', .slice ca' cn' cc', .bool ext', .string fr', .slice sa' sn' sc', .slice ma' mn' mc', .slice pa' pn' pc', .slice aa' an' ac', .slice ea' en' ec'] 33))
    have HX1 := Lib.hid ((Bx.new w #[.int .i64 kd, .string tn, .int .i64 op, .int .i64 lo, .int .i64 hi, .bool lw, .bool hg, .slice ca cn cc, .bool ext, .string fr, .slice sa sn sc, .slice ma mn mc, .slice pa pn pc, .slice aa an ac, .slice ea en ec] 33).alloc (.cells #[.int .i64 kd', .string tn', .int .i64 op', .int .i64 lo', .int .i64 hi', .bool lw', .bool hg', .slice ca' cn' cc', .bool ext', .string fr', .slice sa' sn' sc', .slice ma' mn' mc', .slice pa' pn' pc', .slice aa' an' ac', .slice ea' en' ec'] 33))
    have HX2 := Lib.hid (show Bx ((w.alloc (.cells #[.int .i64 kd, .string tn, .int .i64 op, .int .i64 lo, .int .i64 hi, .bool lw, .bool hg, .slice ca cn cc, .bool ext, .string fr, .slice sa sn sc, .slice ma mn mc, .slice pa pn pc, .slice aa an ac, .slice ea en ec] 33)).alloc (.cells #[.int .i64 kd', .string tn', .int .i64 op', .int .i64 lo', .int .i64 hi', .bool lw', .bool hg', .slice ca' cn' cc', .bool ext', .string fr', .slice sa' sn' sc', .slice ma' mn' mc', .slice pa' pn' pc', .slice aa' an' ac', .slice ea' en' ec'] 33)) (w.heap.size + 1) #[.int .i64 kd', .string tn', .int .i64 op', .int .i64 lo', .int .i64 hi', .bool lw', .bool hg', .slice ca' cn' cc', .bool ext', .string fr', .slice sa' sn' sc', .slice ma' mn' mc', .slice pa' pn' pc', .slice aa' an' ac', .slice ea' en' ec'] 33 by have h := Bx.new (w.alloc (.cells #[.int .i64 kd, .string tn, .int .i64 op, .int .i64 lo, .int .i64 hi, .bool lw, .bool hg, .slice ca cn cc, .bool ext, .string fr, .slice sa sn sc, .slice ma mn mc, .slice pa pn pc, .slice aa an ac, .slice ea en ec] 33)) #[.int .i64 kd', .string tn', .int .i64 op', .int .i64 lo', .int .i64 hi', .bool lw', .bool hg', .slice ca' cn' cc', .bool ext', .string fr', .slice sa' sn' sc', .slice ma' mn' mc', .slice pa' pn' pc', .slice aa' an' ac', .slice ea' en' ec'] 33; rw [World.size_alloc] at h; exact h)
    obtain ⟨res, hres⟩ : ∃ res, (TT.mk kd tn (.mk op lo hi lw hg ca cn cc cch) ext fr ⟨sa, sn, sc, sf⟩ ⟨ma, mn, mc, mf⟩ ⟨pa, pn, pc, pf⟩ ptf ⟨aa, an, ac, af⟩ atf ea en ec etf).same (TT.mk kd' tn' (.mk op' lo' hi' lw' hg' ca' cn' cc' cch') ext' fr' ⟨sa', sn', sc', sf'⟩ ⟨ma', mn', mc', mf'⟩ ⟨pa', pn', pc', pf'⟩ ptf' ⟨aa', an', ac', af'⟩ atf' ea' en' ec' etf') = res := ⟨_, rfl⟩
    have HRES := Lib.hid (show res = ((kd == kd') && (sEq tn tn' && ((ext == ext') && (sEq fr fr' && ((CT.mk op lo hi lw hg ca cn cc cch).same (.mk op' lo' hi' lw' hg' ca' cn' cc' cch') && ((SL.mk sa sn sc sf).same ⟨sa', sn', sc', sf'⟩ && ((SL.mk ma mn mc mf).same ⟨ma', mn', mc', mf'⟩ && ((decide (pn = pn') && allN (fun i => sameP (pf i, ptf i) (pf' i, ptf' i)) pn) && ((decide (an = an') && allN (fun i => sameP (af i, atf i) (af' i, atf' i)) an) && (decide (en = en') && allN (fun i => (etf i).same (etf' i)) en)))))))))) from hres.symm)
    rw [hres]
    clear hres
    obtain ⟨b0, h0⟩ : ∃ b, (kd == kd') = b := ⟨_, rfl⟩
    rw [h0] at HRES
    cases b0 with
    | false =>
      obtain rfl : res = false := by rw [HRES.out]; first | rfl | simp
      go_enter Tryz.func30, Tryz.ntmps30
      go_wp2_with fail
      go_ret
      exact ⟨rfl, HB0.out⟩
    | true =>
      obtain ⟨b1, h1⟩ : ∃ b, sEq tn tn' = b := ⟨_, rfl⟩
      rw [h1] at HRES
      have s1 : (tn.toList == tn'.toList) = b1 := h1
      cases b1 with
      | false =>
        obtain rfl : res = false := by rw [HRES.out]; first | rfl | simp
        go_enter Tryz.func30, Tryz.ntmps30
        go_wp2_with fail
        go_ret
        exact ⟨rfl, HB0.out⟩
      | true =>
        obtain ⟨b2, h2⟩ : ∃ b, (ext == ext') = b := ⟨_, rfl⟩
        rw [h2] at HRES
        cases b2 with
        | false =>
          obtain rfl : res = false := by rw [HRES.out]; first | rfl | simp
          go_enter Tryz.func30, Tryz.ntmps30
          go_wp2_with fail
          go_ret
          exact ⟨rfl, HB0.out⟩
        | true =>
          obtain ⟨b3, h3⟩ : ∃ b, sEq fr fr' = b := ⟨_, rfl⟩
          rw [h3] at HRES
          have s3 : (fr.toList == fr'.toList) = b3 := h3
          cases b3 with
          | false =>
            obtain rfl : res = false := by rw [HRES.out]; first | rfl | simp
            go_enter Tryz.func30, Tryz.ntmps30
            go_wp2_with fail
            go_ret
            exact ⟨rfl, HB0.out⟩
          | true =>
            go_enter Tryz.func30, Tryz.ntmps30
            go_wp2_with fail
            have HC0 := Lib.hid (HC.out _ HB0.out)
            obtain ⟨r0, hr0⟩ : ∃ r, (CT.mk op lo hi lw hg ca cn cc cch).same (.mk op' lo' hi' lw' hg' ca' cn' cc' cch') = r := ⟨_, rfl⟩
            rw [hr0] at HC0 HRES
            clear hr0
            refine HC0.out.mono ?_
            rintro e v0 ⟨rfl, hb⟩
            have HW0 := Lib.hid (HB0.out.trans (hb.mono HB0.out.size))
            have HX1_1 := Lib.hid (HX1.out.below hb HX1.out.lt)
            have HX2_1 := Lib.hid (HX2.out.below hb HX2.out.lt)
            clear hb HC0
            have c1_0_10 : v0.cell? ⟨w.heap.size, 10, none⟩ = some (.slice sa sn sc) := HX1_1.out.cell 10 rfl
            have c2_0_10 : v0.cell? ⟨w.heap.size + 1, 10, none⟩ = some (.slice sa' sn' sc') := HX2_1.out.cell 10 rfl
            cases r0 with
            | false =>
              obtain rfl : res = false := by rw [HRES.out]; first | rfl | simp
              go_wp2_with fail
              go_ret
              exact ⟨rfl, HW0.out⟩
            | true =>
              have HC1 := Lib.hid (HN.out _ HW0.out)
              obtain ⟨r1, hr1⟩ : ∃ r, (SL.mk sa sn sc sf).same ⟨sa', sn', sc', sf'⟩ = r := ⟨_, rfl⟩
              rw [hr1] at HC1 HRES
              clear hr1
              go_wp2_with fail
              clear c1_0_10 c2_0_10
              refine HC1.out.mono ?_
              rintro e v1 ⟨rfl, hb⟩
              have HW1 := Lib.hid (HW0.out.trans (hb.mono HW0.out.size))
              have HX1_2 := Lib.hid (HX1_1.out.below hb HX1_1.out.lt)
              have HX2_2 := Lib.hid (HX2_1.out.below hb HX2_1.out.lt)
              clear hb HC1
              have c1_1_11 : v1.cell? ⟨w.heap.size, 11, none⟩ = some (.slice ma mn mc) := HX1_2.out.cell 11 rfl
              have c2_1_11 : v1.cell? ⟨w.heap.size + 1, 11, none⟩ = some (.slice ma' mn' mc') := HX2_2.out.cell 11 rfl
              cases r1 with
              | false =>
                obtain rfl : res = false := by rw [HRES.out]; first | rfl | simp
                go_wp2_with fail
                go_ret
                exact ⟨rfl, HW1.out⟩
              | true =>
                have HC2 := Lib.hid (HM.out _ HW1.out)
                obtain ⟨r2, hr2⟩ : ∃ r, (SL.mk ma mn mc mf).same ⟨ma', mn', mc', mf'⟩ = r := ⟨_, rfl⟩
                rw [hr2] at HC2 HRES
                clear hr2
                go_wp2_with fail
                clear c1_1_11 c2_1_11
                refine HC2.out.mono ?_
                rintro e v2 ⟨rfl, hb⟩
                have HW2 := Lib.hid (HW1.out.trans (hb.mono HW1.out.size))
                have HX1_3 := Lib.hid (HX1_2.out.below hb HX1_2.out.lt)
                have HX2_3 := Lib.hid (HX2_2.out.below hb HX2_2.out.lt)
                clear hb HC2
                have c1_2_12 : v2.cell? ⟨w.heap.size, 12, none⟩ = some (.slice pa pn pc) := HX1_3.out.cell 12 rfl
                have c2_2_12 : v2.cell? ⟨w.heap.size + 1, 12, none⟩ = some (.slice pa' pn' pc') := HX2_3.out.cell 12 rfl
                cases r2 with
                | false =>
                  obtain rfl : res = false := by rw [HRES.out]; first | rfl | simp
                  go_wp2_with fail
                  go_ret
                  exact ⟨rfl, HW2.out⟩
                | true =>
                  have HC3 := Lib.hid (HP.out _ HW2.out)
                  obtain ⟨r3, hr3⟩ : ∃ r, (decide (pn = pn') && allN (fun i => sameP (pf i, ptf i) (pf' i, ptf' i)) pn) = r := ⟨_, rfl⟩
                  rw [hr3] at HC3 HRES
                  clear hr3
                  go_wp2_with fail
                  clear c1_2_12 c2_2_12
                  refine HC3.out.mono ?_
                  rintro e v3 ⟨rfl, hb⟩
                  have HW3 := Lib.hid (HW2.out.trans (hb.mono HW2.out.size))
                  have HX1_4 := Lib.hid (HX1_3.out.below hb HX1_3.out.lt)
                  have HX2_4 := Lib.hid (HX2_3.out.below hb HX2_3.out.lt)
                  clear hb HC3
                  have c1_3_13 : v3.cell? ⟨w.heap.size, 13, none⟩ = some (.slice aa an ac) := HX1_4.out.cell 13 rfl
                  have c2_3_13 : v3.cell? ⟨w.heap.size + 1, 13, none⟩ = some (.slice aa' an' ac') := HX2_4.out.cell 13 rfl
                  cases r3 with
                  | false =>
                    obtain rfl : res = false := by rw [HRES.out]; first | rfl | simp
                    go_wp2_with fail
                    go_ret
                    exact ⟨rfl, HW3.out⟩
                  | true =>
                    have HC4 := Lib.hid (HA.out _ HW3.out)
                    obtain ⟨r4, hr4⟩ : ∃ r, (decide (an = an') && allN (fun i => sameP (af i, atf i) (af' i, atf' i)) an) = r := ⟨_, rfl⟩
                    rw [hr4] at HC4 HRES
                    clear hr4
                    go_wp2_with fail
                    clear c1_3_13 c2_3_13
                    refine HC4.out.mono ?_
                    rintro e v4 ⟨rfl, hb⟩
                    have HW4 := Lib.hid (HW3.out.trans (hb.mono HW3.out.size))
                    have HX1_5 := Lib.hid (HX1_4.out.below hb HX1_4.out.lt)
                    have HX2_5 := Lib.hid (HX2_4.out.below hb HX2_4.out.lt)
                    clear hb HC4
                    have c1_4_14 : v4.cell? ⟨w.heap.size, 14, none⟩ = some (.slice ea en ec) := HX1_5.out.cell 14 rfl
                    have c2_4_14 : v4.cell? ⟨w.heap.size + 1, 14, none⟩ = some (.slice ea' en' ec') := HX2_5.out.cell 14 rfl
                    cases r4 with
                    | false =>
                      obtain rfl : res = false := by rw [HRES.out]; first | rfl | simp
                      go_wp2_with fail
                      go_ret
                      exact ⟨rfl, HW4.out⟩
                    | true =>
                      have HC5 := Lib.hid (HE.out _ HW4.out)
                      obtain ⟨r5, hr5⟩ : ∃ r, (decide (en = en') && allN (fun i => (etf i).same (etf' i)) en) = r := ⟨_, rfl⟩
                      rw [hr5] at HC5 HRES
                      clear hr5
                      go_wp2_with fail
                      clear c1_4_14 c2_4_14
                      refine HC5.out.mono ?_
                      rintro e v5 ⟨rfl, hb⟩
                      have HW5 := Lib.hid (HW4.out.trans (hb.mono HW4.out.size))
                      have HX1_6 := Lib.hid (HX1_5.out.below hb HX1_5.out.lt)
                      have HX2_6 := Lib.hid (HX2_5.out.below hb HX2_5.out.lt)
                      clear hb HC5
                      cases r5 with
                      | false =>
                        obtain rfl : res = false := by rw [HRES.out]; first | rfl | simp
                        go_wp2_with fail
                        go_ret
                        exact ⟨rfl, HW5.out⟩
                      | true =>
                        obtain rfl : res = true := by rw [HRES.out]; first | rfl | simp
                        go_wp2_with fail
                        go_ret
                        exact ⟨rfl, HW5.out⟩
end Go.Proofs.YtgibjhljcdhppaaGreatDoor
