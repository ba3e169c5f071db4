/-
  A bundle of texts, one behind the other: ShV1.
-/
import Derived.Test.YtgmnojnalkhepaaGreatDoorShelf
import Derived.Test.YtgmnojnalkhepaaGreatDoorJN
import Derived.Test.YtgmnojnalkhepaaGreatDoorJB
import Derived.Test.YtgmnojnalkhepaaGreatDoorJF
/-
  Whether two constraints, values, types are the same (no walk); slices.Equal over strings.
-/
namespace Go.Proofs.YtgmnojnalkhepaaGreatDoor
open Go.RowKit
set_option linter.unusedVariables false
set_option linter.unusedSimpArgs false
set_option maxRecDepth 100000

def sEq (a b : ByteArray) : Bool := a.toList == b.toList
theorem sEq_refl (a : ByteArray) : sEq a a = true := by simp [sEq]
theorem sEq_comm (a b : ByteArray) : sEq a b = sEq b a := Bool.beq_comm
theorem sEq_eq (a b : ByteArray) : sEq a b = decide (a = b) := by
  unfold sEq
  by_cases h : a = b
  · subst h; simp
  · rw [decide_eq_false h]
    refine beq_eq_false_iff_ne.2 fun h2 => h ?_
    rw [ByteArray.toList_eq, ByteArray.toList_eq] at h2
    exact ByteArray.ext (Array.toList_inj.1 h2)
theorem allN_congr {f g : Nat → Bool} {n : Nat} (h : ∀ i, i < n → f i = g i) : allN f n = allN g n := by
  induction n with
  | zero => rfl
  | succ n ih => simp only [allN, ih (fun i hi => h i (by omega)), h n (by omega)]
theorem allN_true {f : Nat → Bool} {n : Nat} (h : ∀ i, i < n → f i = true) : allN f n = true := allN_iff.2 h
def SL.same (s t : SL) : Bool := decide (s.n = t.n) && allN (fun i => sEq (s.f i) (t.f i)) s.n
theorem SL.same_refl (s : SL) : s.same s = true := by simp only [SL.same, decide_true, Bool.true_and]; exact allN_true fun i _ => sEq_refl _
theorem same_comm {n m : Nat} {p q : Nat → Bool} (h : ∀ i, i < n → i < m → p i = q i) : (decide (n = m) && allN p n) = (decide (m = n) && allN q m) := by
  by_cases e : n = m
  · subst e
    rw [allN_congr (fun i hi => h i hi hi)]
  · rw [decide_eq_false e, decide_eq_false (Ne.symm e)]
    rfl
theorem SL.same_comm (s t : SL) : s.same t = t.same s := Go.Proofs.YtgmnojnalkhepaaGreatDoor.same_comm fun i _ _ => sEq_comm _ _
def CT.same : CT → CT → Bool
  | .nil, _ => false
  | .mk .., .nil => false
  | .mk op lo hi low high _ n _ ch, .mk op' lo' hi' low' high' _ n' _ ch' => (op == op') && ((lo == lo') && ((hi == hi') && ((low == low') && ((high == high') && (decide (n = n') && allN (fun i => (ch i).same (ch' i)) n)))))
theorem CT.same_refl {B : Nat} {W : World} : ∀ c : CT, CIn B W c → c.same c = true
  | .nil, h => h.elim
  | .mk op lo hi low high a n cap ch, h => by
    simp only [CT.same, beq_self_eq_true, decide_true, Bool.true_and]
    exact allN_true fun i hi => CT.same_refl (ch i) (h.2.2 i hi)
theorem CT.same_comm : ∀ c d : CT, c.same d = d.same c
  | .nil, .nil => rfl
  | .nil, .mk .. => rfl
  | .mk .., .nil => rfl
  | .mk op lo hi low high a n cap ch, .mk op' lo' hi' low' high' a' n' cap' ch' => by
    simp only [CT.same]
    rw [Bool.beq_comm (a := op), Bool.beq_comm (a := lo), Bool.beq_comm (a := hi), Bool.beq_comm (a := low), Bool.beq_comm (a := high), Go.Proofs.YtgmnojnalkhepaaGreatDoor.same_comm (fun i _ _ => CT.same_comm (ch i) (ch' i))]
def VT.same : VT → VT → Bool
  | .nil, _ => false
  | .mk .., .nil => false
  | .mk k m s nm _ n _ ch, .mk k' m' s' nm' _ n' _ ch' => (k == k') && ((m == m') && (sEq s s' && (nm.same nm' && (decide (n = n') && allN (fun i => (ch i).same (ch' i)) n))))
theorem VT.same_refl {B : Nat} {W : World} : ∀ c : VT, VIn B W c → c.same c = true
  | .nil, h => h.elim
  | .mk k m s nm a n cap ch, h => by
    simp only [VT.same, beq_self_eq_true, sEq_refl, SL.same_refl, decide_true, Bool.true_and]
    exact allN_true fun i hi => VT.same_refl (ch i) (h.2.2 i hi)
theorem VT.same_comm : ∀ c d : VT, c.same d = d.same c
  | .nil, .nil => rfl
  | .nil, .mk .. => rfl
  | .mk .., .nil => rfl
  | .mk k m s nm a n cap ch, .mk k' m' s' nm' a' n' cap' ch' => by
    simp only [VT.same]
    rw [Bool.beq_comm (a := k), Bool.beq_comm (a := m), sEq_comm s, SL.same_comm nm, Go.Proofs.YtgmnojnalkhepaaGreatDoor.same_comm (fun i _ _ => VT.same_comm (ch i) (ch' i))]
def DL.same (d e : DL) : Bool := decide (d.n = e.n) && allN (fun i => (d.f i).same (e.f i)) d.n
def PD.same (p q : PD) (t : Bool) : Bool := sEq p.name q.name && ((p.opt == q.opt) && (p.d.same q.d && t))
def TT.same : TT → TT → Bool
  | .nil, _ => false
  | .mk .., .nil => false
  | .mk kd tn con ext fr nm mo pa pt ad at_ _ en _ et, .mk kd' tn' con' ext' fr' nm' mo' pa' pt' ad' at' _ en' _ et' =>
    (kd == kd') && (sEq tn tn' && ((ext == ext') && (sEq fr fr' && (con.same con' && (nm.same nm' && (mo.same mo' &&
      ((decide (pa.n = pa'.n) && allN (fun i => (pa.f i).same (pa'.f i) ((pt i).same (pt' i))) pa.n) && ((decide (ad.n = ad'.n) && allN (fun i => (ad.f i).same (ad'.f i) ((at_ i).same (at' i))) ad.n) && (decide (en = en') && allN (fun i => (et i).same (et' i)) en)))))))))
theorem DL.same_refl {B : Nat} {W : World} {d : DL} (h : DLIn B W d) : d.same d = true := by
  simp only [DL.same, decide_true, Bool.true_and]
  exact allN_true fun i hi => VT.same_refl _ (h.2 i hi)
theorem DL.same_comm (d e : DL) : d.same e = e.same d := Go.Proofs.YtgmnojnalkhepaaGreatDoor.same_comm fun i _ _ => VT.same_comm _ _
theorem PD.same_comm (p q : PD) (t : Bool) : p.same q t = q.same p t := by
  unfold PD.same
  rw [sEq_comm p.name, Bool.beq_comm (a := p.opt), DL.same_comm p.d]
theorem PD.same_refl {B : Nat} {W : World} {p : PD} (h : PDIn B W p) : p.same p true = true := by
  simp only [PD.same, sEq_refl, beq_self_eq_true, DL.same_refl h.2, Bool.and_self]
theorem TT.same_refl {B : Nat} {W : World} : ∀ t : TT, TIn B W t → t.same t = true
  | .nil, h => h.elim
  | .mk kd tn con ext fr nm mo pa pt ad at_ ea en ec et, ⟨⟨_, _, hc, _, _, _⟩, ⟨_, hp⟩, ⟨_, ha⟩, ⟨_, he⟩⟩ => by
    simp only [TT.same, beq_self_eq_true, sEq_refl, SL.same_refl, CT.same_refl con hc, decide_true, Bool.true_and]
    rw [allN_true (fun i hi => by rw [TT.same_refl (pt i) (hp i hi).2]; exact PD.same_refl (hp i hi).1), allN_true (fun i hi => by rw [TT.same_refl (at_ i) (ha i hi).2]; exact PD.same_refl (ha i hi).1), allN_true (fun i hi => TT.same_refl (et i) (he i hi))]
    rfl
theorem TT.same_comm : ∀ t u : TT, t.same u = u.same t
  | .nil, .nil => rfl
  | .nil, .mk .. => rfl
  | .mk .., .nil => rfl
  | .mk kd tn con ext fr nm mo pa pt ad at_ ea en ec et, .mk kd' tn' con' ext' fr' nm' mo' pa' pt' ad' at' ea' en' ec' et' => by
    simp only [TT.same]
    rw [Bool.beq_comm (a := kd), sEq_comm tn, Bool.beq_comm (a := ext), sEq_comm fr, CT.same_comm con, SL.same_comm nm, SL.same_comm mo,
      Go.Proofs.YtgmnojnalkhepaaGreatDoor.same_comm (p := fun i => (pa.f i).same (pa'.f i) ((pt i).same (pt' i))) (q := fun i => (pa'.f i).same (pa.f i) ((pt' i).same (pt i))) (fun i _ _ => by rw [TT.same_comm (pt i), PD.same_comm]),
      Go.Proofs.YtgmnojnalkhepaaGreatDoor.same_comm (p := fun i => (ad.f i).same (ad'.f i) ((at_ i).same (at' i))) (q := fun i => (ad'.f i).same (ad.f i) ((at' i).same (at_ i))) (fun i _ _ => by rw [TT.same_comm (at_ i), PD.same_comm]),
      Go.Proofs.YtgmnojnalkhepaaGreatDoor.same_comm (p := fun i => (et i).same (et' i)) (q := fun i => (et' i).same (et i)) (fun i _ _ => TT.same_comm (et i) (et' i))]
theorem take_eq (n : Nat) (f g : Nat → ByteArray) : decide ((List.range n).map f = (List.range n).map g) = allN (fun i => sEq (f i) (g i)) n := by
  induction n with
  | zero => rfl
  | succ n ih =>
    rw [List.range_succ, List.map_append, List.map_append]
    show decide (_ ++ [f n] = _ ++ [g n]) = (allN (fun i => sEq (f i) (g i)) n && sEq (f n) (g n))
    rw [sEq_eq (f n) (g n)]
    by_cases h : (List.range n).map f = (List.range n).map g
    · rw [decide_eq_true h] at ih
      rw [← ih, Bool.true_and]
      refine decide_eq_decide.2 ⟨fun e => ?_, fun e => by rw [h, e]⟩
      have e2 := (List.append_inj' e rfl).2
      injection e2
    · rw [decide_eq_false h] at ih
      rw [← ih, Bool.false_and]
      exact decide_eq_false fun e => h (List.append_inj' e rfl).1
end Go.Proofs.YtgmnojnalkhepaaGreatDoor
