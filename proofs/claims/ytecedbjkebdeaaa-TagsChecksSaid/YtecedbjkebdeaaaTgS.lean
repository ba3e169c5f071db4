/-
  Sets of tags in memory.
-/
import Derived.Test.YtecedbjkebdeaaaTgM
import Derived.Test.YtecedbjkebdeaaaShL
import Derived.Maps.OwnSet
import Derived.Maps.Ext
import Derived.Maps.Range
import Derived.Maps.RangeWalk
import Derived.Lib.SlMapMerge
namespace Go.Proofs.Ytecedbjkebdeaaa
open Go.RowKit Go.Maps Go.WideElems Go.ChangeMaps Go.MapKept
set_option linter.unusedVariables false
set_option linter.unusedSimpArgs false
set_option maxRecDepth 100000

theorem keyI : Keyed Try.prog 3 := int_keyed Try.underlying3
theorem wfI {x : Int} (h : I64 x) : (Lit.int .i64 x).wf = true := by
  unfold I64 at h
  simp only [Lit.wf, Bool.and_eq_true, decide_eq_true_eq]
  rw [show IntKind.i64.min = -9223372036854775808 from by decide, show IntKind.i64.max = 9223372036854775807 from by decide]
  exact h
theorem keyOfI {x : Int} (h : I64 x) : keyOf Try.prog 3 (.int .i64 x) = some (.int .i64 x) := keyOf_int_mk Try.underlying3 (wfI h)
theorem litI {x : Int} (h : I64 x) : WideAt.IsKeyLit (.int .i64 x) := keyI.key (keyOfI h)
theorem univ_I64 {x : Int} (h : x ∈ univ) : I64 x := by have := univ_pos h; unfold I64; omega
def litInt : Lit → Int
  | .int _ x => x
  | _ => 0
/-- a set's datum -/
def mapD (l : List Int) : DataW Unit := .map (l.map fun x => (.int .i64 x, .agg []))
theorem isMap_mapD (l : List Int) : IsMap (mapD l) := ⟨_, rfl⟩
theorem size_mapD (l : List Int) : Maps.size (mapD l) = l.length := by simp [Maps.size, mapD]
theorem has_mapD {l : List Int} (h : ∀ x ∈ l, I64 x) (k : Lit) : has (mapD l) k = true ↔ ∃ x ∈ l, k = .int .i64 x := by
  unfold mapD
  rw [has_eq, List.any_eq_true]
  constructor
  · rintro ⟨p, hp, hs⟩
    obtain ⟨x, hx, rfl⟩ := List.mem_map.1 hp
    refine ⟨x, hx, ?_⟩
    apply Classical.byContradiction
    intro e
    rw [sameKey_ne (fun e' => e e'.symm)] at hs
    cases hs
  · rintro ⟨x, hx, rfl⟩
    exact ⟨_, List.mem_map.2 ⟨x, hx, rfl⟩, WideAt.sameKey_self (litI (h x hx))⟩
theorem atKey_eq {H : Type} (es : List (Lit × DataW H)) (k : Lit) (z : DataW H) : (DataW.map es).atKey k z = ((es.find? (fun p => p.1.sameKey k)).map (·.2)).getD z := by
  unfold DataW.atKey
  simp only
  cases es.find? (fun p => p.1.sameKey k) <;> rfl
theorem at_mapD {l : List Int} {k : Lit} (z : DataW Unit) (h : has (mapD l) k = true) : (mapD l).atKey k z = .agg [] := by
  unfold mapD at h ⊢
  rw [has_eq, List.any_eq_true] at h
  rw [atKey_eq]
  cases hf : (l.map fun x => ((.int .i64 x, .agg []) : Lit × DataW Unit)).find? (fun p => p.1.sameKey k) with
  | none =>
    obtain ⟨p, hp, hs⟩ := h
    have := List.find?_eq_none.1 hf p hp
    rw [hs] at this
    exact absurd rfl this
  | some p =>
    obtain ⟨x, _, rfl⟩ := List.mem_map.1 (List.mem_of_find?_eq_some hf)
    rfl
theorem TS.l_I64 (S : TS) : ∀ x ∈ S.l, I64 x := fun x hx => univ_I64 (TS.l_mem.1 hx).1
theorem canonK_mapD (S : TS) : CanonK (KeysOf Try.prog 3) (mapD S.l) := by
  refine ⟨_, rfl, ?_, fun p hp => ?_⟩
  · rw [List.pairwise_map]
    exact S.l_sorted.imp fun {a b} h => by simp [Lit.before, h]
  · obtain ⟨x, hx, rfl⟩ := List.mem_map.1 hp
    exact ⟨_, keyOfI (S.l_I64 x hx)⟩
theorem canon_mapD (S : TS) : Canon (mapD S.l) := (canonK_mapD S).canon keyI.one
theorem hasS {S : TS} {k : Lit} : has (mapD S.l) k = true ↔ ∃ x, x ∈ univ ∧ S x = true ∧ k = .int .i64 x := by
  rw [has_mapD S.l_I64]
  constructor
  · rintro ⟨x, hx, rfl⟩; exact ⟨x, (TS.l_mem.1 hx).1, (TS.l_mem.1 hx).2, rfl⟩
  · rintro ⟨x, h1, h2, rfl⟩; exact ⟨x, TS.l_mem.2 ⟨h1, h2⟩, rfl⟩
theorem put_mapD {S : TS} {x : Int} (hx : x ∈ univ) : (mapD S.l).put (.int .i64 x) (.agg []) = mapD (S.or (TS.one x)).l := by
  have hk := litI (univ_I64 hx)
  have hh : ∀ k, has ((mapD S.l).put (.int .i64 x) (.agg [])) k = has (mapD (S.or (TS.one x)).l) k := fun k => by
    by_cases e : k = .int .i64 x
    · subst e
      rw [has_put_same (isMap_mapD _) hk, (hasS (S := S.or (TS.one x))).2 ⟨x, hx, by simp [TS.or, TS.one], rfl⟩]
    · rw [has_put_other e, Bool.eq_iff_iff, hasS, hasS]
      constructor
      · rintro ⟨y, h1, h2, h3⟩; exact ⟨y, h1, by simp [TS.or, h2], h3⟩
      · rintro ⟨y, h1, h2, h3⟩
        refine ⟨y, h1, ?_, h3⟩
        have h4 : (S y || (y == x)) = true := h2
        have h5 : (y == x) = false := by
          apply Bool.eq_false_iff.2
          intro h6
          exact e (by rw [h3, eq_of_beq h6])
        rw [h5, Bool.or_false] at h4
        exact h4
  refine Maps.ext ((canonK_put keyI.one ⟨_, keyOfI (univ_I64 hx)⟩ _ (canonK_mapD S)).canon keyI.one) (canon_mapD _) hh fun k z h1 => ?_
  rw [at_mapD z ((hh k).symm.trans h1)]
  by_cases e : k = .int .i64 x
  · subst e
    exact atKey_put_same (isMap_mapD _) hk _ _
  · rw [atKey_put_other e]
    rw [has_put_other e] at h1
    exact at_mapD z h1
theorem merge_mapD (S T : TS) : Lib.mergeD (mapD S.l) (mapD T.l) = mapD (S.or T).l := by
  have klit : ∀ p ∈ T.l.map (fun x => ((.int .i64 x, .agg []) : Lit × DataW Unit)), WideAt.IsKeyLit p.1 := fun p hp => by
    obtain ⟨x, hx, rfl⟩ := List.mem_map.1 hp
    exact litI (T.l_I64 x hx)
  have hh : ∀ k, has (Lib.mergeD (mapD S.l) (mapD T.l)) k = has (mapD (S.or T).l) k := fun k => by
    show has ((T.l.map (fun x => ((.int .i64 x, .agg []) : Lit × DataW Unit))).foldl (fun D p => D.put p.1 p.2) (mapD S.l)) k = _
    rw [has_foldPut k _ _ (isMap_mapD _) klit]
    have e : (T.l.map (fun x => ((.int .i64 x, .agg []) : Lit × DataW Unit))).any (fun p => p.1.sameKey k) = has (mapD T.l) k := rfl
    rw [e, Bool.eq_iff_iff, Bool.or_eq_true, hasS, hasS, hasS]
    constructor
    · rintro (⟨y, h1, h2, h3⟩ | ⟨y, h1, h2, h3⟩)
      · exact ⟨y, h1, by simp [TS.or, h2], h3⟩
      · exact ⟨y, h1, by simp [TS.or, h2], h3⟩
    · rintro ⟨y, h1, h2, h3⟩
      have h4 : (S y || T y) = true := h2
      rw [Bool.or_eq_true] at h4
      exact h4.imp (fun h => ⟨y, h1, h, h3⟩) (fun h => ⟨y, h1, h, h3⟩)
  have ck : Canon (Lib.mergeD (mapD S.l) (mapD T.l)) := (canonK_fold keyI.one _ _ (fun p hp => by
    obtain ⟨x, hx, rfl⟩ := List.mem_map.1 hp
    exact ⟨_, keyOfI (T.l_I64 x hx)⟩) (canonK_mapD S)).canon keyI.one
  refine Maps.ext ck (canon_mapD _) hh fun k z h1 => ?_
  rw [at_mapD z ((hh k).symm.trans h1)]
  have hap : (T.l.map (fun x => ((.int .i64 x, .agg []) : Lit × DataW Unit))).Pairwise (fun p q => p.1 ≠ q.1) := by
    rw [List.pairwise_map]
    exact T.l_sorted.imp fun {a b} h e => by simp at e; omega
  have e2 := atKey_foldPut k z (T.l.map (fun x => ((.int .i64 x, .agg []) : Lit × DataW Unit))) (mapD S.l) (isMap_mapD _) klit hap
  refine e2.trans ?_
  split
  · next p hp =>
    obtain ⟨x, _, rfl⟩ := List.mem_map.1 (List.mem_of_find?_eq_some hp)
    rfl
  · next hn =>
    have h3 : has (mapD S.l) k = true := by
      have h4 := h1
      rw [show Lib.mergeD (mapD S.l) (mapD T.l) = (T.l.map (fun x => ((.int .i64 x, .agg []) : Lit × DataW Unit))).foldl (fun D p => D.put p.1 p.2) (mapD S.l) from rfl, has_foldPut k _ _ (isMap_mapD _) klit] at h4
      have h5 : (T.l.map (fun x => ((.int .i64 x, .agg []) : Lit × DataW Unit))).any (fun p => p.1.sameKey k) = false := List.any_eq_false.2 (fun p hp => by simpa using List.find?_eq_none.1 hn p hp)
      rw [h5, Bool.or_false] at h4
      exact h4
    exact at_mapD z h3
/-- block b is a map that holds the set S -/
def SetAt (w : World) (b : Nat) (S : TS) : Prop := w.ownsMap Try.prog 3 (unitElem (H := Unit)) b 9 (mapD S.l)
theorem tight {w : World} {b n : Nat} {D : DataW Unit} (h : w.ownsMap Try.prog 3 unitElem b n D) : w.ownsMap Try.prog 3 unitElem b (Maps.size D) D := by
  obtain ⟨es, clock, hb, F, hs, rfl⟩ := h
  refine ⟨es, clock, hb, F, ?_, rfl⟩
  show es.size ≤ ((es.toList.map (rg Try.prog 3 unitElem)).foldr DataW.insert []).length
  rw [length_read]
  exact Nat.le_refl _
theorem SetAt.of {w : World} {b n : Nat} {S : TS} (h : w.ownsMap Try.prog 3 unitElem b n (mapD S.l)) : SetAt w b S :=
  (tight h).mono (by rw [size_mapD]; exact S.l_le)
theorem SetAt.lt {w : World} {b : Nat} {S : TS} (h : SetAt w b S) : b < w.heap.size := World.ownsMap.lt h
theorem SetAt.block {w w' : World} {b : Nat} {S : TS} (h : SetAt w b S) (hb : w'.heap[b]? = w.heap[b]?) : SetAt w' b S := by
  obtain ⟨es, clock, h1, h2⟩ := h
  exact ⟨es, clock, hb.trans h1, h2⟩
theorem SetAt.kept {w w' : World} {b : Nat} {S : TS} {row : Option Nat} (h : SetAt w b S) (hg : w.grownBy w' row) (hne : some b ≠ row) : SetAt w' b S := World.ownsMap.kept h hg hne
theorem SetAt.below {B : Nat} {w w' : World} {b : Nat} {S : TS} (h : SetAt w b S) (hb : Below B w w') (hlt : b < B) : SetAt w' b S := h.block (hb.block b hlt)
theorem SetAt.congr {w : World} {b : Nat} {S T : TS} (h : SetAt w b S) (he : S.l = T.l) : SetAt w b T := by unfold SetAt at h ⊢; rw [← he]; exact h
theorem SetAt.same {w : World} {b : Nat} {S T : TS} (h : SetAt w b S) (k : SetAt w b T) : S.l = T.l := by
  obtain ⟨es, clock, hb, _, _, hD⟩ := h
  obtain ⟨es', clock', hb', _, _, hD'⟩ := k
  rw [hb] at hb'
  cases hb'
  have e := hD.trans hD'.symm
  unfold mapD at e
  injection e with e
  have e2 := congrArg (List.map (fun p : Lit × DataW Unit => litInt p.1)) e
  simpa [List.map_map, Function.comp_def, litInt] using e2
theorem SetAt.made (w : World) (S : TS) (hS : S.l = []) : SetAt (w.alloc (.map #[] 0)) w.heap.size S := by
  unfold SetAt
  rw [hS]
  exact (World.ownsMap_made w _ _ _).mono (Nat.zero_le _)
end Go.Proofs.Ytecedbjkebdeaaa
