/-
  Sets of tags in memory: one poured into another.
-/
import Derived.Test.YtecedbjkebdeaaaTgS
import Derived.Laws.IdiomRangeMap
namespace Go.Proofs.Ytecedbjkebdeaaa
open Go.RowKit Go.Maps Go.WideElems Go.ChangeMaps Go.MapKept
set_option linter.unusedVariables false
set_option linter.unusedSimpArgs false
set_option maxRecDepth 100000

/-- a key laid into a map that is being written out -/
theorem wpList_insert_own {w : World} {ops : Array Oper} {rest : List Oper} {o : Oper} {a : Act} {Q : Exit → Act → World → Prop}
    (hg : o.guard = none) (m x v : Operand) (hop : o.op = Op.insert 52 m x v) (b : Nat) (S : TS)
    (hm : a.eval m = .map (some b)) (hown : SetAt w b S) (y : Int) (hy : y ∈ univ) (hx : a.eval x = .int .i64 y) (hv : a.eval v = .agg #[])
    (hK : ∀ w', SetAt w' b (S.or (TS.one y)) → w.grownBy w' (some b) → wpList Try.prog ops Q rest (a.put o.dst undef) w') :
    wpList Try.prog ops Q (o :: rest) a w := by
  refine wpList_plain hg fun K' hK' => ?_
  obtain ⟨w', hrun, r1, r2⟩ := World.ownsMap.update hown keyI Try.underlying52 (by decide) (keyOfI (univ_I64 hy)) (unitElem_mk (H := Unit))
  unfold Oper.wp
  simp [execOp, hop, hm, hx, hv, hrun, Result.andThen]
  rw [put_mapD hy] at r1
  exact hK' _ _ (hK w' (.of r1) r2)
/-- what is there is laid in again: nothing turns -/
theorem run_put_same {w : World} {b n : Nat} {D : DataW Unit} (h : w.ownsMap Try.prog 3 unitElem b n D) {x : Int} (hx : I64 x) (hh : has D (.int .i64 x) = true) :
    (Instr.mapUpdate 52 (.map (some b)) (.int .i64 x) (.agg #[])).run Try.prog w = .ok () w := by
  obtain ⟨es, clock, hb, F, hs, rfl⟩ := h
  have hkey := keyOfI hx
  rcases keyI.find w hkey es.toList F.keys with ⟨h1, h2⟩ | ⟨j, e0, h1, h2, h3⟩
  · exfalso
    rw [has_eq, List.any_eq_true] at hh
    obtain ⟨p, hp, hsk⟩ := hh
    obtain ⟨y, hy, rfl⟩ := List.mem_map.1 (mem_sorted.1 hp)
    obtain ⟨z, hz⟩ := F.reads y hy
    rw [rg_of hz] at hsk
    have h4 : z.1 = .int .i64 x := by
      apply Classical.byContradiction
      intro e
      rw [sameKey_ne e] at hsk
      cases hsk
    have h5 := rd_key hz
    rw [h4] at h5
    exact h2 y hy (keyI.inj h5 hkey)
  · have hj : es[j]? = some e0 := by simpa using h2
    have hval : e0.val = .agg #[] := by
      obtain ⟨z, hz⟩ := F.reads e0 (List.mem_of_getElem? h2)
      obtain ⟨y, hy, _⟩ := rd_val hz
      exact (unitElem_inv hy).1
    have hmod : es.modify j (fun e' => { e' with key := .int .i64 x, val := .agg #[] }) = es := by
      apply Array.ext_getElem?
      intro i
      rw [Array.getElem?_modify]
      split
      · next e =>
        subst e
        rw [hj]
        show some ({ e0 with key := _, val := _ } : MapEntry) = some e0
        rw [← hval, ← h3]
      · rfl
    have hset : setBlock w b (.map es clock) = w := by
      unfold setBlock
      have : w.heap.setIfInBounds b (.map es clock) = w.heap := by
        apply Array.ext_getElem?
        intro i
        rw [Array.getElem?_setIfInBounds]
        split
        · next e => subst e; rw [hb]; simp [(Array.getElem?_eq_some_iff.1 hb).1]
        · rfl
      rw [this]
    have e1 : (Instr.mapUpdate 52 (.map (some b)) (.int .i64 x) (.agg #[])).run Try.prog w = .ok () (setBlock w b (.map (es.modify j (fun e' => { e' with key := .int .i64 x, val := .agg #[] })) clock)) := by
      simp [Instr.mapUpdate, run_underlying Try.underlying52, MapKept.run_getObj_map hb, keyI.check w false hkey, h1, hj, h3, keyI.stays w hkey, MapKept.run_setObj_map _ hb, Result.andThen, setBlock]
    rw [e1, hmod, hset]

set_option maxHeartbeats 4000000 in
theorem copy_ok (w : World) (bd bs : Nat) (S T : TS) (hd : SetAt w bd S) (hs : SetAt w bs T) (hne : bd ≠ bs) :
    Calls Try.prog 48 #[.map (some bd), .map (some bs)] w fun e w' => e = .returned (.tuple #[]) ∧ SetAt w' bd (S.or T) ∧ w.grownBy w' (some bd) := by
  have hbd := hd.lt
  have hbs := hs.lt
  have HS : w.ownsMap Try.prog 3 (unitElem (H := Unit)) bs 9 (mapD T.l) := hs
  have HD : w.ownsMap Try.prog 3 (unitElem (H := Unit)) bd 9 (mapD S.l) := hd
  go_enter Try.func48, Try.ntmps48
  go_wp2_with (first
    | (at_range; refine wpList_range_own _ rfl _ 52 rfl 3 _ keyI Try.underlying52 unitElem bs 9 _ rfl HS ?_; intro w0 hrg0 hg0 hs0)
    | go_in)
  go_frame
  go_loopw [8] (fun _ wr => ∃ (left : Lit → Bool) (cnt : Nat) (X : TS), wr.ranges Try.prog 3 (unitElem (H := Unit)) bs w.heap.size 9 (mapD T.l) left cnt ∧ SetAt wr bd X ∧ (∀ x, x ∈ univ → X x = (S x || (T x && !left (.int .i64 x)))) ∧ w.grownBy wr (some bd))
    (fun _ wr => wr.rangeLeft bs w.heap.size)
  case atStart =>
    refine ⟨_, _, S, hrg0, hd.kept hg0 (by simp), fun x hx => ?_, hg0.but _⟩
    cases hT : T x
    · simp
    · rw [hasS.2 ⟨x, hx, hT, rfl⟩]; simp
  case round =>
    obtain ⟨left, cnt, X, hrg, hout, hM, hgw⟩ := hrel
    go_wp2_with (first
      | (at_next; refine wpList_next_ranges _ rfl _ rfl 3 keyI unitElem (Value.int .i64) (fun _ : Unit => Value.agg #[]) (fun key kl h => by obtain ⟨x, rfl, _⟩ := Maps.keyOf_int_inv Try.underlying3 h; exact ⟨x, rfl⟩) (fun v y h => ⟨(), (unitElem_inv h).1⟩) bs w.heap.size 9 _ _ _ rfl hrg ?_ ?_)
      | go_in)
    · intro hc0 hl0
      go_wp2
      go_end0
      subst hc0
      refine ⟨rfl, hout.congr (TS.l_ext fun x hx => ?_), hgw⟩
      rw [hM x hx, hl0]
      simp [TS.or]
    · intro x kl yd yp w1 cnt1 hkey hlx hv hat hrg1 hlt hg1 hs1 hen
      obtain ⟨y, hy, hTy, rfl⟩ := hasS.1 (has_true_of_atKey hat)
      obtain rfl : x = y := by have := keyI.inj hkey (keyOfI (univ_I64 hy)); injection this
      clear hv hat
      have hB : ∀ o, SetAt (w1.alloc o) bd X := fun o => (hout.kept hg1 (fun e => by have := Option.some.inj e; omega)).kept (World.grownBy_alloc w1 o none) (by simp)
      have hR : ∀ o, (w1.alloc o).ranges Try.prog 3 (unitElem (H := Unit)) bs w.heap.size 9 (mapD T.l) (fun z => left z && !z.sameKey (.int .i64 x)) cnt1 := fun o => hrg1.alloc o
      go_wp2_with (first
        | (at_mapUpdate; refine wpList_mapUpdate_own _ rfl _ _ _ 52 rfl 3 _ keyI Try.underlying52 unitElem bd 9 _ rfl (hB _) (by decide) _ _ (.int .i64 x) rfl rfl hkey (.agg []) [] unitElem_mk ?_; intro w2 hout2 hg2; go_frame)
        | go_in)
      rw [put_mapD hy] at hout2
      have hal := World.grownBy_alloc w1 (.cells #[] 81) none
      have hsz2 : ∀ o, (w1.alloc o).heap.size = w1.heap.size + 1 := fun o => by simp
      have hrg2 := (hR _).kept hg2 (fun e => hne (Option.some.inj e).symm) (fun e => by have := Option.some.inj e; omega)
      go_roundw
      case rel =>
        refine ⟨_, cnt1, _, hrg2, .of hout2, fun z hz => ?_, ((hgw.andThen hg1 (fun j hj => .inl (by cases hj; exact Nat.le_refl _))).andThen (World.grownBy_alloc w1 _ none) (fun j hj => by cases hj)).andThen hg2 (fun j hj => .inr hj)⟩
        show (X z || (z == x)) = _
        rw [hM z hz]
        by_cases e : z = x
        · subst e
          rw [WideAt.sameKey_self (litI (univ_I64 hy)), hTy]
          simp
        · rw [sameKey_ne (fun e' => e (by injection e')), beq_eq_false_iff_ne.2 e]
          simp
      case measure => rw [hrg2.left_eq, hrg.left_eq]; exact hlt

set_option maxHeartbeats 4000000 in
/-- a set poured into itself -/
theorem copy_self (w : World) (bd : Nat) (S : TS) (hd : SetAt w bd S) :
    Calls Try.prog 48 #[.map (some bd), .map (some bd)] w fun e w' => e = .returned (.tuple #[]) ∧ w.grownBy w' none := by
  have hbd := hd.lt
  have HD : w.ownsMap Try.prog 3 (unitElem (H := Unit)) bd 9 (mapD S.l) := hd
  go_enter Try.func48, Try.ntmps48
  go_wp2_with (first
    | (at_range; refine wpList_range_own _ rfl _ 52 rfl 3 _ keyI Try.underlying52 unitElem bd 9 _ rfl HD ?_; intro w0 hrg0 hg0 hs0)
    | go_in)
  go_frame
  go_loopw [8] (fun _ wr => ∃ (left : Lit → Bool) (cnt : Nat), wr.ranges Try.prog 3 (unitElem (H := Unit)) bd w.heap.size 9 (mapD S.l) left cnt ∧ w.grownBy wr none)
    (fun _ wr => wr.rangeLeft bd w.heap.size)
  case atStart => exact ⟨_, _, hrg0, hg0⟩
  case round =>
    obtain ⟨left, cnt, hrg, hgw⟩ := hrel
    go_wp2_with (first
      | (at_next; refine wpList_next_ranges _ rfl _ rfl 3 keyI unitElem (Value.int .i64) (fun _ : Unit => Value.agg #[]) (fun key kl h => by obtain ⟨x, rfl, _⟩ := Maps.keyOf_int_inv Try.underlying3 h; exact ⟨x, rfl⟩) (fun v y h => ⟨(), (unitElem_inv h).1⟩) bd w.heap.size 9 _ _ _ rfl hrg ?_ ?_)
      | go_in)
    · intro hc0 hl0
      go_wp2
      go_end0
      exact ⟨rfl, hgw⟩
    · intro x kl yd yp w1 cnt1 hkey hlx hv hat hrg1 hlt hg1 hs1 hen
      have hhas := has_true_of_atKey hat
      obtain ⟨y, hy, hTy, rfl⟩ := hasS.1 hhas
      obtain rfl : x = y := by have := keyI.inj hkey (keyOfI (univ_I64 hy)); injection this
      clear hv hat
      have hR : ∀ o, (w1.alloc o).ranges Try.prog 3 (unitElem (H := Unit)) bd w.heap.size 9 (mapD S.l) (fun z => left z && !z.sameKey (.int .i64 x)) cnt1 := fun o => hrg1.alloc o
      have hrun : ∀ o, (Instr.mapUpdate 52 (.map (some bd)) (.int .i64 x) (.agg #[])).run Try.prog (w1.alloc o) = .ok () (w1.alloc o) := fun o => run_put_same (hR o).owns (univ_I64 hy) hhas
      go_wp2_with (fail)
      have hrg2 := hR (.cells #[] 81)
      go_roundw
      case rel => exact ⟨_, cnt1, hR _, (hgw.andThen hg1 (fun j hj => .inl (by cases hj; exact Nat.le_refl _))).andThen (World.grownBy_alloc w1 _ none) (fun j hj => by cases hj)⟩
      case measure => rw [(hR _).left_eq, hrg.left_eq]; exact hlt
/-- a nil set poured -/
theorem copy_nil (w : World) (bd : Nat) :
    Calls Try.prog 48 #[.map (some bd), .map none] w fun e w' => e = .returned (.tuple #[]) ∧ w.grownBy w' none := by
  have hrg := run_range_nilMap (P := Try.prog) w 52 _ _ Try.underlying52
  have hnx : ∀ ty, (Instr.next (.pointer (some ⟨w.heap.size, 0, none⟩)) false ty).run Try.prog (w.alloc (.mapIter none 0 #[] 0)) = _ := fun ty => run_next_nilMap _ ty 0 0 #[]
  go_enter Try.func48, Try.ntmps48
  go_wp2
  refine wp_loop_rounds 1 ?_
  rw [rounds_succ]
  go_wp2
  go_end0
  exact ⟨rfl, World.grownBy_alloc _ _ _⟩
/-- a map, or nil, that holds the set T -/
def TagsAt (w : World) (p : Option Nat) (T : TS) : Prop := (p = none ∧ T.l = []) ∨ ∃ b, p = some b ∧ SetAt w b T
theorem TagsAt.lt {w : World} {p : Option Nat} {T : TS} (h : TagsAt w p T) : ∀ b, p = some b → b < w.heap.size := fun b hb => by
  rcases h with ⟨rfl, _⟩ | ⟨b', rfl, h⟩
  · cases hb
  · cases hb; exact h.lt
theorem copy_any (w : World) (bd : Nat) (p : Option Nat) (S T : TS) (hd : SetAt w bd S) (hs : TagsAt w p T) :
    Calls Try.prog 48 #[.map (some bd), .map p] w fun e w' => e = .returned (.tuple #[]) ∧ SetAt w' bd (S.or T) ∧ w.grownBy w' (some bd) := by
  rcases hs with ⟨rfl, hT⟩ | ⟨bs, rfl, hs⟩
  · have e : S.l = (S.or T).l := TS.l_ext fun x hx => by
      show S x = (S x || T x)
      have : T x = false := Bool.eq_false_iff.2 fun h => by
        have := TS.l_mem.2 ⟨hx, h⟩
        rw [hT] at this
        cases this
      rw [this, Bool.or_false]
    exact (copy_nil w bd).mono fun e1 w' ⟨h1, h2⟩ => ⟨h1, (hd.kept h2 (by simp)).congr e, h2.but _⟩
  · by_cases hne : bd = bs
    · subst hne
      have he := hd.same hs
      have e : S.l = (S.or T).l := TS.l_ext fun x hx => by
        show S x = (S x || T x)
        have : T x = true → S x = true := fun h => (TS.l_mem.1 (he ▸ TS.l_mem.2 ⟨hx, h⟩)).2
        cases h1 : T x
        · simp
        · rw [this h1]; rfl
      exact (copy_self w bd S hd).mono fun e1 w' ⟨h1, h2⟩ => ⟨h1, (hd.kept h2 (by simp)).congr e, h2.but _⟩
    · exact copy_ok w bd bs S T hd hs hne
set_option maxHeartbeats 2000000 in
/-- 'add': the tags of another set -/
theorem add_ok (w : World) (bd : Nat) (p : Option Nat) (S T : TS) (hd : SetAt w bd S) (hs : TagsAt w p T) :
    Calls Try.prog 30 #[.map (some bd), .map p] w fun e w' => e = .returned (.int .i64 (((S.or T).l.length : Int) - (S.l.length : Int))) ∧ SetAt w' bd (S.or T) ∧ w.grownBy w' (some bd) := by
  have HC := Lib.hid (copy_any w bd p S T hd hs)
  have hl1 := S.l_le
  have hl2 := (S.or T).l_le
  have hlen : ∀ ty, (Builtin.len_ #[52] ty #[.map (some bd)]).run Try.prog w = .ok (.int .i64 (S.l.length : Int)) w := fun ty => by
    have := World.ownsMap.len hd Try.underlying52 ty
    rw [size_mapD] at this
    exact this
  clear hs
  go_enter Try.func30, Try.ntmps30
  go_wp2_with fail
  refine HC.out.mono ?_
  rintro e w1 ⟨rfl, h1, h2⟩
  have hlen2 : ∀ ty, (Builtin.len_ #[52] ty #[.map (some bd)]).run Try.prog w1 = .ok (.int .i64 ((S.or T).l.length : Int)) w1 := fun ty => by
    have := World.ownsMap.len h1 Try.underlying52 ty
    rw [size_mapD] at this
    exact this
  have q1 : IntKind.i64.wrap (((S.or T).l.length : Int) - (S.l.length : Int)) = ((S.or T).l.length : Int) - (S.l.length : Int) := wrap_ok (by unfold I64; omega)
  go_wp2_with fail
  go_ret
  exact ⟨rfl, h1, h2⟩
end Go.Proofs.Ytecedbjkebdeaaa
