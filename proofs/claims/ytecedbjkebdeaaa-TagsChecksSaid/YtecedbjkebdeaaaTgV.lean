/-
  Package tags: 'sorted', 'least' of a set.
-/
import Derived.Test.YtecedbjkebdeaaaTgA
import Derived.Test.YtecedbjkebdeaaaShelf
namespace Go.Proofs.Ytecedbjkebdeaaa
open Go.RowKit Go.Maps Go.WideElems Go.ChangeMaps Go.MapKept Go.Shelf Go.Sort
set_option linter.unusedVariables false
set_option linter.unusedSimpArgs false
set_option maxRecDepth 100000

theorem sortsA (m : Nat) : AnyZI.SortsIn Try.prog Try.sortedA_ren Fence.wide m :=
  ⟨fun blk off cap ss W hH hblk hsz => callsIn_wide.2 (AnyM.slices_Sort_int Try.sortA blk off cap ss W hH hblk hsz),
   fun p cap W => callsIn_wide.2 (AnyM.slices_Sort_int_none Try.sortA p cap W)⟩
theorem sorted_perm {l ss : List Int} (h : ss.Perm l) (hl : l.Pairwise (fun x y => x < y)) : ss.mergeSort (fun x y => decide (x ≤ y)) = l := by
  have h1 : (ss.mergeSort (fun x y => decide (x ≤ y))).Perm l := (List.mergeSort_perm ss _).trans h
  refine h1.eq_of_pairwise (le := fun x y => x ≤ y) ?_ ?_ ?_
  · intro a b _ _ h2 h3; omega
  · have := List.pairwise_mergeSort (le := fun x y : Int => decide (x ≤ y)) (by intro a b c h1 h2; simp at *; omega) (by intro a b; simp; omega) ss
    exact this.imp (fun h => by simpa using h)
  · exact hl.imp (fun h => by omega)
theorem keys_mapD (l : List Int) : intKeys (mapD l) = l := by
  show (l.map _).map _ = l
  rw [List.map_map]
  exact List.map_id' l
set_option maxHeartbeats 2000000 in
theorem sorted_ok (w : World) (p : Option Nat) (T : TS) (h : TagsAt w p T) :
    Calls Try.prog 20 #[.map p] w fun e w' => ∃ v, e = .returned v ∧ w'.ownsRow w.heap.size 3 1 v T.l.length (T.l.map (Value.int .i64)) ∧ Below w.heap.size w w' := by
  have hcK : ∀ mb W, CallsIn Fence.wide 5 Try.prog 36 #[.map mb] W fun e w' => e = .returned (.func (.func 52) #[] #[.pointer (some ⟨W.heap.size, 0, none⟩)]) ∧ w' = W.alloc (.cells #[.map mb] 52) := fun mb W => AnyZI.keys_in Try.keysA Fence.wide 5 trivial rfl mb W
  refine (callsIn_wide (n := 6)).1 ?_
  rcases h with ⟨rfl, hT⟩ | ⟨b, rfl, hown⟩
  · have hseq : SeqGives Fence.wide 2 Try.prog 52 #[.pointer (some ⟨w.heap.size, 0, none⟩)] encZ (fun ss : List Int => ss = []) 0 (w.alloc (.cells #[.map none] 52)) :=
      AnyZI.keys_gives_nil (ρ := Try.keysA_ren) { Try.keysA with } Fence.wide _ trivial rfl w.heap.size _ (by simp) (by simp)
    have cS := AnyZI.sorted_in Try.sortedA Fence.wide 5 trivial trivial trivial trivial rfl (by omega) (sortsA _) (enters_of Try.func51 (by kernel_rfl) rfl) 52 #[.pointer (some ⟨w.heap.size, 0, none⟩)] trivial (enters_of Try.func52 (by kernel_rfl) rfl) _ 0 (Nat.zero_le _) (by omega) _ hseq
    change CallsIn _ _ Try.prog 35 _ _ _ at cS
    have hfK : Fence.wide.fn 36 := trivial
    have hfS : Fence.wide.fn 35 := trivial
    refine callsIn_of_wp Try.func20 rfl trivial ?_ rfl
    simp only [Try.ntmps20, List.size_toArray, List.length_cons, List.length_nil, Nat.reduceAdd, Nat.reduceSub, Array.replicate_succ, Array.replicate_zero, List.push_toArray, List.append_toArray, List.nil_append, List.cons_append]
    gi_wp2_with (first
      | (gi_at_call 36; refine (hcK _ _).mono ?_; rintro e w' ⟨rfl, rfl⟩)
      | (gi_at_call 35; refine cS.mono ?_; rintro e w' ⟨v, ss, rfl, rfl, hrow, hnil, hb⟩; obtain rfl : v = .slice none 0 0 := hnil.2 rfl))
    go_ret
    exact ⟨_, rfl, by rw [hT]; exact World.ownsRow_nil _ _ _ _, ((Below.refl _ w).alloc (Nat.le_refl _) _).trans (hb.mono (by simp))⟩
  · have hbl := hown.lt
    have hsz : Maps.size (mapD T.l) ≤ 9 := by rw [size_mapD]; exact T.l_le
    have hseq : SeqGives Fence.wide 2 Try.prog 52 #[.pointer (some ⟨w.heap.size, 0, none⟩)] encZ (fun ss => ss.Perm (intKeys (mapD T.l))) (Maps.size (mapD T.l)) (w.alloc (.cells #[.map (some b)] 52)) :=
      AnyZI.keys_gives (ρ := Try.keysA_ren) { Try.keysA with } Fence.wide _ trivial rfl (by omega) w.heap.size b 9 (mapD T.l) _ (by simp) (by simp) (by
        obtain ⟨es, clock, hb, Ft, hs, hD⟩ := hown
        exact ⟨es, clock, (Below.heap_alloc _ _ b hbl).trans hb, Ft, hs, hD⟩)
    have cS := AnyZI.sorted_in Try.sortedA Fence.wide 5 trivial trivial trivial trivial rfl (by omega) (sortsA _) (enters_of Try.func51 (by kernel_rfl) rfl) 52 #[.pointer (some ⟨w.heap.size, 0, none⟩)] trivial (enters_of Try.func52 (by kernel_rfl) rfl) _ _ (by unfold maxLen; omega) (by omega) _ hseq
    change CallsIn _ _ Try.prog 35 _ _ _ at cS
    have hfK : Fence.wide.fn 36 := trivial
    have hfS : Fence.wide.fn 35 := trivial
    refine callsIn_of_wp Try.func20 rfl trivial ?_ rfl
    simp only [Try.ntmps20, List.size_toArray, List.length_cons, List.length_nil, Nat.reduceAdd, Nat.reduceSub, Array.replicate_succ, Array.replicate_zero, List.push_toArray, List.append_toArray, List.nil_append, List.cons_append]
    gi_wp2_with (first
      | (gi_at_call 36; refine (hcK _ _).mono ?_; rintro e w' ⟨rfl, rfl⟩)
      | (gi_at_call 35; refine cS.mono ?_; rintro e w' ⟨v, ss, rfl, hS, hrow, hnil, hb⟩))
    go_ret
    rw [keys_mapD] at hS
    have hlen := hS.length_eq
    rw [sorted_perm hS T.l_sorted, hlen] at hrow
    refine ⟨v, rfl, ?_, ((Below.refl _ w).alloc (Nat.le_refl _) _).trans (hb.mono (by simp))⟩
    exact ownsRow_base_a hrow (by simp)
/-- the least tag of a set; 0: none -/
def TS.least (T : TS) : Int := T.l.headD 0
set_option maxHeartbeats 2000000 in
theorem least_ok (w : World) (p : Option Nat) (T : TS) (h : TagsAt w p T) :
    Calls Try.prog 37 #[.map p] w fun e w' => e = .returned (.int .i64 T.least) ∧ Below w.heap.size w w' := by
  have hln := h.len
  have HS := Lib.hid (sorted_ok w p T h)
  have HTL := Lib.hid (show T.least = T.l.headD 0 from rfl)
  generalize T.l = L at *
  generalize T.least = x at *
  cases L with
  | nil =>
    have hln2 : ∀ ty, (Builtin.len_ #[52] ty #[.map p]).run Try.prog w = .ok (.int .i64 0) w := hln
    have HE := Lib.hid (show x = 0 from HTL.out)
    clear hln h HS
    go_enter Try.func37, Try.ntmps37
    go_wp2_with fail
    go_ret
    exact ⟨by rw [HE.out]; rfl, Below.refl _ _⟩
  | cons y L =>
    have q1 : ((((y :: L).length : Nat) : Int) == 0) = false := by simp; omega
    have HE := Lib.hid (show x = y from HTL.out)
    obtain ⟨N, hN⟩ : ∃ N, (y :: L).length = N := ⟨_, rfl⟩
    have hN1 : 0 < N := by rw [← hN]; simp
    rw [hN] at hln q1 HS
    clear h hN
    go_enter Try.func37, Try.ntmps37
    go_wp2_with fail
    refine HS.out.mono ?_
    rintro e w1 ⟨v, rfl, hown, hb⟩
    obtain ⟨g, cap, hv, _, _, hix, hcell⟩ := own_read 37 3 Try.underlying37 (by kernel_rfl) Try.sizeOf3 hown hN1
    subst hv
    have c0 := hcell 0 (.int .i64 y) rfl
    have HB := Lib.hid hb
    have hix0 : ∀ w, (Instr.indexAt 37 (.slice (some ⟨g, 0, none⟩) N cap) (.int .i64 0)).run Try.prog w = .ok (.pointer (some ⟨g, 0, none⟩)) w := hix
    clear hown hb hcell hix HS
    go_wp2_with fail
    go_ret
    exact ⟨by rw [HE.out]; rfl, HB.out⟩
end Go.Proofs.Ytecedbjkebdeaaa
