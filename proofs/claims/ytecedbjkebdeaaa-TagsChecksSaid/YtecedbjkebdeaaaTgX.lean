/-
  Package tags: 'newGraph'.
-/
import Derived.Test.YtecedbjkebdeaaaTgQ
import Derived.Laws.OwnMore
namespace Go.Proofs.Ytecedbjkebdeaaa
open Go.RowKit Go.Maps Go.WideElems Go.ChangeMaps Go.MapKept Go.Shelf
set_option linter.unusedVariables false
set_option linter.unusedSimpArgs false
set_option maxRecDepth 100000

theorem made_one (v : Value) (n : Nat) : (madeCells #[v] n).toList = (List.range n).map fun _ => v := by
  unfold madeCells
  apply List.ext_getElem
  · simp
  · intro i h1 h2
    simp [Nat.mod_one]
def newV (gs gv b n : Nat) : GV :=
  { pm := none, rv := .slice none 0 0, sv := .slice (some ⟨gs, 0, none⟩) n n, vv := .slice (some ⟨gv, 0, none⟩) n n, qv := .slice none 0 0, sm := fun _ => none, ev := fun _ => .slice none 0 0, own := fun k => if k = b then .st else if k = gs then .sr else if k = gv then .vr else .no }
theorem GAt.new {B : Nat} {W : World} {l : EL} {gs gv b n : Nat} (hn : l.n = n) (hbx : Bx W b #[.slice l.a n l.cap, .map none, .slice none 0 0, .slice (some ⟨gs, 0, none⟩) n n, .slice (some ⟨gv, 0, none⟩) n n, .slice none 0 0, .int .i64 0] 60)
    (hs : W.ownsRow B 52 1 (.slice (some ⟨gs, 0, none⟩) n n) n ((List.range n).map fun _ => .map none)) (hv : W.ownsRow B 37 1 (.slice (some ⟨gv, 0, none⟩) n n) n ((List.range n).map fun _ => .slice none 0 0))
    (h1 : gs ≠ gv) (h2 : gs ≠ b) (h3 : gv ≠ b) (b1 : B ≤ gs) (b2 : B ≤ gv) (b3 : B ≤ b) (s1 : gs < W.heap.size) (s2 : gv < W.heap.size) : GAt B W b l (GL.new l.n) (newV gs gv b n) := by
  subst hn
  refine ⟨hbx, if_pos rfl, fun k hk => ?_, World.ownsRow_nil _ _ _ _, fun k hk => (by cases hk), hs, fun k hk => ?_, hv, fun k hk => ?_, World.ownsRow_nil _ _ _ _, fun k hk => (by cases hk), fun n hn => ⟨fun hl => ?_, fun _ => rfl⟩, fun n hn => ⟨World.ownsRow_nil _ _ _ _, fun k hk => (by cases hk)⟩, fun k hk => (by cases hk)⟩
  · have hlt := hbx.lt
    unfold newV at hk
    simp only at hk
    split at hk
    · omega
    · split at hk
      · omega
      · split at hk
        · omega
        · exact absurd rfl hk
  · cases hk
    show (if gs = b then Role.st else if gs = gs then .sr else _) = .sr
    rw [if_neg h2, if_pos rfl]
  · cases hk
    show (if gv = b then Role.st else if gv = gs then .sr else if gv = gv then .vr else _) = .vr
    rw [if_neg h3, if_neg (fun e => h1 e.symm), if_pos rfl]
  · rcases hl with hl | hl
    · cases hl
    · have : n < l.n := hn
      omega
theorem info_set : (Try.prog.info? 52).map (fun i => (i.zero, i.size, i.bytes)) = some (some (.map none), 1, 8) := by kernel_rfl
theorem info_ints : (Try.prog.info? 37).map (fun i => (i.zero, i.size, i.bytes)) = some (some (.slice none 0 0), 1, 24) := by kernel_rfl
theorem make_sets (n : Nat) (hn : n ≤ 1000000) : ∃ A : Array Value, A.toList = ((List.range n).map fun _ => Value.map none) ∧ ∀ w, (Instr.makeSlice 57 (.int .i64 (n : Nat)) (.int .i64 (n : Nat))).run Try.prog w = .ok (.slice (some ⟨w.heap.size, 0, none⟩) n n) (w.alloc (.cells A 52)) := by
  obtain ⟨i0, hi0, hz0, hz1, hz2⟩ := info_parts info_set
  refine ⟨madeCells #[.map none] n, made_one _ _, fun w => ?_⟩
  have := run_make (P := Try.prog) w 57 52 i0 (.map none) Try.underlying57 hi0 hz0 .i64 .i64 n n (by omega) (by omega) (by rw [hz2]; omega) (by omega)
  rw [this]
  simp only [Int.toNat_natCast, hz1, Nat.mul_one]
  rfl
theorem make_vs (n : Nat) (hn : n ≤ 1000000) : ∃ A : Array Value, A.toList = ((List.range n).map fun _ => Value.slice none 0 0) ∧ ∀ w, (Instr.makeSlice 58 (.int .i64 (n : Nat)) (.int .i64 (n : Nat))).run Try.prog w = .ok (.slice (some ⟨w.heap.size, 0, none⟩) n n) (w.alloc (.cells A 37)) := by
  obtain ⟨i0, hi0, hz0, hz1, hz2⟩ := info_parts info_ints
  refine ⟨madeCells #[.slice none 0 0] n, made_one _ _, fun w => ?_⟩
  have := run_make (P := Try.prog) w 58 37 i0 (.slice none 0 0) Try.underlying58 hi0 hz0 .i64 .i64 n n (by omega) (by omega) (by rw [hz2]; omega) (by omega)
  rw [this]
  simp only [Int.toNat_natCast, hz1, Nat.mul_one]
  rfl
theorem two_rows (w : World) (A A' : Array Value) (s s' : TypeId) (n : Nat) (hA : A.size = n) (hA' : A'.size = n) (hn : n ≤ 1000000) (cs : Array Value) (t : TypeId) :
    (((w.alloc (.cells A s)).alloc (.cells A' s')).alloc (.cells cs t)).ownsRow w.heap.size s 1 (.slice (some ⟨w.heap.size, 0, none⟩) n n) n A.toList ∧
    (((w.alloc (.cells A s)).alloc (.cells A' s')).alloc (.cells cs t)).ownsRow w.heap.size s' 1 (.slice (some ⟨w.heap.size + 1, 0, none⟩) n n) n A'.toList ∧
    Bx (((w.alloc (.cells A s)).alloc (.cells A' s')).alloc (.cells cs t)) (w.heap.size + 1 + 1) cs t ∧ Below w.heap.size w (((w.alloc (.cells A s)).alloc (.cells A' s')).alloc (.cells cs t)) ∧ (((w.alloc (.cells A s)).alloc (.cells A' s')).alloc (.cells cs t)).heap.size = w.heap.size + 3 := by
  have hm : n ≤ maxLen := by unfold maxLen; omega
  have e1 : (w.alloc (.cells A s)).heap.size = w.heap.size + 1 := by simp
  have e2 : ((w.alloc (.cells A s)).alloc (.cells A' s')).heap.size = w.heap.size + 1 + 1 := by simp
  have h2 := World.ownsRow.alloc (World.ownsRow_lit (base := w.heap.size) (e := s') (size := 1) (w.alloc (.cells A s)) A' n (by omega) hm (by omega)) (.cells cs t)
  have h3 := Bx.new ((w.alloc (.cells A s)).alloc (.cells A' s')) cs t
  rw [e1] at h2
  rw [e2] at h3
  exact ⟨World.ownsRow.alloc (World.ownsRow.alloc (World.ownsRow_lit (base := w.heap.size) (e := s) (size := 1) w A n (Nat.le_refl _) hm (by omega)) _) _, h2, h3,
    (((Below.refl w.heap.size w).alloc (Nat.le_refl _) _).alloc (by omega) _).alloc (by omega) _, by simp⟩
set_option maxHeartbeats 4000000 in
theorem newGraph_ok (w : World) (l : EL) (hl : l.n ≤ 1000000) :
    Calls Try.prog 13 #[.slice l.a l.n l.cap] w fun e w' => ∃ b V, e = .returned (.pointer (some ⟨b, 0, none⟩)) ∧ GAt w.heap.size w' b l (GL.new l.n) V ∧ Below w.heap.size w w' := by
  obtain ⟨n, hn⟩ : ∃ n, l.n = n := ⟨_, rfl⟩
  have HN := Lib.hid hn
  rw [hn] at hl ⊢
  obtain ⟨A1, hA1, hm1⟩ := make_sets n hl
  obtain ⟨A2, hA2, hm2⟩ := make_vs n hl
  have HA1 := Lib.hid hA1
  have HA2 := Lib.hid hA2
  have hsz1 : A1.size = n := by rw [← Array.length_toList, hA1]; simp
  have hsz2 : A2.size = n := by rw [← Array.length_toList, hA2]; simp
  have HS1 := Lib.hid hsz1
  have HS2 := Lib.hid hsz2
  clear hA1 hA2 hsz1 hsz2 hn
  go_enter Try.func13, Try.ntmps13
  go_wp2_with fail
  go_region
  all_goals go_wp2_with fail
  all_goals go_ret
  · obtain ⟨h1, h2, h3, h4, h5⟩ := two_rows w A1 A2 52 37 n HS1.out HS2.out hl #[.slice l.a n l.cap, .map none, .slice none 0 0, .slice (some ⟨w.heap.size, 0, none⟩) n n, .slice (some ⟨w.heap.size + 1, 0, none⟩) n n, .slice none 0 0, .int .i64 0] 60
    rw [HA1.out] at h1
    rw [HA2.out] at h2
    have hg := GAtL.drew (GAt.new (B := w.heap.size) HN.out h3 h1 h2 (by omega) (by omega) (by omega) (Nat.le_refl _) (by omega) (by omega) (by omega) (by omega))
    rw [HN.out] at hg
    exact ⟨_, _, rfl, hg, Below.drew h4⟩
  · obtain ⟨h2, h1, h3, h4, h5⟩ := two_rows w A2 A1 37 52 n HS2.out HS1.out hl #[.slice l.a n l.cap, .map none, .slice none 0 0, .slice (some ⟨w.heap.size + 1, 0, none⟩) n n, .slice (some ⟨w.heap.size, 0, none⟩) n n, .slice none 0 0, .int .i64 0] 60
    rw [HA1.out] at h1
    rw [HA2.out] at h2
    have hg := GAtL.drew (GAt.new (B := w.heap.size) HN.out h3 h1 h2 (by omega) (by omega) (by omega) (by omega) (Nat.le_refl _) (by omega) (by omega) (by omega))
    rw [HN.out] at hg
    exact ⟨_, _, rfl, hg, Below.drew h4⟩
end Go.Proofs.Ytecedbjkebdeaaa
