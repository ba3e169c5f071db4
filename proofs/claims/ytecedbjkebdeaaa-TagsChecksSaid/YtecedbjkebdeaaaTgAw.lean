/-
  Package tags' laws: 'awake', the document's examples.
-/
import Derived.Test.YtecedbjkebdeaaaTgD
namespace Go.Proofs.Ytecedbjkebdeaaa
open Go.RowKit Go.Maps Go.WideElems Go.ChangeMaps Go.MapKept Go.Shelf
set_option linter.unusedVariables false
set_option linter.unusedSimpArgs false
set_option maxRecDepth 100000

def awC (g : Nat) : TT := two g 10 (pd ⟨#[97]⟩ false) (pd ⟨#[98]⟩ false) (lfT 4) (lfT 1)
def awS (g : Nat) : TT := two g 8 (pd ⟨#[97]⟩ true) (pd ⟨#[98]⟩ false) (lfT 4) (lfT 4)
def awCp : Array Value := (pcells (pd ⟨#[97]⟩ false) (lfT 4) ++ pcells (pd ⟨#[98]⟩ false) (lfT 1)).toArray
def awSp : Array Value := (pcells (pd ⟨#[97]⟩ true) (lfT 4) ++ pcells (pd ⟨#[98]⟩ false) (lfT 4)).toArray
theorem i64_s (k : Int) (h : 0 ≤ k ∧ k ≤ 100) : I64 k := by unfold I64; omega
theorem awC_in {B : Nat} {W : World} {g : Nat} (h : Bx W g awCp 42) (hg : g < B) : TIn B W (awC g) :=
  two_in h rfl hg (i64_s _ (by omega)) (pd_in _ _ _ _ (by decide)) (pd_in _ _ _ _ (by decide)) (lf_in _ _ _ (i64_s _ (by omega))) (lf_in _ _ _ (i64_s _ (by omega)))
theorem awS_in {B : Nat} {W : World} {g : Nat} (h : Bx W g awSp 42) (hg : g < B) : TIn B W (awS g) :=
  two_in h rfl hg (i64_s _ (by omega)) (pd_in _ _ _ _ (by decide)) (pd_in _ _ _ _ (by decide)) (lf_in _ _ _ (i64_s _ (by omega))) (lf_in _ _ _ (i64_s _ (by omega)))
theorem lf_tg {l : EL} {a : Bool} {x : Int} : (Tg l a (lfT 4) x ↔ x = 5) ∧ (Tg l a (lfT 1) x ↔ x = 1) := by
  rw [tg_leaf (by decide) (by decide), tg_leaf (by decide) (by decide)]
  unfold uni
  rw [show ut (lfT 4).kd = 5 from rfl, show ut (lfT 1).kd = 1 from rfl]
  constructor
  · simp
  · simp
theorem awC_tags {l : EL} {xs : List Int} {g : Nat} (h : TagL l false (awC g) xs) : xs = [1, 5] :=
  h.eq (by simp) (fun x => by
    unfold awC
    rw [tg_choice, lf_tg.1, lf_tg.2]
    simp only [List.mem_cons, List.not_mem_nil, or_false]
    omega)
theorem awC_rt (l : EL) (g : Nat) : Rt l (awC g) := rt_two (rt_leaf rfl rfl) (rt_leaf rfl rfl) (fun x h => by
  have h1 := lf_tg.1.1 h.1
  have h2 := lf_tg.2.1 h.2
  omega)
theorem awS_rt (l : EL) (g : Nat) : ¬ Rt l (awS g) := fun h => by
  have h1 := rt_two_no (two_opt _ _ _ _ _ rfl) h
  exact h1 5 ⟨lf_tg.1.2 rfl, lf_tg.1.2 rfl⟩
theorem awC_sz (g : Nat) : (awC g).sz ≤ 10 ∧ (awC g).wid ≤ 10 := by
  unfold awC
  rw [(two_sz _ _ _ _ _ _).1, (two_sz _ _ _ _ _ _).2]
  exact ⟨by decide, by decide⟩
theorem awS_sz (g : Nat) : (awS g).sz ≤ 10 ∧ (awS g).wid ≤ 10 := by
  unfold awS
  rw [(two_sz _ _ _ _ _ _).1, (two_sz _ _ _ _ _ _).2]
  exact ⟨by decide, by decide⟩
/-- an entry without names -/
def e0 (t : TT) : ET := ⟨⟨#[]⟩, ⟨#[]⟩, false, t⟩
/-- what stays of awake's blocks -/
structure Aw (w W : World) : Prop where
  below : Below w.heap.size w W
  b1 : Bx W (w.heap.size + 1) awCp 42
  b2 : Bx W (w.heap.size + 2) (awC (w.heap.size + 1)).cells.toArray 35
  b3 : Bx W (w.heap.size + 3) awSp 42
  b4 : Bx W (w.heap.size + 4) (awS (w.heap.size + 3)).cells.toArray 35
theorem Aw.step {w W W' : World} (h : Aw w W) (hb : Below W.heap.size W W') : Aw w W' :=
  ⟨h.below.trans (hb.mono h.below.size), h.b1.below hb h.b1.lt, h.b2.below hb h.b2.lt, h.b3.below hb h.b3.lt, h.b4.below hb h.b4.lt⟩
theorem Aw.cells2 {w W : World} (h : Aw w W) : W.cell? ⟨w.heap.size + 2, 0, none⟩ = some (.int .i64 10) ∧ W.cell? ⟨w.heap.size + 2, 1, none⟩ = some (.string ⟨#[]⟩) ∧ W.cell? ⟨w.heap.size + 2, 2, none⟩ = some (.int .i64 0) ∧ W.cell? ⟨w.heap.size + 2, 3, none⟩ = some (.int .i64 0) ∧ W.cell? ⟨w.heap.size + 2, 4, none⟩ = some (.int .i64 0) ∧ W.cell? ⟨w.heap.size + 2, 5, none⟩ = some (.bool false) ∧ W.cell? ⟨w.heap.size + 2, 6, none⟩ = some (.bool false) ∧ W.cell? ⟨w.heap.size + 2, 7, none⟩ = some (.slice none 0 0) ∧ W.cell? ⟨w.heap.size + 2, 8, none⟩ = some (.bool false) ∧ W.cell? ⟨w.heap.size + 2, 9, none⟩ = some (.string ⟨#[]⟩) ∧ W.cell? ⟨w.heap.size + 2, 10, none⟩ = some (.slice none 0 0) ∧ W.cell? ⟨w.heap.size + 2, 11, none⟩ = some (.slice none 0 0) ∧ W.cell? ⟨w.heap.size + 2, 12, none⟩ = some (.slice (some ⟨w.heap.size + 1, 0, none⟩) 2 2) ∧ W.cell? ⟨w.heap.size + 2, 13, none⟩ = some (.slice none 0 0) ∧ W.cell? ⟨w.heap.size + 2, 14, none⟩ = some (.slice none 0 0) :=
  ⟨h.b2.cell 0 rfl, h.b2.cell 1 rfl, h.b2.cell 2 rfl, h.b2.cell 3 rfl, h.b2.cell 4 rfl, h.b2.cell 5 rfl, h.b2.cell 6 rfl, h.b2.cell 7 rfl, h.b2.cell 8 rfl, h.b2.cell 9 rfl, h.b2.cell 10 rfl, h.b2.cell 11 rfl, h.b2.cell 12 rfl, h.b2.cell 13 rfl, h.b2.cell 14 rfl⟩
theorem Aw.cells4 {w W : World} (h : Aw w W) : W.cell? ⟨w.heap.size + 4, 0, none⟩ = some (.int .i64 8) ∧ W.cell? ⟨w.heap.size + 4, 1, none⟩ = some (.string ⟨#[]⟩) ∧ W.cell? ⟨w.heap.size + 4, 2, none⟩ = some (.int .i64 0) ∧ W.cell? ⟨w.heap.size + 4, 3, none⟩ = some (.int .i64 0) ∧ W.cell? ⟨w.heap.size + 4, 4, none⟩ = some (.int .i64 0) ∧ W.cell? ⟨w.heap.size + 4, 5, none⟩ = some (.bool false) ∧ W.cell? ⟨w.heap.size + 4, 6, none⟩ = some (.bool false) ∧ W.cell? ⟨w.heap.size + 4, 7, none⟩ = some (.slice none 0 0) ∧ W.cell? ⟨w.heap.size + 4, 8, none⟩ = some (.bool false) ∧ W.cell? ⟨w.heap.size + 4, 9, none⟩ = some (.string ⟨#[]⟩) ∧ W.cell? ⟨w.heap.size + 4, 10, none⟩ = some (.slice none 0 0) ∧ W.cell? ⟨w.heap.size + 4, 11, none⟩ = some (.slice none 0 0) ∧ W.cell? ⟨w.heap.size + 4, 12, none⟩ = some (.slice (some ⟨w.heap.size + 3, 0, none⟩) 2 2) ∧ W.cell? ⟨w.heap.size + 4, 13, none⟩ = some (.slice none 0 0) ∧ W.cell? ⟨w.heap.size + 4, 14, none⟩ = some (.slice none 0 0) :=
  ⟨h.b4.cell 0 rfl, h.b4.cell 1 rfl, h.b4.cell 2 rfl, h.b4.cell 3 rfl, h.b4.cell 4 rfl, h.b4.cell 5 rfl, h.b4.cell 6 rfl, h.b4.cell 7 rfl, h.b4.cell 8 rfl, h.b4.cell 9 rfl, h.b4.cell 10 rfl, h.b4.cell 11 rfl, h.b4.cell 12 rfl, h.b4.cell 13 rfl, h.b4.cell 14 rfl⟩
theorem Aw.c1 {w W : World} (h : Aw w W) : Calls Try.prog 10 #[.slice none 0 0, .bool false, .agg #[.int .i64 10, .string ⟨#[]⟩, .int .i64 0, .int .i64 0, .int .i64 0, .bool false, .bool false, .slice none 0 0, .bool false, .string ⟨#[]⟩, .slice none 0 0, .slice none 0 0, .slice (some ⟨w.heap.size + 1, 0, none⟩) 2 2, .slice none 0 0, .slice none 0 0]] W fun e w' => ∃ v, e = .returned v ∧ w'.ownsRow W.heap.size 3 1 v 2 ([1, 5].map (Value.int .i64)) ∧ Below W.heap.size W w' := by
  have hc := Of_ok W el0 false (awC (w.heap.size + 1)) (el0_ok _ _) (awC_in h.b1 h.b1.lt) (Nat.zero_le _) (fun p hp => absurd hp (Nat.not_lt_zero p)) (by have := (awC_sz (w.heap.size + 1)).2; omega)
  refine hc.mono ?_
  rintro e w' ⟨v, xs, rfl, ho, ht, hb⟩
  obtain rfl := awC_tags ht
  exact ⟨v, rfl, ho, hb⟩
theorem Aw.c2 {w W : World} (h : Aw w W) : Calls Try.prog 11 #[.slice none 0 0, .bool false, .agg #[.int .i64 10, .string ⟨#[]⟩, .int .i64 0, .int .i64 0, .int .i64 0, .bool false, .bool false, .slice none 0 0, .bool false, .string ⟨#[]⟩, .slice none 0 0, .slice none 0 0, .slice (some ⟨w.heap.size + 1, 0, none⟩) 2 2, .slice none 0 0, .slice none 0 0]] W fun e w' => ∃ v, e = .returned v ∧ w'.ownsRow W.heap.size 3 1 v 2 ([1, 0].map (Value.int .i64)) ∧ Below W.heap.size W w' := by
  have hc := Order_ok W el0 false (awC (w.heap.size + 1)) (el0_ok _ _) (awC_in h.b1 h.b1.lt) (Nat.zero_le _) (fun p hp => absurd hp (Nat.not_lt_zero p)) (by have := (awC_sz (w.heap.size + 1)).2; omega) 1 (fun _ => ⟨rfl, by omega⟩)
  refine hc.mono ?_
  rintro e w' ⟨v, rfl, xs, ho, hb, _, hs⟩
  obtain ⟨S, rfl, hS⟩ := hs rfl
  have h0 : (S 0).least = 5 := least_one (by decide) fun x hx => (hS 0 (by show 0 < 2; omega) x hx).trans lf_tg.1
  have h1 : (S 1).least = 1 := least_one (by decide) fun x hx => (hS 1 (by show 1 < 2; omega) x hx).trans lf_tg.2
  rw [sort_two (key := fun j => (S j).least) (by show (S 1).least < (S 0).least; omega)] at ho
  exact ⟨v, rfl, ho, hb⟩
theorem check1 {W : World} {g : Nat} {e : ET} {cs : Array Value} (h : Bx W g cs 46) (hcs : cs.toList = e.cells) (hm : e.mod.size ≤ 1000) (hn : e.name.size ≤ 1000) (ht : TIn W.heap.size W e.t) (hs : e.t.sz ≤ 10000) :
    Calls Try.prog 7 #[.slice (some ⟨g, 0, none⟩) 1 1] W fun r w' => (∃ z : Int, r = .returned (.int .i64 z) ∧ ((z = 0 ∧ (e.auto = false → Rt (el1 g e) e.t)) ∨ (z = 8 ∧ ¬ (e.auto = false → Rt (el1 g e) e.t)))) ∧ Below W.heap.size W w' := by
  have hc := Check_ok W (el1 g e) (el1_ok h hcs h.lt hm hn ht) (by show 1 ≤ _; omega) (fun p hp => ⟨hs, Nat.le_trans e.t.wid_le hs⟩)
  rw [okAll1] at hc
  exact hc
theorem Aw.c3 {w W : World} (h : Aw w W) {g : Nat} (hx : Bx W g (e0 (awS (w.heap.size + 3))).cells.toArray 46) : Calls Try.prog 7 #[.slice (some ⟨g, 0, none⟩) 1 1] W fun r w' => r = .returned (.int .i64 8) ∧ Below W.heap.size W w' := by
  refine (check1 hx rfl (Nat.zero_le _) (Nat.zero_le _) (awS_in h.b3 h.b3.lt) (by have := (awS_sz (w.heap.size + 3)).1; show (awS _).sz ≤ _; omega)).mono ?_
  rintro e w' ⟨⟨z, rfl, hz⟩, hb⟩
  rcases hz with ⟨rfl, h1⟩ | ⟨rfl, _⟩
  · exact absurd (h1 rfl) (awS_rt _ _)
  · exact ⟨rfl, hb⟩
theorem Aw.c4 {w W : World} (h : Aw w W) {g : Nat} (hx : Bx W g (e0 (awC (w.heap.size + 1))).cells.toArray 46) : Calls Try.prog 7 #[.slice (some ⟨g, 0, none⟩) 1 1] W fun r w' => r = .returned (.int .i64 0) ∧ Below W.heap.size W w' := by
  refine (check1 hx rfl (Nat.zero_le _) (Nat.zero_le _) (awC_in h.b1 h.b1.lt) (by have := (awC_sz (w.heap.size + 1)).1; show (awC _).sz ≤ _; omega)).mono ?_
  rintro e w' ⟨⟨z, rfl, hz⟩, hb⟩
  rcases hz with ⟨rfl, _⟩ | ⟨rfl, h1⟩
  · exact ⟨rfl, hb⟩
  · exact absurd (fun _ => awC_rt _ _) h1
set_option maxHeartbeats 8000000 in
theorem awake13_ok (w : World) :
    Calls Try.prog 5 #[] w fun e w' => e = .returned (.bool true) ∧ Below w.heap.size w w' := by
  have hAw : Aw w (((((w.alloc (.cells (lfT 4).cells.toArray 35)).alloc (.cells awCp 42)).alloc (.cells (awC (w.heap.size + 1)).cells.toArray 35)).alloc (.cells awSp 42)).alloc (.cells (awS (w.heap.size + 3)).cells.toArray 35)) := by
    have c1 := Bx.new (w.alloc (.cells (lfT 4).cells.toArray 35)) awCp 42
    have c2 := Bx.new ((w.alloc (.cells (lfT 4).cells.toArray 35)).alloc (.cells awCp 42)) (awC (w.heap.size + 1)).cells.toArray 35
    have c3 := Bx.new (((w.alloc (.cells (lfT 4).cells.toArray 35)).alloc (.cells awCp 42)).alloc (.cells (awC (w.heap.size + 1)).cells.toArray 35)) awSp 42
    have c4 := Bx.new ((((w.alloc (.cells (lfT 4).cells.toArray 35)).alloc (.cells awCp 42)).alloc (.cells (awC (w.heap.size + 1)).cells.toArray 35)).alloc (.cells awSp 42)) (awS (w.heap.size + 3)).cells.toArray 35
    simp only [World.size_alloc, Nat.add_assoc, Nat.reduceAdd] at c1 c2 c3 c4
    have hb := ((((Below.refl w.heap.size w).alloc (Nat.le_refl _) (.cells (lfT 4).cells.toArray 35)).alloc (by simp) (.cells awCp 42)).alloc (by simp; omega) (.cells (awC (w.heap.size + 1)).cells.toArray 35)).alloc (by simp; omega) (.cells awSp 42)
    exact ⟨hb.alloc (by simp; omega) _, ((c1.alloc _).alloc _).alloc _, (c2.alloc _).alloc _, c3.alloc _, c4⟩
  have HA0 := Lib.hid hAw
  clear hAw
  go_enter Try.func5, Try.ntmps5
  go_wp2_with fail
  simp only [Nat.add_assoc, Nat.reduceAdd]
  obtain ⟨W, hW⟩ : ∃ W, ((((w.alloc (.cells (lfT 4).cells.toArray 35)).alloc (.cells awCp 42)).alloc (.cells (awC (w.heap.size + 1)).cells.toArray 35)).alloc (.cells awSp 42)).alloc (.cells (awS (w.heap.size + 3)).cells.toArray 35) = W := ⟨_, rfl⟩
  have HA := Lib.hid (show Aw w W from hW ▸ HA0.out)
  change Calls _ _ _ (((((w.alloc (.cells (lfT 4).cells.toArray 35)).alloc (.cells awCp 42)).alloc (.cells (awC (w.heap.size + 1)).cells.toArray 35)).alloc (.cells awSp 42)).alloc (.cells (awS (w.heap.size + 3)).cells.toArray 35)) _
  rw [hW]
  clear hW HA0
  refine HA.out.c1.mono ?_
  rintro e w1 ⟨v1, rfl, ho, hb⟩
  have HO := Lib.hid ho
  have HA1 := Lib.hid (HA.out.step hb)
  clear hb ho HA
  go_wp2_with fail
  refine (same_yes _ _ _ _ w1.heap.size 2 [1, 5] (World.ownsRow.alloc HO.out _) (int_row _ w1.heap.size #[.int .i64 1, .int .i64 5] w1.heap.size 2 (Bx.new _ _ _) (Nat.le_refl _) rfl (by unfold maxLen; omega)) (by omega) (by omega)).mono ?_
  rintro e w2 ⟨rfl, hb⟩
  have HA2 := Lib.hid (HA1.out.step (((Below.refl w1.heap.size w1).alloc (Nat.le_refl _) (.cells #[.int .i64 1, .int .i64 5] 3)).trans (hb.mono (by simp))))
  clear hb HA1 HO
  obtain ⟨k0, k1, k2, k3, k4, k5, k6, k7, k8, k9, k10, k11, k12, k13, k14⟩ := HA2.out.cells2
  go_wp2_with fail
  clear k0 k1 k2 k3 k4 k5 k6 k7 k8 k9 k10 k11 k12 k13 k14
  refine HA2.out.c2.mono ?_
  rintro e w3 ⟨v2, rfl, ho, hb⟩
  have HO := Lib.hid ho
  have HA3 := Lib.hid (HA2.out.step hb)
  clear hb ho HA2
  go_wp2_with fail
  refine (same_yes _ _ _ _ w3.heap.size 2 [1, 0] (World.ownsRow.alloc HO.out _) (int_row _ w3.heap.size #[.int .i64 1, .int .i64 0] w3.heap.size 2 (Bx.new _ _ _) (Nat.le_refl _) rfl (by unfold maxLen; omega)) (by omega) (by omega)).mono ?_
  rintro e w4 ⟨rfl, hb⟩
  have HA4 := Lib.hid (HA3.out.step (((Below.refl w3.heap.size w3).alloc (Nat.le_refl _) (.cells #[.int .i64 1, .int .i64 0] 3)).trans (hb.mono (by simp))))
  clear hb HA3 HO
  obtain ⟨k0, k1, k2, k3, k4, k5, k6, k7, k8, k9, k10, k11, k12, k13, k14⟩ := HA4.out.cells4
  go_wp2_with fail
  clear k0 k1 k2 k3 k4 k5 k6 k7 k8 k9 k10 k11 k12 k13 k14
  have hb5 := (Below.refl w4.heap.size w4).alloc (Nat.le_refl _) (.cells (e0 (awS (w.heap.size + 3))).cells.toArray 46)
  have HA5 := Lib.hid (HA4.out.step hb5)
  have HC := Lib.hid (HA5.out.c3 (Bx.new w4 _ _))
  clear hb5 HA4
  refine HC.out.mono ?_
  rintro e w6 ⟨rfl, hb⟩
  have HA6 := Lib.hid (HA5.out.step hb)
  clear hb HA5 HC
  obtain ⟨k0, k1, k2, k3, k4, k5, k6, k7, k8, k9, k10, k11, k12, k13, k14⟩ := HA6.out.cells2
  go_wp2_with fail
  clear k0 k1 k2 k3 k4 k5 k6 k7 k8 k9 k10 k11 k12 k13 k14
  have hb7 := (Below.refl w6.heap.size w6).alloc (Nat.le_refl _) (.cells (e0 (awC (w.heap.size + 1))).cells.toArray 46)
  have HA7 := Lib.hid (HA6.out.step hb7)
  have HC := Lib.hid (HA7.out.c4 (Bx.new w6 _ _))
  clear hb7 HA6
  refine HC.out.mono ?_
  rintro e w8 ⟨rfl, hb⟩
  have HA8 := Lib.hid (HA7.out.step hb)
  clear hb HA7 HC
  go_wp2_with fail
  go_ret
  exact ⟨rfl, HA8.out.below⟩
end Go.Proofs.Ytecedbjkebdeaaa
