/-
  Package tags: 'give', 'giveAutomatic', 'universal'.
-/
import Derived.Test.YtecedbjkebdeaaaTgG2
import Derived.Test.YtecedbjkebdeaaaTgC
namespace Go.Proofs.Ytecedbjkebdeaaa
open Go.RowKit Go.Maps Go.WideElems Go.ChangeMaps Go.MapKept
set_option linter.unusedVariables false
set_option linter.unusedSimpArgs false
set_option maxRecDepth 100000

theorem info_i64 : (Try.prog.info? 3).map (fun i => (i.zero, i.size, i.bytes)) = some (some (.int .i64 0), 1, 8) := by kernel_rfl
/-- an element of a row of one cell -/
theorem own_read {w : World} {B n : Nat} {v : Value} {xs : List Value} (t e : TypeId) (hu : Try.prog.underlying t = some (.slice e)) (he : Try.prog.elem t = e) (hs : ∀ w, (sizeOf e).run Try.prog w = .ok 1 w) (h : w.ownsRow B e 1 v n xs) {i : Nat} (hi : i < n) :
    ∃ g cap, v = .slice (some ⟨g, 0, none⟩) n cap ∧ B ≤ g ∧ g < w.heap.size ∧ (∀ w, (Instr.indexAt t (.slice (some ⟨g, 0, none⟩) n cap) (.int .i64 (i : Nat))).run Try.prog w = .ok (.pointer (some ⟨g, i, none⟩)) w) ∧ ∀ j u, xs[j]? = some u → w.cell? ⟨g, j, none⟩ = some u := by
  obtain ⟨g, cap, rfl, hb, hlt⟩ := h.form (by omega)
  refine ⟨g, cap, rfl, hb, hlt, fun w => ?_, fun j u hj => ?_⟩
  · rw [run_indexAt_slice (h := by rw [he]; exact hu), if_pos (by omega), he, hs]
    simp [Result.andThen, Addr.add_mid]
  · have := h.cells (g := g) rfl j u hj
    rw [Addr.add_mid, Nat.zero_add] at this
    exact this
theorem range_at {f : Nat → Value} {m i : Nat} (hi : i < m) : ((List.range m).map f)[i]? = some (f i) := by simp [hi]
theorem nv_at {q : List Nat} {i n : Nat} (h : q[i]? = some n) : (q.map nv)[i]? = some (.int .i64 (n : Nat)) := by simp [h, nv]
theorem nv_one (n : Nat) : ∀ u ∈ [nv n], u.oneCell' = true := by intro u hu; rw [List.mem_singleton] at hu; subst hu; rfl
/-- whom a number gives to stays as it lies -/
def GvKeep (w : World) (V : GV) (w' : World) (V' : GV) : Prop := V'.ev = V.ev ∧ ∀ j k, j < w.heap.size → V.own j = .v k → w'.heap[j]? = w.heap[j]?
set_option maxHeartbeats 4000000 in
theorem give_ok2 (B : Nat) (w : World) (b : Nat) (l : EL) (G : GL) (V : GV) (n : Nat) (p : Option Nat) (T : TS) (h : GAt B w b l G V) (hB : B ≤ w.heap.size) (hn : n < G.m) (hl : G.live l n) (hT : TagsAt w p T) (hQ : G.Q.length ≤ 1000000000) :
    Calls Try.prog 26 #[.pointer (some ⟨b, 0, none⟩), .int .i64 (n : Nat), .map p] w fun e w' => e = .returned (.tuple #[]) ∧ ∃ V', GAt B w' b l (G.give n T) V' ∧ Mv V.own w V'.own w' ∧ GvKeep w V w' V' := by
  have HOB := Lib.hid h.ob
  have HQO := Lib.hid h.qo
  obtain ⟨i0, hi0, hz0, hz1, hz2⟩ := info_parts info_i64
  obtain ⟨k0, hk0, ho0, hs0⟩ := (h.sets n hn).1 hl
  obtain ⟨sg, scap, hsv, hsB, hslt, hix, hcell⟩ := own_read 57 52 Try.underlying57 (by kernel_rfl) Try.sizeOf52 h.s hn
  have c3 := h.bx.cell 3 (v := .slice (some ⟨sg, 0, none⟩) G.m scap) (by rw [← hsv]; rfl)
  have cn := hcell n _ (range_at hn)
  rw [hk0] at cn
  have HADD := Lib.hid (add_ok w k0 p (G.S n) T hs0 hT)
  have HS := Lib.hid (fun (w1 : World) (hg : w.grownBy w1 (some k0)) (hs : SetAt w1 k0 ((G.S n).or T)) => h.setS hn hk0 ho0 hg hs)
  have hlen := TS.or_len (G.S n) T
  have hlb := ((G.S n).or T).l_le
  have HGV := Lib.hid (show ∀ V' w', (if (G.S n).l.length < ((G.S n).or T).l.length then GAt B w' b l { G with S := (fun k => if k = n then (G.S n).or T else G.S k), Q := G.Q ++ [n] } V' else GAt B w' b l { G with S := fun k => if k = n then (G.S n).or T else G.S k } V') → GAt B w' b l (G.give n T) V' from fun V' w' h => by
    unfold GL.give
    by_cases hc : (G.S n).l.length < ((G.S n).or T).l.length
    · rw [if_pos hc] at h
      rw [if_pos hc]
      exact h
    · rw [if_neg hc] at h
      rw [if_neg hc]
      exact h)
  generalize ((G.S n).or T).l.length = x at *
  generalize (G.S n).l.length = y at *
  generalize hX : (G.S n).or T = X at *
  clear hcell hs0 hT
  by_cases hc : y < x
  · have q1 : decide ((0 : Int) < (x : Int) - (y : Int)) = true := decide_eq_true (by omega)
    go_enter Try.func26, Try.ntmps26
    go_wp2_with fail
    refine HADD.out.mono ?_
    rintro e w1 ⟨rfl, h1, h2⟩
    obtain ⟨ha, hmv⟩ := HS.out w1 h2 h1
    have HA := Lib.hid (fun o => ha.alloc o)
    have HMV := Lib.hid hmv
    have HBS := Lib.hid (Nat.le_trans hB h2.size)
    have c5 := ha.bx.cell 5 (v := V.qv) rfl
    have HLO := Lib.hid (fun k hk => (ha.lo k hk).2)
    have HG2 := Lib.hid h2
    clear ha hmv h1 h2 c3 cn hix
    go_wp2_with (at_builtin; refine wpList_append_lies _ rfl _ _ 37 rfl B 3 i0 (.int .i64 0) 1 8 Try.underlying37 hi0 hz0 hz1 hz2 rfl (by decide) V.qv G.Q.length (G.Q.map nv) rfl (HA.out _).q ⟨w1.heap.size, 0, none⟩ 1 1 [nv n] rfl rfl (cell_one_new w1 (nv n) _) (nv_one n) (by decide) (by unfold maxLen; omega) (by omega) (by have := HBS.out; simp; omega) (w1.heap.size + 1) (by simp) ?_; intro g cap w4 ho4 hg4 hat4 hlt4; have HO4 := Lib.hid ho4; have HG4 := Lib.hid hg4; have HT4 := Lib.hid hat4; have HL4 := Lib.hid hlt4; have hbx4 := (HA.out _).grown hg4 (fun k hk => by rw [(HA.out (.cells #[] 0)).qo k hk]; nofun); have c5' := hbx4.cell 5 (v := V.qv) rfl; have f5 := frozen_gx hbx4 5; clear ho4 hg4 hat4 hlt4 hbx4)
    go_end0
    have hgr := Grew.of (own := V.own) (ρ := .qr) HG4.out (HA.out (.cells #[] 0)).qo (by rcases HT4.out with h | h; exact .inl h; exact .inr (by rw [h]; simp)) HL4.out
    obtain ⟨h5, h6⟩ := (HA.out _).pushQ (by have := HBS.out; simp; omega) hgr (fun k hk => by cases hk; rfl) HO4.out
    refine ⟨rfl, { V with qv := .slice (some ⟨g, 0, none⟩) (G.Q.length + 1) cap, own := setOwn V.own g .qr }, HGV.out _ _ (by rw [if_pos hc]; exact h5), HMV.out.trans ((Mv.alloc _ _ _ HLO.out).trans h6), rfl, fun j k hj ho => ?_⟩
    have hsz1 := HG2.out.size
    refine (heap_field (fun e => by rw [e, HOB.out] at ho; cases ho)).trans ((HG4.out.block j (by simp; omega) (fun e => by rw [HQO.out j e.symm] at ho; cases ho)).trans ((Below.heap_alloc w1 _ j (by omega)).trans (HG2.out.block j hj (fun e => by rw [Option.some.inj e, ho0] at ho; cases ho))))
  · have q1 : decide ((0 : Int) < (x : Int) - (y : Int)) = false := decide_eq_false (by omega)
    go_enter Try.func26, Try.ntmps26
    go_wp2_with fail
    refine HADD.out.mono ?_
    rintro e w1 ⟨rfl, h1, h2⟩
    obtain ⟨ha, hmv⟩ := HS.out w1 h2 h1
    have HA := Lib.hid ha
    have HMV := Lib.hid hmv
    have HG2 := Lib.hid h2
    clear ha hmv h1 h2
    go_wp2_with fail
    go_end0
    exact ⟨rfl, V, HGV.out V w1 (by rw [if_neg hc]; exact HA.out), HMV.out, rfl, fun j k hj ho => HG2.out.block j hj (fun e => by rw [Option.some.inj e, ho0] at ho; cases ho)⟩
theorem give_ok (B : Nat) (w : World) (b : Nat) (l : EL) (G : GL) (V : GV) (n : Nat) (p : Option Nat) (T : TS) (h : GAt B w b l G V) (hB : B ≤ w.heap.size) (hn : n < G.m) (hl : G.live l n) (hT : TagsAt w p T) (hQ : G.Q.length ≤ 1000000000) :
    Calls Try.prog 26 #[.pointer (some ⟨b, 0, none⟩), .int .i64 (n : Nat), .map p] w fun e w' => e = .returned (.tuple #[]) ∧ ∃ V', GAt B w' b l (G.give n T) V' ∧ Mv V.own w V'.own w' :=
  (give_ok2 B w b l G V n p T h hB hn hl hT hQ).mono fun e w' ⟨h1, V', h2, h3, _⟩ => ⟨h1, V', h2, h3⟩
end Go.Proofs.Ytecedbjkebdeaaa
