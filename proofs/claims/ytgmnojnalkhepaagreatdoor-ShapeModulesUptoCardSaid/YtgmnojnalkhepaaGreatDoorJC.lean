/-
  A bundle of texts, one behind the other: ShT1A, ShT1B, ShT20, ShT2A.
-/
import Derived.Test.YtgmnojnalkhepaaGreatDoorJB
/-
  Package shape: which fields of a type are set (A).
-/
namespace Go.Proofs.YtgmnojnalkhepaaGreatDoor
open Go.RowKit
set_option linter.unusedVariables false
set_option linter.unusedSimpArgs false
set_option maxRecDepth 100000

set_option maxHeartbeats 16000000 in
theorem setInType_a (kd : Int) (tn : ByteArray) (op lo hi : Int) (lw hg : Bool) (ca : Option Addr) (cn cc : Nat) (ext : Bool) (fr : ByteArray) (sa : Option Addr) (sn sc : Nat) (ma : Option Addr) (mn mc : Nat) (pa : Option Addr) (pn pc : Nat) (aa : Option Addr) (an ac : Nat) (ea : Option Addr) (en ec : Nat) (w : World) (b0 b3 b4 b5 b6 b7 b8 : Bool) (h0 : (!tn.toList.isEmpty) = b0) (ho : op ≠ 0) (h3 : (!fr.toList.isEmpty) = b3) (h4 : decide (0 < sn) = b4) (h5 : decide (0 < mn) = b5) (h6 : decide (0 < pn) = b6) (h7 : decide (0 < an) = b7) (h8 : decide (0 < en) = b8) :
    Calls Tryz.prog 81 #[.agg #[.int .i64 kd, .string tn, .int .i64 op, .int .i64 lo, .int .i64 hi, .bool lw, .bool hg, .slice ca cn cc, .bool ext, .string fr, .slice sa sn sc, .slice ma mn mc, .slice pa pn pc, .slice aa an ac, .slice ea en ec]] w fun e w' => e = .returned (.agg #[.bool b0, .bool true, .bool ext, .bool b3, .bool b4, .bool b5, .bool b6, .bool b7, .bool b8]) ∧ Below w.heap.size w w' := by
  have z4 : decide ((0 : Int) < (sn : Int)) = b4 := by rw [← h4]; simp
  have z5 : decide ((0 : Int) < (mn : Int)) = b5 := by rw [← h5]; simp
  have z6 : decide ((0 : Int) < (pn : Int)) = b6 := by rw [← h6]; simp
  have z7 : decide ((0 : Int) < (an : Int)) = b7 := by rw [← h7]; simp
  have z8 : decide ((0 : Int) < (en : Int)) = b8 := by rw [← h8]; simp
  have hb1 : Below w.heap.size w ((w.alloc (.cells #[.int .i64 kd, .string tn, .int .i64 op, .int .i64 lo, .int .i64 hi, .bool lw, .bool hg, .slice ca cn cc, .bool ext, .string fr, .slice sa sn sc, .slice ma mn mc, .slice pa pn pc, .slice aa an ac, .slice ea en ec] 39)).alloc (.cells #[.bool false, .bool false, .bool false, .bool false, .bool false, .bool false, .bool false, .bool false, .bool false] 109)) := ((Below.refl _ _).alloc (Nat.le_refl _) _).alloc (by simp) _
  have hx := (Bx.new w #[.int .i64 kd, .string tn, .int .i64 op, .int .i64 lo, .int .i64 hi, .bool lw, .bool hg, .slice ca cn cc, .bool ext, .string fr, .slice sa sn sc, .slice ma mn mc, .slice pa pn pc, .slice aa an ac, .slice ea en ec] 39).alloc (.cells #[.bool false, .bool false, .bool false, .bool false, .bool false, .bool false, .bool false, .bool false, .bool false] 109)
  have hy := Bx.new (w.alloc (.cells #[.int .i64 kd, .string tn, .int .i64 op, .int .i64 lo, .int .i64 hi, .bool lw, .bool hg, .slice ca cn cc, .bool ext, .string fr, .slice sa sn sc, .slice ma mn mc, .slice pa pn pc, .slice aa an ac, .slice ea en ec] 39)) #[.bool false, .bool false, .bool false, .bool false, .bool false, .bool false, .bool false, .bool false, .bool false] 109
  have HB1 := Lib.hid hb1
  have HX := Lib.hid hx
  have HY := Lib.hid hy
  clear hb1 hx hy
  go_enter Tryz.func81, Tryz.ntmps81
  go_wp2_with fail
  generalize (w.alloc (.cells #[.int .i64 kd, .string tn, .int .i64 op, .int .i64 lo, .int .i64 hi, .bool lw, .bool hg, .slice ca cn cc, .bool ext, .string fr, .slice sa sn sc, .slice ma mn mc, .slice pa pn pc, .slice aa an ac, .slice ea en ec] 39)).alloc (.cells #[.bool false, .bool false, .bool false, .bool false, .bool false, .bool false, .bool false, .bool false, .bool false] 109) = W at *
  obtain ⟨g, hg⟩ : ∃ g, w.heap.size = g := ⟨_, rfl⟩
  have HG := Lib.hid hg
  have HY2 : Hid (Bx W (g + 1) #[.bool false, .bool false, .bool false, .bool false, .bool false, .bool false, .bool false, .bool false, .bool false] 109) := Lib.hid (by rw [← hg]; simpa using HY.out)
  rw [hg] at HX ⊢
  clear hg HY
  have c0 := HX.out.cell 0 rfl
  have c1 := HX.out.cell 1 rfl
  have c2 := HX.out.cell 2 rfl
  have c3 := HX.out.cell 3 rfl
  have c4 := HX.out.cell 4 rfl
  have c5 := HX.out.cell 5 rfl
  have c6 := HX.out.cell 6 rfl
  have c7 := HX.out.cell 7 rfl
  have c8 := HX.out.cell 8 rfl
  have c9 := HX.out.cell 9 rfl
  have c10 := HX.out.cell 10 rfl
  have c11 := HX.out.cell 11 rfl
  have c12 := HX.out.cell 12 rfl
  have c13 := HX.out.cell 13 rfl
  have c14 := HX.out.cell 14 rfl
  have q0 : (op != 0) = true := by simpa [bne] using ho
  go_still_tail 40, (by kernel_rfl)
  go_wp2_with (refine wpList_store_bx rfl 109 (.tmp 2) (.tmp 42) rfl 9 (g + 1) _ [.bool b0, .bool true, .bool ext, .bool b3, .bool b4, .bool b5, .bool b6, .bool b7, .bool b8] HY2.out rfl rfl (by kernel_rfl) (by simp [Value.oneCell']) rfl rfl ?_; intro w5 hz5 hx5 hb5 ho5; have HX5 := Lib.hid hx5; have HB5 := Lib.hid hb5; clear hz5 hx5 hb5 ho5)
  refine bodyPost_ret (v := .agg #[.bool b0, .bool true, .bool ext, .bool b3, .bool b4, .bool b5, .bool b6, .bool b7, .bool b8]) ?_ rfl ⟨rfl, ?_⟩
  · have d0 := HX5.out.cell 0 rfl
    have d1 := HX5.out.cell 1 rfl
    have d2 := HX5.out.cell 2 rfl
    have d3 := HX5.out.cell 3 rfl
    have d4 := HX5.out.cell 4 rfl
    have d5 := HX5.out.cell 5 rfl
    have d6 := HX5.out.cell 6 rfl
    have d7 := HX5.out.cell 7 rfl
    have d8 := HX5.out.cell 8 rfl
    clear c0 c1 c2 c3 c4 c5 c6 c7 c8 c9 c10 c11 c12 c13 c14
    simp at d0 d1 d2 d3 d4 d5 d6 d7 d8
    simp [results, Tryz.f81, go_sem, d0, d1, d2, d3, d4, d5, d6, d7, d8]
  · first | exact HB1.out.drew.trans (HB5.out.mono (by rw [HG.out]; exact Nat.le_succ g)) | (rw [← HG.out]; exact HB1.out.drew.trans (HB5.out.mono (by rw [HG.out]; exact Nat.le_succ g)))
end Go.Proofs.YtgmnojnalkhepaaGreatDoor

/-
  Package shape: which fields of a type are set (B).
-/
namespace Go.Proofs.YtgmnojnalkhepaaGreatDoor
open Go.RowKit
set_option linter.unusedVariables false
set_option linter.unusedSimpArgs false
set_option maxRecDepth 100000

theorem frozen_bx {W : World} {g : Nat} {cs : Array Value} {t : TypeId} (h : Bx W g cs t) (j : Nat) : W.frozen? ⟨g, j, none⟩ = false := by
  unfold Bx at h
  simp [World.frozen?, h]
theorem Bx.set {w : World} {g : Nat} {cs : Array Value} {t : TypeId} (h : Bx w g cs t) (j : Nat) (v : Value) : Bx (w.setCell ⟨g, j, none⟩ v) g (cs.setIfInBounds j v) t := by
  rw [setCell_eq_setRow w g j cs t (0, 0) v h]
  exact setRow_heap w g cs _ t _ h
theorem set9 (g base : Nat) (hb : base ≤ g) {w3 : World} {t : TypeId} (h : Bx w3 g #[.bool false, .bool false, .bool false, .bool false, .bool false, .bool false, .bool false, .bool false, .bool false] t) (v0 v1 v2 v3 v4 v5 v6 v7 v8 : Value) : Bx (((((((((w3.setCell ⟨g, 0, none⟩ v0).setCell ⟨g, 1, none⟩ v1).setCell ⟨g, 2, none⟩ v2).setCell ⟨g, 3, none⟩ v3).setCell ⟨g, 4, none⟩ v4).setCell ⟨g, 5, none⟩ v5).setCell ⟨g, 6, none⟩ v6).setCell ⟨g, 7, none⟩ v7).setCell ⟨g, 8, none⟩ v8) g #[v0, v1, v2, v3, v4, v5, v6, v7, v8] t ∧ Below base w3 (((((((((w3.setCell ⟨g, 0, none⟩ v0).setCell ⟨g, 1, none⟩ v1).setCell ⟨g, 2, none⟩ v2).setCell ⟨g, 3, none⟩ v3).setCell ⟨g, 4, none⟩ v4).setCell ⟨g, 5, none⟩ v5).setCell ⟨g, 6, none⟩ v6).setCell ⟨g, 7, none⟩ v7).setCell ⟨g, 8, none⟩ v8) := by
  have e0 : Bx _ g #[v0, .bool false, .bool false, .bool false, .bool false, .bool false, .bool false, .bool false, .bool false] t := h.set 0 v0
  have e1 : Bx _ g #[v0, v1, .bool false, .bool false, .bool false, .bool false, .bool false, .bool false, .bool false] t := e0.set 1 v1
  have e2 : Bx _ g #[v0, v1, v2, .bool false, .bool false, .bool false, .bool false, .bool false, .bool false] t := e1.set 2 v2
  have e3 : Bx _ g #[v0, v1, v2, v3, .bool false, .bool false, .bool false, .bool false, .bool false] t := e2.set 3 v3
  have e4 : Bx _ g #[v0, v1, v2, v3, v4, .bool false, .bool false, .bool false, .bool false] t := e3.set 4 v4
  have e5 : Bx _ g #[v0, v1, v2, v3, v4, v5, .bool false, .bool false, .bool false] t := e4.set 5 v5
  have e6 : Bx _ g #[v0, v1, v2, v3, v4, v5, v6, .bool false, .bool false] t := e5.set 6 v6
  have e7 : Bx _ g #[v0, v1, v2, v3, v4, v5, v6, v7, .bool false] t := e6.set 7 v7
  have e8 : Bx _ g #[v0, v1, v2, v3, v4, v5, v6, v7, v8] t := e7.set 8 v8
  exact ⟨e8, (((((((((Below.refl base w3).setCell (p := ⟨g, 0, none⟩) hb v0).setCell (p := ⟨g, 1, none⟩) hb v1).setCell (p := ⟨g, 2, none⟩) hb v2).setCell (p := ⟨g, 3, none⟩) hb v3).setCell (p := ⟨g, 4, none⟩) hb v4).setCell (p := ⟨g, 5, none⟩) hb v5).setCell (p := ⟨g, 6, none⟩) hb v6).setCell (p := ⟨g, 7, none⟩) hb v7).setCell (p := ⟨g, 8, none⟩) hb v8⟩
theorem bx_cells {g : Nat} {W : World} {kd : Int} {tn : ByteArray} {lo hi : Int} {lw hg : Bool} {ca : Option Addr} {cn cc : Nat} {ext : Bool} {fr : ByteArray} {sa : Option Addr} {sn sc : Nat} {ma : Option Addr} {mn mc : Nat} {pa : Option Addr} {pn pc : Nat} {aa : Option Addr} {an ac : Nat} {ea : Option Addr} {en ec : Nat} (h : Bx W g #[.int .i64 kd, .string tn, .int .i64 0, .int .i64 lo, .int .i64 hi, .bool lw, .bool hg, .slice ca cn cc, .bool ext, .string fr, .slice sa sn sc, .slice ma mn mc, .slice pa pn pc, .slice aa an ac, .slice ea en ec] 39) : W.cell? ⟨g, 0, none⟩ = some (.int .i64 kd) ∧ W.cell? ⟨g, 1, none⟩ = some (.string tn) ∧ W.cell? ⟨g, 2, none⟩ = some (.int .i64 0) ∧ W.cell? ⟨g, 3, none⟩ = some (.int .i64 lo) ∧ W.cell? ⟨g, 4, none⟩ = some (.int .i64 hi) ∧ W.cell? ⟨g, 5, none⟩ = some (.bool lw) ∧ W.cell? ⟨g, 6, none⟩ = some (.bool hg) ∧ W.cell? ⟨g, 7, none⟩ = some (.slice ca cn cc) ∧ W.cell? ⟨g, 8, none⟩ = some (.bool ext) ∧ W.cell? ⟨g, 9, none⟩ = some (.string fr) ∧ W.cell? ⟨g, 10, none⟩ = some (.slice sa sn sc) ∧ W.cell? ⟨g, 11, none⟩ = some (.slice ma mn mc) ∧ W.cell? ⟨g, 12, none⟩ = some (.slice pa pn pc) ∧ W.cell? ⟨g, 13, none⟩ = some (.slice aa an ac) ∧ W.cell? ⟨g, 14, none⟩ = some (.slice ea en ec) :=
  ⟨h.cell 0 rfl, h.cell 1 rfl, h.cell 2 rfl, h.cell 3 rfl, h.cell 4 rfl, h.cell 5 rfl, h.cell 6 rfl, h.cell 7 rfl, h.cell 8 rfl, h.cell 9 rfl, h.cell 10 rfl, h.cell 11 rfl, h.cell 12 rfl, h.cell 13 rfl, h.cell 14 rfl⟩
theorem cell_set {W : World} {a p : Addr} {v u : Value} (h : W.cell? a = some u) (hp : p.block ≠ a.block) : (W.setCell p v).cell? a = some u := (World.cell?_of_block (w := W) (Below.heap_setCell W p v a.block (fun e => hp e.symm))).trans h
theorem s15_set {g : Nat} {W : World} {kd : Int} {tn : ByteArray} {lo hi : Int} {lw hg : Bool} {ca : Option Addr} {cn cc : Nat} {ext : Bool} {fr : ByteArray} {sa : Option Addr} {sn sc : Nat} {ma : Option Addr} {mn mc : Nat} {pa : Option Addr} {pn pc : Nat} {aa : Option Addr} {an ac : Nat} {ea : Option Addr} {en ec : Nat} {p : Addr} {v : Value} (h : W.cell? ⟨g, 0, none⟩ = some (.int .i64 kd) ∧ W.cell? ⟨g, 1, none⟩ = some (.string tn) ∧ W.cell? ⟨g, 2, none⟩ = some (.int .i64 0) ∧ W.cell? ⟨g, 3, none⟩ = some (.int .i64 lo) ∧ W.cell? ⟨g, 4, none⟩ = some (.int .i64 hi) ∧ W.cell? ⟨g, 5, none⟩ = some (.bool lw) ∧ W.cell? ⟨g, 6, none⟩ = some (.bool hg) ∧ W.cell? ⟨g, 7, none⟩ = some (.slice ca cn cc) ∧ W.cell? ⟨g, 8, none⟩ = some (.bool ext) ∧ W.cell? ⟨g, 9, none⟩ = some (.string fr) ∧ W.cell? ⟨g, 10, none⟩ = some (.slice sa sn sc) ∧ W.cell? ⟨g, 11, none⟩ = some (.slice ma mn mc) ∧ W.cell? ⟨g, 12, none⟩ = some (.slice pa pn pc) ∧ W.cell? ⟨g, 13, none⟩ = some (.slice aa an ac) ∧ W.cell? ⟨g, 14, none⟩ = some (.slice ea en ec)) (hp : p.block ≠ g) : (W.setCell p v).cell? ⟨g, 0, none⟩ = some (.int .i64 kd) ∧ (W.setCell p v).cell? ⟨g, 1, none⟩ = some (.string tn) ∧ (W.setCell p v).cell? ⟨g, 2, none⟩ = some (.int .i64 0) ∧ (W.setCell p v).cell? ⟨g, 3, none⟩ = some (.int .i64 lo) ∧ (W.setCell p v).cell? ⟨g, 4, none⟩ = some (.int .i64 hi) ∧ (W.setCell p v).cell? ⟨g, 5, none⟩ = some (.bool lw) ∧ (W.setCell p v).cell? ⟨g, 6, none⟩ = some (.bool hg) ∧ (W.setCell p v).cell? ⟨g, 7, none⟩ = some (.slice ca cn cc) ∧ (W.setCell p v).cell? ⟨g, 8, none⟩ = some (.bool ext) ∧ (W.setCell p v).cell? ⟨g, 9, none⟩ = some (.string fr) ∧ (W.setCell p v).cell? ⟨g, 10, none⟩ = some (.slice sa sn sc) ∧ (W.setCell p v).cell? ⟨g, 11, none⟩ = some (.slice ma mn mc) ∧ (W.setCell p v).cell? ⟨g, 12, none⟩ = some (.slice pa pn pc) ∧ (W.setCell p v).cell? ⟨g, 13, none⟩ = some (.slice aa an ac) ∧ (W.setCell p v).cell? ⟨g, 14, none⟩ = some (.slice ea en ec) := by
  obtain ⟨h0, h1, h2, h3, h4, h5, h6, h7, h8, h9, h10, h11, h12, h13, h14⟩ := h
  exact ⟨cell_set h0 hp, cell_set h1 hp, cell_set h2 hp, cell_set h3 hp, cell_set h4 hp, cell_set h5 hp, cell_set h6 hp, cell_set h7 hp, cell_set h8 hp, cell_set h9 hp, cell_set h10 hp, cell_set h11 hp, cell_set h12 hp, cell_set h13 hp, cell_set h14 hp⟩
set_option maxHeartbeats 16000000 in
theorem setInType_b (kd : Int) (tn : ByteArray) (lo hi : Int) (lw hg : Bool) (ca : Option Addr) (cn cc : Nat) (ext : Bool) (fr : ByteArray) (sa : Option Addr) (sn sc : Nat) (ma : Option Addr) (mn mc : Nat) (pa : Option Addr) (pn pc : Nat) (aa : Option Addr) (an ac : Nat) (ea : Option Addr) (en ec : Nat) (w : World) (b0 b3 b4 b5 b6 b7 b8 : Bool) (h0 : (!tn.toList.isEmpty) = b0) (d1 d2 d5 r : Bool) (e1 : d1 = decide (lo ≠ 0)) (e2 : d2 = decide (hi ≠ 0)) (e5 : d5 = decide (0 < cn)) (er : (d1 || (d2 || (lw || (hg || d5)))) = r) (h3 : (!fr.toList.isEmpty) = b3) (h4 : decide (0 < sn) = b4) (h5 : decide (0 < mn) = b5) (h6 : decide (0 < pn) = b6) (h7 : decide (0 < an) = b7) (h8 : decide (0 < en) = b8) :
    Calls Tryz.prog 81 #[.agg #[.int .i64 kd, .string tn, .int .i64 0, .int .i64 lo, .int .i64 hi, .bool lw, .bool hg, .slice ca cn cc, .bool ext, .string fr, .slice sa sn sc, .slice ma mn mc, .slice pa pn pc, .slice aa an ac, .slice ea en ec]] w fun e w' => e = .returned (.agg #[.bool b0, .bool r, .bool ext, .bool b3, .bool b4, .bool b5, .bool b6, .bool b7, .bool b8]) ∧ Below w.heap.size w w' := by
  have z4 : decide ((0 : Int) < (sn : Int)) = b4 := by rw [← h4]; simp
  have z5 : decide ((0 : Int) < (mn : Int)) = b5 := by rw [← h5]; simp
  have z6 : decide ((0 : Int) < (pn : Int)) = b6 := by rw [← h6]; simp
  have z7 : decide ((0 : Int) < (an : Int)) = b7 := by rw [← h7]; simp
  have z8 : decide ((0 : Int) < (en : Int)) = b8 := by rw [← h8]; simp
  have hb1 : Below w.heap.size w ((w.alloc (.cells #[.int .i64 kd, .string tn, .int .i64 0, .int .i64 lo, .int .i64 hi, .bool lw, .bool hg, .slice ca cn cc, .bool ext, .string fr, .slice sa sn sc, .slice ma mn mc, .slice pa pn pc, .slice aa an ac, .slice ea en ec] 39)).alloc (.cells #[.bool false, .bool false, .bool false, .bool false, .bool false, .bool false, .bool false, .bool false, .bool false] 109)) := ((Below.refl _ _).alloc (Nat.le_refl _) _).alloc (by simp) _
  have hx := (Bx.new w #[.int .i64 kd, .string tn, .int .i64 0, .int .i64 lo, .int .i64 hi, .bool lw, .bool hg, .slice ca cn cc, .bool ext, .string fr, .slice sa sn sc, .slice ma mn mc, .slice pa pn pc, .slice aa an ac, .slice ea en ec] 39).alloc (.cells #[.bool false, .bool false, .bool false, .bool false, .bool false, .bool false, .bool false, .bool false, .bool false] 109)
  have hy := Bx.new (w.alloc (.cells #[.int .i64 kd, .string tn, .int .i64 0, .int .i64 lo, .int .i64 hi, .bool lw, .bool hg, .slice ca cn cc, .bool ext, .string fr, .slice sa sn sc, .slice ma mn mc, .slice pa pn pc, .slice aa an ac, .slice ea en ec] 39)) #[.bool false, .bool false, .bool false, .bool false, .bool false, .bool false, .bool false, .bool false, .bool false] 109
  have HB1 := Lib.hid hb1
  have HX := Lib.hid hx
  have HY := Lib.hid hy
  clear hb1 hx hy
  go_enter Tryz.func81, Tryz.ntmps81
  go_wp2_with fail
  generalize (w.alloc (.cells #[.int .i64 kd, .string tn, .int .i64 0, .int .i64 lo, .int .i64 hi, .bool lw, .bool hg, .slice ca cn cc, .bool ext, .string fr, .slice sa sn sc, .slice ma mn mc, .slice pa pn pc, .slice aa an ac, .slice ea en ec] 39)).alloc (.cells #[.bool false, .bool false, .bool false, .bool false, .bool false, .bool false, .bool false, .bool false, .bool false] 109) = W at *
  obtain ⟨g, hg⟩ : ∃ g, w.heap.size = g := ⟨_, rfl⟩
  have HG := Lib.hid hg
  have HY2 : Hid (Bx W (g + 1) #[.bool false, .bool false, .bool false, .bool false, .bool false, .bool false, .bool false, .bool false, .bool false] 109) := Lib.hid (by rw [← hg]; simpa using HY.out)
  rw [hg] at HX ⊢
  clear hg HY
  have c0 := HX.out.cell 0 rfl
  have c1 := HX.out.cell 1 rfl
  have c2 := HX.out.cell 2 rfl
  have c3 := HX.out.cell 3 rfl
  have c4 := HX.out.cell 4 rfl
  have c5 := HX.out.cell 5 rfl
  have c6 := HX.out.cell 6 rfl
  have c7 := HX.out.cell 7 rfl
  have c8 := HX.out.cell 8 rfl
  have c9 := HX.out.cell 9 rfl
  have c10 := HX.out.cell 10 rfl
  have c11 := HX.out.cell 11 rfl
  have c12 := HX.out.cell 12 rfl
  have c13 := HX.out.cell 13 rfl
  have c14 := HX.out.cell 14 rfl
  have HSF := Lib.hid (fun (w3 : World) (hb : Below W.drew.heap.size W.drew w3) => bx_cells (W := w3) (Bx.below (g := g) (w := W.drew) HX.out hb HX.out.lt))
  have HYF := Lib.hid (fun (w3 : World) (hb : Below W.drew.heap.size W.drew w3) => Bx.below (g := g + 1) (w := W.drew) HY2.out hb HY2.out.lt)
  have HS0 := Lib.hid (bx_cells (W := W.drew) HX.out)
  clear c0 c1 c2 c3 c4 c5 c6 c7 c8 c9 c10 c11 c12 c13 c14
  have hne := fun w => (neq_con d1 d2 lw hg d5 w).trans (by rw [er])
  have HC := Lib.hid (fun w => setInCon_ok 0 lo hi lw hg ca cn cc w d1 d2 d5 e1 e2 e5)
  clear e1 e2 e5 er HX HY2
  go_region_held3 (fun w' => w'.cell? ⟨g, 0, none⟩ = some (.int .i64 kd) ∧ w'.cell? ⟨g, 1, none⟩ = some (.string tn) ∧ w'.cell? ⟨g, 2, none⟩ = some (.int .i64 0) ∧ w'.cell? ⟨g, 3, none⟩ = some (.int .i64 lo) ∧ w'.cell? ⟨g, 4, none⟩ = some (.int .i64 hi) ∧ w'.cell? ⟨g, 5, none⟩ = some (.bool lw) ∧ w'.cell? ⟨g, 6, none⟩ = some (.bool hg) ∧ w'.cell? ⟨g, 7, none⟩ = some (.slice ca cn cc) ∧ w'.cell? ⟨g, 8, none⟩ = some (.bool ext) ∧ w'.cell? ⟨g, 9, none⟩ = some (.string fr) ∧ w'.cell? ⟨g, 10, none⟩ = some (.slice sa sn sc) ∧ w'.cell? ⟨g, 11, none⟩ = some (.slice ma mn mc) ∧ w'.cell? ⟨g, 12, none⟩ = some (.slice pa pn pc) ∧ w'.cell? ⟨g, 13, none⟩ = some (.slice aa an ac) ∧ w'.cell? ⟨g, 14, none⟩ = some (.slice ea en ec)) (first | with_reducible exact HS1.out | with_reducible exact HS0.out | (repeat (first | with_reducible exact HS1.out | (refine s15_set ?_ (by simp))))) (first
    | (go_at_call 100; refine (HC.out _).mono ?_; rintro e w3 ⟨rfl, hb⟩; have HB3 := Lib.hid hb; have HS1 := Lib.hid (HSF.out w3 hb); have HY3 := Lib.hid (HYF.out w3 hb); have d0 := HY3.out.cell 0 rfl; have d1x := HY3.out.cell 1 rfl; have d2x := HY3.out.cell 2 rfl; have d3 := HY3.out.cell 3 rfl; have d4 := HY3.out.cell 4 rfl; have d5x := HY3.out.cell 5 rfl; have d6 := HY3.out.cell 6 rfl; have d7 := HY3.out.cell 7 rfl; have d8 := HY3.out.cell 8 rfl; have f0 := fun j => frozen_bx HY3.out j; clear hb))
  have hs9 := set9 (g + 1) g (Nat.le_succ g) HY3.out (.bool b0) (.bool r) (.bool ext) (.bool b3) (.bool b4) (.bool b5) (.bool b6) (.bool b7) (.bool b8)
  have HX5 := Lib.hid hs9.1
  have HB5 := Lib.hid hs9.2
  clear hs9
  generalize (((((((((w3.setCell ⟨g + 1, 0, none⟩ (.bool b0)).setCell ⟨g + 1, 1, none⟩ (.bool r)).setCell ⟨g + 1, 2, none⟩ (.bool ext)).setCell ⟨g + 1, 3, none⟩ (.bool b3)).setCell ⟨g + 1, 4, none⟩ (.bool b4)).setCell ⟨g + 1, 5, none⟩ (.bool b5)).setCell ⟨g + 1, 6, none⟩ (.bool b6)).setCell ⟨g + 1, 7, none⟩ (.bool b7)).setCell ⟨g + 1, 8, none⟩ (.bool b8)) = w5 at *
  go_wp2_with fail
  refine bodyPost_ret (v := .agg #[.bool b0, .bool r, .bool ext, .bool b3, .bool b4, .bool b5, .bool b6, .bool b7, .bool b8]) ?_ rfl ⟨rfl, ?_⟩
  · clear d0 d1x d2x d3 d4 d5x d6 d7 d8
    have d0 := HX5.out.cell 0 rfl
    have d1x := HX5.out.cell 1 rfl
    have d2x := HX5.out.cell 2 rfl
    have d3 := HX5.out.cell 3 rfl
    have d4 := HX5.out.cell 4 rfl
    have d5x := HX5.out.cell 5 rfl
    have d6 := HX5.out.cell 6 rfl
    have d7 := HX5.out.cell 7 rfl
    have d8 := HX5.out.cell 8 rfl
    simp at d0 d1x d2x d3 d4 d5x d6 d7 d8
    simp [results, Tryz.f81, go_sem, d0, d1x, d2x, d3, d4, d5x, d6, d7, d8]
  · have h5 := HB5.out
    have hgg := HG.out
    have h6 := HB1.out.drew.trans (HB3.out.mono HB1.out.drew.size)
    first
      | (rw [← hgg] at h5; exact h6.trans h5)
      | (rw [← hgg] at h5 ⊢; exact h6.trans h5)

end Go.Proofs.YtgmnojnalkhepaaGreatDoor

/-
  Package shape: are the fields of a type as its Kind asks (0)?
-/
namespace Go.Proofs.YtgmnojnalkhepaaGreatDoor
open Go.RowKit
set_option linter.unusedVariables false
set_option linter.unusedSimpArgs false
set_option maxRecDepth 100000

/-- are just those fields set that a Kind asks for? -/
def tFlds (kd : Int) (b0 b1 ext b3 b4 b5 b6 b7 b8 : Bool) : Bool :=
  if kd = 1 ∨ kd = 4 then !b0 && (!b1 && (!ext && (!b3 && (!b4 && (!b5 && (!b6 && (!b7 && !b8)))))))
  else if kd = 2 ∨ kd = 5 ∨ kd = 6 then !b0 && ((!ext || b1) && (!b3 && (!b4 && (!b5 && (!b6 && (!b7 && !b8))))))
  else if kd = 7 then !b0 && ((!ext || b1) && (!b4 && (!b5 && (!b6 && (!b7 && !b8)))))
  else if kd = 3 then !b0 && (!b1 && (!b3 && (b4 && ((!b5 || ext) && (!b6 && (!b7 && !b8))))))
  else if kd = 8 then !b0 && (!b1 && (!b3 && (!b4 && (!b5 && ((!b7 || ext) && !b8)))))
  else if kd = 10 then !b0 && (!b1 && (!b3 && (!b4 && (!b5 && (b6 && ((!b7 || ext) && !b8))))))
  else if kd = 9 then !b0 && ((!ext || b1) && (!b3 && (!b4 && (!b5 && (!b6 && (!b7 && b8))))))
  else if kd = 11 then b0 && (!b1 && (!ext && (!b3 && (!b4 && (!b5 && (!b6 && (!b7 && !b8)))))))
  else false
theorem info_T15 : (Tryz.prog.info? 39).map (·.size) = some 15 := by kernel_rfl
set_option maxHeartbeats 8000000 in
theorem hasTy_1 (cs : List Value) (hl : cs.length = 15) (h0 : cs[0]? = some (.int .i64 1)) (w : World) (b0 b1 ext b3 b4 b5 b6 b7 b8 : Bool)
    (hs : ∀ w, Calls Tryz.prog 81 #[.agg cs.toArray] w fun e w' => e = .returned (.agg #[.bool b0, .bool b1, .bool ext, .bool b3, .bool b4, .bool b5, .bool b6, .bool b7, .bool b8]) ∧ Below w.heap.size w w') :
    Calls Tryz.prog 53 #[.agg cs.toArray] w fun e w' => e = .returned (.bool (tFlds 1 b0 b1 ext b3 b4 b5 b6 b7 b8)) ∧ Below w.heap.size w w' := by
  have HS := Lib.hid hs
  have HL := Lib.hid hl
  have H0 := Lib.hid (show cs.toArray[0]? = some (Value.int .i64 1) by simpa using h0)
  have HX := Lib.hid (Bx.new w cs.toArray 39)
  have HB0 := Lib.hid ((Below.refl w.heap.size w).alloc (Nat.le_refl _) (.cells cs.toArray 39))
  obtain ⟨r, hr⟩ : ∃ r, tFlds 1 b0 b1 ext b3 b4 b5 b6 b7 b8 = r := ⟨_, rfl⟩
  have HR := Lib.hid hr
  rw [hr]
  clear hs hl h0 hr
  go_enter Tryz.func53, Tryz.ntmps53
  go_wp2_with (refine wpList_load_mid rfl 39 (.tmp 1) rfl w.heap.size 0 rfl cs _ HX.out.range Tryz.underlying39 rfl (by rw [info_T15, HL.out]) ?_)
  refine (HS.out _).mono ?_
  rintro e w1 ⟨rfl, hb⟩
  have HB1 := Lib.hid (HB0.out.trans (hb.mono HB0.out.size))
  have hx1 := HX.out.below hb HX.out.lt
  have c0 : ∀ o, (w1.alloc o).cell? ⟨w.heap.size, 0, none⟩ = some (.int .i64 1) := fun o => (hx1.alloc o).cell 0 H0.out
  clear hb hx1 HX HS HB0 H0 HL
  go_wp2_with fail
  all_goals go_ret
  all_goals refine ⟨?_, HB1.out.alloc HB1.out.size _⟩
  all_goals (have hr := HR.out; clear HR HB1 c0; simp only [tFlds] at hr; simp_all)
end Go.Proofs.YtgmnojnalkhepaaGreatDoor

/-
  Package shape: are the fields of a type as its Kind asks (A)?
-/
namespace Go.Proofs.YtgmnojnalkhepaaGreatDoor
open Go.RowKit
set_option linter.unusedVariables false
set_option linter.unusedSimpArgs false
set_option maxRecDepth 100000

set_option maxHeartbeats 8000000 in
theorem hasTy_4 (cs : List Value) (hl : cs.length = 15) (h0 : cs[0]? = some (.int .i64 4)) (w : World) (b0 b1 ext b3 b4 b5 b6 b7 b8 : Bool)
    (hs : ∀ w, Calls Tryz.prog 81 #[.agg cs.toArray] w fun e w' => e = .returned (.agg #[.bool b0, .bool b1, .bool ext, .bool b3, .bool b4, .bool b5, .bool b6, .bool b7, .bool b8]) ∧ Below w.heap.size w w') :
    Calls Tryz.prog 53 #[.agg cs.toArray] w fun e w' => e = .returned (.bool (tFlds 4 b0 b1 ext b3 b4 b5 b6 b7 b8)) ∧ Below w.heap.size w w' := by
  have HS := Lib.hid hs
  have HL := Lib.hid hl
  have H0 := Lib.hid (show cs.toArray[0]? = some (Value.int .i64 4) by simpa using h0)
  have HX := Lib.hid (Bx.new w cs.toArray 39)
  have HB0 := Lib.hid ((Below.refl w.heap.size w).alloc (Nat.le_refl _) (.cells cs.toArray 39))
  obtain ⟨r, hr⟩ : ∃ r, tFlds 4 b0 b1 ext b3 b4 b5 b6 b7 b8 = r := ⟨_, rfl⟩
  have HR := Lib.hid hr
  rw [hr]
  clear hs hl h0 hr
  go_enter Tryz.func53, Tryz.ntmps53
  go_wp2_with (refine wpList_load_mid rfl 39 (.tmp 1) rfl w.heap.size 0 rfl cs _ HX.out.range Tryz.underlying39 rfl (by rw [info_T15, HL.out]) ?_)
  refine (HS.out _).mono ?_
  rintro e w1 ⟨rfl, hb⟩
  have HB1 := Lib.hid (HB0.out.trans (hb.mono HB0.out.size))
  have hx1 := HX.out.below hb HX.out.lt
  have c0 : ∀ o, (w1.alloc o).cell? ⟨w.heap.size, 0, none⟩ = some (.int .i64 4) := fun o => (hx1.alloc o).cell 0 H0.out
  clear hb hx1 HX HS HB0 H0 HL
  go_wp2_with fail
  all_goals go_ret
  all_goals refine ⟨?_, HB1.out.alloc HB1.out.size _⟩
  all_goals (have hr := HR.out; clear HR HB1 c0; simp only [tFlds] at hr; simp_all)
set_option maxHeartbeats 8000000 in
theorem hasTy_2 (cs : List Value) (hl : cs.length = 15) (h0 : cs[0]? = some (.int .i64 2)) (w : World) (b0 b1 ext b3 b4 b5 b6 b7 b8 : Bool)
    (hs : ∀ w, Calls Tryz.prog 81 #[.agg cs.toArray] w fun e w' => e = .returned (.agg #[.bool b0, .bool b1, .bool ext, .bool b3, .bool b4, .bool b5, .bool b6, .bool b7, .bool b8]) ∧ Below w.heap.size w w') :
    Calls Tryz.prog 53 #[.agg cs.toArray] w fun e w' => e = .returned (.bool (tFlds 2 b0 b1 ext b3 b4 b5 b6 b7 b8)) ∧ Below w.heap.size w w' := by
  have HS := Lib.hid hs
  have HL := Lib.hid hl
  have H0 := Lib.hid (show cs.toArray[0]? = some (Value.int .i64 2) by simpa using h0)
  have HX := Lib.hid (Bx.new w cs.toArray 39)
  have HB0 := Lib.hid ((Below.refl w.heap.size w).alloc (Nat.le_refl _) (.cells cs.toArray 39))
  obtain ⟨r, hr⟩ : ∃ r, tFlds 2 b0 b1 ext b3 b4 b5 b6 b7 b8 = r := ⟨_, rfl⟩
  have HR := Lib.hid hr
  rw [hr]
  clear hs hl h0 hr
  go_enter Tryz.func53, Tryz.ntmps53
  go_wp2_with (refine wpList_load_mid rfl 39 (.tmp 1) rfl w.heap.size 0 rfl cs _ HX.out.range Tryz.underlying39 rfl (by rw [info_T15, HL.out]) ?_)
  refine (HS.out _).mono ?_
  rintro e w1 ⟨rfl, hb⟩
  have HB1 := Lib.hid (HB0.out.trans (hb.mono HB0.out.size))
  have hx1 := HX.out.below hb HX.out.lt
  have c0 : ∀ o, (w1.alloc o).cell? ⟨w.heap.size, 0, none⟩ = some (.int .i64 2) := fun o => (hx1.alloc o).cell 0 H0.out
  clear hb hx1 HX HS HB0 H0 HL
  go_wp2_with fail
  all_goals go_ret
  all_goals refine ⟨?_, HB1.out.alloc HB1.out.size _⟩
  all_goals (have hr := HR.out; clear HR HB1 c0; simp only [tFlds] at hr; simp_all)
set_option maxHeartbeats 8000000 in
theorem hasTy_5 (cs : List Value) (hl : cs.length = 15) (h0 : cs[0]? = some (.int .i64 5)) (w : World) (b0 b1 ext b3 b4 b5 b6 b7 b8 : Bool)
    (hs : ∀ w, Calls Tryz.prog 81 #[.agg cs.toArray] w fun e w' => e = .returned (.agg #[.bool b0, .bool b1, .bool ext, .bool b3, .bool b4, .bool b5, .bool b6, .bool b7, .bool b8]) ∧ Below w.heap.size w w') :
    Calls Tryz.prog 53 #[.agg cs.toArray] w fun e w' => e = .returned (.bool (tFlds 5 b0 b1 ext b3 b4 b5 b6 b7 b8)) ∧ Below w.heap.size w w' := by
  have HS := Lib.hid hs
  have HL := Lib.hid hl
  have H0 := Lib.hid (show cs.toArray[0]? = some (Value.int .i64 5) by simpa using h0)
  have HX := Lib.hid (Bx.new w cs.toArray 39)
  have HB0 := Lib.hid ((Below.refl w.heap.size w).alloc (Nat.le_refl _) (.cells cs.toArray 39))
  obtain ⟨r, hr⟩ : ∃ r, tFlds 5 b0 b1 ext b3 b4 b5 b6 b7 b8 = r := ⟨_, rfl⟩
  have HR := Lib.hid hr
  rw [hr]
  clear hs hl h0 hr
  go_enter Tryz.func53, Tryz.ntmps53
  go_wp2_with (refine wpList_load_mid rfl 39 (.tmp 1) rfl w.heap.size 0 rfl cs _ HX.out.range Tryz.underlying39 rfl (by rw [info_T15, HL.out]) ?_)
  refine (HS.out _).mono ?_
  rintro e w1 ⟨rfl, hb⟩
  have HB1 := Lib.hid (HB0.out.trans (hb.mono HB0.out.size))
  have hx1 := HX.out.below hb HX.out.lt
  have c0 : ∀ o, (w1.alloc o).cell? ⟨w.heap.size, 0, none⟩ = some (.int .i64 5) := fun o => (hx1.alloc o).cell 0 H0.out
  clear hb hx1 HX HS HB0 H0 HL
  go_wp2_with fail
  all_goals go_ret
  all_goals refine ⟨?_, HB1.out.alloc HB1.out.size _⟩
  all_goals (have hr := HR.out; clear HR HB1 c0; simp only [tFlds] at hr; simp_all)
end Go.Proofs.YtgmnojnalkhepaaGreatDoor
