/-
  Package spans: 'joined', walked.
-/
import Derived.Test.YtfnpjdglfaaegaaSpJ
namespace Go.Proofs.Ytfnpjdglfaaegaa
open Go.RowKit Go.Shelf
set_option linter.unusedVariables false
set_option linter.unusedSimpArgs false
set_option maxRecDepth 100000

theorem JR.drew {w wr : World} {g cap : Nat} {l : List Rg} {i : Nat} {kept cur : List Rg} (h : JR w g cap l i kept cur wr) : JR w g cap l i kept cur wr.drew :=
  ⟨h.row.below (Below.refl _ _).drew, h.len, h.inv, h.head, h.tail, h.only.trans (Only.of_below (Below.refl _ _).drew)⟩
set_option maxHeartbeats 4000000 in
theorem joined_ok (w : World) (g cap n : Nat) (l : List Rg) (h : Row w g cap l) (hn : l.length = n) (hne : ∀ r ∈ l, r.1 ≤ r.2) (hb : Bd l) (hs : ∀ i j, i < j → j < l.length → l[i]!.1 ≤ l[j]!.1) (hl : n ≤ 1000000000) :
    Calls Try.prog 61 #[.slice (some ⟨g, 0, none⟩) n cap] w fun e w' => ∃ (r cur : List Rg), e = .returned (.slice (some ⟨g, 0, none⟩) r.length cap) ∧ JInv l r ∧ Row w' g cap cur ∧ cur.take r.length = r ∧ Only g w w' := by
  have HSTEP := Lib.hid (show ∀ i kept, i < l.length → JInv (l.take i) kept → JInv (l.take (i + 1)) (stp kept l[i]!) from fun i kept hi hk => by
    rw [take_succ_get hi]
    refine hk.step ?_ ?_ ?_
    · rw [getElem!_pos l i hi]; exact hne _ (List.getElem_mem hi)
    · exact hb.get hi
    · intro d hd
      obtain ⟨j, hj, rfl⟩ := List.mem_iff_getElem.1 hd
      have hj2 : j < i := by rw [List.length_take] at hj; omega
      have := hs j i hj2 hi
      rw [getElem!_pos l j (by omega)] at this
      rw [List.getElem_take]
      exact this)
  have HBD := Lib.hid hb
  have HN := Lib.hid hn
  have H0 := Lib.hid h
  have hcap := h.le
  rw [hn] at hcap
  clear h hn hne hb hs
  go_enter Try.func61, Try.ntmps61
  go_wp2_with fail
  go_loopw [3, 11] (fun kv iv wr => RelJ w g cap l kv iv wr) (fun _ iv _ => n - (Lib.intOf iv).toNat)
  case atStart => exact ⟨0, [], l, Nat.zero_le _, rfl, rfl, ⟨H0.out, rfl, JInv.nil, rfl, fun _ _ _ => rfl, Only.refl _ _⟩⟩
  case round =>
    obtain ⟨i, kept, cur, hi, rfl, rfl, hjr⟩ := hrel
    have HJ := Lib.hid hjr
    clear hjr
    by_cases hlt : i < n
    · have q1 : decide ((i : Int) < (n : Int)) = true := decide_eq_true (by omega)
      have q1n : decide (i < n) = true := decide_eq_true hlt
      have q3 : IntKind.i64.wrap ((i : Int) + 1) = ((i + 1 : Nat) : Int) := wrap_succ hlt (by omega)
      have hil : i < l.length := by have := HN.out; omega
      have hcl : cur.length = n := by rw [HJ.out.len]; exact HN.out
      have hkl : kept.length ≤ i := HJ.out.keptLe hi
      have HINV := Lib.hid (HSTEP.out i kept hil HJ.out.inv)
      obtain ⟨c1, c2⟩ := HJ.out.row.cell i (by omega)
      rw [HJ.out.tail i (Nat.le_refl _) hil] at c1 c2
      have HBI := Lib.hid (HBD.out.get hil)
      obtain ⟨x, hx⟩ : ∃ x, l[i]!.1 = x := ⟨_, rfl⟩
      obtain ⟨y, hy⟩ : ∃ y, l[i]!.2 = y := ⟨_, rfl⟩
      have hxy : l[i]! = (x, y) := by rw [← hx, ← hy]
      rw [hx] at c1 HBI
      rw [hy] at c2 HBI
      have HXY := Lib.hid hxy
      have hgw : g < wr.heap.size := HJ.out.row.lt
      have HR1 := Lib.hid (HJ.out.row.below ((Below.refl wr.heap.size wr).alloc (Nat.le_refl _) (.cells #[.int .i64 x, .int .i64 y] 51)))
      have HO1 := Lib.hid (HJ.out.only.trans (Only.of_below ((Below.refl wr.heap.size wr).alloc (Nat.le_refl _) (.cells #[.int .i64 x, .int .i64 y] 51))))
      have HX1 := Lib.hid (show (wr.alloc (.cells #[.int .i64 x, .int .i64 y] 51)).cell? ⟨wr.heap.size, 0, none⟩ = some (.int .i64 x) ∧ (wr.alloc (.cells #[.int .i64 x, .int .i64 y] 51)).cell? ⟨wr.heap.size, 1, none⟩ = some (.int .i64 y) ∧ wr.heap.size < (wr.alloc (.cells #[.int .i64 x, .int .i64 y] 51)).heap.size from ⟨by simp, by simp, by simp⟩)
      clear hx hy hxy
      rcases snoc_cases kept with rfl | ⟨a, k, rfl⟩
      · -- the first one
        simp only [List.length_nil] at hkl ⊢
        go_wp2_with fail
        generalize wr.alloc (.cells #[.int .i64 x, .int .i64 y] 51) = W1 at *
        generalize wr.heap.size = b at *
        obtain ⟨d1, d2, hb1⟩ := HX1.out
        clear c1 c2 HX1
        go_region
        have HR := Lib.hid (HR1.out.below (Below.refl W1.heap.size W1).drew)
        have HO := Lib.hid (HO1.out.trans (Only.of_below (Below.refl W1.heap.size W1).drew))
        have f1 : W1.drew.cell? ⟨b, 0, none⟩ = some (.int .i64 x) := d1
        have f2 : W1.drew.cell? ⟨b, 1, none⟩ = some (.int .i64 y) := d2
        clear HR1 HO1 d1 d2
        generalize W1.drew = W2 at *
        go_wp2_with (at_builtin; refine wpList_append_room rfl (.tmp 28) (.tmp 30) rfl g 0 cap cur rfl (HR.out.below ((Below.refl _ _).alloc (Nat.le_refl _) _)) (by omega) _ x y rfl (new_rg _ _ _) ?_; intro w4 hrow4 ho4; have HR4 := Lib.hid hrow4; have HO4 := Lib.hid (HO.out.trans ((Only.of_below ((Below.refl _ _).alloc (Nat.le_refl _) (.cells #[.int .i64 x, .int .i64 y] 51))).trans ho4)); clear hrow4 ho4)
        have HJ2 := Lib.hid (HJ.out.app hil (by rw [stp_nil]; rfl) HINV.out (by rw [HXY.out]; exact HR4.out) HO4.out)
        go_roundw
        case rel => exact ⟨i + 1, _, _, hil, rfl, rfl, HJ2.out⟩
        case measure => simp only [Lib.intOf]; omega
      · -- one before it
        obtain ⟨k1, k2⟩ := k
        obtain ⟨hal, hlast⟩ := HJ.out.last hi
        obtain ⟨m, hm⟩ : ∃ m, a.length = m := ⟨_, rfl⟩
        have HAM := Lib.hid hm
        have hkl2 : m + 1 ≤ i := by have := hkl; rw [List.length_append, List.length_singleton, hm] at this; exact this
        have e1 : (a ++ [(k1, k2)]).length = m + 1 := by rw [List.length_append, List.length_singleton, hm]
        rw [hm] at hal hlast
        obtain ⟨g1, g2⟩ := HR1.out.cell m hal
        rw [hlast] at g1 g2
        have hk2 : I64 k2 := (HJ.out.inv.bd (k1, k2) (by simp)).2
        have q5 : IntKind.i64.wrap (((m + 1 : Nat) : Int) - 1) = (m : Int) := by rw [IntKind.wrap_i64]; omega
        have q6 : decide ((m : Int) < 0) = false := decide_eq_false (by omega)
        have HLAST := Lib.hid hlast
        simp only [e1]
        clear hlast hm hkl
        go_wp2_with fail
        generalize wr.alloc (.cells #[.int .i64 x, .int .i64 y] 51) = W1 at *
        generalize wr.heap.size = b at *
        obtain ⟨d1, d2, hb1⟩ := HX1.out
        have p1 := fun d os => cell_regrown d1 d os
        have p2 := fun d os => cell_regrown d2 d os
        have p3 := fun d os => cell_regrown g1 d os
        have p4 := fun d os => cell_regrown g2 d os
        have hmcap : (m : Int) < ((m + 1 : Nat) : Int) := by omega
        have HCL := Lib.hid (fun (d : Nat) (os : Array Obj) => Calls.regrown_of (isApart_ok k1 k2 x y (Go.Sort.grow (redrawn W1 d) os) hk2 HBI.out.1))
        clear c1 c2 HX1 g1 g2 d1 d2
        by_cases hap : k2 + 1 < x
        · have e2 : decide (k2 + 1 < x) = true := decide_eq_true hap
          rw [e2] at HCL
          refine wp_region_quiet_below (by kernel_rfl) (by kernel_rfl) ?_
          go_big_quiet_step (fail)
          go_big_quiet_step (fail)
          go_big_quiet_step (fail)
          go_big_quiet_step (fail)
          go_big_quiet_step (fail)
          go_big_quiet_step (fail)
          go_big_quiet_step (fail)
          go_big_quiet_step (fail)
          go_big_quiet_step (exact HCL.out _ _)
          go_big_quiet_step (fail)
          refine wpQuiet_nil ?_
          intro _ hw'
          obtain ⟨⟨dq, osq⟩, hw''⟩ := hw'
          subst hw''
          have hb2 := below_regrown W1 dq osq
          have f1 := p1 dq osq
          have f2 := p2 dq osq
          have HR := Lib.hid (HR1.out.below hb2)
          have HO := Lib.hid (HO1.out.trans (Only.of_below hb2))
          clear p1 p2 p3 p4 HCL HR1 HO1 hb2
          generalize Go.Sort.grow (redrawn W1 dq) osq = W2 at *
          go_wp2_with (at_builtin; refine wpList_append_room rfl (.tmp 28) (.tmp 30) rfl g (m + 1) cap cur rfl (HR.out.below ((Below.refl _ _).alloc (Nat.le_refl _) _)) (by omega) _ x y rfl (new_rg _ _ _) ?_; intro w4 hrow4 ho4; have HR4 := Lib.hid hrow4; have HO4 := Lib.hid (HO.out.trans ((Only.of_below ((Below.refl _ _).alloc (Nat.le_refl _) (.cells #[.int .i64 x, .int .i64 y] 51))).trans ho4)); clear hrow4 ho4)
          have HJ2 := Lib.hid (HJ.out.app hil (by rw [HXY.out]; exact stp_apart hap) HINV.out (by rw [HXY.out, e1]; exact HR4.out) HO4.out)
          go_roundw
          case rel => exact ⟨i + 1, _, _, hil, rfl, by rw [List.length_append, e1]; rfl, HJ2.out⟩
          case measure => simp only [Lib.intOf]; omega
        · have e2 : decide (k2 + 1 < x) = false := decide_eq_false hap
          rw [e2] at HCL
          refine wp_region_quiet_below (by kernel_rfl) (by kernel_rfl) ?_
          go_big_quiet_step (fail)
          go_big_quiet_step (fail)
          go_big_quiet_step (fail)
          go_big_quiet_step (fail)
          go_big_quiet_step (fail)
          go_big_quiet_step (fail)
          go_big_quiet_step (fail)
          go_big_quiet_step (fail)
          go_big_quiet_step (exact HCL.out _ _)
          go_big_quiet_step (fail)
          refine wpQuiet_nil ?_
          intro _ hw'
          obtain ⟨⟨dq, osq⟩, hw''⟩ := hw'
          subst hw''
          have hb2 := below_regrown W1 dq osq
          have f1 := p1 dq osq
          have f2 := p2 dq osq
          have f4 := p4 dq osq
          have HR := Lib.hid (HR1.out.below hb2)
          have HO := Lib.hid (HO1.out.trans (Only.of_below hb2))
          have fz := HR.out.frozen (m * 2 + 1)
          clear p1 p2 p3 p4 HCL HR1 HO1 hb2
          generalize Go.Sort.grow (redrawn W1 dq) osq = W2 at *
          obtain ⟨z, hz⟩ : ∃ z, max k2 y = z := ⟨_, rfl⟩
          have HZ := Lib.hid hz
          have HJ2 := Lib.hid (HJ.out.join (z := z) hil (by rw [HXY.out, ← HZ.out]; exact stp_join hap) HINV.out (by have := HR.out.setHi hal z; rw [HLAST.out] at this; rw [HAM.out]; exact this) (HO.out.trans (Only.setCell _ _)))
          have e3 : (a ++ [(k1, z)]).length = m + 1 := by rw [List.length_append, List.length_singleton, HAM.out]
          go_wp2_with fail
          have hmc2 : (m : Int) < (m : Int) + 1 := by omega
          go_still_tail 12, (by kernel_rfl)
          go_wp2_with fail
          go_roundw
          case rel => exact ⟨i + 1, _, _, hil, rfl, by rw [e3], HJ2.out.drew⟩
          case measure => simp only [Lib.intOf]; omega
    · have q1 : decide ((i : Int) < (n : Int)) = false := decide_eq_false (by omega)
      have q1n : decide (i < n) = false := decide_eq_false hlt
      obtain rfl : i = l.length := by have := HN.out; omega
      have HI := HJ.out.inv
      rw [List.take_length] at HI
      have HI2 := Lib.hid HI
      clear HI
      go_wp2_with fail
      go_ret
      exact ⟨kept, cur, rfl, HI2.out, HJ.out.row, HJ.out.head, HJ.out.only⟩
end Go.Proofs.Ytfnpjdglfaaegaa
