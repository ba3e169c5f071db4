/-
  Package spans: Right.
-/
import Derived.Test.YtfnpjdglfaaegaaSpF
namespace Go.Proofs.Ytfnpjdglfaaegaa
open Go.RowKit Go.Shelf
set_option linter.unusedVariables false
set_option linter.unusedSimpArgs false
set_option maxRecDepth 100000

theorem rgt_prefix {s : List Rg} {i : Nat} (h : rgt s) : rgt (s.take i) := by
  have e := (List.take_append_drop i s).symm
  rw [e] at h
  exact (rgt_append.1 h).1
theorem take_last {s : List Rg} {j : Nat} (h : j < s.length) : s.take (j + 1) = s.take j ++ [s[j]!] := take_succ_get h
theorem rgt_first {s : List Rg} (h : 0 < s.length) (hne : s[0]!.1 ≤ s[0]!.2) : rgt (s.take 1) := by
  rw [show s.take 1 = s.take 0 ++ [s[0]!] from take_succ_get h]
  exact rgt_one.2 hne
theorem rgt_next {s : List Rg} {j : Nat} (h : j + 1 < s.length) (hr : rgt (s.take (j + 1))) (hne : s[j + 1]!.1 ≤ s[j + 1]!.2) (hap : s[j]!.2 + 1 < s[j + 1]!.1) : rgt (s.take (j + 1 + 1)) := by
  rw [take_succ_get h]
  rw [take_succ_get (show j < s.length by omega)] at hr ⊢
  exact rgt_snoc.2 ⟨hr, hap, hne⟩
theorem rgt_not_ne {s : List Rg} {j : Nat} (h : j < s.length) (hne : ¬ s[j]!.1 ≤ s[j]!.2) : ¬ rgt s := fun hr => hne (by
  have := hr.2 s[j]! (by rw [getElem!_pos s j h]; exact List.getElem_mem h)
  exact this)
theorem rgt_not_ap {s : List Rg} {j : Nat} (h : j + 1 < s.length) (hap : ¬ s[j]!.2 + 1 < s[j + 1]!.1) : ¬ rgt s := fun hr => hap (by
  have := rgt_prefix (i := j + 1 + 1) hr
  rw [take_succ_get h, take_succ_get (show j < s.length by omega)] at this
  exact (rgt_snoc.1 this).2.1)
def RelW (w : World) (s : List Rg) (iv : Value) (wr : World) : Prop :=
  ∃ i : Nat, i ≤ s.length ∧ iv = .int .i64 (i : Nat) ∧ rgt (s.take i) ∧ Below w.heap.size w wr
set_option maxHeartbeats 8000000 in
theorem Right_ok (w : World) (v : Value) (s : List Rg) (hv : RSl w v s) (hn : s.length ≤ 1000000) :
    Calls Try.prog 22 #[v] w fun e w' => ∃ b, e = .returned (.bool b) ∧ (b = true ↔ rgt s) ∧ Below w.heap.size w w' := by
  rcases hv.two with ⟨rfl, a, cap, rfl⟩ | ⟨g, o, cap, m, rfl, hsn, h0, hg, hd⟩
  · clear hv hn
    go_enter Try.func22, Try.ntmps22
    go_wp2_with fail
    go_loopw [7] (fun iv wr => iv = .int .i64 0 ∧ wr = w) (fun _ _ => 0)
    case atStart => exact ⟨rfl, rfl⟩
    case round =>
      obtain ⟨rfl, rfl⟩ := hrel
      go_wp2_with fail
      go_ret
      exact ⟨_, rfl, by simpa using rgt_nil, Below.refl _ _⟩
  · have HD := Lib.hid hd
    have HSN := Lib.hid hsn
    have HBD := Lib.hid hv.bd
    rw [hsn] at hn
    have HG := Lib.hid hg
    clear hv hd hsn hg
    go_enter Try.func22, Try.ntmps22
    go_wp2_with fail
    go_loopw [7] (fun iv wr => RelW w s iv wr) (fun iv _ => m - (Lib.intOf iv).toNat)
    case atStart => exact ⟨0, Nat.zero_le _, rfl, rgt_nil, Below.refl _ _⟩
    case round =>
      obtain ⟨i, hi, rfl, hr, hbel⟩ := hrel
      have HR := Lib.hid hr
      have HB := Lib.hid hbel
      have hbw := hbel.size
      clear hr hbel
      have hin : i ≤ m := by have := HSN.out; omega
      by_cases hlt : i < m
      · have q1 : decide ((i : Int) < (m : Int)) = true := decide_eq_true (by omega)
        have q1n : decide (i < m) = true := decide_eq_true hlt
        have q3 : IntKind.i64.wrap ((i : Int) + 1) = ((i + 1 : Nat) : Int) := wrap_succ hlt (by omega)
        have x1 : (i : Int) < (m : Int) := by omega
        have his : i < s.length := by have := HSN.out; omega
        have hgw : g < wr.heap.size := Nat.lt_of_lt_of_le HG.out hbw
        obtain ⟨c1, c2⟩ := HD.out i hlt wr HB.out
        obtain ⟨x, hx⟩ : ∃ x, s[i]!.1 = x := ⟨_, rfl⟩
        obtain ⟨y, hy⟩ : ∃ y, s[i]!.2 = y := ⟨_, rfl⟩
        rw [hx] at c1
        rw [hy] at c2
        have hbi := HBD.out.get his
        rw [hx, hy] at hbi
        have HBI := Lib.hid hbi
        have HXY := Lib.hid (And.intro hx hy)
        have hb1 := (Below.refl wr.heap.size wr).alloc (Nat.le_refl _) (.cells #[.int .i64 x, .int .i64 y] 51)
        have HX1 := Lib.hid (show (wr.alloc (.cells #[.int .i64 x, .int .i64 y] 51)).cell? ⟨wr.heap.size, 0, none⟩ = some (.int .i64 x) ∧ (wr.alloc (.cells #[.int .i64 x, .int .i64 y] 51)).cell? ⟨wr.heap.size, 1, none⟩ = some (.int .i64 y) from ⟨by simp, by simp⟩)
        have HB1 := Lib.hid (HB.out.trans (hb1.mono HB.out.size))
        clear hx hy hbi hb1
        go_wp2_with fail
        generalize wr.alloc (.cells #[.int .i64 x, .int .i64 y] 51) = W1 at *
        generalize wr.heap.size = b at *
        obtain ⟨d1, d2⟩ := HX1.out
        have p1 := fun d os => cell_regrown d1 d os
        have p2 := fun d os => cell_regrown d2 d os
        have HC1 := Lib.hid (fun (d : Nat) (os : Array Obj) => Calls.regrown_of (isEmpty_ok x y (Go.Sort.grow (redrawn W1 d) os)))
        clear c1 c2 HX1 d1 d2 HB
        by_cases he : y < x
        · have e1 : decide (y < x) = true := decide_eq_true he
          rw [e1] at HC1
          have HNR := Lib.hid (rgt_not_ne his (by rw [HXY.out.1, HXY.out.2]; omega))
          refine wp_region_quiet_below (by kernel_rfl) (by kernel_rfl) ?_
          go_big_quiet_step (fail)
          go_big_quiet_step (exact HC1.out _ _)
          go_big_quiet_step (fail)
          go_big_quiet_step (fail)
          go_big_quiet_step (fail)
          go_big_quiet_step (fail)
          go_big_quiet_step (fail)
          go_big_quiet_step (fail)
          go_big_quiet_step (fail)
          go_big_quiet_step (fail)
          go_big_quiet_step (fail)
          go_big_quiet_step (fail)
          go_big_quiet_step (fail)
          go_big_quiet_step (fail)
          go_big_quiet_step (fail)
          go_big_quiet_step (fail)
          refine wpQuiet_nil ?_
          intro _ hw'
          obtain ⟨⟨dq, osq⟩, hw''⟩ := hw'
          subst hw''
          have HB2 := Lib.hid (HB1.out.trans ((below_regrown W1 dq osq).mono HB1.out.size))
          clear p1 p2 HC1 HB1
          generalize Go.Sort.grow (redrawn W1 dq) osq = W2 at *
          go_wp2_with fail
          go_ret
          exact ⟨_, rfl, by simpa using HNR.out, HB2.out⟩
        · have e1 : decide (y < x) = false := decide_eq_false he
          rw [e1] at HC1
          rcases Nat.eq_zero_or_pos i with rfl | hi0
          · have q4 : decide ((0 : Int) < ((0 : Nat) : Int)) = false := rfl
            have HR2 := Lib.hid (rgt_first his (by rw [HXY.out.1, HXY.out.2]; omega))
            refine wp_region_quiet_below (by kernel_rfl) (by kernel_rfl) ?_
            go_big_quiet_step (fail)
            go_big_quiet_step (exact HC1.out _ _)
            go_big_quiet_step (fail)
            go_big_quiet_step (fail)
            go_big_quiet_step (fail)
            go_big_quiet_step (fail)
            go_big_quiet_step (fail)
            go_big_quiet_step (fail)
            go_big_quiet_step (fail)
            go_big_quiet_step (fail)
            go_big_quiet_step (fail)
            go_big_quiet_step (fail)
            go_big_quiet_step (fail)
            go_big_quiet_step (fail)
            go_big_quiet_step (fail)
            go_big_quiet_step (fail)
            refine wpQuiet_nil ?_
            intro _ hw'
            obtain ⟨⟨dq, osq⟩, hw''⟩ := hw'
            subst hw''
            have HB2 := Lib.hid (HB1.out.trans ((below_regrown W1 dq osq).mono HB1.out.size))
            clear p1 p2 HC1 HB1
            generalize Go.Sort.grow (redrawn W1 dq) osq = W2 at *
            go_wp2_with fail
            go_roundw
            case rel => exact ⟨1, his, rfl, HR2.out, HB2.out⟩
            case measure => simp only [Lib.intOf]; omega
          · obtain ⟨j, rfl⟩ : ∃ j, i = j + 1 := ⟨i - 1, by omega⟩
            have q4 : decide ((0 : Int) < ((j + 1 : Nat) : Int)) = true := decide_eq_true (by omega)
            have q4b : decide ((0 : Int) < (j : Int) + 1) = true := decide_eq_true (by omega)
            have q5 : IntKind.i64.wrap (((j + 1 : Nat) : Int) - 1) = (j : Int) := by rw [IntKind.wrap_i64]; omega
            have q5b : IntKind.i64.wrap ((j : Int) + 1 - 1) = (j : Int) := by rw [IntKind.wrap_i64]; omega
            have x2 : (j : Int) < (m : Int) := by omega
            obtain ⟨c3, c4⟩ := HD.out j (by omega) W1 HB1.out
            have hbj := HBD.out.get (show j < s.length by omega)
            obtain ⟨z, hz⟩ : ∃ z, s[j]!.1 = z := ⟨_, rfl⟩
            obtain ⟨u, hu⟩ : ∃ u, s[j]!.2 = u := ⟨_, rfl⟩
            rw [hz] at c3
            rw [hu] at c4 hbj
            have HU := Lib.hid hu
            have p3 := fun d os => cell_regrown c3 d os
            have p4 := fun d os => cell_regrown c4 d os
            have HC2 := Lib.hid (fun (d : Nat) (os : Array Obj) => Calls.regrown_of (isApart_ok z u x y (Go.Sort.grow (redrawn W1 d) os) hbj.2 HBI.out.1))
            clear c3 c4 hz hu hbj
            by_cases hap : u + 1 < x
            · have e2 : decide (u + 1 < x) = true := decide_eq_true hap
              rw [e2] at HC2
              have HR2 := Lib.hid (rgt_next his HR.out (by rw [HXY.out.1, HXY.out.2]; omega) (by rw [HXY.out.1, HU.out]; exact hap))
              refine wp_region_quiet_below (by kernel_rfl) (by kernel_rfl) ?_
              go_big_quiet_step (fail)
              go_big_quiet_step (exact HC1.out _ _)
              go_big_quiet_step (fail)
              go_big_quiet_step (fail)
              go_big_quiet_step (fail)
              go_big_quiet_step (fail)
              go_big_quiet_step (fail)
              go_big_quiet_step (fail)
              go_big_quiet_step (fail)
              go_big_quiet_step (fail)
              go_big_quiet_step (fail)
              go_big_quiet_step (fail)
              go_big_quiet_step (exact HC2.out _ _)
              go_big_quiet_step (fail)
              go_big_quiet_step (fail)
              go_big_quiet_step (fail)
              refine wpQuiet_nil ?_
              intro _ hw'
              obtain ⟨⟨dq, osq⟩, hw''⟩ := hw'
              subst hw''
              have HB2 := Lib.hid (HB1.out.trans ((below_regrown W1 dq osq).mono HB1.out.size))
              clear p1 p2 HC1 HB1 p3 p4 HC2
              generalize Go.Sort.grow (redrawn W1 dq) osq = W2 at *
              go_wp2_with fail
              go_roundw
              case rel => exact ⟨j + 1 + 1, his, rfl, HR2.out, HB2.out⟩
              case measure => simp only [Lib.intOf]; omega
            · have e2 : decide (u + 1 < x) = false := decide_eq_false hap
              rw [e2] at HC2
              have HNR := Lib.hid (rgt_not_ap his (by rw [HXY.out.1, HU.out]; exact hap))
              refine wp_region_quiet_below (by kernel_rfl) (by kernel_rfl) ?_
              go_big_quiet_step (fail)
              go_big_quiet_step (exact HC1.out _ _)
              go_big_quiet_step (fail)
              go_big_quiet_step (fail)
              go_big_quiet_step (fail)
              go_big_quiet_step (fail)
              go_big_quiet_step (fail)
              go_big_quiet_step (fail)
              go_big_quiet_step (fail)
              go_big_quiet_step (fail)
              go_big_quiet_step (fail)
              go_big_quiet_step (fail)
              go_big_quiet_step (exact HC2.out _ _)
              go_big_quiet_step (fail)
              go_big_quiet_step (fail)
              go_big_quiet_step (fail)
              refine wpQuiet_nil ?_
              intro _ hw'
              obtain ⟨⟨dq, osq⟩, hw''⟩ := hw'
              subst hw''
              have HB2 := Lib.hid (HB1.out.trans ((below_regrown W1 dq osq).mono HB1.out.size))
              clear p1 p2 HC1 HB1 p3 p4 HC2
              generalize Go.Sort.grow (redrawn W1 dq) osq = W2 at *
              go_wp2_with fail
              go_ret
              exact .inl ⟨rfl, HNR.out, HB2.out⟩
      · have q1 : decide ((i : Int) < (m : Int)) = false := decide_eq_false (by omega)
        have q1n : decide (i < m) = false := decide_eq_false hlt
        have HR2 := HR
        rw [List.take_of_length_le (by have := HSN.out; omega)] at HR2
        go_wp2_with fail
        go_ret
        exact ⟨_, rfl, by simpa using HR2.out, HB.out⟩
end Go.Proofs.Ytfnpjdglfaaegaa
