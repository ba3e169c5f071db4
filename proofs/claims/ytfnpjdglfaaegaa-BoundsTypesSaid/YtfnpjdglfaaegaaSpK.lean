/-
  The document's answer for sets: where the pieces begin.
-/
import Derived.Test.YtfnpjdglfaaegaaSpG
namespace Go.Proofs.Ytfnpjdglfaaegaa
open Go.RowKit Go.Shelf
set_option linter.unusedVariables false
set_option linter.unusedSimpArgs false
set_option maxRecDepth 100000

/-- the numbers L hold those of L0 and all ends of s, as many as can be -/
structure StOf (L0 : List Int) (s : List Rg) (i : Nat) (L : List Int) : Prop where
  srt : Srt L
  old : ∀ x ∈ L0, x ∈ L
  cuts : Cuts L (s.take i)
  len : L.length ≤ L0.length + 2 * i
theorem StOf.place {L0 L L' : List Int} {s : List Rg} {i k : Nat} {n : Int} (hsrt : Srt L) (hold : ∀ x ∈ L0, x ∈ L) (h : Pl L n L') : ∀ x ∈ L0, x ∈ L' := fun x hx => (h.mem x).2 (.inr (hold x hx))
theorem Cuts.mono {L L' : List Int} {s : List Rg} (h : Cuts L s) (hl : ∀ x ∈ L, x ∈ L') : Cuts L' s := fun r hr hne => ⟨hl _ (h r hr hne).1, fun hm => hl _ ((h r hr hne).2 hm)⟩
theorem Cuts.snoc {L : List Int} {s : List Rg} {r : Rg} (h : Cuts L s) (hr : r.1 ≤ r.2 → r.1 ∈ L ∧ (r.2 < 9223372036854775807 → r.2 + 1 ∈ L)) : Cuts L (s ++ [r]) := by
  intro x hx
  rcases List.mem_append.1 hx with hx | hx
  · exact h x hx
  · obtain rfl : x = r := by simpa using hx
    exact hr
def RelS (w : World) (L0 : List Int) (s : List Rg) (lv iv : Value) (wr : World) : Prop :=
  ∃ (i : Nat) (L : List Int), i ≤ s.length ∧ iv = .int .i64 (i : Nat) ∧ ISl wr lv L ∧ StOf L0 s i L ∧ Below w.heap.size w wr
theorem StOf.none {L0 L : List Int} {s : List Rg} {i : Nat} (h : StOf L0 s i L) (hi : i < s.length) (hne : ¬ s[i]!.1 ≤ s[i]!.2) : StOf L0 s (i + 1) L :=
  ⟨h.srt, h.old, by rw [take_succ_get hi]; exact h.cuts.snoc (fun h2 => absurd h2 hne), by have := h.len; omega⟩
theorem StOf.one {L0 L L1 : List Int} {s : List Rg} {i : Nat} (h : StOf L0 s i L) (hi : i < s.length) (h1 : Pl L s[i]!.1 L1) (hm : ¬ s[i]!.2 < 9223372036854775807) : StOf L0 s (i + 1) L1 :=
  ⟨h1.srt, fun x hx => (h1.mem x).2 (.inr (h.old x hx)), by
    rw [take_succ_get hi]
    exact (h.cuts.mono (fun x hx => (h1.mem x).2 (.inr hx))).snoc (fun _ => ⟨(h1.mem _).2 (.inl rfl), fun h2 => absurd h2 hm⟩), by have := h.len; have := h1.len; omega⟩
theorem StOf.both {L0 L L1 L2 : List Int} {s : List Rg} {i : Nat} (h : StOf L0 s i L) (hi : i < s.length) (h1 : Pl L s[i]!.1 L1) (h2 : Pl L1 (s[i]!.2 + 1) L2) : StOf L0 s (i + 1) L2 :=
  ⟨h2.srt, fun x hx => (h2.mem x).2 (.inr ((h1.mem x).2 (.inr (h.old x hx)))), by
    rw [take_succ_get hi]
    exact (h.cuts.mono (fun x hx => (h2.mem x).2 (.inr ((h1.mem x).2 (.inr hx))))).snoc (fun _ => ⟨(h2.mem _).2 (.inr ((h1.mem _).2 (.inl rfl))), fun _ => (h2.mem _).2 (.inl rfl)⟩), by have := h.len; have := h1.len; have := h2.len; omega⟩
theorem ISl.shape {w : World} {v : Value} {l : List Int} (h : ISl w v l) : ∃ a cap, v = .slice a l.length cap := by
  obtain ⟨_, g, o, cap, e, _⟩ := h
  exact ⟨_, _, e⟩
set_option maxHeartbeats 4000000 in
theorem starts_ok (w : World) (lv v : Value) (L0 : List Int) (s : List Rg) (hL : ISl w lv L0) (hs : Srt L0) (hv : RSl w v s) (hn : s.length ≤ 1000) (hn0 : L0.length ≤ 10000) :
    Calls Try.prog 64 #[lv, v] w fun e w' => ∃ v' L, e = .returned v' ∧ ISl w' v' L ∧ StOf L0 s s.length L ∧ Below w.heap.size w w' := by
  have H0 := Lib.hid (show RelS w L0 s lv (.int .i64 0) w from ⟨0, L0, Nat.zero_le _, rfl, hL, ⟨hs, fun _ h => h, by intro r hr; simp at hr, by omega⟩, Below.refl _ _⟩)
  have HN0 := Lib.hid hn0
  rcases hv.two with ⟨rfl, a, cap, rfl⟩ | ⟨g, o, cap, m, rfl, hsn, h0, hg, hd⟩
  · clear hL hs hv hn hn0
    go_enter Try.func64, Try.ntmps64
    go_wp2_with fail
    go_loopw [0, 5] (fun lv iv wr => RelS w L0 [] lv iv wr) (fun _ _ _ => 0)
    case atStart => exact H0.out
    case round =>
      clear H0
      obtain ⟨i, L, hi, rfl, hil, hst, hbel⟩ := hrel
      obtain rfl : i = 0 := by simpa using hi
      have HI := Lib.hid hil
      have HS := Lib.hid hst
      have HB := Lib.hid hbel
      clear hil hst hbel hi
      go_wp2_with fail
      go_ret
      exact ⟨_, L, rfl, HI.out, HS.out, HB.out⟩
  · have HD := Lib.hid hd
    have HSN := Lib.hid hsn
    have HBD := Lib.hid hv.bd
    rw [hsn] at hn
    have HG := Lib.hid hg
    clear hL hs hv hd hsn hg hn0
    go_enter Try.func64, Try.ntmps64
    go_wp2_with fail
    go_loopw [0, 5] (fun lv iv wr => RelS w L0 s lv iv wr) (fun _ iv _ => m - (Lib.intOf iv).toNat)
    case atStart => exact H0.out
    case round =>
      clear H0
      obtain ⟨i, L, hi, rfl, hil, hst, hbel⟩ := hrel
      have HI := Lib.hid hil
      have HS := Lib.hid hst
      have HB := Lib.hid hbel
      have hbw := hbel.size
      clear hil hst hbel
      have hin : i ≤ m := by have := HSN.out; omega
      by_cases hlt : i < m
      · have q1 : decide ((i : Int) < (m : Int)) = true := decide_eq_true (by omega)
        have q1n : decide (i < m) = true := decide_eq_true hlt
        have q3 : IntKind.i64.wrap ((i : Int) + 1) = ((i + 1 : Nat) : Int) := wrap_succ hlt (by omega)
        have x1 : (i : Int) < (m : Int) := by omega
        have his : i < s.length := by have := HSN.out; omega
        have hgw : g < wr.heap.size := Nat.lt_of_lt_of_le HG.out hbw
        obtain ⟨c1, c2⟩ := HD.out i hlt wr HB.out
        have hb := HBD.out.get his
        have HNO := Lib.hid (fun h => HS.out.none his h)
        have HONE := Lib.hid (fun L1 h1 h2 => StOf.one (L1 := L1) HS.out his h1 h2)
        have HTWO := Lib.hid (fun L1 L2 h1 h2 => StOf.both (L1 := L1) (L2 := L2) HS.out his h1 h2)
        have HDI := Lib.hid (fun W hW => HD.out i hlt W hW)
        obtain ⟨x, hx⟩ : ∃ x, s[i]!.1 = x := ⟨_, rfl⟩
        obtain ⟨y, hy⟩ : ∃ y, s[i]!.2 = y := ⟨_, rfl⟩
        rw [hx, hy] at HNO HONE HTWO HDI hb
        rw [hx] at c1
        rw [hy] at c2
        have HBI := Lib.hid hb
        have hll : L.length ≤ 100000 := by have := HS.out.len; have := HN0.out; omega
        clear hx hy hb
        by_cases hxy : x ≤ y
        · have q4 : decide (x ≤ y) = true := decide_eq_true hxy
          go_wp2_with fail
          go_quiet (fail)
          generalize hW1 : wr.drewN _ = W1
          have hbw1 : Below wr.heap.size wr W1 := by rw [← hW1]; exact ⟨rfl, rfl, rfl, Nat.le_refl _, fun _ _ => rfl⟩
          have HB1 := Lib.hid (HB.out.trans (hbw1.mono HB.out.size))
          have HP1 := Lib.hid (place_ok W1 _ L x (HI.out.below hbw1) HS.out.srt HBI.out.1 (by omega))
          clear hW1 hbw1 c1 c2 HI HB hgw hbw
          obtain ⟨c1, c2⟩ := HDI.out W1 HB1.out
          have hgw : g < W1.heap.size := Nat.lt_of_lt_of_le HG.out HB1.out.size
          go_wp2_with fail
          refine HP1.out.mono ?_
          rintro e w2 ⟨v1, L1, rfl, h1, h2, hb⟩
          have HI2 := Lib.hid h1
          have HPL := Lib.hid h2
          have HB2 := Lib.hid (HB1.out.trans (hb.mono HB1.out.size))
          clear h1 h2 hb c1 c2 HP1 HB1 hgw
          obtain ⟨c1, c2⟩ := HDI.out w2 HB2.out
          have hgw : g < w2.heap.size := Nat.lt_of_lt_of_le HG.out HB2.out.size
          have hl1 : L1.length ≤ 200000 := by have := HPL.out.len; omega
          by_cases hm : y < 9223372036854775807
          · have q5 : decide (y < 9223372036854775807) = true := decide_eq_true hm
            obtain ⟨y1, hy1⟩ : ∃ y1, y + 1 = y1 := ⟨_, rfl⟩
            have hyi : I64 y1 := by have h1 := HBI.out.2; unfold I64 at *; omega
            have q6 : IntKind.i64.wrap (y + 1) = y1 := by rw [hy1]; exact wrap_ok hyi
            have HP2 := Lib.hid (place_ok w2 v1 L1 y1 HI2.out HPL.out.srt hyi (by omega))
            have HTW := Lib.hid (fun L2 h2 => HTWO.out L1 L2 HPL.out h2)
            rw [hy1] at HTW
            clear hy1 hyi
            go_wp2_with fail
            refine HP2.out.mono ?_
            rintro e w3 ⟨v2, L2, rfl, h1, h2, hb⟩
            have HI3 := Lib.hid h1
            have HS3 := Lib.hid (HTW.out L2 h2)
            have HB3 := Lib.hid (HB2.out.trans (hb.mono HB2.out.size))
            clear h1 h2 hb c1 c2 HP2 HB2 hgw
            go_wp2_with fail
            go_roundw
            case rel => exact ⟨i + 1, L2, his, rfl, HI3.out, HS3.out, HB3.out⟩
            case measure => simp only [Lib.intOf]; omega
          · have q5 : decide (y < 9223372036854775807) = false := decide_eq_false hm
            have HS3 := Lib.hid (HONE.out L1 HPL.out (by omega))
            go_wp2_with fail
            go_roundw
            case rel => exact ⟨i + 1, L1, his, rfl, HI2.out, HS3.out, HB2.out⟩
            case measure => simp only [Lib.intOf]; omega
        · have q4 : decide (x ≤ y) = false := decide_eq_false hxy
          have HS2 := Lib.hid (HNO.out hxy)
          go_wp2_with fail
          go_quiet (fail)
          clear c1 c2
          go_wp2_with fail
          go_roundw
          case rel => exact ⟨i + 1, L, his, rfl, HI.out.below (show Below wr.heap.size wr (wr.drewN _) from ⟨rfl, rfl, rfl, Nat.le_refl _, fun _ _ => rfl⟩), HS2.out, ⟨HB.out.os, HB.out.tape, HB.out.output, HB.out.size, HB.out.block⟩⟩
          case measure => simp only [Lib.intOf]; omega
      · have q1 : decide ((i : Int) < (m : Int)) = false := decide_eq_false (by omega)
        have q1n : decide (i < m) = false := decide_eq_false hlt
        obtain rfl : i = s.length := by have := HSN.out; omega
        go_wp2_with fail
        go_ret
        exact ⟨_, L, rfl, HI.out, HS.out, HB.out⟩
end Go.Proofs.Ytfnpjdglfaaegaa
