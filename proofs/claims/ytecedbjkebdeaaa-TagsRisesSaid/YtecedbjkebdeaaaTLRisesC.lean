/-
  Proved: the statement TagsRises (a type's tags rise, each once; an order has each place of its parts once; a choice has all tags that its parts have), for every input; no further condition. Ahead of it what its walk rests on.
-/
import Derived.Test.YtecedbjkebdeaaaTgOr
import Derived.BigRegion
import Derived.Test.YtecedbjkebdeaaaTgOr2
import Derived.Test.YtecedbjkebdeaaaTgFw
import Derived.Test.YtecedbjkebdeaaaTgH
import Derived.BigQuiet
import Derived.Test.YtecedbjkebdeaaaShO
import Derived.Test.YtecedbjkebdeaaaTgOf
import Derived.Test.YtecedbjkebdeaaaTgX
import Derived.Test.YtecedbjkebdeaaaRows
import Derived.OpenShut
import Derived.Test.YtecedbjkebdeaaaTgAw
import Derived.ProofKit
import Derived.ShutString
import Derived.ChangeOld
/-
  Package tags: the stable sort of more places: that the row stays a permutation. Exchanges.
-/
namespace Go.Proofs.Ytecedbjkebdeaaa
open Go.RowKit Go.Maps Go.WideElems Go.ChangeMaps Go.MapKept Go.Shelf Go.Sort Go.Lib
set_option linter.unusedVariables false
set_option linter.unusedSimpArgs false
set_option maxRecDepth 100000

/-- the world's row holds an arrangement of what d holds -/
def PW {k : Nat} (w : World) (blk : Nat) (d : Array (Fin (k + 1))) (X : World) : Prop := ∃ (m : Nat) (d' : Array (Fin (k + 1))), PermIn 0 d.size d d' ∧ X = (putRow encF w blk 0 d').drewN m
theorem PW.trans {k : Nat} {w : World} {blk : Nat} {d d' : Array (Fin (k + 1))} {X : World} (h : PermIn 0 d.size d d') (h2 : PW w blk d' X) : PW w blk d X := by
  obtain ⟨m, d2, hp, rfl⟩ := h2
  rw [h.1] at hp
  exact ⟨m, d2, permIn_trans _ _ _ _ _ h hp, rfl⟩
set_option maxHeartbeats 4000000 in
theorem swapRange_ok (k : Nat) (w : World) (blk cap : Nat) (d0 d : Array (Fin (k + 1))) (s : Nat) (hH : Holds encF w blk 0 d0) (h0 : d0.size = s) (hd : d.size = s) (a b n : Nat) (ha : a + n ≤ s) (hb : b + n ≤ s) (hs : s ≤ 1000) (f : Value) (m0 : Nat) :
    Calls Try.prog 78 #[.slice (some ⟨blk, 0, none⟩) s cap, .int .i64 (a : Nat), .int .i64 (b : Nat), .int .i64 (n : Nat), f] ((putRow encF w blk 0 d).drewN m0) fun e w' => e = .returned (.tuple #[]) ∧ PW w blk d w' := by
  have HH := Lib.hid hH
  have H0 := Lib.hid h0
  have HD := Lib.hid hd
  clear hH h0 hd
  go_enter Try.func78, Try.ntmps78
  go_wp2_with fail
  go_loopw [10] (fun iv wr => ∃ (i m : Nat) (d' : Array (Fin (k + 1))), i ≤ n ∧ iv = .int .i64 (i : Nat) ∧ PermIn 0 d.size d d' ∧ (putRow encF w blk 0 d').drewN m = wr) (fun iv _ => n - (Lib.intOf iv).toNat)
  case atStart => exact ⟨0, m0, d, Nat.zero_le _, rfl, permIn_refl _ _ _, rfl⟩
  case round =>
  obtain ⟨i, m, d', hi, rfl, hp, hw⟩ := hrel
  have hd' : d'.size = s := by rw [hp.1, HD.out]
  have HP := Lib.hid hp
  have HW := Lib.hid hw
  by_cases hlt : i < n
  · have q4 : decide ((i : Int) < (n : Int)) = true := decide_eq_true (by omega)
    have q4n : decide (i < n) = true := decide_eq_true hlt
    have q5 : IntKind.i64.wrap ((i : Int) + 1) = ((i + 1 : Nat) : Int) := wrap_succ hlt (by omega)
    obtain ⟨x, hx⟩ : ∃ x, a + i = x := ⟨_, rfl⟩
    obtain ⟨y, hy⟩ : ∃ y, b + i = y := ⟨_, rfl⟩
    have hxs : x < s := by omega
    have hys : y < s := by omega
    have q6 : IntKind.i64.wrap ((a : Int) + (i : Int)) = (x : Int) := by rw [wrap_ok (by unfold I64; omega)]; omega
    have q7 : IntKind.i64.wrap ((b : Int) + (i : Int)) = (y : Int) := by rw [wrap_ok (by unfold I64; omega)]; omega
    have hHd := holds_putRow encF w blk 0 d0 d' HH.out (by rw [hd', H0.out])
    obtain ⟨cx, fx⟩ := hHd x (by omega)
    obtain ⟨cy, fy⟩ := hHd y (by omega)
    obtain ⟨ex, hex⟩ : ∃ e, d'[x]! = e := ⟨_, rfl⟩
    obtain ⟨ey, hey⟩ : ∃ e, d'[y]! = e := ⟨_, rfl⟩
    rw [hex, Nat.zero_add] at cx
    rw [hey, Nat.zero_add] at cy
    rw [Nat.zero_add] at fx fy
    obtain ⟨px, hpx⟩ : ∃ px : Int, ((ex.val : Nat) : Int) = px := ⟨_, rfl⟩
    obtain ⟨py, hpy⟩ : ∃ py : Int, ((ey.val : Nat) : Int) = py := ⟨_, rfl⟩
    have cx' : wr.cell? ⟨blk, x, none⟩ = some (.int .i64 px) := by rw [← hw, ← hpx]; exact cx
    have cy' : wr.cell? ⟨blk, y, none⟩ = some (.int .i64 py) := by rw [← hw, ← hpy]; exact cy
    obtain ⟨u, hu⟩ : ∃ u, (wr.setCell ⟨blk, x, none⟩ (.int .i64 py)).cell? ⟨blk, y, none⟩ = some u := ⟨encF (d'.setIfInBounds x ey)[y]!, by
      have h := putRow_set encF w blk 0 d' x ey (by omega)
      have h2 := (holds_putRow encF w blk 0 d0 (d'.setIfInBounds x ey) HH.out (by rw [Array.size_setIfInBounds]; have := H0.out; omega) y (by rw [Array.size_setIfInBounds]; omega)).1
      rw [← h, Nat.zero_add, Nat.zero_add] at h2
      rw [← hw, ← hpy]
      exact h2⟩
    have fx' : wr.frozen? ⟨blk, x, none⟩ = false := by rw [← hw]; exact fx
    have fy' : wr.frozen? ⟨blk, y, none⟩ = false := by rw [← hw]; exact fy
    have HE := Lib.hid (And.intro hex hey)
    have HV := Lib.hid (And.intro hpx hpy)
    have lx : (x : Int) < (s : Int) := by omega
    have ly : (y : Int) < (s : Int) := by omega
    clear hx hy hHd cx cy fx fy hex hey hp hw hpx hpy
    go_wp2_with fail
    go_region
    all_goals go_wp2_with fail
    go_roundw
    case rel =>
      refine ⟨i + 1, m + 1, swp d' x y, hlt, rfl, permIn_trans _ _ _ _ _ HP.out (by rw [← HP.out.1]; exact swp_permIn d' 0 d'.size x y (Nat.zero_le _) (by omega) (Nat.zero_le _) (by omega) (Nat.le_refl _)), ?_⟩
      rw [← swap_worldC encF w blk 0 d' m x y (by omega) (by omega), HE.out.1, HE.out.2, HW.out, Nat.zero_add, Nat.zero_add]
      unfold encF
      rw [HV.out.1, HV.out.2]
    case measure => simp only [Lib.intOf]; omega
  · have q4 : decide ((i : Int) < (n : Int)) = false := decide_eq_false (by omega)
    have q4n : decide (i < n) = false := decide_eq_false hlt
    go_wp2_with fail
    go_end0
    exact ⟨rfl, m, d', HP.out, HW.out.symm⟩
end Go.Proofs.Ytecedbjkebdeaaa

/-
  Package tags: the stable sort of more places: that the row stays a permutation. Rotations.
-/
namespace Go.Proofs.Ytecedbjkebdeaaa
open Go.RowKit Go.Maps Go.WideElems Go.ChangeMaps Go.MapKept Go.Shelf Go.Sort Go.Lib
set_option linter.unusedVariables false
set_option linter.unusedSimpArgs false
set_option maxRecDepth 100000

set_option maxHeartbeats 400000 in
theorem rotate_ok (k : Nat) (w : World) (blk cap : Nat) (d0 d : Array (Fin (k + 1))) (s : Nat) (hH : Holds encF w blk 0 d0) (h0 : d0.size = s) (hd : d.size = s) (a m b : Nat) (ham : a < m) (hmb : m < b) (hbs : b ≤ s) (hs : s ≤ 1000) (f : Value) (m0 : Nat) :
    Calls Try.prog 62 #[.slice (some ⟨blk, 0, none⟩) s cap, .int .i64 (a : Nat), .int .i64 (m : Nat), .int .i64 (b : Nat), f] ((putRow encF w blk 0 d).drewN m0) fun e w' => e = .returned (.tuple #[]) ∧ PW w blk d w' := by
  have HD := Lib.hid hd
  have HS := Lib.hid (fun (d' : Array (Fin (k + 1))) (h : d'.size = s) (x y n : Nat) (hx : x + n ≤ s) (hy : y + n ≤ s) (mm : Nat) => swapRange_ok k w blk cap d0 d' s hH h0 h x y n hx hy hs f mm)
  obtain ⟨i0, hi0⟩ : ∃ i0, m - a = i0 := ⟨_, rfl⟩
  obtain ⟨j0, hj0⟩ : ∃ j0, b - m = j0 := ⟨_, rfl⟩
  have q1 : IntKind.i64.wrap ((m : Int) - (a : Int)) = (i0 : Int) := by rw [wrap_ok (by unfold I64; omega)]; omega
  have q2 : IntKind.i64.wrap ((b : Int) - (m : Int)) = (j0 : Int) := by rw [wrap_ok (by unfold I64; omega)]; omega
  clear hH h0 hd
  go_enter Try.func62, Try.ntmps62
  go_wp2_with fail
  go_loopw [10, 11] (fun iv jv wr => ∃ (i j mm : Nat) (d' : Array (Fin (k + 1))), iv = .int .i64 (i : Nat) ∧ jv = .int .i64 (j : Nat) ∧ 0 < i ∧ 0 < j ∧ i ≤ i0 ∧ j ≤ j0 ∧ PermIn 0 d.size d d' ∧ (putRow encF w blk 0 d').drewN mm = wr) (fun iv jv _ => (Lib.intOf iv).toNat + (Lib.intOf jv).toNat)
  case atStart => exact ⟨i0, j0, m0, d, rfl, rfl, by omega, by omega, Nat.le_refl _, Nat.le_refl _, permIn_refl _ _ _, rfl⟩
  case round =>
  obtain ⟨i, j, mm, d', rfl, rfl, hi, hj, hii, hjj, hp, hw⟩ := hrel
  have hd' : d'.size = s := by rw [hp.1, HD.out]
  have HP := Lib.hid hp
  clear hp
  obtain ⟨x, hx⟩ : ∃ x, m - i = x := ⟨_, rfl⟩
  have q6 : IntKind.i64.wrap ((m : Int) - (i : Int)) = (x : Int) := by rw [wrap_ok (by unfold I64; omega)]; omega
  by_cases he : i = j
  · subst he
    have q3 : ((i : Int) != (i : Int)) = false := by simp
    have hc := HS.out d' hd' x m i (by omega) (by omega) mm
    rw [hw] at hc
    have HC := Lib.hid hc
    clear hc hw hx
    go_wp2_with fail
    refine HC.out.mono ?_
    rintro e w' ⟨rfl, hw⟩
    have HW := Lib.hid hw
    clear hw
    go_wp2_with fail
    go_end0
    exact ⟨rfl, PW.trans HP.out HW.out⟩
  · have q3 : ((i : Int) != (j : Int)) = true := by simp; omega
    by_cases hlt : j < i
    · have q4 : decide ((j : Int) < (i : Int)) = true := decide_eq_true (by omega)
      have q4n : decide (j < i) = true := decide_eq_true hlt
      obtain ⟨z, hz⟩ : ∃ z, i - j = z := ⟨_, rfl⟩
      have q5 : IntKind.i64.wrap ((i : Int) - (j : Int)) = (z : Int) := by rw [wrap_ok (by unfold I64; omega)]; omega
      have hc := HS.out d' hd' x m j (by omega) (by omega) mm
      rw [hw] at hc
      have HC := Lib.hid hc
      have HZ := Lib.hid hz
      clear hc hw hx hz
      go_wp2_with fail
      refine HC.out.mono ?_
      rintro e w' ⟨rfl, m2, d2, hp2, rfl⟩
      have HP2 := Lib.hid (permIn_trans _ _ _ _ _ HP.out (show PermIn 0 d.size d' d2 by rw [← HP.out.1]; exact hp2))
      clear hp2 HC
      go_wp2_with fail
      go_roundw
      case rel => exact ⟨z, j, m2, d2, rfl, rfl, by have := HZ.out; omega, hj, by have := HZ.out; omega, hjj, HP2.out, (by first | rfl | trivial)⟩
      case measure => simp only [Lib.intOf]; have := HZ.out; omega
    · have q4 : decide ((j : Int) < (i : Int)) = false := decide_eq_false (by omega)
      have q4n : decide (j < i) = false := decide_eq_false hlt
      obtain ⟨z, hz⟩ : ∃ z, j - i = z := ⟨_, rfl⟩
      obtain ⟨y, hy⟩ : ∃ y, m + j - i = y := ⟨_, rfl⟩
      have q5 : IntKind.i64.wrap ((j : Int) - (i : Int)) = (z : Int) := by rw [wrap_ok (by unfold I64; omega)]; omega
      obtain ⟨u, hu⟩ : ∃ u, m + j = u := ⟨_, rfl⟩
      have q7 : IntKind.i64.wrap ((m : Int) + (j : Int)) = (u : Int) := by rw [wrap_ok (by unfold I64; omega)]; omega
      have q8 : IntKind.i64.wrap ((u : Int) - (i : Int)) = (y : Int) := by rw [wrap_ok (by unfold I64; omega)]; omega
      have hc := HS.out d' hd' x y i (by omega) (by omega) mm
      rw [hw] at hc
      have HC := Lib.hid hc
      have HZ := Lib.hid hz
      clear hc hw hx hz hy hu
      go_wp2_with fail
      refine HC.out.mono ?_
      rintro e w' ⟨rfl, m2, d2, hp2, rfl⟩
      have HP2 := Lib.hid (permIn_trans _ _ _ _ _ HP.out (show PermIn 0 d.size d' d2 by rw [← HP.out.1]; exact hp2))
      clear hp2 HC
      go_wp2_with fail
      go_roundw
      case rel => exact ⟨i, z, m2, d2, rfl, rfl, hi, by have := HZ.out; omega, hii, by have := HZ.out; omega, HP2.out, (by first | rfl | trivial)⟩
      case measure => simp only [Lib.intOf]; have := HZ.out; omega
end Go.Proofs.Ytecedbjkebdeaaa

/-
  Package tags: the stable sort of more places: that the row stays a permutation. Merging.
-/
namespace Go.Proofs.Ytecedbjkebdeaaa
open Go.RowKit Go.Maps Go.WideElems Go.ChangeMaps Go.MapKept Go.Shelf Go.Sort Go.Lib
set_option linter.unusedVariables false
set_option linter.unusedSimpArgs false
set_option maxRecDepth 100000

/-- a comparison that only reads, asked in whatever arrangement -/
def CmpAny {k : Nat} (w : World) (blk s : Nat) (cb : Array Value) (cf : Fin (k + 1) → Fin (k + 1) → Int) : Prop :=
  ∀ (d' : Array (Fin (k + 1))), d'.size = s → ∀ (x y : Fin (k + 1)) (mm : Nat), Calls Try.prog 23 (#[encF x, encF y] ++ cb) ((putRow encF w blk 0 d').drewN mm) fun e w' => e = .returned (.int .i64 (cf x y)) ∧ ∃ q, w' = ((putRow encF w blk 0 d').drewN mm).drewN q
set_option maxHeartbeats 1000000 in
theorem merge_one (k : Nat) (w : World) (blk cap : Nat) (d0 d : Array (Fin (k + 1))) (s : Nat) (p : Nat) (cf : Fin (k + 1) → Fin (k + 1) → Int) (hC : CmpAny (k := k) w blk s #[.pointer (some ⟨p, 0, none⟩)] cf) (hH : Holds encF w blk 0 d0) (h0 : d0.size = s) (hd : d.size = s) (a m b : Nat) (ham : m = a + 1) (hmb : m < b) (hbs : b ≤ s) (hs : s ≤ 1000) (m0 : Nat) :
    Calls Try.prog 54 #[.slice (some ⟨blk, 0, none⟩) s cap, .int .i64 (a : Nat), .int .i64 (m : Nat), .int .i64 (b : Nat), .func (.func 23) #[] #[.pointer (some ⟨p, 0, none⟩)]] ((putRow encF w blk 0 d).drewN m0) fun e w' => e = .returned (.tuple #[]) ∧ PW w blk d w' := by
  have HD := Lib.hid hd
  have HH := Lib.hid hH
  have H0 := Lib.hid h0
  have HC := Lib.hid hC
  have q1 : IntKind.i64.wrap ((m : Int) - (a : Int)) = 1 := by rw [wrap_ok (by unfold I64; omega)]; omega
  clear hH h0 hd hC
  go_enter Try.func54, Try.ntmps54
  go_wp2_with fail
  go_loopw [10, 11] (fun iv jv wr => ∃ (i j mm : Nat), iv = .int .i64 (i : Nat) ∧ jv = .int .i64 (j : Nat) ∧ m ≤ i ∧ i ≤ j ∧ j ≤ b ∧ (putRow encF w blk 0 d).drewN mm = wr) (fun iv jv _ => (Lib.intOf jv).toNat - (Lib.intOf iv).toNat)
  case atStart => exact ⟨m, b, m0, rfl, rfl, Nat.le_refl _, by omega, Nat.le_refl _, rfl⟩
  case round =>
  obtain ⟨i, j, mm, rfl, rfl, hi, hij, hj, hw⟩ := hrel
  by_cases hlt : i < j
  · have q4 : decide ((i : Int) < (j : Int)) = true := decide_eq_true (by omega)
    have q4n : decide (i < j) = true := decide_eq_true hlt
    obtain ⟨c, hc⟩ : ∃ c, i + j = c := ⟨_, rfl⟩
    have q5 : IntKind.i64.wrap ((i : Int) + (j : Int)) = (c : Int) := by rw [wrap_ok (by unfold I64; omega)]; omega
    obtain ⟨h, hh⟩ : ∃ h, c / 2 = h := ⟨_, rfl⟩
    have q6 : IntKind.u64.wrap (c : Int) = (c : Int) := by rw [IntKind.wrap_u64]; omega
    have q7 : (c : Int) / 2 = (h : Int) := by omega
    have q8 : IntKind.i64.wrap (h : Int) = (h : Int) := wrap_ok (by unfold I64; omega)
    go_wp2_with fail
    have hHd := holds_putRow encF w blk 0 d0 d HH.out (by rw [HD.out, H0.out])
    obtain ⟨ch, _⟩ := hHd h (by have := HD.out; omega)
    obtain ⟨ca, _⟩ := hHd a (by have := HD.out; omega)
    rw [Nat.zero_add] at ch ca
    have hcc : ∀ n, Calls Try.prog 23 (#[encF d[h]!, encF d[a]!] ++ #[.pointer (some ⟨p, 0, none⟩)]) (wr.drewN n) fun e w' => e = .returned (.int .i64 (cf d[h]! d[a]!)) ∧ ∃ q, w' = (wr.drewN n).drewN q := fun n => by
      have h1 := HC.out d HD.out d[h]! d[a]! (mm + n)
      rw [← World.drewN_drewN, hw] at h1
      exact h1
    obtain ⟨eh, heh⟩ : ∃ e, d[h]! = e := ⟨_, rfl⟩
    obtain ⟨ea, hea⟩ : ∃ e, d[a]! = e := ⟨_, rfl⟩
    rw [heh] at ch hcc
    rw [hea] at ca hcc
    have ch' : wr.cell? ⟨blk, h, none⟩ = some (.int .i64 ((eh.val : Nat) : Int)) := by rw [← hw]; exact ch
    have ca' : wr.cell? ⟨blk, a, none⟩ = some (.int .i64 ((ea.val : Nat) : Int)) := by rw [← hw]; exact ca
    obtain ⟨z, hz⟩ : ∃ z, cf eh ea = z := ⟨_, rfl⟩
    rw [hz] at hcc
    have HCC := Lib.hid (show ∀ n, Calls Try.prog 23 #[.int .i64 ((eh.val : Nat) : Int), .int .i64 ((ea.val : Nat) : Int), .pointer (some ⟨p, 0, none⟩)] (wr.drewN n) fun e w' => e = .returned (.int .i64 z) ∧ ∃ q, w' = (wr.drewN n).drewN q from hcc)
    have lh : (h : Int) < (s : Int) := by omega
    have la : (a : Int) < (s : Int) := by omega
    have HW := Lib.hid hw
    have HN := Lib.hid (And.intro hh hc)
    clear hcc ch ca hHd hz heh hea hw hh hc
    go_quiet (first | (go_at_fn 23; refine Calls.quiet_of (HCC.out _)) | (go_at_call 23; refine Calls.quiet_of (HCC.out _)))
    obtain ⟨zb, hzb⟩ : ∃ b, decide (z < 0) = b := ⟨_, rfl⟩
    cases zb with
    | true =>
      have hz0 : z < 0 := of_decide_eq_true hzb
      have q9 : IntKind.i64.wrap ((h : Int) + 1) = ((h + 1 : Nat) : Int) := by rw [wrap_ok (by unfold I64; omega)]; omega
      go_wp2_with fail
      go_roundw
      case rel => exact ⟨h + 1, j, _, rfl, rfl, by have := HN.out; omega, by have := HN.out; omega, hj, by rw [← World.drewN_drewN, HW.out]⟩
      case measure => simp only [Lib.intOf]; have := HN.out; omega
    | false =>
      have hz0 : ¬ z < 0 := of_decide_eq_false hzb
      go_wp2_with fail
      go_roundw
      case rel => exact ⟨i, h, _, rfl, rfl, hi, by have := HN.out; omega, by have := HN.out; omega, by rw [← World.drewN_drewN, HW.out]⟩
      case measure => simp only [Lib.intOf]; have := HN.out; omega
  · have q4 : decide ((i : Int) < (j : Int)) = false := decide_eq_false (by omega)
    have q4n : decide (i < j) = false := decide_eq_false hlt
    obtain rfl : i = j := by omega
    obtain ⟨i1, hi1⟩ : ∃ i1, i = i1 + 1 := ⟨i - 1, by omega⟩
    have q5 : IntKind.i64.wrap ((i : Int) - 1) = (i1 : Int) := by rw [wrap_ok (by unfold I64; omega)]; omega
    have HW := Lib.hid hw
    clear hw
    go_wp2_with fail
    rename World => wy
    go_loopw [13] (fun qv wx => ∃ (q mm : Nat) (d' : Array (Fin (k + 1))), qv = .int .i64 (q : Nat) ∧ a ≤ q ∧ q ≤ i1 ∧ PermIn 0 d.size d d' ∧ (putRow encF w blk 0 d').drewN mm = wx) (fun qv _ => i1 - (Lib.intOf qv).toNat)
    case atStart => exact ⟨a, mm, d, rfl, Nat.le_refl _, by omega, permIn_refl _ _ _, HW.out⟩
    case round =>
    clear q4 q4n
    obtain ⟨x, m2, d', rfl, hxa, hx1, hp, hw⟩ := hrel
    have hd' : d'.size = s := by rw [hp.1, HD.out]
    have HP := Lib.hid hp
    have HW2 := Lib.hid hw
    by_cases hlt2 : x < i1
    · have q4 : decide ((x : Int) < (i1 : Int)) = true := decide_eq_true (by omega)
      have q4n : decide (x < i1) = true := decide_eq_true hlt2
      obtain ⟨y, hy⟩ : ∃ y, x + 1 = y := ⟨_, rfl⟩
      have q6 : IntKind.i64.wrap ((x : Int) + 1) = (y : Int) := by rw [wrap_ok (by unfold I64; omega)]; omega
      have hHd := holds_putRow encF w blk 0 d0 d' HH.out (by rw [hd', H0.out])
      obtain ⟨cx, fx⟩ := hHd x (by omega)
      obtain ⟨cy, fy⟩ := hHd y (by omega)
      obtain ⟨ex, hex⟩ : ∃ e, d'[x]! = e := ⟨_, rfl⟩
      obtain ⟨ey, hey⟩ : ∃ e, d'[y]! = e := ⟨_, rfl⟩
      rw [hex, Nat.zero_add] at cx
      rw [hey, Nat.zero_add] at cy
      rw [Nat.zero_add] at fx fy
      obtain ⟨px, hpx⟩ : ∃ px : Int, ((ex.val : Nat) : Int) = px := ⟨_, rfl⟩
      obtain ⟨py, hpy⟩ : ∃ py : Int, ((ey.val : Nat) : Int) = py := ⟨_, rfl⟩
      have cx' : wr.cell? ⟨blk, x, none⟩ = some (.int .i64 px) := by rw [← hw, ← hpx]; exact cx
      have cy' : wr.cell? ⟨blk, y, none⟩ = some (.int .i64 py) := by rw [← hw, ← hpy]; exact cy
      obtain ⟨u, hu⟩ : ∃ u, (wr.setCell ⟨blk, x, none⟩ (.int .i64 py)).cell? ⟨blk, y, none⟩ = some u := ⟨encF (d'.setIfInBounds x ey)[y]!, by
        have h := putRow_set encF w blk 0 d' x ey (by omega)
        have h2 := (holds_putRow encF w blk 0 d0 (d'.setIfInBounds x ey) HH.out (by rw [Array.size_setIfInBounds]; have := H0.out; omega) y (by rw [Array.size_setIfInBounds]; omega)).1
        rw [← h, Nat.zero_add, Nat.zero_add] at h2
        rw [← hw, ← hpy]
        exact h2⟩
      have fx' : wr.frozen? ⟨blk, x, none⟩ = false := by rw [← hw]; exact fx
      have fy' : wr.frozen? ⟨blk, y, none⟩ = false := by rw [← hw]; exact fy
      have HE := Lib.hid (And.intro hex hey)
      have HV := Lib.hid (And.intro hpx hpy)
      have HY := Lib.hid hy
      have lx : (x : Int) < (s : Int) := by omega
      have ly : (y : Int) < (s : Int) := by omega
      have hys : y < s := by omega
      clear hy hHd cx cy fx fy hex hey hp hw hpx hpy
      go_wp2_with fail
      go_region
      all_goals go_wp2_with fail
      go_roundw
      case rel =>
        refine ⟨y, m2 + 1, swp d' x y, rfl, by have := HY.out; omega, by have := HY.out; omega, permIn_trans _ _ _ _ _ HP.out (by rw [← HP.out.1]; exact swp_permIn d' 0 d'.size x y (Nat.zero_le _) (by omega) (Nat.zero_le _) (by omega) (Nat.le_refl _)), ?_⟩
        rw [← swap_worldC encF w blk 0 d' m2 x y (by omega) (by omega), HE.out.1, HE.out.2, HW2.out, Nat.zero_add, Nat.zero_add]
        unfold encF
        rw [HV.out.1, HV.out.2]
      case measure => simp only [Lib.intOf]; have := HY.out; omega
    · have q4 : decide ((x : Int) < (i1 : Int)) = false := decide_eq_false (by omega)
      have q4n : decide (x < i1) = false := decide_eq_false hlt2
      go_wp2_with fail
      (try simp only [Exit.inBlock, Exit.then]); refine bodyPost_ret (results_none rfl _ _ _) rfl ?_
      exact ⟨rfl, m2, d', HP.out, HW2.out.symm⟩
end Go.Proofs.Ytecedbjkebdeaaa

/-
  Package tags: the stable sort of more places: that the row stays a permutation. Merging.
-/
namespace Go.Proofs.Ytecedbjkebdeaaa
open Go.RowKit Go.Maps Go.WideElems Go.ChangeMaps Go.MapKept Go.Shelf Go.Sort Go.Lib
set_option linter.unusedVariables false
set_option linter.unusedSimpArgs false
set_option maxRecDepth 100000

set_option maxHeartbeats 1000000 in
theorem merge_last (k : Nat) (w : World) (blk cap : Nat) (d0 d : Array (Fin (k + 1))) (s : Nat) (p : Nat) (cf : Fin (k + 1) → Fin (k + 1) → Int) (hC : CmpAny (k := k) w blk s #[.pointer (some ⟨p, 0, none⟩)] cf) (hH : Holds encF w blk 0 d0) (h0 : d0.size = s) (hd : d.size = s) (a m b : Nat) (ham : a < m) (hma : m - a ≠ 1) (hmb : b = m + 1) (hbs : b ≤ s) (hs : s ≤ 1000) (m0 : Nat) :
    Calls Try.prog 54 #[.slice (some ⟨blk, 0, none⟩) s cap, .int .i64 (a : Nat), .int .i64 (m : Nat), .int .i64 (b : Nat), .func (.func 23) #[] #[.pointer (some ⟨p, 0, none⟩)]] ((putRow encF w blk 0 d).drewN m0) fun e w' => e = .returned (.tuple #[]) ∧ PW w blk d w' := by
  have HD := Lib.hid hd
  have HH := Lib.hid hH
  have H0 := Lib.hid h0
  have HC := Lib.hid hC
  obtain ⟨n1, hn1⟩ : ∃ n1, m - a = n1 := ⟨_, rfl⟩
  have q1 : IntKind.i64.wrap ((m : Int) - (a : Int)) = (n1 : Int) := by rw [wrap_ok (by unfold I64; omega)]; omega
  have q1b : ((n1 : Int) == 1) = false := beq_eq_false_iff_ne.2 (by omega)
  have q2 : IntKind.i64.wrap ((b : Int) - (m : Int)) = 1 := by rw [wrap_ok (by unfold I64; omega)]; omega
  have hms : m < s := by omega
  clear hn1 hma hmb
  clear hH h0 hd hC
  go_enter Try.func54, Try.ntmps54
  go_wp2_with fail
  go_loopw [14, 15] (fun iv jv wr => ∃ (i j mm : Nat), iv = .int .i64 (i : Nat) ∧ jv = .int .i64 (j : Nat) ∧ a ≤ i ∧ i ≤ j ∧ j ≤ m ∧ (putRow encF w blk 0 d).drewN mm = wr) (fun iv jv _ => (Lib.intOf jv).toNat - (Lib.intOf iv).toNat)
  case atStart => exact ⟨a, m, m0, rfl, rfl, Nat.le_refl _, by omega, Nat.le_refl _, rfl⟩
  case round =>
  obtain ⟨i, j, mm, rfl, rfl, hi, hij, hj, hw⟩ := hrel
  by_cases hlt : i < j
  · have q4 : decide ((i : Int) < (j : Int)) = true := decide_eq_true (by omega)
    have q4n : decide (i < j) = true := decide_eq_true hlt
    obtain ⟨c, hc⟩ : ∃ c, i + j = c := ⟨_, rfl⟩
    have q5 : IntKind.i64.wrap ((i : Int) + (j : Int)) = (c : Int) := by rw [wrap_ok (by unfold I64; omega)]; omega
    obtain ⟨h, hh⟩ : ∃ h, c / 2 = h := ⟨_, rfl⟩
    have q6 : IntKind.u64.wrap (c : Int) = (c : Int) := by rw [IntKind.wrap_u64]; omega
    have q7 : (c : Int) / 2 = (h : Int) := by omega
    have q8 : IntKind.i64.wrap (h : Int) = (h : Int) := wrap_ok (by unfold I64; omega)
    go_wp2_with fail
    have hHd := holds_putRow encF w blk 0 d0 d HH.out (by rw [HD.out, H0.out])
    obtain ⟨ch, _⟩ := hHd h (by have := HD.out; omega)
    obtain ⟨ca, _⟩ := hHd m (by have := HD.out; omega)
    rw [Nat.zero_add] at ch ca
    have hcc : ∀ n, Calls Try.prog 23 (#[encF d[m]!, encF d[h]!] ++ #[.pointer (some ⟨p, 0, none⟩)]) (wr.drewN n) fun e w' => e = .returned (.int .i64 (cf d[m]! d[h]!)) ∧ ∃ q, w' = (wr.drewN n).drewN q := fun n => by
      have h1 := HC.out d HD.out d[m]! d[h]! (mm + n)
      rw [← World.drewN_drewN, hw] at h1
      exact h1
    obtain ⟨eh, heh⟩ : ∃ e, d[h]! = e := ⟨_, rfl⟩
    obtain ⟨ea, hea⟩ : ∃ e, d[m]! = e := ⟨_, rfl⟩
    rw [heh] at ch hcc
    rw [hea] at ca hcc
    have ch' : wr.cell? ⟨blk, h, none⟩ = some (.int .i64 ((eh.val : Nat) : Int)) := by rw [← hw]; exact ch
    have ca' : wr.cell? ⟨blk, m, none⟩ = some (.int .i64 ((ea.val : Nat) : Int)) := by rw [← hw]; exact ca
    obtain ⟨z, hz⟩ : ∃ z, cf ea eh = z := ⟨_, rfl⟩
    rw [hz] at hcc
    have HCC := Lib.hid (show ∀ n, Calls Try.prog 23 #[.int .i64 ((ea.val : Nat) : Int), .int .i64 ((eh.val : Nat) : Int), .pointer (some ⟨p, 0, none⟩)] (wr.drewN n) fun e w' => e = .returned (.int .i64 z) ∧ ∃ q, w' = (wr.drewN n).drewN q from hcc)
    have lh : (h : Int) < (s : Int) := by omega
    have la : (m : Int) < (s : Int) := by omega
    have HW := Lib.hid hw
    have HN := Lib.hid (And.intro hh hc)
    clear hcc ch ca hHd hz heh hea hw hh hc
    go_quiet (first | (go_at_fn 23; refine Calls.quiet_of (HCC.out _)) | (go_at_call 23; refine Calls.quiet_of (HCC.out _)))
    have q9 : IntKind.i64.wrap ((h : Int) + 1) = ((h + 1 : Nat) : Int) := by rw [wrap_ok (by unfold I64; have := HN.out; omega)]; omega
    go_wp2_with fail
    · go_roundw
      case rel => exact ⟨h + 1, j, _, rfl, rfl, by have := HN.out; omega, by have := HN.out; omega, hj, by rw [← World.drewN_drewN, HW.out]⟩
      case measure => simp only [Lib.intOf]; have := HN.out; omega
    · go_roundw
      case rel => exact ⟨i, h, _, rfl, rfl, hi, by have := HN.out; omega, by have := HN.out; omega, by rw [← World.drewN_drewN, HW.out]⟩
      case measure => simp only [Lib.intOf]; have := HN.out; omega
  · have q4 : decide ((i : Int) < (j : Int)) = false := decide_eq_false (by omega)
    have q4n : decide (i < j) = false := decide_eq_false hlt
    obtain rfl : i = j := by omega
    have HW := Lib.hid hw
    clear hw
    go_wp2_with fail
    rename World => wy
    go_loopw [17] (fun qv wx => ∃ (q mm : Nat) (d' : Array (Fin (k + 1))), qv = .int .i64 (q : Nat) ∧ i ≤ q ∧ q ≤ m ∧ PermIn 0 d.size d d' ∧ (putRow encF w blk 0 d').drewN mm = wx) (fun qv _ => (Lib.intOf qv).toNat)
    case atStart => exact ⟨m, mm, d, rfl, by omega, Nat.le_refl _, permIn_refl _ _ _, HW.out⟩
    case round =>
    clear q4 q4n
    obtain ⟨x, m2, d', rfl, hxa, hx1, hp, hw⟩ := hrel
    have hd' : d'.size = s := by rw [hp.1, HD.out]
    have HP := Lib.hid hp
    have HW2 := Lib.hid hw
    by_cases hlt2 : i < x
    · have q4 : decide ((i : Int) < (x : Int)) = true := decide_eq_true (by omega)
      have q4n : decide (i < x) = true := decide_eq_true hlt2
      obtain ⟨y, hy⟩ : ∃ y, y + 1 = x := ⟨x - 1, by omega⟩
      have q6 : IntKind.i64.wrap ((x : Int) - 1) = (y : Int) := by rw [wrap_ok (by unfold I64; omega)]; omega
      have hHd := holds_putRow encF w blk 0 d0 d' HH.out (by rw [hd', H0.out])
      obtain ⟨cx, fx⟩ := hHd x (by omega)
      obtain ⟨cy, fy⟩ := hHd y (by omega)
      obtain ⟨ex, hex⟩ : ∃ e, d'[x]! = e := ⟨_, rfl⟩
      obtain ⟨ey, hey⟩ : ∃ e, d'[y]! = e := ⟨_, rfl⟩
      rw [hex, Nat.zero_add] at cx
      rw [hey, Nat.zero_add] at cy
      rw [Nat.zero_add] at fx fy
      obtain ⟨px, hpx⟩ : ∃ px : Int, ((ex.val : Nat) : Int) = px := ⟨_, rfl⟩
      obtain ⟨py, hpy⟩ : ∃ py : Int, ((ey.val : Nat) : Int) = py := ⟨_, rfl⟩
      have cx' : wr.cell? ⟨blk, x, none⟩ = some (.int .i64 px) := by rw [← hw, ← hpx]; exact cx
      have cy' : wr.cell? ⟨blk, y, none⟩ = some (.int .i64 py) := by rw [← hw, ← hpy]; exact cy
      obtain ⟨u, hu⟩ : ∃ u, (wr.setCell ⟨blk, x, none⟩ (.int .i64 py)).cell? ⟨blk, y, none⟩ = some u := ⟨encF (d'.setIfInBounds x ey)[y]!, by
        have h := putRow_set encF w blk 0 d' x ey (by omega)
        have h2 := (holds_putRow encF w blk 0 d0 (d'.setIfInBounds x ey) HH.out (by rw [Array.size_setIfInBounds]; have := H0.out; omega) y (by rw [Array.size_setIfInBounds]; omega)).1
        rw [← h, Nat.zero_add, Nat.zero_add] at h2
        rw [← hw, ← hpy]
        exact h2⟩
      have fx' : wr.frozen? ⟨blk, x, none⟩ = false := by rw [← hw]; exact fx
      have fy' : wr.frozen? ⟨blk, y, none⟩ = false := by rw [← hw]; exact fy
      have HE := Lib.hid (And.intro hex hey)
      have HV := Lib.hid (And.intro hpx hpy)
      have HY := Lib.hid hy
      have lx : (x : Int) < (s : Int) := by omega
      have ly : (y : Int) < (s : Int) := by omega
      have hys : y < s := by omega
      clear hy hHd cx cy fx fy hex hey hp hw hpx hpy
      go_wp2_with fail
      go_region
      all_goals go_wp2_with fail
      go_roundw
      case rel =>
        refine ⟨y, m2 + 1, swp d' x y, rfl, by have := HY.out; omega, by have := HY.out; omega, permIn_trans _ _ _ _ _ HP.out (by rw [← HP.out.1]; exact swp_permIn d' 0 d'.size x y (Nat.zero_le _) (by omega) (Nat.zero_le _) (by omega) (Nat.le_refl _)), ?_⟩
        rw [← swap_worldC encF w blk 0 d' m2 x y (by omega) (by omega), HE.out.1, HE.out.2, HW2.out, Nat.zero_add, Nat.zero_add]
        unfold encF
        rw [HV.out.1, HV.out.2]
      case measure => simp only [Lib.intOf]; have := HY.out; omega
    · have q4 : decide ((i : Int) < (x : Int)) = false := decide_eq_false (by omega)
      have q4n : decide (i < x) = false := decide_eq_false hlt2
      go_wp2_with fail
      (try simp only [Exit.inBlock, Exit.then]); refine bodyPost_ret (results_none rfl _ _ _) rfl ?_
      exact ⟨rfl, m2, d', HP.out, HW2.out.symm⟩
end Go.Proofs.Ytecedbjkebdeaaa

/-
  Package tags: the stable sort of more places: merging, whole.
-/
namespace Go.Proofs.Ytecedbjkebdeaaa
open Go.RowKit Go.Maps Go.WideElems Go.ChangeMaps Go.MapKept Go.Shelf Go.Sort Go.Lib
set_option linter.unusedVariables false
set_option linter.unusedSimpArgs false
set_option maxRecDepth 100000

def MergeOk (k : Nat) (w : World) (blk cap s p a m b : Nat) (d : Array (Fin (k + 1))) (m0 : Nat) : Prop :=
  Calls Try.prog 54 #[.slice (some ⟨blk, 0, none⟩) s cap, .int .i64 (a : Nat), .int .i64 (m : Nat), .int .i64 (b : Nat), .func (.func 23) #[] #[.pointer (some ⟨p, 0, none⟩)]] ((putRow encF w blk 0 d).drewN m0) fun e w' => e = .returned (.tuple #[]) ∧ PW w blk d w'
set_option maxHeartbeats 4000000 in
theorem merge_step (k : Nat) (w : World) (blk cap : Nat) (d0 d : Array (Fin (k + 1))) (s : Nat) (p : Nat) (cf : Fin (k + 1) → Fin (k + 1) → Int) (hC : CmpAny (k := k) w blk s #[.pointer (some ⟨p, 0, none⟩)] cf) (hH : Holds encF w blk 0 d0) (h0 : d0.size = s) (hd : d.size = s) (a m b : Nat) (ham : a < m) (hma : m - a ≠ 1) (hmb : m < b) (hbm : b - m ≠ 1) (hbs : b ≤ s) (hs : s ≤ 1000) (m0 : Nat)
    (ih : ∀ (a' m' b' : Nat) (d' : Array (Fin (k + 1))) (mm : Nat), d'.size = s → b' - a' < b - a → a' < m' → m' < b' → b' ≤ s → MergeOk k w blk cap s p a' m' b' d' mm) : MergeOk k w blk cap s p a m b d m0 := by
  have HD := Lib.hid hd
  have HH := Lib.hid hH
  have H0 := Lib.hid h0
  have HC := Lib.hid hC
  have HROT := Lib.hid (fun (d' : Array (Fin (k + 1))) (h : d'.size = s) (x y z : Nat) (hxy : x < y) (hyz : y < z) (hz : z ≤ s) (f : Value) (mm : Nat) => rotate_ok k w blk cap d0 d' s hH h0 h x y z hxy hyz hz hs f mm)
  have HIH := Lib.hid ih
  obtain ⟨n1, hn1⟩ : ∃ n1, m - a = n1 := ⟨_, rfl⟩
  obtain ⟨n2, hn2⟩ : ∃ n2, b - m = n2 := ⟨_, rfl⟩
  have q1 : IntKind.i64.wrap ((m : Int) - (a : Int)) = (n1 : Int) := by rw [wrap_ok (by unfold I64; omega)]; omega
  have q1b : ((n1 : Int) == 1) = false := beq_eq_false_iff_ne.2 (by omega)
  have q2 : IntKind.i64.wrap ((b : Int) - (m : Int)) = (n2 : Int) := by rw [wrap_ok (by unfold I64; omega)]; omega
  have q2b : ((n2 : Int) == 1) = false := beq_eq_false_iff_ne.2 (by omega)
  obtain ⟨c, hc⟩ : ∃ c, a + b = c := ⟨_, rfl⟩
  obtain ⟨mid, hmid⟩ : ∃ mid, c / 2 = mid := ⟨_, rfl⟩
  have q3 : IntKind.i64.wrap ((a : Int) + (b : Int)) = (c : Int) := by rw [wrap_ok (by unfold I64; omega)]; omega
  have q4 : IntKind.u64.wrap (c : Int) = (c : Int) := by rw [IntKind.wrap_u64]; omega
  have q5 : (c : Int) / 2 = (mid : Int) := by omega
  have q6 : IntKind.i64.wrap (mid : Int) = (mid : Int) := wrap_ok (by unfold I64; omega)
  obtain ⟨n, hn⟩ : ∃ n, mid + m = n := ⟨_, rfl⟩
  have q7 : IntKind.i64.wrap ((mid : Int) + (m : Int)) = (n : Int) := by rw [wrap_ok (by unfold I64; omega)]; omega
  obtain ⟨pp, hpp⟩ : ∃ pp, n - 1 = pp := ⟨_, rfl⟩
  have q8 : IntKind.i64.wrap ((n : Int) - 1) = (pp : Int) := by rw [wrap_ok (by unfold I64; omega)]; omega
  have hF : a < mid ∧ mid < b ∧ pp + 1 = n ∧ mid + m = n := by omega
  clear hH h0 hd hC ih
  unfold MergeOk
  go_enter Try.func54, Try.ntmps54
  have hcases : (∃ st0 r0 : Nat, (mid < m ∧ n - b = st0 ∧ mid = r0) ∧ (a ≤ st0 ∧ st0 ≤ r0 ∧ r0 ≤ mid ∧ n - st0 ≤ b ∧ m ≤ n - r0 ∧ mid ≤ n - r0 ∧ st0 < n)) ∨ (∃ st0 r0 : Nat, (m ≤ mid ∧ a = st0 ∧ m = r0) ∧ (a ≤ st0 ∧ st0 ≤ r0 ∧ r0 ≤ mid ∧ n - st0 ≤ b ∧ m ≤ n - r0 ∧ mid ≤ n - r0 ∧ st0 < n)) := by
    rcases Nat.lt_or_ge mid m with h | h
    · exact .inl ⟨n - b, mid, ⟨h, rfl, rfl⟩, by omega⟩
    · exact .inr ⟨a, m, ⟨h, rfl, rfl⟩, by omega⟩
  rcases hcases with ⟨st0, r0, ⟨hx1, hx2, hx3⟩, hinv⟩ | ⟨st0, r0, ⟨hx1, hx2, hx3⟩, hinv⟩
  · have r1 : decide ((mid : Int) < (m : Int)) = true := decide_eq_true (by omega)
    have r1n : decide (mid < m) = true := decide_eq_true hx1
    have r2 : IntKind.i64.wrap ((n : Int) - (b : Int)) = (st0 : Int) := by rw [wrap_ok (by unfold I64; omega)]; omega
    subst hx3
    go_wp2_with fail
    go_loopw [20, 21] (fun iv jv wr => ∃ (i j mm : Nat), iv = .int .i64 (i : Nat) ∧ jv = .int .i64 (j : Nat) ∧ st0 ≤ i ∧ i ≤ j ∧ j ≤ mid ∧ (putRow encF w blk 0 d).drewN mm = wr) (fun iv jv _ => (Lib.intOf jv).toNat - (Lib.intOf iv).toNat)
    case atStart => exact ⟨st0, mid, m0, rfl, rfl, Nat.le_refl _, by omega, Nat.le_refl _, rfl⟩
    case round =>
    obtain ⟨i, j, mm, rfl, rfl, hi, hij, hj, hw⟩ := hrel
    by_cases hlt : i < j
    · have t4 : decide ((i : Int) < (j : Int)) = true := decide_eq_true (by omega)
      have t4n : decide (i < j) = true := decide_eq_true hlt
      obtain ⟨c2, hc2⟩ : ∃ c, i + j = c := ⟨_, rfl⟩
      obtain ⟨h, hh⟩ : ∃ h, c2 / 2 = h := ⟨_, rfl⟩
      obtain ⟨x, hx⟩ : ∃ x, pp - h = x := ⟨_, rfl⟩
      have t5 : IntKind.i64.wrap ((i : Int) + (j : Int)) = (c2 : Int) := by rw [wrap_ok (by unfold I64; omega)]; omega
      have t6 : IntKind.u64.wrap (c2 : Int) = (c2 : Int) := by rw [IntKind.wrap_u64]; omega
      have t7 : (c2 : Int) / 2 = (h : Int) := by omega
      have t8 : IntKind.i64.wrap (h : Int) = (h : Int) := wrap_ok (by unfold I64; omega)
      have t9 : IntKind.i64.wrap ((pp : Int) - (h : Int)) = (x : Int) := by rw [wrap_ok (by unfold I64; omega)]; omega
      have t10 : IntKind.i64.wrap ((h : Int) + 1) = ((h + 1 : Nat) : Int) := by rw [wrap_ok (by unfold I64; omega)]; omega
      have lh : (h : Int) < (s : Int) := by omega
      have lx : (x : Int) < (s : Int) := by omega
      have hxs : x < s := by omega
      have hhs : h < s := by omega
      have HN := Lib.hid (show i ≤ h ∧ h < j by omega)
      clear hc2 hh hx
      go_wp2_with fail
      have hHd := holds_putRow encF w blk 0 d0 d HH.out (by rw [HD.out, H0.out])
      obtain ⟨ch, _⟩ := hHd h (by have := HD.out; omega)
      obtain ⟨ca, _⟩ := hHd x (by have := HD.out; omega)
      rw [Nat.zero_add] at ch ca
      have hcc : ∀ n, Calls Try.prog 23 (#[encF d[x]!, encF d[h]!] ++ #[.pointer (some ⟨p, 0, none⟩)]) (wr.drewN n) fun e w' => e = .returned (.int .i64 (cf d[x]! d[h]!)) ∧ ∃ q, w' = (wr.drewN n).drewN q := fun n => by
        have h1 := HC.out d HD.out d[x]! d[h]! (mm + n)
        rw [← World.drewN_drewN, hw] at h1
        exact h1
      obtain ⟨eh, heh⟩ : ∃ e, d[h]! = e := ⟨_, rfl⟩
      obtain ⟨ea, hea⟩ : ∃ e, d[x]! = e := ⟨_, rfl⟩
      rw [heh] at ch hcc
      rw [hea] at ca hcc
      have ch' : wr.cell? ⟨blk, h, none⟩ = some (.int .i64 ((eh.val : Nat) : Int)) := by rw [← hw]; exact ch
      have ca' : wr.cell? ⟨blk, x, none⟩ = some (.int .i64 ((ea.val : Nat) : Int)) := by rw [← hw]; exact ca
      obtain ⟨z, hz⟩ : ∃ z, cf ea eh = z := ⟨_, rfl⟩
      rw [hz] at hcc
      have HCC := Lib.hid (show ∀ n, Calls Try.prog 23 #[.int .i64 ((ea.val : Nat) : Int), .int .i64 ((eh.val : Nat) : Int), .pointer (some ⟨p, 0, none⟩)] (wr.drewN n) fun e w' => e = .returned (.int .i64 z) ∧ ∃ q, w' = (wr.drewN n).drewN q from hcc)
      have HW := Lib.hid hw
      clear hcc ch ca hHd hz heh hea hw
      go_quiet (first | (go_at_fn 23; refine Calls.quiet_of (HCC.out _)) | (go_at_call 23; refine Calls.quiet_of (HCC.out _)))
      go_wp2_with fail
      · go_roundw
        case rel => exact ⟨h + 1, j, _, rfl, rfl, by have := HN.out; omega, by have := HN.out; omega, hj, by rw [← World.drewN_drewN, HW.out]⟩
        case measure => simp only [Lib.intOf]; have := HN.out; omega
      · go_roundw
        case rel => exact ⟨i, h, _, rfl, rfl, hi, by have := HN.out; omega, by have := HN.out; omega, by rw [← World.drewN_drewN, HW.out]⟩
        case measure => simp only [Lib.intOf]; have := HN.out; omega
    have t4 : decide ((i : Int) < (j : Int)) = false := decide_eq_false (by omega)
    have t4n : decide (i < j) = false := decide_eq_false hlt
    obtain rfl : i = j := by omega
    obtain ⟨e, he⟩ : ∃ e, n - i = e := ⟨_, rfl⟩
    have t11 : IntKind.i64.wrap ((n : Int) - (i : Int)) = (e : Int) := by rw [wrap_ok (by unfold I64; omega)]; omega
    have HEE := Lib.hid (show e ≤ s ∧ e ≤ b by omega)
    have heb : e ≤ b := by omega
    have HPd := Lib.hid (permIn_refl d 0 d.size)
    subst hw
    by_cases hA0 : i < m
    · have rA0 : decide ((i : Int) < (m : Int)) = true := decide_eq_true (by omega)
      have rAn0 : decide (i < m) = true := decide_eq_true hA0
      by_cases hB0 : m < e
      · have rB0 : decide ((m : Int) < (e : Int)) = true := decide_eq_true (by omega)
        have rBn0 : decide (m < e) = true := decide_eq_true hB0
        have HCL0 := Lib.hid (HROT.out d (by rw [HPd.out.1, HD.out]) i m e hA0 hB0 (by have := HEE.out; omega) (.func (.func 23) #[] #[.pointer (some ⟨p, 0, none⟩)]) mm)
        go_wp2_with fail
        refine HCL0.out.mono ?_
        rintro e0 w0 ⟨rfl, m2, d2, hp0, rfl⟩
        have HPd2 := Lib.hid (permIn_trans _ _ _ _ _ HPd.out (show PermIn 0 d.size d d2 by rw [← HPd.out.1]; exact hp0))
        clear hp0 HCL0
        by_cases hA1 : a < i
        · have rA1 : decide ((a : Int) < (i : Int)) = true := decide_eq_true (by omega)
          have rAn1 : decide (a < i) = true := decide_eq_true hA1
          by_cases hB1 : i < mid
          · have rB1 : decide ((i : Int) < (mid : Int)) = true := decide_eq_true (by omega)
            have rBn1 : decide (i < mid) = true := decide_eq_true hB1
            have HCL1 := Lib.hid (show MergeOk k w blk cap s p a i mid d2 m2 from HIH.out a i mid d2 m2 (by rw [HPd2.out.1, HD.out]) (by omega) hA1 hB1 (by omega))
            unfold MergeOk at HCL1
            go_wp2_with fail
            refine HCL1.out.mono ?_
            rintro e1 w1 ⟨rfl, m3, d3, hp1, rfl⟩
            have HPd3 := Lib.hid (permIn_trans _ _ _ _ _ HPd2.out (show PermIn 0 d.size d2 d3 by rw [← HPd2.out.1]; exact hp1))
            clear hp1 HCL1
            by_cases hA2 : mid < e
            · have rA2 : decide ((mid : Int) < (e : Int)) = true := decide_eq_true (by omega)
              have rAn2 : decide (mid < e) = true := decide_eq_true hA2
              by_cases hB2 : e < b
              · have rB2 : decide ((e : Int) < (b : Int)) = true := decide_eq_true (by omega)
                have rBn2 : decide (e < b) = true := decide_eq_true hB2
                have HCL2 := Lib.hid (show MergeOk k w blk cap s p mid e b d3 m3 from HIH.out mid e b d3 m3 (by rw [HPd3.out.1, HD.out]) (by omega) hA2 hB2 (by omega))
                unfold MergeOk at HCL2
                go_wp2_with fail
                refine HCL2.out.mono ?_
                rintro e2 w2 ⟨rfl, m4, d4, hp2, rfl⟩
                have HPd4 := Lib.hid (permIn_trans _ _ _ _ _ HPd3.out (show PermIn 0 d.size d3 d4 by rw [← HPd3.out.1]; exact hp2))
                clear hp2 HCL2
                go_wp2_with fail
                go_end0
                exact ⟨rfl, m4, d4, HPd4.out, rfl⟩
              · have rB2 : decide ((e : Int) < (b : Int)) = false := decide_eq_false (by omega)
                have rBn2 : decide (e < b) = false := decide_eq_false hB2
                go_wp2_with fail
                go_end0
                exact ⟨rfl, m3, d3, HPd3.out, rfl⟩
            · have rA2 : decide ((mid : Int) < (e : Int)) = false := decide_eq_false (by omega)
              have rAn2 : decide (mid < e) = false := decide_eq_false hA2
              go_wp2_with fail
              go_end0
              exact ⟨rfl, m3, d3, HPd3.out, rfl⟩
          · have rB1 : decide ((i : Int) < (mid : Int)) = false := decide_eq_false (by omega)
            have rBn1 : decide (i < mid) = false := decide_eq_false hB1
            by_cases hA2 : mid < e
            · have rA2 : decide ((mid : Int) < (e : Int)) = true := decide_eq_true (by omega)
              have rAn2 : decide (mid < e) = true := decide_eq_true hA2
              by_cases hB2 : e < b
              · have rB2 : decide ((e : Int) < (b : Int)) = true := decide_eq_true (by omega)
                have rBn2 : decide (e < b) = true := decide_eq_true hB2
                have HCL2 := Lib.hid (show MergeOk k w blk cap s p mid e b d2 m2 from HIH.out mid e b d2 m2 (by rw [HPd2.out.1, HD.out]) (by omega) hA2 hB2 (by omega))
                unfold MergeOk at HCL2
                go_wp2_with fail
                refine HCL2.out.mono ?_
                rintro e2 w2 ⟨rfl, m4, d4, hp2, rfl⟩
                have HPd4 := Lib.hid (permIn_trans _ _ _ _ _ HPd2.out (show PermIn 0 d.size d2 d4 by rw [← HPd2.out.1]; exact hp2))
                clear hp2 HCL2
                go_wp2_with fail
                go_end0
                exact ⟨rfl, m4, d4, HPd4.out, rfl⟩
              · have rB2 : decide ((e : Int) < (b : Int)) = false := decide_eq_false (by omega)
                have rBn2 : decide (e < b) = false := decide_eq_false hB2
                go_wp2_with fail
                go_end0
                exact ⟨rfl, m2, d2, HPd2.out, rfl⟩
            · have rA2 : decide ((mid : Int) < (e : Int)) = false := decide_eq_false (by omega)
              have rAn2 : decide (mid < e) = false := decide_eq_false hA2
              go_wp2_with fail
              go_end0
              exact ⟨rfl, m2, d2, HPd2.out, rfl⟩
        · have rA1 : decide ((a : Int) < (i : Int)) = false := decide_eq_false (by omega)
          have rAn1 : decide (a < i) = false := decide_eq_false hA1
          by_cases hA2 : mid < e
          · have rA2 : decide ((mid : Int) < (e : Int)) = true := decide_eq_true (by omega)
            have rAn2 : decide (mid < e) = true := decide_eq_true hA2
            by_cases hB2 : e < b
            · have rB2 : decide ((e : Int) < (b : Int)) = true := decide_eq_true (by omega)
              have rBn2 : decide (e < b) = true := decide_eq_true hB2
              have HCL2 := Lib.hid (show MergeOk k w blk cap s p mid e b d2 m2 from HIH.out mid e b d2 m2 (by rw [HPd2.out.1, HD.out]) (by omega) hA2 hB2 (by omega))
              unfold MergeOk at HCL2
              go_wp2_with fail
              refine HCL2.out.mono ?_
              rintro e2 w2 ⟨rfl, m4, d4, hp2, rfl⟩
              have HPd4 := Lib.hid (permIn_trans _ _ _ _ _ HPd2.out (show PermIn 0 d.size d2 d4 by rw [← HPd2.out.1]; exact hp2))
              clear hp2 HCL2
              go_wp2_with fail
              go_end0
              exact ⟨rfl, m4, d4, HPd4.out, rfl⟩
            · have rB2 : decide ((e : Int) < (b : Int)) = false := decide_eq_false (by omega)
              have rBn2 : decide (e < b) = false := decide_eq_false hB2
              go_wp2_with fail
              go_end0
              exact ⟨rfl, m2, d2, HPd2.out, rfl⟩
          · have rA2 : decide ((mid : Int) < (e : Int)) = false := decide_eq_false (by omega)
            have rAn2 : decide (mid < e) = false := decide_eq_false hA2
            go_wp2_with fail
            go_end0
            exact ⟨rfl, m2, d2, HPd2.out, rfl⟩
      · have rB0 : decide ((m : Int) < (e : Int)) = false := decide_eq_false (by omega)
        have rBn0 : decide (m < e) = false := decide_eq_false hB0
        by_cases hA1 : a < i
        · have rA1 : decide ((a : Int) < (i : Int)) = true := decide_eq_true (by omega)
          have rAn1 : decide (a < i) = true := decide_eq_true hA1
          by_cases hB1 : i < mid
          · have rB1 : decide ((i : Int) < (mid : Int)) = true := decide_eq_true (by omega)
            have rBn1 : decide (i < mid) = true := decide_eq_true hB1
            have HCL1 := Lib.hid (show MergeOk k w blk cap s p a i mid d mm from HIH.out a i mid d mm (by rw [HPd.out.1, HD.out]) (by omega) hA1 hB1 (by omega))
            unfold MergeOk at HCL1
            go_wp2_with fail
            refine HCL1.out.mono ?_
            rintro e1 w1 ⟨rfl, m3, d3, hp1, rfl⟩
            have HPd3 := Lib.hid (permIn_trans _ _ _ _ _ HPd.out (show PermIn 0 d.size d d3 by rw [← HPd.out.1]; exact hp1))
            clear hp1 HCL1
            by_cases hA2 : mid < e
            · have rA2 : decide ((mid : Int) < (e : Int)) = true := decide_eq_true (by omega)
              have rAn2 : decide (mid < e) = true := decide_eq_true hA2
              by_cases hB2 : e < b
              · have rB2 : decide ((e : Int) < (b : Int)) = true := decide_eq_true (by omega)
                have rBn2 : decide (e < b) = true := decide_eq_true hB2
                have HCL2 := Lib.hid (show MergeOk k w blk cap s p mid e b d3 m3 from HIH.out mid e b d3 m3 (by rw [HPd3.out.1, HD.out]) (by omega) hA2 hB2 (by omega))
                unfold MergeOk at HCL2
                go_wp2_with fail
                refine HCL2.out.mono ?_
                rintro e2 w2 ⟨rfl, m4, d4, hp2, rfl⟩
                have HPd4 := Lib.hid (permIn_trans _ _ _ _ _ HPd3.out (show PermIn 0 d.size d3 d4 by rw [← HPd3.out.1]; exact hp2))
                clear hp2 HCL2
                go_wp2_with fail
                go_end0
                exact ⟨rfl, m4, d4, HPd4.out, rfl⟩
              · have rB2 : decide ((e : Int) < (b : Int)) = false := decide_eq_false (by omega)
                have rBn2 : decide (e < b) = false := decide_eq_false hB2
                go_wp2_with fail
                go_end0
                exact ⟨rfl, m3, d3, HPd3.out, rfl⟩
            · have rA2 : decide ((mid : Int) < (e : Int)) = false := decide_eq_false (by omega)
              have rAn2 : decide (mid < e) = false := decide_eq_false hA2
              go_wp2_with fail
              go_end0
              exact ⟨rfl, m3, d3, HPd3.out, rfl⟩
          · have rB1 : decide ((i : Int) < (mid : Int)) = false := decide_eq_false (by omega)
            have rBn1 : decide (i < mid) = false := decide_eq_false hB1
            by_cases hA2 : mid < e
            · have rA2 : decide ((mid : Int) < (e : Int)) = true := decide_eq_true (by omega)
              have rAn2 : decide (mid < e) = true := decide_eq_true hA2
              by_cases hB2 : e < b
              · have rB2 : decide ((e : Int) < (b : Int)) = true := decide_eq_true (by omega)
                have rBn2 : decide (e < b) = true := decide_eq_true hB2
                have HCL2 := Lib.hid (show MergeOk k w blk cap s p mid e b d mm from HIH.out mid e b d mm (by rw [HPd.out.1, HD.out]) (by omega) hA2 hB2 (by omega))
                unfold MergeOk at HCL2
                go_wp2_with fail
                refine HCL2.out.mono ?_
                rintro e2 w2 ⟨rfl, m4, d4, hp2, rfl⟩
                have HPd4 := Lib.hid (permIn_trans _ _ _ _ _ HPd.out (show PermIn 0 d.size d d4 by rw [← HPd.out.1]; exact hp2))
                clear hp2 HCL2
                go_wp2_with fail
                go_end0
                exact ⟨rfl, m4, d4, HPd4.out, rfl⟩
              · have rB2 : decide ((e : Int) < (b : Int)) = false := decide_eq_false (by omega)
                have rBn2 : decide (e < b) = false := decide_eq_false hB2
                go_wp2_with fail
                go_end0
                exact ⟨rfl, mm, d, HPd.out, rfl⟩
            · have rA2 : decide ((mid : Int) < (e : Int)) = false := decide_eq_false (by omega)
              have rAn2 : decide (mid < e) = false := decide_eq_false hA2
              go_wp2_with fail
              go_end0
              exact ⟨rfl, mm, d, HPd.out, rfl⟩
        · have rA1 : decide ((a : Int) < (i : Int)) = false := decide_eq_false (by omega)
          have rAn1 : decide (a < i) = false := decide_eq_false hA1
          by_cases hA2 : mid < e
          · have rA2 : decide ((mid : Int) < (e : Int)) = true := decide_eq_true (by omega)
            have rAn2 : decide (mid < e) = true := decide_eq_true hA2
            by_cases hB2 : e < b
            · have rB2 : decide ((e : Int) < (b : Int)) = true := decide_eq_true (by omega)
              have rBn2 : decide (e < b) = true := decide_eq_true hB2
              have HCL2 := Lib.hid (show MergeOk k w blk cap s p mid e b d mm from HIH.out mid e b d mm (by rw [HPd.out.1, HD.out]) (by omega) hA2 hB2 (by omega))
              unfold MergeOk at HCL2
              go_wp2_with fail
              refine HCL2.out.mono ?_
              rintro e2 w2 ⟨rfl, m4, d4, hp2, rfl⟩
              have HPd4 := Lib.hid (permIn_trans _ _ _ _ _ HPd.out (show PermIn 0 d.size d d4 by rw [← HPd.out.1]; exact hp2))
              clear hp2 HCL2
              go_wp2_with fail
              go_end0
              exact ⟨rfl, m4, d4, HPd4.out, rfl⟩
            · have rB2 : decide ((e : Int) < (b : Int)) = false := decide_eq_false (by omega)
              have rBn2 : decide (e < b) = false := decide_eq_false hB2
              go_wp2_with fail
              go_end0
              exact ⟨rfl, mm, d, HPd.out, rfl⟩
          · have rA2 : decide ((mid : Int) < (e : Int)) = false := decide_eq_false (by omega)
            have rAn2 : decide (mid < e) = false := decide_eq_false hA2
            go_wp2_with fail
            go_end0
            exact ⟨rfl, mm, d, HPd.out, rfl⟩
    · have rA0 : decide ((i : Int) < (m : Int)) = false := decide_eq_false (by omega)
      have rAn0 : decide (i < m) = false := decide_eq_false hA0
      by_cases hA1 : a < i
      · have rA1 : decide ((a : Int) < (i : Int)) = true := decide_eq_true (by omega)
        have rAn1 : decide (a < i) = true := decide_eq_true hA1
        by_cases hB1 : i < mid
        · have rB1 : decide ((i : Int) < (mid : Int)) = true := decide_eq_true (by omega)
          have rBn1 : decide (i < mid) = true := decide_eq_true hB1
          have HCL1 := Lib.hid (show MergeOk k w blk cap s p a i mid d mm from HIH.out a i mid d mm (by rw [HPd.out.1, HD.out]) (by omega) hA1 hB1 (by omega))
          unfold MergeOk at HCL1
          go_wp2_with fail
          refine HCL1.out.mono ?_
          rintro e1 w1 ⟨rfl, m3, d3, hp1, rfl⟩
          have HPd3 := Lib.hid (permIn_trans _ _ _ _ _ HPd.out (show PermIn 0 d.size d d3 by rw [← HPd.out.1]; exact hp1))
          clear hp1 HCL1
          by_cases hA2 : mid < e
          · have rA2 : decide ((mid : Int) < (e : Int)) = true := decide_eq_true (by omega)
            have rAn2 : decide (mid < e) = true := decide_eq_true hA2
            by_cases hB2 : e < b
            · have rB2 : decide ((e : Int) < (b : Int)) = true := decide_eq_true (by omega)
              have rBn2 : decide (e < b) = true := decide_eq_true hB2
              have HCL2 := Lib.hid (show MergeOk k w blk cap s p mid e b d3 m3 from HIH.out mid e b d3 m3 (by rw [HPd3.out.1, HD.out]) (by omega) hA2 hB2 (by omega))
              unfold MergeOk at HCL2
              go_wp2_with fail
              refine HCL2.out.mono ?_
              rintro e2 w2 ⟨rfl, m4, d4, hp2, rfl⟩
              have HPd4 := Lib.hid (permIn_trans _ _ _ _ _ HPd3.out (show PermIn 0 d.size d3 d4 by rw [← HPd3.out.1]; exact hp2))
              clear hp2 HCL2
              go_wp2_with fail
              go_end0
              exact ⟨rfl, m4, d4, HPd4.out, rfl⟩
            · have rB2 : decide ((e : Int) < (b : Int)) = false := decide_eq_false (by omega)
              have rBn2 : decide (e < b) = false := decide_eq_false hB2
              go_wp2_with fail
              go_end0
              exact ⟨rfl, m3, d3, HPd3.out, rfl⟩
          · have rA2 : decide ((mid : Int) < (e : Int)) = false := decide_eq_false (by omega)
            have rAn2 : decide (mid < e) = false := decide_eq_false hA2
            go_wp2_with fail
            go_end0
            exact ⟨rfl, m3, d3, HPd3.out, rfl⟩
        · have rB1 : decide ((i : Int) < (mid : Int)) = false := decide_eq_false (by omega)
          have rBn1 : decide (i < mid) = false := decide_eq_false hB1
          by_cases hA2 : mid < e
          · have rA2 : decide ((mid : Int) < (e : Int)) = true := decide_eq_true (by omega)
            have rAn2 : decide (mid < e) = true := decide_eq_true hA2
            by_cases hB2 : e < b
            · have rB2 : decide ((e : Int) < (b : Int)) = true := decide_eq_true (by omega)
              have rBn2 : decide (e < b) = true := decide_eq_true hB2
              have HCL2 := Lib.hid (show MergeOk k w blk cap s p mid e b d mm from HIH.out mid e b d mm (by rw [HPd.out.1, HD.out]) (by omega) hA2 hB2 (by omega))
              unfold MergeOk at HCL2
              go_wp2_with fail
              refine HCL2.out.mono ?_
              rintro e2 w2 ⟨rfl, m4, d4, hp2, rfl⟩
              have HPd4 := Lib.hid (permIn_trans _ _ _ _ _ HPd.out (show PermIn 0 d.size d d4 by rw [← HPd.out.1]; exact hp2))
              clear hp2 HCL2
              go_wp2_with fail
              go_end0
              exact ⟨rfl, m4, d4, HPd4.out, rfl⟩
            · have rB2 : decide ((e : Int) < (b : Int)) = false := decide_eq_false (by omega)
              have rBn2 : decide (e < b) = false := decide_eq_false hB2
              go_wp2_with fail
              go_end0
              exact ⟨rfl, mm, d, HPd.out, rfl⟩
          · have rA2 : decide ((mid : Int) < (e : Int)) = false := decide_eq_false (by omega)
            have rAn2 : decide (mid < e) = false := decide_eq_false hA2
            go_wp2_with fail
            go_end0
            exact ⟨rfl, mm, d, HPd.out, rfl⟩
      · have rA1 : decide ((a : Int) < (i : Int)) = false := decide_eq_false (by omega)
        have rAn1 : decide (a < i) = false := decide_eq_false hA1
        by_cases hA2 : mid < e
        · have rA2 : decide ((mid : Int) < (e : Int)) = true := decide_eq_true (by omega)
          have rAn2 : decide (mid < e) = true := decide_eq_true hA2
          by_cases hB2 : e < b
          · have rB2 : decide ((e : Int) < (b : Int)) = true := decide_eq_true (by omega)
            have rBn2 : decide (e < b) = true := decide_eq_true hB2
            have HCL2 := Lib.hid (show MergeOk k w blk cap s p mid e b d mm from HIH.out mid e b d mm (by rw [HPd.out.1, HD.out]) (by omega) hA2 hB2 (by omega))
            unfold MergeOk at HCL2
            go_wp2_with fail
            refine HCL2.out.mono ?_
            rintro e2 w2 ⟨rfl, m4, d4, hp2, rfl⟩
            have HPd4 := Lib.hid (permIn_trans _ _ _ _ _ HPd.out (show PermIn 0 d.size d d4 by rw [← HPd.out.1]; exact hp2))
            clear hp2 HCL2
            go_wp2_with fail
            go_end0
            exact ⟨rfl, m4, d4, HPd4.out, rfl⟩
          · have rB2 : decide ((e : Int) < (b : Int)) = false := decide_eq_false (by omega)
            have rBn2 : decide (e < b) = false := decide_eq_false hB2
            go_wp2_with fail
            go_end0
            exact ⟨rfl, mm, d, HPd.out, rfl⟩
        · have rA2 : decide ((mid : Int) < (e : Int)) = false := decide_eq_false (by omega)
          have rAn2 : decide (mid < e) = false := decide_eq_false hA2
          go_wp2_with fail
          go_end0
          exact ⟨rfl, mm, d, HPd.out, rfl⟩
  · have r1 : decide ((mid : Int) < (m : Int)) = false := decide_eq_false (by omega)
    have r1n : decide (mid < m) = false := decide_eq_false (by omega)
    subst hx2
    subst hx3
    go_wp2_with fail
    go_loopw [20, 21] (fun iv jv wr => ∃ (i j mm : Nat), iv = .int .i64 (i : Nat) ∧ jv = .int .i64 (j : Nat) ∧ a ≤ i ∧ i ≤ j ∧ j ≤ m ∧ (putRow encF w blk 0 d).drewN mm = wr) (fun iv jv _ => (Lib.intOf jv).toNat - (Lib.intOf iv).toNat)
    case atStart => exact ⟨a, m, m0, rfl, rfl, Nat.le_refl _, by omega, Nat.le_refl _, rfl⟩
    case round =>
    obtain ⟨i, j, mm, rfl, rfl, hi, hij, hj, hw⟩ := hrel
    by_cases hlt : i < j
    · have t4 : decide ((i : Int) < (j : Int)) = true := decide_eq_true (by omega)
      have t4n : decide (i < j) = true := decide_eq_true hlt
      obtain ⟨c2, hc2⟩ : ∃ c, i + j = c := ⟨_, rfl⟩
      obtain ⟨h, hh⟩ : ∃ h, c2 / 2 = h := ⟨_, rfl⟩
      obtain ⟨x, hx⟩ : ∃ x, pp - h = x := ⟨_, rfl⟩
      have t5 : IntKind.i64.wrap ((i : Int) + (j : Int)) = (c2 : Int) := by rw [wrap_ok (by unfold I64; omega)]; omega
      have t6 : IntKind.u64.wrap (c2 : Int) = (c2 : Int) := by rw [IntKind.wrap_u64]; omega
      have t7 : (c2 : Int) / 2 = (h : Int) := by omega
      have t8 : IntKind.i64.wrap (h : Int) = (h : Int) := wrap_ok (by unfold I64; omega)
      have t9 : IntKind.i64.wrap ((pp : Int) - (h : Int)) = (x : Int) := by rw [wrap_ok (by unfold I64; omega)]; omega
      have t10 : IntKind.i64.wrap ((h : Int) + 1) = ((h + 1 : Nat) : Int) := by rw [wrap_ok (by unfold I64; omega)]; omega
      have lh : (h : Int) < (s : Int) := by omega
      have lx : (x : Int) < (s : Int) := by omega
      have hxs : x < s := by omega
      have hhs : h < s := by omega
      have HN := Lib.hid (show i ≤ h ∧ h < j by omega)
      clear hc2 hh hx
      go_wp2_with fail
      have hHd := holds_putRow encF w blk 0 d0 d HH.out (by rw [HD.out, H0.out])
      obtain ⟨ch, _⟩ := hHd h (by have := HD.out; omega)
      obtain ⟨ca, _⟩ := hHd x (by have := HD.out; omega)
      rw [Nat.zero_add] at ch ca
      have hcc : ∀ n, Calls Try.prog 23 (#[encF d[x]!, encF d[h]!] ++ #[.pointer (some ⟨p, 0, none⟩)]) (wr.drewN n) fun e w' => e = .returned (.int .i64 (cf d[x]! d[h]!)) ∧ ∃ q, w' = (wr.drewN n).drewN q := fun n => by
        have h1 := HC.out d HD.out d[x]! d[h]! (mm + n)
        rw [← World.drewN_drewN, hw] at h1
        exact h1
      obtain ⟨eh, heh⟩ : ∃ e, d[h]! = e := ⟨_, rfl⟩
      obtain ⟨ea, hea⟩ : ∃ e, d[x]! = e := ⟨_, rfl⟩
      rw [heh] at ch hcc
      rw [hea] at ca hcc
      have ch' : wr.cell? ⟨blk, h, none⟩ = some (.int .i64 ((eh.val : Nat) : Int)) := by rw [← hw]; exact ch
      have ca' : wr.cell? ⟨blk, x, none⟩ = some (.int .i64 ((ea.val : Nat) : Int)) := by rw [← hw]; exact ca
      obtain ⟨z, hz⟩ : ∃ z, cf ea eh = z := ⟨_, rfl⟩
      rw [hz] at hcc
      have HCC := Lib.hid (show ∀ n, Calls Try.prog 23 #[.int .i64 ((ea.val : Nat) : Int), .int .i64 ((eh.val : Nat) : Int), .pointer (some ⟨p, 0, none⟩)] (wr.drewN n) fun e w' => e = .returned (.int .i64 z) ∧ ∃ q, w' = (wr.drewN n).drewN q from hcc)
      have HW := Lib.hid hw
      clear hcc ch ca hHd hz heh hea hw
      go_quiet (first | (go_at_fn 23; refine Calls.quiet_of (HCC.out _)) | (go_at_call 23; refine Calls.quiet_of (HCC.out _)))
      go_wp2_with fail
      · go_roundw
        case rel => exact ⟨h + 1, j, _, rfl, rfl, by have := HN.out; omega, by have := HN.out; omega, hj, by rw [← World.drewN_drewN, HW.out]⟩
        case measure => simp only [Lib.intOf]; have := HN.out; omega
      · go_roundw
        case rel => exact ⟨i, h, _, rfl, rfl, hi, by have := HN.out; omega, by have := HN.out; omega, by rw [← World.drewN_drewN, HW.out]⟩
        case measure => simp only [Lib.intOf]; have := HN.out; omega
    have t4 : decide ((i : Int) < (j : Int)) = false := decide_eq_false (by omega)
    have t4n : decide (i < j) = false := decide_eq_false hlt
    obtain rfl : i = j := by omega
    obtain ⟨e, he⟩ : ∃ e, n - i = e := ⟨_, rfl⟩
    have t11 : IntKind.i64.wrap ((n : Int) - (i : Int)) = (e : Int) := by rw [wrap_ok (by unfold I64; omega)]; omega
    have HEE := Lib.hid (show e ≤ s ∧ e ≤ b by omega)
    have heb : e ≤ b := by omega
    have HPd := Lib.hid (permIn_refl d 0 d.size)
    subst hw
    by_cases hA0 : i < m
    · have rA0 : decide ((i : Int) < (m : Int)) = true := decide_eq_true (by omega)
      have rAn0 : decide (i < m) = true := decide_eq_true hA0
      by_cases hB0 : m < e
      · have rB0 : decide ((m : Int) < (e : Int)) = true := decide_eq_true (by omega)
        have rBn0 : decide (m < e) = true := decide_eq_true hB0
        have HCL0 := Lib.hid (HROT.out d (by rw [HPd.out.1, HD.out]) i m e hA0 hB0 (by have := HEE.out; omega) (.func (.func 23) #[] #[.pointer (some ⟨p, 0, none⟩)]) mm)
        go_wp2_with fail
        refine HCL0.out.mono ?_
        rintro e0 w0 ⟨rfl, m2, d2, hp0, rfl⟩
        have HPd2 := Lib.hid (permIn_trans _ _ _ _ _ HPd.out (show PermIn 0 d.size d d2 by rw [← HPd.out.1]; exact hp0))
        clear hp0 HCL0
        by_cases hA1 : a < i
        · have rA1 : decide ((a : Int) < (i : Int)) = true := decide_eq_true (by omega)
          have rAn1 : decide (a < i) = true := decide_eq_true hA1
          by_cases hB1 : i < mid
          · have rB1 : decide ((i : Int) < (mid : Int)) = true := decide_eq_true (by omega)
            have rBn1 : decide (i < mid) = true := decide_eq_true hB1
            have HCL1 := Lib.hid (show MergeOk k w blk cap s p a i mid d2 m2 from HIH.out a i mid d2 m2 (by rw [HPd2.out.1, HD.out]) (by omega) hA1 hB1 (by omega))
            unfold MergeOk at HCL1
            go_wp2_with fail
            refine HCL1.out.mono ?_
            rintro e1 w1 ⟨rfl, m3, d3, hp1, rfl⟩
            have HPd3 := Lib.hid (permIn_trans _ _ _ _ _ HPd2.out (show PermIn 0 d.size d2 d3 by rw [← HPd2.out.1]; exact hp1))
            clear hp1 HCL1
            by_cases hA2 : mid < e
            · have rA2 : decide ((mid : Int) < (e : Int)) = true := decide_eq_true (by omega)
              have rAn2 : decide (mid < e) = true := decide_eq_true hA2
              by_cases hB2 : e < b
              · have rB2 : decide ((e : Int) < (b : Int)) = true := decide_eq_true (by omega)
                have rBn2 : decide (e < b) = true := decide_eq_true hB2
                have HCL2 := Lib.hid (show MergeOk k w blk cap s p mid e b d3 m3 from HIH.out mid e b d3 m3 (by rw [HPd3.out.1, HD.out]) (by omega) hA2 hB2 (by omega))
                unfold MergeOk at HCL2
                go_wp2_with fail
                refine HCL2.out.mono ?_
                rintro e2 w2 ⟨rfl, m4, d4, hp2, rfl⟩
                have HPd4 := Lib.hid (permIn_trans _ _ _ _ _ HPd3.out (show PermIn 0 d.size d3 d4 by rw [← HPd3.out.1]; exact hp2))
                clear hp2 HCL2
                go_wp2_with fail
                go_end0
                exact ⟨rfl, m4, d4, HPd4.out, rfl⟩
              · have rB2 : decide ((e : Int) < (b : Int)) = false := decide_eq_false (by omega)
                have rBn2 : decide (e < b) = false := decide_eq_false hB2
                go_wp2_with fail
                go_end0
                exact ⟨rfl, m3, d3, HPd3.out, rfl⟩
            · have rA2 : decide ((mid : Int) < (e : Int)) = false := decide_eq_false (by omega)
              have rAn2 : decide (mid < e) = false := decide_eq_false hA2
              go_wp2_with fail
              go_end0
              exact ⟨rfl, m3, d3, HPd3.out, rfl⟩
          · have rB1 : decide ((i : Int) < (mid : Int)) = false := decide_eq_false (by omega)
            have rBn1 : decide (i < mid) = false := decide_eq_false hB1
            by_cases hA2 : mid < e
            · have rA2 : decide ((mid : Int) < (e : Int)) = true := decide_eq_true (by omega)
              have rAn2 : decide (mid < e) = true := decide_eq_true hA2
              by_cases hB2 : e < b
              · have rB2 : decide ((e : Int) < (b : Int)) = true := decide_eq_true (by omega)
                have rBn2 : decide (e < b) = true := decide_eq_true hB2
                have HCL2 := Lib.hid (show MergeOk k w blk cap s p mid e b d2 m2 from HIH.out mid e b d2 m2 (by rw [HPd2.out.1, HD.out]) (by omega) hA2 hB2 (by omega))
                unfold MergeOk at HCL2
                go_wp2_with fail
                refine HCL2.out.mono ?_
                rintro e2 w2 ⟨rfl, m4, d4, hp2, rfl⟩
                have HPd4 := Lib.hid (permIn_trans _ _ _ _ _ HPd2.out (show PermIn 0 d.size d2 d4 by rw [← HPd2.out.1]; exact hp2))
                clear hp2 HCL2
                go_wp2_with fail
                go_end0
                exact ⟨rfl, m4, d4, HPd4.out, rfl⟩
              · have rB2 : decide ((e : Int) < (b : Int)) = false := decide_eq_false (by omega)
                have rBn2 : decide (e < b) = false := decide_eq_false hB2
                go_wp2_with fail
                go_end0
                exact ⟨rfl, m2, d2, HPd2.out, rfl⟩
            · have rA2 : decide ((mid : Int) < (e : Int)) = false := decide_eq_false (by omega)
              have rAn2 : decide (mid < e) = false := decide_eq_false hA2
              go_wp2_with fail
              go_end0
              exact ⟨rfl, m2, d2, HPd2.out, rfl⟩
        · have rA1 : decide ((a : Int) < (i : Int)) = false := decide_eq_false (by omega)
          have rAn1 : decide (a < i) = false := decide_eq_false hA1
          by_cases hA2 : mid < e
          · have rA2 : decide ((mid : Int) < (e : Int)) = true := decide_eq_true (by omega)
            have rAn2 : decide (mid < e) = true := decide_eq_true hA2
            by_cases hB2 : e < b
            · have rB2 : decide ((e : Int) < (b : Int)) = true := decide_eq_true (by omega)
              have rBn2 : decide (e < b) = true := decide_eq_true hB2
              have HCL2 := Lib.hid (show MergeOk k w blk cap s p mid e b d2 m2 from HIH.out mid e b d2 m2 (by rw [HPd2.out.1, HD.out]) (by omega) hA2 hB2 (by omega))
              unfold MergeOk at HCL2
              go_wp2_with fail
              refine HCL2.out.mono ?_
              rintro e2 w2 ⟨rfl, m4, d4, hp2, rfl⟩
              have HPd4 := Lib.hid (permIn_trans _ _ _ _ _ HPd2.out (show PermIn 0 d.size d2 d4 by rw [← HPd2.out.1]; exact hp2))
              clear hp2 HCL2
              go_wp2_with fail
              go_end0
              exact ⟨rfl, m4, d4, HPd4.out, rfl⟩
            · have rB2 : decide ((e : Int) < (b : Int)) = false := decide_eq_false (by omega)
              have rBn2 : decide (e < b) = false := decide_eq_false hB2
              go_wp2_with fail
              go_end0
              exact ⟨rfl, m2, d2, HPd2.out, rfl⟩
          · have rA2 : decide ((mid : Int) < (e : Int)) = false := decide_eq_false (by omega)
            have rAn2 : decide (mid < e) = false := decide_eq_false hA2
            go_wp2_with fail
            go_end0
            exact ⟨rfl, m2, d2, HPd2.out, rfl⟩
      · have rB0 : decide ((m : Int) < (e : Int)) = false := decide_eq_false (by omega)
        have rBn0 : decide (m < e) = false := decide_eq_false hB0
        by_cases hA1 : a < i
        · have rA1 : decide ((a : Int) < (i : Int)) = true := decide_eq_true (by omega)
          have rAn1 : decide (a < i) = true := decide_eq_true hA1
          by_cases hB1 : i < mid
          · have rB1 : decide ((i : Int) < (mid : Int)) = true := decide_eq_true (by omega)
            have rBn1 : decide (i < mid) = true := decide_eq_true hB1
            have HCL1 := Lib.hid (show MergeOk k w blk cap s p a i mid d mm from HIH.out a i mid d mm (by rw [HPd.out.1, HD.out]) (by omega) hA1 hB1 (by omega))
            unfold MergeOk at HCL1
            go_wp2_with fail
            refine HCL1.out.mono ?_
            rintro e1 w1 ⟨rfl, m3, d3, hp1, rfl⟩
            have HPd3 := Lib.hid (permIn_trans _ _ _ _ _ HPd.out (show PermIn 0 d.size d d3 by rw [← HPd.out.1]; exact hp1))
            clear hp1 HCL1
            by_cases hA2 : mid < e
            · have rA2 : decide ((mid : Int) < (e : Int)) = true := decide_eq_true (by omega)
              have rAn2 : decide (mid < e) = true := decide_eq_true hA2
              by_cases hB2 : e < b
              · have rB2 : decide ((e : Int) < (b : Int)) = true := decide_eq_true (by omega)
                have rBn2 : decide (e < b) = true := decide_eq_true hB2
                have HCL2 := Lib.hid (show MergeOk k w blk cap s p mid e b d3 m3 from HIH.out mid e b d3 m3 (by rw [HPd3.out.1, HD.out]) (by omega) hA2 hB2 (by omega))
                unfold MergeOk at HCL2
                go_wp2_with fail
                refine HCL2.out.mono ?_
                rintro e2 w2 ⟨rfl, m4, d4, hp2, rfl⟩
                have HPd4 := Lib.hid (permIn_trans _ _ _ _ _ HPd3.out (show PermIn 0 d.size d3 d4 by rw [← HPd3.out.1]; exact hp2))
                clear hp2 HCL2
                go_wp2_with fail
                go_end0
                exact ⟨rfl, m4, d4, HPd4.out, rfl⟩
              · have rB2 : decide ((e : Int) < (b : Int)) = false := decide_eq_false (by omega)
                have rBn2 : decide (e < b) = false := decide_eq_false hB2
                go_wp2_with fail
                go_end0
                exact ⟨rfl, m3, d3, HPd3.out, rfl⟩
            · have rA2 : decide ((mid : Int) < (e : Int)) = false := decide_eq_false (by omega)
              have rAn2 : decide (mid < e) = false := decide_eq_false hA2
              go_wp2_with fail
              go_end0
              exact ⟨rfl, m3, d3, HPd3.out, rfl⟩
          · have rB1 : decide ((i : Int) < (mid : Int)) = false := decide_eq_false (by omega)
            have rBn1 : decide (i < mid) = false := decide_eq_false hB1
            by_cases hA2 : mid < e
            · have rA2 : decide ((mid : Int) < (e : Int)) = true := decide_eq_true (by omega)
              have rAn2 : decide (mid < e) = true := decide_eq_true hA2
              by_cases hB2 : e < b
              · have rB2 : decide ((e : Int) < (b : Int)) = true := decide_eq_true (by omega)
                have rBn2 : decide (e < b) = true := decide_eq_true hB2
                have HCL2 := Lib.hid (show MergeOk k w blk cap s p mid e b d mm from HIH.out mid e b d mm (by rw [HPd.out.1, HD.out]) (by omega) hA2 hB2 (by omega))
                unfold MergeOk at HCL2
                go_wp2_with fail
                refine HCL2.out.mono ?_
                rintro e2 w2 ⟨rfl, m4, d4, hp2, rfl⟩
                have HPd4 := Lib.hid (permIn_trans _ _ _ _ _ HPd.out (show PermIn 0 d.size d d4 by rw [← HPd.out.1]; exact hp2))
                clear hp2 HCL2
                go_wp2_with fail
                go_end0
                exact ⟨rfl, m4, d4, HPd4.out, rfl⟩
              · have rB2 : decide ((e : Int) < (b : Int)) = false := decide_eq_false (by omega)
                have rBn2 : decide (e < b) = false := decide_eq_false hB2
                go_wp2_with fail
                go_end0
                exact ⟨rfl, mm, d, HPd.out, rfl⟩
            · have rA2 : decide ((mid : Int) < (e : Int)) = false := decide_eq_false (by omega)
              have rAn2 : decide (mid < e) = false := decide_eq_false hA2
              go_wp2_with fail
              go_end0
              exact ⟨rfl, mm, d, HPd.out, rfl⟩
        · have rA1 : decide ((a : Int) < (i : Int)) = false := decide_eq_false (by omega)
          have rAn1 : decide (a < i) = false := decide_eq_false hA1
          by_cases hA2 : mid < e
          · have rA2 : decide ((mid : Int) < (e : Int)) = true := decide_eq_true (by omega)
            have rAn2 : decide (mid < e) = true := decide_eq_true hA2
            by_cases hB2 : e < b
            · have rB2 : decide ((e : Int) < (b : Int)) = true := decide_eq_true (by omega)
              have rBn2 : decide (e < b) = true := decide_eq_true hB2
              have HCL2 := Lib.hid (show MergeOk k w blk cap s p mid e b d mm from HIH.out mid e b d mm (by rw [HPd.out.1, HD.out]) (by omega) hA2 hB2 (by omega))
              unfold MergeOk at HCL2
              go_wp2_with fail
              refine HCL2.out.mono ?_
              rintro e2 w2 ⟨rfl, m4, d4, hp2, rfl⟩
              have HPd4 := Lib.hid (permIn_trans _ _ _ _ _ HPd.out (show PermIn 0 d.size d d4 by rw [← HPd.out.1]; exact hp2))
              clear hp2 HCL2
              go_wp2_with fail
              go_end0
              exact ⟨rfl, m4, d4, HPd4.out, rfl⟩
            · have rB2 : decide ((e : Int) < (b : Int)) = false := decide_eq_false (by omega)
              have rBn2 : decide (e < b) = false := decide_eq_false hB2
              go_wp2_with fail
              go_end0
              exact ⟨rfl, mm, d, HPd.out, rfl⟩
          · have rA2 : decide ((mid : Int) < (e : Int)) = false := decide_eq_false (by omega)
            have rAn2 : decide (mid < e) = false := decide_eq_false hA2
            go_wp2_with fail
            go_end0
            exact ⟨rfl, mm, d, HPd.out, rfl⟩
    · have rA0 : decide ((i : Int) < (m : Int)) = false := decide_eq_false (by omega)
      have rAn0 : decide (i < m) = false := decide_eq_false hA0
      by_cases hA1 : a < i
      · have rA1 : decide ((a : Int) < (i : Int)) = true := decide_eq_true (by omega)
        have rAn1 : decide (a < i) = true := decide_eq_true hA1
        by_cases hB1 : i < mid
        · have rB1 : decide ((i : Int) < (mid : Int)) = true := decide_eq_true (by omega)
          have rBn1 : decide (i < mid) = true := decide_eq_true hB1
          have HCL1 := Lib.hid (show MergeOk k w blk cap s p a i mid d mm from HIH.out a i mid d mm (by rw [HPd.out.1, HD.out]) (by omega) hA1 hB1 (by omega))
          unfold MergeOk at HCL1
          go_wp2_with fail
          refine HCL1.out.mono ?_
          rintro e1 w1 ⟨rfl, m3, d3, hp1, rfl⟩
          have HPd3 := Lib.hid (permIn_trans _ _ _ _ _ HPd.out (show PermIn 0 d.size d d3 by rw [← HPd.out.1]; exact hp1))
          clear hp1 HCL1
          by_cases hA2 : mid < e
          · have rA2 : decide ((mid : Int) < (e : Int)) = true := decide_eq_true (by omega)
            have rAn2 : decide (mid < e) = true := decide_eq_true hA2
            by_cases hB2 : e < b
            · have rB2 : decide ((e : Int) < (b : Int)) = true := decide_eq_true (by omega)
              have rBn2 : decide (e < b) = true := decide_eq_true hB2
              have HCL2 := Lib.hid (show MergeOk k w blk cap s p mid e b d3 m3 from HIH.out mid e b d3 m3 (by rw [HPd3.out.1, HD.out]) (by omega) hA2 hB2 (by omega))
              unfold MergeOk at HCL2
              go_wp2_with fail
              refine HCL2.out.mono ?_
              rintro e2 w2 ⟨rfl, m4, d4, hp2, rfl⟩
              have HPd4 := Lib.hid (permIn_trans _ _ _ _ _ HPd3.out (show PermIn 0 d.size d3 d4 by rw [← HPd3.out.1]; exact hp2))
              clear hp2 HCL2
              go_wp2_with fail
              go_end0
              exact ⟨rfl, m4, d4, HPd4.out, rfl⟩
            · have rB2 : decide ((e : Int) < (b : Int)) = false := decide_eq_false (by omega)
              have rBn2 : decide (e < b) = false := decide_eq_false hB2
              go_wp2_with fail
              go_end0
              exact ⟨rfl, m3, d3, HPd3.out, rfl⟩
          · have rA2 : decide ((mid : Int) < (e : Int)) = false := decide_eq_false (by omega)
            have rAn2 : decide (mid < e) = false := decide_eq_false hA2
            go_wp2_with fail
            go_end0
            exact ⟨rfl, m3, d3, HPd3.out, rfl⟩
        · have rB1 : decide ((i : Int) < (mid : Int)) = false := decide_eq_false (by omega)
          have rBn1 : decide (i < mid) = false := decide_eq_false hB1
          by_cases hA2 : mid < e
          · have rA2 : decide ((mid : Int) < (e : Int)) = true := decide_eq_true (by omega)
            have rAn2 : decide (mid < e) = true := decide_eq_true hA2
            by_cases hB2 : e < b
            · have rB2 : decide ((e : Int) < (b : Int)) = true := decide_eq_true (by omega)
              have rBn2 : decide (e < b) = true := decide_eq_true hB2
              have HCL2 := Lib.hid (show MergeOk k w blk cap s p mid e b d mm from HIH.out mid e b d mm (by rw [HPd.out.1, HD.out]) (by omega) hA2 hB2 (by omega))
              unfold MergeOk at HCL2
              go_wp2_with fail
              refine HCL2.out.mono ?_
              rintro e2 w2 ⟨rfl, m4, d4, hp2, rfl⟩
              have HPd4 := Lib.hid (permIn_trans _ _ _ _ _ HPd.out (show PermIn 0 d.size d d4 by rw [← HPd.out.1]; exact hp2))
              clear hp2 HCL2
              go_wp2_with fail
              go_end0
              exact ⟨rfl, m4, d4, HPd4.out, rfl⟩
            · have rB2 : decide ((e : Int) < (b : Int)) = false := decide_eq_false (by omega)
              have rBn2 : decide (e < b) = false := decide_eq_false hB2
              go_wp2_with fail
              go_end0
              exact ⟨rfl, mm, d, HPd.out, rfl⟩
          · have rA2 : decide ((mid : Int) < (e : Int)) = false := decide_eq_false (by omega)
            have rAn2 : decide (mid < e) = false := decide_eq_false hA2
            go_wp2_with fail
            go_end0
            exact ⟨rfl, mm, d, HPd.out, rfl⟩
      · have rA1 : decide ((a : Int) < (i : Int)) = false := decide_eq_false (by omega)
        have rAn1 : decide (a < i) = false := decide_eq_false hA1
        by_cases hA2 : mid < e
        · have rA2 : decide ((mid : Int) < (e : Int)) = true := decide_eq_true (by omega)
          have rAn2 : decide (mid < e) = true := decide_eq_true hA2
          by_cases hB2 : e < b
          · have rB2 : decide ((e : Int) < (b : Int)) = true := decide_eq_true (by omega)
            have rBn2 : decide (e < b) = true := decide_eq_true hB2
            have HCL2 := Lib.hid (show MergeOk k w blk cap s p mid e b d mm from HIH.out mid e b d mm (by rw [HPd.out.1, HD.out]) (by omega) hA2 hB2 (by omega))
            unfold MergeOk at HCL2
            go_wp2_with fail
            refine HCL2.out.mono ?_
            rintro e2 w2 ⟨rfl, m4, d4, hp2, rfl⟩
            have HPd4 := Lib.hid (permIn_trans _ _ _ _ _ HPd.out (show PermIn 0 d.size d d4 by rw [← HPd.out.1]; exact hp2))
            clear hp2 HCL2
            go_wp2_with fail
            go_end0
            exact ⟨rfl, m4, d4, HPd4.out, rfl⟩
          · have rB2 : decide ((e : Int) < (b : Int)) = false := decide_eq_false (by omega)
            have rBn2 : decide (e < b) = false := decide_eq_false hB2
            go_wp2_with fail
            go_end0
            exact ⟨rfl, mm, d, HPd.out, rfl⟩
        · have rA2 : decide ((mid : Int) < (e : Int)) = false := decide_eq_false (by omega)
          have rAn2 : decide (mid < e) = false := decide_eq_false hA2
          go_wp2_with fail
          go_end0
          exact ⟨rfl, mm, d, HPd.out, rfl⟩
theorem merge_ok (k : Nat) (w : World) (blk cap : Nat) (d0 : Array (Fin (k + 1))) (s : Nat) (p : Nat) (cf : Fin (k + 1) → Fin (k + 1) → Int) (hC : CmpAny (k := k) w blk s #[.pointer (some ⟨p, 0, none⟩)] cf) (hH : Holds encF w blk 0 d0) (h0 : d0.size = s) (hs : s ≤ 1000) :
    ∀ (N a m b : Nat) (d : Array (Fin (k + 1))) (m0 : Nat), d.size = s → b - a ≤ N → a < m → m < b → b ≤ s → MergeOk k w blk cap s p a m b d m0 := by
  intro N
  induction N with
  | zero => intro a m b d m0 _ h1 h2 h3 _; omega
  | succ N ih =>
    intro a m b d m0 hd h1 h2 h3 h4
    by_cases e1 : m = a + 1
    · exact merge_one k w blk cap d0 d s p cf hC hH h0 hd a m b e1 h3 h4 hs m0
    by_cases e2 : b = m + 1
    · exact merge_last k w blk cap d0 d s p cf hC hH h0 hd a m b h2 (by omega) e2 h4 hs m0
    exact merge_step k w blk cap d0 d s p cf hC hH h0 hd a m b h2 (by omega) h3 (by omega) h4 hs m0 (fun a' m' b' d' mm g1 g2 g3 g4 g5 => ih a' m' b' d' mm g1 (by omega) g3 g4 g5)
end Go.Proofs.Ytecedbjkebdeaaa

/-
  Package tags: the stable sort at any size: that the row stays a permutation.
-/
namespace Go.Proofs.Ytecedbjkebdeaaa
open Go.RowKit Go.Maps Go.WideElems Go.ChangeMaps Go.MapKept Go.Shelf Go.Sort Go.Lib
set_option linter.unusedVariables false
set_option linter.unusedSimpArgs false
set_option maxRecDepth 100000

theorem ins_ok (k : Nat) (w : World) (blk cap s p : Nat) (cf : Fin (k + 1) → Fin (k + 1) → Int) (hS : SWO (ltOf cf)) (d0 : Array (Fin (k + 1))) (hH : Holds encF w blk 0 d0) (h0 : d0.size = s) (hs : s ≤ 1000)
    (hR : ∀ (d' : Array (Fin (k + 1))) (mm : Nat), d'.size = s → CmpReads Try.prog 23 #[.pointer (some ⟨p, 0, none⟩)] encF cf blk 0 s ((putRow encF w blk 0 d').drewN mm))
    (d : Array (Fin (k + 1))) (m0 : Nat) (hd : d.size = s) (a b : Nat) (hab : a ≤ b) (hb : b ≤ s) :
    Calls Try.prog 53 #[.slice (some ⟨blk, 0, none⟩) s cap, .int .i64 (a : Nat), .int .i64 (b : Nat), .func (.func 23) #[] #[.pointer (some ⟨p, 0, none⟩)]] ((putRow encF w blk 0 d).drewN m0) fun e w' => e = .returned (.tuple #[]) ∧ PW w blk d w' := by
  have hHd : Holds encF ((putRow encF w blk 0 d).drewN m0) blk 0 d := holds_putRow encF w blk 0 d0 d hH (by rw [hd, h0])
  have hi := Any.insertionSortCmpFunc_one (L := Try.insA) encF (encF_one k) cf 23 #[.pointer (some ⟨p, 0, none⟩)] blk 0 cap a b d ((putRow encF w blk 0 d).drewN m0) (enters_of Try.func23 (by kernel_rfl) rfl) (by rw [hd]; exact hR d m0 hd) hHd hab (by omega) (by omega)
  change Calls Try.prog 53 _ _ _ at hi
  rw [hd] at hi
  refine hi.mono ?_
  rintro e w' ⟨rfl, n, rfl⟩
  have hp := (insertionSort_holds hS d a b hab (by omega)).1
  refine ⟨rfl, m0 + n, Sort.insertionSort (ltOf cf) d a b, permIn_mono _ _ _ _ _ _ (Nat.zero_le _) (by omega) (Nat.le_refl _) hp, ?_⟩
  rw [← World.drewN_drewN]
  have e : putRow encF ((putRow encF w blk 0 d).drewN m0) blk 0 (Sort.insertionSort (ltOf cf) d a b) = (putRow encF (putRow encF w blk 0 d) blk 0 (Sort.insertionSort (ltOf cf) d a b)).drewN m0 := rfl
  rw [e, putRow_putRow encF w blk 0 d _ hp.1]
set_option maxHeartbeats 1000000 in
theorem stableAny_ok (k : Nat) (w : World) (blk cap s p : Nat) (cf : Fin (k + 1) → Fin (k + 1) → Int) (hS : SWO (ltOf cf)) (d0 : Array (Fin (k + 1))) (hH : Holds encF w blk 0 d0) (h0 : d0.size = s) (hs : s ≤ 1000) (hC : CmpAny (k := k) w blk s #[.pointer (some ⟨p, 0, none⟩)] cf)
    (hR : ∀ (d' : Array (Fin (k + 1))) (mm : Nat), d'.size = s → CmpReads Try.prog 23 #[.pointer (some ⟨p, 0, none⟩)] encF cf blk 0 s ((putRow encF w blk 0 d').drewN mm))
    (d : Array (Fin (k + 1))) (m0 : Nat) (hd : d.size = s) :
    Calls Try.prog 38 #[.slice (some ⟨blk, 0, none⟩) s cap, .int .i64 (s : Nat), .func (.func 23) #[] #[.pointer (some ⟨p, 0, none⟩)]] ((putRow encF w blk 0 d).drewN m0) fun e w' => e = .returned (.tuple #[]) ∧ PW w blk d w' := by
  have HD := Lib.hid hd
  have HI := Lib.hid (fun d' mm h a b h1 h2 => ins_ok k w blk cap s p cf hS d0 hH h0 hs hR d' mm h a b h1 h2)
  have HM := Lib.hid (fun a m b d' mm h1 h2 h3 h4 => merge_ok k w blk cap d0 s p cf hC hH h0 hs (b - a) a m b d' mm h1 (Nat.le_refl _) h2 h3 h4)
  clear hS hH h0 hC hR hd
  go_enter Try.func38, Try.ntmps38
  go_wp2_with fail
  go_loopw [7, 8] (fun av bv wr => ∃ (a b mm : Nat) (d' : Array (Fin (k + 1))), av = .int .i64 (a : Nat) ∧ bv = .int .i64 (b : Nat) ∧ a + 20 = b ∧ a ≤ s ∧ PermIn 0 d.size d d' ∧ (putRow encF w blk 0 d').drewN mm = wr) (fun av _ _ => 2000 - (Lib.intOf av).toNat)
  case atStart => exact ⟨0, 20, m0, d, rfl, rfl, rfl, Nat.zero_le _, permIn_refl _ _ _, rfl⟩
  case round =>
  obtain ⟨a, b, mm, d', rfl, rfl, hab, has, hp, hw⟩ := hrel
  have hd' : d'.size = s := by rw [hp.1, HD.out]
  have HP := Lib.hid hp
  have q1 : IntKind.i64.wrap ((b : Int) + 20) = ((b + 20 : Nat) : Int) := by rw [wrap_ok (by unfold I64; omega)]; omega
  clear hp
  by_cases hle : b ≤ s
  · have q4 : decide ((b : Int) ≤ (s : Int)) = true := decide_eq_true (by omega)
    have q4n : decide (b ≤ s) = true := decide_eq_true hle
    have hc := HI.out d' mm hd' a b (by omega) hle
    rw [hw] at hc
    have HC := Lib.hid hc
    clear hc hw
    go_wp2_with fail
    refine HC.out.mono ?_
    rintro e w' ⟨rfl, m2, d2, hp2, rfl⟩
    have HP2 := Lib.hid (permIn_trans _ _ _ _ _ HP.out (show PermIn 0 d.size d' d2 by rw [← HP.out.1]; exact hp2))
    clear hp2 HC
    go_wp2_with fail
    go_roundw
    case rel => exact ⟨b, b + 20, m2, d2, rfl, rfl, rfl, hle, HP2.out, (by first | rfl | trivial)⟩
    case measure => simp only [Lib.intOf]; omega
  have q4 : decide ((b : Int) ≤ (s : Int)) = false := decide_eq_false (by omega)
  have q4n : decide (b ≤ s) = false := decide_eq_false hle
  have hc := HI.out d' mm hd' a s has (Nat.le_refl _)
  rw [hw] at hc
  have HC := Lib.hid hc
  clear hc hw
  go_wp2_with fail
  refine HC.out.mono ?_
  rintro e w' ⟨rfl, m2, d2, hp2, rfl⟩
  have HP2 := Lib.hid (permIn_trans _ _ _ _ _ HP.out (show PermIn 0 d.size d' d2 by rw [← HP.out.1]; exact hp2))
  clear hp2 HC q4 q4n q1
  go_wp2_with fail
  go_loopw [6] (fun zv wr => ∃ (z mm : Nat) (d' : Array (Fin (k + 1))), zv = .int .i64 (z : Nat) ∧ 20 ≤ z ∧ z ≤ 4000 ∧ PermIn 0 d.size d d' ∧ (putRow encF w blk 0 d').drewN mm = wr) (fun zv _ => 5000 - (Lib.intOf zv).toNat)
  case atStart => exact ⟨20, m2, d2, rfl, Nat.le_refl _, by omega, HP2.out, rfl⟩
  case round =>
  obtain ⟨z, m3, d3, rfl, hz1, hz2, hp, hw⟩ := hrel
  have HP3 := Lib.hid hp
  have HW3 := Lib.hid hw
  clear hp hw
  by_cases hzs : z < s
  · have q4 : decide ((z : Int) < (s : Int)) = true := decide_eq_true (by omega)
    have q4n : decide (z < s) = true := decide_eq_true hzs
    obtain ⟨z2, hzz⟩ : ∃ z2, 2 * z = z2 := ⟨_, rfl⟩
    have q5 : IntKind.i64.wrap (2 * (z : Int)) = (z2 : Int) := by rw [wrap_ok (by unfold I64; omega)]; omega
    have q5b : IntKind.i64.wrap ((z : Int) * 2) = (z2 : Int) := by rw [wrap_ok (by unfold I64; omega)]; omega
    go_wp2_with fail
    go_loopw [7, 8] (fun av bv wr => ∃ (a b mm : Nat) (d' : Array (Fin (k + 1))), av = .int .i64 (a : Nat) ∧ bv = .int .i64 (b : Nat) ∧ a + z2 = b ∧ a ≤ s ∧ PermIn 0 d.size d d' ∧ (putRow encF w blk 0 d').drewN mm = wr) (fun av _ _ => 2000 - (Lib.intOf av).toNat)
    case atStart => exact ⟨0, z2, m3, d3, rfl, rfl, by omega, Nat.zero_le _, HP3.out, HW3.out⟩
    case round =>
    clear q4 q4n
    obtain ⟨a, b, m4, d4, rfl, rfl, hab, has, hp, hw⟩ := hrel
    have hd4 : d4.size = s := by rw [hp.1, HD.out]
    have HP4 := Lib.hid hp
    obtain ⟨mz, hmz⟩ : ∃ mz, a + z = mz := ⟨_, rfl⟩
    have q6 : IntKind.i64.wrap ((a : Int) + (z : Int)) = (mz : Int) := by rw [wrap_ok (by unfold I64; omega)]; omega
    obtain ⟨bz, hbz⟩ : ∃ bz, b + z2 = bz := ⟨_, rfl⟩
    have q7 : IntKind.i64.wrap ((b : Int) + (z2 : Int)) = (bz : Int) := by rw [wrap_ok (by unfold I64; omega)]; omega
    clear hp
    by_cases hle : b ≤ s
    · have q4 : decide ((b : Int) ≤ (s : Int)) = true := decide_eq_true (by omega)
      have q4n : decide (b ≤ s) = true := decide_eq_true hle
      have hc := HM.out a mz b d4 m4 hd4 (by omega) (by omega) hle
      unfold MergeOk at hc
      rw [hw] at hc
      have HC := Lib.hid hc
      clear hc hw
      go_wp2_with fail
      refine HC.out.mono ?_
      rintro e w' ⟨rfl, m5, d5, hp5, rfl⟩
      have HP5 := Lib.hid (permIn_trans _ _ _ _ _ HP4.out (show PermIn 0 d.size d4 d5 by rw [← HP4.out.1]; exact hp5))
      clear hp5 HC
      go_wp2_with fail
      go_roundw
      case rel => exact ⟨b, bz, m5, d5, rfl, rfl, hbz, hle, HP5.out, (by first | rfl | trivial)⟩
      case measure => simp only [Lib.intOf]; omega
    have q4 : decide ((b : Int) ≤ (s : Int)) = false := decide_eq_false (by omega)
    have q4n : decide (b ≤ s) = false := decide_eq_false hle
    by_cases hms : mz < s
    · have q8 : decide ((mz : Int) < (s : Int)) = true := decide_eq_true (by omega)
      have q8n : decide (mz < s) = true := decide_eq_true hms
      have hc := HM.out a mz s d4 m4 hd4 (by omega) hms (Nat.le_refl _)
      unfold MergeOk at hc
      rw [hw] at hc
      have HC := Lib.hid hc
      clear hc hw
      go_wp2_with fail
      refine HC.out.mono ?_
      rintro e w' ⟨rfl, m5, d5, hp5, rfl⟩
      have HP5 := Lib.hid (permIn_trans _ _ _ _ _ HP4.out (show PermIn 0 d.size d4 d5 by rw [← HP4.out.1]; exact hp5))
      clear hp5 HC
      go_wp2_with fail
      go_roundw
      case rel => exact ⟨z2, m5, d5, rfl, by omega, by omega, HP5.out, (by first | rfl | trivial)⟩
      case measure => simp only [Lib.intOf]; omega
    · have q8 : decide ((mz : Int) < (s : Int)) = false := decide_eq_false (by omega)
      have q8n : decide (mz < s) = false := decide_eq_false hms
      go_wp2_with fail
      go_roundw
      case rel => exact ⟨z2, m4, d4, rfl, by omega, by omega, HP4.out, hw⟩
      case measure => simp only [Lib.intOf]; omega
  · have q4 : decide ((z : Int) < (s : Int)) = false := decide_eq_false (by omega)
    have q4n : decide (z < s) = false := decide_eq_false hzs
    go_wp2_with fail
    go_end0
    exact ⟨rfl, m3, d3, HP3.out, HW3.out.symm⟩
end Go.Proofs.Ytecedbjkebdeaaa

/-
  Package tags: the order of the places at any number of them: an arrangement.
-/
namespace Go.Proofs.Ytecedbjkebdeaaa
open Go.RowKit Go.Maps Go.WideElems Go.ChangeMaps Go.MapKept Go.Shelf Go.Sort Go.Lib
set_option linter.unusedVariables false
set_option linter.unusedSimpArgs false
set_option maxRecDepth 100000

set_option maxHeartbeats 1000000 in
theorem sortAny_ok (k : Nat) (w : World) (blk cap s p : Nat) (cf : Fin (k + 1) → Fin (k + 1) → Int) (hS : SWO (ltOf cf)) (hs : s ≤ 1000) (hC : CmpAny (k := k) w blk s #[.pointer (some ⟨p, 0, none⟩)] cf)
    (hR : ∀ (d' : Array (Fin (k + 1))) (mm : Nat), d'.size = s → CmpReads Try.prog 23 #[.pointer (some ⟨p, 0, none⟩)] encF cf blk 0 s ((putRow encF w blk 0 d').drewN mm))
    (d : Array (Fin (k + 1))) (hH : Holds encF w blk 0 d) (hd : d.size = s) :
    Calls Try.prog 22 #[.slice (some ⟨blk, 0, none⟩) s cap, .func (.func 23) #[] #[.pointer (some ⟨p, 0, none⟩)]] w fun e w' => e = .returned (.tuple #[]) ∧ PW w blk d w' := by
  have hi := stableAny_ok k w blk cap s p cf hS d hH hd hs hC hR d 0 hd
  have e : (putRow encF w blk 0 d).drewN 0 = w := by rw [putRow_self encF w blk 0 d hH]; rfl
  rw [e] at hi
  have HI := Lib.hid hi
  clear hH hd hi hC hR e
  go_enter Try.func22, Try.ntmps22
  go_wp2_with fail
  refine HI.out.mono ?_
  rintro e w' ⟨rfl, hw⟩
  have HW := Lib.hid hw
  clear hw
  go_wp2_with fail
  go_end0
  exact ⟨rfl, HW.out⟩
/-- the sort of an own row of places -/
theorem sortRowAny_ok (k : Nat) (key : Nat → Int) (w : World) (B lb lg cl g cap : Nat) (hk : k + 1 ≤ 1000)
    (hrow : w.ownsRow B 3 1 (.slice (some ⟨g, 0, none⟩) (k + 1) cap) (k + 1) ((List.range (k + 1)).map fun i => .int .i64 ((i : Nat) : Int)))
    (hb : lb ≠ g) (hg : lg ≠ g) (h0 : w.cell? ⟨lb, 0, none⟩ = some (.slice (some ⟨lg, 0, none⟩) (k + 1) cl)) (h1 : ∀ i, i < k + 1 → w.cell? ⟨lg, i, none⟩ = some (.int .i64 (key i))) :
    Calls Try.prog 22 #[.slice (some ⟨g, 0, none⟩) (k + 1) cap, .func (.func 23) #[] #[.pointer (some ⟨lb, 0, none⟩)]] w fun e w' =>
      e = .returned (.tuple #[]) ∧ (∃ d' : Array (Fin (k + 1)), PermIn 0 (k + 1) (idF k) d' ∧ w'.ownsRow B 3 1 (.slice (some ⟨g, 0, none⟩) (k + 1) cap) (k + 1) (d'.toList.map encF)) ∧ Below B w w' := by
  obtain ⟨g', cap', hv, hbg, hlt⟩ := hrow.form (by omega)
  cases hv
  rw [← idF_enc] at hrow
  have hH := holds_own encF hrow (idF_size k)
  have hlb : lb < w.heap.size := by
    obtain ⟨c, e, fr, h2, _⟩ := cells_of_cell? h0
    exact (Array.getElem?_eq_some_iff.1 h2).1
  have hlg : lg < w.heap.size := by
    obtain ⟨c, e, fr, h2, _⟩ := cells_of_cell? (h1 0 (by omega))
    exact (Array.getElem?_eq_some_iff.1 h2).1
  have hput : ∀ (X : World) (D : Array (Fin (k + 1))) (b o : Nat), b ≠ g → (putRow encF X g 0 D).cell? ⟨b, o, none⟩ = X.cell? ⟨b, o, none⟩ := fun X D b o hne => cell?_putRow_other _ _ _ _ _ _ (.inl hne)
  have hC : CmpAny (k := k) w g (k + 1) #[.pointer (some ⟨lb, 0, none⟩)] (cfK k key) := fun d' hd' x y mm =>
    less_ok _ lb lg (k + 1) cl key x.val y.val x.isLt y.isLt (by show (putRow encF w g 0 d').cell? _ = _; rw [hput _ _ _ _ hb]; exact h0) (fun i hi => by show (putRow encF w g 0 d').cell? _ = _; rw [hput _ _ _ _ hg]; exact h1 i hi)
  have hR : ∀ (d' : Array (Fin (k + 1))) (mm : Nat), d'.size = k + 1 → CmpReads Try.prog 23 #[.pointer (some ⟨lb, 0, none⟩)] encF (cfK k key) g 0 (k + 1) ((putRow encF w g 0 d').drewN mm) := by
    intro d' mm hd' m os dk hs x y
    have hcell : ∀ b o, b < w.heap.size → b ≠ g → (sortWorld encF ((putRow encF w g 0 d').drewN mm) g 0 m dk os).cell? ⟨b, o, none⟩ = w.cell? ⟨b, o, none⟩ := fun b o hbl hne => by
      unfold sortWorld
      rw [cell?_grow _ _ _ (by simpa using hbl), cell?_putRow_other _ _ _ _ _ _ (.inl hne)]
      show (putRow encF w g 0 d').cell? _ = _
      exact hput _ _ _ _ hne
    exact less_ok _ lb lg (k + 1) cl key x.val y.val x.isLt y.isLt (by rw [hcell lb 0 hlb hb]; exact h0) (fun i hi => by rw [hcell lg i hlg hg]; exact h1 i hi)
  have h := sortAny_ok k w g cap (k + 1) lb (cfK k key) (ltOf_swo k key) hk hC hR (idF k) hH (idF_size k)
  refine h.mono ?_
  rintro e w' ⟨rfl, n, d', hp, rfl⟩
  rw [idF_size] at hp
  exact ⟨rfl, ⟨d', hp, ownsRow_put encF (m := n) hrow (by rw [hp.1, idF_size])⟩, (Below.refl B w).grown (grownBy_put encF w g n _) (by omega) (fun j hj => by cases hj; exact hbg)⟩
end Go.Proofs.Ytecedbjkebdeaaa

/-
  Package tags: 'Order' at any number of parts: each place once.
-/
namespace Go.Proofs.Ytecedbjkebdeaaa
open Go.RowKit Go.Maps Go.WideElems Go.ChangeMaps Go.MapKept Go.Shelf
set_option linter.unusedVariables false
set_option linter.unusedSimpArgs false
set_option maxRecDepth 100000

/-- an arrangement of the places, as numbers -/
theorem perm_range {k : Nat} {d' : Array (Fin (k + 1))} (h : Sort.PermIn 0 (k + 1) (idF k) d') : (d'.toList.map fun i => ((i.val : Nat) : Int)).Perm ((List.range (k + 1)).map fun j => ((j : Nat) : Int)) := by
  have h1 := h.1
  have h3 := h.2.2
  rw [idF_size] at h1
  have e1 : d'.extract 0 (k + 1) = d' := by
    have h4 := Array.extract_size (xs := d')
    rw [h1] at h4
    exact h4
  have e2 : (idF k).extract 0 (k + 1) = idF k := by
    have h4 := Array.extract_size (xs := idF k)
    rw [idF_size] at h4
    exact h4
  rw [e1, e2] at h3
  have h5 := h3.map fun i : Fin (k + 1) => ((i.val : Nat) : Int)
  have h6 : (idF k).toList.map (fun i : Fin (k + 1) => ((i.val : Nat) : Int)) = (List.range (k + 1)).map fun j => ((j : Nat) : Int) := by
    unfold idF
    apply List.ext_getElem?
    intro j
    by_cases hj : j < k + 1
    · rw [List.getElem?_map, Array.getElem?_toList, Array.getElem?_ofFn, dif_pos hj, List.getElem?_map, List.getElem?_range hj]
      rfl
    · simp [hj]
  rw [h6] at h5
  exact h5
theorem sortRowP_ok (k : Nat) (key : Nat → Int) (w : World) (B lb lg cl g cap : Nat) (hk : k + 1 ≤ 1000)
    (hrow : w.ownsRow B 3 1 (.slice (some ⟨g, 0, none⟩) (k + 1) cap) (k + 1) ((List.range (k + 1)).map fun i => .int .i64 ((i : Nat) : Int)))
    (hb : lb ≠ g) (hg : lg ≠ g) (h0 : w.cell? ⟨lb, 0, none⟩ = some (.slice (some ⟨lg, 0, none⟩) (k + 1) cl)) (h1 : ∀ i, i < k + 1 → w.cell? ⟨lg, i, none⟩ = some (.int .i64 (key i))) :
    Calls Try.prog 22 #[.slice (some ⟨g, 0, none⟩) (k + 1) cap, .func (.func 23) #[] #[.pointer (some ⟨lb, 0, none⟩)]] w fun e w' =>
      e = .returned (.tuple #[]) ∧ (∃ xs : List Int, xs.Perm ((List.range (k + 1)).map fun j => ((j : Nat) : Int)) ∧ w'.ownsRow B 3 1 (.slice (some ⟨g, 0, none⟩) (k + 1) cap) (k + 1) (xs.map (Value.int .i64))) ∧ Below B w w' := by
  refine (sortRowAny_ok k key w B lb lg cl g cap hk hrow hb hg h0 h1).mono ?_
  rintro e w' ⟨rfl, ⟨d', hp, ho⟩, hbl⟩
  exact ⟨rfl, ⟨d'.toList.map (fun i => ((i.val : Nat) : Int)), perm_range hp, by rw [List.map_map]; exact ho⟩, hbl⟩
/-- what 'Order' answers: each place once -/
def OrdB (w : World) (n : Nat) (v : Value) (w' : World) : Prop :=
  ∃ xs : List Int, w'.ownsRow w.heap.size 3 1 v n (xs.map (Value.int .i64)) ∧ Below w.heap.size w w' ∧ xs.Perm ((List.range n).map fun j => ((j : Nat) : Int))
set_option maxHeartbeats 8000000 in
theorem Order_any (w : World) (l : EL) (t : TT) (hl : EOk w.heap.size w l) (ht : TIn w.heap.size w t) (hn : l.n ≤ 1000) (hz : ∀ p, p < l.n → (l.f p).t.wid ≤ 10000) (hw : t.wid ≤ 1000) (k : Nat) (hk : t.pn = k + 1) :
    Calls Try.prog 11 #[.slice l.a l.n l.cap, .bool false, .agg t.cells.toArray] w fun e w' => ∃ v, e = .returned v ∧ OrdB w t.pn v w' := by
  obtain ⟨i0, hi0, hz0, hz1, hz2⟩ := info_parts info_i64
  obtain ⟨pa, pc, aa, ac, ea, ec, TC⟩ := ht.tcells
  have HTC := Lib.hid TC
  have HXN := Lib.hid (Bx.new w t.cells.toArray 35)
  have HB0 := Lib.hid (show Below w.heap.size w (w.alloc (.cells t.cells.toArray 35)) from (Below.refl w.heap.size w).alloc (Nat.le_refl _) _)
  have hwi := t.wid_eq
  have hpn : t.pn ≤ 1000 := by
    have := sumW_ge (f := fun i => (t.alt i).wid) (n := t.nal) (fun i _ => (t.alt i).wid_pos)
    have h2 : t.pn ≤ t.nal := Nat.le_add_right _ _
    omega
  have HWI := Lib.hid (show ∀ i, i < t.pn → (t.alt i).wid ≤ 10000 from fun i hi => by
    have := sumW_one (f := fun i => (t.alt i).wid) (n := t.nal) (i := i) (Nat.lt_of_lt_of_le hi (Nat.le_add_right _ _))
    have : (fun i => (t.alt i).wid) i = (t.alt i).wid := rfl
    omega)
  have HAL := Lib.hid (show ∀ i, i < t.pn → TIn w.heap.size w (t.alt i) from fun i hi => (TC.al i (Nat.lt_of_lt_of_le hi (Nat.le_add_right _ _))).2)
  have HPR := Lib.hid TC.pr
  have HL := Lib.hid hl
  have HZ := Lib.hid hz
  have c12 := HXN.out.cell 12 TC.ps
  obtain ⟨n, hnn⟩ : ∃ n, t.pn = n := ⟨_, rfl⟩
  have HNN := Lib.hid hnn
  rw [hnn] at c12 hpn hk HWI HAL HPR ⊢
  have hs0 : (w.alloc (.cells t.cells.toArray 35)).heap.size = w.heap.size + 1 := by simp
  have HK := Lib.hid hk
  clear TC hl hz hnn hwi hw hk
  go_enter Try.func11, Try.ntmps11
  go_wp2_with fail
  obtain ⟨W0, hW0⟩ : ∃ W0, w.alloc (.cells t.cells.toArray 35) = W0 := ⟨_, rfl⟩
  rw [hW0] at c12 HXN HB0 hs0 ⊢
  clear hW0
  go_loopw [7, 13] (fun v iv wr => RelO W0 v iv wr ∧ (Lib.intOf iv).toNat ≤ n) (fun _ iv _ => n - (Lib.intOf iv).toNat)
  case atStart => exact ⟨⟨0, rfl, World.ownsRow_nil _ _ _ _, Below.refl _ _⟩, Nat.zero_le _⟩
  case round =>
  obtain ⟨⟨i, rfl, hown, hb1⟩, hi⟩ := hrel
  have hi : i ≤ n := by simpa [Lib.intOf] using hi
  have HOW := Lib.hid hown
  have HB1 := Lib.hid hb1
  have hs1 := hb1.size
  have c12r : wr.cell? ⟨w.heap.size, 12, none⟩ = some (.slice pa n pc) := (hb1.cell (p := ⟨w.heap.size, 12, none⟩) (by show w.heap.size < W0.heap.size; omega)).trans c12
  clear hown hb1
  by_cases hlt : i < n
  · have q4 : decide ((i : Int) < (n : Int)) = true := decide_eq_true (by omega)
    have q4n : decide (i < n) = true := decide_eq_true hlt
    have q5 : IntKind.i64.wrap ((i : Int) + 1) = ((i + 1 : Nat) : Int) := wrap_succ hlt (by omega)
    clear c12 c12r
    go_wp2_with (at_builtin; refine wpList_append_own _ rfl (.tmp 16) (.tmp 18) 37 rfl W0.heap.size 3 i0 (.int .i64 0) 1 8 Try.underlying37 hi0 hz0 hz1 hz2 rfl (by decide) _ i ((List.range i).map fun j => .int .i64 ((j : Nat) : Int)) rfl (World.ownsRow.alloc HOW.out _) ⟨wr.heap.size, 0, none⟩ 1 1 [.int .i64 (i : Nat)] rfl rfl (cell_one_new wr (.int .i64 (i : Nat)) _) (by intro u hu; rw [List.mem_singleton] at hu; subst hu; rfl) (by unfold maxLen; omega) (by omega) (by simp; omega) ?_; intro v4 w6 ho4 hg4 _; have HO4 := Lib.hid ho4; have HG4 := Lib.hid hg4; clear ho4 hg4)
    have HB6 := Lib.hid ((HB1.out.alloc (by omega) _).grown HG4.out (by simp; omega) (fun j hj => (HOW.out.lt j hj).1))
    go_roundw
    case rel => exact ⟨⟨i + 1, rfl, by rw [List.range_succ, List.map_append]; exact HO4.out, HB6.out⟩, by simp only [Lib.intOf]; omega⟩
    case measure => simp only [Lib.intOf]; omega
  · have q4 : decide ((i : Int) < (n : Int)) = false := decide_eq_false (by omega)
    have q4n : decide (i < n) = false := decide_eq_false hlt
    have HIN := Lib.hid (show i = n by omega)
    have hnk : n = k + 1 := HK.out
    have h20 : k + 1 ≤ 1000 := by omega
    · skip
      have hbw := HB0.out.trans (HB1.out.mono HB0.out.size)
      have HBW := Lib.hid hbw
      have HLT := Lib.hid (leastTags_ok wr l pa n pc t.ald t.alt ((HL.out.below hbw (Nat.le_refl _)).below (Below.refl wr.heap.size wr) hbw.size) ((HPR.out.below hbw (Nat.le_refl _)).below (Below.refl wr.heap.size wr) hbw.size) (fun i hi => ((HAL.out i hi).below hbw (Nat.le_refl _)).below (Below.refl wr.heap.size wr) hbw.size) hn HZ.out HWI.out hpn)
      have HNK := Lib.hid hnk
      have hn0 : 0 < n := by omega
      have hi0' : 0 < i := by have := HIN.out; omega
      have hgg : W0.heap.size ≤ wr.heap.size := hs1
      clear c12 hbw hnk
      go_wp2_with fail
      refine HLT.out.mono ?_
      rintro e w2 ⟨v2, S, rfl, h1, h2, h3⟩
      have hs2 := h3.size
      obtain ⟨g2, cap2, rfl, hg2, hg2l⟩ := h1.form (by omega)
      obtain ⟨g, cap, hvv, hg, hgl⟩ := HOW.out.form (by omega)
      subst hvv
      have HX2 := Lib.hid (own_block HOW.out (w' := w2.alloc (.cells #[.slice (some ⟨g2, 0, none⟩) n cap2] 37)) fun j hj => by
        have h4 := (HOW.out.lt j hj).2
        rw [Below.heap_alloc _ _ _ (by omega)]
        exact h3.block j h4)
      have HH2 := Lib.hid h2
      have HB2 := Lib.hid (HBW.out.trans (h3.mono HBW.out.size))
      have HK1 := Lib.hid (show ∀ j, j < k + 1 → (w2.alloc (.cells #[.slice (some ⟨g2, 0, none⟩) n cap2] 37)).cell? ⟨g2, j, none⟩ = some (.int .i64 ((S j).least)) from fun j hj => by
        rw [World.cell?_of_block (Below.heap_alloc _ _ _ hg2l)]
        obtain ⟨g', cap', hv', _, _, _, hcs⟩ := own_read 37 3 Try.underlying37 (by kernel_rfl) Try.sizeOf3 h1 (i := j) (by have := HNK.out; omega)
        cases hv'
        exact hcs j _ (by rw [List.getElem?_map, List.getElem?_range (by have := HNK.out; omega)]; rfl))
      clear h1 h2 h3 c12r
      have HX3 := Lib.hid (show (w2.alloc (.cells #[.slice (some ⟨g2, 0, none⟩) n cap2] 37)).ownsRow W0.heap.size 3 1 (.slice (some ⟨g, 0, none⟩) (k + 1) cap) (k + 1) ((List.range (k + 1)).map fun i => .int .i64 ((i : Nat) : Int)) from by
        have h := HX2.out
        have e : i = k + 1 := by
          have := HIN.out
          have := HNK.out
          omega
        rw [e] at h
        exact h)
      have HSO := Lib.hid (sortRowP_ok k (fun j => (S j).least) (w2.alloc (.cells #[.slice (some ⟨g2, 0, none⟩) n cap2] 37)) W0.heap.size w2.heap.size g2 cap2 g cap h20 HX3.out (by omega) (by omega) (by rw [← HNK.out]; simp) HK1.out)
      have HIK := Lib.hid (show i = k + 1 by have := HIN.out; have := HNK.out; omega)
      rw [← HIK.out] at HSO
      go_wp2_with fail
      refine HSO.out.mono ?_
      rintro e w3 ⟨rfl, ⟨xs, hp, h1⟩, h2⟩
      have H1 := Lib.hid h1
      have HPM := Lib.hid hp
      clear hp
      have HB3 := Lib.hid ((HB2.out.alloc (by have := HB2.out.size; omega) (.cells #[.slice (some ⟨g2, 0, none⟩) n cap2] 37)).trans (h2.mono (by omega)))
      clear h1 h2
      go_wp2_with fail
      go_ret
      have h := H1.out
      have hpm := HPM.out
      rw [HIN.out] at h hpm ⊢
      exact ⟨_, rfl, xs, ownsRow_base_a h (by omega), HB3.out, hpm⟩
end Go.Proofs.Ytecedbjkebdeaaa

/-
  Package tags: 'Order' where there are no parts; and at any number of them.
-/
namespace Go.Proofs.Ytecedbjkebdeaaa
open Go.RowKit Go.Maps Go.WideElems Go.ChangeMaps Go.MapKept Go.Shelf
set_option linter.unusedVariables false
set_option linter.unusedSimpArgs false
set_option maxRecDepth 100000

set_option maxHeartbeats 1000000 in
theorem insNil_ok (w : World) (f : Value) :
    Calls Try.prog 53 #[.slice none 0 0, .int .i64 0, .int .i64 0, f] w fun e w' => e = .returned (.tuple #[]) ∧ w' = w := by
  have q1 : IntKind.i64.wrap ((0 : Int) + 1) = 1 := by decide
  go_enter Try.func53, Try.ntmps53
  go_wp2_with fail
  go_loopw [8] (fun iv wr => iv = .int .i64 1 ∧ wr = w) (fun _ _ => 0)
  case atStart => exact ⟨rfl, rfl⟩
  case round =>
  obtain ⟨rfl, rfl⟩ := hrel
  go_wp2_with fail
  go_end0
  exact ⟨rfl, rfl⟩
set_option maxHeartbeats 1000000 in
theorem stableNil_ok (w : World) (f : Value) :
    Calls Try.prog 38 #[.slice none 0 0, .int .i64 0, f] w fun e w' => e = .returned (.tuple #[]) ∧ w' = w := by
  have HC := Lib.hid (insNil_ok w f)
  go_enter Try.func38, Try.ntmps38
  go_wp2_with fail
  go_loopw [7, 8] (fun av bv wr => av = .int .i64 0 ∧ bv = .int .i64 20 ∧ wr = w) (fun _ _ _ => 0)
  case atStart => exact ⟨rfl, rfl, rfl⟩
  case round =>
  obtain ⟨rfl, rfl, rfl⟩ := hrel
  go_wp2_with fail
  refine HC.out.mono ?_
  rintro e w' ⟨rfl, rfl⟩
  go_wp2_with fail
  go_loopw [6] (fun zv wr => zv = .int .i64 20 ∧ wr = w') (fun _ _ => 0)
  case atStart => exact ⟨rfl, rfl⟩
  case round =>
  obtain ⟨rfl, rfl⟩ := hrel
  go_wp2_with fail
  go_end0
  exact ⟨rfl, rfl⟩
set_option maxHeartbeats 1000000 in
theorem sortNil_ok (w : World) (f : Value) :
    Calls Try.prog 22 #[.slice none 0 0, f] w fun e w' => e = .returned (.tuple #[]) ∧ w' = w := by
  have HI := Lib.hid (stableNil_ok w f)
  go_enter Try.func22, Try.ntmps22
  go_wp2_with fail
  refine HI.out.mono ?_
  rintro e w' ⟨rfl, rfl⟩
  go_wp2_with fail
  go_end0
  exact ⟨rfl, rfl⟩
set_option maxHeartbeats 8000000 in
theorem Order_none (w : World) (l : EL) (t : TT) (hl : EOk w.heap.size w l) (ht : TIn w.heap.size w t) (hn : l.n ≤ 1000) (hz : ∀ p, p < l.n → (l.f p).t.wid ≤ 10000) (hk : t.pn = 0) :
    Calls Try.prog 11 #[.slice l.a l.n l.cap, .bool false, .agg t.cells.toArray] w fun e w' => ∃ v, e = .returned v ∧ OrdB w t.pn v w' := by
  obtain ⟨pa, pc, aa, ac, ea, ec, TC⟩ := ht.tcells
  have HXN := Lib.hid (Bx.new w t.cells.toArray 35)
  have HB0 := Lib.hid (show Below w.heap.size w (w.alloc (.cells t.cells.toArray 35)) from (Below.refl w.heap.size w).alloc (Nat.le_refl _) _)
  have HPR := Lib.hid TC.pr
  have HL := Lib.hid hl
  have HZ := Lib.hid hz
  have c12 := HXN.out.cell 12 TC.ps
  rw [hk] at c12 HPR ⊢
  have hs0 : (w.alloc (.cells t.cells.toArray 35)).heap.size = w.heap.size + 1 := by simp
  clear TC hl hz hk
  go_enter Try.func11, Try.ntmps11
  go_wp2_with fail
  obtain ⟨W0, hW0⟩ : ∃ W0, w.alloc (.cells t.cells.toArray 35) = W0 := ⟨_, rfl⟩
  rw [hW0] at c12 HXN HB0 hs0 ⊢
  clear hW0
  go_loopw [7, 13] (fun v iv wr => v = .slice none 0 0 ∧ iv = .int .i64 0 ∧ Below W0.heap.size W0 wr) (fun _ iv _ => 0)
  case atStart => exact ⟨rfl, rfl, Below.refl _ _⟩
  case round =>
  obtain ⟨rfl, rfl, hb1⟩ := hrel
  have hs1 := hb1.size
  have hbw := HB0.out.trans (hb1.mono HB0.out.size)
  have HBW := Lib.hid hbw
  have HLT := Lib.hid (leastTags_ok wr l pa 0 pc t.ald t.alt ((HL.out.below hbw (Nat.le_refl _)).below (Below.refl wr.heap.size wr) hbw.size) ((HPR.out.below hbw (Nat.le_refl _)).below (Below.refl wr.heap.size wr) hbw.size) (fun i hi => absurd hi (Nat.not_lt_zero i)) hn HZ.out (fun i hi => absurd hi (Nat.not_lt_zero i)) (by omega))
  have c12r : wr.cell? ⟨w.heap.size, 12, none⟩ = some (.slice pa 0 pc) := (hb1.cell (p := ⟨w.heap.size, 12, none⟩) (by show w.heap.size < W0.heap.size; omega)).trans c12
  clear c12 hbw hb1
  go_wp2_with fail
  refine HLT.out.mono ?_
  rintro e w2 ⟨v2, S, rfl, h1, h2, h3⟩
  have HB2 := Lib.hid (HBW.out.trans (h3.mono HBW.out.size))
  obtain ⟨a2, cap2, rfl⟩ := own_slice h1
  have hs2 := h3.size
  have HSO := Lib.hid (sortNil_ok (w2.alloc (.cells #[.slice a2 0 cap2] 37)) (.func (.func 23) #[] #[.pointer (some ⟨w2.heap.size, 0, none⟩)]))
  have HB3 := Lib.hid (HB2.out.alloc HB2.out.size (.cells #[.slice a2 0 cap2] 37))
  clear h1 h2 h3 c12r
  go_wp2_with fail
  refine HSO.out.mono ?_
  rintro e w3 ⟨rfl, rfl⟩
  go_wp2_with fail
  go_ret
  exact ⟨_, rfl, [], World.ownsRow_nil _ _ _ _, HB3.out, by simp⟩
theorem Order_every (w : World) (l : EL) (t : TT) (hl : EOk w.heap.size w l) (ht : TIn w.heap.size w t) (hn : l.n ≤ 1000) (hz : ∀ p, p < l.n → (l.f p).t.wid ≤ 10000) (hw : t.wid ≤ 1000) :
    Calls Try.prog 11 #[.slice l.a l.n l.cap, .bool false, .agg t.cells.toArray] w fun e w' => ∃ v, e = .returned v ∧ OrdB w t.pn v w' := by
  obtain ⟨k, hk⟩ : ∃ k, t.pn = k := ⟨_, rfl⟩
  cases k with
  | zero => exact Order_none w l t hl ht hn hz hk
  | succ k => exact Order_any w l t hl ht hn hz hw k hk
end Go.Proofs.Ytecedbjkebdeaaa

/-
  Package tags' laws: the count of entries; arguments that are entries, opened.
-/
namespace Go.Proofs.Ytecedbjkebdeaaa
open Go.RowKit Go.Maps Go.WideElems Go.ChangeMaps Go.MapKept Go.Shelf
set_option linter.unusedVariables false
set_option linter.unusedSimpArgs false
set_option maxRecDepth 100000

/-- what the law's count lets by -/
def FewE (l : EL) : Prop := l.n ≤ 12 ∧ ∀ i, i < l.n → 0 ≤ (l.f i).t.few 60 ∧ (l.f i).mod.size + (l.f i).name.size ≤ 1000
set_option maxHeartbeats 8000000 in
theorem few13_ok (w : World) (l : EL) (hl : ELIn w.heap.size w l) :
    Calls Try.prog 6 #[.slice l.a l.n l.cap, .int .i64 60] w fun e w' => (∃ b, e = .returned (.bool b) ∧ (b = true → FewE l)) ∧ Below w.heap.size w w' := by
  have HL := Lib.hid hl
  obtain ⟨N, hN⟩ : ∃ N, l.n = N := ⟨_, rfl⟩
  have HN := Lib.hid hN
  rw [hN]
  clear hl hN
  by_cases h12 : 12 < N
  · have q0 : decide ((12 : Int) < (N : Int)) = true := decide_eq_true (by omega)
    have q0n : decide (12 < N) = true := decide_eq_true h12
    go_enter Try.func6, Try.ntmps6
    go_wp2_with fail
    go_ret
    exact ⟨⟨false, rfl, fun e => (by cases e)⟩, Below.refl _ _⟩
  have q0 : decide ((12 : Int) < (N : Int)) = false := decide_eq_false (by omega)
  have q0n : decide (12 < N) = false := decide_eq_false h12
  go_enter Try.func6, Try.ntmps6
  go_wp2_with fail
  go_loopw [5] (fun iv wr => ∃ i : Nat, i ≤ N ∧ iv = .int .i64 (i : Nat) ∧ Below w.heap.size w wr ∧ ∀ j, j < i → 0 ≤ (l.f j).t.few 60 ∧ (l.f j).mod.size + (l.f j).name.size ≤ 1000) (fun iv _ => N - (Lib.intOf iv).toNat)
  case atStart => exact ⟨0, Nat.zero_le _, rfl, Below.refl _ _, fun j hj => absurd hj (Nat.not_lt_zero j)⟩
  case round =>
  obtain ⟨i, hi, rfl, hb, hj⟩ := hrel
  have HB := Lib.hid hb
  have HJ := Lib.hid hj
  have hsz := hb.size
  by_cases hlt : i < N
  · have q4 : decide ((i : Int) < (N : Int)) = true := decide_eq_true (by omega)
    have q4n : decide (i < N) = true := decide_eq_true hlt
    have q5 : IntKind.i64.wrap ((i : Int) + 1) = ((i + 1 : Nat) : Int) := wrap_succ hlt (by omega)
    have hil : i < l.n := by rw [HN.out]; exact hlt
    obtain ⟨gx, ox, hix, hgx, hrd⟩ := eRow_read HL.out hil
    rw [HN.out] at hix
    have hein := HL.out.2 i hil
    have hr := hrd wr (hb.block gx hgx)
    have c0 : wr.cell? ⟨gx, ox, none⟩ = some (.string (l.f i).mod) := hr 0 _ rfl
    have c1 : wr.cell? ⟨gx, ox + 1, none⟩ = some (.string (l.f i).name) := hr 1 _ rfl
    have HRG := Lib.hid (tq_range (show wr.rangeAt gx (ox + 3) (l.f i).t.cells from fun j v hv => by
      have := hr (3 + j) v (by unfold ET.cells; rw [List.getElem?_append_right (by simp)]; simpa using hv)
      rw [← Nat.add_assoc] at this
      exact this))
    have H1T := Lib.hid (one_tcells hein.2.2)
    have HC := Lib.hid (fun (d : Nat) (os : Array Obj) => Calls.regrown_of (Few_ok (l.f i).t w.heap.size 60 (Go.Sort.grow (redrawn wr d) os) (hein.2.2.below (hb.trans ((below_regrown wr d os).mono hsz)) (Nat.le_refl _)) (Nat.le_trans hsz (below_regrown wr d os).size) (by omega) (by omega)))
    obtain ⟨t, ht⟩ : ∃ t, (l.f i).t = t := ⟨_, rfl⟩
    obtain ⟨A, hA⟩ : ∃ A, (l.f i).mod = A := ⟨_, rfl⟩
    obtain ⟨B, hB⟩ : ∃ B, (l.f i).name = B := ⟨_, rfl⟩
    have hAs := hein.1
    have hBs := hein.2.1
    have HTAB := Lib.hid (And.intro ht (And.intro hA hB))
    rw [ht] at HRG H1T HC
    rw [hA] at c0 hAs
    rw [hB] at c1 hBs
    obtain ⟨fb, hfb⟩ : ∃ fb, decide (0 ≤ t.few 60) = fb := ⟨_, rfl⟩
    have HFB := Lib.hid hfb
    rw [hfb] at HC
    have q6 : IntKind.i64.wrap ((A.size : Int) + (B.size : Int)) = ((A.size + B.size : Nat) : Int) := by
      have := wrap_ok (x := (A.size : Int) + (B.size : Int)) (by unfold I64; omega)
      rw [this]
      omega
    obtain ⟨zb, hzb⟩ : ∃ zb, decide (1000 < A.size + B.size) = zb := ⟨_, rfl⟩
    have q7 : decide ((1000 : Int) < ((A.size + B.size : Nat) : Int)) = zb := by rw [← hzb]; exact decide_eq_decide.2 (by omega)
    have q8 : decide ((1000 : Int) < (A.size : Int) + (B.size : Int)) = zb := by rw [← hzb]; exact decide_eq_decide.2 (by omega)
    have HZB := Lib.hid hzb
    have k0 := fun d os => cell_regrown c0 d os
    have k1 := fun d os => cell_regrown c1 d os
    clear hb hj hr hrd hein ht hA hB hfb hzb hil hgx c0 c1
    cases fb with
    | false =>
      go_wp2_with fail
      refine wp_region_quiet_below (by kernel_rfl) (by kernel_rfl) ?_
      iterate 4 go_big_quiet_step (fail)
      (go_big_quiet_want; refine tq_load_mid 35 (.tmp 18) rfl gx (ox + 3) rfl t.cells _ HRG.out Try.underlying35 rfl (by rw [info_T, H1T.out.1]) ?_; simp only [tq_put, List.set_cons_succ, List.set_cons_zero]; go_big_quiet_on)
      go_big_quiet_step (fail)
      go_big_quiet_step (exact HC.out _ _)
      iterate 17 go_big_quiet_step (fail)
      refine wpQuiet_nil ?_
      intro _ hw'
      obtain ⟨⟨dq, osq⟩, hw''⟩ := hw'
      subst hw''
      have hb2 := below_regrown wr dq osq
      clear k0 k1 HRG HC
      generalize Go.Sort.grow (redrawn wr dq) osq = W2 at *
      have HB4 := Lib.hid (HB.out.trans (hb2.mono hsz))
      go_wp2_with fail
      go_ret
      exact ⟨⟨false, rfl, fun e => (by cases e)⟩, HB4.out⟩
    | true =>
    cases zb with
    | true =>
      go_wp2_with fail
      refine wp_region_quiet_below (by kernel_rfl) (by kernel_rfl) ?_
      iterate 4 go_big_quiet_step (fail)
      (go_big_quiet_want; refine tq_load_mid 35 (.tmp 18) rfl gx (ox + 3) rfl t.cells _ HRG.out Try.underlying35 rfl (by rw [info_T, H1T.out.1]) ?_; simp only [tq_put, List.set_cons_succ, List.set_cons_zero]; go_big_quiet_on)
      go_big_quiet_step (fail)
      go_big_quiet_step (exact HC.out _ _)
      iterate 17 go_big_quiet_step (fail)
      refine wpQuiet_nil ?_
      intro _ hw'
      obtain ⟨⟨dq, osq⟩, hw''⟩ := hw'
      subst hw''
      have hb2 := below_regrown wr dq osq
      clear k0 k1 HRG HC
      generalize Go.Sort.grow (redrawn wr dq) osq = W2 at *
      have HB4 := Lib.hid (HB.out.trans (hb2.mono hsz))
      go_wp2_with fail
      go_ret
      exact ⟨⟨false, rfl, fun e => (by cases e)⟩, HB4.out⟩
    | false =>
      have HJ2 := Lib.hid (show ∀ j, j < i + 1 → 0 ≤ (l.f j).t.few 60 ∧ (l.f j).mod.size + (l.f j).name.size ≤ 1000 from fun j hj => by
        rcases Nat.lt_or_ge j i with h | h
        · exact HJ.out j h
        · obtain rfl : j = i := by omega
          rw [HTAB.out.1, HTAB.out.2.1, HTAB.out.2.2]
          have h1 := of_decide_eq_true HFB.out
          have h2 := of_decide_eq_false HZB.out
          exact ⟨h1, by omega⟩)
      go_wp2_with fail
      refine wp_region_quiet_below (by kernel_rfl) (by kernel_rfl) ?_
      iterate 4 go_big_quiet_step (fail)
      (go_big_quiet_want; refine tq_load_mid 35 (.tmp 18) rfl gx (ox + 3) rfl t.cells _ HRG.out Try.underlying35 rfl (by rw [info_T, H1T.out.1]) ?_; simp only [tq_put, List.set_cons_succ, List.set_cons_zero]; go_big_quiet_on)
      go_big_quiet_step (fail)
      go_big_quiet_step (exact HC.out _ _)
      iterate 17 go_big_quiet_step (fail)
      refine wpQuiet_nil ?_
      intro _ hw'
      obtain ⟨⟨dq, osq⟩, hw''⟩ := hw'
      subst hw''
      have hb2 := below_regrown wr dq osq
      clear k0 k1 HRG HC
      generalize Go.Sort.grow (redrawn wr dq) osq = W2 at *
      have HB4 := Lib.hid (HB.out.trans (hb2.mono hsz))
      go_wp2_with fail
      go_roundw
      case rel => exact ⟨i + 1, hlt, rfl, HB4.out, HJ2.out⟩
      case measure => simp only [Lib.intOf]; omega
  · have q4 : decide ((i : Int) < (N : Int)) = false := decide_eq_false (by omega)
    have q4n : decide (i < N) = false := decide_eq_false hlt
    have HE := Lib.hid (show i = l.n by have := HN.out; omega)
    go_wp2_with fail
    go_ret
    exact ⟨⟨true, rfl, fun _ => ⟨by rw [HN.out]; omega, fun j hj' => HJ.out j (by rw [HE.out]; exact hj')⟩⟩, HB.out⟩

/-! entries, opened -/
theorem kEnt : Try.prog.cellsOf 46 = 18 := by kernel_rfl
theorem open_ent {H : Type} {enc : TypeId × Value → H} {W : World} {fuel : Nat} {cs : List Value} {x : DataW H × List MemPlace} (h : DataW.trod enc Try.prog W 0 (fun _ => true) true fuel 46 cs = some x) (hl : Light 46 x.1) :
    ∃ e : ET, cs = e.cells ∧ EIn W.heap.size W e := by
  obtain ⟨n, rfl, hlen, hf⟩ := open_struct Try.underlying46 h hl
  rw [kEnt] at hlen
  match cs, hlen with
  | [c0, c1, c2, c3, c4, c5, c6, c7, c8, c9, c10, c11, c12, c13, c14, c15, c16, c17], _ =>
    obtain ⟨y0, f0, l0⟩ := hf 0 _ rfl 9 0 rfl rfl
    obtain ⟨y1, f1, l1⟩ := hf 1 _ rfl 9 1 rfl rfl
    obtain ⟨y2, f2, _⟩ := hf 2 _ rfl 4 2 rfl rfl
    obtain ⟨y3, f3, l3⟩ := hf 3 _ rfl 35 3 rfl rfl
    simp only [kStr, kTyp, kBool, List.drop_zero, List.drop_succ_cons, List.take_succ_cons, List.take_zero] at f0 f1 f2 f3
    obtain ⟨a0, e0, w0⟩ := open_str Try.underlying9 f0 l0
    obtain ⟨a1, e1, w1⟩ := open_str Try.underlying9 f1 l1
    obtain ⟨a2, e2⟩ := open_b f2
    obtain ⟨t, e3, w3⟩ := open_type n f3 l3
    simp only [List.cons.injEq, and_true] at e0 e1 e2
    subst e0; subst e1; subst e2
    refine ⟨⟨a0, a1, a2, t⟩, ?_, w0, w1, w3⟩
    unfold ET.cells
    rw [← e3]
    rfl
theorem open_es {H : Type} {enc : TypeId × Value → H} {W : World} {a : Option Addr} {len cap : Nat} {d : DataW H} {p : List MemPlace}
    (h : DataW.Trod enc Try.prog W 0 (fun _ => true) true 22 (.slice a len cap) d p) (hl : Light 22 d) : ∃ f : Nat → ET, ELIn W.heap.size W ⟨a, len, cap, f⟩ := by
  obtain ⟨fuel, hf⟩ := h
  obtain ⟨a', n, cap', f, hcs, h1, h2⟩ := open_row (W := W) (⟨ByteArray.empty, ByteArray.empty, false, .nil⟩ : ET) ET.cells (fun e => EIn W.heap.size W e) 18 Try.underlying22 kEnt (by decide) (by decide +kernel) hf hl (fun n cs' x' _ h' hl' => open_ent h' hl')
  simp [Value.cells] at hcs
  obtain ⟨rfl, rfl, rfl⟩ := hcs
  exact ⟨f, ⟨Nat.le_refl _, Nat.le_trans h1.1 h1.2.1, fun e => ⟨(h1.2.2.1 e).1, (h1.2.2.1 e).1⟩, h1.2.2.2⟩, h2⟩
end Go.Proofs.Ytecedbjkebdeaaa

/-
  Package tags' laws: the places that are met; tags among rising ones.
-/
namespace Go.Proofs.Ytecedbjkebdeaaa
open Go.RowKit Go.Maps Go.WideElems Go.ChangeMaps Go.MapKept Go.Shelf
set_option linter.unusedVariables false
set_option linter.unusedSimpArgs false
set_option maxRecDepth 100000

theorem natsOf {xs : List Int} {n : Nat} (h : xs.Perm ((List.range n).map fun j => ((j : Nat) : Int))) : ∃ ys : List Nat, xs = ys.map (fun j => ((j : Nat) : Int)) ∧ ys.Perm (List.range n) := by
  refine ⟨xs.map Int.toNat, ?_, ?_⟩
  · rw [List.map_map]
    symm
    have : ∀ x ∈ xs, ((fun j : Nat => ((j : Nat) : Int)) ∘ Int.toNat) x = x := fun x hx => by
      obtain ⟨j, _, rfl⟩ := List.mem_map.1 (h.mem_iff.1 hx)
      simp
    calc xs.map ((fun j : Nat => ((j : Nat) : Int)) ∘ Int.toNat) = xs.map id := List.map_congr_left this
      _ = xs := List.map_id xs
  · have h2 := h.map Int.toNat
    rw [List.map_map] at h2
    have e : (Int.toNat ∘ fun j : Nat => ((j : Nat) : Int)) = id := by funext j; simp
    rw [e, List.map_id] at h2
    exact h2
/-- the places met so far -/
def metA (ys : List Nat) (n i : Nat) : Array Value := ((List.range n).map fun k => Value.bool (decide (k ∈ ys.take i))).toArray
theorem metA_zero (ys : List Nat) (n : Nat) : (metA ys n 0).toList = (List.range n).map fun _ => Value.bool false := by
  unfold metA
  simp
section
variable {ys : List Nat} {n i : Nat}
theorem met_lt (hp : ys.Perm (List.range n)) {y : Nat} (hy : ys[i]? = some y) : y < n := List.mem_range.1 (hp.mem_iff.1 (List.mem_of_getElem? hy))
theorem met_new (hp : ys.Perm (List.range n)) {y : Nat} (hy : ys[i]? = some y) : y ∉ ys.take i := by
  have hn : ys.Nodup := hp.nodup_iff.2 List.nodup_range
  obtain ⟨hi, he⟩ := List.getElem?_eq_some_iff.1 hy
  intro hm
  obtain ⟨j, hj, hje⟩ := List.mem_iff_getElem.1 hm
  rw [List.length_take] at hj
  rw [List.getElem_take] at hje
  have := (List.getElem_inj hn).1 (hje.trans he.symm)
  omega
theorem metA_get (hp : ys.Perm (List.range n)) {y : Nat} (hy : ys[i]? = some y) : (metA ys n i)[y]? = some (.bool false) := by
  unfold metA
  rw [List.getElem?_toArray, List.getElem?_map, List.getElem?_range (met_lt hp hy)]
  show some (Value.bool (decide (y ∈ ys.take i))) = _
  rw [decide_eq_false (met_new hp hy)]
theorem metA_set (hp : ys.Perm (List.range n)) {y : Nat} (hy : ys[i]? = some y) : (metA ys n i).setIfInBounds y (.bool true) = metA ys n (i + 1) := by
  have hlt := met_lt hp hy
  obtain ⟨hi, he⟩ := List.getElem?_eq_some_iff.1 hy
  apply Array.toList_inj.1
  rw [Array.toList_setIfInBounds]
  unfold metA
  apply List.ext_getElem?
  intro k
  rw [List.getElem?_set]
  by_cases e : y = k
  · subst e
    rw [if_pos rfl, List.getElem?_map, List.getElem?_range hlt]
    simp only [List.length_map, List.length_range, Option.map_some]
    rw [if_pos hlt, decide_eq_true]
    rw [List.take_add_one, hy]
    simp
  · rw [if_neg e, List.getElem?_map, List.getElem?_map]
    by_cases hk : k < n
    · rw [List.getElem?_range hk]
      show some (Value.bool _) = some (Value.bool _)
      have h2 : (k ∈ ys.take i) ↔ (k ∈ ys.take (i + 1)) := by
        rw [List.take_add_one, hy, List.mem_append]
        constructor
        · exact .inl
        · rintro (h | h)
          · exact h
          · rw [Option.toList_some, List.mem_singleton] at h
            exact absurd h.symm e
      rw [decide_eq_decide.2 h2]
    · simp [hk]
end
theorem info_bool : (Try.prog.info? 4).map (fun i => (i.zero, i.size, i.bytes)) = some (some (.bool false), 1, 1) := by kernel_rfl
theorem make_bools (n : Nat) (hn : n ≤ 1000000) : ∃ A : Array Value, A.toList = ((List.range n).map fun _ => Value.bool false) ∧ ∀ w, (Instr.makeSlice 39 (.int .i64 (n : Nat)) (.int .i64 (n : Nat))).run Try.prog w = .ok (.slice (some ⟨w.heap.size, 0, none⟩) n n) (w.alloc (.cells A 4)) := by
  obtain ⟨i0, hi0, hz0, hz1, hz2⟩ := info_parts info_bool
  refine ⟨madeCells #[.bool false] n, made_one _ _, fun w => ?_⟩
  have := run_make (P := Try.prog) w 39 4 i0 (.bool false) Try.underlying39 hi0 hz0 .i64 .i64 n n (by omega) (by omega) (by rw [hz2]; omega) (by omega)
  rw [this]
  simp only [Int.toNat_natCast, hz1, Nat.mul_one]
  rfl
theorem met_index (mb n y : Nat) (hy : y < n) : ∀ w, (Instr.indexAt 39 (.slice (some ⟨mb, 0, none⟩) n n) (.int .i64 (y : Nat))).run Try.prog w = .ok (.pointer (some ⟨mb, y, none⟩)) w := fun w => by
  rw [run_indexAt_slice (h := by rw [show Try.prog.elem 39 = 4 from by kernel_rfl]; exact Try.underlying39), if_pos (by omega), show Try.prog.elem 39 = 4 from by kernel_rfl, Try.sizeOf4]
  simp [Result.andThen, Addr.add_mid]
end Go.Proofs.Ytecedbjkebdeaaa

/-
  A law's arguments within reach, in a program without listed variables.
-/
namespace Go.Proofs.Ytecedbjkebdeaaa
open Go.RowKit Go.ChangeShapes Go.WideShapes Go.Deep
set_option linter.unusedVariables false
set_option linter.unusedSimpArgs false
set_option maxRecDepth 100000

theorem handed_light {H : Type} {enc : TypeId × Value → H} {a : Assume} {C : Checked} {os : Os} {f : FuncId} {fn : Func} {s : ChangeSpec} {conds : List PathCond} {apart fresh handsOn again : Bool}
    (own : ownKnob C.prog.godebug = none) (started : os.Started) (noInit : C.prog.inits.idxOf? f = none) (hfn : C.prog.funcs[f]? = some fn)
    (witness : ∃ (w : World) (tape : Tape) (i : Input), w.os = os ∧ (w.forCall tape i).Shaped C.prog ∧ i.vars = [] ∧ Input.okWide C.prog (w.forCall tape i) .any w.heap.size f i ∧
      s.pre6 enc C.prog fn conds apart (w.forCall tape i).memory i.args ∧ a.holds C.prog (lone (Frame.enter C.prog f i.args .normal) [] (w.forCall tape i)))
    (contract : ∀ (W : World) (base : Nat) (args : Array Value) (ds gs : List (DataW H)) (before : List MemPlace),
      (∀ (j : Nat) t v, fn.params[j]? = some t → args[j]? = some v → Value.okWide C.prog W .any base t v) →
      DataW.Whole enc C.prog fn.params.toList s.vars apart W args.toList ds gs before →
      (∀ n ∈ DataW.weightsEach C.prog (fn.params.toList ++ (OpenSpec.ofChange s).bare.plain.varTypes C.prog) (ds ++ gs), n ≤ reachBytes) →
      Calls C.prog f args W fun e W' => ∃ v, e = .returned v ∧ s.post enc C.prog fn apart fresh handsOn again W args v W') :
    ReturnsInHanded a C os f .any (s.pre6 enc C.prog fn conds apart) (s.post enc C.prog fn apart fresh handsOn again) := by
  refine returnsInHanded_of_calls own started noInit witness fun w tape i _ _ _ hok hpre _ => ?_
  obtain ⟨_, _, _, fn2, hfn2, _, _, _, _, hval⟩ := hok
  obtain rfl : fn2 = fn := Option.some.inj (hfn2.symm.trans hfn)
  obtain ⟨_, ⟨_, ds, gs, before, hw, hall⟩⟩ := hpre
  refine (contract (w.forCall tape i) w.heap.size i.args ds gs before hval (DataW.Whole.of_heap (w' := w.forCall tape i) (by rfl) hw) (fun n hn => of_decide_eq_true (List.all_eq_true.1 hall n hn))).mono fun e W' ⟨v, he, hp⟩ => ?_
  subst he
  exact ChangeSpec.post_blind hp
end Go.Proofs.Ytecedbjkebdeaaa

/-
  Proved: the statement TagsRises (a type's tags rise, each once; an order has each place of its parts once; a choice has all tags that its parts have), for every input; no further condition.
-/
namespace Go.Proofs.Ytecedbjkebdeaaa.tagsRises
open Go.ChangeShapes Go.WideShapes Go.ChangeAt Go.RowKit
open Go.ChangeMaps (open_string shut_string)
set_option linter.unusedVariables false
set_option linter.unusedSimpArgs false
set_option maxRecDepth 100000

theorem own : ownKnob Try.prog.godebug = none := by kernel_rfl
theorem laidOut : laidOutB Try.prog = true := by kernel_rfl

set_option maxHeartbeats 16000000 in
theorem walk (w : World) (a0 : Option Addr) (len0 cap0 : Nat) (w0 : ∃ f, ELIn w.heap.size w ⟨a0, len0, cap0, f⟩) (x1 : TT) (hx1 : TIn w.heap.size w x1) :
    Calls Try.prog 4 #[.slice a0 len0 cap0, .agg x1.cells.toArray] w fun e w' => e = .returned (.bool true) ∧ Below w.heap.size w w' := by
  obtain ⟨f, hE⟩ := w0
  obtain ⟨t, ht⟩ : ∃ t, x1 = t := ⟨_, rfl⟩
  rw [ht] at hx1 ⊢
  have HTI := Lib.hid hx1
  have HE := Lib.hid hE
  have HEB := Lib.hid (fun (W : World) (hb : Below w.heap.size w W) => (hE.below hb (Nat.le_refl _)).below (Below.refl W.heap.size W) hb.size)
  have HTB := Lib.hid (fun (W : World) (hb : Below w.heap.size w W) => (hx1.below hb (Nat.le_refl _)).below (Below.refl W.heap.size W) hb.size)
  obtain ⟨pa, pc, aa, ac, ea, ec, TC⟩ := hx1.tcells
  obtain ⟨v0, v1, v2, v3, v4, v5, v6, v7, v8, v9, v10, v11, v12, v13, v14, hcs⟩ := list15 t.cells (one_tcells hx1).1
  have hps := TC.ps
  have hkd := TC.kd
  rw [hcs] at hps hkd
  obtain rfl : v12 = .slice pa t.pn pc := by simpa using hps
  obtain rfl : v0 = .int .i64 t.kd := by simpa using hkd
  have HPR := Lib.hid TC.pr
  have HAL := Lib.hid TC.al
  obtain ⟨pn, hpn⟩ : ∃ pn, t.pn = pn := ⟨_, rfl⟩
  obtain ⟨kd, hkk⟩ : ∃ kd, t.kd = kd := ⟨_, rfl⟩
  have HPN := Lib.hid hpn
  have HKD := Lib.hid hkk
  rw [hpn] at hcs HPR
  rw [hkk] at hcs
  have HCS := Lib.hid hcs
  have HX := Lib.hid (Bx.new w #[.int .i64 kd, v1, v2, v3, v4, v5, v6, v7, v8, v9, v10, v11, .slice pa pn pc, v13, v14] 35)
  have HB := Lib.hid ((Below.refl w.heap.size w).alloc (Nat.le_refl _) (.cells #[.int .i64 kd, v1, v2, v3, v4, v5, v6, v7, v8, v9, v10, v11, .slice pa pn pc, v13, v14] 35))
  rw [hcs]
  clear hx1 hcs ht hE TC hps hpn hkd hkk
  go_enter Try.func4, Try.ntmps4
  go_wp2_with fail
  generalize w.alloc (.cells #[.int .i64 kd, v1, v2, v3, v4, v5, v6, v7, v8, v9, v10, v11, .slice pa pn pc, v13, v14] 35) = W0 at *
  obtain ⟨g, hg0⟩ : ∃ g, w.heap.size = g := ⟨_, rfl⟩
  have HG := Lib.hid hg0
  rw [hg0] at HX ⊢
  clear hg0
  refine (awake13_ok _).mono ?_
  rintro e wA ⟨rfl, h2⟩
  have HX_1 := Lib.hid (HX.out.below h2 HX.out.lt)
  have HB_1 := Lib.hid (HB.out.trans (h2.mono HB.out.size))
  clear h2 HX HB
  have hf := few13_ok wA ⟨a0, len0, cap0, f⟩ (HEB.out wA HB_1.out)
  change Calls _ _ #[.slice a0 len0 cap0, .int .i64 60] _ _ at hf
  have HF0 := Lib.hid hf
  clear hf
  go_wp2_with fail
  refine HF0.out.mono ?_
  rintro e wB ⟨⟨b, rfl, hfe⟩, h2⟩
  have HX_2 := Lib.hid (HX_1.out.below h2 HX_1.out.lt)
  have HB_2 := Lib.hid (HB_1.out.trans (h2.mono HB_1.out.size))
  have HFE := Lib.hid hfe
  clear h2 HX_1 HB_1 HF0 hfe
  cases b with
  | false =>
    go_wp2_with fail
    go_ret
    exact ⟨rfl, by first | exact HB_2.out | (rw [← HG.out]; exact HB_2.out)⟩
  | true =>
  have HFW := Lib.hid (HFE.out (by first | rfl | trivial))
  have h12 : len0 ≤ 12 := HFW.out.1
  have hcf := Few_ok t w.heap.size 60 wB (HTI.out.below HB_2.out (Nat.le_refl _)) HB_2.out.size (by omega) (by omega)
  obtain ⟨b, hb⟩ : ∃ b, decide (0 ≤ t.few 60) = b := ⟨_, rfl⟩
  have HBF := Lib.hid hb
  rw [hb, HCS.out] at hcf
  have HC := Lib.hid hcf
  have HR := Lib.hid (show wB.rangeAt g 0 [.int .i64 kd, v1, v2, v3, v4, v5, v6, v7, v8, v9, v10, v11, .slice pa pn pc, v13, v14] from HX_2.out.range)
  clear hb hcf HFE
  cases b with
  | false =>
    go_wp2_with (refine tg_load_midG (by rfl) 35 (.tmp 3) rfl g 0 rfl [.int .i64 kd, v1, v2, v3, v4, v5, v6, v7, v8, v9, v10, v11, .slice pa pn pc, v13, v14] _ HR.out Try.underlying35 rfl (by rw [info_T]; rfl) ?_)
    refine HC.out.mono ?_
    rintro e wC ⟨rfl, h2⟩
    have HB_3 := Lib.hid (HB_2.out.trans (h2.mono HB_2.out.size))
    clear h2
    go_wp2_with fail
    go_ret
    exact ⟨rfl, by first | exact HB_3.out | (rw [← HG.out]; exact HB_3.out)⟩
  | true =>
  have HSM := Lib.hid (few_small (x := 60) HTI.out (of_decide_eq_true HBF.out) (by omega))
  have HEW := Lib.hid (show ∀ p, p < len0 → (f p).t.wid ≤ 10000 from fun p hp => by have h := (few_small (x := 60) (HE.out.2 p hp).2.2 (HFW.out.2 p hp).1 (by omega)).2; have h : (f p).t.wid ≤ 1000 := h; omega)
  have HEO := Lib.hid (fun (W : World) (hb : Below w.heap.size w W) => (show EOk W.heap.size W ⟨a0, len0, cap0, f⟩ from ⟨HEB.out W hb, by show len0 ≤ _; omega, fun i hi => by have h := (HFW.out.2 i hi).2; show (f i).mod.size + (f i).name.size + 1 ≤ _; have h : (f i).mod.size + (f i).name.size ≤ 1000 := h; omega⟩))
  have HAW := Lib.hid (show ∀ i, i < pn → i < t.nal ∧ (t.alt i).wid ≤ 10000 from fun i hi => by
    have h0 : i < t.nal := Nat.lt_of_lt_of_le (by rw [HPN.out]; exact hi) (Nat.le_add_right _ _)
    have h1 := sumW_one (f := fun j => (t.alt j).wid) h0
    have h1 : (t.alt i).wid ≤ sumW (fun j => (t.alt j).wid) t.nal := h1
    have h2 := t.wid_eq
    have h3 := HSM.out.2
    exact ⟨h0, by omega⟩)
  have hpn1 : pn ≤ 1000 := by
    have h1 := HSM.out.2
    have h2 := t.wid_eq
    have h3 := sumW_ge (f := fun i => (t.alt i).wid) (n := t.nal) (fun i _ => (t.alt i).wid_pos)
    have h4 : t.pn ≤ t.nal := Nat.le_add_right _ _
    have h5 := HPN.out
    omega
  go_wp2_with (refine tg_load_midG (by rfl) 35 (.tmp 3) rfl g 0 rfl [.int .i64 kd, v1, v2, v3, v4, v5, v6, v7, v8, v9, v10, v11, .slice pa pn pc, v13, v14] _ HR.out Try.underlying35 rfl (by rw [info_T]; rfl) ?_)
  refine HC.out.mono ?_
  rintro e wC ⟨rfl, h2⟩
  have HX_3 := Lib.hid (HX_2.out.below h2 HX_2.out.lt)
  have HB_3 := Lib.hid (HB_2.out.trans (h2.mono HB_2.out.size))
  clear h2 HX_2 HB_2 HC HR
  have hof := Of_ok wC ⟨a0, len0, cap0, f⟩ false t (HEO.out wC HB_3.out) (HTB.out wC HB_3.out) (by show len0 ≤ _; omega) HEW.out (by have := HSM.out.2; omega)
  rw [HCS.out] at hof
  have HOF := Lib.hid (show Calls Try.prog 10 #[.slice a0 len0 cap0, .bool false, .agg #[.int .i64 kd, v1, v2, v3, v4, v5, v6, v7, v8, v9, v10, v11, .slice pa pn pc, v13, v14]] wC _ from hof)
  have HR3 := Lib.hid (show wC.rangeAt g 0 [.int .i64 kd, v1, v2, v3, v4, v5, v6, v7, v8, v9, v10, v11, .slice pa pn pc, v13, v14] from HX_3.out.range)
  clear hof
  go_wp2_with (refine wpList_load_mid rfl 35 (.tmp 3) rfl g 0 rfl [.int .i64 kd, v1, v2, v3, v4, v5, v6, v7, v8, v9, v10, v11, .slice pa pn pc, v13, v14] _ HR3.out Try.underlying35 rfl (by rw [info_T]; rfl) ?_)
  refine HOF.out.mono ?_
  rintro e wD ⟨xv, xs, rfl, ho, htl, h2⟩
  obtain ⟨xa, xc, rfl⟩ := own_slice ho
  obtain ⟨n1, hn1⟩ : ∃ n1, xs.length = n1 := ⟨_, rfl⟩
  have HN1 := Lib.hid hn1
  have hn1m : n1 ≤ 9223372036854775807 := by
    rw [← hn1]
    rcases ho.2 with ⟨_, h0⟩ | ⟨_, cap, _, _, _, _, h3, h4, _⟩
    · omega
    · unfold maxLen at h4; omega
  rw [hn1] at ho ⊢
  have HTL := Lib.hid htl
  have HXO := Lib.hid ho
  have HX_4 := Lib.hid (HX_3.out.below h2 HX_3.out.lt)
  have HB_4 := Lib.hid (HB_3.out.trans (h2.mono HB_3.out.size))
  clear h2 HX_3 HB_3 HOF HR3 ho htl hn1
  go_wp2_with fail
  go_loopw [7] (fun iv wr => ∃ i m : Nat, 1 ≤ i ∧ iv = .int .i64 (i : Nat) ∧ wr = wD.drewN m) (fun iv _ => n1 - (Lib.intOf iv).toNat)
  case atStart => exact ⟨1, 0, Nat.le_refl _, rfl, rfl⟩
  case round =>
  obtain ⟨i, m, hi, rfl, rfl⟩ := hrel
  by_cases hlt : i < n1
  · have q4 : decide ((i : Int) < (n1 : Int)) = true := decide_eq_true (by omega)
    have q4n : decide (i < n1) = true := decide_eq_true hlt
    have q5 : IntKind.i64.wrap ((i : Int) + 1) = ((i + 1 : Nat) : Int) := wrap_succ hlt (by omega)
    obtain ⟨j, hj⟩ : ∃ j, j + 1 = i := ⟨i - 1, by omega⟩
    have q3 : IntKind.i64.wrap ((i : Int) - 1) = (j : Int) := by rw [wrap_ok (by unfold I64; omega)]; omega
    obtain ⟨gx, cx, e1, _, _, hi1, hc1⟩ := own_read 37 3 Try.underlying37 (by kernel_rfl) Try.sizeOf3 HXO.out hlt
    obtain ⟨gx', cx', e2, _, _, hi2, _⟩ := own_read 37 3 Try.underlying37 (by kernel_rfl) Try.sizeOf3 HXO.out (i := j) (by omega)
    cases e1
    cases e2
    obtain ⟨x, hx⟩ : ∃ x, xs[i]? = some x := ⟨_, List.getElem?_eq_getElem (by rw [HN1.out]; exact hlt)⟩
    obtain ⟨y, hy⟩ : ∃ y, xs[j]? = some y := ⟨_, List.getElem?_eq_getElem (by rw [HN1.out]; omega)⟩
    have k1 : wD.cell? ⟨gx, i, none⟩ = some (.int .i64 x) := hc1 i _ (by rw [List.getElem?_map, hx]; rfl)
    have k2 : wD.cell? ⟨gx, j, none⟩ = some (.int .i64 y) := hc1 j _ (by rw [List.getElem?_map, hy]; rfl)
    have hlt2 : y < x := by
      obtain ⟨h1, h2⟩ := List.getElem?_eq_some_iff.1 hx
      obtain ⟨h3, h4⟩ := List.getElem?_eq_some_iff.1 hy
      rw [← h2, ← h4]
      exact List.pairwise_iff_getElem.1 HTL.out.1 j i h3 h1 (by omega)
    have q6 : decide (x ≤ y) = false := decide_eq_false (by omega)
    clear hc1 hx hy hj hlt2
    go_wp2_with fail
    go_quiet (fail)
    go_wp2_with fail
    go_roundw
    case rel => exact ⟨i + 1, _, by omega, rfl, rfl⟩
    case measure => simp only [Lib.intOf]; omega
  have q4 : decide ((i : Int) < (n1 : Int)) = false := decide_eq_false (by omega)
  have q4n : decide (i < n1) = false := decide_eq_false hlt
  have hbE : Below wD.heap.size wD (wD.drewN m) := ⟨rfl, rfl, rfl, Nat.le_refl _, fun _ _ => rfl⟩
  have HX_5 := Lib.hid (HX_4.out.below hbE HX_4.out.lt)
  have HB_5 := Lib.hid (HB_4.out.trans (hbE.mono HB_4.out.size))
  have HXO5 := Lib.hid (own_block HXO.out (w' := wD.drewN m) fun k hk => rfl)
  clear hbE HX_4 HB_4 HXO
  generalize wD.drewN m = wE at *
  have hor := Order_every wE ⟨a0, len0, cap0, f⟩ t (HEO.out wE HB_5.out) (HTB.out wE HB_5.out) (by show len0 ≤ _; omega) HEW.out HSM.out.2
  rw [HCS.out, HPN.out] at hor
  have HOR := Lib.hid (show Calls Try.prog 11 #[.slice a0 len0 cap0, .bool false, .agg #[.int .i64 kd, v1, v2, v3, v4, v5, v6, v7, v8, v9, v10, v11, .slice pa pn pc, v13, v14]] wE _ from hor)
  have HR5 := Lib.hid (show wE.rangeAt g 0 [.int .i64 kd, v1, v2, v3, v4, v5, v6, v7, v8, v9, v10, v11, .slice pa pn pc, v13, v14] from HX_5.out.range)
  clear hor
  go_wp2_with (refine wpList_load_mid rfl 35 (.tmp 3) rfl g 0 rfl [.int .i64 kd, v1, v2, v3, v4, v5, v6, v7, v8, v9, v10, v11, .slice pa pn pc, v13, v14] _ HR5.out Try.underlying35 rfl (by rw [info_T]; rfl) ?_)
  refine HOR.out.mono ?_
  rintro e wF ⟨ov, rfl, os, ho, h2, hpm⟩
  obtain ⟨ys, hye, hpy⟩ := natsOf hpm
  clear hpm
  subst hye
  have hpm := hpy
  clear hpy
  have HPM := Lib.hid hpm
  have hyl : ys.length = pn := by rw [hpm.length_eq]; simp
  have HYL := Lib.hid hyl
  obtain ⟨oa, oc, rfl⟩ := own_slice ho
  have HOO := Lib.hid ho
  have HX_6 := Lib.hid (HX_5.out.below h2 HX_5.out.lt)
  have HB_6 := Lib.hid (HB_5.out.trans (h2.mono HB_5.out.size))
  have HXO6 := Lib.hid (own_block HXO5.out (w' := wF) fun k hk => h2.block k ((HXO5.out.lt k hk).2))
  have c12 : wF.cell? ⟨g, 12, none⟩ = some (.slice pa pn pc) := HX_6.out.cell 12 rfl
  have hgF : g < wF.heap.size := HX_6.out.lt
  obtain ⟨A, hA, hmk⟩ := make_bools pn (by omega)
  obtain rfl : A = metA ys pn 0 := by apply Array.toList_inj.1; rw [hA, metA_zero]
  have HBN := Lib.hid (Bx.new wF (metA ys pn 0) 4)
  have HBA := Lib.hid ((Below.refl wF.heap.size wF).alloc (Nat.le_refl _) (.cells (metA ys pn 0) 4))
  clear ho h2 hpm hyl HOR HR5 HX_5 HB_5 HXO5 hA
  go_wp2_with fail
  obtain ⟨mb, hmb⟩ : ∃ mb, wF.heap.size = mb := ⟨_, rfl⟩
  have HMB := Lib.hid hmb
  rw [hmb] at HBN HBA ⊢
  clear hmb c12 hmk
  go_loopw [10] (fun iv wr => ∃ i : Nat, i ≤ pn ∧ iv = .int .i64 (i : Nat) ∧ Bx wr mb (metA ys pn i) 4 ∧ Below mb wF wr) (fun iv _ => pn - (Lib.intOf iv).toNat)
  case atStart => exact ⟨0, Nat.zero_le _, rfl, HBN.out, HBA.out⟩
  case round =>
  clear hlt hi
  rename World => wR
  obtain ⟨i, hi, rfl, hbx, hbl⟩ := hrel
  have HBI := Lib.hid hbx
  have HBL := Lib.hid hbl
  by_cases hlt : i < pn
  · have q4 : decide ((i : Int) < (pn : Int)) = true := decide_eq_true (by omega)
    have q4n : decide (i < pn) = true := decide_eq_true hlt
    have q5 : IntKind.i64.wrap ((i : Int) + 1) = ((i + 1 : Nat) : Int) := wrap_succ hlt (by omega)
    obtain ⟨og, oc', hov, _, hol, hix, hcc⟩ := own_read 37 3 Try.underlying37 (by kernel_rfl) Try.sizeOf3 HOO.out hlt
    cases hov
    obtain ⟨y, hy⟩ : ∃ y, ys[i]? = some y := ⟨_, List.getElem?_eq_getElem (by rw [HYL.out]; exact hlt)⟩
    have cj := (hbl.cell (p := ⟨og, i, none⟩) (by show og < _; have := HMB.out; omega)).trans (hcc i (.int .i64 (y : Nat)) (by rw [List.getElem?_map, List.getElem?_map, hy]; rfl))
    have hyn := met_lt HPM.out hy
    have cm : wR.cell? ⟨mb, y, none⟩ = some (.bool false) := hbx.cell y (metA_get HPM.out hy)
    have fm : wR.frozen? ⟨mb, y, none⟩ = false := frozen_gx hbx y
    have hxm := met_index mb pn y hyn
    have q6 : decide ((y : Int) < 0) = false := decide_eq_false (by omega)
    have q7 : decide ((pn : Int) ≤ (y : Int)) = false := decide_eq_false (by omega)
    have q7n : decide (pn ≤ y) = false := decide_eq_false (by omega)
    have HNX := Lib.hid (show Bx (wR.setCell ⟨mb, y, none⟩ (.bool true)) mb (metA ys pn (i + 1)) 4 from by rw [← metA_set HPM.out hy]; exact bx_field hbx y _)
    have HNL := Lib.hid (show Below mb wF (wR.setCell ⟨mb, y, none⟩ (.bool true)) from ⟨hbl.os, hbl.tape, hbl.output, by rw [size_field]; exact hbl.size, fun k hk => (heap_field (by omega)).trans (hbl.block k hk)⟩)
    clear hcc hbx hbl hy
    go_wp2_with fail
    go_roundw
    case rel => exact ⟨i + 1, hlt, rfl, HNX.out, HNL.out⟩
    case measure => simp only [Lib.intOf]; omega
  have q4 : decide ((i : Int) < (pn : Int)) = false := decide_eq_false (by omega)
  have q4n : decide (i < pn) = false := decide_eq_false hlt
  have hgm : g < mb := by have := HMB.out; omega
  have hbl2 : Below wF.heap.size wF wR := by rw [HMB.out]; exact hbl
  have HX_7 := Lib.hid (HX_6.out.below hbl2 HX_6.out.lt)
  have HB_7 := Lib.hid (HB_6.out.trans (hbl2.mono HB_6.out.size))
  have HXO7 := Lib.hid (own_block HXO6.out (w' := wR) fun k hk => hbl2.block k ((HXO6.out.lt k hk).2))
  clear hbx hbl hbl2 HBI HBL HX_6 HB_6 HXO6 HBN HBA
  go_wp2_with fail
  clear q4 q4n hlt hi
  go_loopw [11] (fun iv wr => ∃ i : Nat, i ≤ pn ∧ iv = .int .i64 (i : Nat) ∧ Below wR.heap.size wR wr) (fun iv _ => pn - (Lib.intOf iv).toNat)
  case atStart => exact ⟨0, Nat.zero_le _, rfl, Below.refl _ _⟩
  case round =>
  rename World => wS
  obtain ⟨i, hi, rfl, hbl⟩ := hrel
  have HX_8 := Lib.hid (HX_7.out.below hbl HX_7.out.lt)
  have HB_8 := Lib.hid (HB_7.out.trans (hbl.mono HB_7.out.size))
  have HXO8 := Lib.hid (own_block HXO7.out (w' := wS) fun k hk => hbl.block k ((HXO7.out.lt k hk).2))
  have HBL := Lib.hid hbl
  have c12 : wS.cell? ⟨g, 12, none⟩ = some (.slice pa pn pc) := HX_8.out.cell 12 rfl
  have c0 : wS.cell? ⟨g, 0, none⟩ = some (.int .i64 kd) := HX_8.out.cell 0 rfl
  have q8 : ((pn : Int) == (pn : Int)) = true := by simp
  clear hbl
  by_cases hlt : i < pn
  · have q4 : decide ((i : Int) < (pn : Int)) = true := decide_eq_true (by omega)
    have q4n : decide (i < pn) = true := decide_eq_true hlt
    have q5 : IntKind.i64.wrap ((i : Int) + 1) = ((i + 1 : Nat) : Int) := wrap_succ hlt (by omega)
    by_cases hk : kd = 10
    · have qk : (kd == 10) = true := by rw [hk]; rfl
      obtain ⟨gx, ox, hix, hgx, hrd⟩ := pRow_read HPR.out hlt
      have HRP := Lib.hid (part_range (hrd wS (HB_8.out.block gx hgx)))
      have HOP := Lib.hid (Of_ok wS ⟨a0, len0, cap0, f⟩ false (t.alt i) (HEO.out wS HB_8.out) (((HAL.out i (HAW.out i hlt).1).2.below HB_8.out (Nat.le_refl _)).below (Below.refl wS.heap.size wS) HB_8.out.size) (by show len0 ≤ _; omega) HEW.out (HAW.out i hlt).2)
      have H1T := Lib.hid (one_tcells (HAL.out i (HAW.out i hlt).1).2)
      have HTG := Lib.hid (show ∀ x, Tg ⟨a0, len0, cap0, f⟩ false (t.alt i) x → x ∈ xs from fun x hx => (HTL.out.2 x).2 (.alt (by rw [HKD.out]; exact hk) (HAW.out i hlt).1 hx))
      clear hrd hk
      go_wp2_with (refine wpList_load_mid rfl 35 (.tmp 104) rfl gx (ox + 1) rfl (t.alt i).cells _ HRP.out Try.underlying35 rfl (by rw [info_T, H1T.out.1]) ?_)
      refine HOP.out.mono ?_
      rintro e wT ⟨yv, zs, rfl, ho, htl, h2⟩
      obtain ⟨ya, yc, rfl⟩ := own_slice ho
      obtain ⟨n2, hn2⟩ : ∃ n2, zs.length = n2 := ⟨_, rfl⟩
      have HN2 := Lib.hid hn2
      have hn2m : n2 ≤ 9223372036854775807 := by
        rw [← hn2]
        rcases ho.2 with ⟨_, h0⟩ | ⟨_, cap, _, _, _, _, h3, h4, _⟩
        · omega
        · unfold maxLen at h4; omega
      rw [hn2] at ho ⊢
      have HYO := Lib.hid ho
      have HZT := Lib.hid (show ∀ z, z ∈ zs → z ∈ xs from fun z hz => HTG.out z ((htl.2 z).1 hz))
      have HB_9 := Lib.hid (HBL.out.trans (h2.mono HBL.out.size))
      have HXO9 := Lib.hid (own_block HXO8.out (w' := wT) fun k hk => h2.block k ((HXO8.out.lt k hk).2))
      clear ho htl h2 hn2 HOP HRP H1T HTG HX_8 HB_8 HXO8 HBL c12 c0 hix hgx
      go_wp2_with fail
      go_loopw [13] (fun kv wr => ∃ k m : Nat, k ≤ n2 ∧ kv = .int .i64 (k : Nat) ∧ wr = wT.drewN m) (fun kv _ => n2 - (Lib.intOf kv).toNat)
      case atStart => exact ⟨0, 0, Nat.zero_le _, rfl, rfl⟩
      case round =>
      obtain ⟨k, m, hkn, rfl, rfl⟩ := hrel
      by_cases hltk : k < n2
      · have q4k : decide ((k : Int) < (n2 : Int)) = true := decide_eq_true (by omega)
        have q4kn : decide (k < n2) = true := decide_eq_true hltk
        have q5k : IntKind.i64.wrap ((k : Int) + 1) = ((k + 1 : Nat) : Int) := wrap_succ hltk (by omega)
        obtain ⟨gy, cy, e3, _, _, hi3, hc3⟩ := own_read 37 3 Try.underlying37 (by kernel_rfl) Try.sizeOf3 HYO.out hltk
        cases e3
        obtain ⟨z, hz⟩ : ∃ z, zs[k]? = some z := ⟨_, List.getElem?_eq_getElem (by rw [HN2.out]; exact hltk)⟩
        have k3 : wT.cell? ⟨gy, k, none⟩ = some (.int .i64 z) := hc3 k _ (by rw [List.getElem?_map, hz]; rfl)
        have HZX := Lib.hid (HZT.out z (List.mem_of_getElem? hz))
        clear hc3 hz
        go_wp2_with fail
        go_loopw [14, 15] (fun sv jv wr => ∃ j m : Nat, j ≤ n1 ∧ jv = .int .i64 (j : Nat) ∧ sv = .bool (decide (z ∈ xs.take j)) ∧ wr = wT.drewN m) (fun _ jv _ => n1 - (Lib.intOf jv).toNat)
        case atStart => exact ⟨0, m, Nat.zero_le _, rfl, by simp, rfl⟩
        case round =>
        obtain ⟨j, m, hjn, rfl, hsv, rfl⟩ := hrel
        obtain ⟨sb, hsb⟩ : ∃ sb, decide (z ∈ xs.take j) = sb := ⟨_, rfl⟩
        rw [hsb] at hsv
        subst hsv
        have HSB := Lib.hid hsb
        clear hsb
        by_cases hltj : j < n1
        · have q4j : decide ((j : Int) < (n1 : Int)) = true := decide_eq_true (by omega)
          have q4jn : decide (j < n1) = true := decide_eq_true hltj
          have q5j : IntKind.i64.wrap ((j : Int) + 1) = ((j + 1 : Nat) : Int) := wrap_succ hltj (by omega)
          obtain ⟨gx, cx, e1, _, _, hi1, hc1⟩ := own_read 37 3 Try.underlying37 (by kernel_rfl) Try.sizeOf3 HXO9.out hltj
          cases e1
          obtain ⟨x, hx⟩ : ∃ x, xs[j]? = some x := ⟨_, List.getElem?_eq_getElem (by rw [HN1.out]; exact hltj)⟩
          have k1 : wT.cell? ⟨gx, j, none⟩ = some (.int .i64 x) := hc1 j _ (by rw [List.getElem?_map, hx]; rfl)
          have HTK := Lib.hid (show xs.take (j + 1) = xs.take j ++ [x] from by rw [List.take_add_one, hx]; rfl)
          clear hc1 hx
          cases sb with
          | true =>
            have HNS := Lib.hid (show Value.bool true = .bool (decide (z ∈ xs.take (j + 1))) from by rw [HTK.out, decide_eq_true (List.mem_append_left _ (of_decide_eq_true HSB.out))])
            go_wp2_with fail
            go_quiet (fail)
            go_wp2_with fail
            go_roundw
            case rel => exact ⟨j + 1, _, hltj, rfl, HNS.out, rfl⟩
            case measure => simp only [Lib.intOf]; omega
          | false =>
            obtain ⟨qb, hqb⟩ : ∃ qb, (x == z) = qb := ⟨_, rfl⟩
            have HNS := Lib.hid (show Value.bool qb = .bool (decide (z ∈ xs.take (j + 1))) from by
              rw [HTK.out, ← hqb]
              have h1 := of_decide_eq_false HSB.out
              by_cases e : x = z
              · rw [decide_eq_true (List.mem_append_right _ (by rw [e]; exact List.mem_singleton.2 rfl)), e]; simp
              · rw [decide_eq_false (by rw [List.mem_append, List.mem_singleton]; rintro (h | h); exact h1 h; exact e h.symm), beq_eq_false_iff_ne.2 e])
            go_wp2_with fail
            go_quiet (fail)
            go_wp2_with fail
            go_roundw
            case rel => exact ⟨j + 1, _, hltj, rfl, HNS.out, rfl⟩
            case measure => simp only [Lib.intOf]; omega
        have q4j : decide ((j : Int) < (n1 : Int)) = false := decide_eq_false (by omega)
        have q4jn : decide (j < n1) = false := decide_eq_false hltj
        obtain rfl : sb = true := by
          have h := HSB.out
          rw [List.take_of_length_le (by rw [HN1.out]; omega), decide_eq_true HZX.out] at h
          exact h.symm
        go_wp2_with fail
        go_roundw
        case rel => exact ⟨k + 1, _, hltk, rfl, rfl⟩
        case measure => simp only [Lib.intOf]; omega
      have q4k : decide ((k : Int) < (n2 : Int)) = false := decide_eq_false (by omega)
      have q4kn : decide (k < n2) = false := decide_eq_false hltk
      have hbT : Below wT.heap.size wT (wT.drewN m) := ⟨rfl, rfl, rfl, Nat.le_refl _, fun _ _ => rfl⟩
      have HB_10 := Lib.hid (HB_9.out.trans (hbT.mono HB_9.out.size))
      clear hbT
      go_wp2_with fail
      go_roundw
      case rel => exact ⟨i + 1, hlt, rfl, HB_10.out⟩
      case measure => simp only [Lib.intOf]; omega
    · have qk : (kd == 10) = false := beq_eq_false_iff_ne.2 hk
      clear hk
      go_wp2_with fail
      go_ret
      exact ⟨by first | rfl | simp, by first | exact HB_8.out | (rw [← HG.out]; exact HB_8.out)⟩
  have q4 : decide ((i : Int) < (pn : Int)) = false := decide_eq_false (by omega)
  have q4n : decide (i < pn) = false := decide_eq_false hlt
  go_wp2_with fail
  go_ret
  exact ⟨by first | rfl | simp, by first | exact HB_8.out | (rw [← HG.out]; exact HB_8.out)⟩

set_option maxRecDepth 100000 in
theorem lifted (os : Os) (started : os.Started) (H : Type) (enc : TypeId × Value → H) :
    ReturnsInHanded {} Try.checked os 4 .any (Rows.tagsRisesSpec.pre6 enc Try.prog Try.f4 Rows.tagsRisesRow.domain false) (Rows.tagsRisesSpec.post enc Try.prog Try.f4 false true false false) := by
  refine handed_light (C := Try.checked) own started (by kernel_rfl) Try.func4
    (ChangeSpec.witness6 (enc := enc) (C := Try.checked) false ⟨#[], #[.slice none 0 0, .agg #[.int .i64 0, .string ByteArray.empty, .int .i64 0, .int .i64 0, .int .i64 0, .bool false, .bool false, .slice none 0 0, .bool false, .string ByteArray.empty, .slice none 0 0, .slice none 0 0, .slice none 0 0, .slice none 0 0, .slice none 0 0]], []⟩ 8 (by kernel_rfl) (by kernel_rfl) (by kernel_rfl) (by kernel_rfl)) ?_
  intro W base args ds gs before hval0 hW hsz0
  have hval : ∀ (j : Nat) t v, Try.f4.params[j]? = some t → args[j]? = some v → Value.okWide Try.prog W .any base t v := hval0
  have hW' := hW
  obtain ⟨p, q, hA0, hV, rfl, hfz, hnd⟩ := hW
  have hA : DataW.TrodAll enc Try.prog W 0 (fun _ => true) true Try.f4.params.toList args.toList ds p := hA0
  rw [Try.params4] at hA hval
  obtain ⟨v0, vs0, d0, ds0, p0, q0, hargs, rfl, rfl, h0, r0⟩ := trodAll_cons hA
  obtain ⟨v1, vs1, d1, ds1, p1, q1, rfl, rfl, rfl, h1, r1⟩ := trodAll_cons r0
  obtain ⟨rfl, rfl, rfl⟩ := trodAll_nil r1
  obtain rfl : args = #[v0, v1] := by cases args; simp_all
  obtain ⟨rfl, rfl⟩ := trodVars_none hV
  obtain ⟨a0, len0, cap0, rfl⟩ := okWide_slice Try.underlying22 (hval 0 22 v0 rfl rfl)
  have k0 := h0
  have lt0 : ∀ x ∈ p0, x.block < W.heap.size := by obtain ⟨m, hm⟩ := k0; exact DataW.trod_lt m _ _ _ hm
  have li0 : Light 22 d0 := light_each hsz0 0 _ _ rfl rfl
  have w0 := open_es h0 li0
  obtain ⟨cs1, rfl, _⟩ := okWide_struct Try.underlying35 (hval 1 35 v1 rfl rfl)
  have k1 := h1
  have lt1 : ∀ x ∈ p1, x.block < W.heap.size := by obtain ⟨m, hm⟩ := k1; exact DataW.trod_lt m _ _ _ hm
  have li1 : Light 35 d1 := light_each hsz0 1 _ _ rfl rfl
  obtain ⟨fuel1, hf1⟩ := h1
  obtain ⟨x1, hc1, hx1⟩ := open_type (W := W) fuel1 (cs := cs1.toList) hf1 li1
  obtain rfl : cs1 = x1.cells.toArray := by rw [← hc1]
  clear hA0 hval0
  refine (walk W a0 len0 cap0 w0 x1 hx1).mono fun e W' ⟨he, bel⟩ => ?_
  subst he
  exact ⟨_, rfl, _, _, _, [], _, [], hW', trodAll_mk1 (shut_bool Try.underlying4 _), (trodAll_cons_mk (Below.trod laidOut (by kernel_rfl) (of_decide_eq_true (by kernel_rfl)) k0 bel lt0) (trodAll_cons_mk (Below.trod laidOut (by kernel_rfl) (of_decide_eq_true (by kernel_rfl)) k1 bel lt1) trodAll_mk0)), rfl, bel.frame _, fun h => by cases h⟩

theorem over : Rows.tagsRisesRow.holds Try.pinned (OpenSpec.ofChange Rows.tagsRisesSpec) :=
  OpenClaim.holds_of_wide 4 Try.f4 rfl rfl rfl rfl rfl rfl rfl ⟨rfl, rfl, rfl, rfl, rfl⟩ rfl rfl rfl rfl rfl (by kernel_rfl) Try.func4 (by kernel_rfl)
    (of_decide_eq_true (by kernel_rfl)) (by unfold Func.isWrapper; first | (rw [if_pos (by decide +kernel)]; kernel_rfl) | (rw [if_neg (by decide +kernel)]; exact ⟨rfl, rfl⟩))
    (fun os started H enc _ => lifted os started H enc)

theorem proved : Rows.TagsRisesSaid := over
end Go.Proofs.Ytecedbjkebdeaaa.tagsRises
