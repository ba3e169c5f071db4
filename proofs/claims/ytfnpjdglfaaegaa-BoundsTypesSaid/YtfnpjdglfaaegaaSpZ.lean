/-
  Package spans: the normalized set of lists of ranges.
-/
import Derived.Test.YtfnpjdglfaaegaaSpJ2
namespace Go.Proofs.Ytfnpjdglfaaegaa
open Go.RowKit Go.Shelf
set_option linter.unusedVariables false
set_option linter.unusedSimpArgs false
set_option maxRecDepth 100000

theorem mem_perm {a b : List Rg} (h : a.Perm b) (n : Int) : mem a n ↔ mem b n := by
  unfold mem
  exact ⟨fun ⟨r, hr, x⟩ => ⟨r, h.mem_iff.1 hr, x⟩, fun ⟨r, hr, x⟩ => ⟨r, h.mem_iff.2 hr, x⟩⟩
theorem mem_flatten (ls : List (List Rg)) (n : Int) : mem ls.flatten n ↔ ∃ s ∈ ls, mem s n := by
  unfold mem
  constructor
  · rintro ⟨r, hr, x⟩
    obtain ⟨s, hs, h2⟩ := List.mem_flatten.1 hr
    exact ⟨s, hs, r, h2, x⟩
  · rintro ⟨s, hs, r, h2, x⟩
    exact ⟨r, List.mem_flatten.2 ⟨s, hs, h2⟩, x⟩
theorem VAt.bd {w : World} {a : Nat} {ls : List (List Rg)} (h : VAt w a ls) : Bd ls.flatten := by
  intro r hr
  obtain ⟨s, hs, h2⟩ := List.mem_flatten.1 hr
  obtain ⟨i, hi, rfl⟩ := List.mem_iff_getElem.1 hs
  obtain ⟨v, _, h3⟩ := h i hi
  rw [getElem!_pos ls i hi] at h3
  exact h3.bd r h2
set_option maxHeartbeats 1000000 in
theorem joined_none (w : World) (a : Option Addr) (cap : Nat) : Calls Try.prog 61 #[.slice a 0 cap] w fun e w' => ∃ a' cap', e = .returned (.slice a' 0 cap') ∧ w' = w := by
  cases a with
  | none =>
    go_enter Try.func61, Try.ntmps61
    go_wp2_with fail
    go_loopw [3, 11] (fun kv iv wr => (∃ a2 cap2, kv = .slice a2 0 cap2) ∧ iv = .int .i64 0 ∧ wr = w) (fun _ _ _ => 0)
    case atStart => exact ⟨⟨_, _, rfl⟩, rfl, rfl⟩
    case round =>
      obtain ⟨⟨a2, cap2, rfl⟩, rfl, rfl⟩ := hrel
      go_wp2_with fail
      go_ret
      exact ⟨_, _, rfl, rfl⟩
  | some x =>
    go_enter Try.func61, Try.ntmps61
    go_wp2_with fail
    go_loopw [3, 11] (fun kv iv wr => (∃ a2 cap2, kv = .slice a2 0 cap2) ∧ iv = .int .i64 0 ∧ wr = w) (fun _ _ _ => 0)
    case atStart => exact ⟨⟨_, _, rfl⟩, rfl, rfl⟩
    case round =>
      obtain ⟨⟨a2, cap2, rfl⟩, rfl, rfl⟩ := hrel
      go_wp2_with fail
      go_ret
      exact ⟨_, _, rfl, rfl⟩
structure NormOf (ls : List (List Rg)) (r : List Rg) : Prop where
  rgt : rgt r
  tells : ∀ n, mem r n ↔ ∃ s ∈ ls, mem s n
  len : r.length ≤ ls.flatten.length
set_option maxHeartbeats 2000000 in
theorem normalized_ok (w : World) (a m : Nat) (ls : List (List Rg)) (hv : VAt w a ls) (hm : ls.length = m) (hn : ls.flatten.length ≤ 1000000000) (hm2 : m ≤ 1000000) :
    Calls Try.prog 44 #[.slice (some ⟨a, 0, none⟩) m m] w fun e w' => ∃ v r, e = .returned v ∧ RSl w' v r ∧ NormOf ls r ∧ Below w.heap.size w w' := by
  have hbd := hv.bd
  have HC := Lib.hid (nonempty_ok w a m ls hv hm hn hm2)
  have HBD := Lib.hid (neL_bd hbd)
  have hlen : (neL ls.flatten).length ≤ 1000000000 := Nat.le_trans (neL_le _) hn
  have HL := Lib.hid (neL_le ls.flatten)
  have HM := Lib.hid (fun n => (neL_mem ls.flatten n).trans (mem_flatten ls n))
  have HNE := Lib.hid (neL_ne ls.flatten)
  generalize neL ls.flatten = L at *
  clear hv hm hn hbd hm2
  go_enter Try.func44, Try.ntmps44
  go_wp2_with fail
  refine HC.out.mono ?_
  rintro e w1 ⟨v, rfl, hown, hb⟩
  have HO := Lib.hid hown
  have HB := Lib.hid hb
  clear hown hb HC
  rcases Nat.eq_zero_or_pos L.length with h0 | h0
  · obtain rfl : L = [] := List.length_eq_zero_iff.1 h0
    obtain ⟨sa, cap, rfl⟩ := (HO.out.rsl Bd.nil).shape
    have HS := Lib.hid (sort_none w1 sa cap)
    have HJ := Lib.hid (joined_none w1 sa cap)
    simp only [List.length_nil]
    clear HO h0 hlen
    go_wp2_with fail
    refine HS.out.mono ?_
    rintro e w2 ⟨rfl, rfl⟩
    go_wp2_with fail
    refine HJ.out.mono ?_
    rintro e w3 ⟨a', cap', rfl, rfl⟩
    go_wp2_with fail
    go_ret
    exact ⟨_, [], rfl, ⟨Bd.nil, .inr ⟨rfl, _, _, rfl⟩⟩, ⟨rgt_nil, HM.out, HL.out⟩, HB.out⟩
  · obtain ⟨g, cap, rfl, hg, hcap, hrow⟩ := HO.out.row h0
    obtain ⟨n, hnn⟩ : ∃ n, L.length = n := ⟨_, rfl⟩
    have HS := Lib.hid (sort_ok w1 g cap L hrow hlen)
    rw [hnn] at HS hlen ⊢
    have HNN := Lib.hid hnn
    have HG := Lib.hid hg
    have HCAP := Lib.hid hcap
    clear HO h0 hrow hnn hg hcap
    go_wp2_with fail
    refine HS.out.mono ?_
    rintro e w2 ⟨rfl, l', hp, hsort, hrow, ho⟩
    have HP := Lib.hid hp
    have HRW := Lib.hid hrow
    have HB2 := Lib.hid (HB.out.trans (ho.below HG.out HB.out.size))
    have HJ := Lib.hid (joined_ok w2 g cap n l' hrow (hp.length_eq.trans HNN.out) (fun r hr => HNE.out r (hp.mem_iff.1 hr)) (fun r hr => HBD.out r (hp.mem_iff.1 hr)) hsort hlen)
    clear hp hsort hrow ho HS
    go_wp2_with fail
    refine HJ.out.mono ?_
    rintro e w3 ⟨r, cur, rfl, hinv, hrow, hhead, ho⟩
    have HI := Lib.hid hinv
    have HB3 := Lib.hid (HB2.out.trans (ho.below HG.out HB2.out.size))
    have hrl : r.length ≤ cur.length := by
      have := congrArg List.length hhead
      rw [List.length_take] at this
      omega
    have HO3 := Lib.hid (show OwnR w.heap.size w3 (.slice (some ⟨g, 0, none⟩) r.length cap) r by
      have h1 := hrow.own (base := w.heap.size) (n := r.length) HG.out HCAP.out hrl
      rw [hhead] at h1
      exact h1)
    clear hinv hrow hhead ho HJ hrl
    go_wp2_with fail
    go_ret
    refine ⟨_, r, rfl, HO3.out.rsl HI.out.bd, ⟨HI.out.rgt, fun k => ?_, ?_⟩, HB3.out⟩
    · rw [HI.out.mem k, mem_perm HP.out k, HM.out k]
    · have h1 := HI.out.len
      have h2 := HP.out.length_eq
      have h3 := HL.out
      omega
end Go.Proofs.Ytfnpjdglfaaegaa
