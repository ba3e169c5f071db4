/-
  Package strings: how units are read (unitsOf, getCount, getPart, get).
-/
import Derived.Test.YtbpfggkpfaobhaaGreatStLay
import Derived.Test.YtbpfggkpfaobhaaGreatLGet
import Derived.Test.YtbpfggkpfaobhaaGreatM4
import Derived.Shelf.Abstract
namespace Go.Proofs.YtbpfggkpfaobhaaGreat
open Go.RowKit Go.Shelf
set_option linter.unusedVariables false
set_option linter.unusedSimpArgs false
set_option maxRecDepth 100000

/-- a slice of one's own that holds the octets l -/
def Own (base : Nat) (w : World) (v : Value) (l : List Nat) : Prop := w.ownsRow base 5 1 v l.length (u8s l) ∧ ∀ i, l.getD i 0 < 256
theorem Own.nil (base : Nat) (w : World) : Own base w (.slice none 0 0) [] := ⟨World.ownsRow_nil _ _ _ _, fun i => by simp⟩
theorem Own.shape {base : Nat} {w : World} {v : Value} {l : List Nat} (h : Own base w v l) : (v = .slice none 0 0 ∧ l = []) ∨ ∃ g cap, v = .slice (some ⟨g, 0, none⟩) l.length cap ∧ base ≤ g ∧ DataAt w g 0 l := by
  obtain ⟨h1, hb⟩ := h
  have h2 := h1
  rcases h2.2 with ⟨e, h0⟩ | ⟨g, cap, cur, hv, hg, _, hcap, _⟩
  · exact .inl ⟨e, List.length_eq_zero_iff.1 h0⟩
  · subst hv
    refine .inr ⟨g, cap, rfl, hg, fun i hi => ?_, hb⟩
    rw [Nat.zero_add, h1.cellAt i (by omega)]
    unfold u8s
    rw [List.getElem?_map, List.getElem?_eq_getElem hi, List.getD_eq_getElem?_getD, List.getElem?_eq_getElem hi]
    rfl
theorem Own.sl {base : Nat} {w : World} {v : Value} {l : List Nat} (h : Own base w v l) : SlAt w v l := by
  rcases h.shape with ⟨rfl, rfl⟩ | ⟨g, cap, rfl, _, hd⟩
  · exact .inr ⟨rfl, _, _, rfl⟩
  · exact .inl ⟨g, 0, cap, rfl, hd⟩
theorem Own.base {base b2 : Nat} {w : World} {v : Value} {l : List Nat} (h : Own base w v l) (hb : b2 ≤ base) : Own b2 w v l := by
  obtain ⟨⟨h1, h2⟩, h3⟩ := h
  refine ⟨⟨h1, ?_⟩, h3⟩
  rcases h2 with h2 | ⟨g, cap, cur, hv, hg, r⟩
  · exact .inl h2
  · exact .inr ⟨g, cap, cur, hv, by omega, r⟩
theorem Own.only {base r : Nat} {w w' : World} {v : Value} {l : List Nat} (h : Own base w v l) (ho : Only r w w') (hr : ∀ cs fr, w.heap[r]? ≠ some (.cells cs 5 fr)) : Own base w' v l := by
  obtain ⟨⟨h1, h2⟩, h3⟩ := h
  refine ⟨⟨h1, ?_⟩, h3⟩
  rcases h2 with h2 | ⟨g, cap, cur, hv, hg, hh, r⟩
  · exact .inl h2
  · refine .inr ⟨g, cap, cur, hv, hg, ?_, r⟩
    rw [ho.block g (Array.getElem?_eq_some_iff.1 hh).1 (by rintro rfl; exact hr _ _ hh)]
    exact hh
theorem Own.below {base : Nat} {w w' : World} {v : Value} {l : List Nat} (h : Own base w v l) (ho : Below w.heap.size w w') : Own base w' v l := by
  obtain ⟨⟨h1, h2⟩, h3⟩ := h
  refine ⟨⟨h1, ?_⟩, h3⟩
  rcases h2 with h2 | ⟨g, cap, cur, hv, hg, hh, r⟩
  · exact .inl h2
  · exact .inr ⟨g, cap, cur, hv, hg, (ho.block g (Array.getElem?_eq_some_iff.1 hh).1).trans hh, r⟩
theorem own_row {base : Nat} {w : World} {g : Nat} {l : List Nat} (h : w.heap[g]? = some (.cells (u8s l).toArray 5 (0, 0))) (hg : base ≤ g) (hb : ∀ i, l.getD i 0 < 256) (hm : l.length ≤ maxLen) (n : Nat) (hn : n = l.length) : Own base w (.slice (some ⟨g, 0, none⟩) n n) l := by
  subst hn
  refine ⟨⟨by simp [u8s], .inr ⟨g, _, _, rfl, hg, h, Nat.le_refl _, hm, by simp [u8s], ?_⟩⟩, hb⟩
  rw [List.take_of_length_le (by simp [u8s])]
theorem RdAt.regrow {w1 w3 w4 : World} {r : Nat} {s : Value} {L : List Nat} {p0 p' : Nat} (h1 : RdAt w1 r s L p0) (h3 : RdAt w3 r s L p') (hb : w4.heap[r]? = w3.heap[r]?) (ho : Only r w1 w4) : RdAt w4 r s L p' :=
  ⟨hb.trans h3.1, h1.2.1.keep ho h1.no_u8, h3.2.2⟩
theorem own_grown {r n : Nat} {w1 w3 w4 : World} {v : Value} {xs : List Value} (h : Only r w1 w3) (hr : r < w1.heap.size) (hown : w3.ownsRow w1.heap.size 5 1 v n xs) (W : World) (hW : Below w3.heap.size w3 W) (hg : W.grownBy w4 v.ownBlock) : Only r w1 w4 ∧ w4.heap[r]? = w3.heap[r]? := by
  have hk : ∀ k, k < w1.heap.size → w4.heap[k]? = w3.heap[k]? := fun k hk => by
    have h3 := h.size
    have h4 := hW.size
    refine (hg.block k (by omega) (fun e => ?_)).trans (hW.block k (by omega))
    have := (hown.lt k e.symm).1
    omega
  exact ⟨⟨hg.os.trans (hW.os.trans h.os), hg.tape.trans (hW.tape.trans h.tape), hg.output.trans (hW.output.trans h.output), Nat.le_trans h.size (Nat.le_trans hW.size hg.size), fun k hk1 hk2 => (hk k hk1).trans (h.block k hk1 hk2)⟩, hk r hr⟩
theorem own_snoc {base : Nat} {w : World} {v : Value} {acc : List Nat} {x : Nat} (h : w.ownsRow base 5 1 v (acc.length + 1) (u8s acc ++ [.int .u8 (x : Nat)])) (ha : ∀ i, acc.getD i 0 < 256) (hx : x < 256) : Own base w v (acc ++ [x]) := by
  refine ⟨by rw [List.length_append, List.length_singleton]; simpa [u8s] using h, getD_lt fun y hy => ?_⟩
  rcases List.mem_append.1 hy with hy | hy
  · exact mem_lt ha y hy
  · rw [List.mem_singleton.1 hy]; exact hx

/-- the function value fn reads units as U tells -/
def UnitsR (fn : FuncId) (first cap : Array Value) (r : Nat) (s : Value) (L : List Nat) (U : Nat → Nat → Ro) (w : World) : Prop :=
  ∀ (w1 : World) (p n : Nat), Only r w w1 → RdAt w1 r s L p → n ≤ 100000 → Calls Tryz.prog fn (first ++ #[.int .i64 (n : Nat)] ++ cap) w1 fun e w2 => ∃ v, e = .returned (.tuple #[v, .int .i64 (U n p).e]) ∧ Own w1.heap.size w2 v (U n p).l ∧ RdAt w2 r s L (U n p).p ∧ Only r w1 w2
theorem UnitsR.only {fn : FuncId} {first cap : Array Value} {r : Nat} {s : Value} {L : List Nat} {U : Nat → Nat → Ro} {w w' : World} (h : UnitsR fn first cap r s L U w) (ho : Only r w w') : UnitsR fn first cap r s L U w' :=
  fun w1 p n h1 => h w1 p n (ho.trans h1)
theorem units_ro (w : World) (r : Nat) (s : Value) (L : List Nat) (hL : L.length ≤ 1000000) : UnitsR 31 #[.pointer (some ⟨r, 0, none⟩)] #[] r s L (fun n p => oGo L n p) w := by
  intro w1 p n ho hr hn
  have hle := hr.le
  show Calls Tryz.prog 31 #[.pointer (some ⟨r, 0, none⟩), .int .i64 (n : Nat)] w1 fun e w2 => ∃ v, e = .returned (.tuple #[v, .int .i64 (oerr L p n)]) ∧ Own w1.heap.size w2 v (olst L p n) ∧ RdAt w2 r s L (opos L p n) ∧ Only r w1 w2
  by_cases hi : p + 8 * n ≤ 8 * L.length
  · have h1 : oerr L p n = 0 := by
      unfold oerr
      rw [if_neg (by omega), if_neg (by omega)]
    have h2 : olst L p n = octetsAt (bitsOf L) p n := by
      unfold olst
      rw [if_pos h1, Int.toNat_natCast]
    have h3 : opos L p n = p + 8 * n := by
      unfold opos
      rw [if_pos h1, Int.toNat_natCast]
    rw [h1, h2, h3]
    refine (roctets_ok w1 r L p n hr (by omega) hi).mono ?_
    rintro e w2 ⟨rfl, h4, h5, h6⟩
    exact ⟨_, rfl, own_row h5 (Nat.le_refl _) (octetsAt_lt L p n hi) (by rw [octetsAt_length]; unfold maxLen; omega) n (octetsAt_length _ _ _).symm, h4, h6⟩
  · have h1 : oerr L p n = 2 := by
      unfold oerr
      rw [if_neg (by omega), if_pos (by omega)]
    have h2 : olst L p n = [] := olst_bad (by rw [h1]; decide)
    have h3 : opos L p n = p := by
      unfold opos
      rw [if_neg (by rw [h1]; decide)]
    rw [h1, h2, h3]
    refine (roctets_short w1 r L p n hr (by omega) (by omega) (by omega)).mono ?_
    rintro e w2 ⟨rfl, h4⟩
    exact ⟨_, rfl, Own.nil _ _, hr.still h4, Only.of_below (h4.below _)⟩
theorem uGo_step {L : List Nat} {k m p : Nat} {acc : List Nat} (h : gerr L p k = 0) : uGo L k (m + 1) p acc = uGo L k m (gpos L p k) (acc ++ [gval L p k]) := if_pos h
theorem uGo_stop {L : List Nat} {k m p : Nat} {acc : List Nat} (h : gerr L p k ≠ 0) : uGo L k (m + 1) p acc = ⟨gerr L p k, [], gpos L p k⟩ := if_neg h
theorem enters_units : Enters Tryz.prog 60 := enters_of Tryz.func60 (by kernel_rfl) rfl
theorem enters_ro : Enters Tryz.prog 31 := enters_of Tryz.func31 (by kernel_rfl) rfl
def RelUG (w1 : World) (r : Nat) (s : Value) (L : List Nat) (k n : Nat) (R : Ro) (uv i : Value) (wr : World) : Prop :=
  ∃ (j p : Nat) (acc : List Nat), j ≤ n ∧ i = .int .i64 j ∧ Own w1.heap.size wr uv acc ∧ acc.length = j ∧ RdAt wr r s L p ∧ Only r w1 wr ∧ uGo L k (n - j) p acc = R
theorem u8s_snoc (l : List Nat) (v : Nat) : u8s (l ++ [v]) = u8s l ++ [.int .u8 (v : Nat)] := by simp [u8s]
set_option maxHeartbeats 2000000 in
theorem units_rd (w : World) (r : Nat) (s : Value) (L : List Nat) (k : Nat) (g1 g2 : Nat) (hc1 : Cel w g1 25 (.pointer (some ⟨r, 0, none⟩))) (hc2 : Cel w g2 3 (.int .i64 (k : Nat))) (hk : k ≤ 8) (h1 : g1 ≠ r) (h2 : g2 ≠ r) (hL : L.length ≤ 1000000) :
    UnitsR 60 #[] #[.pointer (some ⟨g1, 0, none⟩), .pointer (some ⟨g2, 0, none⟩)] r s L (fun n p => uGo L k n p []) w := by
  intro w1 p n ho hr hn
  obtain ⟨i0, hi, hz0, hz1, hz2⟩ := info_parts info_u8
  obtain ⟨R, hR⟩ : ∃ R, uGo L k n p [] = R := ⟨_, rfl⟩
  show Calls Tryz.prog 60 _ w1 fun e w2 => ∃ v, e = .returned (.tuple #[v, .int .i64 (uGo L k n p []).e]) ∧ Own w1.heap.size w2 v (uGo L k n p []).l ∧ RdAt w2 r s L (uGo L k n p []).p ∧ Only r w1 w2
  rw [hR]
  have HC1 := Lib.hid (hc1.only ho h1)
  have HC2 := Lib.hid (hc2.only ho h2)
  have HR0 := Lib.hid hr
  have HRR := Lib.hid hR
  clear hc1 hc2 ho hr hR
  go_enter Tryz.func60, Tryz.ntmps60
  go_wp2_with fail
  go_loopw [6, 10] (fun uv i wr => RelUG w1 r s L k n R uv i wr) (fun _ i _ => n - (intOf i).toNat)
  case atStart => exact ⟨0, p, [], Nat.zero_le _, rfl, Own.nil _ _, rfl, HR0.out, Only.refl _ _, HRR.out⟩
  case round =>
    clear HRR
    obtain ⟨j, q, acc, hj, rfl, hown, hacc, hrd, hon, hu⟩ := hrel
    have c1 := (HC1.out.only hon h1).cell
    have c2 := (HC2.out.only hon h2).cell
    have HO := Lib.hid hown
    have HA := Lib.hid hacc
    have HR := Lib.hid hrd
    have HN := Lib.hid hon
    have HU := Lib.hid hu
    clear hown hacc hrd hon hu
    by_cases hlt : j < n
    · have q1 : decide ((j : Int) < (n : Int)) = true := decide_eq_true (by omega)
      obtain ⟨m, hm⟩ : ∃ m, n - j = m + 1 := ⟨n - j - 1, by omega⟩
      have HG := Lib.hid (get_any wr r L q k HR.out (by omega))
      have hgl := gval_lt L q k
      have h28 : 2 ^ k ≤ 256 := pow_le hk
      by_cases he : gerr L q k = 0
      · have HU2 := Lib.hid (show uGo L k m (gpos L q k) (acc ++ [gval L q k]) = R by rw [← uGo_step he, ← hm]; exact HU.out)
        rw [he] at HG
        obtain ⟨v, hv⟩ : ∃ v, gval L q k = v := ⟨_, rfl⟩
        rw [hv] at HG HU2 hgl
        generalize gpos L q k = q2 at *
        have q2' : (v : Int) % 256 = v := by omega
        have HV := Lib.hid (show v < 256 by omega)
        clear he hv hgl HU
        go_wp2_with fail
        refine HG.out.mono ?_
        rintro e w3 ⟨rfl, h3, h4⟩
        have HO3 := Lib.hid (HO.out.only h4 HR.out.no_u8)
        have HR3 := Lib.hid h3
        have HN3 := Lib.hid (HN.out.trans h4)
        have hsz3 := HN3.out.size
        have hal := HA.out
        clear h3 h4 HO HR HN HG c1 c2
        go_wp2_with (at_builtin; refine wpList_append_own _ rfl (.tmp 21) (.tmp 24) 22 rfl w1.heap.size 5 i0 (.int .u8 0) 1 1 Tryz.underlying22 hi hz0 hz1 hz2 rfl (by decide) _ acc.length (u8s acc) rfl (HO3.out.1.alloc _) ⟨w3.heap.size, 0, none⟩ 1 1 [.int .u8 (v : Nat)] rfl rfl (cell_one_new _ _ _) (by simp [Value.oneCell']) (by unfold maxLen; omega) (by omega) (by simp; omega) ?_; intro v' w4 hown4 hgr4 _; have HO4 := Lib.hid hown4; have HG4 := Lib.hid hgr4; clear hown4 hgr4)
        have hgw := own_grown (r := r) HN3.out HR0.out.lt HO3.out.1 _ ((Below.refl w3.heap.size w3).alloc (Nat.le_refl _) (.cells #[.int .u8 (v : Nat)] 5)) HG4.out
        have HR4 := Lib.hid (HR0.out.regrow HR3.out hgw.2 hgw.1)
        have HN4 := Lib.hid hgw.1
        have HO5 := Lib.hid (own_snoc HO4.out HO3.out.2 HV.out)
        clear hgw HG4 HO4 HO3 HR3 HN3
        go_roundw
        case rel => exact ⟨j + 1, q2, acc ++ [v], hlt, by go_num, HO5.out, by rw [List.length_append, hal]; rfl, HR4.out, HN4.out, by rw [show n - (j + 1) = m by omega]; exact HU2.out⟩
        case measure => simp [intOf]; omega
      · have HU2 := Lib.hid (show (⟨gerr L q k, [], gpos L q k⟩ : Ro) = R by rw [← uGo_stop he (m := m) (acc := acc), ← hm]; exact HU.out)
        obtain ⟨n1, n2⟩ := ne_facts he
        generalize gerr L q k = er at *
        generalize gpos L q k = q2 at *
        generalize gval L q k = v at *
        clear he hgl HU
        go_wp2_with fail
        refine HG.out.mono ?_
        rintro e w3 ⟨rfl, h3, h4⟩
        have HR3 := Lib.hid h3
        have HN3 := Lib.hid (HN.out.trans h4)
        clear h3 h4 HO HR HN HG c1 c2
        go_wp2_with fail
        go_ret2
        rw [← HU2.out]
        exact ⟨_, rfl, Own.nil _ _, HR3.out, HN3.out⟩
    · obtain rfl : j = n := by omega
      have q1 : decide ((j : Int) < (j : Int)) = false := decide_eq_false (by omega)
      have HU2 := Lib.hid (show (⟨0, acc, q⟩ : Ro) = R by rw [← HU.out, Nat.sub_self]; rfl)
      clear HU c1 c2
      go_wp2_with fail
      go_ret2
      rw [← HU2.out]
      exact ⟨_, rfl, HO.out, HR.out, HN.out⟩
end Go.Proofs.YtbpfggkpfaobhaaGreat
