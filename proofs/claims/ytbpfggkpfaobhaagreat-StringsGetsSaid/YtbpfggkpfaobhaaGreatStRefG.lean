/-
  The document's answer for package strings: units, get.
-/
import Derived.Test.YtbpfggkpfaobhaaGreatStRefA
import Derived.Test.YtbpfggkpfaobhaaGreatStGet3
import Derived.Test.YtbpfggkpfaobhaaGreatLRGet
namespace Go.Proofs.YtbpfggkpfaobhaaGreat
open Go.RowKit Go.Shelf
set_option linter.unusedVariables false
set_option linter.unusedSimpArgs false
set_option maxRecDepth 100000

theorem own_grownI {r n : Nat} {w1 w3 w4 : World} {v : Value} {xs : List Value} (h : Only r w1 w3) (hr : r < w1.heap.size) (hown : w3.ownsRow w1.heap.size 3 1 v n xs) (W : World) (hW : Below w3.heap.size w3 W) (hg : W.grownBy w4 v.ownBlock) : Only r w1 w4 ∧ w4.heap[r]? = w3.heap[r]? := by
  have hk : ∀ k, k < w1.heap.size → w4.heap[k]? = w3.heap[k]? := fun k hk => by
    have h3 := h.size
    have h4 := hW.size
    refine (hg.block k (by omega) (fun e => ?_)).trans (hW.block k (by omega))
    have := (hown.lt k e.symm).1
    omega
  exact ⟨⟨hg.os.trans (hW.os.trans h.os), hg.tape.trans (hW.tape.trans h.tape), hg.output.trans (hW.output.trans h.output), Nat.le_trans h.size (Nat.le_trans hW.size hg.size), fun k hk1 hk2 => (hk k hk1).trans (h.block k hk1 hk2)⟩, hk r hr⟩
theorem QAt.no_int {w : World} {b : Nat} {B : List Bool} {p : Nat} (h : QAt w b B p) : ∀ cs fr, w.heap[b]? ≠ some (.cells cs 3 fr) := by
  intro cs fr e
  obtain ⟨hs, _⟩ := h
  rw [hs] at e
  injection e with e
  injection e with e1 e2 e3
  exact absurd e2 (by decide)
theorem OwnI.only {base r : Nat} {w w' : World} {v : Value} {l : List Int} (h : OwnI base w v l) (ho : Only r w w') (hr : ∀ cs fr, w.heap[r]? ≠ some (.cells cs 3 fr)) : OwnI base w' v l := by
  obtain ⟨h1, h2⟩ := h
  refine ⟨h1, ?_⟩
  rcases h2 with h2 | ⟨g, cap, cur, hv, hg, hh, r⟩
  · exact .inl h2
  · refine .inr ⟨g, cap, cur, hv, hg, ?_, r⟩
    rw [ho.block g (Array.getElem?_eq_some_iff.1 hh).1 (by rintro rfl; exact hr _ _ hh)]
    exact hh
theorem i64s_ints_snoc (acc : List Nat) (v : Nat) : i64s (ints (acc ++ [v])) = i64s (ints acc) ++ [.int .i64 (v : Nat)] := by
  simp [i64s, ints]
theorem ownI_snoc {base : Nat} {w : World} {v : Value} {acc : List Nat} {x n : Nat} (hn : acc.length = n) (h : w.ownsRow base 3 1 v (n + 1) (i64s (ints acc) ++ [.int .i64 (x : Nat)])) : OwnI base w v (ints (acc ++ [x])) := by
  unfold OwnI
  rw [i64s_ints_snoc, ints_length, List.length_append, List.length_singleton, hn]
  exact h
def sortC (k : Nat) (tx : Bool) : Obj := .cells #[.int .i64 (k : Nat), .bool tx] 71
def RelUI (w1 : World) (b : Nat) (L : List Nat) (k n : Nat) (R : Ro) (uv i : Value) (wr : World) : Prop :=
  ∃ (j p : Nat) (acc : List Nat), j ≤ n ∧ i = .int .i64 j ∧ OwnI w1.heap.size wr uv (ints acc) ∧ acc.length = j ∧ QAt wr b (bitsOf L) p ∧ Only b w1 wr ∧ uGo L k (n - j) p acc = R
set_option maxHeartbeats 2000000 in
theorem runits_ok (w : World) (b : Nat) (L : List Nat) (k : Nat) (tx : Bool) (p n : Nat) (hq : QAt w b (bitsOf L) p) (hk : k ≤ 8) (hL : L.length ≤ 1000000) (hn : n ≤ 100000) :
    Calls Tryz.prog 57 #[.pointer (some ⟨b, 0, none⟩), .agg #[.int .i64 (k : Nat), .bool tx], .int .i64 (n : Nat)] w fun e w2 => ∃ v, e = .returned (.tuple #[v, .int .i64 (uGo L k n p []).e]) ∧ InAt w2 v (ints (uGo L k n p []).l) ∧ QAt w2 b (bitsOf L) (uGo L k n p []).p ∧ Only b w w2 := by
  obtain ⟨i0, hi, hz0, hz1, hz2⟩ := info_parts info_i64
  obtain ⟨R, hR⟩ : ∃ R, uGo L k n p [] = R := ⟨_, rfl⟩
  rw [hR]
  have hb0 := (Below.refl w.heap.size w).alloc (Nat.le_refl _) (.cells #[.int .i64 (k : Nat), .bool tx] 71)
  have HK := Lib.hid (show (w.alloc (.cells #[.int .i64 (k : Nat), .bool tx] 71)).cell? ⟨w.heap.size, 0, none⟩ = some (.int .i64 (k : Nat)) from cell_of_row _ _ _ _ _ _ (heap_alloc_new _ _))
  have hlt0 : w.heap.size < (w.alloc (.cells #[.int .i64 (k : Nat), .bool tx] 71)).heap.size := by simp
  have HG0 := Lib.hid hlt0
  have hgb := hq.lt
  have hne : w.heap.size ≠ b := by omega
  have HQ0 := Lib.hid (hq.below hb0)
  have HO0 := Lib.hid (Only.of_below (b := b) hb0)
  have HBL := Lib.hid (HQ0.out.lt)
  have HRR := Lib.hid hR
  clear hq hR hb0 hgb hlt0
  go_enter Tryz.func57, Tryz.ntmps57
  go_wp2_with fail
  go_loopw [8, 9] (fun uv i wr => RelUI (w.alloc (.cells #[.int .i64 (k : Nat), .bool tx] 71)) b L k n R uv i wr) (fun _ i _ => n - (intOf i).toNat)
  case atStart => exact ⟨0, p, [], Nat.zero_le _, rfl, OwnI.nil _ _, rfl, HQ0.out, Only.refl _ _, HRR.out⟩
  case round =>
    clear HRR
    obtain ⟨j, q, acc, hj, rfl, hown, hacc, hrd, hon, hu⟩ := hrel
    have c1 : wr.cell? ⟨w.heap.size, 0, none⟩ = some (.int .i64 (k : Nat)) := by
      rw [← HK.out]
      exact World.cell?_of_block (hon.block w.heap.size HG0.out hne)
    have HO := Lib.hid hown
    have HA := Lib.hid hacc
    have HR := Lib.hid hrd
    have HN := Lib.hid hon
    have HU := Lib.hid hu
    clear hown hacc hrd hon hu
    by_cases hlt : j < n
    · have q1 : decide ((j : Int) < (n : Int)) = true := decide_eq_true (by omega)
      obtain ⟨m, hm⟩ : ∃ m, n - j = m + 1 := ⟨n - j - 1, by omega⟩
      have HG := Lib.hid (rget_any wr b L q k HR.out (by omega))
      have hgl := gval_lt L q k
      have h28 : 2 ^ k ≤ 256 := pow_le hk
      by_cases he : gerr L q k = 0
      · have HU2 := Lib.hid (show uGo L k m (gpos L q k) (acc ++ [gval L q k]) = R by rw [← uGo_step he, ← hm]; exact HU.out)
        rw [he] at HG
        obtain ⟨v, hv⟩ : ∃ v, gval L q k = v := ⟨_, rfl⟩
        rw [hv] at HG HU2 hgl
        generalize gpos L q k = q2 at *
        have q2' : IntKind.i64.wrap (v : Int) = (v : Int) := by rw [IntKind.wrap_i64]; omega
        clear he hv hgl HU
        go_wp2_with fail
        refine HG.out.mono ?_
        rintro e w3 ⟨rfl, h3, h4⟩
        have HO3 := Lib.hid (HO.out.only h4 HR.out.no_int)
        have HR3 := Lib.hid h3
        have HN3 := Lib.hid (HN.out.trans h4)
        have hsz3 := HN3.out.size
        have hsz4 : w.heap.size < w3.heap.size := Nat.lt_of_lt_of_le HG0.out hsz3
        have hil : (ints acc).length ≤ 100000 := by rw [ints_length, HA.out]; omega
        clear h3 h4 HO HR HN HG c1
        go_wp2_with (at_builtin; refine wpList_append_own _ rfl (.tmp 27) (.tmp 30) 67 rfl (w.alloc (.cells #[.int .i64 (k : Nat), .bool tx] 71)).heap.size 3 i0 (.int .i64 0) 1 8 Tryz.underlying67 hi hz0 hz1 hz2 rfl (by decide) _ (ints acc).length (i64s (ints acc)) rfl (World.ownsRow.alloc HO3.out _) ⟨w3.heap.size, 0, none⟩ 1 1 [.int .i64 (v : Nat)] rfl rfl (cell_one_int _ _) (by simp [Value.oneCell']) (by unfold maxLen; omega) (by omega) (by simp; omega) ?_; intro v' w4 hown4 hgr4 _; have HO4 := Lib.hid hown4; have HG4 := Lib.hid hgr4; clear hown4 hgr4)
        have hgw := own_grownI (r := b) HN3.out HBL.out HO3.out _ ((Below.refl w3.heap.size w3).alloc (Nat.le_refl _) (.cells #[.int .i64 (v : Nat)] 3)) HG4.out
        have HR4 := Lib.hid (show QAt w4 b (bitsOf L) q2 from ⟨hgw.2.trans HR3.out.1, HR3.out.2⟩)
        have HN4 := Lib.hid hgw.1
        have HO5 := Lib.hid (ownI_snoc (by rw [ints_length]) HO4.out)
        clear hgw HG4 HO4 HO3 HR3 HN3 hil
        go_roundw
        case rel => exact ⟨j + 1, q2, acc ++ [v], hlt, by go_num, HO5.out, by rw [List.length_append, HA.out]; rfl, HR4.out, HN4.out, by rw [show n - (j + 1) = m by omega]; exact HU2.out⟩
        case measure => simp [intOf]; omega
      · have HU2 := Lib.hid (show (⟨gerr L q k, [], gpos L q k⟩ : Ro) = R by rw [← uGo_stop he (m := m) (acc := acc), ← hm]; exact HU.out)
        obtain ⟨n1, n2⟩ := ne_facts he
        generalize gerr L q k = er at *
        generalize gpos L q k = q2 at *
        generalize gval L q k = v at *
        clear he hgl HU
        go_wp2_with fail
        refine HG.out.mono ?_
        rintro e w3 ⟨rfl, h3, h4⟩
        have HR3 := Lib.hid h3
        have HN3 := Lib.hid (HO0.out.trans (HN.out.trans h4))
        clear h3 h4 HO HR HN HG c1
        go_wp2_with fail
        go_ret2
        rw [← HU2.out]
        exact ⟨_, rfl, .inl ⟨rfl, rfl⟩, HR3.out, HN3.out⟩
    · obtain rfl : j = n := by omega
      have q1 : decide ((j : Int) < (j : Int)) = false := decide_eq_false (by omega)
      have HU2 := Lib.hid (show (⟨0, acc, q⟩ : Ro) = R by rw [← HU.out, Nat.sub_self]; rfl)
      clear HU c1
      go_wp2_with fail
      go_ret2
      rw [← HU2.out]
      exact ⟨_, rfl, HO.out.inat, HR.out, HO0.out.trans HN.out⟩
end Go.Proofs.YtbpfggkpfaobhaaGreat
