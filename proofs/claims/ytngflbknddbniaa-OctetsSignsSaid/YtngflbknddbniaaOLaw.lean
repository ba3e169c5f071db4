/-
  The laws of package octets: the helper 'same' and the document's example.
-/
import Derived.Test.YtngflbknddbniaaOc3
namespace Go.Proofs.Ytngflbknddbniaa
open Go.RowKit
set_option linter.unusedVariables false
set_option linter.unusedSimpArgs false

theorem osame_yes (w : World) (s1 s2 : Value) (l : List Nat) (h1 : SlAt w s1 l) (h2 : SlAt w s2 l) :
    Calls Try.prog 42 #[s1, s2] w fun e w' => e = .returned (.bool true) ∧ w = w' := by
  have c1 := conv_sl w s1 l h1
  have c2 := conv_sl w s2 l h2
  clear h1 h2
  go_enter Try.func42, Try.ntmps42
  go_wp2
  go_ret
  exact ⟨rfl, rfl⟩
/-- a literal of octets -/
theorem lit_sl (w : World) (l : List Nat) (hl : ∀ i, l.getD i 0 < 256) (cs : Array Value) (hc : (u8s l).toArray = cs) (n : Nat) (hn : n = l.length) : SlAt (w.alloc (.cells cs 5)) (.slice (some ⟨w.heap.size, 0, none⟩) n n) l := by
  subst hc
  exact sl_of_row (heap_alloc_new _ _) hl hn
theorem lit_below {w0 w : World} (h : Below w0.heap.size w0 w) (o : Obj) : Below w0.heap.size w0 (w.alloc o) := h.alloc h.size o
theorem lt256 {l : List Nat} (h : l.all (· < 256) = true) (i : Nat) : l.getD i 0 < 256 := getD_lt (fun x hx => by simpa using List.all_eq_true.1 h x hx) i
set_option maxHeartbeats 2000000 in
theorem oawake (w : World) : Calls Try.prog 37 #[] w fun e w' => e = .returned (.bool true) ∧ Below w.heap.size w w' := by
  go_enter Try.func37, Try.ntmps37
  go_wp2_with fail
  refine (fromS_ok _ _ [255, 127] (lit_sl w [255, 127] (lt256 rfl) _ rfl _ rfl) (by decide)).mono ?_
  rintro e w1 ⟨rfl, hb⟩
  rw [show sval [255, 127] = -129 by decide, show serr [255, 127] = 0 by decide]
  have HB := Lib.hid ((lit_below (Below.refl w.heap.size w) (.cells (u8s [255, 127]).toArray 5)).trans (hb.mono (by simp)))
  clear hb
  go_wp2_with fail
  refine (fromS_ok _ _ [0, 1] (lit_sl w1 [0, 1] (lt256 rfl) _ rfl _ rfl) (by decide)).mono ?_
  rintro e w2 ⟨rfl, hb⟩
  rw [show sval [0, 1] = 0 by decide, show serr [0, 1] = 3 by decide]
  have HB2 := Lib.hid ((lit_below HB.out (.cells (u8s [0, 1]).toArray 5)).trans (hb.mono (by have := HB.out.size; simp; omega)))
  clear hb HB
  go_wp2_with fail
  refine (unsigned_ok 256 w2 (by decide)).mono ?_
  rintro e w3 ⟨s, rfl, hn, hb⟩
  rw [show low 256 (cnt 256) = [1, 0] by decide] at hn
  have HN := Lib.hid hn.sl
  have HB3 := Lib.hid (HB2.out.trans (hb.mono HB2.out.size))
  clear hb HB2 hn
  go_wp2_with fail
  refine (osame_yes _ _ _ [1, 0] (HN.out.below ((Below.refl _ _).alloc (Nat.le_refl _) _)) (lit_sl w3 [1, 0] (lt256 rfl) _ rfl _ rfl)).mono ?_
  rintro e w4 ⟨rfl, rfl⟩
  have HB4 := Lib.hid (lit_below HB3.out (.cells (u8s [1, 0]).toArray 5))
  have hs := HB4.out.size
  clear HN HB3
  go_wp2_with fail
  have hm : mag (-129) < 2 ^ 63 := by decide
  refine (signed_ok (-129) _ hm).mono ?_
  rintro e w5 ⟨s2, rfl, hn, hb⟩
  rw [show low (u64n (-129)) (scnt (-129)) = [255, 127] by decide] at hn
  have HN := Lib.hid hn.sl
  have HB5 := Lib.hid (HB4.out.trans (hb.mono hs))
  clear hb HB4 hn hs
  go_wp2_with fail
  refine (osame_yes _ _ _ [255, 127] (HN.out.below ((Below.refl _ _).alloc (Nat.le_refl _) _)) (lit_sl w5 [255, 127] (lt256 rfl) _ rfl _ rfl)).mono ?_
  rintro e w6 ⟨rfl, rfl⟩
  have HB6 := Lib.hid (lit_below HB5.out (.cells (u8s [255, 127]).toArray 5))
  clear HN HB5
  go_wp2_with fail
  refine (width_ok 8 _ (by decide)).mono ?_
  rintro e w7 ⟨rfl, rfl⟩
  rw [show wid 8 = 4 by decide]
  go_wp2_with fail
  refine (count_ok 0 _ (by decide)).mono ?_
  rintro e w7 ⟨rfl, rfl⟩
  rw [show cnt 0 = 1 by decide]
  go_wp2_with fail
  go_ret
  exact ⟨rfl, HB6.out⟩
end Go.Proofs.Ytngflbknddbniaa
