/-
  A bundle of texts, one behind the other: MbB3.
-/
import Derived.Test.YtjhecpkdpomkmaaGreatQO
namespace Go.Proofs.YtjhecpkdpomkmaaGreat
open Go.RowKit
set_option linter.unusedVariables false
set_option linter.unusedSimpArgs false
set_option maxRecDepth 100000

set_option maxHeartbeats 16000000 in
theorem has_other (B : Nat) (w : World) (g x o : Nat) (d : TB) (i : Nat) (k m : Int) (s : ByteArray) (nm : SL) (a : Option Addr) (n cap : Nat) (ch : Nat → VT) (hR : RAt B w g x o d i) (hB : B ≤ w.heap.size)
    (hx : VIn B w (.mk k m s nm a n cap ch)) (hk : k ≠ (d.f i).kind) :
    Calls Tryz.prog 44 #[rV g x o d.n d.cap, .agg (VT.mk k m s nm a n cap ch).cells.toArray] w fun e w' => e = .returned (.bool false) ∧ Below w.heap.size w w' := by
  obtain ⟨z, hbare⟩ : ∃ z, bare k m s.size nm.n n = z := ⟨_, rfl⟩

  have hb0 := (Below.refl w.heap.size w).alloc (Nat.le_refl _) (.cells #[.pointer (some ⟨g, x, none⟩), .slice (some ⟨g, o, none⟩) d.n d.cap] 72)
  have hb1 := hb0.alloc hb0.size (.cells #[.int .i64 k, .int .i64 m, .string s, .slice nm.a nm.n nm.cap, .slice a n cap] 26)
  have hxa := (Bx.new w #[.pointer (some ⟨g, x, none⟩), .slice (some ⟨g, o, none⟩) d.n d.cap] 72).alloc (.cells #[.int .i64 k, .int .i64 m, .string s, .slice nm.a nm.n nm.cap, .slice a n cap] 26)
  have hxb := Bx.new (w.alloc (.cells #[.pointer (some ⟨g, x, none⟩), .slice (some ⟨g, o, none⟩) d.n d.cap] 72)) #[.int .i64 k, .int .i64 m, .string s, .slice nm.a nm.n nm.cap, .slice a n cap] 26
  rw [World.size_alloc] at hxb
  have HIB := Lib.hid (fun (W : World) (hW : Below w.heap.size w W) => isBare_ok w.heap.size W k m s nm a n cap ch ((hx.below (Below.refl _ _) hB).below hW (Nat.le_refl _)) hW.size)
  have HRB := Lib.hid (fun (W : World) (hW : Below w.heap.size w W) => (hR.below (Below.refl _ _) hB).below hW (Nat.le_refl _))
  have HDC := Lib.hid (fun (W : World) (hW : Below w.heap.size w W) => (HRB.out W hW).cells (w := W) rfl)
  have HKD := Lib.hid (fun (W : World) (hW : Below w.heap.size w W) => (HDC.out W hW).1)
  rw [list5] at HIB ⊢
  rw [hbare] at HIB
  unfold rV
  have HXA := Lib.hid hxa
  have HXB := Lib.hid hxb
  have HB1 := Lib.hid hb1
  clear hb0 hb1 hxa hxb hR hB hx hbare
  go_enter Tryz.func44, Tryz.ntmps44
  go_wp2_with fail
  have HSZ := Lib.hid (show ((w.alloc (.cells #[.pointer (some ⟨g, x, none⟩), .slice (some ⟨g, o, none⟩) d.n d.cap] 72)).alloc (.cells #[.int .i64 k, .int .i64 m, .string s, .slice nm.a nm.n nm.cap, .slice a n cap] 26)).heap.size = w.heap.size + 1 + 1 from by rw [World.size_alloc, World.size_alloc])
  generalize (w.alloc (.cells #[.pointer (some ⟨g, x, none⟩), .slice (some ⟨g, o, none⟩) d.n d.cap] 72)).alloc (.cells #[.int .i64 k, .int .i64 m, .string s, .slice nm.a nm.n nm.cap, .slice a n cap] 26) = W1 at *
  obtain ⟨b, hb⟩ : ∃ b, w.heap.size = b := ⟨_, rfl⟩
  have HBE := Lib.hid hb
  rw [hb] at HXA HXB HSZ ⊢
  clear hb
  have HSZW := Lib.hid (show w.heap.size ≤ b + 1 + 1 from by have := HBE.out; omega)
  have HS := Lib.hid (show ∀ W, Below (b + 1 + 1) W1 W → (W.cell? ⟨b, 0, none⟩ = some (.pointer (some ⟨g, x, none⟩)) ∧ W.cell? ⟨b, 1, none⟩ = some (.slice (some ⟨g, o, none⟩) d.n d.cap) ∧ W.cell? ⟨b + 1, 0, none⟩ = some (.int .i64 k) ∧ W.cell? ⟨b + 1, 1, none⟩ = some (.int .i64 m) ∧ W.cell? ⟨b + 1, 2, none⟩ = some (.string s) ∧ W.cell? ⟨b + 1, 3, none⟩ = some (.slice nm.a nm.n nm.cap) ∧ W.cell? ⟨b + 1, 4, none⟩ = some (.slice a n cap) ∧ W.cell? ⟨g, x, none⟩ = some (.int .i64 (d.f i).kind)) from fun W hW => by
    have h1 := HXA.out.below hW (by have := HXA.out.lt; rw [HSZ.out] at this; exact this)
    have h2 := HXB.out.below hW (by have := HXB.out.lt; rw [HSZ.out] at this; exact this)
    have hbw : Below w.heap.size w W := HB1.out.trans (hW.mono HSZW.out)
    exact ⟨h1.cell 0 rfl, h1.cell 1 rfl, h2.cell 0 rfl, h2.cell 1 rfl, h2.cell 2 rfl, h2.cell 3 rfl, h2.cell 4 rfl, HKD.out W hbw⟩)

  have q1 : (k != (d.f i).kind) = true := bne_iff_ne.2 hk
  have q1n : (k == (d.f i).kind) = false := beq_eq_false_iff_ne.2 hk
  obtain ⟨c0, c1, c2, c3, c4, c5, c6, c7⟩ := HS.out _ (Below.refl _ _)
  clear hk
  go_quiet (fail)
  go_wp2_with fail
  go_ret
  exact ⟨rfl, below_drewM HB1.out _⟩
set_option maxHeartbeats 16000000 in
theorem has_bare (B : Nat) (w : World) (g x o : Nat) (d : TB) (i : Nat) (k m : Int) (s : ByteArray) (nm : SL) (a : Option Addr) (n cap : Nat) (ch : Nat → VT) (hR : RAt B w g x o d i) (hB : B ≤ w.heap.size)
    (hx : VIn B w (.mk k m s nm a n cap ch)) (hk : (d.f i).kind = k) (hbare : bare k m s.size nm.n n = false) :
    Calls Tryz.prog 44 #[rV g x o d.n d.cap, .agg (VT.mk k m s nm a n cap ch).cells.toArray] w fun e w' => e = .returned (.bool false) ∧ Below w.heap.size w w' := by
  have hb0 := (Below.refl w.heap.size w).alloc (Nat.le_refl _) (.cells #[.pointer (some ⟨g, x, none⟩), .slice (some ⟨g, o, none⟩) d.n d.cap] 72)
  have hb1 := hb0.alloc hb0.size (.cells #[.int .i64 k, .int .i64 m, .string s, .slice nm.a nm.n nm.cap, .slice a n cap] 26)
  have hxa := (Bx.new w #[.pointer (some ⟨g, x, none⟩), .slice (some ⟨g, o, none⟩) d.n d.cap] 72).alloc (.cells #[.int .i64 k, .int .i64 m, .string s, .slice nm.a nm.n nm.cap, .slice a n cap] 26)
  have hxb := Bx.new (w.alloc (.cells #[.pointer (some ⟨g, x, none⟩), .slice (some ⟨g, o, none⟩) d.n d.cap] 72)) #[.int .i64 k, .int .i64 m, .string s, .slice nm.a nm.n nm.cap, .slice a n cap] 26
  rw [World.size_alloc] at hxb
  have HIB := Lib.hid (fun (W : World) (hW : Below w.heap.size w W) => isBare_ok w.heap.size W k m s nm a n cap ch ((hx.below (Below.refl _ _) hB).below hW (Nat.le_refl _)) hW.size)
  have HRB := Lib.hid (fun (W : World) (hW : Below w.heap.size w W) => (hR.below (Below.refl _ _) hB).below hW (Nat.le_refl _))
  have HDC := Lib.hid (fun (W : World) (hW : Below w.heap.size w W) => (HRB.out W hW).cells (w := W) rfl)
  have HKD := Lib.hid (show ∀ (W : World), Below w.heap.size w W → W.cell? ⟨g, x, none⟩ = some (.int .i64 k) from fun W hW => by have := (HDC.out W hW).1; rw [hk] at this; exact this)
  rw [list5] at HIB ⊢
  rw [hbare] at HIB
  unfold rV
  have HXA := Lib.hid hxa
  have HXB := Lib.hid hxb
  have HB1 := Lib.hid hb1
  clear hb0 hb1 hxa hxb hR hB hx hbare
  go_enter Tryz.func44, Tryz.ntmps44
  go_wp2_with fail
  have HSZ := Lib.hid (show ((w.alloc (.cells #[.pointer (some ⟨g, x, none⟩), .slice (some ⟨g, o, none⟩) d.n d.cap] 72)).alloc (.cells #[.int .i64 k, .int .i64 m, .string s, .slice nm.a nm.n nm.cap, .slice a n cap] 26)).heap.size = w.heap.size + 1 + 1 from by rw [World.size_alloc, World.size_alloc])
  generalize (w.alloc (.cells #[.pointer (some ⟨g, x, none⟩), .slice (some ⟨g, o, none⟩) d.n d.cap] 72)).alloc (.cells #[.int .i64 k, .int .i64 m, .string s, .slice nm.a nm.n nm.cap, .slice a n cap] 26) = W1 at *
  obtain ⟨b, hb⟩ : ∃ b, w.heap.size = b := ⟨_, rfl⟩
  have HBE := Lib.hid hb
  rw [hb] at HXA HXB HSZ ⊢
  clear hb
  have HSZW := Lib.hid (show w.heap.size ≤ b + 1 + 1 from by have := HBE.out; omega)
  have HS := Lib.hid (show ∀ W, Below (b + 1 + 1) W1 W → (W.cell? ⟨b, 0, none⟩ = some (.pointer (some ⟨g, x, none⟩)) ∧ W.cell? ⟨b, 1, none⟩ = some (.slice (some ⟨g, o, none⟩) d.n d.cap) ∧ W.cell? ⟨b + 1, 0, none⟩ = some (.int .i64 k) ∧ W.cell? ⟨b + 1, 1, none⟩ = some (.int .i64 m) ∧ W.cell? ⟨b + 1, 2, none⟩ = some (.string s) ∧ W.cell? ⟨b + 1, 3, none⟩ = some (.slice nm.a nm.n nm.cap) ∧ W.cell? ⟨b + 1, 4, none⟩ = some (.slice a n cap) ∧ W.cell? ⟨g, x, none⟩ = some (.int .i64 k)) from fun W hW => by
    have h1 := HXA.out.below hW (by have := HXA.out.lt; rw [HSZ.out] at this; exact this)
    have h2 := HXB.out.below hW (by have := HXB.out.lt; rw [HSZ.out] at this; exact this)
    have hbw : Below w.heap.size w W := HB1.out.trans (hW.mono HSZW.out)
    exact ⟨h1.cell 0 rfl, h1.cell 1 rfl, h2.cell 0 rfl, h2.cell 1 rfl, h2.cell 2 rfl, h2.cell 3 rfl, h2.cell 4 rfl, HKD.out W hbw⟩)
  have q1 : (k != k) = false := by simp
  have q1n : (k == k) = true := by simp

  have HBX0 := Lib.hid (Below.drew (Below.refl (b + 1 + 1) W1))
  have HS0 := Lib.hid (HS.out _ HBX0.out)
  go_region_held3 (fun W => W.cell? ⟨b, 0, none⟩ = some (.pointer (some ⟨g, x, none⟩)) ∧ W.cell? ⟨b, 1, none⟩ = some (.slice (some ⟨g, o, none⟩) d.n d.cap) ∧ W.cell? ⟨b + 1, 0, none⟩ = some (.int .i64 k) ∧ W.cell? ⟨b + 1, 1, none⟩ = some (.int .i64 m) ∧ W.cell? ⟨b + 1, 2, none⟩ = some (.string s) ∧ W.cell? ⟨b + 1, 3, none⟩ = some (.slice nm.a nm.n nm.cap) ∧ W.cell? ⟨b + 1, 4, none⟩ = some (.slice a n cap) ∧ W.cell? ⟨g, x, none⟩ = some (.int .i64 k)) (first | with_reducible exact HS1.out | with_reducible exact HS0.out) (first
    | (go_at_call 69; (with_reducible refine (HIB.out _ (HB1.out.trans (HBX0.out.mono HSZW.out))).mono ?_); rintro e w3 ⟨rfl, h3⟩; have HBX1 := Lib.hid (HBX0.out.trans (h3.mono (by have h := HBX0.out.size; rw [HSZ.out] at h; exact h))); have HS1 := Lib.hid (HS.out _ HBX1.out); clear h3))

  obtain ⟨c0, c1, c2, c3, c4, c5, c6, c7⟩ := HS1.out
  go_wp2_with fail
  go_ret
  exact ⟨rfl, HB1.out.trans (HBX1.out.mono HSZW.out)⟩
set_option maxHeartbeats 16000000 in
theorem has_1 (B : Nat) (w : World) (g x o : Nat) (d : TB) (i : Nat) (m : Int) (s : ByteArray) (nm : SL) (a : Option Addr) (n cap : Nat) (ch : Nat → VT) (hR : RAt B w g x o d i) (hB : B ≤ w.heap.size)
    (hx : VIn B w (.mk 1 m s nm a n cap ch)) (hk : (d.f i).kind = 1) (hbare : bare 1 m s.size nm.n n = true) :
    Calls Tryz.prog 44 #[rV g x o d.n d.cap, .agg (VT.mk 1 m s nm a n cap ch).cells.toArray] w fun e w' => e = .returned (.bool (decide (m = 0) || decide (m = 1))) ∧ Below w.heap.size w w' := by
  have hb0 := (Below.refl w.heap.size w).alloc (Nat.le_refl _) (.cells #[.pointer (some ⟨g, x, none⟩), .slice (some ⟨g, o, none⟩) d.n d.cap] 72)
  have hb1 := hb0.alloc hb0.size (.cells #[.int .i64 1, .int .i64 m, .string s, .slice nm.a nm.n nm.cap, .slice a n cap] 26)
  have hxa := (Bx.new w #[.pointer (some ⟨g, x, none⟩), .slice (some ⟨g, o, none⟩) d.n d.cap] 72).alloc (.cells #[.int .i64 1, .int .i64 m, .string s, .slice nm.a nm.n nm.cap, .slice a n cap] 26)
  have hxb := Bx.new (w.alloc (.cells #[.pointer (some ⟨g, x, none⟩), .slice (some ⟨g, o, none⟩) d.n d.cap] 72)) #[.int .i64 1, .int .i64 m, .string s, .slice nm.a nm.n nm.cap, .slice a n cap] 26
  rw [World.size_alloc] at hxb
  have HIB := Lib.hid (fun (W : World) (hW : Below w.heap.size w W) => isBare_ok w.heap.size W 1 m s nm a n cap ch ((hx.below (Below.refl _ _) hB).below hW (Nat.le_refl _)) hW.size)
  have HRB := Lib.hid (fun (W : World) (hW : Below w.heap.size w W) => (hR.below (Below.refl _ _) hB).below hW (Nat.le_refl _))
  have HDC := Lib.hid (fun (W : World) (hW : Below w.heap.size w W) => (HRB.out W hW).cells (w := W) rfl)
  have HKD := Lib.hid (show ∀ (W : World), Below w.heap.size w W → W.cell? ⟨g, x, none⟩ = some (.int .i64 1) from fun W hW => by have := (HDC.out W hW).1; rw [hk] at this; exact this)
  rw [list5] at HIB ⊢
  rw [hbare] at HIB
  unfold rV
  have HXA := Lib.hid hxa
  have HXB := Lib.hid hxb
  have HB1 := Lib.hid hb1
  clear hb0 hb1 hxa hxb hR hB hx hbare
  go_enter Tryz.func44, Tryz.ntmps44
  go_wp2_with fail
  have HSZ := Lib.hid (show ((w.alloc (.cells #[.pointer (some ⟨g, x, none⟩), .slice (some ⟨g, o, none⟩) d.n d.cap] 72)).alloc (.cells #[.int .i64 1, .int .i64 m, .string s, .slice nm.a nm.n nm.cap, .slice a n cap] 26)).heap.size = w.heap.size + 1 + 1 from by rw [World.size_alloc, World.size_alloc])
  generalize (w.alloc (.cells #[.pointer (some ⟨g, x, none⟩), .slice (some ⟨g, o, none⟩) d.n d.cap] 72)).alloc (.cells #[.int .i64 1, .int .i64 m, .string s, .slice nm.a nm.n nm.cap, .slice a n cap] 26) = W1 at *
  obtain ⟨b, hb⟩ : ∃ b, w.heap.size = b := ⟨_, rfl⟩
  have HBE := Lib.hid hb
  rw [hb] at HXA HXB HSZ ⊢
  clear hb
  have HSZW := Lib.hid (show w.heap.size ≤ b + 1 + 1 from by have := HBE.out; omega)
  have HS := Lib.hid (show ∀ W, Below (b + 1 + 1) W1 W → (W.cell? ⟨b, 0, none⟩ = some (.pointer (some ⟨g, x, none⟩)) ∧ W.cell? ⟨b, 1, none⟩ = some (.slice (some ⟨g, o, none⟩) d.n d.cap) ∧ W.cell? ⟨b + 1, 0, none⟩ = some (.int .i64 1) ∧ W.cell? ⟨b + 1, 1, none⟩ = some (.int .i64 m) ∧ W.cell? ⟨b + 1, 2, none⟩ = some (.string s) ∧ W.cell? ⟨b + 1, 3, none⟩ = some (.slice nm.a nm.n nm.cap) ∧ W.cell? ⟨b + 1, 4, none⟩ = some (.slice a n cap) ∧ W.cell? ⟨g, x, none⟩ = some (.int .i64 1)) from fun W hW => by
    have h1 := HXA.out.below hW (by have := HXA.out.lt; rw [HSZ.out] at this; exact this)
    have h2 := HXB.out.below hW (by have := HXB.out.lt; rw [HSZ.out] at this; exact this)
    have hbw : Below w.heap.size w W := HB1.out.trans (hW.mono HSZW.out)
    exact ⟨h1.cell 0 rfl, h1.cell 1 rfl, h2.cell 0 rfl, h2.cell 1 rfl, h2.cell 2 rfl, h2.cell 3 rfl, h2.cell 4 rfl, HKD.out W hbw⟩)

  have HBX0 := Lib.hid (Below.drew (Below.refl (b + 1 + 1) W1))
  have HS0 := Lib.hid (HS.out _ HBX0.out)
  go_region_held3 (fun W => W.cell? ⟨b, 0, none⟩ = some (.pointer (some ⟨g, x, none⟩)) ∧ W.cell? ⟨b, 1, none⟩ = some (.slice (some ⟨g, o, none⟩) d.n d.cap) ∧ W.cell? ⟨b + 1, 0, none⟩ = some (.int .i64 1) ∧ W.cell? ⟨b + 1, 1, none⟩ = some (.int .i64 m) ∧ W.cell? ⟨b + 1, 2, none⟩ = some (.string s) ∧ W.cell? ⟨b + 1, 3, none⟩ = some (.slice nm.a nm.n nm.cap) ∧ W.cell? ⟨b + 1, 4, none⟩ = some (.slice a n cap) ∧ W.cell? ⟨g, x, none⟩ = some (.int .i64 1)) (first | with_reducible exact HS1.out | with_reducible exact HS0.out) (first
    | (go_at_call 69; (with_reducible refine (HIB.out _ (HB1.out.trans (HBX0.out.mono HSZW.out))).mono ?_); rintro e w3 ⟨rfl, h3⟩; have HBX1 := Lib.hid (HBX0.out.trans (h3.mono (by have h := HBX0.out.size; rw [HSZ.out] at h; exact h))); have HS1 := Lib.hid (HS.out _ HBX1.out); clear h3))

  obtain ⟨c0, c1, c2, c3, c4, c5, c6, c7⟩ := HS1.out
  by_cases h0 : m = 0
  · subst h0
    go_wp2_with fail
    go_ret
    exact ⟨rfl, HB1.out.trans (HBX1.out.mono HSZW.out)⟩
  · have q0 : (m == 0) = false := beq_eq_false_iff_ne.2 h0
    by_cases h1 : m = 1
    · subst h1
      go_wp2_with fail
      go_ret
      exact ⟨rfl, HB1.out.trans (HBX1.out.mono HSZW.out)⟩
    · have q1 : (m == 1) = false := beq_eq_false_iff_ne.2 h1
      have HN := Lib.hid (show (decide (m = 0) || decide (m = 1)) = false from by simp [h0, h1])
      clear h0 h1
      go_wp2_with fail
      go_ret
      exact ⟨by rw [HN.out]; first | rfl | simp | simp [q0, q1], HB1.out.trans (HBX1.out.mono HSZW.out)⟩
set_option maxHeartbeats 16000000 in
theorem has_2 (B : Nat) (w : World) (g x o : Nat) (d : TB) (i : Nat) (m : Int) (s : ByteArray) (nm : SL) (a : Option Addr) (n cap : Nat) (ch : Nat → VT) (hR : RAt B w g x o d i) (hB : B ≤ w.heap.size)
    (hx : VIn B w (.mk 2 m s nm a n cap ch)) (hk : (d.f i).kind = 2) (hbare : bare 2 m s.size nm.n n = true) (hr : rgt (d.f i).set.l) :
    Calls Tryz.prog 44 #[rV g x o d.n d.cap, .agg (VT.mk 2 m s nm a n cap ch).cells.toArray] w fun e w' => e = .returned (.bool ((d.f i).admits m)) ∧ Below w.heap.size w w' := by
  have hb0 := (Below.refl w.heap.size w).alloc (Nat.le_refl _) (.cells #[.pointer (some ⟨g, x, none⟩), .slice (some ⟨g, o, none⟩) d.n d.cap] 72)
  have hb1 := hb0.alloc hb0.size (.cells #[.int .i64 2, .int .i64 m, .string s, .slice nm.a nm.n nm.cap, .slice a n cap] 26)
  have hxa := (Bx.new w #[.pointer (some ⟨g, x, none⟩), .slice (some ⟨g, o, none⟩) d.n d.cap] 72).alloc (.cells #[.int .i64 2, .int .i64 m, .string s, .slice nm.a nm.n nm.cap, .slice a n cap] 26)
  have hxb := Bx.new (w.alloc (.cells #[.pointer (some ⟨g, x, none⟩), .slice (some ⟨g, o, none⟩) d.n d.cap] 72)) #[.int .i64 2, .int .i64 m, .string s, .slice nm.a nm.n nm.cap, .slice a n cap] 26
  rw [World.size_alloc] at hxb
  have HIB := Lib.hid (fun (W : World) (hW : Below w.heap.size w W) => isBare_ok w.heap.size W 2 m s nm a n cap ch ((hx.below (Below.refl _ _) hB).below hW (Nat.le_refl _)) hW.size)
  have HRB := Lib.hid (fun (W : World) (hW : Below w.heap.size w W) => (hR.below (Below.refl _ _) hB).below hW (Nat.le_refl _))
  have HDC := Lib.hid (fun (W : World) (hW : Below w.heap.size w W) => (HRB.out W hW).cells (w := W) rfl)
  have HKD := Lib.hid (show ∀ (W : World), Below w.heap.size w W → W.cell? ⟨g, x, none⟩ = some (.int .i64 2) from fun W hW => by have := (HDC.out W hW).1; rw [hk] at this; exact this)
  have HK := Lib.hid (fun (W : World) (hW : Below w.heap.size w W) => admits_ok w.heap.size W g x o d i m (HRB.out W hW) hW.size hr)
  unfold rV at HK
  rw [list5] at HIB ⊢
  rw [hbare] at HIB
  unfold rV
  have HXA := Lib.hid hxa
  have HXB := Lib.hid hxb
  have HB1 := Lib.hid hb1
  generalize (d.f i).admits m = res at *
  clear hb0 hb1 hxa hxb hR hB hx hbare
  go_enter Tryz.func44, Tryz.ntmps44
  go_wp2_with fail
  have HSZ := Lib.hid (show ((w.alloc (.cells #[.pointer (some ⟨g, x, none⟩), .slice (some ⟨g, o, none⟩) d.n d.cap] 72)).alloc (.cells #[.int .i64 2, .int .i64 m, .string s, .slice nm.a nm.n nm.cap, .slice a n cap] 26)).heap.size = w.heap.size + 1 + 1 from by rw [World.size_alloc, World.size_alloc])
  generalize (w.alloc (.cells #[.pointer (some ⟨g, x, none⟩), .slice (some ⟨g, o, none⟩) d.n d.cap] 72)).alloc (.cells #[.int .i64 2, .int .i64 m, .string s, .slice nm.a nm.n nm.cap, .slice a n cap] 26) = W1 at *
  obtain ⟨b, hb⟩ : ∃ b, w.heap.size = b := ⟨_, rfl⟩
  have HBE := Lib.hid hb
  rw [hb] at HXA HXB HSZ ⊢
  clear hb
  have HSZW := Lib.hid (show w.heap.size ≤ b + 1 + 1 from by have := HBE.out; omega)
  have HS := Lib.hid (show ∀ W, Below (b + 1 + 1) W1 W → (W.cell? ⟨b, 0, none⟩ = some (.pointer (some ⟨g, x, none⟩)) ∧ W.cell? ⟨b, 1, none⟩ = some (.slice (some ⟨g, o, none⟩) d.n d.cap) ∧ W.cell? ⟨b + 1, 0, none⟩ = some (.int .i64 2) ∧ W.cell? ⟨b + 1, 1, none⟩ = some (.int .i64 m) ∧ W.cell? ⟨b + 1, 2, none⟩ = some (.string s) ∧ W.cell? ⟨b + 1, 3, none⟩ = some (.slice nm.a nm.n nm.cap) ∧ W.cell? ⟨b + 1, 4, none⟩ = some (.slice a n cap) ∧ W.cell? ⟨g, x, none⟩ = some (.int .i64 2)) from fun W hW => by
    have h1 := HXA.out.below hW (by have := HXA.out.lt; rw [HSZ.out] at this; exact this)
    have h2 := HXB.out.below hW (by have := HXB.out.lt; rw [HSZ.out] at this; exact this)
    have hbw : Below w.heap.size w W := HB1.out.trans (hW.mono HSZW.out)
    exact ⟨h1.cell 0 rfl, h1.cell 1 rfl, h2.cell 0 rfl, h2.cell 1 rfl, h2.cell 2 rfl, h2.cell 3 rfl, h2.cell 4 rfl, HKD.out W hbw⟩)

  have HBX0 := Lib.hid (Below.drew (Below.refl (b + 1 + 1) W1))
  have HS0 := Lib.hid (HS.out _ HBX0.out)
  go_region_held3 (fun W => W.cell? ⟨b, 0, none⟩ = some (.pointer (some ⟨g, x, none⟩)) ∧ W.cell? ⟨b, 1, none⟩ = some (.slice (some ⟨g, o, none⟩) d.n d.cap) ∧ W.cell? ⟨b + 1, 0, none⟩ = some (.int .i64 2) ∧ W.cell? ⟨b + 1, 1, none⟩ = some (.int .i64 m) ∧ W.cell? ⟨b + 1, 2, none⟩ = some (.string s) ∧ W.cell? ⟨b + 1, 3, none⟩ = some (.slice nm.a nm.n nm.cap) ∧ W.cell? ⟨b + 1, 4, none⟩ = some (.slice a n cap) ∧ W.cell? ⟨g, x, none⟩ = some (.int .i64 2)) (first | with_reducible exact HS1.out | with_reducible exact HS0.out) (first
    | (go_at_call 69; (with_reducible refine (HIB.out _ (HB1.out.trans (HBX0.out.mono HSZW.out))).mono ?_); rintro e w3 ⟨rfl, h3⟩; have HBX1 := Lib.hid (HBX0.out.trans (h3.mono (by have h := HBX0.out.size; rw [HSZ.out] at h; exact h))); have HS1 := Lib.hid (HS.out _ HBX1.out); clear h3))

  obtain ⟨c0, c1, c2, c3, c4, c5, c6, c7⟩ := HS1.out
  have HBW := Lib.hid (HB1.out.trans (HBX1.out.mono HSZW.out))
  go_wp2_with fail
  refine (HK.out _ HBW.out).mono ?_
  rintro e w4 ⟨rfl, h4⟩
  have HB4 := Lib.hid (HBW.out.trans (h4.mono HBW.out.size))
  clear h4 c0 c1 c2 c3 c4 c5 c6 c7
  go_wp2_with fail
  go_ret
  exact ⟨rfl, HB4.out⟩
set_option maxHeartbeats 16000000 in
theorem has_4 (B : Nat) (w : World) (g x o : Nat) (d : TB) (i : Nat) (m : Int) (s : ByteArray) (nm : SL) (a : Option Addr) (n cap : Nat) (ch : Nat → VT) (hR : RAt B w g x o d i) (hB : B ≤ w.heap.size)
    (hx : VIn B w (.mk 4 m s nm a n cap ch)) (hk : (d.f i).kind = 4) (hbare : bare 4 m s.size nm.n n = true) :
    Calls Tryz.prog 44 #[rV g x o d.n d.cap, .agg (VT.mk 4 m s nm a n cap ch).cells.toArray] w fun e w' => e = .returned (.bool true) ∧ Below w.heap.size w w' := by
  have hb0 := (Below.refl w.heap.size w).alloc (Nat.le_refl _) (.cells #[.pointer (some ⟨g, x, none⟩), .slice (some ⟨g, o, none⟩) d.n d.cap] 72)
  have hb1 := hb0.alloc hb0.size (.cells #[.int .i64 4, .int .i64 m, .string s, .slice nm.a nm.n nm.cap, .slice a n cap] 26)
  have hxa := (Bx.new w #[.pointer (some ⟨g, x, none⟩), .slice (some ⟨g, o, none⟩) d.n d.cap] 72).alloc (.cells #[.int .i64 4, .int .i64 m, .string s, .slice nm.a nm.n nm.cap, .slice a n cap] 26)
  have hxb := Bx.new (w.alloc (.cells #[.pointer (some ⟨g, x, none⟩), .slice (some ⟨g, o, none⟩) d.n d.cap] 72)) #[.int .i64 4, .int .i64 m, .string s, .slice nm.a nm.n nm.cap, .slice a n cap] 26
  rw [World.size_alloc] at hxb
  have HIB := Lib.hid (fun (W : World) (hW : Below w.heap.size w W) => isBare_ok w.heap.size W 4 m s nm a n cap ch ((hx.below (Below.refl _ _) hB).below hW (Nat.le_refl _)) hW.size)
  have HRB := Lib.hid (fun (W : World) (hW : Below w.heap.size w W) => (hR.below (Below.refl _ _) hB).below hW (Nat.le_refl _))
  have HDC := Lib.hid (fun (W : World) (hW : Below w.heap.size w W) => (HRB.out W hW).cells (w := W) rfl)
  have HKD := Lib.hid (show ∀ (W : World), Below w.heap.size w W → W.cell? ⟨g, x, none⟩ = some (.int .i64 4) from fun W hW => by have := (HDC.out W hW).1; rw [hk] at this; exact this)
  rw [list5] at HIB ⊢
  rw [hbare] at HIB
  unfold rV
  have HXA := Lib.hid hxa
  have HXB := Lib.hid hxb
  have HB1 := Lib.hid hb1
  clear hb0 hb1 hxa hxb hR hB hx hbare
  go_enter Tryz.func44, Tryz.ntmps44
  go_wp2_with fail
  have HSZ := Lib.hid (show ((w.alloc (.cells #[.pointer (some ⟨g, x, none⟩), .slice (some ⟨g, o, none⟩) d.n d.cap] 72)).alloc (.cells #[.int .i64 4, .int .i64 m, .string s, .slice nm.a nm.n nm.cap, .slice a n cap] 26)).heap.size = w.heap.size + 1 + 1 from by rw [World.size_alloc, World.size_alloc])
  generalize (w.alloc (.cells #[.pointer (some ⟨g, x, none⟩), .slice (some ⟨g, o, none⟩) d.n d.cap] 72)).alloc (.cells #[.int .i64 4, .int .i64 m, .string s, .slice nm.a nm.n nm.cap, .slice a n cap] 26) = W1 at *
  obtain ⟨b, hb⟩ : ∃ b, w.heap.size = b := ⟨_, rfl⟩
  have HBE := Lib.hid hb
  rw [hb] at HXA HXB HSZ ⊢
  clear hb
  have HSZW := Lib.hid (show w.heap.size ≤ b + 1 + 1 from by have := HBE.out; omega)
  have HS := Lib.hid (show ∀ W, Below (b + 1 + 1) W1 W → (W.cell? ⟨b, 0, none⟩ = some (.pointer (some ⟨g, x, none⟩)) ∧ W.cell? ⟨b, 1, none⟩ = some (.slice (some ⟨g, o, none⟩) d.n d.cap) ∧ W.cell? ⟨b + 1, 0, none⟩ = some (.int .i64 4) ∧ W.cell? ⟨b + 1, 1, none⟩ = some (.int .i64 m) ∧ W.cell? ⟨b + 1, 2, none⟩ = some (.string s) ∧ W.cell? ⟨b + 1, 3, none⟩ = some (.slice nm.a nm.n nm.cap) ∧ W.cell? ⟨b + 1, 4, none⟩ = some (.slice a n cap) ∧ W.cell? ⟨g, x, none⟩ = some (.int .i64 4)) from fun W hW => by
    have h1 := HXA.out.below hW (by have := HXA.out.lt; rw [HSZ.out] at this; exact this)
    have h2 := HXB.out.below hW (by have := HXB.out.lt; rw [HSZ.out] at this; exact this)
    have hbw : Below w.heap.size w W := HB1.out.trans (hW.mono HSZW.out)
    exact ⟨h1.cell 0 rfl, h1.cell 1 rfl, h2.cell 0 rfl, h2.cell 1 rfl, h2.cell 2 rfl, h2.cell 3 rfl, h2.cell 4 rfl, HKD.out W hbw⟩)

  have HBX0 := Lib.hid (Below.drew (Below.refl (b + 1 + 1) W1))
  have HS0 := Lib.hid (HS.out _ HBX0.out)
  go_region_held3 (fun W => W.cell? ⟨b, 0, none⟩ = some (.pointer (some ⟨g, x, none⟩)) ∧ W.cell? ⟨b, 1, none⟩ = some (.slice (some ⟨g, o, none⟩) d.n d.cap) ∧ W.cell? ⟨b + 1, 0, none⟩ = some (.int .i64 4) ∧ W.cell? ⟨b + 1, 1, none⟩ = some (.int .i64 m) ∧ W.cell? ⟨b + 1, 2, none⟩ = some (.string s) ∧ W.cell? ⟨b + 1, 3, none⟩ = some (.slice nm.a nm.n nm.cap) ∧ W.cell? ⟨b + 1, 4, none⟩ = some (.slice a n cap) ∧ W.cell? ⟨g, x, none⟩ = some (.int .i64 4)) (first | with_reducible exact HS1.out | with_reducible exact HS0.out) (first
    | (go_at_call 69; (with_reducible refine (HIB.out _ (HB1.out.trans (HBX0.out.mono HSZW.out))).mono ?_); rintro e w3 ⟨rfl, h3⟩; have HBX1 := Lib.hid (HBX0.out.trans (h3.mono (by have h := HBX0.out.size; rw [HSZ.out] at h; exact h))); have HS1 := Lib.hid (HS.out _ HBX1.out); clear h3))

  obtain ⟨c0, c1, c2, c3, c4, c5, c6, c7⟩ := HS1.out
  go_wp2_with fail
  go_ret
  exact ⟨rfl, HB1.out.trans (HBX1.out.mono HSZW.out)⟩
end Go.Proofs.YtjhecpkdpomkmaaGreat
