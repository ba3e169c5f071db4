/-
  A bundle of texts, one behind the other: MbB4.
-/
import Derived.Test.YtjhecpkdpomkmaaGreatQOA
namespace Go.Proofs.YtjhecpkdpomkmaaGreat
open Go.RowKit
set_option linter.unusedVariables false
set_option linter.unusedSimpArgs false
set_option maxRecDepth 100000

set_option maxHeartbeats 16000000 in
theorem has_3 (B : Nat) (w : World) (g x o : Nat) (d : TB) (i : Nat) (m : Int) (s : ByteArray) (nm : SL) (a : Option Addr) (n cap : Nat) (ch : Nat → VT) (hR : RAt B w g x o d i) (hB : B ≤ w.heap.size)
    (hx : VIn B w (.mk 3 m s nm a n cap ch)) (hk : (d.f i).kind = 3) (hbare : bare 3 m s.size nm.n n = true) :
    Calls Tryz.prog 44 #[rV g x o d.n d.cap, .agg (VT.mk 3 m s nm a n cap ch).cells.toArray] w fun e w' => e = .returned (.bool (inL (d.f i).nm s || inL (d.f i).mo s)) ∧ Below w.heap.size w w' := by
  have hb0 := (Below.refl w.heap.size w).alloc (Nat.le_refl _) (.cells #[.pointer (some ⟨g, x, none⟩), .slice (some ⟨g, o, none⟩) d.n d.cap] 72)
  have hb1 := hb0.alloc hb0.size (.cells #[.int .i64 3, .int .i64 m, .string s, .slice nm.a nm.n nm.cap, .slice a n cap] 26)
  have hxa := (Bx.new w #[.pointer (some ⟨g, x, none⟩), .slice (some ⟨g, o, none⟩) d.n d.cap] 72).alloc (.cells #[.int .i64 3, .int .i64 m, .string s, .slice nm.a nm.n nm.cap, .slice a n cap] 26)
  have hxb := Bx.new (w.alloc (.cells #[.pointer (some ⟨g, x, none⟩), .slice (some ⟨g, o, none⟩) d.n d.cap] 72)) #[.int .i64 3, .int .i64 m, .string s, .slice nm.a nm.n nm.cap, .slice a n cap] 26
  rw [World.size_alloc] at hxb
  have HIB := Lib.hid (fun (W : World) (hW : Below w.heap.size w W) => isBare_ok w.heap.size W 3 m s nm a n cap ch ((hx.below (Below.refl _ _) hB).below hW (Nat.le_refl _)) hW.size)
  have HRB := Lib.hid (fun (W : World) (hW : Below w.heap.size w W) => (hR.below (Below.refl _ _) hB).below hW (Nat.le_refl _))
  have HDC := Lib.hid (fun (W : World) (hW : Below w.heap.size w W) => (HRB.out W hW).cells (w := W) rfl)
  have HKD := Lib.hid (show ∀ (W : World), Below w.heap.size w W → W.cell? ⟨g, x, none⟩ = some (.int .i64 3) from fun W hW => by have := (HDC.out W hW).1; rw [hk] at this; exact this)
  have HK1 := Lib.hid (fun (W : World) (hW : Below w.heap.size w W) => containsS_ok w.heap.size W (d.f i).nm s (HRB.out W hW).row.2.2.1)
  have HK2 := Lib.hid (fun (W : World) (hW : Below w.heap.size w W) => containsS_ok w.heap.size W (d.f i).mo s (HRB.out W hW).row.2.2.2.1)
  rw [list5] at HIB ⊢
  rw [hbare] at HIB
  unfold rV
  have HXA := Lib.hid hxa
  have HXB := Lib.hid hxb
  have HB1 := Lib.hid hb1
  generalize hz1 : inL (d.f i).nm s = z1 at *
  generalize hz2 : inL (d.f i).mo s = z2 at *
  clear hz1 hz2
  clear hb0 hb1 hxa hxb hR hB hx hbare
  go_enter Tryz.func44, Tryz.ntmps44
  go_wp2_with fail
  have HSZ := Lib.hid (show ((w.alloc (.cells #[.pointer (some ⟨g, x, none⟩), .slice (some ⟨g, o, none⟩) d.n d.cap] 72)).alloc (.cells #[.int .i64 3, .int .i64 m, .string s, .slice nm.a nm.n nm.cap, .slice a n cap] 26)).heap.size = w.heap.size + 1 + 1 from by rw [World.size_alloc, World.size_alloc])
  generalize (w.alloc (.cells #[.pointer (some ⟨g, x, none⟩), .slice (some ⟨g, o, none⟩) d.n d.cap] 72)).alloc (.cells #[.int .i64 3, .int .i64 m, .string s, .slice nm.a nm.n nm.cap, .slice a n cap] 26) = W1 at *
  obtain ⟨b, hb⟩ : ∃ b, w.heap.size = b := ⟨_, rfl⟩
  have HBE := Lib.hid hb
  rw [hb] at HXA HXB HSZ ⊢
  clear hb
  have HSZW := Lib.hid (show w.heap.size ≤ b + 1 + 1 from by have := HBE.out; omega)
  have HS := Lib.hid (show ∀ W, Below (b + 1 + 1) W1 W → (W.cell? ⟨b, 0, none⟩ = some (.pointer (some ⟨g, x, none⟩)) ∧ W.cell? ⟨b, 1, none⟩ = some (.slice (some ⟨g, o, none⟩) d.n d.cap) ∧ W.cell? ⟨b + 1, 0, none⟩ = some (.int .i64 3) ∧ W.cell? ⟨b + 1, 1, none⟩ = some (.int .i64 m) ∧ W.cell? ⟨b + 1, 2, none⟩ = some (.string s) ∧ W.cell? ⟨b + 1, 3, none⟩ = some (.slice nm.a nm.n nm.cap) ∧ W.cell? ⟨b + 1, 4, none⟩ = some (.slice a n cap) ∧ W.cell? ⟨g, x, none⟩ = some (.int .i64 3) ∧ W.cell? ⟨g, x + 6, none⟩ = some (.slice (d.f i).nm.a (d.f i).nm.n (d.f i).nm.cap) ∧ W.cell? ⟨g, x + 7, none⟩ = some (.slice (d.f i).mo.a (d.f i).mo.n (d.f i).mo.cap)) from fun W hW => by
    have h1 := HXA.out.below hW (by have := HXA.out.lt; rw [HSZ.out] at this; exact this)
    have h2 := HXB.out.below hW (by have := HXB.out.lt; rw [HSZ.out] at this; exact this)
    have hbw : Below w.heap.size w W := HB1.out.trans (hW.mono HSZW.out)
    exact ⟨h1.cell 0 rfl, h1.cell 1 rfl, h2.cell 0 rfl, h2.cell 1 rfl, h2.cell 2 rfl, h2.cell 3 rfl, h2.cell 4 rfl, HKD.out W hbw, (HDC.out W hbw).2.2.2.2.2.2.1, (HDC.out W hbw).2.2.2.2.2.2.2.1⟩)

  have HBX0 := Lib.hid (Below.drew (Below.refl (b + 1 + 1) W1))
  have HS0 := Lib.hid (HS.out _ HBX0.out)
  go_region_held3 (fun W => W.cell? ⟨b, 0, none⟩ = some (.pointer (some ⟨g, x, none⟩)) ∧ W.cell? ⟨b, 1, none⟩ = some (.slice (some ⟨g, o, none⟩) d.n d.cap) ∧ W.cell? ⟨b + 1, 0, none⟩ = some (.int .i64 3) ∧ W.cell? ⟨b + 1, 1, none⟩ = some (.int .i64 m) ∧ W.cell? ⟨b + 1, 2, none⟩ = some (.string s) ∧ W.cell? ⟨b + 1, 3, none⟩ = some (.slice nm.a nm.n nm.cap) ∧ W.cell? ⟨b + 1, 4, none⟩ = some (.slice a n cap) ∧ W.cell? ⟨g, x, none⟩ = some (.int .i64 3) ∧ W.cell? ⟨g, x + 6, none⟩ = some (.slice (d.f i).nm.a (d.f i).nm.n (d.f i).nm.cap) ∧ W.cell? ⟨g, x + 7, none⟩ = some (.slice (d.f i).mo.a (d.f i).mo.n (d.f i).mo.cap)) (first | with_reducible exact HS1.out | with_reducible exact HS0.out) (first
    | (go_at_call 69; (with_reducible refine (HIB.out _ (HB1.out.trans (HBX0.out.mono HSZW.out))).mono ?_); rintro e w3 ⟨rfl, h3⟩; have HBX1 := Lib.hid (HBX0.out.trans (h3.mono (by have h := HBX0.out.size; rw [HSZ.out] at h; exact h))); have HS1 := Lib.hid (HS.out _ HBX1.out); clear h3))

  have HBW := Lib.hid (HB1.out.trans (HBX1.out.mono HSZW.out))
  have HS3 := Lib.hid (show ∀ W, Below (b + 1 + 1) w3 W → (W.cell? ⟨b, 0, none⟩ = some (.pointer (some ⟨g, x, none⟩)) ∧ W.cell? ⟨b, 1, none⟩ = some (.slice (some ⟨g, o, none⟩) d.n d.cap) ∧ W.cell? ⟨b + 1, 0, none⟩ = some (.int .i64 3) ∧ W.cell? ⟨b + 1, 1, none⟩ = some (.int .i64 m) ∧ W.cell? ⟨b + 1, 2, none⟩ = some (.string s) ∧ W.cell? ⟨b + 1, 3, none⟩ = some (.slice nm.a nm.n nm.cap) ∧ W.cell? ⟨b + 1, 4, none⟩ = some (.slice a n cap) ∧ W.cell? ⟨g, x, none⟩ = some (.int .i64 3) ∧ W.cell? ⟨g, x + 6, none⟩ = some (.slice (d.f i).nm.a (d.f i).nm.n (d.f i).nm.cap) ∧ W.cell? ⟨g, x + 7, none⟩ = some (.slice (d.f i).mo.a (d.f i).mo.n (d.f i).mo.cap)) from fun W hW => HS.out W (HBX1.out.trans hW))
  have HSZ3 := Lib.hid (show w.heap.size ≤ b + 1 + 1 from HSZW.out)
  obtain ⟨c0, c1, c2, c3, c4, c5, c6, c7, c8, c9⟩ := HS1.out
  go_wp2_with fail
  have HQ1 := Lib.hid (fun q => HK1.out (w3.drewN q) (below_drewM HBW.out q))
  have HQ2 := Lib.hid (fun q => HK2.out (w3.drewN q) (below_drewM HBW.out q))
  cases z1 with
  | true =>
    go_quiet ((go_at_call 71; first | exact Calls.quiet_of_same (HQ1.out _)))
    go_wp2_with fail
    go_ret
    exact ⟨by simp, below_drewM HBW.out _⟩
  | false =>
    go_quiet ((go_at_call 71; first | exact Calls.quiet_of_same (HQ1.out _) | exact Calls.quiet_of_same (HQ2.out _)))
    go_wp2_with fail
    go_ret
    exact ⟨by simp, below_drewM HBW.out _⟩
set_option maxHeartbeats 16000000 in
theorem has_5 (B : Nat) (w : World) (g x o : Nat) (d : TB) (i : Nat) (m : Int) (s : ByteArray) (nm : SL) (a : Option Addr) (n cap : Nat) (ch : Nat → VT) (hR : RAt B w g x o d i) (hB : B ≤ w.heap.size)
    (hx : VIn B w (.mk 5 m s nm a n cap ch)) (hk : (d.f i).kind = 5) (hbare : bare 5 m s.size nm.n n = true) (hr : rgt (d.f i).set.l) :
    Calls Tryz.prog 44 #[rV g x o d.n d.cap, .agg (VT.mk 5 m s nm a n cap ch).cells.toArray] w fun e w' => e = .returned (.bool ((d.f i).isSize s.size && (d.f i).chars s)) ∧ Below w.heap.size w w' := by
  have hb0 := (Below.refl w.heap.size w).alloc (Nat.le_refl _) (.cells #[.pointer (some ⟨g, x, none⟩), .slice (some ⟨g, o, none⟩) d.n d.cap] 72)
  have hb1 := hb0.alloc hb0.size (.cells #[.int .i64 5, .int .i64 m, .string s, .slice nm.a nm.n nm.cap, .slice a n cap] 26)
  have hxa := (Bx.new w #[.pointer (some ⟨g, x, none⟩), .slice (some ⟨g, o, none⟩) d.n d.cap] 72).alloc (.cells #[.int .i64 5, .int .i64 m, .string s, .slice nm.a nm.n nm.cap, .slice a n cap] 26)
  have hxb := Bx.new (w.alloc (.cells #[.pointer (some ⟨g, x, none⟩), .slice (some ⟨g, o, none⟩) d.n d.cap] 72)) #[.int .i64 5, .int .i64 m, .string s, .slice nm.a nm.n nm.cap, .slice a n cap] 26
  rw [World.size_alloc] at hxb
  have HIB := Lib.hid (fun (W : World) (hW : Below w.heap.size w W) => isBare_ok w.heap.size W 5 m s nm a n cap ch ((hx.below (Below.refl _ _) hB).below hW (Nat.le_refl _)) hW.size)
  have HRB := Lib.hid (fun (W : World) (hW : Below w.heap.size w W) => (hR.below (Below.refl _ _) hB).below hW (Nat.le_refl _))
  have HDC := Lib.hid (fun (W : World) (hW : Below w.heap.size w W) => (HRB.out W hW).cells (w := W) rfl)
  have HKD := Lib.hid (show ∀ (W : World), Below w.heap.size w W → W.cell? ⟨g, x, none⟩ = some (.int .i64 5) from fun W hW => by have := (HDC.out W hW).1; rw [hk] at this; exact this)
  have HK := Lib.hid (fun (W : World) (hW : Below w.heap.size w W) => isSize_ok w.heap.size W g x o d i s.size (HRB.out W hW) hW.size hr)
  have HK2 := Lib.hid (fun (W : World) (hW : Below w.heap.size w W) => hasChrs_ok w.heap.size W g x o d i s (HRB.out W hW) hW.size (by have := hx.1.2.2.1; omega))
  unfold rV at HK HK2
  rw [list5] at HIB ⊢
  rw [hbare] at HIB
  unfold rV
  have HXA := Lib.hid hxa
  have HXB := Lib.hid hxb
  have HB1 := Lib.hid hb1
  generalize hz1 : (d.f i).isSize s.size = z1 at *
  generalize hz2 : (d.f i).chars s = z2 at *
  clear hz1 hz2
  clear hb0 hb1 hxa hxb hR hB hx hbare
  go_enter Tryz.func44, Tryz.ntmps44
  go_wp2_with fail
  have HSZ := Lib.hid (show ((w.alloc (.cells #[.pointer (some ⟨g, x, none⟩), .slice (some ⟨g, o, none⟩) d.n d.cap] 72)).alloc (.cells #[.int .i64 5, .int .i64 m, .string s, .slice nm.a nm.n nm.cap, .slice a n cap] 26)).heap.size = w.heap.size + 1 + 1 from by rw [World.size_alloc, World.size_alloc])
  generalize (w.alloc (.cells #[.pointer (some ⟨g, x, none⟩), .slice (some ⟨g, o, none⟩) d.n d.cap] 72)).alloc (.cells #[.int .i64 5, .int .i64 m, .string s, .slice nm.a nm.n nm.cap, .slice a n cap] 26) = W1 at *
  obtain ⟨b, hb⟩ : ∃ b, w.heap.size = b := ⟨_, rfl⟩
  have HBE := Lib.hid hb
  rw [hb] at HXA HXB HSZ ⊢
  clear hb
  have HSZW := Lib.hid (show w.heap.size ≤ b + 1 + 1 from by have := HBE.out; omega)
  have HS := Lib.hid (show ∀ W, Below (b + 1 + 1) W1 W → (W.cell? ⟨b, 0, none⟩ = some (.pointer (some ⟨g, x, none⟩)) ∧ W.cell? ⟨b, 1, none⟩ = some (.slice (some ⟨g, o, none⟩) d.n d.cap) ∧ W.cell? ⟨b + 1, 0, none⟩ = some (.int .i64 5) ∧ W.cell? ⟨b + 1, 1, none⟩ = some (.int .i64 m) ∧ W.cell? ⟨b + 1, 2, none⟩ = some (.string s) ∧ W.cell? ⟨b + 1, 3, none⟩ = some (.slice nm.a nm.n nm.cap) ∧ W.cell? ⟨b + 1, 4, none⟩ = some (.slice a n cap) ∧ W.cell? ⟨g, x, none⟩ = some (.int .i64 5)) from fun W hW => by
    have h1 := HXA.out.below hW (by have := HXA.out.lt; rw [HSZ.out] at this; exact this)
    have h2 := HXB.out.below hW (by have := HXB.out.lt; rw [HSZ.out] at this; exact this)
    have hbw : Below w.heap.size w W := HB1.out.trans (hW.mono HSZW.out)
    exact ⟨h1.cell 0 rfl, h1.cell 1 rfl, h2.cell 0 rfl, h2.cell 1 rfl, h2.cell 2 rfl, h2.cell 3 rfl, h2.cell 4 rfl, HKD.out W hbw⟩)

  have HBX0 := Lib.hid (Below.drew (Below.refl (b + 1 + 1) W1))
  have HS0 := Lib.hid (HS.out _ HBX0.out)
  go_region_held3 (fun W => W.cell? ⟨b, 0, none⟩ = some (.pointer (some ⟨g, x, none⟩)) ∧ W.cell? ⟨b, 1, none⟩ = some (.slice (some ⟨g, o, none⟩) d.n d.cap) ∧ W.cell? ⟨b + 1, 0, none⟩ = some (.int .i64 5) ∧ W.cell? ⟨b + 1, 1, none⟩ = some (.int .i64 m) ∧ W.cell? ⟨b + 1, 2, none⟩ = some (.string s) ∧ W.cell? ⟨b + 1, 3, none⟩ = some (.slice nm.a nm.n nm.cap) ∧ W.cell? ⟨b + 1, 4, none⟩ = some (.slice a n cap) ∧ W.cell? ⟨g, x, none⟩ = some (.int .i64 5)) (first | with_reducible exact HS1.out | with_reducible exact HS0.out) (first
    | (go_at_call 69; (with_reducible refine (HIB.out _ (HB1.out.trans (HBX0.out.mono HSZW.out))).mono ?_); rintro e w3 ⟨rfl, h3⟩; have HBX1 := Lib.hid (HBX0.out.trans (h3.mono (by have h := HBX0.out.size; rw [HSZ.out] at h; exact h))); have HS1 := Lib.hid (HS.out _ HBX1.out); clear h3))

  obtain ⟨c0, c1, c2, c3, c4, c5, c6, c7⟩ := HS1.out
  have HBW := Lib.hid (HB1.out.trans (HBX1.out.mono HSZW.out))
  cases z1 with
  | true =>
    go_wp2_with fail
    refine (HK.out _ HBW.out).mono ?_
    rintro e w4 ⟨rfl, h4⟩
    have HX4 := Lib.hid (HBX1.out.trans (h4.mono (by have h := HBX1.out.size; rw [HSZ.out] at h; exact h)))
    have HB4 := Lib.hid (HB1.out.trans (HX4.out.mono HSZW.out))
    clear h4 c0 c1 c2 c3 c4 c5 c6 c7
    obtain ⟨c0, c1, c2, c3, c4, c5, c6, c7⟩ := HS.out _ HX4.out
    go_wp2_with fail
    refine (HK2.out _ HB4.out).mono ?_
    rintro e w5 ⟨rfl, h5⟩
    have HB5 := Lib.hid (HB4.out.trans (h5.mono HB4.out.size))
    clear h5 c0 c1 c2 c3 c4 c5 c6 c7
    go_wp2_with fail
    go_ret
    exact ⟨by simp, HB5.out⟩
  | false =>
    go_wp2_with fail
    refine (HK.out _ HBW.out).mono ?_
    rintro e w4 ⟨rfl, h4⟩
    have HB4 := Lib.hid (HBW.out.trans (h4.mono HBW.out.size))
    clear h4 c0 c1 c2 c3 c4 c5 c6 c7
    go_wp2_with fail
    go_ret
    exact ⟨by simp, HB4.out⟩
set_option maxHeartbeats 16000000 in
theorem has_6 (B : Nat) (w : World) (g x o : Nat) (d : TB) (i : Nat) (m : Int) (s : ByteArray) (nm : SL) (a : Option Addr) (n cap : Nat) (ch : Nat → VT) (hR : RAt B w g x o d i) (hB : B ≤ w.heap.size)
    (hx : VIn B w (.mk 6 m s nm a n cap ch)) (hk : (d.f i).kind = 6) (hbare : bare 6 m s.size nm.n n = true) (hr : rgt (d.f i).set.l) :
    Calls Tryz.prog 44 #[rV g x o d.n d.cap, .agg (VT.mk 6 m s nm a n cap ch).cells.toArray] w fun e w' => e = .returned (.bool ((d.f i).isSize s.size && (d.f i).chars s)) ∧ Below w.heap.size w w' := by
  have hb0 := (Below.refl w.heap.size w).alloc (Nat.le_refl _) (.cells #[.pointer (some ⟨g, x, none⟩), .slice (some ⟨g, o, none⟩) d.n d.cap] 72)
  have hb1 := hb0.alloc hb0.size (.cells #[.int .i64 6, .int .i64 m, .string s, .slice nm.a nm.n nm.cap, .slice a n cap] 26)
  have hxa := (Bx.new w #[.pointer (some ⟨g, x, none⟩), .slice (some ⟨g, o, none⟩) d.n d.cap] 72).alloc (.cells #[.int .i64 6, .int .i64 m, .string s, .slice nm.a nm.n nm.cap, .slice a n cap] 26)
  have hxb := Bx.new (w.alloc (.cells #[.pointer (some ⟨g, x, none⟩), .slice (some ⟨g, o, none⟩) d.n d.cap] 72)) #[.int .i64 6, .int .i64 m, .string s, .slice nm.a nm.n nm.cap, .slice a n cap] 26
  rw [World.size_alloc] at hxb
  have HIB := Lib.hid (fun (W : World) (hW : Below w.heap.size w W) => isBare_ok w.heap.size W 6 m s nm a n cap ch ((hx.below (Below.refl _ _) hB).below hW (Nat.le_refl _)) hW.size)
  have HRB := Lib.hid (fun (W : World) (hW : Below w.heap.size w W) => (hR.below (Below.refl _ _) hB).below hW (Nat.le_refl _))
  have HDC := Lib.hid (fun (W : World) (hW : Below w.heap.size w W) => (HRB.out W hW).cells (w := W) rfl)
  have HKD := Lib.hid (show ∀ (W : World), Below w.heap.size w W → W.cell? ⟨g, x, none⟩ = some (.int .i64 6) from fun W hW => by have := (HDC.out W hW).1; rw [hk] at this; exact this)
  have HK := Lib.hid (fun (W : World) (hW : Below w.heap.size w W) => isSize_ok w.heap.size W g x o d i s.size (HRB.out W hW) hW.size hr)
  have HK2 := Lib.hid (fun (W : World) (hW : Below w.heap.size w W) => hasChrs_ok w.heap.size W g x o d i s (HRB.out W hW) hW.size (by have := hx.1.2.2.1; omega))
  unfold rV at HK HK2
  rw [list5] at HIB ⊢
  rw [hbare] at HIB
  unfold rV
  have HXA := Lib.hid hxa
  have HXB := Lib.hid hxb
  have HB1 := Lib.hid hb1
  generalize hz1 : (d.f i).isSize s.size = z1 at *
  generalize hz2 : (d.f i).chars s = z2 at *
  clear hz1 hz2
  clear hb0 hb1 hxa hxb hR hB hx hbare
  go_enter Tryz.func44, Tryz.ntmps44
  go_wp2_with fail
  have HSZ := Lib.hid (show ((w.alloc (.cells #[.pointer (some ⟨g, x, none⟩), .slice (some ⟨g, o, none⟩) d.n d.cap] 72)).alloc (.cells #[.int .i64 6, .int .i64 m, .string s, .slice nm.a nm.n nm.cap, .slice a n cap] 26)).heap.size = w.heap.size + 1 + 1 from by rw [World.size_alloc, World.size_alloc])
  generalize (w.alloc (.cells #[.pointer (some ⟨g, x, none⟩), .slice (some ⟨g, o, none⟩) d.n d.cap] 72)).alloc (.cells #[.int .i64 6, .int .i64 m, .string s, .slice nm.a nm.n nm.cap, .slice a n cap] 26) = W1 at *
  obtain ⟨b, hb⟩ : ∃ b, w.heap.size = b := ⟨_, rfl⟩
  have HBE := Lib.hid hb
  rw [hb] at HXA HXB HSZ ⊢
  clear hb
  have HSZW := Lib.hid (show w.heap.size ≤ b + 1 + 1 from by have := HBE.out; omega)
  have HS := Lib.hid (show ∀ W, Below (b + 1 + 1) W1 W → (W.cell? ⟨b, 0, none⟩ = some (.pointer (some ⟨g, x, none⟩)) ∧ W.cell? ⟨b, 1, none⟩ = some (.slice (some ⟨g, o, none⟩) d.n d.cap) ∧ W.cell? ⟨b + 1, 0, none⟩ = some (.int .i64 6) ∧ W.cell? ⟨b + 1, 1, none⟩ = some (.int .i64 m) ∧ W.cell? ⟨b + 1, 2, none⟩ = some (.string s) ∧ W.cell? ⟨b + 1, 3, none⟩ = some (.slice nm.a nm.n nm.cap) ∧ W.cell? ⟨b + 1, 4, none⟩ = some (.slice a n cap) ∧ W.cell? ⟨g, x, none⟩ = some (.int .i64 6)) from fun W hW => by
    have h1 := HXA.out.below hW (by have := HXA.out.lt; rw [HSZ.out] at this; exact this)
    have h2 := HXB.out.below hW (by have := HXB.out.lt; rw [HSZ.out] at this; exact this)
    have hbw : Below w.heap.size w W := HB1.out.trans (hW.mono HSZW.out)
    exact ⟨h1.cell 0 rfl, h1.cell 1 rfl, h2.cell 0 rfl, h2.cell 1 rfl, h2.cell 2 rfl, h2.cell 3 rfl, h2.cell 4 rfl, HKD.out W hbw⟩)

  have HBX0 := Lib.hid (Below.drew (Below.refl (b + 1 + 1) W1))
  have HS0 := Lib.hid (HS.out _ HBX0.out)
  go_region_held3 (fun W => W.cell? ⟨b, 0, none⟩ = some (.pointer (some ⟨g, x, none⟩)) ∧ W.cell? ⟨b, 1, none⟩ = some (.slice (some ⟨g, o, none⟩) d.n d.cap) ∧ W.cell? ⟨b + 1, 0, none⟩ = some (.int .i64 6) ∧ W.cell? ⟨b + 1, 1, none⟩ = some (.int .i64 m) ∧ W.cell? ⟨b + 1, 2, none⟩ = some (.string s) ∧ W.cell? ⟨b + 1, 3, none⟩ = some (.slice nm.a nm.n nm.cap) ∧ W.cell? ⟨b + 1, 4, none⟩ = some (.slice a n cap) ∧ W.cell? ⟨g, x, none⟩ = some (.int .i64 6)) (first | with_reducible exact HS1.out | with_reducible exact HS0.out) (first
    | (go_at_call 69; (with_reducible refine (HIB.out _ (HB1.out.trans (HBX0.out.mono HSZW.out))).mono ?_); rintro e w3 ⟨rfl, h3⟩; have HBX1 := Lib.hid (HBX0.out.trans (h3.mono (by have h := HBX0.out.size; rw [HSZ.out] at h; exact h))); have HS1 := Lib.hid (HS.out _ HBX1.out); clear h3))

  obtain ⟨c0, c1, c2, c3, c4, c5, c6, c7⟩ := HS1.out
  have HBW := Lib.hid (HB1.out.trans (HBX1.out.mono HSZW.out))
  cases z1 with
  | true =>
    go_wp2_with fail
    refine (HK.out _ HBW.out).mono ?_
    rintro e w4 ⟨rfl, h4⟩
    have HX4 := Lib.hid (HBX1.out.trans (h4.mono (by have h := HBX1.out.size; rw [HSZ.out] at h; exact h)))
    have HB4 := Lib.hid (HB1.out.trans (HX4.out.mono HSZW.out))
    clear h4 c0 c1 c2 c3 c4 c5 c6 c7
    obtain ⟨c0, c1, c2, c3, c4, c5, c6, c7⟩ := HS.out _ HX4.out
    go_wp2_with fail
    refine (HK2.out _ HB4.out).mono ?_
    rintro e w5 ⟨rfl, h5⟩
    have HB5 := Lib.hid (HB4.out.trans (h5.mono HB4.out.size))
    clear h5 c0 c1 c2 c3 c4 c5 c6 c7
    go_wp2_with fail
    go_ret
    exact ⟨by simp, HB5.out⟩
  | false =>
    go_wp2_with fail
    refine (HK.out _ HBW.out).mono ?_
    rintro e w4 ⟨rfl, h4⟩
    have HB4 := Lib.hid (HBW.out.trans (h4.mono HBW.out.size))
    clear h4 c0 c1 c2 c3 c4 c5 c6 c7
    go_wp2_with fail
    go_ret
    exact ⟨by simp, HB4.out⟩
set_option maxHeartbeats 16000000 in
theorem has_7 (B : Nat) (w : World) (g x o : Nat) (d : TB) (i : Nat) (m : Int) (s : ByteArray) (nm : SL) (a : Option Addr) (n cap : Nat) (ch : Nat → VT) (hR : RAt B w g x o d i) (hB : B ≤ w.heap.size)
    (hx : VIn B w (.mk 7 m s nm a n cap ch)) (hk : (d.f i).kind = 7) (hbare : bare 7 m s.size nm.n n = true) (hr : rgt (d.f i).set.l) :
    Calls Tryz.prog 44 #[rV g x o d.n d.cap, .agg (VT.mk 7 m s nm a n cap ch).cells.toArray] w fun e w' => e = .returned (.bool ((d.f i).isSize s.size && (d.f i).chars s)) ∧ Below w.heap.size w w' := by
  have hb0 := (Below.refl w.heap.size w).alloc (Nat.le_refl _) (.cells #[.pointer (some ⟨g, x, none⟩), .slice (some ⟨g, o, none⟩) d.n d.cap] 72)
  have hb1 := hb0.alloc hb0.size (.cells #[.int .i64 7, .int .i64 m, .string s, .slice nm.a nm.n nm.cap, .slice a n cap] 26)
  have hxa := (Bx.new w #[.pointer (some ⟨g, x, none⟩), .slice (some ⟨g, o, none⟩) d.n d.cap] 72).alloc (.cells #[.int .i64 7, .int .i64 m, .string s, .slice nm.a nm.n nm.cap, .slice a n cap] 26)
  have hxb := Bx.new (w.alloc (.cells #[.pointer (some ⟨g, x, none⟩), .slice (some ⟨g, o, none⟩) d.n d.cap] 72)) #[.int .i64 7, .int .i64 m, .string s, .slice nm.a nm.n nm.cap, .slice a n cap] 26
  rw [World.size_alloc] at hxb
  have HIB := Lib.hid (fun (W : World) (hW : Below w.heap.size w W) => isBare_ok w.heap.size W 7 m s nm a n cap ch ((hx.below (Below.refl _ _) hB).below hW (Nat.le_refl _)) hW.size)
  have HRB := Lib.hid (fun (W : World) (hW : Below w.heap.size w W) => (hR.below (Below.refl _ _) hB).below hW (Nat.le_refl _))
  have HDC := Lib.hid (fun (W : World) (hW : Below w.heap.size w W) => (HRB.out W hW).cells (w := W) rfl)
  have HKD := Lib.hid (show ∀ (W : World), Below w.heap.size w W → W.cell? ⟨g, x, none⟩ = some (.int .i64 7) from fun W hW => by have := (HDC.out W hW).1; rw [hk] at this; exact this)
  have HK := Lib.hid (fun (W : World) (hW : Below w.heap.size w W) => isSize_ok w.heap.size W g x o d i s.size (HRB.out W hW) hW.size hr)
  have HK2 := Lib.hid (fun (W : World) (hW : Below w.heap.size w W) => hasChrs_ok w.heap.size W g x o d i s (HRB.out W hW) hW.size (by have := hx.1.2.2.1; omega))
  unfold rV at HK HK2
  rw [list5] at HIB ⊢
  rw [hbare] at HIB
  unfold rV
  have HXA := Lib.hid hxa
  have HXB := Lib.hid hxb
  have HB1 := Lib.hid hb1
  generalize hz1 : (d.f i).isSize s.size = z1 at *
  generalize hz2 : (d.f i).chars s = z2 at *
  clear hz1 hz2
  clear hb0 hb1 hxa hxb hR hB hx hbare
  go_enter Tryz.func44, Tryz.ntmps44
  go_wp2_with fail
  have HSZ := Lib.hid (show ((w.alloc (.cells #[.pointer (some ⟨g, x, none⟩), .slice (some ⟨g, o, none⟩) d.n d.cap] 72)).alloc (.cells #[.int .i64 7, .int .i64 m, .string s, .slice nm.a nm.n nm.cap, .slice a n cap] 26)).heap.size = w.heap.size + 1 + 1 from by rw [World.size_alloc, World.size_alloc])
  generalize (w.alloc (.cells #[.pointer (some ⟨g, x, none⟩), .slice (some ⟨g, o, none⟩) d.n d.cap] 72)).alloc (.cells #[.int .i64 7, .int .i64 m, .string s, .slice nm.a nm.n nm.cap, .slice a n cap] 26) = W1 at *
  obtain ⟨b, hb⟩ : ∃ b, w.heap.size = b := ⟨_, rfl⟩
  have HBE := Lib.hid hb
  rw [hb] at HXA HXB HSZ ⊢
  clear hb
  have HSZW := Lib.hid (show w.heap.size ≤ b + 1 + 1 from by have := HBE.out; omega)
  have HS := Lib.hid (show ∀ W, Below (b + 1 + 1) W1 W → (W.cell? ⟨b, 0, none⟩ = some (.pointer (some ⟨g, x, none⟩)) ∧ W.cell? ⟨b, 1, none⟩ = some (.slice (some ⟨g, o, none⟩) d.n d.cap) ∧ W.cell? ⟨b + 1, 0, none⟩ = some (.int .i64 7) ∧ W.cell? ⟨b + 1, 1, none⟩ = some (.int .i64 m) ∧ W.cell? ⟨b + 1, 2, none⟩ = some (.string s) ∧ W.cell? ⟨b + 1, 3, none⟩ = some (.slice nm.a nm.n nm.cap) ∧ W.cell? ⟨b + 1, 4, none⟩ = some (.slice a n cap) ∧ W.cell? ⟨g, x, none⟩ = some (.int .i64 7)) from fun W hW => by
    have h1 := HXA.out.below hW (by have := HXA.out.lt; rw [HSZ.out] at this; exact this)
    have h2 := HXB.out.below hW (by have := HXB.out.lt; rw [HSZ.out] at this; exact this)
    have hbw : Below w.heap.size w W := HB1.out.trans (hW.mono HSZW.out)
    exact ⟨h1.cell 0 rfl, h1.cell 1 rfl, h2.cell 0 rfl, h2.cell 1 rfl, h2.cell 2 rfl, h2.cell 3 rfl, h2.cell 4 rfl, HKD.out W hbw⟩)

  have HBX0 := Lib.hid (Below.drew (Below.refl (b + 1 + 1) W1))
  have HS0 := Lib.hid (HS.out _ HBX0.out)
  go_region_held3 (fun W => W.cell? ⟨b, 0, none⟩ = some (.pointer (some ⟨g, x, none⟩)) ∧ W.cell? ⟨b, 1, none⟩ = some (.slice (some ⟨g, o, none⟩) d.n d.cap) ∧ W.cell? ⟨b + 1, 0, none⟩ = some (.int .i64 7) ∧ W.cell? ⟨b + 1, 1, none⟩ = some (.int .i64 m) ∧ W.cell? ⟨b + 1, 2, none⟩ = some (.string s) ∧ W.cell? ⟨b + 1, 3, none⟩ = some (.slice nm.a nm.n nm.cap) ∧ W.cell? ⟨b + 1, 4, none⟩ = some (.slice a n cap) ∧ W.cell? ⟨g, x, none⟩ = some (.int .i64 7)) (first | with_reducible exact HS1.out | with_reducible exact HS0.out) (first
    | (go_at_call 69; (with_reducible refine (HIB.out _ (HB1.out.trans (HBX0.out.mono HSZW.out))).mono ?_); rintro e w3 ⟨rfl, h3⟩; have HBX1 := Lib.hid (HBX0.out.trans (h3.mono (by have h := HBX0.out.size; rw [HSZ.out] at h; exact h))); have HS1 := Lib.hid (HS.out _ HBX1.out); clear h3))

  obtain ⟨c0, c1, c2, c3, c4, c5, c6, c7⟩ := HS1.out
  have HBW := Lib.hid (HB1.out.trans (HBX1.out.mono HSZW.out))
  cases z1 with
  | true =>
    go_wp2_with fail
    refine (HK.out _ HBW.out).mono ?_
    rintro e w4 ⟨rfl, h4⟩
    have HX4 := Lib.hid (HBX1.out.trans (h4.mono (by have h := HBX1.out.size; rw [HSZ.out] at h; exact h)))
    have HB4 := Lib.hid (HB1.out.trans (HX4.out.mono HSZW.out))
    clear h4 c0 c1 c2 c3 c4 c5 c6 c7
    obtain ⟨c0, c1, c2, c3, c4, c5, c6, c7⟩ := HS.out _ HX4.out
    go_wp2_with fail
    refine (HK2.out _ HB4.out).mono ?_
    rintro e w5 ⟨rfl, h5⟩
    have HB5 := Lib.hid (HB4.out.trans (h5.mono HB4.out.size))
    clear h5 c0 c1 c2 c3 c4 c5 c6 c7
    go_wp2_with fail
    go_ret
    exact ⟨by simp, HB5.out⟩
  | false =>
    go_wp2_with fail
    refine (HK.out _ HBW.out).mono ?_
    rintro e w4 ⟨rfl, h4⟩
    have HB4 := Lib.hid (HBW.out.trans (h4.mono HBW.out.size))
    clear h4 c0 c1 c2 c3 c4 c5 c6 c7
    go_wp2_with fail
    go_ret
    exact ⟨by simp, HB4.out⟩
end Go.Proofs.YtjhecpkdpomkmaaGreat
