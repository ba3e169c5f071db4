/-
  A bundle of texts, one behind the other: MbB5.
-/
import Derived.Test.YtjhecpkdpomkmaaGreatQP
namespace Go.Proofs.YtjhecpkdpomkmaaGreat
open Go.RowKit
set_option linter.unusedVariables false
set_option linter.unusedSimpArgs false
set_option maxRecDepth 100000

set_option maxHeartbeats 16000000 in
theorem has_10k (B : Nat) (w : World) (g x o : Nat) (d : TB) (i : Nat) (m : Int) (s : ByteArray) (nm : SL) (a : Option Addr) (n cap : Nat) (ch : Nat → VT) (hR : RAt B w g x o d i) (hB : B ≤ w.heap.size)
    (hx : VIn B w (.mk 10 m s nm a n cap ch)) (hk : (d.f i).kind = 10) (hbare : bare 10 m s.size nm.n n = true) (hrow : RightRow (d.f i) d.n)
    (hrec : ∀ j, j < n → ∀ t, t < d.n → ∀ W, Below w.heap.size w W → Calls Tryz.prog 44 #[rV g (o + t * 12) o d.n d.cap, .agg (ch j).cells.toArray] W fun e w' => e = .returned (.bool ((ch j).has d t)) ∧ Below W.heap.size W w') :
    Calls Tryz.prog 44 #[rV g x o d.n d.cap, .agg (VT.mk 10 m s nm a n cap ch).cells.toArray] w fun e w' => e = .returned (.bool (hasAltB d i s n ch)) ∧ Below w.heap.size w w' := by
  have hb0 := (Below.refl w.heap.size w).alloc (Nat.le_refl _) (.cells #[.pointer (some ⟨g, x, none⟩), .slice (some ⟨g, o, none⟩) d.n d.cap] 72)
  have hb1 := hb0.alloc hb0.size (.cells #[.int .i64 10, .int .i64 m, .string s, .slice nm.a nm.n nm.cap, .slice a n cap] 26)
  have hxa := (Bx.new w #[.pointer (some ⟨g, x, none⟩), .slice (some ⟨g, o, none⟩) d.n d.cap] 72).alloc (.cells #[.int .i64 10, .int .i64 m, .string s, .slice nm.a nm.n nm.cap, .slice a n cap] 26)
  have hxb := Bx.new (w.alloc (.cells #[.pointer (some ⟨g, x, none⟩), .slice (some ⟨g, o, none⟩) d.n d.cap] 72)) #[.int .i64 10, .int .i64 m, .string s, .slice nm.a nm.n nm.cap, .slice a n cap] 26
  rw [World.size_alloc] at hxb
  have HIB := Lib.hid (fun (W : World) (hW : Below w.heap.size w W) => isBare_ok w.heap.size W 10 m s nm a n cap ch ((hx.below (Below.refl _ _) hB).below hW (Nat.le_refl _)) hW.size)
  have HRB := Lib.hid (fun (W : World) (hW : Below w.heap.size w W) => (hR.below (Below.refl _ _) hB).below hW (Nat.le_refl _))
  have HDC := Lib.hid (fun (W : World) (hW : Below w.heap.size w W) => (HRB.out W hW).cells (w := W) rfl)
  have HKD := Lib.hid (show ∀ (W : World), Below w.heap.size w W → W.cell? ⟨g, x, none⟩ = some (.int .i64 10) from fun W hW => by have := (HDC.out W hW).1; rw [hk] at this; exact this)
  have HK := Lib.hid (fun (W : World) (hW : Below w.heap.size w W) => hasAlt_ok w.heap.size W g x o d i 10 m s nm a n cap ch (HRB.out W hW) hW.size hrow ((hx.below (Below.refl _ _) hB).below hW (Nat.le_refl _)) (fun h0 t ht W' hW' => hrec 0 h0 t ht W' (hW.trans (hW'.mono hW.size))))
  unfold rV at HK
  rw [list5] at HK
  rw [list5] at HIB ⊢
  rw [hbare] at HIB
  unfold rV
  have HXA := Lib.hid hxa
  have HXB := Lib.hid hxb
  have HB1 := Lib.hid hb1
  generalize hasAltB d i s n ch = res at *
  clear hrec hrow
  clear hb0 hb1 hxa hxb hR hB hx hbare
  go_enter Tryz.func44, Tryz.ntmps44
  go_wp2_with fail
  have HSZ := Lib.hid (show ((w.alloc (.cells #[.pointer (some ⟨g, x, none⟩), .slice (some ⟨g, o, none⟩) d.n d.cap] 72)).alloc (.cells #[.int .i64 10, .int .i64 m, .string s, .slice nm.a nm.n nm.cap, .slice a n cap] 26)).heap.size = w.heap.size + 1 + 1 from by rw [World.size_alloc, World.size_alloc])
  generalize (w.alloc (.cells #[.pointer (some ⟨g, x, none⟩), .slice (some ⟨g, o, none⟩) d.n d.cap] 72)).alloc (.cells #[.int .i64 10, .int .i64 m, .string s, .slice nm.a nm.n nm.cap, .slice a n cap] 26) = W1 at *
  obtain ⟨b, hb⟩ : ∃ b, w.heap.size = b := ⟨_, rfl⟩
  have HBE := Lib.hid hb
  rw [hb] at HXA HXB HSZ ⊢
  clear hb
  have HSZW := Lib.hid (show w.heap.size ≤ b + 1 + 1 from by have := HBE.out; omega)
  have HS := Lib.hid (show ∀ W, Below (b + 1 + 1) W1 W → (W.cell? ⟨b, 0, none⟩ = some (.pointer (some ⟨g, x, none⟩)) ∧ W.cell? ⟨b, 1, none⟩ = some (.slice (some ⟨g, o, none⟩) d.n d.cap) ∧ W.cell? ⟨b + 1, 0, none⟩ = some (.int .i64 10) ∧ W.cell? ⟨b + 1, 1, none⟩ = some (.int .i64 m) ∧ W.cell? ⟨b + 1, 2, none⟩ = some (.string s) ∧ W.cell? ⟨b + 1, 3, none⟩ = some (.slice nm.a nm.n nm.cap) ∧ W.cell? ⟨b + 1, 4, none⟩ = some (.slice a n cap) ∧ W.cell? ⟨g, x, none⟩ = some (.int .i64 10)) from fun W hW => by
    have h1 := HXA.out.below hW (by have := HXA.out.lt; rw [HSZ.out] at this; exact this)
    have h2 := HXB.out.below hW (by have := HXB.out.lt; rw [HSZ.out] at this; exact this)
    have hbw : Below w.heap.size w W := HB1.out.trans (hW.mono HSZW.out)
    exact ⟨h1.cell 0 rfl, h1.cell 1 rfl, h2.cell 0 rfl, h2.cell 1 rfl, h2.cell 2 rfl, h2.cell 3 rfl, h2.cell 4 rfl, HKD.out W hbw⟩)

  have HBX0 := Lib.hid (Below.drew (Below.refl (b + 1 + 1) W1))
  have HS0 := Lib.hid (HS.out _ HBX0.out)
  go_region_held3 (fun W => W.cell? ⟨b, 0, none⟩ = some (.pointer (some ⟨g, x, none⟩)) ∧ W.cell? ⟨b, 1, none⟩ = some (.slice (some ⟨g, o, none⟩) d.n d.cap) ∧ W.cell? ⟨b + 1, 0, none⟩ = some (.int .i64 10) ∧ W.cell? ⟨b + 1, 1, none⟩ = some (.int .i64 m) ∧ W.cell? ⟨b + 1, 2, none⟩ = some (.string s) ∧ W.cell? ⟨b + 1, 3, none⟩ = some (.slice nm.a nm.n nm.cap) ∧ W.cell? ⟨b + 1, 4, none⟩ = some (.slice a n cap) ∧ W.cell? ⟨g, x, none⟩ = some (.int .i64 10)) (first | with_reducible exact HS1.out | with_reducible exact HS0.out) (first
    | (go_at_call 69; (with_reducible refine (HIB.out _ (HB1.out.trans (HBX0.out.mono HSZW.out))).mono ?_); rintro e w3 ⟨rfl, h3⟩; have HBX1 := Lib.hid (HBX0.out.trans (h3.mono (by have h := HBX0.out.size; rw [HSZ.out] at h; exact h))); have HS1 := Lib.hid (HS.out _ HBX1.out); clear h3))

  obtain ⟨c0, c1, c2, c3, c4, c5, c6, c7⟩ := HS1.out
  have HBW := Lib.hid (HB1.out.trans (HBX1.out.mono HSZW.out))
  go_wp2_with fail
  refine (HK.out _ HBW.out).mono ?_
  rintro e w4 ⟨rfl, h4⟩
  have HB4 := Lib.hid (HBW.out.trans (h4.mono HBW.out.size))
  clear h4 c0 c1 c2 c3 c4 c5 c6 c7
  go_wp2_with fail
  go_ret
  exact ⟨rfl, HB4.out⟩
set_option maxHeartbeats 16000000 in
theorem has_8k (B : Nat) (w : World) (g x o : Nat) (d : TB) (i : Nat) (m : Int) (s : ByteArray) (nm : SL) (a : Option Addr) (n cap : Nat) (ch : Nat → VT) (hR : RAt B w g x o d i) (hB : B ≤ w.heap.size)
    (hx : VIn B w (.mk 8 m s nm a n cap ch)) (hk : (d.f i).kind = 8) (hbare : bare 8 m s.size nm.n n = true) (hrow : RightRow (d.f i) d.n)
    (hrec : ∀ j, j < n → ∀ t, t < d.n → ∀ W, Below w.heap.size w W → Calls Tryz.prog 44 #[rV g (o + t * 12) o d.n d.cap, .agg (ch j).cells.toArray] W fun e w' => e = .returned (.bool ((ch j).has d t)) ∧ Below W.heap.size W w') :
    Calls Tryz.prog 44 #[rV g x o d.n d.cap, .agg (VT.mk 8 m s nm a n cap ch).cells.toArray] w fun e w' => e = .returned (.bool (hasPtB d i nm n ch)) ∧ Below w.heap.size w w' := by
  have hb0 := (Below.refl w.heap.size w).alloc (Nat.le_refl _) (.cells #[.pointer (some ⟨g, x, none⟩), .slice (some ⟨g, o, none⟩) d.n d.cap] 72)
  have hb1 := hb0.alloc hb0.size (.cells #[.int .i64 8, .int .i64 m, .string s, .slice nm.a nm.n nm.cap, .slice a n cap] 26)
  have hxa := (Bx.new w #[.pointer (some ⟨g, x, none⟩), .slice (some ⟨g, o, none⟩) d.n d.cap] 72).alloc (.cells #[.int .i64 8, .int .i64 m, .string s, .slice nm.a nm.n nm.cap, .slice a n cap] 26)
  have hxb := Bx.new (w.alloc (.cells #[.pointer (some ⟨g, x, none⟩), .slice (some ⟨g, o, none⟩) d.n d.cap] 72)) #[.int .i64 8, .int .i64 m, .string s, .slice nm.a nm.n nm.cap, .slice a n cap] 26
  rw [World.size_alloc] at hxb
  have HIB := Lib.hid (fun (W : World) (hW : Below w.heap.size w W) => isBare_ok w.heap.size W 8 m s nm a n cap ch ((hx.below (Below.refl _ _) hB).below hW (Nat.le_refl _)) hW.size)
  have HRB := Lib.hid (fun (W : World) (hW : Below w.heap.size w W) => (hR.below (Below.refl _ _) hB).below hW (Nat.le_refl _))
  have HDC := Lib.hid (fun (W : World) (hW : Below w.heap.size w W) => (HRB.out W hW).cells (w := W) rfl)
  have HKD := Lib.hid (show ∀ (W : World), Below w.heap.size w W → W.cell? ⟨g, x, none⟩ = some (.int .i64 8) from fun W hW => by have := (HDC.out W hW).1; rw [hk] at this; exact this)
  have HK := Lib.hid (fun (W : World) (hW : Below w.heap.size w W) => hasParts_ok w.heap.size W g x o d i 8 m s nm a n cap ch (HRB.out W hW) hW.size hrow ((hx.below (Below.refl _ _) hB).below hW (Nat.le_refl _)) (fun j hj t ht W' hW' => hrec j hj t ht W' (hW.trans (hW'.mono hW.size))))
  unfold rV at HK
  rw [list5] at HK
  rw [list5] at HIB ⊢
  rw [hbare] at HIB
  unfold rV
  have HXA := Lib.hid hxa
  have HXB := Lib.hid hxb
  have HB1 := Lib.hid hb1
  generalize hasPtB d i nm n ch = res at *
  clear hrec hrow
  clear hb0 hb1 hxa hxb hR hB hx hbare
  go_enter Tryz.func44, Tryz.ntmps44
  go_wp2_with fail
  have HSZ := Lib.hid (show ((w.alloc (.cells #[.pointer (some ⟨g, x, none⟩), .slice (some ⟨g, o, none⟩) d.n d.cap] 72)).alloc (.cells #[.int .i64 8, .int .i64 m, .string s, .slice nm.a nm.n nm.cap, .slice a n cap] 26)).heap.size = w.heap.size + 1 + 1 from by rw [World.size_alloc, World.size_alloc])
  generalize (w.alloc (.cells #[.pointer (some ⟨g, x, none⟩), .slice (some ⟨g, o, none⟩) d.n d.cap] 72)).alloc (.cells #[.int .i64 8, .int .i64 m, .string s, .slice nm.a nm.n nm.cap, .slice a n cap] 26) = W1 at *
  obtain ⟨b, hb⟩ : ∃ b, w.heap.size = b := ⟨_, rfl⟩
  have HBE := Lib.hid hb
  rw [hb] at HXA HXB HSZ ⊢
  clear hb
  have HSZW := Lib.hid (show w.heap.size ≤ b + 1 + 1 from by have := HBE.out; omega)
  have HS := Lib.hid (show ∀ W, Below (b + 1 + 1) W1 W → (W.cell? ⟨b, 0, none⟩ = some (.pointer (some ⟨g, x, none⟩)) ∧ W.cell? ⟨b, 1, none⟩ = some (.slice (some ⟨g, o, none⟩) d.n d.cap) ∧ W.cell? ⟨b + 1, 0, none⟩ = some (.int .i64 8) ∧ W.cell? ⟨b + 1, 1, none⟩ = some (.int .i64 m) ∧ W.cell? ⟨b + 1, 2, none⟩ = some (.string s) ∧ W.cell? ⟨b + 1, 3, none⟩ = some (.slice nm.a nm.n nm.cap) ∧ W.cell? ⟨b + 1, 4, none⟩ = some (.slice a n cap) ∧ W.cell? ⟨g, x, none⟩ = some (.int .i64 8)) from fun W hW => by
    have h1 := HXA.out.below hW (by have := HXA.out.lt; rw [HSZ.out] at this; exact this)
    have h2 := HXB.out.below hW (by have := HXB.out.lt; rw [HSZ.out] at this; exact this)
    have hbw : Below w.heap.size w W := HB1.out.trans (hW.mono HSZW.out)
    exact ⟨h1.cell 0 rfl, h1.cell 1 rfl, h2.cell 0 rfl, h2.cell 1 rfl, h2.cell 2 rfl, h2.cell 3 rfl, h2.cell 4 rfl, HKD.out W hbw⟩)

  have HBX0 := Lib.hid (Below.drew (Below.refl (b + 1 + 1) W1))
  have HS0 := Lib.hid (HS.out _ HBX0.out)
  go_region_held3 (fun W => W.cell? ⟨b, 0, none⟩ = some (.pointer (some ⟨g, x, none⟩)) ∧ W.cell? ⟨b, 1, none⟩ = some (.slice (some ⟨g, o, none⟩) d.n d.cap) ∧ W.cell? ⟨b + 1, 0, none⟩ = some (.int .i64 8) ∧ W.cell? ⟨b + 1, 1, none⟩ = some (.int .i64 m) ∧ W.cell? ⟨b + 1, 2, none⟩ = some (.string s) ∧ W.cell? ⟨b + 1, 3, none⟩ = some (.slice nm.a nm.n nm.cap) ∧ W.cell? ⟨b + 1, 4, none⟩ = some (.slice a n cap) ∧ W.cell? ⟨g, x, none⟩ = some (.int .i64 8)) (first | with_reducible exact HS1.out | with_reducible exact HS0.out) (first
    | (go_at_call 69; (with_reducible refine (HIB.out _ (HB1.out.trans (HBX0.out.mono HSZW.out))).mono ?_); rintro e w3 ⟨rfl, h3⟩; have HBX1 := Lib.hid (HBX0.out.trans (h3.mono (by have h := HBX0.out.size; rw [HSZ.out] at h; exact h))); have HS1 := Lib.hid (HS.out _ HBX1.out); clear h3))

  obtain ⟨c0, c1, c2, c3, c4, c5, c6, c7⟩ := HS1.out
  have HBW := Lib.hid (HB1.out.trans (HBX1.out.mono HSZW.out))
  go_wp2_with fail
  refine (HK.out _ HBW.out).mono ?_
  rintro e w4 ⟨rfl, h4⟩
  have HB4 := Lib.hid (HBW.out.trans (h4.mono HBW.out.size))
  clear h4 c0 c1 c2 c3 c4 c5 c6 c7
  go_wp2_with fail
  go_ret
  exact ⟨rfl, HB4.out⟩
set_option maxHeartbeats 16000000 in
theorem has_9k (B : Nat) (w : World) (g x o : Nat) (d : TB) (i : Nat) (m : Int) (s : ByteArray) (nm : SL) (a : Option Addr) (n cap : Nat) (ch : Nat → VT) (hR : RAt B w g x o d i) (hB : B ≤ w.heap.size)
    (hx : VIn B w (.mk 9 m s nm a n cap ch)) (hk : (d.f i).kind = 9) (hbare : bare 9 m s.size nm.n n = true) (hrow : RightRow (d.f i) d.n)
    (hrec : ∀ j, j < n → ∀ t, t < d.n → ∀ W, Below w.heap.size w W → Calls Tryz.prog 44 #[rV g (o + t * 12) o d.n d.cap, .agg (ch j).cells.toArray] W fun e w' => e = .returned (.bool ((ch j).has d t)) ∧ Below W.heap.size W w') :
    Calls Tryz.prog 44 #[rV g x o d.n d.cap, .agg (VT.mk 9 m s nm a n cap ch).cells.toArray] w fun e w' => e = .returned (.bool ((d.f i).isSize n && allN (fun j => (ch j).has d (d.f i).elem.toNat) n)) ∧ Below w.heap.size w w' := by
  have helt := hrow.elem_t hk
  obtain ⟨t, hte⟩ : ∃ t : Nat, (d.f i).elem.toNat = t := ⟨_, rfl⟩
  have htd : t < d.n := by rw [← hte]; exact helt.2
  have hel : (d.f i).elem = (t : Int) := by omega
  rw [hte]

  have hb0 := (Below.refl w.heap.size w).alloc (Nat.le_refl _) (.cells #[.pointer (some ⟨g, x, none⟩), .slice (some ⟨g, o, none⟩) d.n d.cap] 72)
  have hb1 := hb0.alloc hb0.size (.cells #[.int .i64 9, .int .i64 m, .string s, .slice nm.a nm.n nm.cap, .slice a n cap] 26)
  have hxa := (Bx.new w #[.pointer (some ⟨g, x, none⟩), .slice (some ⟨g, o, none⟩) d.n d.cap] 72).alloc (.cells #[.int .i64 9, .int .i64 m, .string s, .slice nm.a nm.n nm.cap, .slice a n cap] 26)
  have hxb := Bx.new (w.alloc (.cells #[.pointer (some ⟨g, x, none⟩), .slice (some ⟨g, o, none⟩) d.n d.cap] 72)) #[.int .i64 9, .int .i64 m, .string s, .slice nm.a nm.n nm.cap, .slice a n cap] 26
  rw [World.size_alloc] at hxb
  have HIB := Lib.hid (fun (W : World) (hW : Below w.heap.size w W) => isBare_ok w.heap.size W 9 m s nm a n cap ch ((hx.below (Below.refl _ _) hB).below hW (Nat.le_refl _)) hW.size)
  have HRB := Lib.hid (fun (W : World) (hW : Below w.heap.size w W) => (hR.below (Below.refl _ _) hB).below hW (Nat.le_refl _))
  have HDC := Lib.hid (fun (W : World) (hW : Below w.heap.size w W) => (HRB.out W hW).cells (w := W) rfl)
  have HKD := Lib.hid (show ∀ (W : World), Below w.heap.size w W → W.cell? ⟨g, x, none⟩ = some (.int .i64 9) from fun W hW => by have := (HDC.out W hW).1; rw [hk] at this; exact this)
  have HK := Lib.hid (fun (W : World) (hW : Below w.heap.size w W) => isSize_ok w.heap.size W g x o d i n (HRB.out W hW) hW.size hrow.rgt)
  have HK2 := Lib.hid (fun (W : World) (hW : Below w.heap.size w W) => elem_ok w.heap.size W g x o d i t (HRB.out W hW) hW.size hel htd)
  have HK3 := Lib.hid (fun (W : World) (hW : Below w.heap.size w W) => everyV_ok w.heap.size W a n cap ch 44 #[rV g (o + t * 12) o d.n d.cap] #[] (fun j => (ch j).has d t) (enters_of Tryz.func44 (by kernel_rfl) rfl) hW.size (((hx.below (Below.refl _ _) hB).below hW (Nat.le_refl _)).2.1) (((hx.below (Below.refl _ _) hB).below hW (Nat.le_refl _)).2.2) (fun j hj W' hW' => hrec j hj t htd W' (hW.trans (hW'.mono hW.size))))
  unfold rV at HK HK2 HK3
  have hmf : ∀ (fn : Fn) (first cap : Array Value) (w : World), (Instr.makeFunc fn first cap).run Tryz.prog w = .ok (.func fn first cap) w := fun _ _ _ _ => rfl
  rw [list5] at HIB ⊢
  rw [hbare] at HIB
  unfold rV
  have HXA := Lib.hid hxa
  have HXB := Lib.hid hxb
  have HB1 := Lib.hid hb1
  generalize hz1 : (d.f i).isSize n = z1 at *
  generalize hz2 : allN (fun j => (ch j).has d t) n = z2 at *
  clear hz1 hz2 hrec hrow helt hel htd hte
  clear hb0 hb1 hxa hxb hR hB hx hbare
  go_enter Tryz.func44, Tryz.ntmps44
  go_wp2_with fail
  have HSZ := Lib.hid (show ((w.alloc (.cells #[.pointer (some ⟨g, x, none⟩), .slice (some ⟨g, o, none⟩) d.n d.cap] 72)).alloc (.cells #[.int .i64 9, .int .i64 m, .string s, .slice nm.a nm.n nm.cap, .slice a n cap] 26)).heap.size = w.heap.size + 1 + 1 from by rw [World.size_alloc, World.size_alloc])
  generalize (w.alloc (.cells #[.pointer (some ⟨g, x, none⟩), .slice (some ⟨g, o, none⟩) d.n d.cap] 72)).alloc (.cells #[.int .i64 9, .int .i64 m, .string s, .slice nm.a nm.n nm.cap, .slice a n cap] 26) = W1 at *
  obtain ⟨b, hb⟩ : ∃ b, w.heap.size = b := ⟨_, rfl⟩
  have HBE := Lib.hid hb
  rw [hb] at HXA HXB HSZ ⊢
  clear hb
  have HSZW := Lib.hid (show w.heap.size ≤ b + 1 + 1 from by have := HBE.out; omega)
  have HS := Lib.hid (show ∀ W, Below (b + 1 + 1) W1 W → (W.cell? ⟨b, 0, none⟩ = some (.pointer (some ⟨g, x, none⟩)) ∧ W.cell? ⟨b, 1, none⟩ = some (.slice (some ⟨g, o, none⟩) d.n d.cap) ∧ W.cell? ⟨b + 1, 0, none⟩ = some (.int .i64 9) ∧ W.cell? ⟨b + 1, 1, none⟩ = some (.int .i64 m) ∧ W.cell? ⟨b + 1, 2, none⟩ = some (.string s) ∧ W.cell? ⟨b + 1, 3, none⟩ = some (.slice nm.a nm.n nm.cap) ∧ W.cell? ⟨b + 1, 4, none⟩ = some (.slice a n cap) ∧ W.cell? ⟨g, x, none⟩ = some (.int .i64 9)) from fun W hW => by
    have h1 := HXA.out.below hW (by have := HXA.out.lt; rw [HSZ.out] at this; exact this)
    have h2 := HXB.out.below hW (by have := HXB.out.lt; rw [HSZ.out] at this; exact this)
    have hbw : Below w.heap.size w W := HB1.out.trans (hW.mono HSZW.out)
    exact ⟨h1.cell 0 rfl, h1.cell 1 rfl, h2.cell 0 rfl, h2.cell 1 rfl, h2.cell 2 rfl, h2.cell 3 rfl, h2.cell 4 rfl, HKD.out W hbw⟩)

  have HBX0 := Lib.hid (Below.drew (Below.refl (b + 1 + 1) W1))
  have HS0 := Lib.hid (HS.out _ HBX0.out)
  go_region_held3 (fun W => W.cell? ⟨b, 0, none⟩ = some (.pointer (some ⟨g, x, none⟩)) ∧ W.cell? ⟨b, 1, none⟩ = some (.slice (some ⟨g, o, none⟩) d.n d.cap) ∧ W.cell? ⟨b + 1, 0, none⟩ = some (.int .i64 9) ∧ W.cell? ⟨b + 1, 1, none⟩ = some (.int .i64 m) ∧ W.cell? ⟨b + 1, 2, none⟩ = some (.string s) ∧ W.cell? ⟨b + 1, 3, none⟩ = some (.slice nm.a nm.n nm.cap) ∧ W.cell? ⟨b + 1, 4, none⟩ = some (.slice a n cap) ∧ W.cell? ⟨g, x, none⟩ = some (.int .i64 9)) (first | with_reducible exact HS1.out | with_reducible exact HS0.out) (first
    | (go_at_call 69; (with_reducible refine (HIB.out _ (HB1.out.trans (HBX0.out.mono HSZW.out))).mono ?_); rintro e w3 ⟨rfl, h3⟩; have HBX1 := Lib.hid (HBX0.out.trans (h3.mono (by have h := HBX0.out.size; rw [HSZ.out] at h; exact h))); have HS1 := Lib.hid (HS.out _ HBX1.out); clear h3))

  have HBW := Lib.hid (HB1.out.trans (HBX1.out.mono HSZW.out))
  have HS3 := Lib.hid (show ∀ W, Below (b + 1 + 1) w3 W → (W.cell? ⟨b, 0, none⟩ = some (.pointer (some ⟨g, x, none⟩)) ∧ W.cell? ⟨b, 1, none⟩ = some (.slice (some ⟨g, o, none⟩) d.n d.cap) ∧ W.cell? ⟨b + 1, 0, none⟩ = some (.int .i64 9) ∧ W.cell? ⟨b + 1, 1, none⟩ = some (.int .i64 m) ∧ W.cell? ⟨b + 1, 2, none⟩ = some (.string s) ∧ W.cell? ⟨b + 1, 3, none⟩ = some (.slice nm.a nm.n nm.cap) ∧ W.cell? ⟨b + 1, 4, none⟩ = some (.slice a n cap) ∧ W.cell? ⟨g, x, none⟩ = some (.int .i64 9)) from fun W hW => HS.out W (HBX1.out.trans hW))
  have HSZ3 := Lib.hid (show b + 1 + 1 ≤ w3.heap.size from by have h := HBX1.out.size; rw [HSZ.out] at h; exact h)
  obtain ⟨c0, c1, c2, c3, c4, c5, c6, c7⟩ := HS1.out
  go_wp2_with fail
  clear HS0 HS1 HBX0
  have HBY0 := Lib.hid (Below.drew (Below.refl (b + 1 + 1) w3))
  have HS0 := Lib.hid (HS3.out _ HBY0.out)
  cases z1 with
  | false =>
    (first
      | (go_region_with (go_at_call 72; (refine (HK.out _ (HBW.out.trans (HBY0.out.mono HSZW.out))).mono ?_); rintro e w4 ⟨rfl, h4⟩; have HBY1 := Lib.hid (HBY0.out.trans (h4.mono (Nat.le_trans HSZ3.out HBY0.out.size))); clear h4))
      | fail)
    all_goals (go_wp2_with fail; go_ret; exact ⟨by first | rfl | simp, HBW.out.trans (HBY1.out.mono HSZW.out)⟩)
  | true =>
    go_region_held3 (fun W => W.cell? ⟨b, 0, none⟩ = some (.pointer (some ⟨g, x, none⟩)) ∧ W.cell? ⟨b, 1, none⟩ = some (.slice (some ⟨g, o, none⟩) d.n d.cap) ∧ W.cell? ⟨b + 1, 0, none⟩ = some (.int .i64 9) ∧ W.cell? ⟨b + 1, 1, none⟩ = some (.int .i64 m) ∧ W.cell? ⟨b + 1, 2, none⟩ = some (.string s) ∧ W.cell? ⟨b + 1, 3, none⟩ = some (.slice nm.a nm.n nm.cap) ∧ W.cell? ⟨b + 1, 4, none⟩ = some (.slice a n cap) ∧ W.cell? ⟨g, x, none⟩ = some (.int .i64 9)) (first | with_reducible exact HS3'.out | with_reducible exact HS2.out | with_reducible exact HS1.out | with_reducible exact HS0.out) (first
      | (go_at_call 72; (with_reducible refine (HK.out _ (HBW.out.trans (HBY0.out.mono HSZW.out))).mono ?_); rintro e w4 ⟨rfl, h4⟩; have HBY1 := Lib.hid (HBY0.out.trans (h4.mono (Nat.le_trans HSZ3.out HBY0.out.size))); have HS1 := Lib.hid (HS3.out _ HBY1.out); clear h4)
      | (go_at_call 52; (with_reducible refine (HK2.out _ (HBW.out.trans (HBY1.out.mono HSZW.out))).mono ?_); rintro e w5 ⟨rfl, h5⟩; have HBY2 := Lib.hid (HBY1.out.trans (h5.mono (Nat.le_trans HSZ3.out HBY1.out.size))); have HS2 := Lib.hid (HS3.out _ HBY2.out); clear h5)
      | (go_at_call 74; (with_reducible refine (HK3.out _ (HBW.out.trans (HBY2.out.mono HSZW.out))).mono ?_); rintro e w6 ⟨rfl, h6⟩; have HBY3 := Lib.hid (HBY2.out.trans (h6.mono (Nat.le_trans HSZ3.out HBY2.out.size))); have HS3' := Lib.hid (HS3.out _ HBY3.out); clear h6))
    go_wp2_with fail
    go_ret
    exact ⟨by simp, HBW.out.trans (HBY3.out.mono HSZW.out)⟩
end Go.Proofs.YtjhecpkdpomkmaaGreat
