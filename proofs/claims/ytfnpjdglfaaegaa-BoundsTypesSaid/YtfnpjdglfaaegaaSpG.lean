/-
  The document's answer for sets: a number at its place.
-/
import Derived.Test.YtfnpjdglfaaegaaSpF
namespace Go.Proofs.Ytfnpjdglfaaegaa
open Go.RowKit Go.Shelf
set_option linter.unusedVariables false
set_option linter.unusedSimpArgs false
set_option maxRecDepth 100000

def i64s (l : List Int) : List Value := l.map (Value.int .i64)
theorem i64s_one (l : List Int) : ∀ u ∈ i64s l, u.oneCell' = true := by
  intro u hu
  unfold i64s at hu
  rw [List.mem_map] at hu
  obtain ⟨x, _, rfl⟩ := hu
  rfl
theorem i64s_get {l : List Int} {j : Nat} {u : Value} (h : (i64s l)[j]? = some u) : j < l.length ∧ u = .int .i64 l[j]! := by
  unfold i64s at h
  rw [List.getElem?_map] at h
  by_cases hj : j < l.length
  · rw [List.getElem?_eq_getElem hj] at h
    refine ⟨hj, ?_⟩
    rw [getElem!_pos l j hj]
    exact (Option.some.inj h).symm
  · rw [List.getElem?_eq_none (by omega)] at h
    cases h
def ISl (w : World) (v : Value) (l : List Int) : Prop := Bi l ∧ ∃ g o cap, v = .slice (some ⟨g, o, none⟩) l.length cap ∧ l.length ≤ cap ∧ g < w.heap.size ∧ ∀ i, i < l.length → w.cell? ⟨g, o + i, none⟩ = some (.int .i64 l[i]!)
theorem ISl.below {w w' : World} {v : Value} {l : List Int} (h : ISl w v l) (hb : Below w.heap.size w w') : ISl w' v l := by
  obtain ⟨h1, g, o, cap, e, hc, hg, hd⟩ := h
  refine ⟨h1, g, o, cap, e, hc, Nat.lt_of_lt_of_le hg hb.size, fun i hi => ?_⟩
  rw [← hd i hi]
  exact World.cell?_of_block (w := w) (hb.block g hg)
theorem info_i64 : (Try.prog.info? 3).map (fun i => (i.zero, i.size, i.bytes)) = some (some (.int .i64 0), 1, 8) := by kernel_rfl
theorem ownI_isl {base : Nat} {w : World} {v : Value} {l : List Int} {n : Nat} (h : w.ownsRow base 3 1 v n (i64s l)) (hn : n = l.length) (h0 : 0 < n) (hb : Bi l) : ISl w v l := by
  subst hn
  refine ⟨hb, ?_⟩
  rcases h.2 with ⟨_, h00⟩ | ⟨g, cap, cur, hv, hg, hh, hc, hm, hs, ht⟩
  · omega
  · refine ⟨g, 0, cap, hv, hc, (Array.getElem?_eq_some_iff.1 hh).1, fun i hi => ?_⟩
    have hcells := World.ownsRow.cells h (g := g) (by rw [hv]; rfl) i (.int .i64 l[i]!) (by unfold i64s; rw [List.getElem?_map, List.getElem?_eq_getElem hi, getElem!_pos l i hi]; rfl)
    rw [Addr.add_mid] at hcells
    exact hcells
theorem new_int (w : World) (x : Int) : ∀ j u, [Value.int .i64 x][j]? = some u → (w.alloc (.cells #[.int .i64 x] 3)).cell? ((⟨w.heap.size, 0, none⟩ : Addr).add j) = some u := by
  intro j u hj
  rw [Addr.add_mid, Nat.zero_add]
  match j, hj with
  | 0, hj => obtain rfl : Value.int .i64 x = u := Option.some.inj hj; simp
theorem grown_below {base : Nat} {W w w4 : World} {v : Value} {e : TypeId} {s n : Nat} {xs : List Value} (hb : Below base W w) (ho : w.ownsRow base e s v n xs) (hBw : base ≤ w.heap.size) (hg : w.grownBy w4 v.ownBlock) : Below base W w4 :=
  hb.grown hg hBw (fun k hk => (ho.lt k hk).1)
def RelK (w : World) (l : List Int) (n : Int) (kv : Value) (wr : World) : Prop :=
  ∃ k : Nat, k ≤ l.length ∧ kv = .int .i64 (k : Nat) ∧ (∀ j, j < k → l[j]! < n) ∧ w = wr
theorem isplit {l : List Int} {k : Nat} (h : k < l.length) : l = l.take k ++ l[k]! :: l.drop (k + 1) := by
  conv => lhs; rw [← List.take_append_drop k l, List.drop_eq_getElem_cons h]
  rw [getElem!_pos l k h]
theorem pl_here {l : List Int} {k : Nat} {n : Int} (hs : Srt l) (h : k < l.length) (he : l[k]! = n) : Pl l n l := by
  have e := isplit h
  rw [e] at hs ⊢
  exact Pl.here (B := l.drop (k + 1)) (A := l.take k) (y := l[k]!) hs he
theorem pl_new {l : List Int} {k : Nat} {n : Int} (hs : Srt l) (hk : k ≤ l.length) (hA : ∀ j, j < k → l[j]! < n) (hB : k < l.length → n < l[k]!) : Pl l n (l.take k ++ [n] ++ l.drop k) := by
  have e := (List.take_append_drop k l).symm
  have := Pl.new (A := l.take k) (B := l.drop k) (n := n) (by rw [← e]; exact hs) ?_ ?_
  · rw [← e] at this
    exact this
  · intro x hx
    obtain ⟨j, hj, rfl⟩ := List.mem_iff_getElem.1 hx
    rw [List.length_take] at hj
    have := hA j (by omega)
    rw [getElem!_pos l j (by omega)] at this
    rw [List.getElem_take]
    exact this
  · intro x hx
    by_cases h : k < l.length
    · rw [List.drop_eq_getElem_cons h] at hx
      obtain rfl : l[k] = x := Option.some.inj (show some l[k] = some x from hx)
      have := hB h
      rwa [getElem!_pos l k h] at this
    · rw [List.drop_of_length_le (by omega)] at hx
      simp at hx
theorem pl_bi {l l' : List Int} {n : Int} (h : Pl l n l') (hb : Bi l) (hn : I64 n) : Bi l' := fun x hx => ((h.mem x).1 hx).elim (fun e => e ▸ hn) (hb x)
set_option maxHeartbeats 4000000 in
theorem place_ok (w : World) (v : Value) (l : List Int) (n : Int) (hv : ISl w v l) (hs : Srt l) (hi : I64 n) (hn : l.length ≤ 1000000) :
    Calls Try.prog 71 #[v, .int .i64 n] w fun e w' => ∃ v' l', e = .returned v' ∧ ISl w' v' l' ∧ Pl l n l' ∧ Below w.heap.size w w' := by
  obtain ⟨i0, hi0, hz0, hz1, hz2⟩ := info_parts info_i64
  have HV := Lib.hid hv
  obtain ⟨hbi, g, o, cap, rfl, hcap, hg, hd⟩ := hv
  have HBI := Lib.hid hbi
  have HSR := Lib.hid hs
  have HIN := Lib.hid hi
  obtain ⟨m, hm⟩ : ∃ m, l.length = m := ⟨_, rfl⟩
  rw [hm] at hcap hn hd ⊢
  have HM := Lib.hid hm
  have HD := Lib.hid (fun j (hj : j < m) (W : World) (hW : Below w.heap.size w W) => (World.cell?_of_block (w := w) (a := ⟨g, o + j, none⟩) (hW.block g hg)).trans (hd j hj))
  clear hbi hs hi hm hd
  rw [HM.out] at HV
  go_enter Try.func71, Try.ntmps71
  go_wp2_with fail
  go_loopw [5] (fun kv wr => RelK w l n kv wr) (fun kv _ => m - (Lib.intOf kv).toNat)
  case atStart => exact ⟨0, Nat.zero_le _, rfl, fun j hj => absurd hj (Nat.not_lt_zero _), rfl⟩
  case round =>
    obtain ⟨k, hk, rfl, hlt, rfl⟩ := hrel
    have HLT := Lib.hid hlt
    rw [HM.out] at hk
    clear hlt
    by_cases hkm : k < m
    · have q1 : decide ((k : Int) < (m : Int)) = true := decide_eq_true (by omega)
      have q1n : decide (k < m) = true := decide_eq_true hkm
      have q3 : IntKind.i64.wrap ((k : Int) + 1) = ((k + 1 : Nat) : Int) := wrap_succ hkm (by omega)
      have c1 := HD.out k hkm _ (Below.refl _ _)
      obtain ⟨x, hx⟩ : ∃ x, l[k]! = x := ⟨_, rfl⟩
      rw [hx] at c1
      have HX := Lib.hid hx
      clear hx
      by_cases h1 : x < n
      · have q4 : decide (x < n) = true := decide_eq_true h1
        have HLT2 := Lib.hid (show ∀ j, j < k + 1 → l[j]! < n from fun j hj => by
          rcases Nat.lt_or_ge j k with h | h
          · exact HLT.out j h
          · obtain rfl : j = k := by omega
            rw [HX.out]; exact h1)
        go_wp2_with fail
        go_roundw
        case rel => exact ⟨k + 1, by rw [HM.out]; exact hkm, rfl, HLT2.out, rfl⟩
        case measure => simp only [Lib.intOf]; omega
      · have q4 : decide (x < n) = false := decide_eq_false h1
        by_cases h2 : x = n
        · have q5 : (x == n) = true := by rw [h2]; simp
          have HP := Lib.hid (pl_here HSR.out (by rw [HM.out]; exact hkm) (HX.out.trans h2))
          clear h2
          go_wp2_with fail
          go_ret
          exact ⟨_, rfl, l, HV.out, HP.out, Below.refl _ _⟩
        · have q5 : (x == n) = false := beq_false_of_ne h2
          have HP := Lib.hid (pl_new (n := n) HSR.out (by rw [HM.out]; exact hk) HLT.out (fun _ => by rw [HX.out]; omega))
          have x1 : (k : Int) ≤ (m : Int) := by omega
          have x2 : (k : Int) ≤ (cap : Int) := by omega
          have x3 : (m : Int) ≤ (cap : Int) := by omega
          have x4 : (0 : Int) ≤ (k : Int) := by omega
          have hkc : k ≤ cap := by omega
          have HL1 := Lib.hid (show (i64s (l.take k)).length = k * 1 by unfold i64s; rw [List.length_map, List.length_take, HM.out]; omega)
          have HL3 := Lib.hid (show (i64s (l.drop k)).length = (m - k) * 1 by unfold i64s; rw [List.length_map, List.length_drop, HM.out]; omega)
          have HN1 := Lib.hid (show ∀ j u, (i64s (l.take k))[j]? = some u → w.cell? ((⟨g, o, none⟩ : Addr).add j) = some u from fun j u hu => by
            obtain ⟨hj, rfl⟩ := i64s_get hu
            rw [List.length_take] at hj
            rw [Addr.add_mid, HD.out j (by have := HM.out; omega) w (Below.refl _ _)]
            congr 2
            rw [getElem!_pos l j (by have := HM.out; omega), getElem!_pos (l.take k) j (by rw [List.length_take]; omega), List.getElem_take])
          have HN3 := Lib.hid (show ∀ W, Below w.heap.size w W → ∀ j u, (i64s (l.drop k))[j]? = some u → W.cell? ((⟨g, o + k, none⟩ : Addr).add j) = some u from fun W hW j u hu => by
            obtain ⟨hj, rfl⟩ := i64s_get hu
            rw [List.length_drop] at hj
            have e : ((⟨g, o + k, none⟩ : Addr).add j) = ⟨g, o + (k + j), none⟩ := by rw [Addr.add_mid, Nat.add_assoc]
            rw [e, HD.out (k + j) (by have := HM.out; omega) W hW]
            congr 2
            rw [getElem!_pos l (k + j) (by have := HM.out; omega), getElem!_pos (l.drop k) j (by rw [List.length_drop]; omega), List.getElem_drop])
          have HFIN := Lib.hid (show ∀ w3 v3, w3.ownsRow w.heap.size 3 1 v3 (0 + k + 1 + (m - k)) ([] ++ i64s (l.take k) ++ [.int .i64 n] ++ i64s (l.drop k)) → ISl w3 v3 (l.take k ++ [n] ++ l.drop k) from fun w3 v3 h => by
            refine ownI_isl (n := 0 + k + 1 + (m - k)) (base := w.heap.size) ?_ ?_ (by omega) (pl_bi HP.out HBI.out HIN.out)
            · have e : i64s (l.take k ++ [n] ++ l.drop k) = [] ++ i64s (l.take k) ++ [.int .i64 n] ++ i64s (l.drop k) := by simp [i64s]
              rw [e]
              exact h
            · simp only [List.length_append, List.length_take, List.length_drop, List.length_singleton, HM.out]; omega)
          have hck : ¬ cap = k := by omega
          go_wp2_with (first | (at_builtin; refine wpList_append_own _ rfl (.tmp 34) (.tmp 37) 80 rfl w.heap.size 3 i0 (.int .i64 0) 1 8 Try.underlying80 hi0 hz0 hz1 hz2 rfl (by decide) _ 0 [] rfl (World.ownsRow_nil _ _ _ _) ⟨g, o, none⟩ k cap (i64s (l.take k)) rfl HL1.out HN1.out (i64s_one _) (by unfold maxLen; omega) (by omega) (Nat.le_refl _) ?_; intro v1 w1 hown1 hgr1 _; have HO1 := Lib.hid hown1; have HB1 := Lib.hid (grown_below (Below.refl w.heap.size w) (World.ownsRow_nil w w.heap.size 3 1) (Nat.le_refl _) hgr1); clear hown1 hgr1) | (at_builtin; refine wpList_append_own _ rfl (.tmp 39) (.tmp 41) 80 rfl w.heap.size 3 i0 (.int .i64 0) 1 8 Try.underlying80 hi0 hz0 hz1 hz2 rfl (by decide) _ (0 + k) ([] ++ i64s (l.take k)) rfl (World.ownsRow.alloc HO1.out _) ⟨w1.heap.size, 0, none⟩ 1 1 [.int .i64 n] rfl rfl (new_int _ _) (i64s_one [n]) (by unfold maxLen; omega) (by omega) (by have := HB1.out.size; simp; omega) ?_; intro v2 w2 hown2 hgr2 _; have HO2 := Lib.hid hown2; have HB2 := Lib.hid (grown_below (HB1.out.alloc HB1.out.size (.cells #[.int .i64 n] 3)) (World.ownsRow.alloc HO1.out _) (by have := HB1.out.size; simp; omega) hgr2); clear hown2 hgr2) | (at_builtin; refine wpList_append_own _ rfl (.tmp 43) (.tmp 46) 80 rfl w.heap.size 3 i0 (.int .i64 0) 1 8 Try.underlying80 hi0 hz0 hz1 hz2 rfl (by decide) _ (0 + k + 1) ([] ++ i64s (l.take k) ++ [Value.int .i64 n]) rfl HO2.out ⟨g, o + k, none⟩ (m - k) (cap - k) (i64s (l.drop k)) rfl HL3.out (HN3.out w2 HB2.out) (i64s_one _) (by unfold maxLen; omega) (by omega) HB2.out.size ?_; intro v3 w3 hown3 hgr3 _; have HO3 := Lib.hid hown3; have HB3 := Lib.hid (grown_below HB2.out HO2.out HB2.out.size hgr3); clear hown3 hgr3))
          go_ret
          exact ⟨_, rfl, _, HFIN.out _ _ HO3.out, HP.out, HB3.out⟩
    · have q1 : decide ((k : Int) < (m : Int)) = false := decide_eq_false (by omega)
      have q1n : decide (k < m) = false := decide_eq_false hkm
      have HP := Lib.hid (pl_new (n := n) HSR.out (by rw [HM.out]; exact hk) HLT.out (fun h => absurd h (by rw [HM.out]; exact hkm)))
      have x1 : (k : Int) ≤ (m : Int) := by omega
      have x2 : (k : Int) ≤ (cap : Int) := by omega
      have x3 : (m : Int) ≤ (cap : Int) := by omega
      have x4 : (0 : Int) ≤ (k : Int) := by omega
      have hkc : k ≤ cap := by omega
      have HL1 := Lib.hid (show (i64s (l.take k)).length = k * 1 by unfold i64s; rw [List.length_map, List.length_take, HM.out]; omega)
      have HL3 := Lib.hid (show (i64s (l.drop k)).length = (m - k) * 1 by unfold i64s; rw [List.length_map, List.length_drop, HM.out]; omega)
      have HN1 := Lib.hid (show ∀ j u, (i64s (l.take k))[j]? = some u → w.cell? ((⟨g, o, none⟩ : Addr).add j) = some u from fun j u hu => by
        obtain ⟨hj, rfl⟩ := i64s_get hu
        rw [List.length_take] at hj
        rw [Addr.add_mid, HD.out j (by have := HM.out; omega) w (Below.refl _ _)]
        congr 2
        rw [getElem!_pos l j (by have := HM.out; omega), getElem!_pos (l.take k) j (by rw [List.length_take]; omega), List.getElem_take])
      have HN3 := Lib.hid (show ∀ W, Below w.heap.size w W → ∀ j u, (i64s (l.drop k))[j]? = some u → W.cell? ((⟨g, o + k, none⟩ : Addr).add j) = some u from fun W hW j u hu => by
        obtain ⟨hj, rfl⟩ := i64s_get hu
        rw [List.length_drop] at hj
        have e : ((⟨g, o + k, none⟩ : Addr).add j) = ⟨g, o + (k + j), none⟩ := by rw [Addr.add_mid, Nat.add_assoc]
        rw [e, HD.out (k + j) (by have := HM.out; omega) W hW]
        congr 2
        rw [getElem!_pos l (k + j) (by have := HM.out; omega), getElem!_pos (l.drop k) j (by rw [List.length_drop]; omega), List.getElem_drop])
      have HFIN := Lib.hid (show ∀ w3 v3, w3.ownsRow w.heap.size 3 1 v3 (0 + k + 1 + (m - k)) ([] ++ i64s (l.take k) ++ [.int .i64 n] ++ i64s (l.drop k)) → ISl w3 v3 (l.take k ++ [n] ++ l.drop k) from fun w3 v3 h => by
        refine ownI_isl (n := 0 + k + 1 + (m - k)) (base := w.heap.size) ?_ ?_ (by omega) (pl_bi HP.out HBI.out HIN.out)
        · have e : i64s (l.take k ++ [n] ++ l.drop k) = [] ++ i64s (l.take k) ++ [.int .i64 n] ++ i64s (l.drop k) := by simp [i64s]
          rw [e]
          exact h
        · simp only [List.length_append, List.length_take, List.length_drop, List.length_singleton, HM.out]; omega)
      by_cases hck : cap = k
      · have hmk : m = k := by omega
        have HMK := Lib.hid hmk
        have HFIN2 := Lib.hid (show ∀ w3 v3, w3.ownsRow w.heap.size 3 1 v3 (0 + k + 1 + 0) ([] ++ i64s (l.take k) ++ [.int .i64 n] ++ []) → ISl w3 v3 (l.take k ++ [n] ++ l.drop k) from fun w3 v3 h => by
          refine HFIN.out w3 v3 ?_
          have e1 : m - k = 0 := by omega
          have e2 : l.drop k = [] := List.drop_of_length_le (by rw [HM.out]; omega)
          rw [e1, e2]
          exact h)
        clear hmk
        subst hck
        obtain rfl := HMK.out
        clear HMK
        go_wp2_with (first | (at_builtin; refine wpList_append_own _ rfl (.tmp 34) (.tmp 37) 80 rfl w.heap.size 3 i0 (.int .i64 0) 1 8 Try.underlying80 hi0 hz0 hz1 hz2 rfl (by decide) _ 0 [] rfl (World.ownsRow_nil _ _ _ _) ⟨g, o, none⟩ m m (i64s (l.take m)) rfl HL1.out HN1.out (i64s_one _) (by unfold maxLen; omega) (by omega) (Nat.le_refl _) ?_; intro v1 w1 hown1 hgr1 _; have HO1 := Lib.hid hown1; have HB1 := Lib.hid (grown_below (Below.refl w.heap.size w) (World.ownsRow_nil w w.heap.size 3 1) (Nat.le_refl _) hgr1); clear hown1 hgr1) | (at_builtin; refine wpList_append_own _ rfl (.tmp 39) (.tmp 41) 80 rfl w.heap.size 3 i0 (.int .i64 0) 1 8 Try.underlying80 hi0 hz0 hz1 hz2 rfl (by decide) _ (0 + m) ([] ++ i64s (l.take m)) rfl (World.ownsRow.alloc HO1.out _) ⟨w1.heap.size, 0, none⟩ 1 1 [.int .i64 n] rfl rfl (new_int _ _) (i64s_one [n]) (by unfold maxLen; omega) (by omega) (by have := HB1.out.size; simp; omega) ?_; intro v2 w2 hown2 hgr2 _; have HO2 := Lib.hid hown2; have HB2 := Lib.hid (grown_below (HB1.out.alloc HB1.out.size (.cells #[.int .i64 n] 3)) (World.ownsRow.alloc HO1.out _) (by have := HB1.out.size; simp; omega) hgr2); clear hown2 hgr2) | (at_builtin; refine wpList_append_own _ rfl (.tmp 43) (.tmp 46) 80 rfl w.heap.size 3 i0 (.int .i64 0) 1 8 Try.underlying80 hi0 hz0 hz1 hz2 rfl (by decide) _ (0 + m + 1) ([] ++ i64s (l.take m) ++ [Value.int .i64 n]) rfl HO2.out ⟨g, o, none⟩ 0 0 [] rfl rfl (fun j u hu => by simp at hu) (fun u hu => by simp at hu) (by unfold maxLen; omega) (by omega) HB2.out.size ?_; intro v3 w3 hown3 hgr3 _; have HO3 := Lib.hid hown3; have HB3 := Lib.hid (grown_below HB2.out HO2.out HB2.out.size hgr3); clear hown3 hgr3))
        go_ret
        exact ⟨_, rfl, _, HFIN2.out _ _ HO3.out, HP.out, HB3.out⟩
      go_wp2_with (first | (at_builtin; refine wpList_append_own _ rfl (.tmp 34) (.tmp 37) 80 rfl w.heap.size 3 i0 (.int .i64 0) 1 8 Try.underlying80 hi0 hz0 hz1 hz2 rfl (by decide) _ 0 [] rfl (World.ownsRow_nil _ _ _ _) ⟨g, o, none⟩ k cap (i64s (l.take k)) rfl HL1.out HN1.out (i64s_one _) (by unfold maxLen; omega) (by omega) (Nat.le_refl _) ?_; intro v1 w1 hown1 hgr1 _; have HO1 := Lib.hid hown1; have HB1 := Lib.hid (grown_below (Below.refl w.heap.size w) (World.ownsRow_nil w w.heap.size 3 1) (Nat.le_refl _) hgr1); clear hown1 hgr1) | (at_builtin; refine wpList_append_own _ rfl (.tmp 39) (.tmp 41) 80 rfl w.heap.size 3 i0 (.int .i64 0) 1 8 Try.underlying80 hi0 hz0 hz1 hz2 rfl (by decide) _ (0 + k) ([] ++ i64s (l.take k)) rfl (World.ownsRow.alloc HO1.out _) ⟨w1.heap.size, 0, none⟩ 1 1 [.int .i64 n] rfl rfl (new_int _ _) (i64s_one [n]) (by unfold maxLen; omega) (by omega) (by have := HB1.out.size; simp; omega) ?_; intro v2 w2 hown2 hgr2 _; have HO2 := Lib.hid hown2; have HB2 := Lib.hid (grown_below (HB1.out.alloc HB1.out.size (.cells #[.int .i64 n] 3)) (World.ownsRow.alloc HO1.out _) (by have := HB1.out.size; simp; omega) hgr2); clear hown2 hgr2) | (at_builtin; refine wpList_append_own _ rfl (.tmp 43) (.tmp 46) 80 rfl w.heap.size 3 i0 (.int .i64 0) 1 8 Try.underlying80 hi0 hz0 hz1 hz2 rfl (by decide) _ (0 + k + 1) ([] ++ i64s (l.take k) ++ [Value.int .i64 n]) rfl HO2.out ⟨g, o + k, none⟩ (m - k) (cap - k) (i64s (l.drop k)) rfl HL3.out (HN3.out w2 HB2.out) (i64s_one _) (by unfold maxLen; omega) (by omega) HB2.out.size ?_; intro v3 w3 hown3 hgr3 _; have HO3 := Lib.hid hown3; have HB3 := Lib.hid (grown_below HB2.out HO2.out HB2.out.size hgr3); clear hown3 hgr3))
      go_ret
      exact ⟨_, _, rfl, HFIN.out _ _ HO3.out, HP.out, HB3.out⟩
end Go.Proofs.Ytfnpjdglfaaegaa
