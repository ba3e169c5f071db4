/-
  A bundle of texts, one behind the other: MbA4, MbA5, MbA6.
-/
import Derived.Test.YtjhecpkdpomkmaaGreatQI
import Derived.Test.YtjhecpkdpomkmaaGreatQL
import Derived.Test.YtjhecpkdpomkmaaGreatQD
namespace Go.Proofs.YtjhecpkdpomkmaaGreat
open Go.RowKit
set_option linter.unusedVariables false
set_option linter.unusedSimpArgs false
set_option maxRecDepth 100000

set_option maxHeartbeats 8000000 in
theorem idxV_ok (B : Nat) (w : World) (a : Option Addr) (n cap : Nat) (ch : Nat → VT) (fn : FuncId) (first lb : Array Value) (p : Nat → Bool) (hen0 : Enters Tryz.prog fn)
    (hB : B ≤ w.heap.size) (hd : RowAt B w a n cap 5 (fun i => (ch i).cells)) (hin : ∀ i, i < n → VIn B w (ch i)) (hp : PredN w fn first lb n (fun i => .agg (ch i).cells.toArray) p) :
    Calls Tryz.prog 114 #[.slice a n cap, .func (.func fn) first lb] w fun e w' => (∃ z : Int, e = .returned (.int .i64 z) ∧ (decide (0 ≤ z) = anyN p n)) ∧ Below w.heap.size w w' := by
  have hen : ∀ (args : Array Value) (w : World), (callFunc fn args).run Tryz.prog w = .ok (.enter fn args) w := hen0
  have HROW := Lib.hid hd
  have HIN := Lib.hid (fun i (hi : i < n) => one_vcells (hin i hi))
  have HP := Lib.hid hp
  have HBB := Lib.hid hB
  have hn : n ≤ 9223372036854775807 := by have := hd.1; have := hd.2.1; omega
  have HB0 := Lib.hid (Below.refl w.heap.size w)
  have HIX := Lib.hid (fun i (hi : i < n) => vRow_range HROW.out hi)
  clear hp hB hd hin HROW
  go_enter Tryz.func114, Tryz.ntmps114
  go_wp2_with fail
  go_loopw [8] (fun iv wr => RelIxM w n p iv wr) (fun iv _ => n - (Lib.intOf iv).toNat)
  case atStart => exact ⟨0, Nat.zero_le _, rfl, fun j hj => absurd hj (Nat.not_lt_zero _), HB0.out⟩
  case round =>
    obtain ⟨i, hi, rfl, hall, hbel⟩ := hrel
    have HB := Lib.hid hbel
    have HA := Lib.hid hall
    have hsz := hbel.size
    clear hbel hall
    by_cases hlt : i < n
    · have q1 : decide ((i : Int) < (n : Int)) = true := decide_eq_true (by omega)
      have q1n : decide (i < n) = true := decide_eq_true hlt
      obtain ⟨gx, ox, hix, hgx, hrd⟩ := HIX.out i hlt
      have HR := Lib.hid (hrd wr (HB.out.block gx (by have := HBB.out; omega)))
      have HC := Lib.hid (show ∀ w', Below w.heap.size w w' → Calls Tryz.prog fn (first ++ #[.agg (ch i).cells.toArray] ++ lb) w' fun e w'' => e = .returned (.bool (p i)) ∧ Below w'.heap.size w' w'' from HP.out i hlt)
      have H1 := Lib.hid (HIN.out i hlt)
      generalize (ch i).cells = cs at *
      clear hrd
      have q3 : IntKind.i64.wrap ((i : Int) + 1) = ((i + 1 : Nat) : Int) := wrap_succ hlt hn
      cases hpi : p i with
      | false =>
        have HN := Lib.hid (relIxM_next HA.out hpi)
        rw [hpi] at HC
        clear hpi
        go_wp2_with (refine wpList_load_mid rfl 26 (.tmp 14) rfl gx ox rfl cs _ HR.out Tryz.underlying26 rfl (by rw [info_V, H1.out.1]) ?_)
        refine (HC.out _ HB.out).mono ?_
        rintro e w1 ⟨rfl, hb⟩
        have HB1 := Lib.hid (HB.out.trans (hb.mono HB.out.size))
        clear hb
        go_wp2_with fail
        go_roundw
        case rel => exact ⟨i + 1, hlt, rfl, HN.out, HB1.out⟩
        case measure => simp only [Lib.intOf]; omega
      | true =>
        have HN := Lib.hid (anyN_yes hlt hpi)
        rw [hpi] at HC
        clear hpi
        go_wp2_with (refine wpList_load_mid rfl 26 (.tmp 14) rfl gx ox rfl cs _ HR.out Tryz.underlying26 rfl (by rw [info_V, H1.out.1]) ?_)
        refine (HC.out _ HB.out).mono ?_
        rintro e w1 ⟨rfl, hb⟩
        have HB1 := Lib.hid (HB.out.trans (hb.mono HB.out.size))
        clear hb
        go_wp2_with fail
        go_ret
        exact ⟨⟨_, rfl, by rw [HN.out]; exact decide_eq_true (by omega)⟩, HB1.out⟩
    · have q1 : decide ((i : Int) < (n : Int)) = false := decide_eq_false (by omega)
      have q1n : decide (i < n) = false := decide_eq_false hlt
      obtain rfl : i = n := by omega
      have HN := Lib.hid (anyN_no HA.out)
      go_wp2_with fail
      go_ret
      exact ⟨⟨_, rfl, by rw [HN.out]; rfl⟩, HB.out⟩
set_option maxHeartbeats 4000000 in
theorem contV_ok (B : Nat) (w : World) (a : Option Addr) (n cap : Nat) (ch : Nat → VT) (fn : FuncId) (first lb : Array Value) (p : Nat → Bool) (hen0 : Enters Tryz.prog fn)
    (hB : B ≤ w.heap.size) (hd : RowAt B w a n cap 5 (fun i => (ch i).cells)) (hin : ∀ i, i < n → VIn B w (ch i)) (hp : PredN w fn first lb n (fun i => .agg (ch i).cells.toArray) p) :
    Calls Tryz.prog 67 #[.slice a n cap, .func (.func fn) first lb] w fun e w' => e = .returned (.bool (anyN p n)) ∧ Below w.heap.size w w' := by
  have HC := Lib.hid (idxV_ok B w a n cap ch fn first lb p hen0 hB hd hin hp)
  obtain ⟨b, hb⟩ : ∃ b, anyN p n = b := ⟨_, rfl⟩
  rw [hb] at HC ⊢
  clear hen0 hB hd hin hp hb
  go_enter Tryz.func67, Tryz.ntmps67
  go_wp2_with fail
  refine HC.out.mono ?_
  rintro e w1 ⟨⟨z, rfl, hz⟩, hb⟩
  have HB := Lib.hid hb
  clear hb HC
  go_wp2_with fail
  go_ret
  exact ⟨rfl, HB.out⟩
set_option maxHeartbeats 8000000 in
theorem deeper_walk (B : Nat) (w : World) (k m0 : Int) (s : ByteArray) (nm : SL) (a : Option Addr) (n cap : Nat) (ch : Nat → VT) (m : Nat) (hx : VIn B w (.mk k m0 s nm a n cap ch)) (hB : B ≤ w.heap.size) (hm : m ≤ 1000)
    (hrec : ∀ i, i < n → ∀ q, q ≤ 1000 → ∀ w', Below w.heap.size w w' → Calls Tryz.prog 43 #[.agg (ch i).cells.toArray, .int .i64 (q : Nat)] w' fun e w'' => e = .returned (.bool ((ch i).deeper q)) ∧ Below w'.heap.size w' w'') :
    Calls Tryz.prog 43 #[.agg (VT.mk k m0 s nm a n cap ch).cells.toArray, .int .i64 (m : Nat)] w fun e w' => e = .returned (.bool ((VT.mk k m0 s nm a n cap ch).deeper m)) ∧ Below w.heap.size w w' := by
  have hx' := hx.below (Below.refl w.heap.size w) hB
  have hb0 := (Below.refl w.heap.size w).alloc (Nat.le_refl _) (.cells (VT.mk k m0 s nm a n cap ch).cells.toArray 26)
  have hb1 := hb0.alloc hb0.size (.cells #[.int .i64 (m : Nat)] 3)
  have hxa := (Bx.new w (VT.mk k m0 s nm a n cap ch).cells.toArray 26).alloc (.cells #[.int .i64 (m : Nat)] 3)
  have hxb := Bx.new (w.alloc (.cells (VT.mk k m0 s nm a n cap ch).cells.toArray 26)) #[.int .i64 (m : Nat)] 3
  rw [World.size_alloc] at hxb
  have HONE := Lib.hid (fun i (hi : i < n) => one_vcells (hx'.2.2 i hi))
  -- the closure
  have HCL := Lib.hid (show 0 < m → ∀ (W : World), Below w.heap.size w W → W.cell? ⟨w.heap.size + 1, 0, none⟩ = some (.int .i64 (m : Nat)) → ∀ i, i < n → Calls Tryz.prog 68 #[.agg (ch i).cells.toArray, .pointer (some ⟨w.heap.size + 1, 0, none⟩)] W fun e w'' => e = .returned (.bool ((ch i).deeper (m - 1))) ∧ Below W.heap.size W w'' from by
    intro hm0 W hb hc i hi
    have hx2 := Bx.new W (ch i).cells.toArray 26
    have hb2 := (Below.refl W.heap.size W).alloc (Nat.le_refl _) (.cells (ch i).cells.toArray 26)
    have c0 : (W.alloc (.cells (ch i).cells.toArray 26)).cell? ⟨w.heap.size + 1, 0, none⟩ = some (.int .i64 (m : Nat)) := (World.cell?_of_block (w := W) (a := ⟨w.heap.size + 1, 0, none⟩) (Below.heap_alloc W _ _ (World.block_lt_of_cell? W _ hc))).trans hc
    have HX := Lib.hid hx2
    have HB := Lib.hid hb2
    have H1 := Lib.hid (HONE.out i hi)
    have HC := Lib.hid (hrec i hi (m - 1) (by omega) (W.alloc (.cells (ch i).cells.toArray 26)) (hb.alloc hb.size _))
    obtain ⟨q, hq⟩ : ∃ q, m - 1 = q := ⟨_, rfl⟩
    rw [hq] at HC ⊢
    have q1 : IntKind.i64.wrap ((m : Int) - 1) = (q : Int) := (wrap_ok (by unfold I64; omega)).trans (by omega)
    generalize (ch i).deeper q = z at *
    generalize (ch i).cells = cs at *
    clear hx2 hb2 hc hb hq hm0 hrec hx hx' hB hb0 hb1 hxa hxb
    go_enter Tryz.func68, Tryz.ntmps68
    go_wp2_with (refine wpList_load_midM (by rfl) 26 (.tmp 2) rfl W.heap.size 0 rfl cs _ HX.out.range Tryz.underlying26 rfl (by rw [info_V, H1.out.1]) ?_)
    refine HC.out.mono ?_
    rintro e w1 ⟨rfl, h1⟩
    have HB1 := Lib.hid (HB.out.trans (h1.mono HB.out.size))
    clear h1
    go_wp2_with fail
    go_ret
    exact ⟨rfl, HB1.out⟩)
  have HCO := Lib.hid (fun (hm0 : 0 < m) => contV_ok w.heap.size ((w.alloc (.cells (VT.mk k m0 s nm a n cap ch).cells.toArray 26)).alloc (.cells #[.int .i64 (m : Nat)] 3)) a n cap ch 68 #[] #[.pointer (some ⟨w.heap.size + 1, 0, none⟩)] (fun i => (ch i).deeper (m - 1))
    (enters_of Tryz.func68 (by kernel_rfl) rfl) hb1.size (hx'.2.1.below hb1 (Nat.le_refl _)) (fun i hi => (hx'.2.2 i hi).below hb1 (Nat.le_refl _)) (fun i hi W hW => HCL.out hm0 W (hb1.trans (hW.mono hb1.size)) ((hxb.below hW hxb.lt).cell 0 rfl) i hi))
  have HL := Lib.hid (show (VT.mk k m0 s nm a n cap ch).deeper m = (isParted k && (decide (m = 0) || anyN (fun j => (ch j).deeper (m - 1)) n)) from rfl)
  have c0 := hxa.cell 0 (v := .int .i64 k) rfl
  have c4 := hxa.cell 4 (v := .slice a n cap) rfl
  have d0 := hxb.cell 0 (v := .int .i64 (m : Nat)) rfl
  have HB := Lib.hid hb1
  have HPK := Lib.hid (show isParted k = ((k == 8) || (k == 9) || (k == 10)) from rfl)
  generalize (VT.mk k m0 s nm a n cap ch).deeper m = res at *
  generalize anyN (fun j => (ch j).deeper (m - 1)) n = z at *
  generalize (VT.mk k m0 s nm a n cap ch).cells = cs at *
  clear hx hx' hb0 hb1 hxa hxb hB hrec HCL
  have key : isParted k = true → Calls Tryz.prog 43 #[.agg cs.toArray, .int .i64 (m : Nat)] w fun e w' => e = .returned (.bool res) ∧ Below w.heap.size w w' := by
    intro hp
    have HL2 := Lib.hid (show res = (decide (m = 0) || z) from by rw [HL.out, hp]; rfl)
    have hpart : (k != 8) = false ∨ ((k != 8) = true ∧ (k != 9) = false) ∨ ((k != 8) = true ∧ (k != 9) = true ∧ (k != 10) = false) := by
      rw [HPK.out] at hp
      simp only [Bool.or_eq_true, beq_iff_eq] at hp
      rcases hp with (rfl | rfl) | rfl
      · exact .inl rfl
      · exact .inr (.inl ⟨rfl, rfl⟩)
      · exact .inr (.inr ⟨rfl, rfl, rfl⟩)
    clear hp HL HPK
    by_cases h0 : m = 0
    · have q0 : ((m : Int) == 0) = true := by rw [h0]; rfl
      have q0n : (m == 0) = true := by rw [h0]; rfl
      have HZ := Lib.hid (show res = true from by rw [HL2.out, decide_eq_true h0]; rfl)
      clear h0 HL2 HCO
      rcases hpart with e1 | ⟨e1, e2⟩ | ⟨e1, e2, e3⟩
      · go_enter Tryz.func43, Tryz.ntmps43
        go_wp2_with fail
        go_ret
        exact ⟨by rw [HZ.out]; first | rfl | simp, HB.out⟩
      · go_enter Tryz.func43, Tryz.ntmps43
        go_wp2_with fail
        go_ret
        exact ⟨by rw [HZ.out]; first | rfl | simp, HB.out⟩
      · go_enter Tryz.func43, Tryz.ntmps43
        go_wp2_with fail
        go_ret
        exact ⟨by rw [HZ.out]; first | rfl | simp, HB.out⟩
    · have q0 : ((m : Int) == 0) = false := beq_eq_false_iff_ne.2 (by omega)
      have q0n : (m == 0) = false := beq_eq_false_iff_ne.2 h0
      have HC := Lib.hid (HCO.out (by omega))
      have HZ := Lib.hid (show res = z from by rw [HL2.out, decide_eq_false h0]; rfl)
      clear h0 HL2 HCO
      rcases hpart with e1 | ⟨e1, e2⟩ | ⟨e1, e2, e3⟩
      · go_enter Tryz.func43, Tryz.ntmps43
        go_wp2_with fail
        refine HC.out.mono ?_
        rintro e w2 ⟨rfl, h2⟩
        have HB2 := Lib.hid (HB.out.trans (h2.mono HB.out.size))
        clear h2 c0 c4 d0
        go_wp2_with fail
        go_ret
        exact ⟨by rw [HZ.out]; first | rfl | simp, HB2.out⟩
      · go_enter Tryz.func43, Tryz.ntmps43
        go_wp2_with fail
        refine HC.out.mono ?_
        rintro e w2 ⟨rfl, h2⟩
        have HB2 := Lib.hid (HB.out.trans (h2.mono HB.out.size))
        clear h2 c0 c4 d0
        go_wp2_with fail
        go_ret
        exact ⟨by rw [HZ.out]; first | rfl | simp, HB2.out⟩
      · go_enter Tryz.func43, Tryz.ntmps43
        go_wp2_with fail
        refine HC.out.mono ?_
        rintro e w2 ⟨rfl, h2⟩
        have HB2 := Lib.hid (HB.out.trans (h2.mono HB.out.size))
        clear h2 c0 c4 d0
        go_wp2_with fail
        go_ret
        exact ⟨by rw [HZ.out]; first | rfl | simp, HB2.out⟩
  cases hp : isParted k with
  | true => exact key hp
  | false =>
    have HZ := Lib.hid (show res = false from by rw [HL.out, hp]; rfl)
    rw [HPK.out] at hp
    simp only [Bool.or_eq_false_iff, beq_eq_false_iff_ne, ne_eq] at hp
    have e1 : (k != 8) = true := bne_iff_ne.2 hp.1.1
    have e2 : (k != 9) = true := bne_iff_ne.2 hp.1.2
    have e3 : (k != 10) = true := bne_iff_ne.2 hp.2
    clear key HL HPK HCO hp
    go_enter Tryz.func43, Tryz.ntmps43
    go_wp2_with fail
    go_ret
    exact ⟨by rw [HZ.out]; first | rfl | simp, HB.out⟩
theorem deeper_ok : ∀ (x : VT) (B : Nat) (w : World) (m : Nat), VIn B w x → B ≤ w.heap.size → m ≤ 1000 →
    Calls Tryz.prog 43 #[.agg x.cells.toArray, .int .i64 (m : Nat)] w fun e w' => e = .returned (.bool (x.deeper m)) ∧ Below w.heap.size w w'
  | .nil, _, _, _, h, _, _ => h.elim
  | .mk k m0 s nm a n cap ch, B, w, m, hx, hB, hm =>
    deeper_walk B w k m0 s nm a n cap ch m hx hB hm fun i hi q hq w' hb => deeper_ok (ch i) w.heap.size w' q ((hx.2.2 i hi).below hb hB) hb.size hq
end Go.Proofs.YtjhecpkdpomkmaaGreat

namespace Go.Proofs.YtjhecpkdpomkmaaGreat
open Go.RowKit
set_option linter.unusedVariables false
set_option linter.unusedSimpArgs false
set_option maxRecDepth 100000

/-- a predicate on numbers in memory -/
def PredI (w : World) (fn : FuncId) (lb : Array Value) (n : Nat) (p : Nat → Bool) : Prop :=
  ∀ i, i < n → ∀ w', Below w.heap.size w w' → Calls Tryz.prog fn (#[.int .i64 (i : Nat)] ++ lb) w' fun e w'' => e = .returned (.bool (p i)) ∧ Below w'.heap.size w' w''
def RelSe (w : World) (n : Nat) (p : Nat → Bool) (iv jv : Value) (wr : World) : Prop :=
  ∃ i j : Nat, i ≤ j ∧ j ≤ n ∧ iv = .int .i64 (i : Nat) ∧ jv = .int .i64 (j : Nat) ∧ (∀ t, t < i → p t = false) ∧ (∀ t, j ≤ t → t < n → p t = true) ∧ Below w.heap.size w wr
set_option maxHeartbeats 8000000 in
theorem search_ok (w : World) (n : Nat) (fn : FuncId) (lb : Array Value) (p : Nat → Bool) (hn : n ≤ 140737488355328) (hen0 : Enters Tryz.prog fn) (hp : PredI w fn lb n p) (hmono : ∀ i j, i ≤ j → j < n → p i = true → p j = true) :
    Calls Tryz.prog 162 #[.int .i64 (n : Nat), .func (.func fn) #[] lb] w fun e w' => e = .returned (.int .i64 (fst p n : Nat)) ∧ Below w.heap.size w w' := by
  have hen : ∀ (args : Array Value) (w : World), (callFunc fn args).run Tryz.prog w = .ok (.enter fn args) w := hen0
  have HP := Lib.hid hp
  have HM := Lib.hid hmono
  have HB0 := Lib.hid (Below.refl w.heap.size w)
  have HN := Lib.hid hn
  obtain ⟨F, hF⟩ : ∃ F, fst p n = F := ⟨_, rfl⟩
  rw [hF]
  have HF0 := Lib.hid hF
  clear hp hmono hn hF
  go_enter Tryz.func162, Tryz.ntmps162
  go_wp2_with fail
  go_loopw [5, 6] (fun iv jv wr => RelSe w n p iv jv wr) (fun iv jv _ => (Lib.intOf jv).toNat - (Lib.intOf iv).toNat)
  case atStart => exact ⟨0, n, Nat.zero_le _, Nat.le_refl _, rfl, rfl, fun t ht => absurd ht (Nat.not_lt_zero _), fun t h1 h2 => by omega, HB0.out⟩
  case round =>
    obtain ⟨i, j, hij, hjn, rfl, rfl, h1, h2, hbel⟩ := hrel
    have HB := Lib.hid hbel
    have HL := Lib.hid h1
    have HR := Lib.hid h2
    clear h1 h2 hbel
    by_cases hlt : i < j
    · have q1 : decide ((i : Int) < (j : Int)) = true := decide_eq_true (by omega)
      have q1n : decide (i < j) = true := decide_eq_true hlt
      have hn := HN.out
      obtain ⟨h, hh⟩ : ∃ h, (i + j) / 2 = h := ⟨_, rfl⟩
      have q2 : IntKind.i64.wrap ((i : Int) + (j : Int)) = ((i + j : Nat) : Int) := (wrap_ok (by unfold I64; omega)).trans (by omega)
      go_wp2_with fail
      rw [show ((i : Int) + (j : Int)) / 2 = ((h : Nat) : Int) from by omega]
      refine (HP.out h (by omega) wr HB.out).mono ?_
      rintro e w2 ⟨rfl, hb⟩
      have HB2 := Lib.hid (HB.out.trans (hb.mono HB.out.size))
      have q3 : IntKind.i64.wrap ((h : Int) + 1) = ((h + 1 : Nat) : Int) := wrap_succ (show h < n by omega) (by omega)
      clear hb
      cases hph : p h with
      | false =>
        have HLN := Lib.hid (show ∀ t, t < h + 1 → p t = false from fun t ht => by
          cases hpt : p t with
          | false => rfl
          | true => rw [HM.out t h (by omega) (by omega) hpt] at hph; cases hph)
        clear hph
        go_wp2_with fail
        go_roundw
        case rel => exact ⟨h + 1, j, by omega, hjn, rfl, rfl, HLN.out, HR.out, HB2.out⟩
        case measure => simp only [Lib.intOf]; omega
      | true =>
        have HRN := Lib.hid (show ∀ t, h ≤ t → t < n → p t = true from fun t ht h3 => HM.out h t ht h3 hph)
        clear hph
        go_wp2_with fail
        go_roundw
        case rel => exact ⟨i, h, by omega, by omega, rfl, rfl, HL.out, HRN.out, HB2.out⟩
        case measure => simp only [Lib.intOf]; omega
    · have q1 : decide ((i : Int) < (j : Int)) = false := decide_eq_false (by omega)
      have q1n : decide (i < j) = false := decide_eq_false hlt
      obtain rfl : i = j := by omega
      have HF := Lib.hid (show F = i from by
        rw [← HF0.out]
        rcases Nat.lt_or_ge i n with h3 | h3
        · exact fst_eq h3 HL.out (HR.out i (Nat.le_refl _) h3)
        · obtain rfl : i = n := by omega
          exact fst_end HL.out)
      go_wp2_with fail
      go_ret
      exact ⟨by rw [HF.out]; rfl, HB.out⟩
/-- the first range that does not end ahead of a number is the only one that may have it -/
theorem rgt_pair {s : RS} (hr : rgt s.l) {i j : Nat} (hij : i < j) (hj : j < s.n) : (s.f i).2 + 1 < (s.f j).1 := by
  have h := hr.1
  rw [List.pairwise_iff_getElem] at h
  have := h i j (by rw [RS.len]; omega) (by rw [RS.len]; exact hj) hij
  simpa [RS.l] using this
theorem rgt_self {s : RS} (hr : rgt s.l) {i : Nat} (hi : i < s.n) : (s.f i).1 ≤ (s.f i).2 := hr.2 (s.f i) (by unfold RS.l; exact List.mem_map.2 ⟨i, List.mem_range.2 hi, rfl⟩)
theorem hasB_fst {s : RS} (hr : rgt s.l) (m : Int) : hasB s.l m = (decide (fst (fun i => decide (m ≤ (s.f i).2)) s.n < s.n) && hasB [s.f (fst (fun i => decide (m ≤ (s.f i).2)) s.n)] m) := by
  obtain ⟨k, hk⟩ : ∃ k, fst (fun i => decide (m ≤ (s.f i).2)) s.n = k := ⟨_, rfl⟩
  have h1 := fst_no (fun i => decide (m ≤ (s.f i).2)) s.n
  rw [hk] at h1 ⊢
  rw [Bool.eq_iff_iff, hasB_iff, Bool.and_eq_true, decide_eq_true_eq, hasB_iff]
  constructor
  · rintro ⟨r, hrm, h2, h3⟩
    unfold RS.l at hrm
    obtain ⟨t, ht, rfl⟩ := List.mem_map.1 hrm
    have ht := List.mem_range.1 ht
    have hkt : k ≤ t := by
      rcases Nat.lt_or_ge t k with h | h
      · have := h1 t h
        simp only [decide_eq_false_iff_not] at this
        exact absurd h3 this
      · exact h
    have hkn : k < s.n := by omega
    refine ⟨hkn, ?_⟩
    rcases Nat.lt_or_ge k t with h | h
    · have hp := rgt_pair hr h ht
      have hy := fst_yes (fun i => decide (m ≤ (s.f i).2)) s.n (by rw [hk]; exact hkn)
      rw [hk] at hy
      simp only [decide_eq_true_eq] at hy
      omega
    · obtain rfl : k = t := by omega
      exact ⟨_, List.mem_singleton.2 rfl, h2, h3⟩
  · rintro ⟨hkn, r, hrm, h2, h3⟩
    rw [List.mem_singleton] at hrm
    subst hrm
    exact ⟨s.f k, by unfold RS.l; exact List.mem_map.2 ⟨k, List.mem_range.2 hkn, rfl⟩, h2, h3⟩
set_option maxHeartbeats 8000000 in
theorem isIn1_ok (B g : Nat) (w : World) (s : RS) (m : Int) (hs : RSIn B w s) (hg : w.cell? ⟨g, 0, none⟩ = some (.slice s.a s.n s.cap)) (hg1 : w.cell? ⟨g + 1, 0, none⟩ = some (.int .i64 m)) (i : Nat) (hi : i < s.n) :
    Calls Tryz.prog 163 #[.int .i64 (i : Nat), .pointer (some ⟨g, 0, none⟩), .pointer (some ⟨g + 1, 0, none⟩)] w fun e w' => e = .returned (.bool (decide (m ≤ (s.f i).2))) ∧ Below w.heap.size w w' := by
  have HBN := Lib.hid (fun m => show Below w.heap.size w (w.drewN m) from ⟨rfl, rfl, rfl, Nat.le_refl _, fun _ _ => rfl⟩)
  obtain ⟨gx, ox, hix, _, hrd⟩ := hs.1.read 42 66 Tryz.underlying42 (by kernel_rfl) Tryz.sizeOf66 hi
  have c1 := hrd w rfl 1 _ rfl
  generalize (s.f i).2 = y at *
  generalize s.a = a at *
  generalize s.n = n at *
  generalize s.cap = cap at *
  have q1n : (i : Int) < (n : Int) := by omega
  clear hs hrd
  go_enter Tryz.func163, Tryz.ntmps163
  go_wp2_with fail
  go_quiet (fail)
  go_wp2_with fail
  go_ret
  exact ⟨rfl, by simpa using HBN.out nq⟩
end Go.Proofs.YtjhecpkdpomkmaaGreat

namespace Go.Proofs.YtjhecpkdpomkmaaGreat
open Go.RowKit
set_option linter.unusedVariables false
set_option linter.unusedSimpArgs false
set_option maxRecDepth 100000

theorem rgSlice (g o n cap k : Nat) (hk : k < n) (hc : n ≤ cap) (w : World) : (Instr.slice 42 (.slice (some ⟨g, o, none⟩) n cap) (some (.int .i64 (k : Nat))) (some (.int .i64 ((k : Int) + 1))) none).run Tryz.prog w = .ok (.slice (some ⟨g, o + k * 2, none⟩) 1 (cap - k)) w := by
  have he : Tryz.prog.elem 42 = 66 := by kernel_rfl
  rw [run_slice_lh (ht := by rw [he]; exact Tryz.underlying42) (h0 := by omega) (h1 := by omega) (h2 := by omega), he, Tryz.sizeOf66]
  simp [Result.andThen, sliced, Addr.add_mid, show ¬ cap = k by omega]
set_option maxHeartbeats 8000000 in
theorem isIn_ok (B : Nat) (w : World) (s : RS) (m : Int) (hs : RSIn B w s) (hB : B ≤ w.heap.size) (hr : rgt s.l) :
    Calls Tryz.prog 115 #[.slice s.a s.n s.cap, .int .i64 m] w fun e w' => e = .returned (.bool (hasB s.l m)) ∧ Below w.heap.size w w' := by
  have hb0 := (Below.refl w.heap.size w).alloc (Nat.le_refl _) (.cells #[.slice s.a s.n s.cap] 42)
  have hb1 := hb0.alloc hb0.size (.cells #[.int .i64 m] 3)
  have hxa := (Bx.new w #[.slice s.a s.n s.cap] 42).alloc (.cells #[.int .i64 m] 3)
  have hxb := Bx.new (w.alloc (.cells #[.slice s.a s.n s.cap] 42)) #[.int .i64 m] 3
  rw [World.size_alloc] at hxb
  have hsz : s.n ≤ 140737488355328 := by have := hs.1.1; have := hs.1.2.1; omega
  have HSE := Lib.hid (search_ok ((w.alloc (.cells #[.slice s.a s.n s.cap] 42)).alloc (.cells #[.int .i64 m] 3)) s.n 163 #[.pointer (some ⟨w.heap.size, 0, none⟩), .pointer (some ⟨w.heap.size + 1, 0, none⟩)] (fun i => decide (m ≤ (s.f i).2)) hsz (enters_of Tryz.func163 (by kernel_rfl) rfl)
    (fun i hi W hW => isIn1_ok w.heap.size w.heap.size W s m ((hs.below (Below.refl _ _) hB).below (hb1.trans (hW.mono hb1.size)) (Nat.le_refl _)) ((hxa.below hW hxa.lt).cell 0 rfl) ((hxb.below hW hxb.lt).cell 0 rfl) i hi)
    (fun i j hij hj hp => by
      simp only [decide_eq_true_eq] at hp ⊢
      rcases Nat.lt_or_ge i j with h | h
      · have := rgt_pair hr h hj
        have := rgt_self hr hj
        omega
      · obtain rfl : i = j := by omega
        exact hp))
  have HL := Lib.hid (hasB_fst hr m)
  have HB := Lib.hid hb1
  have HXA := Lib.hid hxa
  have HXB := Lib.hid hxb
  obtain ⟨k, hk⟩ : ∃ k, fst (fun i => decide (m ≤ (s.f i).2)) s.n = k := ⟨_, rfl⟩
  rw [hk] at HL HSE
  have HRW := Lib.hid (show k < s.n → ∀ W, Below w.heap.size w W → ∃ g o, s.a = some ⟨g, o, none⟩ ∧ s.n ≤ s.cap ∧ RSl W (.slice (some ⟨g, o + k * 2, none⟩) 1 (s.cap - k)) [s.f k] from fun hkn W hW => by
    obtain ⟨g, o, ha, hg, hc⟩ := hs.1.2.2.2 (by omega)
    refine ⟨g, o, ha, hs.1.1, fun r hr2 => ?_, .inl ⟨g, o + k * 2, s.cap - k, rfl, by have := hs.1.1; simp; omega, fun i hi => ?_⟩⟩
    · rw [List.mem_singleton] at hr2
      subst hr2
      exact hs.2 k hkn
    · have hi0 : i = 0 := by simpa using hi
      subst hi0
      have hg2 : g < w.heap.size := Nat.lt_of_lt_of_le hg hB
      have e1 := hc k hkn 0 _ rfl
      have e2 := hc k hkn 1 _ rfl
      rw [Nat.zero_mul, Nat.add_zero]
      exact ⟨(hW.cell (p := ⟨g, o + k * 2, none⟩) hg2).trans e1, (hW.cell (p := ⟨g, o + k * 2 + 1, none⟩) hg2).trans e2⟩)
  have hkle := fst_le (fun i => decide (m ≤ (s.f i).2)) s.n
  rw [hk] at hkle
  have c0 := hxa.cell 0 (v := .slice s.a s.n s.cap) rfl
  generalize hasB s.l m = res at *
  generalize s.f k = rk at *
  generalize s.a = a at *
  generalize s.n = n at *
  generalize s.cap = cap at *
  clear hk hs hB hr hb0 hb1 hxa hxb
  go_enter Tryz.func115, Tryz.ntmps115
  go_wp2_with fail
  refine HSE.out.mono ?_
  generalize (w.alloc (.cells #[.slice a n cap] 42)).alloc (.cells #[.int .i64 m] 3) = W1 at *
  rintro e w2 ⟨rfl, h2⟩
  have HB2 := Lib.hid (HB.out.trans (h2.mono HB.out.size))
  have HXA2 := Lib.hid (HXA.out.below h2 HXA.out.lt)
  have HXB2 := Lib.hid (HXB.out.below h2 HXB.out.lt)
  clear h2 c0 HSE HXA HXB HB
  obtain ⟨b, hb⟩ : ∃ b, w.heap.size = b := ⟨_, rfl⟩
  have HBE := Lib.hid hb
  rw [hb] at HXA2 HXB2 ⊢
  clear hb
  by_cases hlt : k < n
  · have q1 : decide ((k : Int) < (n : Int)) = true := decide_eq_true (by omega)
    have q1n : decide (k < n) = true := decide_eq_true hlt
    have q2 : IntKind.i64.wrap ((k : Int) + 1) = (k : Int) + 1 := (wrap_ok (by unfold I64; omega))
    obtain ⟨g, o, rfl, hnc, _⟩ := HRW.out hlt w2 HB2.out
    have hsl := rgSlice g o n cap k hlt hnc
    have HHAS := Lib.hid (fun (W : World) (hW : Below w2.heap.size w2 W) => by
      obtain ⟨g', o', ha, _, hrs⟩ := HRW.out hlt W (HB2.out.trans (hW.mono HB2.out.size))
      simp only [Option.some.injEq, Addr.mk.injEq] at ha
      obtain ⟨rfl, rfl, _⟩ := ha
      exact Has_ok W _ [rk] m hrs (by simp))
    have HZ := Lib.hid (show res = hasB [rk] m from by rw [HL.out, q1n]; rfl)
    rw [← HZ.out] at HHAS
    have HS := Lib.hid (show ∀ W, Below w2.heap.size w2 W → (W.cell? ⟨b, 0, none⟩ = some (.slice (some ⟨g, o, none⟩) n cap) ∧ W.cell? ⟨b + 1, 0, none⟩ = some (.int .i64 m)) from fun W hW => ⟨(HXA2.out.below hW HXA2.out.lt).cell 0 rfl, (HXB2.out.below hW HXB2.out.lt).cell 0 rfl⟩)
    have HBX0 := Lib.hid (Below.drew (Below.refl w2.heap.size w2))
    have HS0 := Lib.hid (HS.out _ HBX0.out)
    obtain ⟨y, hy⟩ : ∃ y, o + k * 2 = y := ⟨_, rfl⟩
    rw [hy] at hsl
    simp only [hy] at HHAS
    clear hlt hy HXA2 HXB2 hkle
    go_wp2_with fail
    go_region_held3 (fun W => W.cell? ⟨b, 0, none⟩ = some (.slice (some ⟨g, o, none⟩) n cap) ∧ W.cell? ⟨b + 1, 0, none⟩ = some (.int .i64 m)) (first | with_reducible exact HS1.out | with_reducible exact HS0.out) (first
      | (go_at_call 164; (with_reducible refine (HHAS.out _ HBX0.out).mono ?_); rintro e w3 ⟨rfl, h3⟩; have HBX1 := Lib.hid (HBX0.out.trans (h3.mono HBX0.out.size)); have HS1 := Lib.hid (HS.out _ HBX1.out); clear h3))
    go_wp2_with fail
    go_ret
    exact ⟨by first | rfl | simp, by first | exact HB2.out.trans (HBX1.out.mono HB2.out.size) | (rw [← HBE.out]; exact HB2.out.trans (HBX1.out.mono HB2.out.size))⟩
  · have q1 : decide ((k : Int) < (n : Int)) = false := decide_eq_false (by omega)
    have q1n : decide (k < n) = false := decide_eq_false hlt
    have HZ := Lib.hid (show res = false from by rw [HL.out, q1n]; rfl)
    have c0 := HXA2.out.cell 0 (v := .slice a n cap) rfl
    go_wp2_with fail
    go_quiet (fail)
    go_wp2_with fail
    go_ret
    exact ⟨by rw [HZ.out]; first | rfl | simp, by first | exact below_drewM HB2.out _ | (rw [← HBE.out]; exact below_drewM HB2.out _)⟩

set_option maxHeartbeats 8000000 in
theorem admits_ok (B : Nat) (w : World) (g x o : Nat) (d : TB) (i : Nat) (m : Int) (hR : RAt B w g x o d i) (hB : B ≤ w.heap.size) (hr : rgt (d.f i).set.l) :
    Calls Tryz.prog 70 #[rV g x o d.n d.cap, .int .i64 m] w fun e w' => e = .returned (.bool ((d.f i).admits m)) ∧ Below w.heap.size w w' := by
  unfold rV
  have hb0 := (Below.refl w.heap.size w).alloc (Nat.le_refl _) (.cells #[.pointer (some ⟨g, x, none⟩), .slice (some ⟨g, o, none⟩) d.n d.cap] 72)
  obtain ⟨p0, p1⟩ := rbox w g x o d.n d.cap
  have hc := hR.cells (w := w.alloc (.cells #[.pointer (some ⟨g, x, none⟩), .slice (some ⟨g, o, none⟩) d.n d.cap] 72)) (hb0.block g (Nat.lt_of_lt_of_le hR.lt hB))
  have c1 := hc.2.1
  have c2 := hc.2.2.1
  have HB := Lib.hid hb0
  have HIN := Lib.hid (isIn_ok w.heap.size (w.alloc (.cells #[.pointer (some ⟨g, x, none⟩), .slice (some ⟨g, o, none⟩) d.n d.cap] 72)) (d.f i).set m ((hR.row.2.1.below (Below.refl _ _) hB).below hb0 (Nat.le_refl _)) hb0.size hr)
  have HL := Lib.hid (show (d.f i).admits m = ((d.f i).ext || hasB (d.f i).set.l m) from rfl)
  generalize (d.f i).admits m = res at *
  generalize hasB (d.f i).set.l m = z at *
  generalize (d.f i).ext = ex at *
  generalize (d.f i).set.a = sa at *
  generalize (d.f i).set.n = sn at *
  generalize (d.f i).set.cap = sc at *
  clear hb0 hc hR hB hr
  cases ex with
  | true =>
    have HZ := Lib.hid (show res = true from by rw [HL.out]; rfl)
    go_enter Tryz.func70, Tryz.ntmps70
    go_wp2_with fail
    go_ret
    exact ⟨by rw [HZ.out]; first | rfl | simp, HB.out⟩
  | false =>
    have HZ := Lib.hid (show res = z from by rw [HL.out]; rfl)
    go_enter Tryz.func70, Tryz.ntmps70
    go_wp2_with fail
    refine HIN.out.mono ?_
    rintro e w2 ⟨rfl, h2⟩
    have HB2 := Lib.hid (HB.out.trans (h2.mono HB.out.size))
    clear h2
    go_wp2_with fail
    go_ret
    exact ⟨by rw [HZ.out]; first | rfl | simp, HB2.out⟩
set_option maxHeartbeats 8000000 in
theorem isSize_ok (B : Nat) (w : World) (g x o : Nat) (d : TB) (i : Nat) (m : Nat) (hR : RAt B w g x o d i) (hB : B ≤ w.heap.size) (hr : rgt (d.f i).set.l) :
    Calls Tryz.prog 72 #[rV g x o d.n d.cap, .int .i64 (m : Nat)] w fun e w' => e = .returned (.bool ((d.f i).isSize m)) ∧ Below w.heap.size w w' := by
  have hb0 := (Below.refl w.heap.size w).alloc (Nat.le_refl _) (.cells #[.pointer (some ⟨g, x, none⟩), .slice (some ⟨g, o, none⟩) d.n d.cap] 72)
  have HAD := Lib.hid (admits_ok w.heap.size (w.alloc (.cells #[.pointer (some ⟨g, x, none⟩), .slice (some ⟨g, o, none⟩) d.n d.cap] 72)) g x o d i (m : Nat) ((hR.below (Below.refl _ _) hB).below hb0 (Nat.le_refl _)) hb0.size hr)
  unfold rV at HAD ⊢
  obtain ⟨p0, p1⟩ := rbox w g x o d.n d.cap
  have HB := Lib.hid hb0
  have HL := Lib.hid (show (d.f i).isSize m = (decide (m ≤ 1048576) && (d.f i).admits (m : Nat)) from rfl)
  generalize (d.f i).isSize m = res at *
  generalize (d.f i).admits (m : Nat) = z at *
  clear hb0 hR hB hr
  by_cases h : m ≤ 1048576
  · have q1 : decide ((m : Int) ≤ 1048576) = true := decide_eq_true (by omega)
    have q1n : decide (m ≤ 1048576) = true := decide_eq_true h
    have HZ := Lib.hid (show res = z from by rw [HL.out, q1n]; rfl)
    go_enter Tryz.func72, Tryz.ntmps72
    go_wp2_with fail
    refine HAD.out.mono ?_
    rintro e w2 ⟨rfl, h2⟩
    have HB2 := Lib.hid (HB.out.trans (h2.mono HB.out.size))
    clear h2
    go_wp2_with fail
    go_ret
    exact ⟨by rw [HZ.out]; first | rfl | simp, HB2.out⟩
  · have q1 : decide ((m : Int) ≤ 1048576) = false := decide_eq_false (by omega)
    have q1n : decide (m ≤ 1048576) = false := decide_eq_false h
    have HZ := Lib.hid (show res = false from by rw [HL.out, q1n]; rfl)
    go_enter Tryz.func72, Tryz.ntmps72
    go_wp2_with fail
    go_ret
    exact ⟨by rw [HZ.out]; first | rfl | simp, HB.out⟩
end Go.Proofs.YtjhecpkdpomkmaaGreat
