/-
  A bundle of texts, one behind the other: MbV, MbV2, MbV3, MbA3.
-/
import Derived.Test.YtjhecpkdpomkmaaGreatQC
import Derived.Test.YtjhecpkdpomkmaaGreatQH
import Derived.Test.YtjhecpkdpomkmaaGreatQGA
namespace Go.Proofs.YtjhecpkdpomkmaaGreat
open Go.RowKit
set_option linter.unusedVariables false
set_option linter.unusedSimpArgs false
set_option maxRecDepth 100000

theorem byteAt_eq {s : ByteArray} {i : Nat} (h : i < s.size) : (s[i]'h).toNat = byteAt s i := by
  unfold byteAt
  rw [getElem!_pos s.data i h]
  rfl
def RelFr (s : ByteArray) (W : World) (iv : Value) (wr : World) : Prop := ∃ i : Nat, i ≤ s.size ∧ iv = .int .i64 (i : Nat) ∧ allN (rises s) i = true ∧ ∃ n, wr = W.drewN n
set_option maxHeartbeats 8000000 in
theorem isFromRight_ok (w : World) (r : DT) (hs : r.fr.size ≤ 140737488355328) :
    Calls Tryz.prog 142 #[.agg r.cells.toArray] w fun e w' => e = .returned (.bool r.fromOk) ∧ Below w.heap.size w w' := by
  have hx := Bx.new w r.cells.toArray 46
  have c0 := hx.cell 0 (v := .int .i64 r.kind) rfl
  have c5 := hx.cell 5 (v := .string r.fr) rfl
  have hb := (Below.refl w.heap.size w).alloc (Nat.le_refl _) (.cells r.cells.toArray 46)
  have HBN := Lib.hid (fun m => show Below w.heap.size w ((w.alloc (.cells r.cells.toArray 46)).drewN m) from ⟨hb.os, hb.tape, hb.output, hb.size, hb.block⟩)
  have HL := Lib.hid (show r.fromOk = if r.kind = 7 then allN (rises r.fr) r.fr.size else decide (r.fr.size = 0) from rfl)
  obtain ⟨res, hz⟩ : ∃ z, r.fromOk = z := ⟨_, rfl⟩
  obtain ⟨kd, hkd⟩ : ∃ kd, r.kind = kd := ⟨_, rfl⟩
  obtain ⟨s, hfr⟩ : ∃ s, r.fr = s := ⟨_, rfl⟩
  rw [hz] at HL ⊢
  rw [hkd] at c0 HL
  rw [hfr] at c5 HL hs
  clear hz hkd hfr hx hb
  by_cases h7 : kd = 7
  · subst h7
    have HRES := Lib.hid (show allN (rises s) s.size = res from HL.out.symm)
    clear HL
    go_enter Tryz.func142, Tryz.ntmps142
    go_wp2_with fail
    generalize w.alloc (.cells r.cells.toArray 46) = W1 at *
    go_loopw [13] (fun iv wr => RelFr s W1 iv wr) (fun iv _ => s.size - (Lib.intOf iv).toNat)
    case atStart => exact ⟨0, Nat.zero_le _, rfl, rfl, 0, rfl⟩
    case round =>
      obtain ⟨i, hi, rfl, hall, m, rfl⟩ := hrel
      have HA := Lib.hid hall
      clear hall
      by_cases hlt : i < s.size
      · have q1 : decide ((i : Int) < (s.size : Int)) = true := decide_eq_true (by omega)
        have q1n : decide (i < s.size) = true := decide_eq_true hlt
        obtain ⟨x, hx⟩ : ∃ x, byteAt s i = x := ⟨_, rfl⟩
        have e1 : (s[i]'hlt).toNat = x := (byteAt_eq hlt).trans hx
        have q3 : (i : Int) < (s.size : Int) := by omega
        have q4 : (0 : Int) ≤ (i : Int) := by omega
        have q5 : IntKind.i64.wrap ((i : Int) + 1) = ((i + 1 : Nat) : Int) := wrap_succ hlt (by omega)
        have HX := Lib.hid hx
        have HI := Lib.hid hi
        clear hx hi
        by_cases h1 : 128 ≤ x
        · have HN := Lib.hid (allN_no (f := rises s) hlt (by unfold rises; rw [HX.out, decide_eq_false (by omega)]; rfl))
          obtain rfl : res = false := by rw [← HRES.out, HN.out]
          have q6 : decide ((128 : Int) ≤ (x : Int)) = true := decide_eq_true (by omega)
          have q6n : decide (128 ≤ x) = true := decide_eq_true h1
          go_wp2_with fail
          go_quiet (fail)
          go_wp2_with fail
          go_ret
          exact ⟨rfl, by simpa using HBN.out (m + nq)⟩
        · have q6 : decide ((128 : Int) ≤ (x : Int)) = false := decide_eq_false (by omega)
          have q6n : decide (128 ≤ x) = false := decide_eq_false h1
          by_cases h0 : 0 < i
          · have q8 : decide ((0 : Int) < (i : Int)) = true := decide_eq_true (by omega)
            have q8n : decide (0 < i) = true := decide_eq_true h0
            obtain ⟨j, hij⟩ : ∃ j, j + 1 = i := ⟨i - 1, by omega⟩
            have hjl : j < s.size := by omega
            obtain ⟨y, hy⟩ : ∃ y, byteAt s j = y := ⟨_, rfl⟩
            have e2 : (s[j]'hjl).toNat = y := (byteAt_eq hjl).trans hy
            have q3j : (j : Int) < (s.size : Int) := by omega
            have q4j : (0 : Int) ≤ (j : Int) := by omega
            have q9 : IntKind.i64.wrap ((i : Int) - 1) = (j : Int) := (wrap_ok (x := (i : Int) - 1) (by unfold I64; omega)).trans (by omega)
            have HP := Lib.hid (show rises s i = !decide (x ≤ y) by
              unfold rises
              rw [HX.out, show i - 1 = j by omega, hy, decide_eq_true (show x < 128 by omega), decide_eq_false (show ¬ i = 0 by omega)]
              simp only [Bool.true_and, Bool.false_or]
              by_cases h : x ≤ y
              · rw [decide_eq_true h, decide_eq_false (by omega)]; rfl
              · rw [decide_eq_false h, decide_eq_true (by omega)]; rfl)
            clear hy hij
            by_cases h3 : x ≤ y
            · have q10 : decide ((x : Int) ≤ (y : Int)) = true := decide_eq_true (by omega)
              have q10n : decide (x ≤ y) = true := decide_eq_true h3
              have HN := Lib.hid (allN_no (f := rises s) hlt (by rw [HP.out, q10n]; rfl))
              obtain rfl : res = false := by rw [← HRES.out, HN.out]
              go_wp2_with fail
              go_quiet (fail)
              go_wp2_with fail
              go_ret
              exact ⟨rfl, by simpa using HBN.out (m + nq)⟩
            · have q10 : decide ((x : Int) ≤ (y : Int)) = false := decide_eq_false (by omega)
              have q10n : decide (x ≤ y) = false := decide_eq_false h3
              have HN := Lib.hid (allN_succ (f := rises s) HA.out (by rw [HP.out, q10n]; rfl))
              go_wp2_with fail
              go_quiet (fail)
              go_wp2_with fail
              go_roundw
              case rel => exact ⟨i + 1, hlt, rfl, HN.out, m + nq, by simp⟩
              case measure => simp only [Lib.intOf]; omega
          · have q8 : decide ((0 : Int) < (i : Int)) = false := decide_eq_false (by omega)
            have q8n : decide (0 < i) = false := decide_eq_false h0
            have HN := Lib.hid (allN_succ (f := rises s) HA.out (by unfold rises; rw [HX.out, decide_eq_true (show x < 128 by omega), decide_eq_true (show i = 0 by omega)]; rfl))
            go_wp2_with fail
            go_quiet (fail)
            go_wp2_with fail
            go_roundw
            case rel => exact ⟨i + 1, hlt, rfl, HN.out, m + nq, by simp⟩
            case measure => simp only [Lib.intOf]; omega
      · have q1 : decide ((i : Int) < (s.size : Int)) = false := decide_eq_false (by omega)
        have q1n : decide (i < s.size) = false := decide_eq_false hlt
        obtain rfl : i = s.size := by omega
        obtain rfl : res = true := by rw [← HRES.out, HA.out]
        go_wp2_with fail
        go_ret
        exact ⟨rfl, HBN.out _⟩
  · have q7 : (kd != 7) = true := bne_iff_ne.2 h7
    obtain ⟨b, hb⟩ : ∃ b, (s.toList == ([] : List UInt8)) = b := ⟨_, rfl⟩
    have HZ := Lib.hid (show res = b from by
      rw [HL.out, if_neg h7, ← hb, Bool.eq_iff_iff, decide_eq_true_iff, beq_iff_eq]
      rw [ByteArray.toList_eq]
      constructor
      · intro h
        exact List.eq_nil_of_length_eq_zero (by rw [Array.length_toList]; exact h)
      · intro h
        have := congrArg List.length h
        rw [Array.length_toList] at this
        exact this)
    have hb2 : s.toList.isEmpty = b := by rw [← hb]; cases s.toList <;> rfl
    have HB0 := Lib.hid (HBN.out 0)
    clear h7 hb
    go_enter Tryz.func142, Tryz.ntmps142
    go_wp2_with fail
    go_ret
    exact ⟨by rw [HZ.out]; first | rfl | simp, HB0.out⟩
end Go.Proofs.YtjhecpkdpomkmaaGreat

namespace Go.Proofs.YtjhecpkdpomkmaaGreat
open Go.RowKit
set_option linter.unusedVariables false
set_option linter.unusedSimpArgs false
set_option maxRecDepth 100000

theorem index_R (g o n cap i : Nat) (hi : i < n) (w : World) : (Instr.indexAt 42 (.slice (some ⟨g, o, none⟩) n cap) (.int .i64 (i : Nat))).run Tryz.prog w = .ok (.pointer (some ⟨g, o + i * 2, none⟩)) w := by
  have he : Tryz.prog.elem 42 = 66 := by kernel_rfl
  rw [run_indexAt_slice (h := by rw [he]; exact Tryz.underlying42), if_pos (by omega), he, Tryz.sizeOf66]
  simp [Result.andThen, Addr.add_mid]
theorem list_eq_iff {a b : List Rg} {n : Nat} (ha : a.length = n) (hb : b.length = n) : a = b ↔ ∀ i, i < n → a[i]! = b[i]! := by
  constructor
  · intro h i _; rw [h]
  · intro h
    refine List.ext_getElem (by omega) fun i h1 h2 => ?_
    have := h i (by omega)
    rwa [getElem!_pos a i h1, getElem!_pos b i h2] at this
def RelRq (w : World) (a b : List Rg) (iv : Value) (wr : World) : Prop := ∃ i : Nat, i ≤ a.length ∧ iv = .int .i64 (i : Nat) ∧ (∀ j, j < i → a[j]! = b[j]!) ∧ ∃ n, wr = w.drewN n
set_option maxHeartbeats 8000000 in
theorem eqRg_ok (w : World) (v v' : Value) (a b : List Rg) (ha : RSl w v a) (hb : RSl w v' b) (hn : a.length ≤ 1000000) (hm : b.length ≤ 1000000) :
    Calls Tryz.prog 236 #[v, v'] w fun e w' => e = .returned (.bool (decide (a = b))) ∧ Below w.heap.size w w' := by
  have HBN := Lib.hid (fun m => show Below w.heap.size w (w.drewN m) from ⟨rfl, rfl, rfl, Nat.le_refl _, fun _ _ => rfl⟩)
  by_cases hl : a.length = b.length
  · rcases Nat.eq_zero_or_pos a.length with h0 | h0
    · obtain rfl : a = [] := List.length_eq_zero_iff.1 h0
      obtain rfl : b = [] := List.length_eq_zero_iff.1 (by rw [← hl]; rfl)
      obtain ⟨p, c, rfl⟩ := ha.shape
      obtain ⟨p', c', rfl⟩ := hb.shape
      simp only [List.length_nil]
      clear ha hb hn hm hl h0
      go_enter Tryz.func236, Tryz.ntmps236
      go_wp2_with fail
      go_loopw [13] (fun iv wr => iv = .int .i64 0 ∧ wr = w) (fun _ _ => 0)
      case atStart => exact ⟨rfl, rfl⟩
      case round =>
        obtain ⟨rfl, rfl⟩ := hrel
        go_wp2_with fail
        go_ret
        exact ⟨by simp, HBN.out 0⟩
    · obtain ⟨g, o, cap, rfl, hc, hg, hd⟩ := ha.at h0
      obtain ⟨g', o', cap', rfl, hc', hg', hd'⟩ := hb.at (by omega)
      obtain ⟨n, hln⟩ : ∃ n, a.length = n := ⟨_, rfl⟩
      have hlb : b.length = n := by omega
      have HEQ := Lib.hid (list_eq_iff hln hlb)
      have HD := Lib.hid (show ∀ i, i < n → w.cell? ⟨g, o + i * 2, none⟩ = some (.int .i64 a[i]!.1) ∧ w.cell? ⟨g, o + i * 2 + 1, none⟩ = some (.int .i64 a[i]!.2) from fun i hi => hd i (by omega))
      have HD' := Lib.hid (show ∀ i, i < n → w.cell? ⟨g', o' + i * 2, none⟩ = some (.int .i64 b[i]!.1) ∧ w.cell? ⟨g', o' + i * 2 + 1, none⟩ = some (.int .i64 b[i]!.2) from fun i hi => hd' i (by omega))
      obtain ⟨res, hres⟩ : ∃ res, decide (a = b) = res := ⟨_, rfl⟩
      have HRES := Lib.hid hres
      have HLA := Lib.hid hln
      rw [hln] at hn
      have HSZ := Lib.hid hn
      rw [hres, hln, hlb]
      have q0 : ((n : Int) != (n : Int)) = false := by simp
      clear ha hb hc hc' hd hd' hg hg' hres hl hm hlb hln hn h0
      go_enter Tryz.func236, Tryz.ntmps236
      go_wp2_with fail
      go_loopw [13] (fun iv wr => RelRq w a b iv wr) (fun iv _ => n - (Lib.intOf iv).toNat)
      case atStart => exact ⟨0, Nat.zero_le _, rfl, fun j hj => absurd hj (Nat.not_lt_zero _), 0, rfl⟩
      case round =>
        obtain ⟨i, hi, rfl, hall, m, rfl⟩ := hrel
        rw [HLA.out] at hi
        have HA := Lib.hid hall
        clear hall
        by_cases hlt : i < n
        · have q1 : decide ((i : Int) < (n : Int)) = true := decide_eq_true (by omega)
          have q1n : decide (i < n) = true := decide_eq_true hlt
          have q5 : IntKind.i64.wrap ((i : Int) + 1) = ((i + 1 : Nat) : Int) := wrap_succ hlt (by have := HSZ.out; omega)
          have x1 := index_R g o n cap i hlt
          have x2 := index_R g' o' n cap' i hlt
          obtain ⟨c1, c2⟩ := HD.out i hlt
          obtain ⟨d1, d2⟩ := HD'.out i hlt
          generalize o + i * 2 = y at *
          generalize o' + i * 2 = y' at *
          have HX := Lib.hid (show (a[i]! = b[i]!) ↔ (a[i]!.1 = b[i]!.1 ∧ a[i]!.2 = b[i]!.2) from Prod.ext_iff)
          generalize a[i]!.1 = u1 at *
          generalize a[i]!.2 = u2 at *
          generalize b[i]!.1 = t1 at *
          generalize b[i]!.2 = t2 at *
          by_cases e1 : u1 = t1
          · subst e1
            by_cases e2 : u2 = t2
            · subst e2
              have HN := Lib.hid (show ∀ j, j < i + 1 → a[j]! = b[j]! from fun j hj => by
                rcases Nat.lt_or_ge j i with h2 | h2
                · exact HA.out j h2
                · obtain rfl : j = i := by omega
                  exact HX.out.2 ⟨rfl, rfl⟩)
              have z1 : (u1 == u1) = true := by simp
              have z2 : (u2 == u2) = true := by simp
              go_wp2_with fail
              go_quiet (fail)
              go_wp2_with fail
              go_roundw
              case rel => exact ⟨i + 1, by rw [HLA.out]; exact hlt, rfl, HN.out, m + nq, by simp⟩
              case measure => simp only [Lib.intOf]; omega
            · have HN := Lib.hid (show res = false from by rw [← HRES.out]; exact decide_eq_false fun h => e2 (HX.out.1 (HEQ.out.1 h i hlt)).2)
              have z1 : (u1 == u1) = true := by simp
              have z2 : (u2 == t2) = false := beq_eq_false_iff_ne.2 e2
              clear e2
              go_wp2_with fail
              go_quiet (fail)
              go_wp2_with fail
              go_ret
              exact ⟨by rw [HN.out]; rfl, by simpa using HBN.out (m + nq)⟩
          · have HN := Lib.hid (show res = false from by rw [← HRES.out]; exact decide_eq_false fun h => e1 (HX.out.1 (HEQ.out.1 h i hlt)).1)
            have z1 : (u1 == t1) = false := beq_eq_false_iff_ne.2 e1
            clear e1
            go_wp2_with fail
            go_quiet (fail)
            go_wp2_with fail
            go_ret
            exact ⟨by rw [HN.out]; rfl, by simpa using HBN.out (m + nq)⟩
        · have q1 : decide ((i : Int) < (n : Int)) = false := decide_eq_false (by omega)
          have q1n : decide (i < n) = false := decide_eq_false hlt
          obtain rfl : i = n := by omega
          have HN := Lib.hid (show res = true from by rw [← HRES.out]; exact decide_eq_true (HEQ.out.2 HA.out))
          go_wp2_with fail
          go_ret
          exact ⟨by rw [HN.out]; rfl, HBN.out m⟩
  · have q0 : ((a.length : Int) != (b.length : Int)) = true := bne_iff_ne.2 (by omega)
    have HN := Lib.hid (show decide (a = b) = false from decide_eq_false fun h => hl (by rw [h]))
    obtain ⟨p, c, rfl⟩ := ha.shape
    obtain ⟨p', c', rfl⟩ := hb.shape
    generalize a.length = n at *
    generalize b.length = n' at *
    rw [HN.out]
    clear ha hb hn hm hl
    go_enter Tryz.func236, Tryz.ntmps236
    go_wp2_with fail
    go_ret
    exact ⟨rfl, HBN.out 0⟩
end Go.Proofs.YtjhecpkdpomkmaaGreat

namespace Go.Proofs.YtjhecpkdpomkmaaGreat
open Go.RowKit
set_option linter.unusedVariables false
set_option linter.unusedSimpArgs false
set_option maxRecDepth 100000

def zCT : CT := .mk 0 0 0 false false none 0 0 (fun _ => .nil)
theorem row_none (W : World) (k : Nat) (f : Nat → List Value) : RowAt 0 W none 0 0 k f := ⟨Nat.le_refl _, by decide, fun _ => ⟨rfl, rfl⟩, fun h => absurd h (by omega)⟩
theorem zCT_in (W : World) : CIn 0 W zCT := ⟨⟨by unfold I64; omega, by unfold I64; omega, by unfold I64; omega⟩, row_none _ _ _, fun i h => absurd h (by omega)⟩
open Classical in
set_option maxHeartbeats 4000000 in
theorem isNormalized_ok (w : World) (v : Value) (l : List Rg) (h : RSl w v l) (hl : l.length ≤ 1000) :
    Calls Tryz.prog 197 #[v] w fun e w' => e = .returned (.bool (decide (rgt l))) ∧ Below w.heap.size w w' := by
  have hs := Set_ok zCT 0 w v l (zCT_in w) (Nat.zero_le _) h (by decide) hl
  have HS := Lib.hid hs
  have HV := Lib.hid h
  have HLL := Lib.hid hl
  obtain ⟨p, c, rfl⟩ := h.shape
  simp only [zCT, CT.v, CT.cells] at HS
  obtain ⟨n, hn⟩ : ∃ n, l.length = n := ⟨_, rfl⟩
  rw [hn]
  rw [hn] at HS
  have HN := Lib.hid hn
  clear hs hl hn
  go_enter Tryz.func197, Tryz.ntmps197
  go_wp2_with fail
  refine HS.out.mono ?_
  rintro e w1 ⟨v', r, rfl, ha, hb⟩
  have HB1 := Lib.hid hb
  have hr : Says r (mem l) := ⟨ha.2.1.1, ha.2.1.2.1, fun x hx => (ha.2.1.2.2 x hx).trans (by
    show mem l x ∧ adm zCT 40 x = true ↔ mem l x
    exact ⟨fun h => h.1, fun h => ⟨h, rfl⟩⟩)⟩
  have hq := eqRg_ok w1 _ v' l r (HV.out.below hb) ha.1 (by have := HLL.out; omega) (by have := ha.2.2; omega)
  rw [HN.out] at hq
  have HQ := Lib.hid hq
  clear hq
  have HE := Lib.hid (show decide (l = r) = decide (rgt l) from decide_eq_decide.2 (rgt_iff_norm hr HV.out.bd))
  rw [HE.out] at HQ
  clear ha hb hr HS HE
  go_wp2_with fail
  refine HQ.out.mono ?_
  rintro e w2 ⟨rfl, h2⟩
  have HB2 := Lib.hid (HB1.out.trans (h2.mono HB1.out.size))
  clear h2 HQ
  go_wp2_with fail
  go_ret
  exact ⟨rfl, HB2.out⟩

def zTT (k : Int) : TT := .mk k ⟨#[]⟩ zCT false ⟨#[]⟩ ⟨none, 0, 0, fun _ => ⟨#[]⟩⟩ ⟨none, 0, 0, fun _ => ⟨#[]⟩⟩ ⟨none, 0, 0, fun _ => ⟨⟨#[]⟩, false, ⟨none, 0, 0, fun _ => .nil⟩⟩⟩ (fun _ => .nil) ⟨none, 0, 0, fun _ => ⟨⟨#[]⟩, false, ⟨none, 0, 0, fun _ => .nil⟩⟩⟩ (fun _ => .nil) none 0 0 (fun _ => .nil)
theorem zTT_in (W : World) (k : Int) (hk : I64 k) : TIn 0 W (zTT k) :=
  ⟨⟨hk, by decide, zCT_in W, by decide, ⟨row_none _ _ _, fun i h => absurd h (by simp)⟩, ⟨row_none _ _ _, fun i h => absurd h (by simp)⟩⟩,
   ⟨row_none _ _ _, fun i h => absurd h (by simp)⟩, ⟨row_none _ _ _, fun i h => absurd h (by simp)⟩, ⟨row_none _ _ _, fun i h => absurd h (by simp)⟩⟩
open Classical in
theorem setOk_of {r : DT} {q : List Rg} (hq : Says q (mem r.set.l)) (hb : Bd r.set.l) :
    r.setOk = ((eOk q == hasSet r.kind) && ((r.lo == eLo q) && ((r.hi == eHi q) && (decide (rgt r.set.l) && ((r.kind == 2) || decide (0 ≤ eLo q)))))) := by
  unfold DT.setOk
  by_cases h : rgt r.set.l
  · obtain rfl : r.set.l = q := (rgt_iff_norm hq hb).2 h
    rw [decide_eq_true h]
    have : eOk r.set.l = decide (0 < r.set.n) := by unfold eOk; rw [RS.len]
    rw [this]
    cases (decide (0 < r.set.n) == hasSet r.kind) <;> cases (r.lo == eLo r.set.l) <;> cases (r.hi == eHi r.set.l) <;> rfl
  · rw [decide_eq_false h]
    simp
open Classical in
set_option maxHeartbeats 16000000 in
theorem isSetRight_ok (B : Nat) (w : World) (r : DT) (hr : DTIn B w r) (hB : B ≤ w.heap.size) (hsz : r.set.n ≤ 1000) :
    Calls Tryz.prog 141 #[.agg r.cells.toArray] w fun e w' => e = .returned (.bool r.setOk) ∧ Below w.heap.size w w' := by
  have hx := Bx.new w r.cells.toArray 46
  have hb := (Below.refl w.heap.size w).alloc (Nat.le_refl _) (.cells r.cells.toArray 46)
  have HX := Lib.hid hx
  have HB0 := Lib.hid hb
  have c0 := hx.cell 0 (v := .int .i64 r.kind) rfl
  have HXR := Lib.hid (show ∀ (g : Nat) (W : World), Bx W g r.cells.toArray 46 → W.cell? ⟨g, 0, none⟩ = some (.int .i64 r.kind) ∧ W.cell? ⟨g, 2, none⟩ = some (.slice r.set.a r.set.n r.set.cap) ∧ W.cell? ⟨g, 3, none⟩ = some (.int .i64 r.lo) ∧ W.cell? ⟨g, 4, none⟩ = some (.int .i64 r.hi) from fun g W h => ⟨h.cell 0 rfl, h.cell 2 rfl, h.cell 3 rfl, h.cell 4 rfl⟩)
  have hof := fun (W : World) => Of_ok (zTT r.kind) 0 W (zTT_in W _ hr.1.1) (Nat.zero_le _) (by show 2 * zCT.sz ≤ 200; decide)
  have hends := fun (W : World) (hb : Below w.heap.size w W) => Ends_ok W r.set.v r.set.l ((hr.2.1.below hb hB).rsl) (by rw [RS.len]; omega)
  have hnz := fun (W : World) (hb : Below w.heap.size w W) => isNormalized_ok W r.set.v r.set.l ((hr.2.1.below hb hB).rsl) (by rw [RS.len]; omega)
  have HSET := Lib.hid (fun (q : List Rg) (hq : Says q (mem r.set.l)) => setOk_of hq hr.2.1.rsl.bd)
  rw [show ofB (zTT r.kind) = hasSet r.kind from rfl] at hof
  simp only [zTT, zCT, TT.cells, CT.cells, SL.v, PL.v, RS.v, List.cons_append, List.nil_append] at hof hends hnz
  have HOF := Lib.hid hof
  have HEN := Lib.hid hends
  have HNZ := Lib.hid hnz
  clear hof hends hnz
  generalize r.setOk = res at *
  generalize hasSet r.kind = hs at *
  generalize r.kind = kd at *
  generalize r.lo = lo at *
  generalize r.hi = hi at *
  generalize decide (rgt r.set.l) = nz at *
  clear hx hb hr hB hsz
  go_enter Tryz.func141, Tryz.ntmps141
  go_wp2_with fail
  refine (HOF.out _).mono ?_
  rintro e w1 ⟨v1, r1, rfl, ha, h1⟩
  have HB1 := Lib.hid (HB0.out.trans (h1.mono HB0.out.size))
  have HX1 := Lib.hid (HX.out.below h1 HX.out.lt)
  clear ha h1 c0 HB0 HX HOF
  obtain ⟨g, hg⟩ : ∃ g, w.heap.size = g := ⟨_, rfl⟩
  have HG := Lib.hid hg
  rw [hg] at HX1 ⊢
  clear hg
  obtain ⟨c0, c2, c3, c4⟩ := HXR.out g _ HX1.out
  go_wp2_with fail
  refine (HEN.out _ HB1.out).mono ?_
  rintro e w2 ⟨q, rfl, hq, h2⟩
  have HB2 := Lib.hid (HB1.out.trans (h2.mono HB1.out.size))
  have HX2 := Lib.hid (HX1.out.below h2 HX1.out.lt)
  have HS := Lib.hid (HSET.out q hq)
  clear hq h2 c0 c2 c3 c4 HB1 HX1 HEN HSET
  obtain ⟨c0, c2, c3, c4⟩ := HXR.out g _ HX2.out
  have HN := Lib.hid (HNZ.out _ HB2.out)
  generalize eOk q = ok1 at *
  generalize eLo q = lo1 at *
  generalize eHi q = hi1 at *
  cases h1 : (ok1 == hs) with
  | false =>
    have HZ := Lib.hid (show res = false from by rw [HS.out, h1]; rfl)
    clear HS
    go_wp2_with fail
    go_ret
    exact ⟨by rw [HZ.out]; rfl, by first | exact HB2.out | (rw [← HG.out]; exact HB2.out)⟩
  | true =>
  cases h3 : (lo == lo1) with
  | false =>
    have HZ := Lib.hid (show res = false from by rw [HS.out, h3]; simp)
    clear HS
    go_wp2_with fail
    go_ret
    exact ⟨by rw [HZ.out]; rfl, by first | exact HB2.out | (rw [← HG.out]; exact HB2.out)⟩
  | true =>
  cases h4 : (hi == hi1) with
  | false =>
    have HZ := Lib.hid (show res = false from by rw [HS.out, h4]; simp)
    clear HS
    go_wp2_with fail
    go_ret
    exact ⟨by rw [HZ.out]; rfl, by first | exact HB2.out | (rw [← HG.out]; exact HB2.out)⟩
  | true =>
  have HS2 := Lib.hid (show res = (nz && ((kd == 2) || decide (0 ≤ lo1))) from by rw [HS.out, h1, h3, h4]; rfl)
  clear HS HNZ
  go_wp2_with fail
  refine HN.out.mono ?_
  rintro e w3 ⟨rfl, hb3⟩
  have HB3 := Lib.hid (HB2.out.trans (hb3.mono HB2.out.size))
  have HX3 := Lib.hid (HX2.out.below hb3 HX2.out.lt)
  clear hb3 c0 c2 c3 c4 HN HB2 HX2
  obtain ⟨c0, c2, c3, c4⟩ := HXR.out g _ HX3.out
  cases nz with
  | false =>
    have HZ := Lib.hid (show res = false from by rw [HS2.out]; rfl)
    go_wp2_with fail
    go_ret
    exact ⟨by rw [HZ.out]; rfl, by first | exact HB3.out | (rw [← HG.out]; exact HB3.out)⟩
  | true =>
    cases h5 : (kd == 2) with
    | true =>
      have HZ := Lib.hid (show res = true from by rw [HS2.out, h5]; rfl)
      go_wp2_with fail
      go_ret
      exact ⟨by rw [HZ.out]; rfl, by first | exact HB3.out | (rw [← HG.out]; exact HB3.out)⟩
    | false =>
      obtain ⟨b, hb⟩ : ∃ b, decide (0 ≤ lo1) = b := ⟨_, rfl⟩
      have HZ := Lib.hid (show res = b from by rw [HS2.out, h5, hb]; rfl)
      go_wp2_with fail
      go_ret
      exact ⟨by rw [HZ.out]; rfl, by first | exact HB3.out | (rw [← HG.out]; exact HB3.out)⟩
end Go.Proofs.YtjhecpkdpomkmaaGreat

namespace Go.Proofs.YtjhecpkdpomkmaaGreat
open Go.RowKit
set_option linter.unusedVariables false
set_option linter.unusedSimpArgs false
set_option maxRecDepth 100000

def noSL : SL := ⟨none, 0, 0, fun _ => ⟨#[]⟩⟩
def zVT (k : Int) : VT := .mk k 0 ⟨#[]⟩ noSL none 0 0 (fun _ => .nil)
theorem noSL_in (B : Nat) (W : World) : SLIn B W noSL := ⟨(row_none W 1 _).mono (Nat.zero_le B), fun i h => absurd h (Nat.not_lt_zero i)⟩
theorem bare_same (k m : Int) (s : ByteArray) (nm : SL) (a : Option Addr) (n cap : Nat) (ch : Nat → VT) :
    (VT.mk k m s nm a n cap ch).same (zVT k) = (decide (m = 0) && decide (s.size = 0) && decide (nm.n = 0) && decide (n = 0)) := by
  have e1 : (k == k) = true := by simp
  have e2 : (m == (0 : Int)) = decide (m = 0) := by by_cases h : m = 0 <;> simp [h]
  have e3 : sEq s ⟨#[]⟩ = decide (s.size = 0) := by
    rw [sEq_eq]
    refine decide_eq_decide.2 ⟨fun h => by rw [h]; rfl, fun h => ?_⟩
    exact ByteArray.ext (Array.eq_empty_of_size_eq_zero h)
  have e4 : nm.same noSL = decide (nm.n = 0) := by
    unfold SL.same noSL
    by_cases h : nm.n = 0
    · rw [h]; rfl
    · rw [decide_eq_false h]; rfl
  have e5 : (decide (n = 0) && allN (fun i => (ch i).same VT.nil) n) = decide (n = 0) := by
    by_cases h : n = 0
    · rw [h]; rfl
    · rw [decide_eq_false h]; rfl
  show ((k == k) && ((m == 0) && (sEq s ⟨#[]⟩ && (nm.same noSL && (decide (n = 0) && allN (fun i => (ch i).same VT.nil) n))))) = _
  rw [e1, e2, e3, e4, e5]
  cases decide (m = 0) <;> cases decide (s.size = 0) <;> cases decide (nm.n = 0) <;> rfl
set_option maxHeartbeats 16000000 in
theorem isBare_ok (B : Nat) (w : World) (k m : Int) (s : ByteArray) (nm : SL) (a : Option Addr) (n cap : Nat) (ch : Nat → VT) (hx : VIn B w (.mk k m s nm a n cap ch)) (hB : B ≤ w.heap.size) :
    Calls Tryz.prog 69 #[.agg (VT.mk k m s nm a n cap ch).cells.toArray] w fun e w' => e = .returned (.bool (bare k m s.size nm.n n)) ∧ Below w.heap.size w w' := by
  have hx' := hx.below (Below.refl w.heap.size w) hB
  have hSM := fun (m' : Int) (s' : ByteArray) (nm' : SL) (a' : Option Addr) (n' cap' : Nat) (hm : m' = m ∨ m' = 0) (hs : s' = s ∨ s' = ⟨#[]⟩) (hn : nm' = nm ∨ nm' = noSL) (ha : (a' = a ∧ n' = n ∧ cap' = cap) ∨ (a' = none ∧ n' = 0 ∧ cap' = 0)) (W : World) (hb : Below w.heap.size w W) =>
    show Calls Tryz.prog 16 #[.agg #[.int .i64 k, .int .i64 m', .string s', .slice nm'.a nm'.n nm'.cap, .slice a' n' cap'], .agg #[.int .i64 k, .int .i64 0, .string ⟨#[]⟩, .slice none 0 0, .slice none 0 0]] W fun e w' => e = .returned (.bool (decide (m' = 0) && decide (s'.size = 0) && decide (nm'.n = 0) && decide (n' = 0))) ∧ Below W.heap.size W w' by
      have h1 : VIn w.heap.size W (.mk k m' s' nm' a' n' cap' ch) := by
        have h := hx'.below hb (Nat.le_refl _)
        refine ⟨⟨h.1.1, ?_, ?_, ?_⟩, ?_, ?_⟩
        · rcases hm with rfl | rfl
          · exact h.1.2.1
          · unfold I64; omega
        · rcases hs with rfl | rfl
          · exact h.1.2.2.1
          · decide
        · rcases hn with rfl | rfl
          · exact h.1.2.2.2
          · exact noSL_in _ _
        · rcases ha with ⟨rfl, rfl, rfl⟩ | ⟨rfl, rfl, rfl⟩
          · exact h.2.1
          · exact (row_none W 5 _).mono (Nat.zero_le _)
        · rcases ha with ⟨rfl, rfl, rfl⟩ | ⟨rfl, rfl, rfl⟩
          · exact h.2.2
          · exact fun i h => absurd h (Nat.not_lt_zero i)
      have h2 : VIn w.heap.size W (zVT k) := ⟨⟨h1.1.1, by unfold I64; omega, by decide, noSL_in _ _⟩, (row_none W 5 _).mono (Nat.zero_le _), fun i h => absurd h (Nat.not_lt_zero i)⟩
      have h3 := mSame_ok _ _ _ _ h1 h2 hb.size
      rw [bare_same] at h3
      exact h3
  have HSM := Lib.hid hSM
  have HL := Lib.hid (show bare k m s.size nm.n n = ((decide (m = 0) || (k == 1 || k == 2)) && (decide (s.size = 0) || (k == 3 || k == 5 || k == 6 || k == 7 || k == 10)) && (decide (nm.n = 0) || k == 8) && (decide (n = 0) || (k == 9 || k == 10 || k == 8))) from rfl)
  simp only [VT.cells, SL.v]
  generalize bare k m s.size nm.n n = res at *
  have HB1 := Lib.hid ((Below.refl w.heap.size w).alloc (Nat.le_refl _) (.cells #[.int .i64 k, .int .i64 m, .string s, .slice nm.a nm.n nm.cap, .slice a n cap] 26))
  have hbx := Bx.new w #[.int .i64 k, .int .i64 m, .string s, .slice nm.a nm.n nm.cap, .slice a n cap] 26
  have c0 := hbx.cell 0 (v := .int .i64 k) rfl
  clear hx hx' hB hSM
  by_cases h1 : k = 1
  · subst h1
    go_enter Tryz.func69, Tryz.ntmps69
    go_wp2_with fail
    refine (HSM.out 0 s nm a n cap (.inr rfl) (.inl rfl) (.inl rfl) (.inl ⟨rfl, rfl, rfl⟩) _ ((Below.refl w.heap.size w).alloc (Nat.le_refl _) _)).mono ?_
    rintro e w2 ⟨rfl, h2⟩
    have HB2 := Lib.hid (((Below.refl w.heap.size w).alloc (Nat.le_refl _) _).trans (h2.mono (by simp)))
    clear h2 c0 hbx
    go_wp2_with fail
    go_ret
    exact ⟨by rw [HL.out]; first | rfl | simp [noSL], HB2.out⟩
  by_cases h2 : k = 2
  · subst h2
    go_enter Tryz.func69, Tryz.ntmps69
    go_wp2_with fail
    refine (HSM.out 0 s nm a n cap (.inr rfl) (.inl rfl) (.inl rfl) (.inl ⟨rfl, rfl, rfl⟩) _ ((Below.refl w.heap.size w).alloc (Nat.le_refl _) _)).mono ?_
    rintro e w2 ⟨rfl, h2⟩
    have HB2 := Lib.hid (((Below.refl w.heap.size w).alloc (Nat.le_refl _) _).trans (h2.mono (by simp)))
    clear h2 c0 hbx
    go_wp2_with fail
    go_ret
    exact ⟨by rw [HL.out]; first | rfl | simp [noSL], HB2.out⟩
  by_cases h3 : k = 3
  · subst h3
    go_enter Tryz.func69, Tryz.ntmps69
    go_wp2_with fail
    refine (HSM.out m ⟨#[]⟩ nm a n cap (.inl rfl) (.inr rfl) (.inl rfl) (.inl ⟨rfl, rfl, rfl⟩) _ ((Below.refl w.heap.size w).alloc (Nat.le_refl _) _)).mono ?_
    rintro e w2 ⟨rfl, h2⟩
    have HB2 := Lib.hid (((Below.refl w.heap.size w).alloc (Nat.le_refl _) _).trans (h2.mono (by simp)))
    clear h2 c0 hbx
    go_wp2_with fail
    go_ret
    exact ⟨by rw [HL.out]; first | rfl | simp [noSL], HB2.out⟩
  by_cases h5 : k = 5
  · subst h5
    go_enter Tryz.func69, Tryz.ntmps69
    go_wp2_with fail
    refine (HSM.out m ⟨#[]⟩ nm a n cap (.inl rfl) (.inr rfl) (.inl rfl) (.inl ⟨rfl, rfl, rfl⟩) _ ((Below.refl w.heap.size w).alloc (Nat.le_refl _) _)).mono ?_
    rintro e w2 ⟨rfl, h2⟩
    have HB2 := Lib.hid (((Below.refl w.heap.size w).alloc (Nat.le_refl _) _).trans (h2.mono (by simp)))
    clear h2 c0 hbx
    go_wp2_with fail
    go_ret
    exact ⟨by rw [HL.out]; first | rfl | simp [noSL], HB2.out⟩
  by_cases h6 : k = 6
  · subst h6
    go_enter Tryz.func69, Tryz.ntmps69
    go_wp2_with fail
    refine (HSM.out m ⟨#[]⟩ nm a n cap (.inl rfl) (.inr rfl) (.inl rfl) (.inl ⟨rfl, rfl, rfl⟩) _ ((Below.refl w.heap.size w).alloc (Nat.le_refl _) _)).mono ?_
    rintro e w2 ⟨rfl, h2⟩
    have HB2 := Lib.hid (((Below.refl w.heap.size w).alloc (Nat.le_refl _) _).trans (h2.mono (by simp)))
    clear h2 c0 hbx
    go_wp2_with fail
    go_ret
    exact ⟨by rw [HL.out]; first | rfl | simp [noSL], HB2.out⟩
  by_cases h7 : k = 7
  · subst h7
    go_enter Tryz.func69, Tryz.ntmps69
    go_wp2_with fail
    refine (HSM.out m ⟨#[]⟩ nm a n cap (.inl rfl) (.inr rfl) (.inl rfl) (.inl ⟨rfl, rfl, rfl⟩) _ ((Below.refl w.heap.size w).alloc (Nat.le_refl _) _)).mono ?_
    rintro e w2 ⟨rfl, h2⟩
    have HB2 := Lib.hid (((Below.refl w.heap.size w).alloc (Nat.le_refl _) _).trans (h2.mono (by simp)))
    clear h2 c0 hbx
    go_wp2_with fail
    go_ret
    exact ⟨by rw [HL.out]; first | rfl | simp [noSL], HB2.out⟩
  by_cases h9 : k = 9
  · subst h9
    go_enter Tryz.func69, Tryz.ntmps69
    go_wp2_with fail
    refine (HSM.out m s nm none 0 0 (.inl rfl) (.inl rfl) (.inl rfl) (.inr ⟨rfl, rfl, rfl⟩) _ ((Below.refl w.heap.size w).alloc (Nat.le_refl _) _)).mono ?_
    rintro e w2 ⟨rfl, h2⟩
    have HB2 := Lib.hid (((Below.refl w.heap.size w).alloc (Nat.le_refl _) _).trans (h2.mono (by simp)))
    clear h2 c0 hbx
    go_wp2_with fail
    go_ret
    exact ⟨by rw [HL.out]; first | rfl | simp [noSL], HB2.out⟩
  by_cases h10 : k = 10
  · subst h10
    go_enter Tryz.func69, Tryz.ntmps69
    go_wp2_with fail
    refine (HSM.out m ⟨#[]⟩ nm none 0 0 (.inl rfl) (.inr rfl) (.inl rfl) (.inr ⟨rfl, rfl, rfl⟩) _ ((Below.refl w.heap.size w).alloc (Nat.le_refl _) _)).mono ?_
    rintro e w2 ⟨rfl, h2⟩
    have HB2 := Lib.hid (((Below.refl w.heap.size w).alloc (Nat.le_refl _) _).trans (h2.mono (by simp)))
    clear h2 c0 hbx
    go_wp2_with fail
    go_ret
    exact ⟨by rw [HL.out]; first | rfl | simp [noSL], HB2.out⟩
  by_cases h8 : k = 8
  · subst h8
    go_enter Tryz.func69, Tryz.ntmps69
    go_wp2_with fail
    refine (HSM.out m s noSL none 0 0 (.inl rfl) (.inl rfl) (.inr rfl) (.inr ⟨rfl, rfl, rfl⟩) _ ((Below.refl w.heap.size w).alloc (Nat.le_refl _) _)).mono ?_
    rintro e w2 ⟨rfl, h2⟩
    have HB2 := Lib.hid (((Below.refl w.heap.size w).alloc (Nat.le_refl _) _).trans (h2.mono (by simp)))
    clear h2 c0 hbx
    go_wp2_with fail
    go_ret
    exact ⟨by rw [HL.out]; first | rfl | simp [noSL], HB2.out⟩
  have q1 : (k == 1) = false := beq_eq_false_iff_ne.2 h1
  have q2 : (k == 2) = false := beq_eq_false_iff_ne.2 h2
  have q3 : (k == 3) = false := beq_eq_false_iff_ne.2 h3
  have q5 : (k == 5) = false := beq_eq_false_iff_ne.2 h5
  have q6 : (k == 6) = false := beq_eq_false_iff_ne.2 h6
  have q7 : (k == 7) = false := beq_eq_false_iff_ne.2 h7
  have q9 : (k == 9) = false := beq_eq_false_iff_ne.2 h9
  have q10 : (k == 10) = false := beq_eq_false_iff_ne.2 h10
  have q8 : (k == 8) = false := beq_eq_false_iff_ne.2 h8
  clear h1 h2 h3 h5 h6 h7 h9 h10 h8
  go_enter Tryz.func69, Tryz.ntmps69
  go_wp2_with fail
  refine (HSM.out m s nm a n cap (.inl rfl) (.inl rfl) (.inl rfl) (.inl ⟨rfl, rfl, rfl⟩) _ ((Below.refl w.heap.size w).alloc (Nat.le_refl _) _)).mono ?_
  rintro e w2 ⟨rfl, h2⟩
  have HB2 := Lib.hid (((Below.refl w.heap.size w).alloc (Nat.le_refl _) _).trans (h2.mono (by simp)))
  clear h2 c0 hbx
  go_wp2_with fail
  go_ret
  exact ⟨by rw [HL.out, q1, q2, q3, q5, q6, q7, q8, q9, q10]; simp, HB2.out⟩
end Go.Proofs.YtjhecpkdpomkmaaGreat
