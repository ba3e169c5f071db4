/-
  A bundle of texts, one behind the other: ShP1, ShP2, ShP3.
-/
import Derived.Test.YtgmnojnalkhepaaGreatDoorJE
import Derived.Test.YtgmnojnalkhepaaGreatDoorJF
/-
  Package shape's writer: 'name', 'quoted'.
-/
namespace Go.Proofs.YtgmnojnalkhepaaGreatDoor
open Go.RowKit
set_option linter.unusedVariables false
set_option linter.unusedSimpArgs false
set_option maxRecDepth 100000

theorem bs_data (s : ByteArray) : bs s.data.toList = s := by
  apply ByteArray.ext
  simp [bs]
set_option maxHeartbeats 2000000 in
theorem name_ok (w0 : World) (s : ByteArray) : Writes w0 46 (.string s) s.data.toList := by
  intro b l w h0 hw hlen
  have HP := Lib.hid (put1_at w0 b l s.data.toList w w.heap.size 1 rfl hw h0.size (by omega))
  rw [bs_data] at HP
  clear hw h0 hlen
  go_enter Tryz.func46, Tryz.ntmps46
  go_wp2_with fail
  refine HP.out.mono ?_
  rintro e w1 ha
  have HA := Lib.hid ha
  obtain ⟨rfl, _⟩ := ha
  go_wp2_with fail
  go_end0
  exact HA.out
/-- a string in quotes -/
def quoT (s : ByteArray) : List UInt8 := [34] ++ (Lib.replaceAll s.data.toList [34] [34, 34] ++ [34])
theorem bs_append (a b : List UInt8) : bs a ++ bs b = bs (a ++ b) := by
  apply ByteArray.ext
  show (bs a ++ bs b).data = _
  rw [ByteArray.data_append]
  simp [bs]
theorem bs_size (l : List UInt8) : (bs l).size = l.length := by show l.toArray.size = _; simp
set_option maxHeartbeats 2000000 in
theorem quoted_ok (s : ByteArray) (w : World) (hg : Gs w) (hs : s.size ≤ 1000000000) (hl : (quoT s).length ≤ 140737488355328) (hc : s.size + Lib.countB s (bs [34]) * 2 ≤ 140737488355328) :
    Calls Tryz.prog 48 #[.string s] w fun e w' => e = .returned (.string (bs (quoT s))) ∧ Below w.heap.size w w' := by
  obtain ⟨m, hm⟩ := hg.gl.mx
  have HR := Lib.hid (Tryz.strings_ReplaceAll s (bs [34]) (bs [34, 34]) m w (by omega) hm (by decide) hc)
  obtain ⟨R, hR⟩ : ∃ R, Lib.replaceAll s.data.toList [34] [34, 34] = R := ⟨_, rfl⟩
  have hR2 : Lib.replaceAll s.data.toList (bs [34]).data.toList (bs [34, 34]).data.toList = R := hR
  rw [hR2] at HR
  have HQ := Lib.hid (show bs (quoT s) = bs ([34] ++ (R ++ [34])) by unfold quoT; rw [hR])
  have e1 : (bs [34] ++ bs R) = bs ([34] ++ R) := bs_append _ _
  have e2 : (bs ([34] ++ R) ++ bs [34]) = bs ([34] ++ (R ++ [34])) := by rw [bs_append, List.append_assoc]
  have hl2 : R.length + 2 ≤ 140737488355328 := by
    unfold quoT at hl
    rw [hR] at hl
    simp at hl
    omega
  have z1 : ¬ (9223372036854775807 < 1 + R.length) := by omega
  have z2 : ¬ (9223372036854775807 < 1 + R.length + 1) := by omega
  have HE := Lib.hid (show (⟨#[34]⟩ ++ ⟨R.toArray⟩ ++ ⟨#[34]⟩ : ByteArray) = bs (quoT s) from by rw [HQ.out]; exact (congrArg (· ++ bs [34]) e1).trans e2)
  clear hl hl2 hR hR2 hc hm
  go_enter Tryz.func48, Tryz.ntmps48
  go_wp2_with fail
  refine HR.out.mono ?_
  rintro e w1 ⟨rfl, hb⟩
  have HB := Lib.hid hb
  clear hb
  go_wp2_with fail
  go_ret
  refine ⟨?_, HB.out⟩
  rw [← HE.out]
  rfl
end Go.Proofs.YtgmnojnalkhepaaGreatDoor

/-
  Package shape's writer: 'bounds', 'size'.
-/
namespace Go.Proofs.YtgmnojnalkhepaaGreatDoor
open Go.RowKit
set_option linter.unusedVariables false
set_option linter.unusedSimpArgs false
set_option maxRecDepth 100000

def moreT (ext : Bool) : List UInt8 := if ext then [44, 32] ++ [46, 46, 46] else []
/-- a constraint between two texts, if there is one -/
def bndT (c : CT) (ext : Bool) (tb tc : List UInt8) : List UInt8 := if c.op = 0 then [] else tb ++ (c.txt ++ (moreT ext ++ tc))
theorem put2_at (w0 : World) (b : Nat) (l t1 t2 : List UInt8) (w : World) (g cap : Nat) (hgw : w.heap.size = g) (hw : Wr w0.heap.size b l w) (hB : w0.heap.size ≤ w.heap.size) (hlen : l.length + (t1 ++ t2).length ≤ 140737488355328) :
    Calls Tryz.prog 36 #[.pointer (some ⟨b, 0, none⟩), .slice (some ⟨g, 0, none⟩) 2 cap] (w.alloc (.cells #[.string (bs t1), .string (bs t2)] 9)) fun e w' => Adds w0 w b l (t1 ++ t2) e w' := by
  subst hgw
  exact put2_ok w0 b l t1 t2 w cap hw hB hlen
set_option maxHeartbeats 4000000 in
theorem bounds_ok (w0 : World) (hgs : Gs w0) (kd : Int) (tn : ByteArray) (op lo hi : Int) (lw hg : Bool) (ca : Option Addr) (cn cc : Nat) (cch : Nat → CT) (ext : Bool) (fr : ByteArray) (sa : Option Addr) (sn sc : Nat) (ma : Option Addr) (mn mc : Nat) (pa : Option Addr) (pn pc : Nat) (aa : Option Addr) (an ac : Nat) (ea : Option Addr) (en ec : Nat) (hc : CIn w0.heap.size w0 (.mk op lo hi lw hg ca cn cc cch)) (tb tc : List UInt8) (b : Nat) (l : List UInt8) (w : World) (h0 : Below w0.heap.size w0 w) (hw : Wr w0.heap.size b l w)
    (hlen : l.length + (bndT (.mk op lo hi lw hg ca cn cc cch) ext tb tc).length + 100 ≤ 140737488355328) :
    Calls Tryz.prog 44 #[.pointer (some ⟨b, 0, none⟩), .agg #[.int .i64 kd, .string tn, .int .i64 op, .int .i64 lo, .int .i64 hi, .bool lw, .bool hg, .slice ca cn cc, .bool ext, .string fr, .slice sa sn sc, .slice ma mn mc, .slice pa pn pc, .slice aa an ac, .slice ea en ec], .string (bs tb), .string (bs tc)] w fun e w' => Adds w0 w b l (bndT (.mk op lo hi lw hg ca cn cc cch) ext tb tc) e w' := by
  have hb1 : Below w.heap.size w (w.alloc (.cells #[.int .i64 kd, .string tn, .int .i64 op, .int .i64 lo, .int .i64 hi, .bool lw, .bool hg, .slice ca cn cc, .bool ext, .string fr, .slice sa sn sc, .slice ma mn mc, .slice pa pn pc, .slice aa an ac, .slice ea en ec] 39)) := (Below.refl _ _).alloc (Nat.le_refl _) _
  have HB1 := Lib.hid hb1
  have HX := Lib.hid (Bx.new w #[.int .i64 kd, .string tn, .int .i64 op, .int .i64 lo, .int .i64 hi, .bool lw, .bool hg, .slice ca cn cc, .bool ext, .string fr, .slice sa sn sc, .slice ma mn mc, .slice pa pn pc, .slice aa an ac, .slice ea en ec] 39)
  have HW := Lib.hid (hw.below hb1)
  have H0 := Lib.hid (h0.trans (hb1.mono h0.size))
  have HSZ := Lib.hid h0.size
  have HWS := Lib.hid (show (w.alloc (.cells #[.int .i64 kd, .string tn, .int .i64 op, .int .i64 lo, .int .i64 hi, .bool lw, .bool hg, .slice ca cn cc, .bool ext, .string fr, .slice sa sn sc, .slice ma mn mc, .slice pa pn pc, .slice aa an ac, .slice ea en ec] 39)).heap.size = w.heap.size + 1 by simp)
  have hgb : w.heap.size ≠ b := by have := hw.lt; omega
  have HCON := Lib.hid (wcon_ok w0 hgs (.mk op lo hi lw hg ca cn cc cch) hc)
  obtain ⟨C, hC⟩ : ∃ C, (CT.mk op lo hi lw hg ca cn cc cch).txt = C := ⟨_, rfl⟩
  rw [hC] at HCON
  have HT := Lib.hid (show bndT (.mk op lo hi lw hg ca cn cc cch) ext tb tc = (if op = 0 then [] else tb ++ (C ++ (moreT ext ++ tc))) by unfold bndT; rw [hC]; rfl)
  obtain ⟨R, hR⟩ : ∃ R, bndT (.mk op lo hi lw hg ca cn cc cch) ext tb tc = R := ⟨_, rfl⟩
  rw [hR] at HT hlen ⊢
  change Hid (Writes w0 76 (.agg #[.int .i64 op, .int .i64 lo, .int .i64 hi, .bool lw, .bool hg, .slice ca cn cc]) C) at HCON
  by_cases h1 : op = 0
  · subst h1
    obtain rfl : R = [] := by rw [HT.out, if_pos rfl]
    clear hc hgs h0 hw hlen hb1 hC hR HCON
    go_enter Tryz.func44, Tryz.ntmps44
    go_wp2_with fail
    go_end0
    exact Adds.from HB1.out HSZ.out ⟨rfl, by rw [List.append_nil]; exact HW.out, Below.refl _ _, Lib.OthersKept.refl _ _ _⟩
  · have q1 : (op == 0) = false := by simpa using h1
    obtain rfl : R = tb ++ (C ++ (moreT ext ++ tc)) := by rw [HT.out, if_neg h1]
    have HL := Lib.hid hlen
    clear hc hgs h0 hw hlen hb1 hC hR HT h1
    go_enter Tryz.func44, Tryz.ntmps44
    go_wp2_with fail
    generalize w.alloc (.cells #[.int .i64 kd, .string tn, .int .i64 op, .int .i64 lo, .int .i64 hi, .bool lw, .bool hg, .slice ca cn cc, .bool ext, .string fr, .slice sa sn sc, .slice ma mn mc, .slice pa pn pc, .slice aa an ac, .slice ea en ec] 39) = W at *
    refine (put1_at w0 b l tb W _ _ HWS.out HW.out H0.out.size (by have := HL.out; simp only [List.length_append] at this; omega)).mono ?_
    rintro e w1 ha
    have HA1 := Lib.hid ha
    have HBB1 := Lib.hid (H0.out.trans ha.2.2.1)
    have HX1 := Lib.hid (HX.out.kept ha.2.2.2 hgb (by decide))
    have hx := HX1.out
    have c2 := hx.cell 2 rfl
    have c3 := hx.cell 3 rfl
    have c4 := hx.cell 4 rfl
    have c5 := hx.cell 5 rfl
    have c6 := hx.cell 6 rfl
    have c7 := hx.cell 7 rfl
    obtain ⟨rfl, _⟩ := ha
    clear hx
    go_wp2_with fail
    refine (HCON.out b _ w1 HBB1.out HA1.out.wr (by have := HL.out; simp only [List.length_append] at this ⊢; omega)).mono ?_
    rintro e w2 ha
    have HA2 := Lib.hid (HA1.out.step ha)
    have HBB2 := Lib.hid (HBB1.out.trans ha.2.2.1)
    have hx2 := HX1.out.kept ha.2.2.2 hgb (by decide)
    clear c2 c3 c4 c5 c6 c7
    have c8 := hx2.cell 8 rfl
    obtain ⟨rfl, _⟩ := ha
    clear hx2
    cases ext with
    | false =>
      go_wp2_with fail
      refine (put1_at w0 b _ tc w2 _ _ rfl HA2.out.wr HBB2.out.size (by have := HL.out; simp only [List.length_append] at this ⊢; omega)).mono ?_
      rintro e w3 ha
      have HA3 := Lib.hid ((HA2.out.step ha).from HB1.out HSZ.out)
      obtain ⟨rfl, _⟩ := ha
      go_wp2_with fail
      go_end0
      have h3 := HA3.out
      rw [List.append_assoc] at h3
      exact h3
    | true =>
      go_wp2_with fail
      refine (put2_at w0 b _ [44, 32] [46, 46, 46] w2 _ _ rfl HA2.out.wr HBB2.out.size (by have := HL.out; simp [moreT] at this ⊢; omega)).mono ?_
      rintro e w3 ha
      have HA3 := Lib.hid (HA2.out.step ha)
      have HBB3 := Lib.hid (HBB2.out.trans ha.2.2.1)
      obtain ⟨rfl, _⟩ := ha
      go_wp2_with fail
      refine (put1_at w0 b _ tc w3 _ _ rfl HA3.out.wr HBB3.out.size (by have := HL.out; simp [moreT] at this ⊢; omega)).mono ?_
      rintro e w4 ha
      have HA4 := Lib.hid ((HA3.out.step ha).from HB1.out HSZ.out)
      obtain ⟨rfl, _⟩ := ha
      go_wp2_with fail
      go_end0
      have h4 := HA4.out
      rw [List.append_assoc, List.append_assoc] at h4
      exact h4
def szB : List UInt8 := [32, 40, 83, 73, 90, 69, 32, 40]
def szC : List UInt8 := [41, 41]
set_option maxHeartbeats 4000000 in
theorem size_ok (w0 : World) (hgs : Gs w0) (kd : Int) (tn : ByteArray) (op lo hi : Int) (lw hg : Bool) (ca : Option Addr) (cn cc : Nat) (cch : Nat → CT) (ext : Bool) (fr : ByteArray) (sa : Option Addr) (sn sc : Nat) (ma : Option Addr) (mn mc : Nat) (pa : Option Addr) (pn pc : Nat) (aa : Option Addr) (an ac : Nat) (ea : Option Addr) (en ec : Nat) (hc : CIn w0.heap.size w0 (.mk op lo hi lw hg ca cn cc cch)) : Writes w0 47 (.agg #[.int .i64 kd, .string tn, .int .i64 op, .int .i64 lo, .int .i64 hi, .bool lw, .bool hg, .slice ca cn cc, .bool ext, .string fr, .slice sa sn sc, .slice ma mn mc, .slice pa pn pc, .slice aa an ac, .slice ea en ec]) (bndT (.mk op lo hi lw hg ca cn cc cch) ext szB szC) := by
  intro b l w h0 hw hlen
  have hb1 : Below w.heap.size w (w.alloc (.cells #[.int .i64 kd, .string tn, .int .i64 op, .int .i64 lo, .int .i64 hi, .bool lw, .bool hg, .slice ca cn cc, .bool ext, .string fr, .slice sa sn sc, .slice ma mn mc, .slice pa pn pc, .slice aa an ac, .slice ea en ec] 39)) := (Below.refl _ _).alloc (Nat.le_refl _) _
  have HB1 := Lib.hid hb1
  have HX := Lib.hid (Bx.new w #[.int .i64 kd, .string tn, .int .i64 op, .int .i64 lo, .int .i64 hi, .bool lw, .bool hg, .slice ca cn cc, .bool ext, .string fr, .slice sa sn sc, .slice ma mn mc, .slice pa pn pc, .slice aa an ac, .slice ea en ec] 39)
  have HSZ := Lib.hid h0.size
  have HC := Lib.hid (bounds_ok w0 hgs kd tn op lo hi lw hg ca cn cc cch ext fr sa sn sc ma mn mc pa pn pc aa an ac ea en ec hc szB szC b l _ (h0.trans (hb1.mono h0.size)) (hw.below hb1) hlen)
  clear hgs hc h0 hw hlen hb1
  go_enter Tryz.func47, Tryz.ntmps47
  go_wp2_with (refine wpList_load_mid rfl 39 (.tmp 3) rfl w.heap.size 0 rfl [.int .i64 kd, .string tn, .int .i64 op, .int .i64 lo, .int .i64 hi, .bool lw, .bool hg, .slice ca cn cc, .bool ext, .string fr, .slice sa sn sc, .slice ma mn mc, .slice pa pn pc, .slice aa an ac, .slice ea en ec] _ HX.out.range Tryz.underlying39 rfl (by kernel_rfl) ?_)
  refine HC.out.mono ?_
  rintro e w1 ha
  have HA := Lib.hid (ha.from HB1.out HSZ.out)
  obtain ⟨rfl, _⟩ := ha
  go_wp2_with fail
  go_end0
  exact HA.out
end Go.Proofs.YtgmnojnalkhepaaGreatDoor

/-
  Package shape's writer: 'braced'.
-/
namespace Go.Proofs.YtgmnojnalkhepaaGreatDoor
open Go.RowKit
set_option linter.unusedVariables false
set_option linter.unusedSimpArgs false
set_option maxRecDepth 100000

def sepT (i : Nat) : List UInt8 := if i = 0 then [32] else [44, 32]
/-- a list in braces -/
def braT (f : Nat → List UInt8) (n : Nat) (ext : Bool) (g : Nat → List UInt8) (m : Nat) : List UInt8 :=
  [123] ++ (catL (fun i => sepT i ++ f i) n ++ ((if ext then sepT n ++ [46, 46, 46] else []) ++ (catL (fun i => [44, 32] ++ g i) m ++ [32, 125])))
def RelB1 (w0 w : World) (b : Nat) (l : List UInt8) (F : Nat → List UInt8) (n : Nat) (sv iv : Value) (wr : World) : Prop :=
  ∃ i : Nat, i ≤ n ∧ iv = .int .i64 (i : Nat) ∧ sv = .string (bs (sepT i)) ∧ Wr w0.heap.size b (l ++ catL F i) wr ∧ Below w0.heap.size w wr ∧ Lib.OthersKept 5 (some b) w wr
def RelB2 (w0 w : World) (b : Nat) (l : List UInt8) (F : Nat → List UInt8) (n : Nat) (iv : Value) (wr : World) : Prop :=
  ∃ i : Nat, i ≤ n ∧ iv = .int .i64 (i : Nat) ∧ Wr w0.heap.size b (l ++ catL F i) wr ∧ Below w0.heap.size w wr ∧ Lib.OthersKept 5 (some b) w wr
set_option maxHeartbeats 8000000 in
theorem bracedS_ok (w0 : World) (a1 : Option Addr) (n c1 : Nat) (v1 : Nat → ByteArray) (ext : Bool) (a2 : Option Addr) (m c2 : Nat) (v2 : Nat → ByteArray) (fn : FuncId) (f1 f2 : Nat → List UInt8) (hen0 : Enters Tryz.prog fn)
    (hr1 : RowAt w0.heap.size w0 a1 n c1 1 (fun i => [.string (v1 i)])) (hr2 : RowAt w0.heap.size w0 a2 m c2 1 (fun i => [.string (v2 i)])) (hf1 : ∀ i, i < n → Writes w0 fn (.string (v1 i)) (f1 i)) (hf2 : ∀ i, i < m → Writes w0 fn (.string (v2 i)) (f2 i))
    (b : Nat) (l : List UInt8) (w : World) (h0 : Below w0.heap.size w0 w) (hw : Wr w0.heap.size b l w) (hlen : l.length + (braT f1 n ext f2 m).length + 100 ≤ 140737488355328) :
    Calls Tryz.prog 45 #[.pointer (some ⟨b, 0, none⟩), .slice a1 n c1, .bool ext, .slice a2 m c2, .func (.func fn) #[.pointer (some ⟨b, 0, none⟩)] #[]] w fun e w' => Adds w0 w b l (braT f1 n ext f2 m) e w' := by
  have hen : ∀ (args : Array Value) (w : World), (callFunc fn args).run Tryz.prog w = .ok (.enter fn args) w := hen0
  have HROW1 := Lib.hid hr1
  have HROW2 := Lib.hid hr2
  
  
  have HF1 := Lib.hid hf1
  have HF2 := Lib.hid hf2
  have H0 := Lib.hid h0
  have HLEN := Lib.hid hlen
  have hn1 : n ≤ 9223372036854775807 := by have := hr1.1; have := hr1.2.1; omega
  have hn2 : m ≤ 9223372036854775807 := by have := hr2.1; have := hr2.2.1; omega
  have HL1 := Lib.hid (show (l ++ [123]).length + (catL (fun i => sepT i ++ f1 i) n).length + 100 ≤ 140737488355328 by have h9 := hlen; unfold braT at h9; simp only [List.length_append] at h9 ⊢; omega)
  have HP0 := Lib.hid (put1_at w0 b l [123] w _ 1 rfl hw h0.size (by have h9 := hlen; unfold braT at h9; simp only [List.length_append] at h9 ⊢; omega))
  clear hr1 hr2 hf1 hf2 h0 hw hlen
  go_enter Tryz.func45, Tryz.ntmps45
  go_wp2_with fail
  refine HP0.out.mono ?_
  rintro e w1 ha
  have HWA := Lib.hid ha.wr
  have HBA1 := Lib.hid ha.2.2.1
  have HKA1 := Lib.hid ha.2.2.2
  obtain ⟨rfl, _⟩ := ha
  go_wp2_with fail
  go_loopw [10, 20] (fun sv iv wr => RelB1 w0 w b (l ++ [123]) (fun i => sepT i ++ f1 i) n sv iv wr) (fun _ iv _ => n - (Lib.intOf iv).toNat)
  case atStart => exact ⟨0, Nat.zero_le _, rfl, rfl, by simp only [catL, List.append_nil]; exact HWA.out, HBA1.out, HKA1.out⟩
  case round =>
    clear HWA HBA1 HKA1 HP0
    obtain ⟨i, hi, rfl, rfl, hwr, hbel, hkp⟩ := hrel
    have HWR := Lib.hid hwr
    have HB := Lib.hid hbel
    have HK := Lib.hid hkp
    have HBB := Lib.hid (H0.out.trans hbel)
    have hsz := (H0.out.trans hbel).size
    have hbl := hwr.lt
    clear hwr hbel hkp
    by_cases hlt : i < n
    · have q1 : decide ((i : Int) < (n : Int)) = true := decide_eq_true (by omega)
      have q1n : decide (i < n) = true := decide_eq_true hlt
      have q3 : IntKind.i64.wrap ((i : Int) + 1) = ((i + 1 : Nat) : Int) := wrap_succ hlt hn1
      obtain ⟨gx, ox, hix, hgx, hrd⟩ := HROW1.out.read 35 9 Tryz.underlying35 (by kernel_rfl) Tryz.sizeOf9 hlt
      have k0 : wr.cell? ⟨gx, ox, none⟩ = some (.string (v1 i)) := hrd wr (HBB.out.block gx hgx) 0 _ rfl
      have hl2 : ((l ++ [123]) ++ catL (fun i => sepT i ++ f1 i) i).length + ((sepT i).length + (f1 i).length) + 100 ≤ 140737488355328 := by
        have e1 := catL_mono (f := (fun i => sepT i ++ f1 i)) (n := n) (i := i + 1) (by omega)
        have e2 := HL1.out
        simp only [catL, List.length_append] at e1 e2 ⊢
        omega
      have HBA := Lib.hid (Below.refl wr.heap.size wr)
      have HWS := Lib.hid (show wr.heap.size = wr.heap.size by rfl)
      have hcb : wr.heap.size ≠ b := by omega
      have HP := Lib.hid (put1_at w0 b _ (sepT i) wr _ 1 HWS.out (HWR.out.below HBA.out) (Nat.le_trans hsz HBA.out.size) (by omega))
      go_wp2_with fail
      refine HP.out.mono ?_
      rintro e w2 ha
      have HA2 := Lib.hid ha
      have HBB2 := Lib.hid ((HBB.out.trans (HBA.out.mono hsz)).trans ha.2.2.1)
      obtain ⟨rfl, _⟩ := ha
      go_wp2_with fail
      refine (HF1.out i hlt b _ w2 HBB2.out HA2.out.wr (by simp only [List.length_append] at hl2 ⊢; omega)).mono ?_
      rintro e w3 ha
      have HA := Lib.hid ((HA2.out.step ha).from HBA.out hsz)
      obtain ⟨rfl, _⟩ := ha
      go_wp2_with fail
      go_roundw
      case rel => exact ⟨i + 1, hlt, rfl, rfl, by have h3 := HA.out.wr; simp only [catL]; rw [← List.append_assoc (l ++ [123])]; exact h3, HB.out.trans HA.out.2.2.1, HK.out.trans HA.out.2.2.2⟩
      case measure => simp only [Lib.intOf]; omega
    · have q1 : decide ((i : Int) < (n : Int)) = false := decide_eq_false (by omega)
      have q1n : decide (i < n) = false := decide_eq_false hlt
      obtain rfl : i = n := by omega
      cases ext with
      | false =>
        have HL2 := Lib.hid (show (l ++ ([123] ++ (catL (fun i => sepT i ++ f1 i) i ++ []))).length + (catL (fun i => [44, 32] ++ f2 i) m).length + 100 ≤ 140737488355328 by have h9 := HLEN.out; unfold braT at h9; simp only [List.length_append] at h9 ⊢; simp at h9 ⊢; omega)
        have HL3 := Lib.hid (show (l ++ ([123] ++ (catL (fun i => sepT i ++ f1 i) i ++ [])) ++ catL (fun i => [44, 32] ++ f2 i) m).length + 100 ≤ 140737488355328 by have h9 := HL2.out; simp only [List.length_append] at h9 ⊢; omega)
        have HRT := Lib.hid (show braT f1 i false f2 m = [123] ++ (catL (fun i => sepT i ++ f1 i) i ++ ([] ++ (catL (fun i => [44, 32] ++ f2 i) m ++ [32, 125]))) from rfl)
        have HWC := Lib.hid (show Wr w0.heap.size b (l ++ ([123] ++ (catL (fun i => sepT i ++ f1 i) i ++ []))) wr by have h3 := HWR.out; rw [List.append_nil]; rw [← List.append_assoc]; exact h3)
        have HBC := HB
        have HKC := HK
        clear HB HK HWR HBB
        go_wp2_with fail
        go_loopw [39] (fun iv wr => RelB2 w0 w b (l ++ ([123] ++ (catL (fun i => sepT i ++ f1 i) i ++ []))) (fun i => [44, 32] ++ f2 i) m iv wr) (fun iv _ => m - (Lib.intOf iv).toNat)
        case atStart => exact ⟨0, Nat.zero_le _, rfl, by simpa only [catL, List.append_nil] using HWC.out, HBC.out, HKC.out⟩
        case round =>
          clear HWC HBC HKC
          obtain ⟨j, hj, rfl, hwr, hbel, hkp⟩ := hrel
          have HWR := Lib.hid hwr
          have HB := Lib.hid hbel
          have HK := Lib.hid hkp
          have HBB := Lib.hid (H0.out.trans hbel)
          have hsz := (H0.out.trans hbel).size
          have hbl := hwr.lt
          clear hwr hbel hkp
          by_cases hlt : j < m
          · have q1 : decide ((j : Int) < (m : Int)) = true := decide_eq_true (by omega)
            have q1n : decide (j < m) = true := decide_eq_true hlt
            have q3 : IntKind.i64.wrap ((j : Int) + 1) = ((j + 1 : Nat) : Int) := wrap_succ hlt hn2
            obtain ⟨gx, ox, hix, hgx, hrd⟩ := HROW2.out.read 35 9 Tryz.underlying35 (by kernel_rfl) Tryz.sizeOf9 hlt
            have k0 : wr.cell? ⟨gx, ox, none⟩ = some (.string (v2 j)) := hrd wr (HBB.out.block gx hgx) 0 _ rfl
            have hl2 : ((l ++ ([123] ++ (catL (fun i => sepT i ++ f1 i) i ++ []))) ++ catL (fun i => [44, 32] ++ f2 i) j).length + ([44, 32].length + (f2 j).length) + 100 ≤ 140737488355328 := by
              have e1 := catL_mono (f := (fun i => [44, 32] ++ f2 i)) (n := m) (i := j + 1) (by omega)
              have e2 := HL2.out
              simp only [catL, List.length_append] at e1 e2 ⊢
              omega
            have HBA := Lib.hid (Below.refl wr.heap.size wr)
            have HWS := Lib.hid (show wr.heap.size = wr.heap.size by rfl)
            have hcb : wr.heap.size ≠ b := by omega
            have HP := Lib.hid (put1_at w0 b _ [44, 32] wr _ 1 HWS.out (HWR.out.below HBA.out) (Nat.le_trans hsz HBA.out.size) (by omega))
            go_wp2_with fail
            refine HP.out.mono ?_
            rintro e w2 ha
            have HA2 := Lib.hid ha
            have HBB2 := Lib.hid ((HBB.out.trans (HBA.out.mono hsz)).trans ha.2.2.1)
            obtain ⟨rfl, _⟩ := ha
            go_wp2_with fail
            refine (HF2.out j hlt b _ w2 HBB2.out HA2.out.wr (by simp only [List.length_append] at hl2 ⊢; omega)).mono ?_
            rintro e w3 ha
            have HA := Lib.hid ((HA2.out.step ha).from HBA.out hsz)
            obtain ⟨rfl, _⟩ := ha
            go_wp2_with fail
            go_roundw
            case rel => exact ⟨j + 1, hlt, rfl, by have h3 := HA.out.wr; simp only [catL]; rw [← List.append_assoc (l ++ ([123] ++ (catL (fun i => sepT i ++ f1 i) i ++ [])))]; exact h3, HB.out.trans HA.out.2.2.1, HK.out.trans HA.out.2.2.2⟩
            case measure => simp only [Lib.intOf]; omega
          · have q1 : decide ((j : Int) < (m : Int)) = false := decide_eq_false (by omega)
            have q1n : decide (j < m) = false := decide_eq_false hlt
            obtain rfl : j = m := by omega
            go_wp2_with fail
            refine (put1_at w0 b _ [32, 125] wr _ _ rfl HWR.out hsz (by have := HL3.out; simp only [List.length_append] at this ⊢; simp at this ⊢; omega)).mono ?_
            rintro e w3 ha
            have HA := Lib.hid ha
            obtain ⟨rfl, _⟩ := ha
            go_wp2_with fail
            go_end0
            refine ⟨rfl, ?_, HB.out.trans HA.out.2.2.1, HK.out.trans HA.out.2.2.2⟩
            have h3 := HA.out.wr
            rw [HRT.out]
            simpa only [List.append_assoc, List.nil_append, List.append_nil] using h3
      | true =>
        have HL2 := Lib.hid (show (l ++ ([123] ++ (catL (fun i => sepT i ++ f1 i) i ++ (sepT i ++ [46, 46, 46])))).length + (catL (fun i => [44, 32] ++ f2 i) m).length + 100 ≤ 140737488355328 by have h9 := HLEN.out; unfold braT at h9; simp only [List.length_append, if_true] at h9 ⊢; simp at h9 ⊢; omega)
        have HL3 := Lib.hid (show (l ++ ([123] ++ (catL (fun i => sepT i ++ f1 i) i ++ (sepT i ++ [46, 46, 46]))) ++ catL (fun i => [44, 32] ++ f2 i) m).length + 100 ≤ 140737488355328 by have h9 := HL2.out; simp only [List.length_append] at h9 ⊢; omega)
        have HRT := Lib.hid (show braT f1 i true f2 m = [123] ++ (catL (fun i => sepT i ++ f1 i) i ++ ((sepT i ++ [46, 46, 46]) ++ (catL (fun i => [44, 32] ++ f2 i) m ++ [32, 125]))) from rfl)
        go_wp2_with fail
        refine (put2_at w0 b _ (sepT i) [46, 46, 46] wr _ _ rfl HWR.out hsz (by have := HL2.out; simp only [List.length_append] at this ⊢; omega)).mono ?_
        rintro e w2 ha
        have HWC := Lib.hid (show Wr w0.heap.size b (l ++ ([123] ++ (catL (fun i => sepT i ++ f1 i) i ++ (sepT i ++ [46, 46, 46])))) w2 by have h3 := ha.2.1; simpa only [List.append_assoc] using h3)
        have HBC := Lib.hid (HB.out.trans ha.2.2.1)
        have HKC := Lib.hid (HK.out.trans ha.2.2.2)
        obtain ⟨rfl, _⟩ := ha
        clear HB HK HWR HBB
        go_wp2_with fail
        go_loopw [39] (fun iv wr => RelB2 w0 w b (l ++ ([123] ++ (catL (fun i => sepT i ++ f1 i) i ++ (sepT i ++ [46, 46, 46])))) (fun i => [44, 32] ++ f2 i) m iv wr) (fun iv _ => m - (Lib.intOf iv).toNat)
        case atStart => exact ⟨0, Nat.zero_le _, rfl, by simpa only [catL, List.append_nil] using HWC.out, HBC.out, HKC.out⟩
        case round =>
          clear HWC HBC HKC
          obtain ⟨j, hj, rfl, hwr, hbel, hkp⟩ := hrel
          have HWR := Lib.hid hwr
          have HB := Lib.hid hbel
          have HK := Lib.hid hkp
          have HBB := Lib.hid (H0.out.trans hbel)
          have hsz := (H0.out.trans hbel).size
          have hbl := hwr.lt
          clear hwr hbel hkp
          by_cases hlt : j < m
          · have q1 : decide ((j : Int) < (m : Int)) = true := decide_eq_true (by omega)
            have q1n : decide (j < m) = true := decide_eq_true hlt
            have q3 : IntKind.i64.wrap ((j : Int) + 1) = ((j + 1 : Nat) : Int) := wrap_succ hlt hn2
            obtain ⟨gx, ox, hix, hgx, hrd⟩ := HROW2.out.read 35 9 Tryz.underlying35 (by kernel_rfl) Tryz.sizeOf9 hlt
            have k0 : wr.cell? ⟨gx, ox, none⟩ = some (.string (v2 j)) := hrd wr (HBB.out.block gx hgx) 0 _ rfl
            have hl2 : ((l ++ ([123] ++ (catL (fun i => sepT i ++ f1 i) i ++ (sepT i ++ [46, 46, 46])))) ++ catL (fun i => [44, 32] ++ f2 i) j).length + ([44, 32].length + (f2 j).length) + 100 ≤ 140737488355328 := by
              have e1 := catL_mono (f := (fun i => [44, 32] ++ f2 i)) (n := m) (i := j + 1) (by omega)
              have e2 := HL2.out
              simp only [catL, List.length_append] at e1 e2 ⊢
              omega
            have HBA := Lib.hid (Below.refl wr.heap.size wr)
            have HWS := Lib.hid (show wr.heap.size = wr.heap.size by rfl)
            have hcb : wr.heap.size ≠ b := by omega
            have HP := Lib.hid (put1_at w0 b _ [44, 32] wr _ 1 HWS.out (HWR.out.below HBA.out) (Nat.le_trans hsz HBA.out.size) (by omega))
            go_wp2_with fail
            refine HP.out.mono ?_
            rintro e w2 ha
            have HA2 := Lib.hid ha
            have HBB2 := Lib.hid ((HBB.out.trans (HBA.out.mono hsz)).trans ha.2.2.1)
            obtain ⟨rfl, _⟩ := ha
            go_wp2_with fail
            refine (HF2.out j hlt b _ w2 HBB2.out HA2.out.wr (by simp only [List.length_append] at hl2 ⊢; omega)).mono ?_
            rintro e w3 ha
            have HA := Lib.hid ((HA2.out.step ha).from HBA.out hsz)
            obtain ⟨rfl, _⟩ := ha
            go_wp2_with fail
            go_roundw
            case rel => exact ⟨j + 1, hlt, rfl, by have h3 := HA.out.wr; simp only [catL]; rw [← List.append_assoc (l ++ ([123] ++ (catL (fun i => sepT i ++ f1 i) i ++ (sepT i ++ [46, 46, 46]))))]; exact h3, HB.out.trans HA.out.2.2.1, HK.out.trans HA.out.2.2.2⟩
            case measure => simp only [Lib.intOf]; omega
          · have q1 : decide ((j : Int) < (m : Int)) = false := decide_eq_false (by omega)
            have q1n : decide (j < m) = false := decide_eq_false hlt
            obtain rfl : j = m := by omega
            go_wp2_with fail
            refine (put1_at w0 b _ [32, 125] wr _ _ rfl HWR.out hsz (by have := HL3.out; simp only [List.length_append] at this ⊢; simp at this ⊢; omega)).mono ?_
            rintro e w3 ha
            have HA := Lib.hid ha
            obtain ⟨rfl, _⟩ := ha
            go_wp2_with fail
            go_end0
            refine ⟨rfl, ?_, HB.out.trans HA.out.2.2.1, HK.out.trans HA.out.2.2.2⟩
            have h3 := HA.out.wr
            rw [HRT.out]
            simpa only [List.append_assoc, List.nil_append, List.append_nil] using h3
set_option maxHeartbeats 8000000 in
theorem bracedP_ok (w0 : World) (a1 : Option Addr) (n c1 : Nat) (v1 : Nat → PD) (y1 : Nat → TT) (ext : Bool) (a2 : Option Addr) (m c2 : Nat) (v2 : Nat → PD) (y2 : Nat → TT) (fn : FuncId) (f1 f2 : Nat → List UInt8) (hen0 : Enters Tryz.prog fn)
    (hr1 : RowAt w0.heap.size w0 a1 n c1 18 (fun i => pcells (v1 i) (y1 i))) (hr2 : RowAt w0.heap.size w0 a2 m c2 18 (fun i => pcells (v2 i) (y2 i))) (ht1 : ∀ i, i < n → TIn w0.heap.size w0 (y1 i)) (ht2 : ∀ i, i < m → TIn w0.heap.size w0 (y2 i)) (hf1 : ∀ i, i < n → Writes w0 fn (pval (v1 i) (y1 i)) (f1 i)) (hf2 : ∀ i, i < m → Writes w0 fn (pval (v2 i) (y2 i)) (f2 i))
    (b : Nat) (l : List UInt8) (w : World) (h0 : Below w0.heap.size w0 w) (hw : Wr w0.heap.size b l w) (hlen : l.length + (braT f1 n ext f2 m).length + 100 ≤ 140737488355328) :
    Calls Tryz.prog 49 #[.pointer (some ⟨b, 0, none⟩), .slice a1 n c1, .bool ext, .slice a2 m c2, .func (.func fn) #[.pointer (some ⟨b, 0, none⟩)] #[]] w fun e w' => Adds w0 w b l (braT f1 n ext f2 m) e w' := by
  have hen : ∀ (args : Array Value) (w : World), (callFunc fn args).run Tryz.prog w = .ok (.enter fn args) w := hen0
  have HROW1 := Lib.hid hr1
  have HROW2 := Lib.hid hr2
  have HT1 := Lib.hid ht1
  have HT2 := Lib.hid ht2
  have HF1 := Lib.hid hf1
  have HF2 := Lib.hid hf2
  have H0 := Lib.hid h0
  have HLEN := Lib.hid hlen
  have hn1 : n ≤ 9223372036854775807 := by have := hr1.1; have := hr1.2.1; omega
  have hn2 : m ≤ 9223372036854775807 := by have := hr2.1; have := hr2.2.1; omega
  have HL1 := Lib.hid (show (l ++ [123]).length + (catL (fun i => sepT i ++ f1 i) n).length + 100 ≤ 140737488355328 by have h9 := hlen; unfold braT at h9; simp only [List.length_append] at h9 ⊢; omega)
  have HP0 := Lib.hid (put1_at w0 b l [123] w _ 1 rfl hw h0.size (by have h9 := hlen; unfold braT at h9; simp only [List.length_append] at h9 ⊢; omega))
  clear hr1 hr2 hf1 hf2 h0 hw hlen ht1 ht2
  go_enter Tryz.func49, Tryz.ntmps49
  go_wp2_with fail
  refine HP0.out.mono ?_
  rintro e w1 ha
  have HWA := Lib.hid ha.wr
  have HBA1 := Lib.hid ha.2.2.1
  have HKA1 := Lib.hid ha.2.2.2
  obtain ⟨rfl, _⟩ := ha
  go_wp2_with fail
  go_loopw [10, 20] (fun sv iv wr => RelB1 w0 w b (l ++ [123]) (fun i => sepT i ++ f1 i) n sv iv wr) (fun _ iv _ => n - (Lib.intOf iv).toNat)
  case atStart => exact ⟨0, Nat.zero_le _, rfl, rfl, by simp only [catL, List.append_nil]; exact HWA.out, HBA1.out, HKA1.out⟩
  case round =>
    clear HWA HBA1 HKA1 HP0
    obtain ⟨i, hi, rfl, rfl, hwr, hbel, hkp⟩ := hrel
    have HWR := Lib.hid hwr
    have HB := Lib.hid hbel
    have HK := Lib.hid hkp
    have HBB := Lib.hid (H0.out.trans hbel)
    have hsz := (H0.out.trans hbel).size
    have hbl := hwr.lt
    clear hwr hbel hkp
    by_cases hlt : i < n
    · have q1 : decide ((i : Int) < (n : Int)) = true := decide_eq_true (by omega)
      have q1n : decide (i < n) = true := decide_eq_true hlt
      have q3 : IntKind.i64.wrap ((i : Int) + 1) = ((i + 1 : Nat) : Int) := wrap_succ hlt hn1
      obtain ⟨gx, ox, hix, hgx, hrd⟩ := pRow_read HROW1.out hlt
      have HR := Lib.hid (hrd wr (HBB.out.block gx hgx))
      have H1 := Lib.hid (one_pcells (p := v1 i) (HT1.out i hlt))
      have HXE := Lib.hid (Bx.new wr (pcells (v1 i) (y1 i)).toArray 42)
      have hl2 : ((l ++ [123]) ++ catL (fun i => sepT i ++ f1 i) i).length + ((sepT i).length + (f1 i).length) + 100 ≤ 140737488355328 := by
        have e1 := catL_mono (f := (fun i => sepT i ++ f1 i)) (n := n) (i := i + 1) (by omega)
        have e2 := HL1.out
        simp only [catL, List.length_append] at e1 e2 ⊢
        omega
      have HBA := Lib.hid ((Below.refl wr.heap.size wr).alloc (Nat.le_refl _) (.cells (pcells (v1 i) (y1 i)).toArray 42))
      have HWS := Lib.hid (show (wr.alloc (.cells (pcells (v1 i) (y1 i)).toArray 42)).heap.size = wr.heap.size + 1 by simp)
      have hcb : wr.heap.size ≠ b := by omega
      have HP := Lib.hid (put1_at w0 b _ (sepT i) (wr.alloc (.cells (pcells (v1 i) (y1 i)).toArray 42)) _ 1 HWS.out (HWR.out.below HBA.out) (Nat.le_trans hsz HBA.out.size) (by omega))
      go_wp2_with (first | (refine wpList_store_new rfl 42 (.tmp 12) (.tmp 23) rfl 18 _ (pcells (v1 i) (y1 i)) H1.out.1 (by kernel_rfl) info_P H1.out.2 rfl rfl ?_) | (refine wpList_load_mid rfl 42 (.tmp 22) rfl gx ox rfl (pcells (v1 i) (y1 i)) _ HR.out Tryz.underlying42 rfl (by rw [info_P, H1.out.1]) ?_))
      refine HP.out.mono ?_
      rintro e w2 ha
      have HA2 := Lib.hid ha
      have HBB2 := Lib.hid ((HBB.out.trans (HBA.out.mono hsz)).trans ha.2.2.1)
      have HXF := Lib.hid (HXE.out.kept ha.2.2.2 hcb (by decide))
      obtain ⟨rfl, _⟩ := ha
      go_wp2_with (refine wpList_load_mid rfl 42 (.tmp 12) rfl wr.heap.size 0 rfl (pcells (v1 i) (y1 i)) _ HXF.out.range Tryz.underlying42 rfl (by rw [info_P, H1.out.1]) ?_)
      refine (HF1.out i hlt b _ w2 HBB2.out HA2.out.wr (by simp only [List.length_append] at hl2 ⊢; omega)).mono ?_
      rintro e w3 ha
      have HA := Lib.hid ((HA2.out.step ha).from HBA.out hsz)
      obtain ⟨rfl, _⟩ := ha
      go_wp2_with fail
      go_roundw
      case rel => exact ⟨i + 1, hlt, rfl, rfl, by have h3 := HA.out.wr; simp only [catL]; rw [← List.append_assoc (l ++ [123])]; exact h3, HB.out.trans HA.out.2.2.1, HK.out.trans HA.out.2.2.2⟩
      case measure => simp only [Lib.intOf]; omega
    · have q1 : decide ((i : Int) < (n : Int)) = false := decide_eq_false (by omega)
      have q1n : decide (i < n) = false := decide_eq_false hlt
      obtain rfl : i = n := by omega
      cases ext with
      | false =>
        have HL2 := Lib.hid (show (l ++ ([123] ++ (catL (fun i => sepT i ++ f1 i) i ++ []))).length + (catL (fun i => [44, 32] ++ f2 i) m).length + 100 ≤ 140737488355328 by have h9 := HLEN.out; unfold braT at h9; simp only [List.length_append] at h9 ⊢; simp at h9 ⊢; omega)
        have HL3 := Lib.hid (show (l ++ ([123] ++ (catL (fun i => sepT i ++ f1 i) i ++ [])) ++ catL (fun i => [44, 32] ++ f2 i) m).length + 100 ≤ 140737488355328 by have h9 := HL2.out; simp only [List.length_append] at h9 ⊢; omega)
        have HRT := Lib.hid (show braT f1 i false f2 m = [123] ++ (catL (fun i => sepT i ++ f1 i) i ++ ([] ++ (catL (fun i => [44, 32] ++ f2 i) m ++ [32, 125]))) from rfl)
        have HWC := Lib.hid (show Wr w0.heap.size b (l ++ ([123] ++ (catL (fun i => sepT i ++ f1 i) i ++ []))) wr by have h3 := HWR.out; rw [List.append_nil]; rw [← List.append_assoc]; exact h3)
        have HBC := HB
        have HKC := HK
        clear HB HK HWR HBB
        go_wp2_with fail
        go_loopw [39] (fun iv wr => RelB2 w0 w b (l ++ ([123] ++ (catL (fun i => sepT i ++ f1 i) i ++ []))) (fun i => [44, 32] ++ f2 i) m iv wr) (fun iv _ => m - (Lib.intOf iv).toNat)
        case atStart => exact ⟨0, Nat.zero_le _, rfl, by simpa only [catL, List.append_nil] using HWC.out, HBC.out, HKC.out⟩
        case round =>
          clear HWC HBC HKC
          obtain ⟨j, hj, rfl, hwr, hbel, hkp⟩ := hrel
          have HWR := Lib.hid hwr
          have HB := Lib.hid hbel
          have HK := Lib.hid hkp
          have HBB := Lib.hid (H0.out.trans hbel)
          have hsz := (H0.out.trans hbel).size
          have hbl := hwr.lt
          clear hwr hbel hkp
          by_cases hlt : j < m
          · have q1 : decide ((j : Int) < (m : Int)) = true := decide_eq_true (by omega)
            have q1n : decide (j < m) = true := decide_eq_true hlt
            have q3 : IntKind.i64.wrap ((j : Int) + 1) = ((j + 1 : Nat) : Int) := wrap_succ hlt hn2
            obtain ⟨gx, ox, hix, hgx, hrd⟩ := pRow_read HROW2.out hlt
            have HR := Lib.hid (hrd wr (HBB.out.block gx hgx))
            have H1 := Lib.hid (one_pcells (p := v2 j) (HT2.out j hlt))
            have HXE := Lib.hid (Bx.new wr (pcells (v2 j) (y2 j)).toArray 42)
            have hl2 : ((l ++ ([123] ++ (catL (fun i => sepT i ++ f1 i) i ++ []))) ++ catL (fun i => [44, 32] ++ f2 i) j).length + ([44, 32].length + (f2 j).length) + 100 ≤ 140737488355328 := by
              have e1 := catL_mono (f := (fun i => [44, 32] ++ f2 i)) (n := m) (i := j + 1) (by omega)
              have e2 := HL2.out
              simp only [catL, List.length_append] at e1 e2 ⊢
              omega
            have HBA := Lib.hid ((Below.refl wr.heap.size wr).alloc (Nat.le_refl _) (.cells (pcells (v2 j) (y2 j)).toArray 42))
            have HWS := Lib.hid (show (wr.alloc (.cells (pcells (v2 j) (y2 j)).toArray 42)).heap.size = wr.heap.size + 1 by simp)
            have hcb : wr.heap.size ≠ b := by omega
            have HP := Lib.hid (put1_at w0 b _ [44, 32] (wr.alloc (.cells (pcells (v2 j) (y2 j)).toArray 42)) _ 1 HWS.out (HWR.out.below HBA.out) (Nat.le_trans hsz HBA.out.size) (by omega))
            go_wp2_with (first | (refine wpList_store_new rfl 42 (.tmp 14) (.tmp 42) rfl 18 _ (pcells (v2 j) (y2 j)) H1.out.1 (by kernel_rfl) info_P H1.out.2 rfl rfl ?_) | (refine wpList_load_mid rfl 42 (.tmp 41) rfl gx ox rfl (pcells (v2 j) (y2 j)) _ HR.out Tryz.underlying42 rfl (by rw [info_P, H1.out.1]) ?_))
            refine HP.out.mono ?_
            rintro e w2 ha
            have HA2 := Lib.hid ha
            have HBB2 := Lib.hid ((HBB.out.trans (HBA.out.mono hsz)).trans ha.2.2.1)
            have HXF := Lib.hid (HXE.out.kept ha.2.2.2 hcb (by decide))
            obtain ⟨rfl, _⟩ := ha
            go_wp2_with (refine wpList_load_mid rfl 42 (.tmp 14) rfl wr.heap.size 0 rfl (pcells (v2 j) (y2 j)) _ HXF.out.range Tryz.underlying42 rfl (by rw [info_P, H1.out.1]) ?_)
            refine (HF2.out j hlt b _ w2 HBB2.out HA2.out.wr (by simp only [List.length_append] at hl2 ⊢; omega)).mono ?_
            rintro e w3 ha
            have HA := Lib.hid ((HA2.out.step ha).from HBA.out hsz)
            obtain ⟨rfl, _⟩ := ha
            go_wp2_with fail
            go_roundw
            case rel => exact ⟨j + 1, hlt, rfl, by have h3 := HA.out.wr; simp only [catL]; rw [← List.append_assoc (l ++ ([123] ++ (catL (fun i => sepT i ++ f1 i) i ++ [])))]; exact h3, HB.out.trans HA.out.2.2.1, HK.out.trans HA.out.2.2.2⟩
            case measure => simp only [Lib.intOf]; omega
          · have q1 : decide ((j : Int) < (m : Int)) = false := decide_eq_false (by omega)
            have q1n : decide (j < m) = false := decide_eq_false hlt
            obtain rfl : j = m := by omega
            go_wp2_with fail
            refine (put1_at w0 b _ [32, 125] wr _ _ rfl HWR.out hsz (by have := HL3.out; simp only [List.length_append] at this ⊢; simp at this ⊢; omega)).mono ?_
            rintro e w3 ha
            have HA := Lib.hid ha
            obtain ⟨rfl, _⟩ := ha
            go_wp2_with fail
            go_end0
            refine ⟨rfl, ?_, HB.out.trans HA.out.2.2.1, HK.out.trans HA.out.2.2.2⟩
            have h3 := HA.out.wr
            rw [HRT.out]
            simpa only [List.append_assoc, List.nil_append, List.append_nil] using h3
      | true =>
        have HL2 := Lib.hid (show (l ++ ([123] ++ (catL (fun i => sepT i ++ f1 i) i ++ (sepT i ++ [46, 46, 46])))).length + (catL (fun i => [44, 32] ++ f2 i) m).length + 100 ≤ 140737488355328 by have h9 := HLEN.out; unfold braT at h9; simp only [List.length_append, if_true] at h9 ⊢; simp at h9 ⊢; omega)
        have HL3 := Lib.hid (show (l ++ ([123] ++ (catL (fun i => sepT i ++ f1 i) i ++ (sepT i ++ [46, 46, 46]))) ++ catL (fun i => [44, 32] ++ f2 i) m).length + 100 ≤ 140737488355328 by have h9 := HL2.out; simp only [List.length_append] at h9 ⊢; omega)
        have HRT := Lib.hid (show braT f1 i true f2 m = [123] ++ (catL (fun i => sepT i ++ f1 i) i ++ ((sepT i ++ [46, 46, 46]) ++ (catL (fun i => [44, 32] ++ f2 i) m ++ [32, 125]))) from rfl)
        go_wp2_with fail
        refine (put2_at w0 b _ (sepT i) [46, 46, 46] wr _ _ rfl HWR.out hsz (by have := HL2.out; simp only [List.length_append] at this ⊢; omega)).mono ?_
        rintro e w2 ha
        have HWC := Lib.hid (show Wr w0.heap.size b (l ++ ([123] ++ (catL (fun i => sepT i ++ f1 i) i ++ (sepT i ++ [46, 46, 46])))) w2 by have h3 := ha.2.1; simpa only [List.append_assoc] using h3)
        have HBC := Lib.hid (HB.out.trans ha.2.2.1)
        have HKC := Lib.hid (HK.out.trans ha.2.2.2)
        obtain ⟨rfl, _⟩ := ha
        clear HB HK HWR HBB
        go_wp2_with fail
        go_loopw [39] (fun iv wr => RelB2 w0 w b (l ++ ([123] ++ (catL (fun i => sepT i ++ f1 i) i ++ (sepT i ++ [46, 46, 46])))) (fun i => [44, 32] ++ f2 i) m iv wr) (fun iv _ => m - (Lib.intOf iv).toNat)
        case atStart => exact ⟨0, Nat.zero_le _, rfl, by simpa only [catL, List.append_nil] using HWC.out, HBC.out, HKC.out⟩
        case round =>
          clear HWC HBC HKC
          obtain ⟨j, hj, rfl, hwr, hbel, hkp⟩ := hrel
          have HWR := Lib.hid hwr
          have HB := Lib.hid hbel
          have HK := Lib.hid hkp
          have HBB := Lib.hid (H0.out.trans hbel)
          have hsz := (H0.out.trans hbel).size
          have hbl := hwr.lt
          clear hwr hbel hkp
          by_cases hlt : j < m
          · have q1 : decide ((j : Int) < (m : Int)) = true := decide_eq_true (by omega)
            have q1n : decide (j < m) = true := decide_eq_true hlt
            have q3 : IntKind.i64.wrap ((j : Int) + 1) = ((j + 1 : Nat) : Int) := wrap_succ hlt hn2
            obtain ⟨gx, ox, hix, hgx, hrd⟩ := pRow_read HROW2.out hlt
            have HR := Lib.hid (hrd wr (HBB.out.block gx hgx))
            have H1 := Lib.hid (one_pcells (p := v2 j) (HT2.out j hlt))
            have HXE := Lib.hid (Bx.new wr (pcells (v2 j) (y2 j)).toArray 42)
            have hl2 : ((l ++ ([123] ++ (catL (fun i => sepT i ++ f1 i) i ++ (sepT i ++ [46, 46, 46])))) ++ catL (fun i => [44, 32] ++ f2 i) j).length + ([44, 32].length + (f2 j).length) + 100 ≤ 140737488355328 := by
              have e1 := catL_mono (f := (fun i => [44, 32] ++ f2 i)) (n := m) (i := j + 1) (by omega)
              have e2 := HL2.out
              simp only [catL, List.length_append] at e1 e2 ⊢
              omega
            have HBA := Lib.hid ((Below.refl wr.heap.size wr).alloc (Nat.le_refl _) (.cells (pcells (v2 j) (y2 j)).toArray 42))
            have HWS := Lib.hid (show (wr.alloc (.cells (pcells (v2 j) (y2 j)).toArray 42)).heap.size = wr.heap.size + 1 by simp)
            have hcb : wr.heap.size ≠ b := by omega
            have HP := Lib.hid (put1_at w0 b _ [44, 32] (wr.alloc (.cells (pcells (v2 j) (y2 j)).toArray 42)) _ 1 HWS.out (HWR.out.below HBA.out) (Nat.le_trans hsz HBA.out.size) (by omega))
            go_wp2_with (first | (refine wpList_store_new rfl 42 (.tmp 14) (.tmp 42) rfl 18 _ (pcells (v2 j) (y2 j)) H1.out.1 (by kernel_rfl) info_P H1.out.2 rfl rfl ?_) | (refine wpList_load_mid rfl 42 (.tmp 41) rfl gx ox rfl (pcells (v2 j) (y2 j)) _ HR.out Tryz.underlying42 rfl (by rw [info_P, H1.out.1]) ?_))
            refine HP.out.mono ?_
            rintro e w2 ha
            have HA2 := Lib.hid ha
            have HBB2 := Lib.hid ((HBB.out.trans (HBA.out.mono hsz)).trans ha.2.2.1)
            have HXF := Lib.hid (HXE.out.kept ha.2.2.2 hcb (by decide))
            obtain ⟨rfl, _⟩ := ha
            go_wp2_with (refine wpList_load_mid rfl 42 (.tmp 14) rfl wr.heap.size 0 rfl (pcells (v2 j) (y2 j)) _ HXF.out.range Tryz.underlying42 rfl (by rw [info_P, H1.out.1]) ?_)
            refine (HF2.out j hlt b _ w2 HBB2.out HA2.out.wr (by simp only [List.length_append] at hl2 ⊢; omega)).mono ?_
            rintro e w3 ha
            have HA := Lib.hid ((HA2.out.step ha).from HBA.out hsz)
            obtain ⟨rfl, _⟩ := ha
            go_wp2_with fail
            go_roundw
            case rel => exact ⟨j + 1, hlt, rfl, by have h3 := HA.out.wr; simp only [catL]; rw [← List.append_assoc (l ++ ([123] ++ (catL (fun i => sepT i ++ f1 i) i ++ (sepT i ++ [46, 46, 46]))))]; exact h3, HB.out.trans HA.out.2.2.1, HK.out.trans HA.out.2.2.2⟩
            case measure => simp only [Lib.intOf]; omega
          · have q1 : decide ((j : Int) < (m : Int)) = false := decide_eq_false (by omega)
            have q1n : decide (j < m) = false := decide_eq_false hlt
            obtain rfl : j = m := by omega
            go_wp2_with fail
            refine (put1_at w0 b _ [32, 125] wr _ _ rfl HWR.out hsz (by have := HL3.out; simp only [List.length_append] at this ⊢; simp at this ⊢; omega)).mono ?_
            rintro e w3 ha
            have HA := Lib.hid ha
            obtain ⟨rfl, _⟩ := ha
            go_wp2_with fail
            go_end0
            refine ⟨rfl, ?_, HB.out.trans HA.out.2.2.1, HK.out.trans HA.out.2.2.2⟩
            have h3 := HA.out.wr
            rw [HRT.out]
            simpa only [List.append_assoc, List.nil_append, List.append_nil] using h3
end Go.Proofs.YtgmnojnalkhepaaGreatDoor
