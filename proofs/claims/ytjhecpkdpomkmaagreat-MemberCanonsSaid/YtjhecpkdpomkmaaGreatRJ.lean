/-
  A bundle of texts, one behind the other: McH, McI, McJ.
-/
import Derived.Test.YtjhecpkdpomkmaaGreatRH
import Derived.Test.YtjhecpkdpomkmaaGreatQX
import Derived.Test.YtjhecpkdpomkmaaGreatQH
import Derived.Test.YtjhecpkdpomkmaaGreatQGA
namespace Go.Proofs.YtjhecpkdpomkmaaGreat
open Go.RowKit
set_option linter.unusedVariables false
set_option linter.unusedSimpArgs false
set_option maxRecDepth 100000

/-- the texts of two lists, one behind the other -/
def glT (l m : SL) (x : Nat) : ByteArray := if x < l.n then l.f x else m.f (x - l.n)
def apartB (g : Nat → ByteArray) (N : Nat) : Bool := allN (fun i => allN (fun k => !sEq (g i) (g k)) i) N
theorem glT_texts (l m : SL) : l.texts ++ m.texts = (List.range (l.n + m.n)).map (glT l m) := by
  refine List.ext_getElem (by simp [SL.texts]) fun i h1 h2 => ?_
  simp only [List.getElem_map, List.getElem_range]
  unfold glT
  have hl : l.texts.length = l.n := by simp [SL.texts]
  by_cases h : i < l.n
  · rw [List.getElem_append_left (by omega), if_pos h]
    simp [SL.texts]
  · rw [List.getElem_append_right (by omega), if_neg h]
    simp [SL.texts]
theorem apart_nodup (g : Nat → ByteArray) (N : Nat) : apartB g N = decide (((List.range N).map g).Nodup) := by
  rw [Bool.eq_iff_iff, decide_eq_true_iff]
  unfold apartB
  rw [allN_iff]
  constructor
  · intro h
    rw [List.Nodup, List.pairwise_iff_getElem]
    intro i j hi hj hij he
    simp only [List.getElem_map, List.getElem_range] at he
    have h1 := allN_iff.1 (h j (by simpa using hj)) i hij
    rw [he, sEq_refl] at h1
    cases h1
  · intro h i hi
    refine allN_iff.2 fun k hk => ?_
    cases hs : sEq (g i) (g k) with
    | false => rfl
    | true =>
      exfalso
      have he := sEq_iff.1 hs
      rw [List.Nodup, List.pairwise_iff_getElem] at h
      refine h k i (by simp; omega) (by simpa using hi) hk ?_
      simp only [List.getElem_map, List.getElem_range]
      exact he.symm
def RelA1 (w : World) (p : Nat → Bool) (N : Nat) (iv : Value) (wr : World) : Prop := ∃ i : Nat, i ≤ N ∧ iv = .int .i64 (i : Nat) ∧ allN p i = true ∧ Below w.heap.size w wr
set_option maxHeartbeats 64000000 in
theorem rapart_ok (B : Nat) (w : World) (l m : SL) (hl : SLIn B w l) (hm : SLIn B w m) (hB : B ≤ w.heap.size) (hn : l.n + m.n ≤ 1000000) :
    Calls Tryz.prog 209 #[.slice l.a l.n l.cap, .slice m.a m.n m.cap] w fun e w' => e = .returned (.bool (apartB (glT l m) (l.n + m.n))) ∧ Below w.heap.size w w' := by
  obtain ⟨res, hres⟩ : ∃ r, apartB (glT l m) (l.n + m.n) = r := ⟨_, rfl⟩
  have HRES := Lib.hid hres
  rw [hres]
  obtain ⟨i0, hi0, hz0, hz1, hz2⟩ := info_parts info_Sz
  have HN1 := Lib.hid (row_newsC (K := 1) (by omega) hl.1 fun _ _ => rfl)
  have HN2 := Lib.hid (row_newsC (K := 1) (by omega) hm.1 fun _ _ => rfl)
  have HL1 := Lib.hid (flatC_len (K := 1) (f := fun i => [Value.string (l.f i)]) (k := l.n) fun _ _ => rfl)
  have HL2 := Lib.hid (flatC_len (K := 1) (f := fun i => [Value.string (m.f i)]) (k := m.n) fun _ _ => rfl)
  have HO1 := Lib.hid (flatC_one (f := fun i => [Value.string (l.f i)]) (k := l.n) fun i _ v hv => (by simp at hv; subst hv; rfl))
  have HO2 := Lib.hid (flatC_one (f := fun i => [Value.string (m.f i)]) (k := m.n) fun i _ v hv => (by simp at hv; subst hv; rfl))
  have HRW := Lib.hid (fun (W : World) (v : Value) (h : W.ownsRow w.heap.size 9 1 v (0 + l.n + m.n) ([] ++ flatC (fun i => [Value.string (l.f i)]) l.n ++ flatC (fun i => [Value.string (m.f i)]) m.n)) => show ∃ a cap, v = .slice a (l.n + m.n) cap ∧ RowAt W.heap.size W a (l.n + m.n) cap 1 (fun i => [Value.string (glT l m i)]) ∧ rowP (w.heap.size ≤ ·) a (l.n + m.n) from by
    have e : [] ++ flatC (fun i => [Value.string (l.f i)]) l.n ++ flatC (fun i => [Value.string (m.f i)]) m.n = flatC (fun i => [Value.string (glT l m i)]) (l.n + m.n) := by
      rw [List.nil_append, flatC_add]
      refine flatC_congr fun i hi => ?_
      unfold glT
      split <;> rfl
    rw [e, Nat.zero_add] at h
    exact own_rowC h (by omega) fun _ _ => rfl)
  have HBB := Lib.hid hB
  obtain ⟨g, hg⟩ : ∃ g, glT l m = g := ⟨_, rfl⟩
  rw [hg] at HRES HRW
  obtain ⟨F1, hf1⟩ : ∃ x, flatC (fun i => [Value.string (l.f i)]) l.n = x := ⟨_, rfl⟩
  obtain ⟨F2, hf2⟩ : ∃ x, flatC (fun i => [Value.string (m.f i)]) m.n = x := ⟨_, rfl⟩
  rw [hf1] at HN1 HL1 HO1 HRW
  rw [hf2] at HN2 HL2 HO2 HRW
  generalize l.n = ln at *
  generalize m.n = mn at *
  generalize l.a = la at *
  generalize m.a = ma at *
  generalize l.cap = lc at *
  generalize m.cap = mc at *
  have HNN := Lib.hid hn
  have HOA := Lib.hid (World.ownsRow_lit (base := w.heap.size) (e := 9) (size := 1) w #[] 0 (Nat.le_refl _) (by unfold maxLen; omega) (by rfl))
  have HB0 := Lib.hid ((Below.refl w.heap.size w).alloc (Nat.le_refl _) (.cells #[] 9))
  clear hl hm hB hres hg hf1 hf2
  go_enter Tryz.func209, Tryz.ntmps209
  go_upto_region 2 with (first
    | (at_builtin; refine wpList_append_rowM rfl (.tmp 8) (.tmp 9) 23 rfl w.heap.size 9 i0 (.string ⟨#[]⟩) 1 16 Tryz.underlying23 hi0 hz0 hz1 hz2 rfl (by decide) _ 0 [] rfl HOA.out la ln lc F1 rfl HL1.out (HN1.out.imp id fun ⟨ad, h1, h2⟩ => ⟨ad, h1, h2 _ (HB0.out.mono HBB.out)⟩) HO1.out (by unfold maxLen; omega) (by omega) HB0.out.size ?_; intro v1 wa ho hg; have HOB := Lib.hid ho; have HBA := Lib.hid (HB0.out.grown hg HB0.out.size (fun j hj => (HOA.out.lt j hj).1)); clear ho hg)
    | (at_builtin; refine wpList_append_rowM rfl (.tmp 10) (.tmp 11) 23 rfl w.heap.size 9 i0 (.string ⟨#[]⟩) 1 16 Tryz.underlying23 hi0 hz0 hz1 hz2 rfl (by decide) v1 (0 + ln) ([] ++ F1) rfl HOB.out ma mn mc F2 rfl HL2.out (HN2.out.imp id fun ⟨ad, h1, h2⟩ => ⟨ad, h1, h2 _ (HBA.out.mono HBB.out)⟩) HO2.out (by unfold maxLen; omega) (by omega) HBA.out.size ?_; intro v2 wb ho hg; have HBX := Lib.hid (HBA.out.grown hg HBA.out.size (fun j hj => (HOB.out.lt j hj).1)); obtain ⟨av, cv, hv2, hrow, _⟩ := HRW.out _ _ ho; subst hv2; have HROW := Lib.hid hrow; clear ho hg hrow))
  obtain ⟨N, hN⟩ : ∃ x, ln + mn = x := ⟨_, rfl⟩
  rw [hN] at HROW HRES ⊢
  have HNK := Lib.hid (show N ≤ 1000000 by have := HNN.out; omega)
  obtain ⟨p, hp⟩ : ∃ p, (fun i => allN (fun k => !sEq (g i) (g k)) i) = p := ⟨_, rfl⟩
  have HPP := Lib.hid (show ∀ i, p i = allN (fun k => !sEq (g i) (g k)) i from fun i => by rw [← hp])
  have HRP := Lib.hid (show res = allN p N from by rw [← HRES.out, ← hp]; rfl)
  clear hp hN hi0 hz0 hz1 hz2 hn
  go_wp2_with fail
  go_loopw [6] (fun iv wr => RelA1 wb p N iv wr) (fun iv _ => N - (Lib.intOf iv).toNat)
  case atStart => exact ⟨0, Nat.zero_le _, rfl, rfl, Below.refl _ _⟩
  case round =>
    obtain ⟨i, hi, rfl, hall, hbel⟩ := hrel
    have HA := Lib.hid hall
    have HBR := Lib.hid hbel
    clear hall hbel
    by_cases hlt : i < N
    · have t1 : decide ((i : Int) < (N : Int)) = true := decide_eq_true (by omega)
      have t1n : decide (i < N) = true := decide_eq_true hlt
      have t3 : IntKind.i64.wrap ((i : Int) + 1) = ((i + 1 : Nat) : Int) := wrap_succ hlt (by have := HNK.out; omega)
      obtain ⟨gx, ox, hix, hgx, hrx⟩ := HROW.out.read 23 9 Tryz.underlying23 (by kernel_rfl) Tryz.sizeOf9 hlt
      have HSU := Lib.hid (fun h => allN_succ (f := p) (n := i) HA.out h)
      have HFA := Lib.hid (show p i = false → res = false from fun h => by rw [HRP.out]; exact allN_no (f := p) hlt h)
      go_wp2_with fail
      go_loopw [7] (fun kv wy => RelA1 wr (fun k => !sEq (g i) (g k)) i kv wy) (fun kv _ => i - (Lib.intOf kv).toNat)
      case atStart => exact ⟨0, Nat.zero_le _, rfl, rfl, Below.refl _ _⟩
      case round =>
        rename World => wy
        obtain ⟨k, hk, rfl, hall, hbel⟩ := hrel
        have HAK := Lib.hid hall
        have HBI := Lib.hid (HBR.out.trans (hbel.mono HBR.out.size))
        have HBJ := Lib.hid hbel
        clear hall hbel
        by_cases hkl : k < i
        · have r1 : decide ((k : Int) < (i : Int)) = true := decide_eq_true (by omega)
          have r1n : decide (k < i) = true := decide_eq_true hkl
          have r3 : IntKind.i64.wrap ((k : Int) + 1) = ((k + 1 : Nat) : Int) := wrap_succ hkl (by have := HNK.out; omega)
          obtain ⟨gy, oy, hiy, hgy, hry⟩ := HROW.out.read 23 9 Tryz.underlying23 (by kernel_rfl) Tryz.sizeOf9 (show k < N by omega)
          have x0 := hrx wy (HBI.out.block gx hgx) 0 _ rfl
          have y0 := hry wy (HBI.out.block gy hgy) 0 _ rfl
          rw [Nat.add_zero] at x0 y0
          have HKS := Lib.hid (fun h => allN_succ (f := fun k => !sEq (g i) (g k)) (n := k) HAK.out h)
          have HKF := Lib.hid (show sEq (g i) (g k) = true → res = false from fun h => HFA.out (by rw [HPP.out]; exact allN_no (f := fun k => !sEq (g i) (g k)) hkl (by rw [h]; rfl)))
          cases heb : sEq (g i) (g k) with
          | true =>
            have s1 : ((g i).toList == (g k).toList) = true := heb
            have HZ := Lib.hid (HKF.out heb)
            clear heb hry
            go_wp2_with fail
            go_quiet (fail)
            go_wp2_with fail
            go_ret
            exact ⟨by rw [HZ.out]; rfl, (HBX.out.trans (HBI.out.mono HBX.out.size)).trans ⟨rfl, rfl, rfl, Nat.le_refl _, fun _ _ => rfl⟩⟩
          | false =>
            have s1 : ((g i).toList == (g k).toList) = false := heb
            have HN := Lib.hid (HKS.out (by show (!sEq (g i) (g k)) = true; rw [heb]; rfl))
            clear heb hry
            go_wp2_with fail
            go_quiet (fail)
            go_wp2_with fail
            go_roundw
            case rel => exact ⟨k + 1, hkl, rfl, HN.out, HBJ.out.trans ⟨rfl, rfl, rfl, Nat.le_refl _, fun _ _ => rfl⟩⟩
            case measure => simp only [Lib.intOf]; omega
        · have r1 : decide ((k : Int) < (i : Int)) = false := decide_eq_false (by omega)
          have r1n : decide (k < i) = false := decide_eq_false hkl
          obtain rfl : k = i := by omega
          have HN := Lib.hid (HSU.out (by rw [HPP.out]; exact HAK.out))
          go_wp2_with fail
          go_roundw
          case rel => exact ⟨k + 1, hlt, rfl, HN.out, HBI.out⟩
          case measure => simp only [Lib.intOf]; omega
    · have t1 : decide ((i : Int) < (N : Int)) = false := decide_eq_false (by omega)
      have t1n : decide (i < N) = false := decide_eq_false hlt
      obtain rfl : i = N := by omega
      have HZ := Lib.hid (show res = true from by rw [HRP.out, HA.out])
      go_wp2_with fail
      go_ret
      exact ⟨by rw [HZ.out]; rfl, HBX.out.trans (HBR.out.mono HBX.out.size)⟩
end Go.Proofs.YtjhecpkdpomkmaaGreat

namespace Go.Proofs.YtjhecpkdpomkmaaGreat
open Go.RowKit
set_option linter.unusedVariables false
set_option linter.unusedSimpArgs false
set_option maxRecDepth 100000

def fldB (rows : Nat) (ch : Bool) (p : FT) : Bool := (decide (0 ≤ p.t) && decide (p.t < rows)) && (!(p.opt && decide (0 < p.d.n)) && (decide (p.d.n ≤ 1) && !(ch && (p.opt || decide (0 < p.d.n)))))
theorem fldB_ok (rows : Nat) (k : Int) (p : FT) : fldB rows (k == 10) p = p.ok k rows := by
  unfold fldB FT.ok
  rcases Nat.lt_trichotomy p.d.n 1 with h | h | h
  · have h0 : p.d.n = 0 := by omega
    rw [h0]
    cases p.opt <;> cases (k == 10) <;> simp
  · rw [h]
    cases p.opt <;> cases (k == 10) <;> simp
  · rw [decide_eq_true (show 0 < p.d.n by omega), decide_eq_false (show ¬ p.d.n ≤ 1 by omega), decide_eq_false (show ¬ p.d.n = 0 by omega), decide_eq_false (show ¬ p.d.n = 1 by omega)]
    simp
/-- what 'fields' answers -/
def FldOut (w : World) (l : FL) (rows : Nat) (ch : Bool) (e : Ending) (w' : World) : Prop :=
  Below w.heap.size w w' ∧ ((allN (fun i => fldB rows ch (l.f i)) l.n = false ∧ e = .returned (.tuple #[.slice none 0 0, .bool false])) ∨
    (allN (fun i => fldB rows ch (l.f i)) l.n = true ∧ ∃ a cap, e = .returned (.tuple #[.slice a l.n cap, .bool (decide (l.n ≤ 256))]) ∧ RowAt w'.heap.size w' a l.n cap 1 (fun i => [.string (l.f i).name])))
def RelFl (w : World) (l : FL) (p : Nat → Bool) (N : Nat) (ov iv : Value) (wr : World) : Prop := ∃ i : Nat, i ≤ N ∧ iv = .int .i64 (i : Nat) ∧ allN p i = true ∧ wr.ownsRow w.heap.size 9 1 ov i (flatC (fun i => [.string (l.f i).name]) i) ∧ Below w.heap.size w wr
set_option maxHeartbeats 64000000 in
theorem rfields_ok (B : Nat) (w : World) (rows : Nat) (l : FL) (ch : Bool) (hl : FLIn B w l) (hB : B ≤ w.heap.size) (hn : l.n ≤ 1000000) (hrw : rows ≤ 1000000) :
    Calls Tryz.prog 208 #[.int .i64 (rows : Nat), .slice l.a l.n l.cap, .bool ch] w (FldOut w l rows ch) := by
  obtain ⟨i0, hi0, hz0, hz1, hz2⟩ := info_parts info_Sz
  obtain ⟨p, hp⟩ : ∃ p, (fun i => fldB rows ch (l.f i)) = p := ⟨_, rfl⟩
  have HPP := Lib.hid (show ∀ i, p i = fldB rows ch (l.f i) from fun i => by rw [← hp])
  obtain ⟨N, hN⟩ : ∃ x, l.n = x := ⟨_, rfl⟩
  have HOUT := Lib.hid (show ∀ e w', Below w.heap.size w w' → ((allN p N = false ∧ e = Ending.returned (.tuple #[.slice none 0 0, .bool false])) ∨ (allN p N = true ∧ ∃ a cap, e = .returned (.tuple #[.slice a N cap, .bool (decide (N ≤ 256))]) ∧ RowAt w'.heap.size w' a N cap 1 (fun i => [.string (l.f i).name]))) → FldOut w l rows ch e w' from fun e w' h1 h2 => by
    rw [← hN, ← hp] at h2
    exact ⟨h1, h2⟩)
  have HL := Lib.hid hl
  have HBB := Lib.hid hB
  have HNK := Lib.hid (show N ≤ 1000000 by omega)
  have HRK := Lib.hid hrw
  rw [hN]
  clear hl hB hn hrw hp
  go_enter Tryz.func208, Tryz.ntmps208
  go_wp2_with fail
  go_loopw [8, 9] (fun ov iv wr => RelFl w l p N ov iv wr) (fun _ iv _ => N - (Lib.intOf iv).toNat)
  case atStart => exact ⟨0, Nat.zero_le _, rfl, rfl, World.ownsRow_nil _ _ _ _, Below.refl _ _⟩
  case round =>
    obtain ⟨i, hi, rfl, hall, hown, hbel⟩ := hrel
    have HA := Lib.hid hall
    have HBR := Lib.hid hbel
    have HOW := Lib.hid hown
    clear hall hbel hown
    by_cases hlt : i < N
    · have t1 : decide ((i : Int) < (N : Int)) = true := decide_eq_true (by omega)
      have t1n : decide (i < N) = true := decide_eq_true hlt
      have t3 : IntKind.i64.wrap ((i : Int) + 1) = ((i + 1 : Nat) : Int) := wrap_succ hlt (by have := HNK.out; omega)
      obtain ⟨gy, oy, hiy, hgy, hry⟩ := HL.out.1.read 43 48 Tryz.underlying43 (by kernel_rfl) Tryz.sizeOf48 (show i < l.n by omega)
      rw [hN] at hiy
      have hrx := hry wr (HBR.out.block gy (by have := HBB.out; omega))
      have p0 := hrx 0 _ rfl
      have p1 := hrx 1 _ rfl
      have p2 := hrx 2 _ rfl
      have p3 := hrx 3 _ rfl
      rw [Nat.add_zero] at p0
      unfold DL.v at p3
      have HSU := Lib.hid (fun h => allN_succ (f := p) (n := i) HA.out h)
      have HFA := Lib.hid (show p i = false → allN p N = false from fun h => allN_no (f := p) hlt h)
      have hpi := HPP.out i
      unfold fldB at hpi
      have HNM := Lib.hid (show (l.f i).name = (l.f i).name from rfl)
      obtain ⟨fn, hfn⟩ : ∃ y, (l.f i).name = y := ⟨_, rfl⟩
      obtain ⟨ft, hft⟩ : ∃ y, (l.f i).t = y := ⟨_, rfl⟩
      obtain ⟨fo, hfo⟩ : ∃ y, (l.f i).opt = y := ⟨_, rfl⟩
      obtain ⟨fa, hfa⟩ : ∃ y, (l.f i).d.a = y := ⟨_, rfl⟩
      obtain ⟨fd, hfd⟩ : ∃ y, (l.f i).d.n = y := ⟨_, rfl⟩
      obtain ⟨fc, hfc⟩ : ∃ y, (l.f i).d.cap = y := ⟨_, rfl⟩
      rw [hfn] at p0
      rw [hft] at p1 hpi
      rw [hfo] at p2 hpi
      rw [hfa, hfd, hfc] at p3
      rw [hfd] at hpi
      have HFN := Lib.hid hfn
      have HPI := Lib.hid hpi
      clear hfn hft hfo hfa hfd hfc hpi hry hrx hgy
      go_upto_region 6 with (refine wpList_store_new rfl 48 (.tmp 10) (.tmp 20) rfl 4 _ [.string fn, .int .i64 ft, .bool fo, .slice fa fd fc] rfl (by rfl) info_F4 (by simp [Value.oneCell']) rfl rfl ?_)
      (try dsimp only [Act.put])
      have HY := Lib.hid (Bx.new wr #[.string fn, .int .i64 ft, .bool fo, .slice fa fd fc] 48)
      have HB1 := Lib.hid (HBR.out.alloc HBR.out.size (.cells #[.string fn, .int .i64 ft, .bool fo, .slice fa fd fc] 48))
      have HOW1 := Lib.hid (World.ownsRow.alloc HOW.out (.cells #[.string fn, .int .i64 ft, .bool fo, .slice fa fd fc] 48))
      generalize wr.alloc (.cells #[.string fn, .int .i64 ft, .bool fo, .slice fa fd fc] 48) = W1 at *
      obtain ⟨g, hg⟩ : ∃ g, wr.heap.size = g := ⟨_, rfl⟩
      rw [hg] at HY ⊢
      clear hg p0 p1 p2 p3 t1 t1n
      have g0 := HY.out.cell 0 (v := .string fn) rfl
      have g1 := HY.out.cell 1 (v := .int .i64 ft) rfl
      have g2 := HY.out.cell 2 (v := .bool fo) rfl
      have g3 := HY.out.cell 3 (v := .slice fa fd fc) rfl
      generalize hz : p i = z at *
      go_cut [58] from 21 to 58 (fun v wx => v = .bool (!z) ∧ W1 = wx)
      case first =>
        by_cases h0 : ft < 0
        · have u0 : decide (ft < 0) = true := decide_eq_true h0
          have HZ := Lib.hid (show z = false from by rw [HPI.out]; rw [decide_eq_false (show ¬ 0 ≤ ft by omega)]; rfl)
          go_wp2_with fail
          go_meet
          exact ⟨by rw [HZ.out]; rfl, rfl⟩
        have u0 : decide (ft < 0) = false := decide_eq_false h0
        have v0 : decide (0 ≤ ft) = true := decide_eq_true (by omega)
        by_cases h1 : (rows : Int) ≤ ft
        · have u1 : decide ((rows : Int) ≤ ft) = true := decide_eq_true h1
          have HZ := Lib.hid (show z = false from by rw [HPI.out]; rw [decide_eq_false (show ¬ ft < (rows : Int) by omega), Bool.and_false]; rfl)
          go_wp2_with fail
          go_meet
          exact ⟨by rw [HZ.out]; rfl, rfl⟩
        have u1 : decide ((rows : Int) ≤ ft) = false := decide_eq_false h1
        have v1 : decide (ft < (rows : Int)) = true := decide_eq_true (by omega)
        rcases (by omega : fd = 0 ∨ fd = 1 ∨ 1 < fd) with h2 | h2 | h2
        · have w1 : decide ((0 : Int) < (fd : Int)) = false := decide_eq_false (by omega)
          have w1n : decide (0 < fd) = false := decide_eq_false (by omega)
          have w2 : decide ((1 : Int) < (fd : Int)) = false := decide_eq_false (by omega)
          have w2n : decide (1 < fd) = false := decide_eq_false (by omega)
          have w3 : decide (fd ≤ 1) = true := decide_eq_true (by omega)
          clear h2
          cases fo with
          | true =>
            cases ch with
            | true =>
              have HZ := Lib.hid (show z = false from by rw [HPI.out]; rw [v0, v1, w1n, w3]; rfl)
              go_wp2_with fail
              go_meet
              exact ⟨by rw [HZ.out]; rfl, rfl⟩
            | false =>
              have HZ := Lib.hid (show z = true from by rw [HPI.out]; rw [v0, v1, w1n, w3]; rfl)
              go_wp2_with fail
              go_meet
              exact ⟨by rw [HZ.out]; rfl, rfl⟩
          | false =>
            cases ch with
            | true =>
              have HZ := Lib.hid (show z = true from by rw [HPI.out]; rw [v0, v1, w1n, w3]; rfl)
              go_wp2_with fail
              go_meet
              exact ⟨by rw [HZ.out]; rfl, rfl⟩
            | false =>
              have HZ := Lib.hid (show z = true from by rw [HPI.out]; rw [v0, v1, w1n, w3]; rfl)
              go_wp2_with fail
              go_meet
              exact ⟨by rw [HZ.out]; rfl, rfl⟩
        · have w1 : decide ((0 : Int) < (fd : Int)) = true := decide_eq_true (by omega)
          have w1n : decide (0 < fd) = true := decide_eq_true (by omega)
          have w2 : decide ((1 : Int) < (fd : Int)) = false := decide_eq_false (by omega)
          have w2n : decide (1 < fd) = false := decide_eq_false (by omega)
          have w3 : decide (fd ≤ 1) = true := decide_eq_true (by omega)
          clear h2
          cases fo with
          | true =>
            cases ch with
            | true =>
              have HZ := Lib.hid (show z = false from by rw [HPI.out]; rw [v0, v1, w1n, w3]; rfl)
              go_wp2_with fail
              go_meet
              exact ⟨by rw [HZ.out]; rfl, rfl⟩
            | false =>
              have HZ := Lib.hid (show z = false from by rw [HPI.out]; rw [v0, v1, w1n, w3]; rfl)
              go_wp2_with fail
              go_meet
              exact ⟨by rw [HZ.out]; rfl, rfl⟩
          | false =>
            cases ch with
            | true =>
              have HZ := Lib.hid (show z = false from by rw [HPI.out]; rw [v0, v1, w1n, w3]; rfl)
              go_wp2_with fail
              go_meet
              exact ⟨by rw [HZ.out]; rfl, rfl⟩
            | false =>
              have HZ := Lib.hid (show z = true from by rw [HPI.out]; rw [v0, v1, w1n, w3]; rfl)
              go_wp2_with fail
              go_meet
              exact ⟨by rw [HZ.out]; rfl, rfl⟩
        · have w1 : decide ((0 : Int) < (fd : Int)) = true := decide_eq_true (by omega)
          have w1n : decide (0 < fd) = true := decide_eq_true (by omega)
          have w2 : decide ((1 : Int) < (fd : Int)) = true := decide_eq_true (by omega)
          have w2n : decide (1 < fd) = true := decide_eq_true (by omega)
          have w3 : decide (fd ≤ 1) = false := decide_eq_false (by omega)
          clear h2
          cases fo with
          | true =>
            cases ch with
            | true =>
              have HZ := Lib.hid (show z = false from by rw [HPI.out]; rw [v0, v1, w1n, w3]; rfl)
              go_wp2_with fail
              go_meet
              exact ⟨by rw [HZ.out]; rfl, rfl⟩
            | false =>
              have HZ := Lib.hid (show z = false from by rw [HPI.out]; rw [v0, v1, w1n, w3]; rfl)
              go_wp2_with fail
              go_meet
              exact ⟨by rw [HZ.out]; rfl, rfl⟩
          | false =>
            cases ch with
            | true =>
              have HZ := Lib.hid (show z = false from by rw [HPI.out]; rw [v0, v1, w1n, w3]; rfl)
              go_wp2_with fail
              go_meet
              exact ⟨by rw [HZ.out]; rfl, rfl⟩
            | false =>
              have HZ := Lib.hid (show z = false from by rw [HPI.out]; rw [v0, v1, w1n, w3]; rfl)
              go_wp2_with fail
              go_meet
              exact ⟨by rw [HZ.out]; rfl, rfl⟩
      obtain ⟨rfl, rfl⟩ := hcut
      cases z with
      | false =>
        have HZ := Lib.hid (HFA.out rfl)
        clear hz
        go_wp2_with fail
        go_ret2
        exact HOUT.out _ _ HB1.out (.inl ⟨HZ.out, rfl⟩)
      | true =>
        have HN := Lib.hid (HSU.out rfl)
        clear hz
        have HOW2 := Lib.hid (World.ownsRow.alloc HOW1.out (.cells #[.string fn] 9))
        have HB2 := Lib.hid (HB1.out.alloc HB1.out.size (.cells #[.string fn] 9))
        go_upto_region 4 with (at_builtin; refine wpList_append_rowM rfl (.tmp 59) (.tmp 62) 23 rfl w.heap.size 9 i0 (.string ⟨#[]⟩) 1 16 Tryz.underlying23 hi0 hz0 hz1 hz2 rfl (by decide) _ i _ rfl HOW2.out (some ⟨W1.heap.size, 0, none⟩) 1 1 [.string fn] rfl rfl (.inr ⟨_, rfl, cells_new _ _ _⟩) (by simp [Value.oneCell']) (by have := HNK.out; unfold maxLen; omega) (by have := HNK.out; omega) HB2.out.size ?_; intro v' w5 ho hg; have HO5 := Lib.hid ho; have HB5 := Lib.hid (HB2.out.grown hg HB2.out.size (fun j hj => (HOW2.out.lt j hj).1)); clear ho hg)
        have HO6 := Lib.hid (show w5.ownsRow w.heap.size 9 1 v' (i + 1) (flatC (fun i => [Value.string (l.f i).name]) (i + 1)) from by
          have h := HO5.out
          rw [← HFN.out] at h
          exact h)
        clear g0 g1 g2 g3
        go_wp2_with fail
        go_roundw
        case rel => exact ⟨i + 1, hlt, rfl, HN.out, HO6.out, HB5.out⟩
        case measure => simp only [Lib.intOf]; omega
    · have t1 : decide ((i : Int) < (N : Int)) = false := decide_eq_false (by omega)
      have t1n : decide (i < N) = false := decide_eq_false hlt
      obtain rfl : i = N := by omega
      obtain ⟨a, cap, rfl, hrow, _⟩ := own_rowC HOW.out (by have := HNK.out; omega) (fun _ _ => rfl)
      have HRO := Lib.hid hrow
      clear hrow
      by_cases h256 : i ≤ 256
      · have u1 : decide ((i : Int) ≤ (256 : Int)) = true := decide_eq_true (by omega)
        have u1n : decide (i ≤ 256) = true := decide_eq_true h256
        have HF := Lib.hid (HOUT.out (.returned (.tuple #[.slice a i cap, .bool true])) wr HBR.out (.inr ⟨HA.out, a, cap, by rw [u1n], HRO.out⟩))
        clear h256
        go_wp2_with fail
        go_ret2
        exact HF.out
      · have u1 : decide ((i : Int) ≤ (256 : Int)) = false := decide_eq_false (by omega)
        have u1n : decide (i ≤ 256) = false := decide_eq_false h256
        have HF := Lib.hid (HOUT.out (.returned (.tuple #[.slice a i cap, .bool false])) wr HBR.out (.inr ⟨HA.out, a, cap, by rw [u1n], HRO.out⟩))
        clear h256
        go_wp2_with fail
        go_ret2
        exact HF.out
end Go.Proofs.YtjhecpkdpomkmaaGreat

namespace Go.Proofs.YtjhecpkdpomkmaaGreat
open Go.RowKit
set_option linter.unusedVariables false
set_option linter.unusedSimpArgs false
set_option maxRecDepth 100000

open Classical in
theorem setOk_not {r : DT} (h : hasSet r.kind = false) : r.setOk = (decide (r.set.n = 0) && ((r.lo == 0) && (r.hi == 0))) := by
  have hk2 : (r.kind == 2) = false := by
    unfold hasSet at h
    cases hb : (r.kind == 2) with
    | false => rfl
    | true => rw [hb] at h; cases h
  unfold DT.setOk
  rw [h]
  by_cases hn : r.set.n = 0
  · have hl : r.set.l = [] := List.eq_nil_of_length_eq_zero (by rw [RS.len]; exact hn)
    rw [hl, hn]
    have hr : rgt [] := ⟨List.Pairwise.nil, fun r h => (by cases h)⟩
    simp [eLo, eHi, hr]
  · rw [decide_eq_true (show 0 < r.set.n by omega), decide_eq_false hn]
    rfl
open Classical in
theorem setOk_wrong {r : DT} (h : ¬ rgt r.set.l) : r.setOk = false := by
  unfold DT.setOk
  rw [decide_eq_false h]
  simp
theorem setOk_none {r : DT} (h : hasSet r.kind = true) (hn : r.set.n = 0) : r.setOk = false := by
  unfold DT.setOk
  rw [h, hn]
  rfl
open Classical in
theorem setOk_yes {r : DT} (h : hasSet r.kind = true) (hn : 0 < r.set.n) (hr : rgt r.set.l) : r.setOk = ((eLo r.set.l == r.lo) && ((eHi r.set.l == r.hi) && ((r.kind == 2) || decide (0 ≤ eLo r.set.l)))) := by
  unfold DT.setOk
  rw [h, decide_eq_true hn, decide_eq_true hr, Bool.beq_comm (a := r.lo), Bool.beq_comm (a := r.hi)]
  simp [Bool.and_assoc]
set_option maxHeartbeats 32000000 in
theorem rsized_ok (B : Nat) (w : World) (r : DT) (hr : DTIn B w r) (hB : B ≤ w.heap.size) (hs : r.set.n ≤ 300) :
    Calls Tryz.prog 207 #[.agg r.cells.toArray] w fun e w' => e = .returned (.bool r.setOk) ∧ Below w.heap.size w w' := by
  have HX := Lib.hid (Bx.new w r.cells.toArray 46)
  have HB := Lib.hid ((Below.refl w.heap.size w).alloc (Nat.le_refl _) (.cells r.cells.toArray 46))
  have HRS := Lib.hid (fun (W : World) (hW : Below w.heap.size w W) => ((hr.2.1.below (Below.refl _ _) hB).below hW (Nat.le_refl _)).rsl)
  have HLN := Lib.hid (show r.set.l.length ≤ 300 from by rw [RS.len]; exact hs)
  have HE := Lib.hid (fun (W : World) (hW : Below w.heap.size w W) => rEnds_ok W r.set.v r.set.l (HRS.out W hW) HLN.out)
  have HR := Lib.hid (fun (W : World) (hW : Below w.heap.size w W) => rRight_ok W r.set.v r.set.l (HRS.out W hW) HLN.out)
  have c0 := HX.out.cell 0 (v := .int .i64 r.kind) rfl
  have c2 := HX.out.cell 2 (v := .slice r.set.a r.set.n r.set.cap) rfl
  have c3 := HX.out.cell 3 (v := .int .i64 r.lo) rfl
  have c4 := HX.out.cell 4 (v := .int .i64 r.hi) rfl
  have HS1 := Lib.hid (fun h => setOk_not (r := r) h)
  have HS2 := Lib.hid (fun h => setOk_wrong (r := r) h)
  have HS3 := Lib.hid (fun h hn => setOk_none (r := r) h hn)
  have HS4 := Lib.hid (fun h hn hr => setOk_yes (r := r) h hn hr)
  unfold RS.v at HE HR
  generalize r.setOk = res at *
  clear hr hB hs
  go_enter Tryz.func207, Tryz.ntmps207
  go_upto_region 1 with fail
  generalize w.alloc (.cells r.cells.toArray 46) = W1 at *
  go_cut [28] from 6 to 28 (fun v wx => v = .bool (!hasSet r.kind) ∧ W1 = wx)
  case first =>
    obtain ⟨kd, hkd⟩ : ∃ x, r.kind = x := ⟨_, rfl⟩
    rw [hkd] at c0
    have HKD := Lib.hid hkd
    clear hkd HS1 HS2 HS3 HS4
    by_cases h2 : kd = 2
    · subst h2
      go_wp2_with fail
      go_meet
      exact ⟨by rw [HKD.out]; rfl, rfl⟩
    have n2 : (kd != 2) = true := bne_iff_ne.2 h2
    have e2 : (kd == 2) = false := beq_eq_false_iff_ne.2 h2
    by_cases h5 : kd = 5
    · subst h5
      go_wp2_with fail
      go_meet
      exact ⟨by rw [HKD.out]; rfl, rfl⟩
    have n5 : (kd != 5) = true := bne_iff_ne.2 h5
    have e5 : (kd == 5) = false := beq_eq_false_iff_ne.2 h5
    by_cases h6 : kd = 6
    · subst h6
      go_wp2_with fail
      go_meet
      exact ⟨by rw [HKD.out]; rfl, rfl⟩
    have n6 : (kd != 6) = true := bne_iff_ne.2 h6
    have e6 : (kd == 6) = false := beq_eq_false_iff_ne.2 h6
    by_cases h7 : kd = 7
    · subst h7
      go_wp2_with fail
      go_meet
      exact ⟨by rw [HKD.out]; rfl, rfl⟩
    have n7 : (kd != 7) = true := bne_iff_ne.2 h7
    have e7 : (kd == 7) = false := beq_eq_false_iff_ne.2 h7
    by_cases h9 : kd = 9
    · subst h9
      go_wp2_with fail
      go_meet
      exact ⟨by rw [HKD.out]; rfl, rfl⟩
    have n9 : (kd != 9) = true := bne_iff_ne.2 h9
    have e9 : (kd == 9) = false := beq_eq_false_iff_ne.2 h9
    have HZ := Lib.hid (show hasSet kd = false from by unfold hasSet isSz; rw [e2, e5, e6, e7, e9]; rfl)
    clear h2 h5 h6 h7 h9
    go_wp2_with fail
    go_meet
    exact ⟨by rw [HKD.out, HZ.out]; rfl, rfl⟩
  obtain ⟨rfl, rfl⟩ := hcut
  cases hst : hasSet r.kind with
  | false =>
    have HZ := Lib.hid (HS1.out hst)
    clear hst HS1 HS2 HS3 HS4
    generalize r.lo = lo at *
    generalize r.hi = hi at *
    generalize r.set.n = sn at *
    by_cases h1 : sn = 0
    · have u1 : ((sn : Int) == 0) = true := by simp [h1]
      by_cases h2 : lo = 0
      · have u2 : (lo == 0) = true := by rw [h2]; rfl
        obtain ⟨b3, u3⟩ : ∃ b, (hi == 0) = b := ⟨_, rfl⟩
        have HY := Lib.hid (show res = b3 from by rw [HZ.out, decide_eq_true h1, u2, u3]; rfl)
        clear h1 h2
        go_wp2_with fail
        go_ret
        exact ⟨by rw [HY.out]; rfl, HB.out⟩
      · have u2 : (lo == 0) = false := beq_eq_false_iff_ne.2 h2
        have HY := Lib.hid (show res = false from by rw [HZ.out, u2, Bool.false_and, Bool.and_false])
        clear h1 h2
        go_wp2_with fail
        go_ret
        exact ⟨by rw [HY.out]; rfl, HB.out⟩
    · have u1 : ((sn : Int) == 0) = false := beq_eq_false_iff_ne.2 (by omega)
      have HY := Lib.hid (show res = false from by rw [HZ.out, decide_eq_false h1]; rfl)
      clear h1
      go_wp2_with fail
      go_ret
      exact ⟨by rw [HY.out]; rfl, HB.out⟩
  | true =>
    have HST := Lib.hid hst
    clear hst
    go_wp2_with fail
    refine (HE.out _ HB.out).mono ?_
    rintro e w2 ⟨R, rfl, hsay, h2⟩
    have HB2 := Lib.hid (HB.out.trans (h2.mono HB.out.size))
    have HX2 := Lib.hid (HX.out.below h2 HX.out.lt)
    have HSAY := Lib.hid hsay
    clear h2 hsay c0 c2 c3 c4
    have c0 := HX2.out.cell 0 (v := .int .i64 r.kind) rfl
    have c2 := HX2.out.cell 2 (v := .slice r.set.a r.set.n r.set.cap) rfl
    have c3 := HX2.out.cell 3 (v := .int .i64 r.lo) rfl
    have c4 := HX2.out.cell 4 (v := .int .i64 r.hi) rfl
    have HRL := Lib.hid (show rgt r.set.l → R = r.set.l from fun hg => HSAY.out.eq (q := mem r.set.l) ⟨hg, fun q hq => (HRS.out _ HB.out).1 q hq, fun n _ => Iff.rfl⟩ fun n _ => Iff.rfl)
    have HNZ := Lib.hid (show eOk R = false → res = false from fun hk => by
      by_cases hn : r.set.n = 0
      · exact HS3.out HST.out hn
      · refine HS2.out fun hg => ?_
        rw [HRL.out hg] at hk
        unfold eOk at hk
        rw [RS.len] at hk
        have := of_decide_eq_false hk
        omega)
    have HYS := Lib.hid (show eOk R = true → rgt r.set.l → res = ((eLo R == r.lo) && ((eHi R == r.hi) && ((r.kind == 2) || decide (0 ≤ eLo R)))) from fun hk hg => by
      have e := HRL.out hg
      have hn : 0 < r.set.n := by
        rw [e] at hk
        unfold eOk at hk
        rw [RS.len] at hk
        exact of_decide_eq_true hk
      rw [e]
      exact HS4.out HST.out hn hg)
    have HWR := Lib.hid HS2.out
    clear HS1 HS2 HS3 HS4
    generalize eOk R = ok at *
    generalize eLo R = lo at *
    generalize eHi R = hi at *
    cases ok with
    | false =>
      have HZ := Lib.hid (HNZ.out rfl)
      go_wp2_with fail
      go_ret
      exact ⟨by rw [HZ.out]; rfl, HB2.out⟩
    | true =>
    go_wp2_with fail
    refine (HR.out _ HB2.out).mono ?_
    rintro e w3 ⟨b, rfl, hb, h3⟩
    have HB3 := Lib.hid (HB2.out.trans (h3.mono HB2.out.size))
    have HX3 := Lib.hid (HX2.out.below h3 HX2.out.lt)
    have HBI := Lib.hid hb
    clear h3 hb c0 c2 c3 c4
    have c0 := HX3.out.cell 0 (v := .int .i64 r.kind) rfl
    have c3 := HX3.out.cell 3 (v := .int .i64 r.lo) rfl
    have c4 := HX3.out.cell 4 (v := .int .i64 r.hi) rfl
    cases b with
    | false =>
      have HZ := Lib.hid (HWR.out fun hg => by have := HBI.out.2 hg; cases this)
      go_wp2_with fail
      go_ret
      exact ⟨by rw [HZ.out]; rfl, HB3.out⟩
    | true =>
    have HZ := Lib.hid (HYS.out (by first | rfl | trivial) (HBI.out.1 rfl))
    generalize r.lo = rl at *
    generalize r.hi = rh at *
    generalize r.kind = kd at *
    cases u1 : (lo == rl) with
    | false =>
      have HY := Lib.hid (show res = false from by rw [HZ.out, u1]; rfl)
      go_wp2_with fail
      go_ret
      exact ⟨by rw [HY.out]; rfl, HB3.out⟩
    | true =>
    cases u2 : (hi == rh) with
    | false =>
      have HY := Lib.hid (show res = false from by rw [HZ.out, u1, u2]; rfl)
      go_wp2_with fail
      go_ret
      exact ⟨by rw [HY.out]; rfl, HB3.out⟩
    | true =>
    cases u3 : (kd == 2) with
    | true =>
      have HY := Lib.hid (show res = true from by rw [HZ.out, u1, u2, u3]; rfl)
      go_wp2_with fail
      go_ret
      exact ⟨by rw [HY.out]; rfl, HB3.out⟩
    | false =>
    by_cases h0 : 0 ≤ lo
    · have u4 : decide (0 ≤ lo) = true := decide_eq_true h0
      have HY := Lib.hid (show res = true from by rw [HZ.out, u1, u2, u3, u4]; rfl)
      clear h0
      go_wp2_with fail
      go_ret
      exact ⟨by rw [HY.out]; rfl, HB3.out⟩
    · have u4 : decide (0 ≤ lo) = false := decide_eq_false h0
      have HY := Lib.hid (show res = false from by rw [HZ.out, u1, u2, u3, u4]; rfl)
      clear h0
      go_wp2_with fail
      go_ret
      exact ⟨by rw [HY.out]; rfl, HB3.out⟩
end Go.Proofs.YtjhecpkdpomkmaaGreat
