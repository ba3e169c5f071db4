/-
  A bundle of texts, one behind the other: McK, McL, McM, McN, McO.
-/
import Derived.Test.YtjhecpkdpomkmaaGreatRJ
namespace Go.Proofs.YtjhecpkdpomkmaaGreat
open Go.RowKit
set_option linter.unusedVariables false
set_option linter.unusedSimpArgs false
set_option maxRecDepth 100000

def RelAl (w : World) (s : ByteArray) (iv : Value) (wr : World) : Prop := ∃ i : Nat, i ≤ s.size ∧ iv = .int .i64 (i : Nat) ∧ allN (rises s) i = true ∧ Below w.heap.size w wr
set_option maxHeartbeats 16000000 in
theorem ralph_ok (w : World) (s : ByteArray) (hs : s.size ≤ 140737488355328) :
    Calls Tryz.prog 156 #[.string s] w fun e w' => e = .returned (.bool (allN (rises s) s.size)) ∧ Below w.heap.size w w' := by
  obtain ⟨res, hres⟩ : ∃ r, allN (rises s) s.size = r := ⟨_, rfl⟩
  have HRES := Lib.hid hres
  rw [hres]
  have HS := Lib.hid hs
  clear hs hres
  go_enter Tryz.func156, Tryz.ntmps156
  go_wp2_with fail
  go_loopw [3] (fun iv wr => RelAl w s iv wr) (fun iv _ => s.size - (Lib.intOf iv).toNat)
  case atStart => exact ⟨0, Nat.zero_le _, rfl, rfl, Below.refl _ _⟩
  case round =>
    obtain ⟨i, hi, rfl, hall, hbel⟩ := hrel
    have HA := Lib.hid hall
    have HB := Lib.hid hbel
    clear hall hbel
    by_cases hlt : i < s.size
    · have q1 : decide ((i : Int) < (s.size : Int)) = true := decide_eq_true (by omega)
      have q1n : decide (i < s.size) = true := decide_eq_true hlt
      obtain ⟨x, hx⟩ : ∃ x, byteAt s i = x := ⟨_, rfl⟩
      have e1 : (s[i]'hlt).toNat = x := (byteAt_eq hlt).trans hx
      have q3 : (i : Int) < (s.size : Int) := by omega
      have q4 : (0 : Int) ≤ (i : Int) := by omega
      have q5 : IntKind.i64.wrap ((i : Int) + 1) = ((i + 1 : Nat) : Int) := wrap_succ hlt (by have := HS.out; omega)
      have HX := Lib.hid hx
      have HI := Lib.hid hi
      clear hx hi
      by_cases h1 : 128 ≤ x
      · have HN := Lib.hid (show res = false from by rw [← HRES.out]; exact allN_no (f := rises s) hlt (by unfold rises; rw [HX.out, decide_eq_false (by omega)]; rfl))
        have q6 : decide ((128 : Int) ≤ (x : Int)) = true := decide_eq_true (by omega)
        have q6n : decide (128 ≤ x) = true := decide_eq_true h1
        go_wp2_with fail
        go_quiet (fail)
        go_wp2_with fail
        go_ret
        exact ⟨by rw [HN.out]; rfl, HB.out.trans ⟨rfl, rfl, rfl, Nat.le_refl _, fun _ _ => rfl⟩⟩
      · have q6 : decide ((128 : Int) ≤ (x : Int)) = false := decide_eq_false (by omega)
        have q6n : decide (128 ≤ x) = false := decide_eq_false h1
        by_cases h0 : 0 < i
        · have q8 : decide ((0 : Int) < (i : Int)) = true := decide_eq_true (by omega)
          have q8n : decide (0 < i) = true := decide_eq_true h0
          obtain ⟨j, hij⟩ : ∃ j, j + 1 = i := ⟨i - 1, by omega⟩
          have hjl : j < s.size := by omega
          obtain ⟨y, hy⟩ : ∃ y, byteAt s j = y := ⟨_, rfl⟩
          have e2 : (s[j]'hjl).toNat = y := (byteAt_eq hjl).trans hy
          have q3j : (j : Int) < (s.size : Int) := by omega
          have q4j : (0 : Int) ≤ (j : Int) := by omega
          have q9 : IntKind.i64.wrap ((i : Int) - 1) = (j : Int) := (wrap_ok (x := (i : Int) - 1) (by have := HS.out; unfold I64; omega)).trans (by omega)
          have HP := Lib.hid (show rises s i = !decide (x ≤ y) by
            unfold rises
            rw [HX.out, show i - 1 = j by omega, hy, decide_eq_true (show x < 128 by omega), decide_eq_false (show ¬ i = 0 by omega)]
            simp only [Bool.true_and, Bool.false_or]
            by_cases h : x ≤ y
            · rw [decide_eq_true h, decide_eq_false (by omega)]; rfl
            · rw [decide_eq_false h, decide_eq_true (by omega)]; rfl)
          clear hy hij
          by_cases h3 : x ≤ y
          · have q10 : decide ((x : Int) ≤ (y : Int)) = true := decide_eq_true (by omega)
            have q10n : decide (x ≤ y) = true := decide_eq_true h3
            have HN := Lib.hid (show res = false from by rw [← HRES.out]; exact allN_no (f := rises s) hlt (by rw [HP.out, q10n]; rfl))
            go_wp2_with fail
            go_quiet (fail)
            go_wp2_with fail
            go_ret
            exact ⟨by rw [HN.out]; rfl, HB.out.trans ⟨rfl, rfl, rfl, Nat.le_refl _, fun _ _ => rfl⟩⟩
          · have q10 : decide ((x : Int) ≤ (y : Int)) = false := decide_eq_false (by omega)
            have q10n : decide (x ≤ y) = false := decide_eq_false h3
            have HN := Lib.hid (allN_succ (f := rises s) HA.out (by rw [HP.out, q10n]; rfl))
            go_wp2_with fail
            go_quiet (fail)
            go_wp2_with fail
            go_roundw
            case rel => exact ⟨i + 1, hlt, rfl, HN.out, HB.out.trans ⟨rfl, rfl, rfl, Nat.le_refl _, fun _ _ => rfl⟩⟩
            case measure => simp only [Lib.intOf]; omega
        · have q8 : decide ((0 : Int) < (i : Int)) = false := decide_eq_false (by omega)
          have q8n : decide (0 < i) = false := decide_eq_false h0
          have HN := Lib.hid (allN_succ (f := rises s) HA.out (by unfold rises; rw [HX.out, decide_eq_true (show x < 128 by omega), decide_eq_true (show i = 0 by omega)]; rfl))
          go_wp2_with fail
          go_quiet (fail)
          go_wp2_with fail
          go_roundw
          case rel => exact ⟨i + 1, hlt, rfl, HN.out, HB.out.trans ⟨rfl, rfl, rfl, Nat.le_refl _, fun _ _ => rfl⟩⟩
          case measure => simp only [Lib.intOf]; omega
    · have q1 : decide ((i : Int) < (s.size : Int)) = false := decide_eq_false (by omega)
      have q1n : decide (i < s.size) = false := decide_eq_false hlt
      obtain rfl : i = s.size := by omega
      have HN := Lib.hid (show res = true from by rw [← HRES.out, HA.out])
      go_wp2_with fail
      go_ret
      exact ⟨by rw [HN.out]; rfl, HB.out⟩
end Go.Proofs.YtjhecpkdpomkmaaGreat

namespace Go.Proofs.YtjhecpkdpomkmaaGreat
open Go.RowKit
set_option linter.unusedVariables false
set_option linter.unusedSimpArgs false
set_option maxRecDepth 100000

theorem info_boolM : (Tryz.prog.info? 4).map (fun i => (i.zero, i.size, i.bytes)) = some (some (.bool false), 1, 1) := by kernel_rfl
/-- a row of truths -/
def arrB (M : Nat → Bool) (n : Nat) : Array Value := ((List.range n).map fun v => Value.bool (M v)).toArray
theorem arrB_get {M : Nat → Bool} {n v : Nat} (hv : v < n) : (arrB M n)[v]? = some (.bool (M v)) := by
  unfold arrB
  simp [hv]
theorem arrB_set {M M' : Nat → Bool} {n v : Nat} (h : ∀ u, u ≠ v → M' u = M u) (hv : M' v = true) : (arrB M n).setIfInBounds v (.bool true) = arrB M' n := by
  refine Array.ext_getElem? fun i => ?_
  rw [Array.getElem?_setIfInBounds]
  by_cases hi : i < n
  · by_cases e : v = i
    · subst e
      rw [if_pos rfl, if_pos (by unfold arrB; simp [hi]), arrB_get hi, hv]
    · rw [if_neg e, arrB_get hi, arrB_get hi, h i (fun x => e x.symm)]
  · have hz : ∀ K : Nat → Bool, (arrB K n)[i]? = none := fun K => by unfold arrB; simp; omega
    by_cases e : v = i
    · subst e
      rw [if_pos rfl, if_neg (by unfold arrB; simp [hi]), hz]
    · rw [if_neg e, hz, hz]
theorem made_oneM (v : Value) (n : Nat) : (madeCells #[v] n).toList = (List.range n).map fun _ => v := by
  unfold madeCells
  apply List.ext_getElem
  · simp
  · intro i h1 h2
    simp [Nat.mod_one]
theorem make_boolM (n : Nat) (hn : n ≤ 1000000) : ∃ A : Array Value, A = arrB (fun _ => false) n ∧ ∀ w, (Instr.makeSlice 245 (.int .i64 (n : Nat)) (.int .i64 (n : Nat))).run Tryz.prog w = .ok (.slice (some ⟨w.heap.size, 0, none⟩) n n) (w.alloc (.cells A 4)) := by
  obtain ⟨i0, hi0, hz0, hz1, hz2⟩ := info_parts info_boolM
  refine ⟨madeCells #[.bool false] n, ?_, fun w => ?_⟩
  · refine Array.ext' ?_
    unfold arrB
    rw [made_oneM]
  · have := run_make (P := Tryz.prog) w 245 4 i0 (.bool false) Tryz.underlying245 hi0 hz0 .i64 .i64 n n (by omega) (by omega) (by rw [hz2]; omega) (by omega)
    rw [this]
    simp only [Int.toNat_natCast, hz1, Nat.mul_one]
    rfl
theorem boolM_index (mb n y : Nat) (hy : y < n) : ∀ w, (Instr.indexAt 245 (.slice (some ⟨mb, 0, none⟩) n n) (.int .i64 (y : Nat))).run Tryz.prog w = .ok (.pointer (some ⟨mb, y, none⟩)) w := fun w => by
  rw [run_indexAt_slice (h := by rw [show Tryz.prog.elem 245 = 4 from by kernel_rfl]; exact Tryz.underlying245), if_pos (by omega), show Tryz.prog.elem 245 = 4 from by kernel_rfl, Tryz.sizeOf4]
  simp [Result.andThen, Addr.add_mid]
def metO (l : NL) (i v : Nat) : Bool := anyN (fun j => l.f j == (v : Nat)) i
def ordP (l : NL) (n i : Nat) : Bool := (decide (0 ≤ l.f i) && decide (l.f i < n)) && !metO l i (l.f i).toNat
def RelOrd (w : World) (l : NL) (n : Nat) (iv : Value) (wr : World) : Prop := ∃ i : Nat, i ≤ l.n ∧ iv = .int .i64 (i : Nat) ∧ allN (ordP l n) i = true ∧ Bx wr w.heap.size (arrB (metO l i) n) 4 ∧ Below w.heap.size w wr
set_option maxHeartbeats 32000000 in
theorem rorder_ok (B : Nat) (w : World) (l : NL) (n : Nat) (hl : NLIn B w l) (hB : B ≤ w.heap.size) (hn : n ≤ 1000000) (hln : l.n ≤ 1000000) :
    Calls Tryz.prog 210 #[.slice l.a l.n l.cap, .int .i64 (n : Nat)] w fun e w' => e = .returned (.bool (allN (ordP l n) l.n && decide (l.n = n))) ∧ Below w.heap.size w w' := by
  obtain ⟨res, hres⟩ : ∃ r, (allN (ordP l n) l.n && decide (l.n = n)) = r := ⟨_, rfl⟩
  have HRES := Lib.hid hres
  rw [hres]
  obtain ⟨A0, hA0, hmk⟩ := make_boolM n hn
  have HL := Lib.hid hl
  have HBB := Lib.hid hB
  have HX := Lib.hid (show Bx (w.alloc (.cells A0 4)) w.heap.size (arrB (metO l 0) n) 4 from by rw [hA0]; exact Bx.new _ _ _)
  have HB0 := Lib.hid ((Below.refl w.heap.size w).alloc (Nat.le_refl _) (.cells A0 4))
  have HLN := Lib.hid hln
  have HNN := Lib.hid hn
  have n0 : (0 : Int) ≤ (n : Int) := by omega
  clear hl hB hres hA0 hln hn
  go_enter Tryz.func210, Tryz.ntmps210
  go_wp2_with fail
  go_loopw [6] (fun iv wr => RelOrd w l n iv wr) (fun iv _ => l.n - (Lib.intOf iv).toNat)
  case atStart => exact ⟨0, Nat.zero_le _, rfl, rfl, HX.out, HB0.out⟩
  case round =>
    obtain ⟨i, hi, rfl, hall, hbx, hbel⟩ := hrel
    have HA := Lib.hid hall
    have HBX := Lib.hid hbx
    have HB := Lib.hid hbel
    clear hall hbx hbel
    by_cases hlt : i < l.n
    · have q1 : decide ((i : Int) < (l.n : Int)) = true := decide_eq_true (by omega)
      have q1n : decide (i < l.n) = true := decide_eq_true hlt
      have q3 : IntKind.i64.wrap ((i : Int) + 1) = ((i + 1 : Nat) : Int) := wrap_succ hlt (by have := HLN.out; omega)
      obtain ⟨gx, ox, hix, hgx, hrx⟩ := HL.out.1.read 44 3 Tryz.underlying44 (by kernel_rfl) Tryz.sizeOf3 hlt
      have x0 := hrx wr (HB.out.block gx (by have := HBB.out; omega)) 0 _ rfl
      rw [Nat.add_zero] at x0
      have HSU := Lib.hid (fun h => allN_succ (f := ordP l n) (n := i) HA.out h)
      have HFA := Lib.hid (show ordP l n i = false → res = false from fun h => by rw [← HRES.out, allN_no (f := ordP l n) hlt h]; rfl)
      obtain ⟨x, hx⟩ : ∃ x, l.f i = x := ⟨_, rfl⟩
      rw [hx] at x0
      have HXE := Lib.hid hx
      clear hrx hgx hx
      by_cases h0 : x < 0
      · have u0 : decide (x < 0) = true := decide_eq_true h0
        have HZ := Lib.hid (HFA.out (by unfold ordP; rw [HXE.out, decide_eq_false (by omega)]; rfl))
        clear h0
        go_wp2_with fail
        go_ret
        exact ⟨by rw [HZ.out]; rfl, HB.out⟩
      have u0 : decide (x < 0) = false := decide_eq_false h0
      by_cases h1 : (n : Int) ≤ x
      · have u1 : decide ((n : Int) ≤ x) = true := decide_eq_true h1
        have HZ := Lib.hid (HFA.out (by unfold ordP; rw [HXE.out, decide_eq_false (show ¬ x < (n : Int) by omega), Bool.and_false]; rfl))
        clear h0 h1
        go_wp2_with fail
        go_ret
        exact ⟨by rw [HZ.out]; rfl, HB.out⟩
      have u1 : decide ((n : Int) ≤ x) = false := decide_eq_false h1
      obtain ⟨y, rfl⟩ : ∃ y : Nat, x = (y : Nat) := ⟨x.toNat, by omega⟩
      have hyn : y < n := by omega
      have u1n : decide (n ≤ y) = false := decide_eq_false (by omega)
      have u2n : decide (y < n) = true := decide_eq_true hyn
      have hiy := boolM_index w.heap.size n y hyn
      have c0 := HBX.out.cell y (v := .bool (metO l i y)) (arrB_get hyn)
      have z0 := frozenM HBX.out y
      have HPY := Lib.hid (show ordP l n i = !metO l i y from by unfold ordP; rw [HXE.out, decide_eq_true (by omega), decide_eq_true (by omega)]; rfl)
      have HNB := Lib.hid (show Bx (wr.setCell ⟨w.heap.size, y, none⟩ (.bool true)) w.heap.size (arrB (metO l (i + 1)) n) 4 from by
        have h := bx_fieldM HBX.out y (.bool true)
        rwa [arrB_set (M' := metO l (i + 1)) (fun u hu => by
          unfold metO
          rw [anyN_succ, HXE.out, beq_eq_false_iff_ne.2 (by omega), Bool.or_false]) (by unfold metO; rw [anyN_succ, HXE.out]; simp)] at h)
      have HBW := Lib.hid (below_fieldM (b := w.heap.size) (j := y) (v := .bool true) HB.out (Nat.le_refl _))
      generalize metO l i y = mt at *
      clear h0 h1
      cases mt with
      | true =>
        have HZ := Lib.hid (HFA.out HPY.out)
        go_wp2_with fail
        go_ret
        exact ⟨by rw [HZ.out]; rfl, HB.out⟩
      | false =>
        have HN := Lib.hid (HSU.out HPY.out)
        go_wp2_with fail
        go_roundw
        case rel => exact ⟨i + 1, hlt, rfl, HN.out, HNB.out, HBW.out⟩
        case measure => simp only [Lib.intOf]; omega
    · have q1 : decide ((i : Int) < (l.n : Int)) = false := decide_eq_false (by omega)
      have q1n : decide (i < l.n) = false := decide_eq_false hlt
      obtain rfl : i = l.n := by omega
      by_cases he : l.n = n
      · have u1 : ((l.n : Int) == (n : Int)) = true := by rw [he]; simp
        have HZ := Lib.hid (show res = true from by rw [← HRES.out, HA.out, decide_eq_true he]; rfl)
        clear he
        go_wp2_with fail
        go_ret
        exact ⟨by rw [HZ.out]; rfl, HB.out⟩
      · have u1 : ((l.n : Int) == (n : Int)) = false := beq_eq_false_iff_ne.2 (by omega)
        have HZ := Lib.hid (show res = false from by rw [← HRES.out, decide_eq_false he, Bool.and_false])
        clear he
        go_wp2_with fail
        go_ret
        exact ⟨by rw [HZ.out]; rfl, HB.out⟩
end Go.Proofs.YtjhecpkdpomkmaaGreat

namespace Go.Proofs.YtjhecpkdpomkmaaGreat
open Go.RowKit
set_option linter.unusedVariables false
set_option linter.unusedSimpArgs false
set_option maxRecDepth 100000

theorem perm_of_nodup : ∀ {a b : List Int}, a.Nodup → b.Nodup → (∀ x ∈ a, x ∈ b) → a.length = b.length → a.Perm b
  | [], b, _, _, _, hl => by
    have : b = [] := List.eq_nil_of_length_eq_zero hl.symm
    subst this
    exact .refl _
  | x :: a, b, ha, hb, hs, hl => by
    have hx := hs x (List.mem_cons_self ..)
    have hp := List.perm_cons_erase hx
    rw [List.nodup_cons] at ha
    have h := perm_of_nodup ha.2 (hb.erase x) (fun y hy => (List.mem_erase_of_ne (show y ≠ x from fun e => ha.1 (by rw [← e]; exact hy))).2 (hs y (List.mem_cons_of_mem _ hy))) (by
      have h1 : (x :: a).length = a.length + 1 := rfl
      rw [List.length_erase_of_mem hx]
      omega)
    exact (List.Perm.cons x h).trans hp.symm
theorem places_nodup (n : Nat) : ((List.range n).map Int.ofNat).Nodup := by
  rw [List.Nodup, List.pairwise_iff_getElem]
  intro i j hi hj hij he
  simp only [List.getElem_map, List.getElem_range] at he
  have : (i : Int) = (j : Int) := he
  omega
theorem ord_iff (l : NL) (n : Nat) : (allN (ordP l n) l.n && decide (l.n = n)) = true ↔ l.n = n ∧ l.l.Perm ((List.range n).map Int.ofNat) := by
  have hlen : l.l.length = l.n := by simp [NL.l]
  have hget : ∀ i (h : i < l.l.length), l.l[i] = l.f i := fun i h => by simp [NL.l]
  rw [Bool.and_eq_true, decide_eq_true_iff, allN_iff]
  constructor
  · rintro ⟨hall, hn⟩
    have hin : ∀ i, i < l.n → 0 ≤ l.f i ∧ l.f i < n ∧ metO l i (l.f i).toNat = false := fun i hi => by
      have h := hall i hi
      unfold ordP at h
      simp only [Bool.and_eq_true, decide_eq_true_eq, Bool.not_eq_true'] at h
      exact ⟨h.1.1, h.1.2, h.2⟩
    refine ⟨hn, perm_of_nodup ?_ (places_nodup n) (fun x hx => ?_) (by rw [hlen, hn]; simp)⟩
    · rw [List.Nodup, List.pairwise_iff_getElem]
      intro i j hi hj hij he
      rw [hget, hget] at he
      obtain ⟨h1, h2, h3⟩ := hin j (by omega)
      have h4 : metO l j (l.f j).toNat = true := by
        unfold metO
        refine anyN_yes (f := fun q => l.f q == (((l.f j).toNat : Nat) : Int)) hij ?_
        rw [beq_iff_eq, he]
        omega
      rw [h3] at h4
      cases h4
    · obtain ⟨i, hi, rfl⟩ := List.getElem_of_mem hx
      rw [hget]
      obtain ⟨h1, h2, _⟩ := hin i (by omega)
      refine List.mem_map.2 ⟨(l.f i).toNat, List.mem_range.2 (by omega), ?_⟩
      show (((l.f i).toNat : Nat) : Int) = _
      omega
  · rintro ⟨hn, hp⟩
    refine ⟨fun i hi => ?_, hn⟩
    have hnd : l.l.Nodup := (List.Perm.nodup_iff hp).2 (places_nodup n)
    have hm : l.f i ∈ l.l := by
      rw [← hget i (by omega)]
      exact List.getElem_mem _
    obtain ⟨y, hy, he⟩ := List.mem_map.1 (hp.mem_iff.1 hm)
    have he2 : ((y : Nat) : Int) = l.f i := he
    have hyn := List.mem_range.1 hy
    unfold ordP
    rw [← he2, decide_eq_true (by omega), decide_eq_true (by omega)]
    have h3 : metO l i ((y : Nat) : Int).toNat = false := by
      unfold metO
      refine anyN_no fun j hj => ?_
      rw [beq_eq_false_iff_ne]
      intro hjy
      rw [List.Nodup, List.pairwise_iff_getElem] at hnd
      refine hnd j i (by omega) (by omega) hj ?_
      rw [hget, hget, hjy, ← he2]
      omega
    rw [h3]
    rfl
end Go.Proofs.YtjhecpkdpomkmaaGreat

namespace Go.Proofs.YtjhecpkdpomkmaaGreat
open Go.RowKit
set_option linter.unusedVariables false
set_option linter.unusedSimpArgs false
set_option maxRecDepth 100000

set_option maxHeartbeats 16000000 in
theorem rCheck15_ok (B : Nat) (w : World) (d : TB) (v : VT) (hd : TBIn B w d) (hv : VIn B w v) (hB : B ≤ w.heap.size) (hs : ∀ i, i < d.n → (d.f i).set.n ≤ 1000)
    (hright : ∀ W, Below w.heap.size w W → Calls Tryz.prog 56 #[.slice d.a d.n d.cap] W fun e w' => e = .returned (.bool d.good) ∧ Below W.heap.size W w') :
    Calls Tryz.prog 36 #[.slice d.a d.n d.cap, .agg v.cells.toArray] w fun e w' => e = .returned (.int .i64 (chk d v)) ∧ Below w.heap.size w w' := by
  have HRI := Lib.hid hright
  have HD := Lib.hid (fun (W : World) (hW : Below w.heap.size w W) => (hd.below (Below.refl _ _) hB).below hW (Nat.le_refl _))
  have HV := Lib.hid (fun (W : World) (hW : Below w.heap.size w W) => (hv.below (Below.refl _ _) hB).below hW (Nat.le_refl _))
  have hdp := fun (W : World) (hW : Below w.heap.size w W) => rDeep_ok v w.heap.size W 40 (HV.out W hW) hW.size (by omega)
  have hof := fun (hg : d.good = true) (hdp : v.deeper 40 = false) (W : World) (hW : Below w.heap.size w W) => rof_ok v w.heap.size W d 0 40 (HD.out W hW) hW.size (TB.good_right hg) hs (TB.right_n (TB.good_right hg)).1 (HV.out W hW) (by omega) hdp
  obtain ⟨k0, m0, s0, nm0, a0, n0, cap0, ch0, hv0⟩ := vin_mk hv
  have hcl : v.cells = [.int .i64 k0, .int .i64 m0, .string s0, .slice nm0.a nm0.n nm0.cap, .slice a0 n0 cap0] := by rw [hv0, list5]
  rw [hcl] at hdp hof ⊢
  have HDP := Lib.hid (show ∀ W, Below w.heap.size w W → Calls Tryz.prog 57 #[.agg #[.int .i64 k0, .int .i64 m0, .string s0, .slice nm0.a nm0.n nm0.cap, .slice a0 n0 cap0], .int .i64 40] W fun e w' => e = .returned (.bool (v.deeper 40)) ∧ Below W.heap.size W w' from hdp)
  have HOF := Lib.hid (show d.good = true → v.deeper 40 = false → ∀ W, Below w.heap.size w W → Calls Tryz.prog 58 #[.slice d.a d.n d.cap, .int .i64 0, .agg #[.int .i64 k0, .int .i64 m0, .string s0, .slice nm0.a nm0.n nm0.cap, .slice a0 n0 cap0], .int .i64 40] W fun e w' => e = .returned (.bool (v.has d 0)) ∧ Below W.heap.size W w' from hof)
  have HX := Lib.hid (Bx.new w #[.int .i64 k0, .int .i64 m0, .string s0, .slice nm0.a nm0.n nm0.cap, .slice a0 n0 cap0] 26)
  have HB := Lib.hid ((Below.refl w.heap.size w).alloc (Nat.le_refl _) (.cells #[.int .i64 k0, .int .i64 m0, .string s0, .slice nm0.a nm0.n nm0.cap, .slice a0 n0 cap0] 26))
  have HC := Lib.hid (show chk d v = (if d.good = false then 1 else if v.deeper 40 = true then 9 else if v.has d 0 = true then 0 else 4) from rfl)
  generalize chk d v = res at *
  generalize d.good = gd at *
  generalize v.deeper 40 = dp at *
  generalize v.has d 0 = hs0 at *
  clear hright hd hv hB hs hdp hof hcl hv0
  go_enter Tryz.func36, Tryz.ntmps36
  go_wp2_with fail
  refine (HRI.out _ HB.out).mono ?_
  rintro e w2 ⟨rfl, h2⟩
  have HB2 := Lib.hid (HB.out.trans (h2.mono HB.out.size))
  have HX2 := Lib.hid (HX.out.below h2 HX.out.lt)
  clear h2
  cases gd with
  | false =>
    have HZ := Lib.hid (show res = 1 from HC.out)
    go_wp2_with fail
    go_ret
    exact ⟨by rw [HZ.out]; rfl, HB2.out⟩
  | true =>
  obtain ⟨c0, c1, c2, c3, c4⟩ := fiveX HX2.out
  go_wp2_with fail
  refine (HDP.out _ HB2.out).mono ?_
  rintro e w3 ⟨rfl, h3⟩
  have HB3 := Lib.hid (HB2.out.trans (h3.mono HB2.out.size))
  have HX3 := Lib.hid (HX2.out.below h3 HX2.out.lt)
  clear h3 c0 c1 c2 c3 c4
  cases dp with
  | true =>
    have HZ := Lib.hid (show res = 9 from HC.out)
    go_wp2_with fail
    go_ret
    exact ⟨by rw [HZ.out]; rfl, HB3.out⟩
  | false =>
  have HOF2 := Lib.hid (HOF.out (by first | rfl | trivial) (by first | rfl | trivial))
  obtain ⟨c0, c1, c2, c3, c4⟩ := fiveX HX3.out
  go_wp2_with fail
  refine (HOF2.out _ HB3.out).mono ?_
  rintro e w4 ⟨rfl, h4⟩
  have HB4 := Lib.hid (HB3.out.trans (h4.mono HB3.out.size))
  clear h4 c0 c1 c2 c3 c4
  cases hs0 with
  | true =>
    have HZ := Lib.hid (show res = 0 from HC.out)
    go_wp2_with fail
    go_ret
    exact ⟨by rw [HZ.out]; rfl, HB4.out⟩
  | false =>
    have HZ := Lib.hid (show res = 4 from HC.out)
    go_wp2_with fail
    go_ret
    exact ⟨by rw [HZ.out]; rfl, HB4.out⟩
end Go.Proofs.YtjhecpkdpomkmaaGreat

namespace Go.Proofs.YtjhecpkdpomkmaaGreat
open Go.RowKit
set_option linter.unusedVariables false
set_option linter.unusedSimpArgs false
set_option maxRecDepth 100000

theorem allN_add (f : Nat → Bool) (a : Nat) : ∀ b, allN f (a + b) = (allN f a && allN (fun i => f (a + i)) b)
  | 0 => by simp [allN]
  | b + 1 => by
    show (allN f (a + b) && f (a + b)) = (allN f a && (allN (fun i => f (a + i)) b && f (a + b)))
    rw [allN_add f a b, Bool.and_assoc]
/-- the names of a row's parts -/
def glF (r : DT) (x : Nat) : ByteArray := if x < r.pa.n then (r.pa.f x).name else (r.ad.f (x - r.pa.n)).name
theorem glF_part (r : DT) (x : Nat) : (r.part x).name = glF r x := by
  unfold DT.part glF
  split <;> rfl
theorem glF_glT (r : DT) (a a' : Option Addr) (cap cap' : Nat) : glT ⟨a, r.pa.n, cap, fun i => (r.pa.f i).name⟩ ⟨a', r.ad.n, cap', fun i => (r.ad.f i).name⟩ = glF r := rfl
theorem extOk_eq (r : DT) : r.extOk = (!(r.ext && (r.kind == 1 || r.kind == 4)) && (r.ext || decide (r.mo.n + r.ad.n = 0))) := by
  unfold DT.extOk
  cases r.ext with
  | true =>
    simp [bne]
  | false =>
    by_cases h : r.mo.n = 0 <;> by_cases h2 : r.ad.n = 0 <;> simp [h, h2]
theorem fromOk_eq (r : DT) : r.fromOk = (allN (rises r.fr) r.fr.size && (r.kind == 7 || decide (r.fr.size = 0))) := by
  unfold DT.fromOk
  by_cases h : r.kind = 7
  · rw [if_pos h, h]
    simp
  · rw [if_neg h, show (r.kind == 7) = false from beq_eq_false_iff_ne.2 h, Bool.false_or]
    by_cases h2 : r.fr.size = 0
    · rw [h2]; rfl
    · rw [decide_eq_false h2, Bool.and_false]
theorem namesOk_eq (r : DT) : r.namesOk = (apartB (glT r.nm r.mo) (r.nm.n + r.mo.n) && (decide (r.nm.n ≤ 256) && decide (r.mo.n ≤ 256)) && ((r.kind == 3) == decide (0 < r.nm.n)) && (r.kind == 3 || decide (r.mo.n = 0))) := by
  unfold DT.namesOk
  by_cases h : r.kind = 3
  · rw [if_pos h, h, glT_texts, ← apart_nodup]
    generalize apartB (glT r.nm r.mo) (r.nm.n + r.mo.n) = a
    generalize decide (r.nm.n ≤ 256) = b
    generalize decide (r.mo.n ≤ 256) = c
    generalize decide (0 < r.nm.n) = e
    cases a <;> cases b <;> cases c <;> cases e <;> rfl
  · rw [if_neg h, show (r.kind == 3) = false from beq_eq_false_iff_ne.2 h, Bool.false_or]
    by_cases h1 : r.nm.n = 0
    · by_cases h2 : r.mo.n = 0
      · rw [h1, h2]; rfl
      · rw [decide_eq_false h2, Bool.and_false, Bool.and_false]
    · rw [decide_eq_false h1, decide_eq_true (show 0 < r.nm.n by omega)]
      simp
theorem partsOk_eq (r : DT) (rows : Nat) : r.partsOk rows = ((allN (fun i => fldB rows (r.kind == 10) (r.pa.f i)) r.pa.n && decide (r.pa.n ≤ 256)) && ((allN (fun i => fldB rows (r.kind == 10) (r.ad.f i)) r.ad.n && decide (r.ad.n ≤ 256)) && (apartB (glF r) (r.pa.n + r.ad.n) && ((r.kind == 8 || r.kind == 10) || decide (r.pa.n + r.ad.n = 0))))) := by
  unfold DT.partsOk
  by_cases h : r.kind = 8 ∨ r.kind = 10
  · have hk : (r.kind == 8 || r.kind == 10) = true := by rcases h with h | h <;> rw [h] <;> rfl
    rw [if_pos h, hk, Bool.true_or, Bool.and_true]
    have e1 : allN (fun k => (r.part k).ok r.kind rows) r.count = (allN (fun i => fldB rows (r.kind == 10) (r.pa.f i)) r.pa.n && allN (fun i => fldB rows (r.kind == 10) (r.ad.f i)) r.ad.n) := by
      unfold DT.count
      rw [allN_add]
      congr 1
      · refine allN_congr fun i hi => ?_
        rw [fldB_ok]
        unfold DT.part
        rw [if_pos hi]
      · refine allN_congr fun i hi => ?_
        rw [fldB_ok]
        unfold DT.part
        rw [if_neg (by omega), show r.pa.n + i - r.pa.n = i by omega]
    have e2 : decide (((List.range r.count).map fun k => (r.part k).name).Nodup) = apartB (glF r) (r.pa.n + r.ad.n) := by
      rw [apart_nodup, show (fun k => (r.part k).name) = glF r from funext fun x => glF_part r x]
      rfl
    rw [e1, e2]
    generalize allN (fun i => fldB rows (r.kind == 10) (r.pa.f i)) r.pa.n = a
    generalize allN (fun i => fldB rows (r.kind == 10) (r.ad.f i)) r.ad.n = b
    generalize apartB (glF r) (r.pa.n + r.ad.n) = c
    generalize decide (r.pa.n ≤ 256) = e
    generalize decide (r.ad.n ≤ 256) = f
    cases a <;> cases b <;> cases c <;> cases e <;> cases f <;> rfl
  · have hk : (r.kind == 8 || r.kind == 10) = false := by
      rw [beq_eq_false_iff_ne.2 (fun e => h (.inl e)), beq_eq_false_iff_ne.2 (fun e => h (.inr e))]
      rfl
    rw [if_neg h, hk, Bool.false_or]
    by_cases h1 : r.pa.n = 0
    · by_cases h2 : r.ad.n = 0
      · rw [h1, h2]; rfl
      · rw [decide_eq_false h2, decide_eq_false (show ¬ r.pa.n + r.ad.n = 0 by omega)]
        simp
    · rw [decide_eq_false h1, decide_eq_false (show ¬ r.pa.n + r.ad.n = 0 by omega)]
      simp
theorem orderOk_eq (r : DT) : r.orderOk = (if r.kind = 10 then !decide (r.pa.n = 0) && (allN (ordP r.ord r.pa.n) r.ord.n && decide (r.ord.n = r.pa.n)) else decide (r.ord.n = 0)) := by
  unfold DT.orderOk
  by_cases h : r.kind = 10
  · rw [if_pos h, if_pos h, Bool.eq_iff_iff, Bool.and_eq_true, Bool.and_eq_true, Bool.and_eq_true, ord_iff]
    simp only [decide_eq_true_eq, Bool.not_eq_true', decide_eq_false_iff_not]
    constructor
    · rintro ⟨⟨h1, h2⟩, h3⟩
      exact ⟨by omega, h2, h3⟩
    · rintro ⟨h1, h2, h3⟩
      exact ⟨⟨by omega, h2⟩, h3⟩
  · rw [if_neg h, if_neg h]
/-- the row, in the document's order -/
noncomputable def rowB (rows : Nat) (r : DT) : Bool :=
  (isKd r.kind && (r.setOk && (allN (rises r.fr) r.fr.size && ((r.kind == 7 || decide (r.fr.size = 0)) && !(r.ext && (r.kind == 1 || r.kind == 4)))))) &&
  (((allN (fun i => fldB rows (r.kind == 10) (r.pa.f i)) r.pa.n && decide (r.pa.n ≤ 256)) && ((allN (fun i => fldB rows (r.kind == 10) (r.ad.f i)) r.ad.n && decide (r.ad.n ≤ 256)) && (apartB (glF r) (r.pa.n + r.ad.n) && (apartB (glT r.nm r.mo) (r.nm.n + r.mo.n) && (decide (r.nm.n ≤ 256) && decide (r.mo.n ≤ 256)))))) &&
  ((((r.kind == 3) == decide (0 < r.nm.n)) && ((r.kind == 3 || decide (r.mo.n = 0)) && ((r.kind == 8 || r.kind == 10) || decide (r.pa.n + r.ad.n = 0)))) &&
  ((if r.kind = 10 then !decide (r.pa.n = 0) && (allN (ordP r.ord r.pa.n) r.ord.n && decide (r.ord.n = r.pa.n)) else decide (r.ord.n = 0)) &&
  ((if r.kind = 9 then decide (0 ≤ r.elem) && decide (r.elem < rows) else decide (r.elem = 0)) &&
  (r.ext || decide (r.mo.n + r.ad.n = 0))))))
theorem row_right (r : DT) (rows : Nat) : r.right rows = rowB rows r := by
  unfold DT.right
  rw [extOk_eq, fromOk_eq, namesOk_eq, partsOk_eq, orderOk_eq]
  unfold DT.elemOk rowB
  ac_rfl
end Go.Proofs.YtjhecpkdpomkmaaGreat
