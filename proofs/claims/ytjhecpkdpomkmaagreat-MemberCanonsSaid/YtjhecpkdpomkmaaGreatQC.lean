/-
  A bundle of texts, one behind the other: MbA1, MbR, MbR2, MbA2, MbU.
-/
import Derived.Test.YtjhecpkdpomkmaaGreatQB
import Derived.Test.YtjhecpkdpomkmaaGreatQA
import Derived.Laws.Rows
namespace Go.Proofs.YtjhecpkdpomkmaaGreat
open Go.RowKit
set_option linter.unusedVariables false
set_option linter.unusedSimpArgs false
set_option maxRecDepth 100000

/-- a string in a row -/
theorem sRow_read {B : Nat} {W : World} {s : SL} (h : SLIn B W s) {i : Nat} (hi : i < s.n) :
    ∃ gx ox : Nat, (∀ w, (Instr.indexAt 23 (.slice s.a s.n s.cap) (.int .i64 (i : Nat))).run Tryz.prog w = .ok (.pointer (some ⟨gx, ox, none⟩)) w) ∧ gx < B ∧ ∀ w : World, w.heap[gx]? = W.heap[gx]? → w.cell? ⟨gx, ox, none⟩ = some (.string (s.f i)) := by
  obtain ⟨gx, ox, h1, h2, h3⟩ := h.1.read 23 9 Tryz.underlying23 (by kernel_rfl) Tryz.sizeOf9 hi
  exact ⟨gx, ox, h1, h2, fun w hw => h3 w hw 0 _ rfl⟩
/-- a value in a row, with its cells at once -/
theorem vRow_range {B : Nat} {W : World} {a : Option Addr} {n cap : Nat} {ch : Nat → VT} (h : RowAt B W a n cap 5 (fun i => (ch i).cells)) {i : Nat} (hi : i < n) :
    ∃ gx ox : Nat, (∀ w, (Instr.indexAt 24 (.slice a n cap) (.int .i64 (i : Nat))).run Tryz.prog w = .ok (.pointer (some ⟨gx, ox, none⟩)) w) ∧ gx < B ∧ ∀ w : World, w.heap[gx]? = W.heap[gx]? → w.rangeAt gx ox (ch i).cells :=
  h.read 24 26 Tryz.underlying24 (by kernel_rfl) Tryz.sizeOf26 hi
theorem info_V : (Tryz.prog.info? 26).map (·.size) = some 5 := by kernel_rfl
def RelSq (w : World) (n : Nat) (p : Nat → Bool) (iv : Value) (wr : World) : Prop := ∃ i : Nat, i ≤ n ∧ iv = .int .i64 (i : Nat) ∧ allN p i = true ∧ ∃ q, wr = w.drewN q
set_option maxHeartbeats 8000000 in
theorem eqS_ok (B : Nat) (w : World) (s t : SL) (hs : SLIn B w s) (ht : SLIn B w t) :
    Calls Tryz.prog 39 #[.slice s.a s.n s.cap, .slice t.a t.n t.cap] w fun e w' => e = .returned (.bool (s.same t)) ∧ Below w.heap.size w w' := by
  have HBN := Lib.hid (fun m => show Below w.heap.size w (w.drewN m) from ⟨rfl, rfl, rfl, Nat.le_refl _, fun _ _ => rfl⟩)
  have hn : s.n ≤ 9223372036854775807 := by have h1 : s.n ≤ s.cap := hs.1.1; have h2 := hs.1.2.1; omega
  have HR1 := Lib.hid (fun i (hi : i < s.n) => sRow_read hs hi)
  have HR2 := Lib.hid (fun i (hi : i < t.n) => sRow_read ht hi)
  have HL := Lib.hid (show s.same t = (decide (s.n = t.n) && allN (fun i => sEq (s.f i) (t.f i)) s.n) from rfl)
  generalize s.same t = res at *
  obtain ⟨p, hp⟩ : ∃ p, (fun i => sEq (s.f i) (t.f i)) = p := ⟨_, rfl⟩
  have HP := Lib.hid (show ∀ i, sEq (s.f i) (t.f i) = p i from fun i => by rw [← hp])
  rw [hp] at HL
  generalize s.a = a at *
  generalize s.n = n at *
  generalize s.cap = cap at *
  generalize t.a = a' at *
  generalize t.n = n' at *
  generalize t.cap = cap' at *
  clear hs ht hp
  by_cases hl : n = n'
  · subst hl
    have q0 : ((n : Int) != (n : Int)) = false := by simp
    have HZ := Lib.hid (show res = allN p n from by rw [HL.out, decide_eq_true rfl]; rfl)
    go_enter Tryz.func39, Tryz.ntmps39
    go_wp2_with fail
    go_loopw [13] (fun iv wr => RelSq w n p iv wr) (fun iv _ => n - (Lib.intOf iv).toNat)
    case atStart => exact ⟨0, Nat.zero_le _, rfl, rfl, 0, rfl⟩
    case round =>
      obtain ⟨i, hi, rfl, hall, m, rfl⟩ := hrel
      have HA := Lib.hid hall
      clear hall
      by_cases hlt : i < n
      · have q1 : decide ((i : Int) < (n : Int)) = true := decide_eq_true (by omega)
        have q1n : decide (i < n) = true := decide_eq_true hlt
        have q5 : IntKind.i64.wrap ((i : Int) + 1) = ((i + 1 : Nat) : Int) := wrap_succ hlt hn
        obtain ⟨gx, ox, x1, _, c1⟩ := HR1.out i hlt
        obtain ⟨gy, oy, x2, _, d1⟩ := HR2.out i hlt
        have c2 := c1 w rfl
        have d2 := d1 w rfl
        have HX := Lib.hid (HP.out i)
        have HS := Lib.hid (fun h => allN_succ (f := p) (n := i) HA.out h)
        have HF := Lib.hid (fun h => allN_no (f := p) hlt h)
        generalize s.f i = u at *
        generalize t.f i = v at *
        clear c1 d1
        cases hpi : p i with
        | true =>
          have z1 : (u.toList == v.toList) = true := HX.out.trans hpi
          have z2 : (u.toList != v.toList) = false := by unfold bne; rw [z1]; rfl
          have HN := Lib.hid (HS.out hpi)
          clear hpi HX HS HF
          go_wp2_with fail
          go_quiet (fail)
          go_wp2_with fail
          go_roundw
          case rel => exact ⟨i + 1, hlt, rfl, HN.out, m + nq, by simp⟩
          case measure => simp only [Lib.intOf]; omega
        | false =>
          have z1 : (u.toList == v.toList) = false := HX.out.trans hpi
          have z2 : (u.toList != v.toList) = true := by unfold bne; rw [z1]; rfl
          have HN := Lib.hid (show res = false from by rw [HZ.out]; exact HF.out hpi)
          clear hpi HX HS HF
          go_wp2_with fail
          go_quiet (fail)
          go_wp2_with fail
          go_ret
          exact ⟨by rw [HN.out]; rfl, by simpa using HBN.out (m + nq)⟩
      · have q1 : decide ((i : Int) < (n : Int)) = false := decide_eq_false (by omega)
        have q1n : decide (i < n) = false := decide_eq_false hlt
        obtain rfl : i = n := by omega
        have HN := Lib.hid (show res = true from by rw [HZ.out, HA.out])
        go_wp2_with fail
        go_ret
        exact ⟨by rw [HN.out]; rfl, HBN.out m⟩
  · have q0 : ((n : Int) != (n' : Int)) = true := bne_iff_ne.2 (by omega)
    have HN := Lib.hid (show res = false from by rw [HL.out, decide_eq_false hl]; rfl)
    clear hl
    go_enter Tryz.func39, Tryz.ntmps39
    go_wp2_with fail
    go_ret
    exact ⟨by rw [HN.out]; rfl, HBN.out 0⟩
def RelIs (w : World) (n : Nat) (p : Nat → Bool) (iv : Value) (wr : World) : Prop := ∃ i : Nat, i ≤ n ∧ iv = .int .i64 (i : Nat) ∧ (∀ j, j < i → p j = false) ∧ wr = w
set_option maxHeartbeats 8000000 in
theorem indexS_ok (B : Nat) (w : World) (s : SL) (x : ByteArray) (hs : SLIn B w s) :
    Calls Tryz.prog 116 #[.slice s.a s.n s.cap, .string x] w fun e w' => (∃ z : Int, e = .returned (.int .i64 z) ∧ decide (0 ≤ z) = inL s x) ∧ w' = w := by
  have hn : s.n ≤ 9223372036854775807 := by have h1 : s.n ≤ s.cap := hs.1.1; have h2 := hs.1.2.1; omega
  have HR1 := Lib.hid (fun i (hi : i < s.n) => sRow_read hs hi)
  have HL := Lib.hid (show inL s x = anyN (fun i => sEq (s.f i) x) s.n from rfl)
  generalize inL s x = res at *
  obtain ⟨p, hp⟩ : ∃ p, (fun i => sEq (s.f i) x) = p := ⟨_, rfl⟩
  have HP := Lib.hid (show ∀ i, sEq (s.f i) x = p i from fun i => by rw [← hp])
  rw [hp] at HL
  generalize s.a = a at *
  generalize s.n = n at *
  generalize s.cap = cap at *
  clear hs hp
  go_enter Tryz.func116, Tryz.ntmps116
  go_wp2_with fail
  go_loopw [8] (fun iv wr => RelIs w n p iv wr) (fun iv _ => n - (Lib.intOf iv).toNat)
  case atStart => exact ⟨0, Nat.zero_le _, rfl, fun j hj => absurd hj (Nat.not_lt_zero _), rfl⟩
  case round =>
    obtain ⟨i, hi, rfl, hall, hw⟩ := hrel
    obtain rfl : w = wr := hw.symm
    have HA := Lib.hid hall
    clear hall hw
    by_cases hlt : i < n
    · have q1 : decide ((i : Int) < (n : Int)) = true := decide_eq_true (by omega)
      have q1n : decide (i < n) = true := decide_eq_true hlt
      have q5 : IntKind.i64.wrap ((i : Int) + 1) = ((i + 1 : Nat) : Int) := wrap_succ hlt hn
      obtain ⟨gx, ox, x1, _, c1⟩ := HR1.out i hlt
      have c2 := c1 w rfl
      have HX := Lib.hid ((sEq_comm x (s.f i)).trans (HP.out i))
      generalize s.f i = u at *
      clear c1
      cases hpi : p i with
      | false =>
        have z1 : (x.toList == u.toList) = false := HX.out.trans hpi
        have HN := Lib.hid (show ∀ j, j < i + 1 → p j = false from fun j hj => by
          rcases Nat.lt_or_ge j i with h2 | h2
          · exact HA.out j h2
          · obtain rfl : j = i := by omega
            exact hpi)
        clear hpi HX
        go_wp2_with fail
        go_roundw
        case rel => exact ⟨i + 1, hlt, rfl, HN.out, rfl⟩
        case measure => simp only [Lib.intOf]; omega
      | true =>
        have z1 : (x.toList == u.toList) = true := HX.out.trans hpi
        have HN := Lib.hid (show res = true from by rw [HL.out]; exact anyN_yes hlt hpi)
        clear hpi HX
        go_wp2_with fail
        go_ret
        exact ⟨⟨_, rfl, by rw [HN.out]; exact decide_eq_true (by omega)⟩, rfl⟩
    · have q1 : decide ((i : Int) < (n : Int)) = false := decide_eq_false (by omega)
      have q1n : decide (i < n) = false := decide_eq_false hlt
      obtain rfl : i = n := by omega
      have HN := Lib.hid (show res = false from by rw [HL.out]; exact anyN_no HA.out)
      go_wp2_with fail
      go_ret
      exact ⟨⟨_, rfl, by rw [HN.out]; rfl⟩, rfl⟩
set_option maxHeartbeats 4000000 in
theorem containsS_ok (B : Nat) (w : World) (s : SL) (x : ByteArray) (hs : SLIn B w s) :
    Calls Tryz.prog 71 #[.slice s.a s.n s.cap, .string x] w fun e w' => e = .returned (.bool (inL s x)) ∧ w' = w := by
  have HC := Lib.hid (indexS_ok B w s x hs)
  generalize inL s x = res at *
  generalize s.a = a at *
  generalize s.n = n at *
  generalize s.cap = cap at *
  clear hs
  go_enter Tryz.func71, Tryz.ntmps71
  go_wp2_with fail
  refine HC.out.mono ?_
  rintro e w1 ⟨⟨z, rfl, hz⟩, rfl⟩
  clear HC
  go_wp2_with fail
  go_ret
  exact ⟨rfl, rfl⟩

def RelEf (w : World) (n : Nat) (p : Nat → Bool) (iv : Value) (wr : World) : Prop := ∃ i : Nat, i ≤ n ∧ iv = .int .i64 (i : Nat) ∧ allN p i = true ∧ Below w.heap.size w wr
theorem entersSame : Enters Tryz.prog 16 := enters_of Tryz.func16 (by kernel_rfl) rfl
set_option maxHeartbeats 8000000 in
theorem eqFuncV_ok (B : Nat) (w : World) (a : Option Addr) (n cap : Nat) (ch : Nat → VT) (a' : Option Addr) (n' cap' : Nat) (ch' : Nat → VT) (hB : B ≤ w.heap.size)
    (h1 : RowAt B w a n cap 5 (fun i => (ch i).cells)) (h2 : RowAt B w a' n' cap' 5 (fun i => (ch' i).cells)) (hi1 : ∀ i, i < n → VIn B w (ch i)) (hi2 : ∀ i, i < n' → VIn B w (ch' i))
    (hrec : ∀ i, i < n → i < n' → ∀ w', Below w.heap.size w w' → Calls Tryz.prog 16 #[.agg (ch i).cells.toArray, .agg (ch' i).cells.toArray] w' fun e w'' => e = .returned (.bool ((ch i).same (ch' i))) ∧ Below w'.heap.size w' w'') :
    Calls Tryz.prog 40 #[.slice a n cap, .slice a' n' cap', .func (.func 16) #[] #[]] w fun e w' => e = .returned (.bool (decide (n = n') && allN (fun i => (ch i).same (ch' i)) n)) ∧ Below w.heap.size w w' := by
  have hen : ∀ (args : Array Value) (w : World), (callFunc 16 args).run Tryz.prog w = .ok (.enter 16 args) w := entersSame
  have HB0 := Lib.hid (Below.refl w.heap.size w)
  have hn : n ≤ 9223372036854775807 := by have := h1.1; have := h1.2.1; omega
  have HR1 := Lib.hid (fun i (hi : i < n) => vRow_range h1 hi)
  have HR2 := Lib.hid (fun i (hi : i < n') => vRow_range h2 hi)
  have HO1 := Lib.hid (fun i (hi : i < n) => one_vcells (hi1 i hi))
  have HO2 := Lib.hid (fun i (hi : i < n') => one_vcells (hi2 i hi))
  have HREC := Lib.hid hrec
  have HBB := Lib.hid hB
  clear h1 h2 hi1 hi2 hrec hB
  by_cases hl : n = n'
  · subst hl
    have q0 : ((n : Int) != (n : Int)) = false := by simp
    rw [decide_eq_true rfl, Bool.true_and]
    obtain ⟨p, hp⟩ : ∃ p, (fun i => (ch i).same (ch' i)) = p := ⟨_, rfl⟩
    have HP := Lib.hid (show ∀ i, (ch i).same (ch' i) = p i from fun i => by rw [← hp])
    rw [hp]
    obtain ⟨res, hr⟩ : ∃ res, allN p n = res := ⟨_, rfl⟩
    rw [hr]
    have HZ := Lib.hid hr.symm
    clear hp hr
    go_enter Tryz.func40, Tryz.ntmps40
    go_wp2_with fail
    go_loopw [17] (fun iv wr => RelEf w n p iv wr) (fun iv _ => n - (Lib.intOf iv).toNat)
    case atStart => exact ⟨0, Nat.zero_le _, rfl, rfl, HB0.out⟩
    case round =>
      obtain ⟨i, hi, rfl, hall, hbel⟩ := hrel
      have HA := Lib.hid hall
      have HB := Lib.hid hbel
      clear hall hbel
      by_cases hlt : i < n
      · have q1 : decide ((i : Int) < (n : Int)) = true := decide_eq_true (by omega)
        have q1n : decide (i < n) = true := decide_eq_true hlt
        have q5 : IntKind.i64.wrap ((i : Int) + 1) = ((i + 1 : Nat) : Int) := wrap_succ hlt hn
        obtain ⟨gx, ox, x1, hgx, c1⟩ := HR1.out i hlt
        obtain ⟨gy, oy, x2, hgy, d1⟩ := HR2.out i hlt
        have hrc := HREC.out i hlt hlt
        rw [HP.out i] at hrc
        have HS := Lib.hid (fun h => allN_succ (f := p) (n := i) HA.out h)
        have HF := Lib.hid (fun h => allN_no (f := p) hlt h)
        have HRA := Lib.hid (c1 wr (HB.out.block gx (Nat.lt_of_lt_of_le hgx HBB.out)))
        have H1 := Lib.hid (HO1.out i hlt)
        have H2 := Lib.hid (HO2.out i hlt)
        generalize (ch i).cells = cs at *
        generalize (ch' i).cells = ds at *
        have HBA := Lib.hid (HB.out.alloc HB.out.size (.cells cs.toArray 26))
        have HRB := Lib.hid (d1 (wr.alloc (.cells cs.toArray 26)) (HBA.out.block gy (Nat.lt_of_lt_of_le hgy HBB.out)))
        have HXA := Lib.hid ((Bx.new wr cs.toArray 26).alloc (.cells ds.toArray 26))
        have hxb := Bx.new (wr.alloc (.cells cs.toArray 26)) ds.toArray 26
        rw [World.size_alloc] at hxb
        have HXB := Lib.hid hxb
        have HBC := Lib.hid (HBA.out.alloc HBA.out.size (.cells ds.toArray 26))
        have HC := Lib.hid (hrc _ HBC.out)
        clear c1 d1 hrc hgx hgy hxb
        generalize p i = b at *
        go_wp2_with (first
          | (refine wpList_load_mid rfl 26 (.tmp 20) rfl gx ox rfl cs _ HRA.out Tryz.underlying26 rfl (by rw [info_V, H1.out.1]) ?_)
          | (refine wpList_store_new rfl 26 (.tmp 8) (.tmp 21) rfl 5 _ cs H1.out.1 (by rfl) info_V H1.out.2 rfl rfl ?_)
          | (refine wpList_load_mid rfl 26 (.tmp 24) rfl gy oy rfl ds _ HRB.out Tryz.underlying26 rfl (by rw [info_V, H2.out.1]) ?_)
          | (refine wpList_store_new rfl 26 (.tmp 9) (.tmp 25) rfl 5 _ ds H2.out.1 (by rfl) info_V H2.out.2 (by rw [World.size_alloc]; rfl) rfl ?_)
          | (refine wpList_load_mid rfl 26 (.tmp 8) rfl wr.heap.size 0 rfl cs _ HXA.out.range Tryz.underlying26 rfl (by rw [info_V, H1.out.1]) ?_)
          | (refine wpList_load_mid rfl 26 (.tmp 9) rfl (wr.heap.size + 1) 0 rfl ds _ HXB.out.range Tryz.underlying26 rfl (by rw [info_V, H2.out.1]) ?_))
        refine HC.out.mono ?_
        rintro e w4 ⟨rfl, h4⟩
        have HB4 := Lib.hid (HBC.out.trans (h4.mono HBC.out.size))
        clear h4 HC HXA HXB HRA HRB
        cases b with
        | false =>
          have HN := Lib.hid (show res = false from by rw [HZ.out]; exact HF.out rfl)
          go_wp2_with fail
          go_ret
          exact ⟨by rw [HN.out]; rfl, HB4.out⟩
        | true =>
          have HN := Lib.hid (HS.out rfl)
          go_wp2_with fail
          go_roundw
          case rel => exact ⟨i + 1, hlt, rfl, HN.out, HB4.out⟩
          case measure => simp only [Lib.intOf]; omega
      · have q1 : decide ((i : Int) < (n : Int)) = false := decide_eq_false (by omega)
        have q1n : decide (i < n) = false := decide_eq_false hlt
        obtain rfl : i = n := by omega
        have HN := Lib.hid (show res = true from by rw [HZ.out, HA.out])
        go_wp2_with fail
        go_ret
        exact ⟨by rw [HN.out]; rfl, HB.out⟩
  · have q0 : ((n : Int) != (n' : Int)) = true := bne_iff_ne.2 (by omega)
    rw [decide_eq_false hl, Bool.false_and]
    clear hl
    go_enter Tryz.func40, Tryz.ntmps40
    go_wp2_with fail
    go_ret
    exact ⟨rfl, HB0.out⟩
end Go.Proofs.YtjhecpkdpomkmaaGreat

namespace Go.Proofs.YtjhecpkdpomkmaaGreat
open Go.RowKit
set_option linter.unusedVariables false
set_option linter.unusedSimpArgs false
set_option maxRecDepth 100000

/-- the value of a row at address x of a table whose rows lie at g, o -/
def rV (g x o n cap : Nat) : Value := .agg #[.pointer (some ⟨g, x, none⟩), .slice (some ⟨g, o, none⟩) n cap]
/-- at x lies row i of a table -/
def RAt (B : Nat) (W : World) (g x o : Nat) (d : TB) (i : Nat) : Prop := x = o + i * 12 ∧ i < d.n ∧ TAt B W g o d
theorem RAt.below {B B' : Nat} {W W' : World} {g x o : Nat} {d : TB} {i : Nat} (h : RAt B W g x o d i) (hb : Below B' W W') (hB : B ≤ B') : RAt B' W' g x o d i := ⟨h.1, h.2.1, h.2.2.below hb hB⟩
theorem RAt.cells {B : Nat} {W : World} {g x o : Nat} {d : TB} {i : Nat} (h : RAt B W g x o d i) {w : World} (hw : w.heap[g]? = W.heap[g]?) : DAt w g x (d.f i) := by
  obtain ⟨rfl, hi, ha, hg, ht⟩ := h
  obtain ⟨g', o', ha', hg', hc⟩ := ht.1.2.2.2 (by omega)
  rw [ha] at ha'
  injection ha' with ha'
  injection ha' with e1 e2
  subst e1
  subst e2
  refine dAt_of fun j u hj => ?_
  exact (World.cell?_of_block (w := W) (a := ⟨g, o + i * 12 + j, none⟩) hw).trans (hc i hi j u hj)
theorem RAt.row {B : Nat} {W : World} {g x o : Nat} {d : TB} {i : Nat} (h : RAt B W g x o d i) : DTIn B W (d.f i) := h.2.2.2.2.2 i h.2.1
theorem RAt.lt {B : Nat} {W : World} {g x o : Nat} {d : TB} {i : Nat} (h : RAt B W g x o d i) : g < B := h.2.2.2.1
theorem TAt.at {B : Nat} {W : World} {g o : Nat} {d : TB} (h : TAt B W g o d) {i : Nat} (hi : i < d.n) : RAt B W g (o + i * 12) o d i := ⟨rfl, hi, h⟩
theorem RAt.to {B : Nat} {W : World} {g x o : Nat} {d : TB} {i : Nat} (h : RAt B W g x o d i) {j : Nat} (hj : j < d.n) : RAt B W g (o + j * 12) o d j := ⟨rfl, hj, h.2.2⟩
theorem index_D (g o n cap i : Nat) (hi : i < n) (w : World) : (Instr.indexAt 22 (.slice (some ⟨g, o, none⟩) n cap) (.int .i64 (i : Nat))).run Tryz.prog w = .ok (.pointer (some ⟨g, o + i * 12, none⟩)) w := by
  have he : Tryz.prog.elem 22 = 46 := by kernel_rfl
  rw [run_indexAt_slice (h := by rw [he]; exact Tryz.underlying22), if_pos (by omega), he, Tryz.sizeOf46]
  simp [Result.andThen, Addr.add_mid]

set_option maxHeartbeats 4000000 in
theorem rowOf_ok (w : World) (g o n cap i : Nat) (hi : i < n) :
    Calls Tryz.prog 34 #[.slice (some ⟨g, o, none⟩) n cap, .int .i64 (i : Nat)] w fun e w' => e = .returned (rV g (o + i * 12) o n cap) ∧ Below w.heap.size w w' := by
  have hix := index_D g o n cap i hi
  have HB := Lib.hid (Below.refl w.heap.size w)
  unfold rV
  generalize o + i * 12 = x at *
  clear hi
  go_enter Tryz.func34, Tryz.ntmps34
  go_wp2_with fail
  refine bodyPost_ret (v := .agg #[.pointer (some ⟨g, x, none⟩), .slice (some ⟨g, o, none⟩) n cap]) ?_ rfl ⟨rfl, ?_⟩
  · simp [results, Tryz.f34, go_sem]
  · exact (Below.refl _ _).alloc (Nat.le_refl _) _

/-- a row's value in a box: its two cells -/
theorem rbox (w : World) (g x o n cap : Nat) : (w.alloc (.cells #[.pointer (some ⟨g, x, none⟩), .slice (some ⟨g, o, none⟩) n cap] 72)).cell? ⟨w.heap.size, 0, none⟩ = some (.pointer (some ⟨g, x, none⟩)) ∧
    (w.alloc (.cells #[.pointer (some ⟨g, x, none⟩), .slice (some ⟨g, o, none⟩) n cap] 72)).cell? ⟨w.heap.size, 1, none⟩ = some (.slice (some ⟨g, o, none⟩) n cap) :=
  ⟨(Bx.new w _ _).cell 0 rfl, (Bx.new w _ _).cell 1 rfl⟩
set_option maxHeartbeats 8000000 in
theorem elem_ok (B : Nat) (w : World) (g x o : Nat) (d : TB) (i j : Nat) (hR : RAt B w g x o d i) (hB : B ≤ w.heap.size) (hj : (d.f i).elem = (j : Int)) (hjn : j < d.n) :
    Calls Tryz.prog 52 #[rV g x o d.n d.cap] w fun e w' => e = .returned (rV g (o + j * 12) o d.n d.cap) ∧ Below w.heap.size w w' := by
  unfold rV
  have HRT := Lib.hid (fun (W : World) => rowOf_ok W g o d.n d.cap j hjn)
  simp only [rV] at HRT
  have hb0 := (Below.refl w.heap.size w).alloc (Nat.le_refl _) (.cells #[.pointer (some ⟨g, x, none⟩), .slice (some ⟨g, o, none⟩) d.n d.cap] 72)
  have HX0 := Lib.hid (Bx.new w #[.pointer (some ⟨g, x, none⟩), .slice (some ⟨g, o, none⟩) d.n d.cap] 72)
  have HRR := Lib.hid hR
  have HBB := Lib.hid hB
  obtain ⟨y, hy⟩ : ∃ y, o + j * 12 = y := ⟨_, rfl⟩
  rw [hy] at HRT ⊢
  have HC := Lib.hid (show ∀ W : World, Below w.heap.size w W → W.cell? ⟨g, x + 11, none⟩ = some (.int .i64 (j : Nat)) from fun W hb => by
    have h := (HRR.out.cells (w := W) (hb.block g (Nat.lt_of_lt_of_le HRR.out.lt HBB.out))).2.2.2.2.2.2.2.2.2.2.2
    rw [hj] at h
    exact h)
  obtain ⟨N, hN⟩ : ∃ N, d.n = N := ⟨_, rfl⟩
  obtain ⟨cp, hcp⟩ : ∃ cp, d.cap = cp := ⟨_, rfl⟩
  rw [hN, hcp] at HRT HX0 hb0 ⊢
  clear hy hR hB hN hcp
  have HX1 := Lib.hid (HX0.out.alloc (.cells #[.pointer none, .slice none 0 0] 72))
  have HY1 := Lib.hid (Bx.new (w.alloc (.cells #[.pointer (some ⟨g, x, none⟩), .slice (some ⟨g, o, none⟩) N cp] 72)) #[.pointer none, .slice none 0 0] 72)
  have hb1 := hb0.alloc hb0.size (.cells #[.pointer none, .slice none 0 0] 72)
  have c11 := HC.out _ hb1
  have HB1 := Lib.hid hb1
  have p0 := HX1.out.cell 0 rfl
  have p1 := HX1.out.cell 1 rfl
  have hsz : (w.alloc (.cells #[.pointer (some ⟨g, x, none⟩), .slice (some ⟨g, o, none⟩) N cp] 72)).heap.size = w.heap.size + 1 := by simp
  rw [hsz] at HY1
  clear hb0 hb1 HX0 HX1 hsz
  go_enter Tryz.func52, Tryz.ntmps52
  go_wp2_with fail
  generalize (w.alloc (.cells #[.pointer (some ⟨g, x, none⟩), .slice (some ⟨g, o, none⟩) N cp] 72)).alloc (.cells #[.pointer none, .slice none 0 0] 72) = W1 at *
  obtain ⟨b, hb⟩ : ∃ b, w.heap.size = b := ⟨_, rfl⟩
  have HBE := Lib.hid hb
  rw [hb] at p0 p1 HY1 ⊢
  clear hb
  go_still_tail 7, (by kernel_rfl)
  go_wp2_with fail
  refine (HRT.out _).mono ?_
  rintro e w2 ⟨rfl, h2⟩
  have HB2 := Lib.hid (HB1.out.drew.trans (h2.mono HB1.out.drew.size))
  have HY2 := Lib.hid ((HY1.out.drew 1).below h2 (HY1.out.drew 1).lt)
  clear h2 p0 p1 c11 HB1 HY1
  go_wp2_with (refine wpList_store_bx rfl 72 (.tmp 2) (.tmp 10) rfl 2 (b + 1) _ [.pointer (some ⟨g, y, none⟩), .slice (some ⟨g, o, none⟩) N cp] HY2.out rfl rfl (by kernel_rfl) (by simp [Value.oneCell']) rfl rfl ?_; intro w5 hz5 hx5 hb5 ho5; have HX5 := Lib.hid hx5; have HB5 := Lib.hid (HB2.out.trans (hb5.mono (by rw [HBE.out]; omega))); clear hz5 hx5 hb5 ho5)
  refine bodyPost_ret (v := .agg #[.pointer (some ⟨g, y, none⟩), .slice (some ⟨g, o, none⟩) N cp]) ?_ rfl ⟨rfl, HB5.out⟩
  exact results_cell_row (p := 2) rfl _ _ (b + 1) 72 _ (0, 0) _ rfl HX5.out Tryz.underlying72 rfl (by kernel_rfl)
end Go.Proofs.YtjhecpkdpomkmaaGreat

namespace Go.Proofs.YtjhecpkdpomkmaaGreat
open Go.RowKit
set_option linter.unusedVariables false
set_option linter.unusedSimpArgs false
set_option maxRecDepth 100000

theorem below_drewM {B : Nat} {w w' : World} (h : Below B w w') (n : Nat) : Below B w (w'.drewN n) := ⟨h.os, h.tape, h.output, h.size, h.block⟩
theorem isDefault_ok (w : World) (k : Int) :
    Calls Tryz.prog 90 #[.int .i64 k] w fun e w' => e = .returned (.bool (isDfl k)) ∧ w' = w := by
  have HK := Lib.hid (show isDfl k = (k == 1 || k == 2 || k == 3 || k == 7) from rfl)
  obtain ⟨z, hz⟩ : ∃ z, isDfl k = z := ⟨_, rfl⟩
  rw [hz] at HK ⊢
  clear hz
  cases h1 : (k == 1) with
  | true =>
    have HZ := Lib.hid (show z = true from by rw [HK.out, h1]; rfl)
    go_enter Tryz.func90, Tryz.ntmps90
    go_wp2_with fail
    go_ret
    exact ⟨by rw [HZ.out]; rfl, rfl⟩
  | false =>
    cases h2 : (k == 2) with
    | true =>
      have HZ := Lib.hid (show z = true from by rw [HK.out, h1, h2]; rfl)
      go_enter Tryz.func90, Tryz.ntmps90
      go_wp2_with fail
      go_ret
      exact ⟨by rw [HZ.out]; rfl, rfl⟩
    | false =>
      cases h3 : (k == 3) with
      | true =>
        have HZ := Lib.hid (show z = true from by rw [HK.out, h1, h2, h3]; rfl)
        go_enter Tryz.func90, Tryz.ntmps90
        go_wp2_with fail
        go_ret
        exact ⟨by rw [HZ.out]; rfl, rfl⟩
      | false =>
        obtain ⟨b, h7⟩ : ∃ b, (k == 7) = b := ⟨_, rfl⟩
        have HZ := Lib.hid (show z = b from by rw [HK.out, h1, h2, h3, h7]; rfl)
        go_enter Tryz.func90, Tryz.ntmps90
        go_wp2_with fail
        go_ret
        exact ⟨by rw [HZ.out]; rfl, rfl⟩
set_option maxHeartbeats 8000000 in
theorem of_ok (w : World) (g x o n cap j : Nat) (p : FT) (hj : p.t = (j : Int)) (hjn : j < n) :
    Calls Tryz.prog 54 #[rV g x o n cap, .agg p.cells.toArray] w fun e w' => e = .returned (rV g (o + j * 12) o n cap) ∧ Below w.heap.size w w' := by
  unfold rV
  have HRT := Lib.hid (fun (W : World) => rowOf_ok W g o n cap j hjn)
  simp only [rV] at HRT
  obtain ⟨nm, t, op, ⟨da, dn, dc, df⟩⟩ := p
  obtain rfl : t = (j : Int) := hj
  simp only [FT.cells, DL.v]
  have hx0 := Bx.new w #[.pointer (some ⟨g, x, none⟩), .slice (some ⟨g, o, none⟩) n cap] 72
  have hx1 := hx0.alloc (.cells #[.string nm, .int .i64 (j : Nat), .bool op, .slice da dn dc] 48)
  have hx2 := hx1.alloc (.cells #[.pointer none, .slice none 0 0] 72)
  have hy1 := Bx.new (w.alloc (.cells #[.pointer (some ⟨g, x, none⟩), .slice (some ⟨g, o, none⟩) n cap] 72)) #[.string nm, .int .i64 (j : Nat), .bool op, .slice da dn dc] 48
  have hy2 := hy1.alloc (.cells #[.pointer none, .slice none 0 0] 72)
  have hz2 := Bx.new ((w.alloc (.cells #[.pointer (some ⟨g, x, none⟩), .slice (some ⟨g, o, none⟩) n cap] 72)).alloc (.cells #[.string nm, .int .i64 (j : Nat), .bool op, .slice da dn dc] 48)) #[.pointer none, .slice none 0 0] 72
  have hb0 := (Below.refl w.heap.size w).alloc (Nat.le_refl _) (.cells #[.pointer (some ⟨g, x, none⟩), .slice (some ⟨g, o, none⟩) n cap] 72)
  have hb1 := hb0.alloc hb0.size (.cells #[.string nm, .int .i64 (j : Nat), .bool op, .slice da dn dc] 48)
  have hb2 := hb1.alloc hb1.size (.cells #[.pointer none, .slice none 0 0] 72)
  have HB1 := Lib.hid hb2
  have HZ := Lib.hid hz2
  have p1 := hx2.cell 1 (v := .slice (some ⟨g, o, none⟩) n cap) rfl
  have f1 := hy2.cell 1 (v := .int .i64 (j : Nat)) rfl
  simp only [World.size_alloc] at f1 HZ
  obtain ⟨y, hy⟩ : ∃ y, o + j * 12 = y := ⟨_, rfl⟩
  rw [hy] at HRT ⊢
  clear hx0 hx1 hx2 hy1 hy2 hz2 hb0 hb1 hb2 hy hjn
  go_enter Tryz.func54, Tryz.ntmps54
  go_wp2_with fail
  refine (HRT.out _).mono ?_
  rintro e w2 ⟨rfl, h2⟩
  generalize ((w.alloc (.cells #[.pointer (some ⟨g, x, none⟩), .slice (some ⟨g, o, none⟩) n cap] 72)).alloc (.cells #[.string nm, .int .i64 (j : Nat), .bool op, .slice da dn dc] 48)).alloc (.cells #[.pointer none, .slice none 0 0] 72) = W1 at *
  obtain ⟨b, hb⟩ : ∃ b, w.heap.size = b := ⟨_, rfl⟩
  have HBE := Lib.hid hb
  have HB2 := Lib.hid (HB1.out.trans (h2.mono HB1.out.size))
  have HY2 := Lib.hid (HZ.out.below h2 HZ.out.lt)
  rw [hb] at HY2 ⊢
  clear h2 p1 f1 HB1 HZ hb
  go_wp2_with (refine wpList_store_bx rfl 72 (.tmp 4) (.tmp 9) rfl 2 (b + 1 + 1) _ [.pointer (some ⟨g, y, none⟩), .slice (some ⟨g, o, none⟩) n cap] HY2.out rfl rfl (by kernel_rfl) (by simp [Value.oneCell']) rfl rfl ?_; intro w5 hz5 hx5 hb5 ho5; have HX5 := Lib.hid hx5; have HB5 := Lib.hid (HB2.out.trans (hb5.mono (by rw [HBE.out]; omega))); clear hz5 hx5 hb5 ho5)
  refine bodyPost_ret (v := .agg #[.pointer (some ⟨g, y, none⟩), .slice (some ⟨g, o, none⟩) n cap]) ?_ rfl ⟨rfl, HB5.out⟩
  exact results_cell_row (p := 4) rfl _ _ (b + 1 + 1) 72 _ (0, 0) _ rfl HX5.out Tryz.underlying72 rfl (by kernel_rfl)
set_option maxHeartbeats 8000000 in
theorem countM_ok (B : Nat) (w : World) (g x o : Nat) (d : TB) (i : Nat) (hR : RAt B w g x o d i) (hB : B ≤ w.heap.size) :
    Calls Tryz.prog 88 #[rV g x o d.n d.cap] w fun e w' => e = .returned (.int .i64 ((d.f i).count : Nat)) ∧ Below w.heap.size w w' := by
  unfold rV
  have hx0 := Bx.new w #[.pointer (some ⟨g, x, none⟩), .slice (some ⟨g, o, none⟩) d.n d.cap] 72
  have hb0 := (Below.refl w.heap.size w).alloc (Nat.le_refl _) (.cells #[.pointer (some ⟨g, x, none⟩), .slice (some ⟨g, o, none⟩) d.n d.cap] 72)
  have hc := hR.cells (w := w.alloc (.cells #[.pointer (some ⟨g, x, none⟩), .slice (some ⟨g, o, none⟩) d.n d.cap] 72)) (Below.heap_alloc w _ g (Nat.lt_of_lt_of_le hR.lt hB))
  have c8 := hc.2.2.2.2.2.2.2.2.1
  have c9 := hc.2.2.2.2.2.2.2.2.2.1
  have p0 := hx0.cell 0 (v := .pointer (some ⟨g, x, none⟩)) rfl
  have HB := Lib.hid hb0
  have q1 : IntKind.i64.wrap (((d.f i).pa.n : Int) + ((d.f i).ad.n : Int)) = (((d.f i).count : Nat) : Int) := by
    have h1 := hR.row.2.2.2.2.1.1.1
    have h2 := hR.row.2.2.2.2.1.1.2.1
    have h3 := hR.row.2.2.2.2.2.1.1.1
    have h4 := hR.row.2.2.2.2.2.1.1.2.1
    exact (wrap_ok (by unfold I64; omega)).trans (by unfold DT.count; omega)
  generalize (d.f i).count = N at *
  generalize (d.f i).pa.n = pn at *
  generalize (d.f i).ad.n = an at *
  clear hx0 hb0 hc hR hB
  go_enter Tryz.func88, Tryz.ntmps88
  go_wp2_with fail
  go_quiet (fail)
  go_wp2_with fail
  go_ret
  exact ⟨rfl, below_drewM HB.out _⟩

set_option maxHeartbeats 8000000 in
theorem part_ok (B : Nat) (w : World) (g x o : Nat) (d : TB) (i k : Nat) (hR : RAt B w g x o d i) (hB : B ≤ w.heap.size) (hk : k < (d.f i).count) :
    Calls Tryz.prog 89 #[rV g x o d.n d.cap, .int .i64 (k : Nat)] w fun e w' => e = .returned (.agg ((d.f i).part k).cells.toArray) ∧ Below w.heap.size w w' := by
  unfold rV
  have hx0 := Bx.new w #[.pointer (some ⟨g, x, none⟩), .slice (some ⟨g, o, none⟩) d.n d.cap] 72
  have hx1 := hx0.alloc (.cells #[.string ⟨#[]⟩, .int .i64 0, .bool false, .slice none 0 0] 48)
  have hz1 := Bx.new (w.alloc (.cells #[.pointer (some ⟨g, x, none⟩), .slice (some ⟨g, o, none⟩) d.n d.cap] 72)) #[.string ⟨#[]⟩, .int .i64 0, .bool false, .slice none 0 0] 48
  have hb0 := (Below.refl w.heap.size w).alloc (Nat.le_refl _) (.cells #[.pointer (some ⟨g, x, none⟩), .slice (some ⟨g, o, none⟩) d.n d.cap] 72)
  have hb1 := hb0.alloc hb0.size (.cells #[.string ⟨#[]⟩, .int .i64 0, .bool false, .slice none 0 0] 48)
  have hc := hR.cells (w := (w.alloc (.cells #[.pointer (some ⟨g, x, none⟩), .slice (some ⟨g, o, none⟩) d.n d.cap] 72)).alloc (.cells #[.string ⟨#[]⟩, .int .i64 0, .bool false, .slice none 0 0] 48)) (hb1.block g (Nat.lt_of_lt_of_le hR.lt hB))
  have c8 := hc.2.2.2.2.2.2.2.2.1
  have c9 := hc.2.2.2.2.2.2.2.2.2.1
  have p0 := hx1.cell 0 (v := .pointer (some ⟨g, x, none⟩)) rfl
  have HB1 := Lib.hid hb1
  have HZ := Lib.hid hz1
  simp only [World.size_alloc] at HZ
  have hrow := hR.row
  have hpn := hrow.2.2.2.2.1.1
  have han := hrow.2.2.2.2.2.1.1
  have HK := Lib.hid hk
  have e3 := hpn.1
  have e4 := hpn.2.1
  have e5 := han.1
  have e6 := han.2.1
  by_cases hlt : k < (d.f i).pa.n
  · obtain ⟨gx, ox, hix, hgx, hrd⟩ := fRow_read hpn hlt
    have HR := Lib.hid (hrd _ (hb1.block gx (Nat.lt_of_lt_of_le hgx hB)))
    have hp : (d.f i).part k = (d.f i).pa.f k := if_pos hlt
    rw [hp]
    have H1 := Lib.hid (one_fcells ((d.f i).pa.f k))
    generalize ((d.f i).pa.f k).cells = cs at *
    generalize (d.f i).pa.n = pn at *
    generalize (d.f i).pa.cap = pc at *
    generalize (d.f i).pa.a = pa at *
    have q1 : decide ((k : Int) < (pn : Int)) = true := decide_eq_true (by omega)
    have q1n : decide (k < pn) = true := decide_eq_true hlt
    clear hx0 hx1 hz1 hb0 hb1 hc c9 hrd hgx hp hrow hpn han hR hB hk e3 e4 e5 e6
    go_enter Tryz.func89, Tryz.ntmps89
    go_wp2_with (first
      | (refine wpList_load_mid rfl 48 (.tmp 19) rfl gx ox rfl cs _ HR.out Tryz.underlying48 rfl (by rw [info_F, H1.out.1]) ?_)
      | (refine wpList_store_bx rfl 48 (.tmp 4) (.tmp 20) rfl 4 (w.heap.size + 1) _ cs HZ.out H1.out.1 rfl (by kernel_rfl) H1.out.2 rfl rfl ?_; intro w5 hz5 hx5 hb5 ho5; have HX5 := Lib.hid hx5; have HB5 := Lib.hid (HB1.out.trans (hb5.mono (by omega))); clear hz5 hx5 hb5 ho5))
    refine bodyPost_ret (v := .agg cs.toArray) ?_ rfl ⟨rfl, HB5.out⟩
    exact results_cell_row (p := 4) rfl _ _ (w.heap.size + 1) 48 _ (0, 0) _ rfl HX5.out Tryz.underlying48 rfl (by rw [info_F]; simp [H1.out.1])
  · obtain ⟨k', rfl⟩ : ∃ k', k = (d.f i).pa.n + k' := ⟨k - (d.f i).pa.n, by omega⟩
    have hk' : k' < (d.f i).ad.n := by unfold DT.count at hk; omega
    obtain ⟨gx, ox, hix, hgx, hrd⟩ := fRow_read han hk'
    have HR := Lib.hid (hrd _ (hb1.block gx (Nat.lt_of_lt_of_le hgx hB)))
    have hp : (d.f i).part ((d.f i).pa.n + k') = (d.f i).ad.f k' := (if_neg hlt).trans (by rw [Nat.add_sub_cancel_left])
    rw [hp]
    have H1 := Lib.hid (one_fcells ((d.f i).ad.f k'))
    have f0 := HR.out 0 (.string ((d.f i).ad.f k').name) rfl
    have f1 := HR.out 1 (.int .i64 ((d.f i).ad.f k').t) rfl
    have f2 := HR.out 2 (.bool ((d.f i).ad.f k').opt) rfl
    have f3 := HR.out 3 (.slice ((d.f i).ad.f k').d.a ((d.f i).ad.f k').d.n ((d.f i).ad.f k').d.cap) rfl
    rw [Nat.add_zero] at f0
    rw [list4 ((d.f i).ad.f k')]
    generalize ((d.f i).ad.f k').name = fn at *
    generalize ((d.f i).ad.f k').t = ft at *
    generalize ((d.f i).ad.f k').opt = fo at *
    generalize ((d.f i).ad.f k').d.a = fa at *
    generalize ((d.f i).ad.f k').d.n = fm at *
    generalize ((d.f i).ad.f k').d.cap = fc at *
    generalize (d.f i).pa.n = pn at *
    generalize (d.f i).pa.cap = pc at *
    generalize (d.f i).pa.a = pa at *
    generalize (d.f i).ad.n = an at *
    generalize (d.f i).ad.cap = ac at *
    generalize (d.f i).ad.a = aa at *
    have q1 : decide (((pn + k' : Nat) : Int) < (pn : Int)) = false := decide_eq_false (by omega)
    have q1n : decide (pn + k' < pn) = false := decide_eq_false (by omega)
    have q2 : IntKind.i64.wrap (((pn + k' : Nat) : Int) - (pn : Int)) = ((k' : Nat) : Int) := (wrap_ok (by unfold I64; omega)).trans (by omega)
    generalize pn + k' = kk at *
    clear hx0 hx1 hz1 hb0 hb1 hc hrd hgx hp hrow hpn han hR hB hk H1 HR e3 e4 e5 e6
    go_enter Tryz.func89, Tryz.ntmps89
    go_wp2_with fail
    generalize (w.alloc (.cells #[.pointer (some ⟨g, x, none⟩), .slice (some ⟨g, o, none⟩) d.n d.cap] 72)).alloc (.cells #[.string ⟨#[]⟩, .int .i64 0, .bool false, .slice none 0 0] 48) = W1 at *
    go_still_tail 15, (by kernel_rfl)
    go_wp2_with (refine wpList_store_bx rfl 48 (.tmp 4) (.tmp 35) rfl 4 (w.heap.size + 1) _ [.string fn, .int .i64 ft, .bool fo, .slice fa fm fc] (HZ.out.drew 1) rfl rfl (by kernel_rfl) (by simp [Value.oneCell']) rfl rfl ?_; intro w5 hz5 hx5 hb5 ho5; have HX5 := Lib.hid hx5; have HB5 := Lib.hid (HB1.out.drew.trans (hb5.mono (by omega))); clear hz5 hx5 hb5 ho5)
    refine bodyPost_ret (v := .agg #[.string fn, .int .i64 ft, .bool fo, .slice fa fm fc]) ?_ rfl ⟨rfl, HB5.out⟩
    exact results_cell_row (p := 4) rfl _ _ (w.heap.size + 1) 48 _ (0, 0) _ rfl HX5.out Tryz.underlying48 rfl (by kernel_rfl)
end Go.Proofs.YtjhecpkdpomkmaaGreat

namespace Go.Proofs.YtjhecpkdpomkmaaGreat
open Go.RowKit
set_option linter.unusedVariables false
set_option linter.unusedSimpArgs false
set_option maxRecDepth 100000

set_option maxHeartbeats 16000000 in
theorem same_walk (B : Nat) (w : World) (k m : Int) (s : ByteArray) (nm : SL) (a : Option Addr) (n cap : Nat) (ch : Nat → VT) (k' m' : Int) (s' : ByteArray) (nm' : SL) (a' : Option Addr) (n' cap' : Nat) (ch' : Nat → VT) (hB : B ≤ w.heap.size)
    (hx : VIn B w (.mk k m s nm a n cap ch)) (hy : VIn B w (.mk k' m' s' nm' a' n' cap' ch'))
    (hrec : ∀ i, i < n → i < n' → ∀ w', Below w.heap.size w w' → Calls Tryz.prog 16 #[.agg (ch i).cells.toArray, .agg (ch' i).cells.toArray] w' fun e w'' => e = .returned (.bool ((ch i).same (ch' i))) ∧ Below w'.heap.size w' w'') :
    Calls Tryz.prog 16 #[.agg (VT.mk k m s nm a n cap ch).cells.toArray, .agg (VT.mk k' m' s' nm' a' n' cap' ch').cells.toArray] w fun e w' => e = .returned (.bool ((VT.mk k m s nm a n cap ch).same (VT.mk k' m' s' nm' a' n' cap' ch'))) ∧ Below w.heap.size w w' := by
  have hx' := hx.below (Below.refl w.heap.size w) hB
  have hy' := hy.below (Below.refl w.heap.size w) hB
  have hES := fun (W : World) (hb : Below w.heap.size w W) => eqS_ok w.heap.size W nm nm' (hx'.1.2.2.2.below hb (Nat.le_refl _)) (hy'.1.2.2.2.below hb (Nat.le_refl _))
  have hEV := fun (W : World) (hb : Below w.heap.size w W) => eqFuncV_ok w.heap.size W a n cap ch a' n' cap' ch' hb.size (hx'.2.1.below hb (Nat.le_refl _)) (hy'.2.1.below hb (Nat.le_refl _)) (fun i hi => (hx'.2.2 i hi).below hb (Nat.le_refl _)) (fun i hi => (hy'.2.2 i hi).below hb (Nat.le_refl _))
    (fun i h1 h2 w' hb' => hrec i h1 h2 w' (hb.trans (hb'.mono hb.size)))
  have HES := Lib.hid hES
  have HEV := Lib.hid hEV
  have HL := Lib.hid (show (VT.mk k m s nm a n cap ch).same (VT.mk k' m' s' nm' a' n' cap' ch') = ((k == k') && ((m == m') && (sEq s s' && (nm.same nm' && (decide (n = n') && allN (fun i => (ch i).same (ch' i)) n))))) from rfl)
  simp only [VT.cells, SL.v]
  generalize (VT.mk k m s nm a n cap ch).same (VT.mk k' m' s' nm' a' n' cap' ch') = res at *
  generalize nm.same nm' = bs at *
  generalize (decide (n = n') && allN (fun i => (ch i).same (ch' i)) n) = bl at *
  generalize nm.a = na at *
  generalize nm.n = nn at *
  generalize nm.cap = nc at *
  generalize nm'.a = na' at *
  generalize nm'.n = nn' at *
  generalize nm'.cap = nc' at *
  have hb0 := (Below.refl w.heap.size w).alloc (Nat.le_refl _) (.cells #[.int .i64 k, .int .i64 m, .string s, .slice na nn nc, .slice a n cap] 26)
  have hb1 := hb0.alloc hb0.size (.cells #[.int .i64 k', .int .i64 m', .string s', .slice na' nn' nc', .slice a' n' cap'] 26)
  have hxa := (Bx.new w #[.int .i64 k, .int .i64 m, .string s, .slice na nn nc, .slice a n cap] 26).alloc (.cells #[.int .i64 k', .int .i64 m', .string s', .slice na' nn' nc', .slice a' n' cap'] 26)
  have hxb := Bx.new (w.alloc (.cells #[.int .i64 k, .int .i64 m, .string s, .slice na nn nc, .slice a n cap] 26)) #[.int .i64 k', .int .i64 m', .string s', .slice na' nn' nc', .slice a' n' cap'] 26
  rw [World.size_alloc] at hxb
  have HB1 := Lib.hid hb1
  have HXA := Lib.hid hxa
  have HXB := Lib.hid hxb
  have HCE := Lib.hid (show ∀ (W : World) (g : Nat), Bx W g #[.int .i64 k, .int .i64 m, .string s, .slice na nn nc, .slice a n cap] 26 → W.cell? ⟨g, 0, none⟩ = some (.int .i64 k) ∧ W.cell? ⟨g, 1, none⟩ = some (.int .i64 m) ∧ W.cell? ⟨g, 2, none⟩ = some (.string s) ∧ W.cell? ⟨g, 3, none⟩ = some (.slice na nn nc) ∧ W.cell? ⟨g, 4, none⟩ = some (.slice a n cap) from fun W g h => ⟨h.cell 0 rfl, h.cell 1 rfl, h.cell 2 rfl, h.cell 3 rfl, h.cell 4 rfl⟩)
  have HCF := Lib.hid (show ∀ (W : World) (g : Nat), Bx W g #[.int .i64 k', .int .i64 m', .string s', .slice na' nn' nc', .slice a' n' cap'] 26 → W.cell? ⟨g, 0, none⟩ = some (.int .i64 k') ∧ W.cell? ⟨g, 1, none⟩ = some (.int .i64 m') ∧ W.cell? ⟨g, 2, none⟩ = some (.string s') ∧ W.cell? ⟨g, 3, none⟩ = some (.slice na' nn' nc') ∧ W.cell? ⟨g, 4, none⟩ = some (.slice a' n' cap') from fun W g h => ⟨h.cell 0 rfl, h.cell 1 rfl, h.cell 2 rfl, h.cell 3 rfl, h.cell 4 rfl⟩)
  obtain ⟨c0, c1, c2, c3, c4⟩ := HCE.out _ _ hxa
  obtain ⟨d0, d1, d2, d3, d4⟩ := HCF.out _ _ hxb
  clear hx hy hx' hy' hrec hES hEV hb0 hb1 hxa hxb hB
  cases q1 : (k == k') with
  | false =>
    have HZ := Lib.hid (show res = false from by rw [HL.out, q1]; rfl)
    go_enter Tryz.func16, Tryz.ntmps16
    go_wp2_with fail
    go_ret
    exact ⟨by rw [HZ.out]; first | rfl | simp, HB1.out⟩
  | true =>
  cases q2 : (m == m') with
  | false =>
    have HZ := Lib.hid (show res = false from by rw [HL.out, q2]; simp)
    go_enter Tryz.func16, Tryz.ntmps16
    go_wp2_with fail
    go_ret
    exact ⟨by rw [HZ.out]; first | rfl | simp, HB1.out⟩
  | true =>
  cases q3 : sEq s s' with
  | false =>
    have HZ := Lib.hid (show res = false from by rw [HL.out, q3]; simp)
    have q4 : (s.toList == s'.toList) = false := q3
    go_enter Tryz.func16, Tryz.ntmps16
    go_wp2_with fail
    go_ret
    exact ⟨by rw [HZ.out]; first | rfl | simp, HB1.out⟩
  | true =>
  have q4 : (s.toList == s'.toList) = true := q3
  have HL2 := Lib.hid (show res = (bs && bl) from by rw [HL.out, q1, q2, q3]; rfl)
  clear HL q3
  go_enter Tryz.func16, Tryz.ntmps16
  go_wp2_with fail
  refine (HES.out _ HB1.out).mono ?_
  rintro e w2 ⟨rfl, h2⟩
  have HB2 := Lib.hid (HB1.out.trans (h2.mono HB1.out.size))
  have HXA2 := Lib.hid (HXA.out.below h2 HXA.out.lt)
  have HXB2 := Lib.hid (HXB.out.below h2 HXB.out.lt)
  clear h2 c0 c1 c2 c3 c4 d0 d1 d2 d3 d4 HB1 HXA HXB HES
  obtain ⟨c0, c1, c2, c3, c4⟩ := HCE.out _ _ HXA2.out
  obtain ⟨d0, d1, d2, d3, d4⟩ := HCF.out _ _ HXB2.out
  cases bs with
  | false =>
    have HZ := Lib.hid (show res = false from by rw [HL2.out]; rfl)
    go_wp2_with fail
    go_ret
    exact ⟨by rw [HZ.out]; first | rfl | simp, HB2.out⟩
  | true =>
    have HZ := Lib.hid (show res = bl from by rw [HL2.out]; rfl)
    go_wp2_with fail
    refine (HEV.out _ HB2.out).mono ?_
    rintro e w3 ⟨rfl, h3⟩
    have HB3 := Lib.hid (HB2.out.trans (h3.mono HB2.out.size))
    clear h3 c0 c1 c2 c3 c4 d0 d1 d2 d3 d4 HEV
    go_wp2_with fail
    go_ret
    exact ⟨by rw [HZ.out]; first | rfl | simp, HB3.out⟩
theorem mSame_ok : ∀ (x y : VT) (B : Nat) (w : World), VIn B w x → VIn B w y → B ≤ w.heap.size →
    Calls Tryz.prog 16 #[.agg x.cells.toArray, .agg y.cells.toArray] w fun e w' => e = .returned (.bool (x.same y)) ∧ Below w.heap.size w w'
  | .nil, _, _, _, h, _, _ => h.elim
  | .mk .., .nil, _, _, _, h, _ => h.elim
  | .mk k m s nm a n cap ch, .mk k' m' s' nm' a' n' cap' ch', B, w, hx, hy, hB =>
    same_walk B w k m s nm a n cap ch k' m' s' nm' a' n' cap' ch' hB hx hy fun i h1 h2 w' hb => mSame_ok (ch i) (ch' i) w.heap.size w' ((hx.2.2 i h1).below (hb.mono (Nat.le_refl _)) hB) ((hy.2.2 i h2).below hb hB) hb.size
end Go.Proofs.YtjhecpkdpomkmaaGreat

namespace Go.Proofs.YtjhecpkdpomkmaaGreat
open Go.RowKit
set_option linter.unusedVariables false
set_option linter.unusedSimpArgs false
set_option maxRecDepth 100000

set_option maxHeartbeats 8000000 in
theorem isPartRight_ok (w : World) (p : FT) (kind : Int) (rows : Nat) :
    Calls Tryz.prog 203 #[.agg p.cells.toArray, .int .i64 kind, .int .i64 (rows : Int)] w fun e w' => e = .returned (.bool (p.ok kind rows)) ∧ Below w.heap.size w w' := by
  obtain ⟨nm, t, op, ⟨da, dn, dc, df⟩⟩ := p
  have hx := Bx.new w #[.string nm, .int .i64 t, .bool op, .slice da dn dc] 48
  have c1 := hx.cell 1 (v := .int .i64 t) rfl
  have c2 := hx.cell 2 (v := .bool op) rfl
  have c3 := hx.cell 3 (v := .slice da dn dc) rfl
  have HB := Lib.hid ((Below.refl w.heap.size w).alloc (Nat.le_refl _) (.cells #[.string nm, .int .i64 t, .bool op, .slice da dn dc] 48))
  have HL := Lib.hid (show FT.ok ⟨nm, t, op, ⟨da, dn, dc, df⟩⟩ kind rows = (!(kind == 10 && (op || decide (0 < dn))) && isRw t rows && (decide (dn = 0) || (decide (dn = 1) && !op))) from rfl)
  obtain ⟨z, hz⟩ : ∃ z, FT.ok ⟨nm, t, op, ⟨da, dn, dc, df⟩⟩ kind rows = z := ⟨_, rfl⟩
  rw [hz] at HL ⊢
  simp only [FT.cells, DL.v]
  clear hz hx
  have HC := Lib.hid (isRow_ok (w.alloc (.cells #[.string nm, .int .i64 t, .bool op, .slice da dn dc] 48)) t rows)
  obtain ⟨rb, hrb⟩ : ∃ rb, isRw t rows = rb := ⟨_, rfl⟩
  rw [hrb] at HC HL
  clear hrb
  -- the second half
  have key : ∀ (hk : (kind == 10 && (op || decide (0 < dn))) = false), Calls Tryz.prog 203 #[.agg #[.string nm, .int .i64 t, .bool op, .slice da dn dc], .int .i64 kind, .int .i64 (rows : Int)] w fun e w' => e = .returned (.bool z) ∧ Below w.heap.size w w' := by
    intro hk
    have HZ := Lib.hid (show z = (rb && (decide (dn = 0) || (decide (dn = 1) && !op))) from by rw [HL.out, hk]; rfl)
    have hfirst : (∃ b, (kind == 10) = false ∧ b = true) ∨ ((kind == 10) = true ∧ op = false ∧ dn = 0) := by
      cases h1 : (kind == 10) with
      | false => exact .inl ⟨true, rfl, rfl⟩
      | true =>
        rw [h1] at hk
        simp only [Bool.true_and, Bool.or_eq_false_iff, decide_eq_false_iff_not] at hk
        exact .inr ⟨rfl, hk.1, by omega⟩
    clear hk HL
    cases rb with
    | false =>
      have HZ2 := Lib.hid (show z = false from by rw [HZ.out]; rfl)
      rcases hfirst with ⟨_, h1, _⟩ | ⟨h1, rfl, rfl⟩
      · go_enter Tryz.func203, Tryz.ntmps203
        go_wp2_with fail
        refine HC.out.mono ?_
        rintro e w1 ⟨rfl, rfl⟩
        go_wp2_with fail
        go_ret
        exact ⟨by rw [HZ2.out]; rfl, HB.out⟩
      · go_enter Tryz.func203, Tryz.ntmps203
        go_wp2_with fail
        refine HC.out.mono ?_
        rintro e w1 ⟨rfl, rfl⟩
        go_wp2_with fail
        go_ret
        exact ⟨by rw [HZ2.out]; rfl, HB.out⟩
    | true =>
      rcases hfirst with ⟨_, h1, _⟩ | ⟨h1, rfl, rfl⟩
      · by_cases h0 : dn = 0
        · subst h0
          have HZ2 := Lib.hid (show z = true from by rw [HZ.out]; rfl)
          go_enter Tryz.func203, Tryz.ntmps203
          go_wp2_with fail
          refine HC.out.mono ?_
          rintro e w1 ⟨rfl, rfl⟩
          go_wp2_with fail
          go_ret
          exact ⟨by rw [HZ2.out]; rfl, HB.out⟩
        · have q0 : ((dn : Int) == 0) = false := beq_eq_false_iff_ne.2 (by omega)
          have q0n : (dn == 0) = false := beq_eq_false_iff_ne.2 h0
          by_cases h2 : dn = 1
          · subst h2
            have HZ2 := Lib.hid (show z = !op from by rw [HZ.out]; simp)
            cases op with
            | false =>
              go_enter Tryz.func203, Tryz.ntmps203
              go_wp2_with fail
              refine HC.out.mono ?_
              rintro e w1 ⟨rfl, rfl⟩
              go_wp2_with fail
              go_ret
              exact ⟨by rw [HZ2.out]; rfl, HB.out⟩
            | true =>
              go_enter Tryz.func203, Tryz.ntmps203
              go_wp2_with fail
              refine HC.out.mono ?_
              rintro e w1 ⟨rfl, rfl⟩
              go_wp2_with fail
              go_ret
              exact ⟨by rw [HZ2.out]; rfl, HB.out⟩
          · have q2 : ((dn : Int) == 1) = false := beq_eq_false_iff_ne.2 (by omega)
            have q2n : (dn == 1) = false := beq_eq_false_iff_ne.2 h2
            have HZ2 := Lib.hid (show z = false from by rw [HZ.out, decide_eq_false h0, decide_eq_false h2]; rfl)
            clear h0 h2
            go_enter Tryz.func203, Tryz.ntmps203
            go_wp2_with fail
            refine HC.out.mono ?_
            rintro e w1 ⟨rfl, rfl⟩
            go_wp2_with fail
            go_ret
            exact ⟨by rw [HZ2.out]; rfl, HB.out⟩
      · have HZ2 := Lib.hid (show z = true from by rw [HZ.out]; rfl)
        go_enter Tryz.func203, Tryz.ntmps203
        go_wp2_with fail
        refine HC.out.mono ?_
        rintro e w1 ⟨rfl, rfl⟩
        go_wp2_with fail
        go_ret
        exact ⟨by rw [HZ2.out]; rfl, HB.out⟩
  cases hk : (kind == 10 && (op || decide (0 < dn))) with
  | false => exact key hk
  | true =>
    have HZ := Lib.hid (show z = false from by rw [HL.out, hk]; rfl)
    simp only [Bool.and_eq_true, Bool.or_eq_true, decide_eq_true_eq] at hk
    obtain ⟨h1, h2⟩ := hk
    clear key HL HC
    cases op with
    | true =>
      go_enter Tryz.func203, Tryz.ntmps203
      go_wp2_with fail
      go_ret
      exact ⟨by rw [HZ.out]; rfl, HB.out⟩
    | false =>
      have h3 : 0 < dn := by rcases h2 with h2 | h2; · cases h2
                             · exact h2
      have q0 : decide ((0 : Int) < (dn : Int)) = true := decide_eq_true (by omega)
      have q0n : decide (0 < dn) = true := decide_eq_true h3
      clear h2 h3
      go_enter Tryz.func203, Tryz.ntmps203
      go_wp2_with fail
      go_ret
      exact ⟨by rw [HZ.out]; rfl, HB.out⟩
end Go.Proofs.YtjhecpkdpomkmaaGreat
