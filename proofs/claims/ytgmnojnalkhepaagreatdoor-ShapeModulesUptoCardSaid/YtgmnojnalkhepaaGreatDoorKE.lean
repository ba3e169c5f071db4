/-
  A bundle of texts, one behind the other: ShN1, ShN2, ShN3.
-/
import Derived.Test.YtgmnojnalkhepaaGreatDoorJK
import Derived.Test.YtgmnojnalkhepaaGreatDoorJF
/-
  Modules as they lie in memory; which are well-formed: no walk here.
-/
namespace Go.Proofs.YtgmnojnalkhepaaGreatDoor
open Go.RowKit
set_option linter.unusedVariables false
set_option linter.unusedSimpArgs false
set_option maxRecDepth 100000

/-- an import -/
structure IM where
  nm : SL
  fr : ByteArray
def IM.cells (i : IM) : List Value := [.slice i.nm.a i.nm.n i.nm.cap, .string i.fr]
def IMIn (B : Nat) (W : World) (i : IM) : Prop := SLIn B W i.nm ∧ i.fr.size ≤ 140737488355328
theorem IMIn.below {B B' : Nat} {W W' : World} {i : IM} (h : IMIn B W i) (hb : Below B' W W') (hB : B ≤ B') : IMIn B' W' i := ⟨h.1.below hb hB, h.2⟩
/-- a definition -/
structure DF where
  name : ByteArray
  t : TT
def DF.cells (d : DF) : List Value := .string d.name :: d.t.cells
def DFIn (B : Nat) (W : World) (d : DF) : Prop := d.name.size ≤ 140737488355328 ∧ TIn B W d.t
theorem DFIn.below {B B' : Nat} {W W' : World} {d : DF} (h : DFIn B W d) (hb : Below B' W W') (hB : B ≤ B') : DFIn B' W' d := ⟨h.1, h.2.below hb hB⟩
theorem one_dcells {B : Nat} {W : World} {d : DF} (h : DFIn B W d) : d.cells.length = 16 ∧ ∀ v ∈ d.cells, v.oneCell' = true := by
  obtain ⟨h1, h2⟩ := one_tcells h.2
  refine ⟨by simp [DF.cells, h1], fun v hv => ?_⟩
  rcases List.mem_cons.1 hv with rfl | hv
  · rfl
  · exact h2 v hv
/-- a module -/
structure MT where
  name : ByteArray
  auto : Bool
  ia : Option Addr
  ni : Nat
  icap : Nat
  im : Nat → IM
  da : Option Addr
  nd : Nat
  dcap : Nat
  df : Nat → DF
def MT.cells (m : MT) : List Value := [.string m.name, .bool m.auto, .slice m.ia m.ni m.icap, .slice m.da m.nd m.dcap]
def MIn (B : Nat) (W : World) (m : MT) : Prop :=
  m.name.size ≤ 140737488355328 ∧ (RowAt B W m.ia m.ni m.icap 2 (fun i => (m.im i).cells) ∧ ∀ i, i < m.ni → IMIn B W (m.im i)) ∧ (RowAt B W m.da m.nd m.dcap 16 (fun i => (m.df i).cells) ∧ ∀ i, i < m.nd → DFIn B W (m.df i))
theorem MIn.below {B B' : Nat} {W W' : World} {m : MT} (h : MIn B W m) (hb : Below B' W W') (hB : B ≤ B') : MIn B' W' m :=
  ⟨h.1, ⟨h.2.1.1.below hb hB, fun i hi => (h.2.1.2 i hi).below hb hB⟩, ⟨h.2.2.1.below hb hB, fun i hi => (h.2.2.2 i hi).below hb hB⟩⟩
def IM.ok (i : IM) : Bool := refd i.fr && (decide (0 < i.nm.n) && fewOk (fun k => refd (i.nm.f k)) i.nm.n)
def DF.ok (d : DF) : Bool := refd d.name && d.t.okT
def MT.ok (m : MT) : Bool := refd m.name && (fewOk (fun i => (m.im i).ok) m.ni && fewOk (fun i => (m.df i).ok) m.nd)
theorem info_D : (Tryz.prog.info? 50).map (·.size) = some 16 := by kernel_rfl
theorem iRow_read {B : Nat} {W : World} {a : Option Addr} {n cap : Nat} {f : Nat → IM} (h : RowAt B W a n cap 2 (fun i => (f i).cells)) {i : Nat} (hi : i < n) :
    ∃ gx ox : Nat, (∀ w, (Instr.indexAt 22 (.slice a n cap) (.int .i64 (i : Nat))).run Tryz.prog w = .ok (.pointer (some ⟨gx, ox, none⟩)) w) ∧ gx < B ∧
      ∀ w : World, w.heap[gx]? = W.heap[gx]? → w.cell? ⟨gx, ox, none⟩ = some (.slice (f i).nm.a (f i).nm.n (f i).nm.cap) ∧ w.cell? ⟨gx, ox + 1, none⟩ = some (.string (f i).fr) := by
  obtain ⟨gx, ox, h1, h2, h3⟩ := h.read 22 52 Tryz.underlying22 (by kernel_rfl) Tryz.sizeOf52 hi
  exact ⟨gx, ox, h1, h2, fun w hw => ⟨h3 w hw 0 _ rfl, h3 w hw 1 _ rfl⟩⟩
theorem dRow_read {B : Nat} {W : World} {a : Option Addr} {n cap : Nat} {f : Nat → DF} (h : RowAt B W a n cap 16 (fun i => (f i).cells)) {i : Nat} (hi : i < n) :
    ∃ gx ox : Nat, (∀ w, (Instr.indexAt 23 (.slice a n cap) (.int .i64 (i : Nat))).run Tryz.prog w = .ok (.pointer (some ⟨gx, ox, none⟩)) w) ∧ gx < B ∧ ∀ w : World, w.heap[gx]? = W.heap[gx]? → w.rangeAt gx ox (f i).cells :=
  h.read 23 50 Tryz.underlying23 (by kernel_rfl) Tryz.sizeOf50 hi
theorem range_dt {w : World} {g o : Nat} {d : DF} (h : w.rangeAt g o d.cells) : w.rangeAt g (o + 1) d.t.cells := fun j v hv => by
  have := h (j + 1) v (by show (Value.string d.name :: d.t.cells)[j + 1]? = some v; rw [List.getElem?_cons_succ]; exact hv)
  rw [Nat.add_assoc, Nat.add_comm 1 j]
  exact this
end Go.Proofs.YtgmnojnalkhepaaGreatDoor

/-
  Package shape: 'every', 'few' at imports and definitions.
-/
namespace Go.Proofs.YtgmnojnalkhepaaGreatDoor
open Go.RowKit
set_option linter.unusedVariables false
set_option linter.unusedSimpArgs false
set_option maxRecDepth 100000

set_option maxHeartbeats 8000000 in
theorem everyI_ok (B : Nat) (w : World) (a : Option Addr) (n cap : Nat) (f : Nat → IM) (fn : FuncId) (first lb : Array Value) (p : Nat → Bool) (hen0 : Enters Tryz.prog fn)
    (hB : B ≤ w.heap.size) (hrow : RowAt B w a n cap 2 (fun i => (f i).cells)) (hch : ∀ i, i < n → IMIn B w (f i)) (hp : PredN w fn first lb n (fun i => (.agg #[.slice (f i).nm.a (f i).nm.n (f i).nm.cap, .string (f i).fr] : Value)) p) :
    Calls Tryz.prog 31 #[.slice a n cap, .func (.func fn) first lb] w fun e w' => e = .returned (.bool (allN p n)) ∧ Below w.heap.size w w' := by
  have hen : ∀ (args : Array Value) (w : World), (callFunc fn args).run Tryz.prog w = .ok (.enter fn args) w := hen0
  have HROW := Lib.hid hrow
  have HCH := Lib.hid hch
  have HP := Lib.hid hp
  have HBB := Lib.hid hB
  have hn : n ≤ 9223372036854775807 := by have := hrow.1; have := hrow.2.1; omega
  have HB0 := Lib.hid (Below.refl w.heap.size w)
  clear hrow hp hB hch
  go_enter Tryz.func31, Tryz.ntmps31
  go_wp2_with fail
  go_loopw [9] (fun iv wr => RelEv w n p iv wr) (fun iv _ => n - (Lib.intOf iv).toNat)
  case atStart => exact ⟨0, Nat.zero_le _, rfl, rfl, HB0.out⟩
  case round =>
    obtain ⟨i, hi, rfl, hall, hbel⟩ := hrel
    have HB := Lib.hid hbel
    have HA := Lib.hid hall
    have hsz := hbel.size
    clear hbel hall
    by_cases hlt : i < n
    · have q1 : decide ((i : Int) < (n : Int)) = true := decide_eq_true (by omega)
      have q1n : decide (i < n) = true := decide_eq_true hlt
      obtain ⟨gx, ox, hix, hgx, hrd⟩ := iRow_read HROW.out hlt
      obtain ⟨k0, k1⟩ := hrd wr (HB.out.block gx (by have := HBB.out; omega))
      obtain ⟨na, hna⟩ : ∃ x, (f i).nm.a = x := ⟨_, rfl⟩
      obtain ⟨nn, hnn⟩ : ∃ x, (f i).nm.n = x := ⟨_, rfl⟩
      obtain ⟨nc, hnc⟩ : ∃ x, (f i).nm.cap = x := ⟨_, rfl⟩
      obtain ⟨fr, hfr⟩ : ∃ x, (f i).fr = x := ⟨_, rfl⟩
      rw [hna, hnn, hnc] at k0
      rw [hfr] at k1
      have hc := HP.out i hlt
      simp only [hna, hnn, hnc, hfr] at hc
      have HC := Lib.hid hc
      have HBA := Lib.hid (HB.out.alloc hsz (.cells #[.slice na nn nc, .string fr] 52))
      clear hc hna hnn hnc hfr hrd
      have q3 : IntKind.i64.wrap ((i : Int) + 1) = ((i + 1 : Nat) : Int) := wrap_succ hlt hn
      cases hpi : p i with
      | true =>
        have HN := Lib.hid (allN_succ HA.out hpi)
        rw [hpi] at HC
        clear hpi
        go_wp2_with (fail)
        refine (HC.out _ HBA.out).mono ?_
        rintro e w1 ⟨rfl, hb⟩
        have HB1 := Lib.hid (HBA.out.trans (hb.mono HBA.out.size))
        clear hb
        go_wp2_with fail
        go_roundw
        case rel => exact ⟨i + 1, hlt, rfl, HN.out, HB1.out⟩
        case measure => simp only [Lib.intOf]; omega
      | false =>
        have HN := Lib.hid (allN_no hlt hpi)
        rw [hpi] at HC
        clear hpi
        go_wp2_with (fail)
        refine (HC.out _ HBA.out).mono ?_
        rintro e w1 ⟨rfl, hb⟩
        have HB1 := Lib.hid (HBA.out.trans (hb.mono HBA.out.size))
        clear hb
        go_wp2_with fail
        go_ret
        refine ⟨?_, HB1.out⟩
        rw [HN.out]
        rfl
    · have q1 : decide ((i : Int) < (n : Int)) = false := decide_eq_false (by omega)
      have q1n : decide (i < n) = false := decide_eq_false hlt
      obtain rfl : i = n := by omega
      go_wp2_with fail
      go_ret
      refine ⟨?_, HB.out⟩
      rw [HA.out]
      rfl
set_option maxHeartbeats 4000000 in
theorem fewI_ok (B : Nat) (w : World) (a : Option Addr) (n cap : Nat) (f : Nat → IM) (fn : FuncId) (first lb : Array Value) (p : Nat → Bool) (hen0 : Enters Tryz.prog fn)
    (hB : B ≤ w.heap.size) (hrow : RowAt B w a n cap 2 (fun i => (f i).cells)) (hch : ∀ i, i < n → IMIn B w (f i)) (hp : PredN w fn first lb n (fun i => (.agg #[.slice (f i).nm.a (f i).nm.n (f i).nm.cap, .string (f i).fr] : Value)) p) :
    Calls Tryz.prog 17 #[.slice a n cap, .func (.func fn) first lb] w fun e w' => e = .returned (.bool (fewOk p n)) ∧ Below w.heap.size w w' := by
  have HE := Lib.hid (everyI_ok B w a n cap f fn first lb p hen0 hB hrow hch hp)
  have hn : n ≤ 9223372036854775807 := by have := hrow.1; have := hrow.2.1; omega
  have HB0 := Lib.hid (Below.refl w.heap.size w)
  clear hrow hp hch
  unfold fewOk
  generalize allN p n = r at *
  by_cases h1 : n ≤ 256
  · have q1 : decide ((n : Int) ≤ 256) = true := decide_eq_true (by omega)
    have q1n : decide (n ≤ 256) = true := decide_eq_true h1
    have HR := Lib.hid (show (decide (n ≤ 256) && r) = r by simp [h1])
    rw [HR.out]
    go_enter Tryz.func17, Tryz.ntmps17
    go_wp2_with fail
    refine HE.out.mono ?_
    rintro e w1 ⟨rfl, hb⟩
    have HB := Lib.hid hb
    clear hb
    go_wp2_with fail
    go_ret
    exact ⟨rfl, HB.out⟩
  · have q1 : decide ((n : Int) ≤ 256) = false := decide_eq_false (by omega)
    have q1n : decide (n ≤ 256) = false := decide_eq_false h1
    rw [q1n, Bool.false_and]
    go_enter Tryz.func17, Tryz.ntmps17
    go_wp2_with fail
    go_ret
    exact ⟨rfl, HB0.out⟩
set_option maxHeartbeats 8000000 in
theorem everyD_ok (B : Nat) (w : World) (a : Option Addr) (n cap : Nat) (f : Nat → DF) (fn : FuncId) (first lb : Array Value) (p : Nat → Bool) (hen0 : Enters Tryz.prog fn)
    (hB : B ≤ w.heap.size) (hrow : RowAt B w a n cap 16 (fun i => (f i).cells)) (hch : ∀ i, i < n → DFIn B w (f i)) (hp : PredN w fn first lb n (fun i => (.agg (f i).cells.toArray : Value)) p) :
    Calls Tryz.prog 33 #[.slice a n cap, .func (.func fn) first lb] w fun e w' => e = .returned (.bool (allN p n)) ∧ Below w.heap.size w w' := by
  have hen : ∀ (args : Array Value) (w : World), (callFunc fn args).run Tryz.prog w = .ok (.enter fn args) w := hen0
  have HROW := Lib.hid hrow
  have HCH := Lib.hid hch
  have HP := Lib.hid hp
  have HBB := Lib.hid hB
  have hn : n ≤ 9223372036854775807 := by have := hrow.1; have := hrow.2.1; omega
  have HB0 := Lib.hid (Below.refl w.heap.size w)
  clear hrow hp hB hch
  go_enter Tryz.func33, Tryz.ntmps33
  go_wp2_with fail
  go_loopw [9] (fun iv wr => RelEv w n p iv wr) (fun iv _ => n - (Lib.intOf iv).toNat)
  case atStart => exact ⟨0, Nat.zero_le _, rfl, rfl, HB0.out⟩
  case round =>
    obtain ⟨i, hi, rfl, hall, hbel⟩ := hrel
    have HB := Lib.hid hbel
    have HA := Lib.hid hall
    have hsz := hbel.size
    clear hbel hall
    by_cases hlt : i < n
    · have q1 : decide ((i : Int) < (n : Int)) = true := decide_eq_true (by omega)
      have q1n : decide (i < n) = true := decide_eq_true hlt
      obtain ⟨gx, ox, hix, hgx, hrd⟩ := dRow_read HROW.out hlt
      have HR := Lib.hid (hrd wr (HB.out.block gx (by have := HBB.out; omega)))
      have HC := Lib.hid (show ∀ w', Below w.heap.size w w' → Calls Tryz.prog fn (first ++ #[(.agg (f i).cells.toArray : Value)] ++ lb) w' fun e w'' => e = .returned (.bool (p i)) ∧ Below w'.heap.size w' w'' from HP.out i hlt)
      have H1 := Lib.hid (one_dcells (HCH.out i hlt))
      have HX := Lib.hid (Bx.new wr (f i).cells.toArray 50)
      have HBA := Lib.hid (HB.out.alloc hsz (.cells (f i).cells.toArray 50))
      clear hrd
      have q3 : IntKind.i64.wrap ((i : Int) + 1) = ((i + 1 : Nat) : Int) := wrap_succ hlt hn
      cases hpi : p i with
      | true =>
        have HN := Lib.hid (allN_succ HA.out hpi)
        rw [hpi] at HC
        clear hpi
        go_wp2_with (first | (refine wpList_store_new rfl 50 (.tmp 6) (.tmp 12) rfl 16 _ (f i).cells H1.out.1 (by kernel_rfl) info_D H1.out.2 rfl rfl ?_) | (refine wpList_load_mid rfl 50 (.tmp 11) rfl gx ox rfl (f i).cells _ HR.out Tryz.underlying50 rfl (by rw [info_D, H1.out.1]) ?_) | (refine wpList_load_mid rfl 50 (.tmp 6) rfl wr.heap.size 0 rfl (f i).cells _ HX.out.range Tryz.underlying50 rfl (by rw [info_D, H1.out.1]) ?_))
        refine (HC.out _ HBA.out).mono ?_
        rintro e w1 ⟨rfl, hb⟩
        have HB1 := Lib.hid (HBA.out.trans (hb.mono HBA.out.size))
        clear hb
        go_wp2_with fail
        go_roundw
        case rel => exact ⟨i + 1, hlt, rfl, HN.out, HB1.out⟩
        case measure => simp only [Lib.intOf]; omega
      | false =>
        have HN := Lib.hid (allN_no hlt hpi)
        rw [hpi] at HC
        clear hpi
        go_wp2_with (first | (refine wpList_store_new rfl 50 (.tmp 6) (.tmp 12) rfl 16 _ (f i).cells H1.out.1 (by kernel_rfl) info_D H1.out.2 rfl rfl ?_) | (refine wpList_load_mid rfl 50 (.tmp 11) rfl gx ox rfl (f i).cells _ HR.out Tryz.underlying50 rfl (by rw [info_D, H1.out.1]) ?_) | (refine wpList_load_mid rfl 50 (.tmp 6) rfl wr.heap.size 0 rfl (f i).cells _ HX.out.range Tryz.underlying50 rfl (by rw [info_D, H1.out.1]) ?_))
        refine (HC.out _ HBA.out).mono ?_
        rintro e w1 ⟨rfl, hb⟩
        have HB1 := Lib.hid (HBA.out.trans (hb.mono HBA.out.size))
        clear hb
        go_wp2_with fail
        go_ret
        refine ⟨?_, HB1.out⟩
        rw [HN.out]
        rfl
    · have q1 : decide ((i : Int) < (n : Int)) = false := decide_eq_false (by omega)
      have q1n : decide (i < n) = false := decide_eq_false hlt
      obtain rfl : i = n := by omega
      go_wp2_with fail
      go_ret
      refine ⟨?_, HB.out⟩
      rw [HA.out]
      rfl
set_option maxHeartbeats 4000000 in
theorem fewD_ok (B : Nat) (w : World) (a : Option Addr) (n cap : Nat) (f : Nat → DF) (fn : FuncId) (first lb : Array Value) (p : Nat → Bool) (hen0 : Enters Tryz.prog fn)
    (hB : B ≤ w.heap.size) (hrow : RowAt B w a n cap 16 (fun i => (f i).cells)) (hch : ∀ i, i < n → DFIn B w (f i)) (hp : PredN w fn first lb n (fun i => (.agg (f i).cells.toArray : Value)) p) :
    Calls Tryz.prog 19 #[.slice a n cap, .func (.func fn) first lb] w fun e w' => e = .returned (.bool (fewOk p n)) ∧ Below w.heap.size w w' := by
  have HE := Lib.hid (everyD_ok B w a n cap f fn first lb p hen0 hB hrow hch hp)
  have hn : n ≤ 9223372036854775807 := by have := hrow.1; have := hrow.2.1; omega
  have HB0 := Lib.hid (Below.refl w.heap.size w)
  clear hrow hp hch
  unfold fewOk
  generalize allN p n = r at *
  by_cases h1 : n ≤ 256
  · have q1 : decide ((n : Int) ≤ 256) = true := decide_eq_true (by omega)
    have q1n : decide (n ≤ 256) = true := decide_eq_true h1
    have HR := Lib.hid (show (decide (n ≤ 256) && r) = r by simp [h1])
    rw [HR.out]
    go_enter Tryz.func19, Tryz.ntmps19
    go_wp2_with fail
    refine HE.out.mono ?_
    rintro e w1 ⟨rfl, hb⟩
    have HB := Lib.hid hb
    clear hb
    go_wp2_with fail
    go_ret
    exact ⟨rfl, HB.out⟩
  · have q1 : decide ((n : Int) ≤ 256) = false := decide_eq_false (by omega)
    have q1n : decide (n ≤ 256) = false := decide_eq_false h1
    rw [q1n, Bool.false_and]
    go_enter Tryz.func19, Tryz.ntmps19
    go_wp2_with fail
    go_ret
    exact ⟨rfl, HB0.out⟩
end Go.Proofs.YtgmnojnalkhepaaGreatDoor

/-
  Package shape: 'isImport', 'isDefinition', 'Module'.
-/
namespace Go.Proofs.YtgmnojnalkhepaaGreatDoor
open Go.RowKit
set_option linter.unusedVariables false
set_option linter.unusedSimpArgs false
set_option maxRecDepth 100000

theorem wpList_load_midN {ops : Array Oper} {rest : List Oper} {op : Oper} {a : Act} {w : World} {Q : Exit → Act → World → Prop} (hw : Region.wanted op (yielded ops a.tmps) = true) (ty : TypeId) (x : Operand) (ho : op.op = .load ty x)
    (b o : Nat) (hx : a.eval x = .pointer (some ⟨b, o, none⟩)) (cs : List Value) (d : TypeDesc) (hc : w.rangeAt b o cs)
    (hu : Tryz.prog.underlying ty = some d) (hd : d.isRow = true) (hi : (Tryz.prog.info? ty).map (·.size) = some cs.length)
    (h : wpList Tryz.prog ops Q rest (a.put op.dst (.agg cs.toArray)) w) : wpList Tryz.prog ops Q (op :: rest) a w :=
  wpList_step fun K hK => by
    simp only [hw, if_true]
    exact wp_load_mid ty x ho b o hx cs d hc hu hd hi (hK _ _ h)
theorem enters_isRefN : Enters Tryz.prog 16 := enters_of Tryz.func16 (by kernel_rfl) rfl
theorem enters_isImp : Enters Tryz.prog 18 := enters_of Tryz.func18 (by kernel_rfl) rfl
theorem enters_isDef : Enters Tryz.prog 20 := enters_of Tryz.func20 (by kernel_rfl) rfl
set_option maxHeartbeats 4000000 in
theorem isImport_ok (i : IM) (B : Nat) (w : World) (hg : Gs w) (hi : IMIn B w i) (hB : B ≤ w.heap.size) :
    Calls Tryz.prog 18 #[.agg #[.slice i.nm.a i.nm.n i.nm.cap, .string i.fr]] w fun e w' => e = .returned (.bool i.ok) ∧ Below w.heap.size w w' := by
  obtain ⟨⟨a, n, cap, f⟩, fr⟩ := i
  obtain ⟨⟨hrow, hsz⟩, hfr⟩ := hi
  simp only at hrow hsz hfr ⊢
  have HR := Lib.hid hrow
  have HS := Lib.hid hsz
  have HG := Lib.hid hg
  have HX := Lib.hid (Bx.new w #[.slice a n cap, .string fr] 52)
  have HB0 := Lib.hid ((Below.refl w.heap.size w).alloc (Nat.le_refl _) (.cells #[.slice a n cap, .string fr] 52))
  have HC := Lib.hid (isRef_ok fr (w.alloc (.cells #[.slice a n cap, .string fr] 52)) (hg.below HB0.out) hfr)
  obtain ⟨b1, hb1⟩ : ∃ b, refd fr = b := ⟨_, rfl⟩
  obtain ⟨b2, hb2⟩ : ∃ b, fewOk (fun k => refd (f k)) n = b := ⟨_, rfl⟩
  have HF := Lib.hid (fun (w1 : World) (hb : Below w.heap.size w w1) => hb2 ▸ fewS_ok w.heap.size w1 a n cap f 16 #[] #[] (fun k => refd (f k)) enters_isRefN hb.size ((hrow.below (Below.refl _ _) hB).below hb (Nat.le_refl _)) (fun i hi w' hb' => isRef_ok (f i) w' (HG.out.below (hb.trans (hb'.mono hb.size))) (HS.out i hi)))
  have HOK := Lib.hid (show (IM.mk ⟨a, n, cap, f⟩ fr).ok = (b1 && (decide (0 < n) && b2)) by unfold IM.ok; rw [← hb1, ← hb2])
  rw [HOK.out]
  rw [hb1] at HC
  clear hrow hsz hfr hg hB hb1 hb2
  go_enter Tryz.func18, Tryz.ntmps18
  cases b1 with
  | false =>
    go_wp2_with fail
    refine HC.out.mono ?_
    rintro e w1 ⟨rfl, hb⟩
    have HB1 := Lib.hid (HB0.out.trans (hb.mono HB0.out.size))
    clear hb
    go_wp2_with fail
    go_ret
    exact ⟨rfl, HB1.out⟩
  | true =>
    rcases Nat.eq_zero_or_pos n with hn | hn
    · subst hn
      go_wp2_with fail
      refine HC.out.mono ?_
      rintro e w1 ⟨rfl, hb⟩
      have HB1 := Lib.hid (HB0.out.trans (hb.mono HB0.out.size))
      have c0 := (HX.out.below hb HX.out.lt).cell 0 rfl
      clear hb
      go_wp2_with fail
      go_ret
      exact ⟨rfl, HB1.out⟩
    · have q1 : decide ((0 : Int) < (n : Int)) = true := decide_eq_true (by omega)
      have q1n : decide (0 < n) = true := decide_eq_true hn
      rw [q1n]
      go_wp2_with fail
      refine HC.out.mono ?_
      rintro e w1 ⟨rfl, hb⟩
      have HB1 := Lib.hid (HB0.out.trans (hb.mono HB0.out.size))
      have c0 := (HX.out.below hb HX.out.lt).cell 0 rfl
      clear hb
      go_wp2_with fail
      refine (HF.out _ HB1.out).mono ?_
      rintro e w2 ⟨rfl, hb⟩
      have HB2 := Lib.hid (HB1.out.trans (hb.mono HB1.out.size))
      clear hb
      go_wp2_with fail
      go_ret
      exact ⟨rfl, HB2.out⟩
set_option maxHeartbeats 4000000 in
theorem isDefinition_ok (d : DF) (B : Nat) (w : World) (hg : Gs w) (hd : DFIn B w d) (hB : B ≤ w.heap.size) :
    Calls Tryz.prog 20 #[.agg d.cells.toArray] w fun e w' => e = .returned (.bool d.ok) ∧ Below w.heap.size w w' := by
  have HG := Lib.hid hg
  have H1 := Lib.hid (one_tcells hd.2)
  have HX := Lib.hid (Bx.new w d.cells.toArray 50)
  have HB0 := Lib.hid ((Below.refl w.heap.size w).alloc (Nat.le_refl _) (.cells d.cells.toArray 50))
  have HC := Lib.hid (isRef_ok d.name (w.alloc (.cells d.cells.toArray 50)) (hg.below HB0.out) hd.1)
  have HT := Lib.hid (fun (w1 : World) (hb : Below w.heap.size w w1) => Type_ok d.t w.heap.size w1 (HG.out.below hb) ((hd.2.below (Below.refl _ _) hB).below hb (Nat.le_refl _)) hb.size)
  have c0 := HX.out.cell 0 (v := .string d.name) rfl
  obtain ⟨b1, hb1⟩ : ∃ b, refd d.name = b := ⟨_, rfl⟩
  obtain ⟨b2, hb2⟩ : ∃ b, d.t.okT = b := ⟨_, rfl⟩
  obtain ⟨nm, hnm⟩ : ∃ x, d.name = x := ⟨_, rfl⟩
  have HOK := Lib.hid (show d.ok = (b1 && b2) by unfold DF.ok; rw [hb1, hb2])
  rw [HOK.out]
  rw [hb1, hnm] at HC
  rw [hb2] at HT
  rw [hnm] at c0
  clear hd hg hB hb1 hb2 hnm
  go_enter Tryz.func20, Tryz.ntmps20
  cases b1 with
  | false =>
    go_wp2_with fail
    refine HC.out.mono ?_
    rintro e w1 ⟨rfl, hb⟩
    have HB1 := Lib.hid (HB0.out.trans (hb.mono HB0.out.size))
    clear hb
    go_wp2_with fail
    go_ret
    exact ⟨rfl, HB1.out⟩
  | true =>
    go_wp2_with fail
    refine HC.out.mono ?_
    rintro e w1 ⟨rfl, hb⟩
    have HB1 := Lib.hid (HB0.out.trans (hb.mono HB0.out.size))
    have HR := Lib.hid (range_dt (HX.out.below hb HX.out.lt).range)
    clear hb c0
    go_wp2_with (refine wpList_load_midN (by rfl) 39 (.tmp 7) rfl w.heap.size 1 rfl d.t.cells _ HR.out Tryz.underlying39 rfl (by rw [info_T, H1.out.1]) ?_)
    refine (HT.out _ HB1.out).mono ?_
    rintro e w2 ⟨rfl, hb⟩
    have HB2 := Lib.hid (HB1.out.trans (hb.mono HB1.out.size))
    clear hb
    go_wp2_with fail
    go_ret
    exact ⟨rfl, HB2.out⟩
set_option maxHeartbeats 4000000 in
theorem Module_ok (m : MT) (B : Nat) (w : World) (hg : Gs w) (hm : MIn B w m) (hB : B ≤ w.heap.size) :
    Calls Tryz.prog 6 #[.agg m.cells.toArray] w fun e w' => e = .returned (.bool m.ok) ∧ Below w.heap.size w w' := by
  obtain ⟨name, auto, ia, ni, icap, im, da, nd, dcap, df⟩ := m
  have HG := Lib.hid hg
  have HM := Lib.hid (hm.below (Below.refl _ _) hB)
  have HX := Lib.hid (Bx.new w #[.string name, .bool auto, .slice ia ni icap, .slice da nd dcap] 25)
  have HB0 := Lib.hid ((Below.refl w.heap.size w).alloc (Nat.le_refl _) (.cells #[.string name, .bool auto, .slice ia ni icap, .slice da nd dcap] 25))
  have HC := Lib.hid (isRef_ok name (w.alloc (.cells #[.string name, .bool auto, .slice ia ni icap, .slice da nd dcap] 25)) (hg.below HB0.out) hm.1)
  obtain ⟨b1, hb1⟩ : ∃ b, refd name = b := ⟨_, rfl⟩
  obtain ⟨b2, hb2⟩ : ∃ b, fewOk (fun i => (im i).ok) ni = b := ⟨_, rfl⟩
  obtain ⟨b3, hb3⟩ : ∃ b, fewOk (fun i => (df i).ok) nd = b := ⟨_, rfl⟩
  have HFI := Lib.hid (fun (w1 : World) (hb : Below w.heap.size w w1) => hb2 ▸ fewI_ok w.heap.size w1 ia ni icap im 18 #[] #[] (fun i => (im i).ok) enters_isImp hb.size (HM.out.below hb (Nat.le_refl _)).2.1.1 (HM.out.below hb (Nat.le_refl _)).2.1.2 (fun i hi w' hb' => isImport_ok (im i) w.heap.size w' (HG.out.below (hb.trans (hb'.mono hb.size))) (((HM.out.below hb (Nat.le_refl _)).2.1.2 i hi).below (hb'.mono hb.size) (Nat.le_refl _)) (Nat.le_trans hb.size hb'.size)))
  have HFD := Lib.hid (fun (w1 : World) (hb : Below w.heap.size w w1) => hb3 ▸ fewD_ok w.heap.size w1 da nd dcap df 20 #[] #[] (fun i => (df i).ok) enters_isDef hb.size (HM.out.below hb (Nat.le_refl _)).2.2.1 (HM.out.below hb (Nat.le_refl _)).2.2.2 (fun i hi w' hb' => isDefinition_ok (df i) w.heap.size w' (HG.out.below (hb.trans (hb'.mono hb.size))) (((HM.out.below hb (Nat.le_refl _)).2.2.2 i hi).below (hb'.mono hb.size) (Nat.le_refl _)) (Nat.le_trans hb.size hb'.size)))
  have HOK := Lib.hid (show (MT.mk name auto ia ni icap im da nd dcap df).ok = (b1 && (b2 && b3)) by unfold MT.ok; rw [← hb1, ← hb2, ← hb3])
  rw [HOK.out]
  rw [hb1] at HC
  clear hm hg hB hb1 hb2 hb3
  show Calls _ _ #[.agg #[.string name, .bool auto, .slice ia ni icap, .slice da nd dcap]] w _
  go_enter Tryz.func6, Tryz.ntmps6
  cases b1 with
  | false =>
    go_wp2_with fail
    refine HC.out.mono ?_
    rintro e w1 ⟨rfl, hb⟩
    have HB1 := Lib.hid (HB0.out.trans (hb.mono HB0.out.size))
    clear hb
    go_wp2_with fail
    go_ret
    exact ⟨rfl, HB1.out⟩
  | true =>
    go_wp2_with fail
    refine HC.out.mono ?_
    rintro e w1 ⟨rfl, hb⟩
    have HB1 := Lib.hid (HB0.out.trans (hb.mono HB0.out.size))
    have HX1 := Lib.hid (HX.out.below hb HX.out.lt)
    have c2 := HX1.out.cell 2 rfl
    clear hb HX
    cases b2 with
    | false =>
      go_wp2_with fail
      refine (HFI.out _ HB1.out).mono ?_
      rintro e w2 ⟨rfl, hb⟩
      have HB2 := Lib.hid (HB1.out.trans (hb.mono HB1.out.size))
      clear hb
      go_wp2_with fail
      go_ret
      exact ⟨rfl, HB2.out⟩
    | true =>
      go_wp2_with fail
      refine (HFI.out _ HB1.out).mono ?_
      rintro e w2 ⟨rfl, hb⟩
      have HB2 := Lib.hid (HB1.out.trans (hb.mono HB1.out.size))
      have c3 := (HX1.out.below hb HX1.out.lt).cell 3 rfl
      clear hb c2
      go_wp2_with fail
      refine (HFD.out _ HB2.out).mono ?_
      rintro e w3 ⟨rfl, hb⟩
      have HB3 := Lib.hid (HB2.out.trans (hb.mono HB2.out.size))
      clear hb
      go_wp2_with fail
      go_ret
      exact ⟨rfl, HB3.out⟩
end Go.Proofs.YtgmnojnalkhepaaGreatDoor
