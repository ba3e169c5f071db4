/-
  Package tags: the map of places, as it is filled from the last entry on; slices.Backward.
-/
import Derived.Test.YtecedbjkebdeaaaTgW2
import Derived.Test.YtecedbjkebdeaaaTgR
import Derived.Test.YtecedbjkebdeaaaShE1
import Derived.Maps.OwnOps
namespace Go.Proofs.Ytecedbjkebdeaaa
open Go.RowKit Go.Maps Go.WideElems Go.ChangeMaps Go.MapKept Go.Shelf
set_option linter.unusedVariables false
set_option linter.unusedSimpArgs false
set_option maxRecDepth 100000

attribute [local go_sem] Oper.semAt_some

theorem keyS : Keyed Try.prog 9 := string_keyed Try.underlying9
theorem keyOfS {s : ByteArray} (h : s.size ≤ 9223372036854775807) : keyOf Try.prog 9 (.string s) = some (.string s.data.toList) := Go.WideMaps.keyOf_string_mk Try.underlying9 (by unfold maxLen; exact h)
theorem full_bytes (e : ET) : (e.mod ++ (⟨#[46]⟩ : ByteArray) ++ e.name).data.toList = e.full := by
  unfold ET.full
  simp [ByteArray.data_append]
theorem EL.fst_min {l : EL} {s : ByteArray} : ∀ {k p : Nat}, l.fst s k = some p → ∀ q, q < p → (l.f q).full ≠ s.data.toList
  | 0, p, h => by cases h
  | k + 1, p, h => by
    unfold EL.fst at h
    split at h
    · next r hr =>
      cases h
      exact EL.fst_min hr
    · next hn =>
      split at h
      · cases h
        exact EL.fst_none.1 hn
      · cases h
/-- the map of places, filled from entry r on -/
def PlPart (w : World) (k : Nat) (l : EL) (r : Nat) : Prop :=
  ∃ D : DataW Unit, w.ownsMap Try.prog 9 (plainElem Try.prog 3) k (l.n - r) D ∧ ∀ s : List UInt8,
    (∀ p, r ≤ p → p < l.n → (l.f p).full = s → (∀ q, r ≤ q → q < p → (l.f q).full ≠ s) → has D (.string s) = true ∧ ∀ z, D.atKey (.string s) z = .lit (.int .i64 (p : Nat))) ∧
    ((∀ p, r ≤ p → p < l.n → (l.f p).full ≠ s) → has D (.string s) = false)
theorem PlPart.block {w w' : World} {k : Nat} {l : EL} {r : Nat} (h : PlPart w k l r) (hb : w'.heap[k]? = w.heap[k]?) : PlPart w' k l r := by
  obtain ⟨D, ⟨es, clock, h1, h2⟩, h3⟩ := h
  exact ⟨D, ⟨es, clock, hb.trans h1, h2⟩, h3⟩
theorem PlPart.made (w : World) (l : EL) : PlPart (w.alloc (.map #[] 0)) w.heap.size l l.n :=
  ⟨.map [], (World.ownsMap_made w _ _ _).mono (Nat.zero_le _), fun s => ⟨fun p h1 h2 => by omega, fun _ => rfl⟩⟩
theorem PlPart.done {w : World} {k : Nat} {l : EL} (h : PlPart w k l 0) : PlAt w k l := by
  obtain ⟨D, h1, h2⟩ := h
  refine ⟨D, h1, fun s hs => ?_⟩
  cases hf : l.fnd s with
  | none =>
    have := EL.fst_none.1 hf
    exact ⟨(h2 s.data.toList).2 (fun p _ hp => this p hp), fun p hp => by cases hp⟩
  | some p =>
    have hp := EL.fst_lt hf
    have hmin : ∀ q, 0 ≤ q → q < p → (l.f q).full ≠ s.data.toList := fun q _ hq => EL.fst_min hf q hq
    have h3 := (h2 s.data.toList).1 p (Nat.zero_le _) hp.1 hp.2 hmin
    exact ⟨h3.1, fun q hq => by cases hq; exact h3.2 _⟩
theorem PlPart.put {w : World} {k : Nat} {l : EL} {r : Nat} (h : PlPart w k l (r + 1)) (hr : r < l.n) (hn : l.n ≤ 1000000) (hs : (l.f r).mod.size + (l.f r).name.size + 1 ≤ 9223372036854775807) :
    ∃ w', (Instr.mapUpdate 56 (.map (some k)) (.string ((l.f r).mod ++ (⟨#[46]⟩ : ByteArray) ++ (l.f r).name)) (.int .i64 (r : Nat))).run Try.prog w = .ok () w' ∧ w.grownBy w' (some k) ∧ PlPart w' k l r := by
  obtain ⟨D, h1, h2⟩ := h
  have hsz : ((l.f r).mod ++ (⟨#[46]⟩ : ByteArray) ++ (l.f r).name).size ≤ 9223372036854775807 := by
    rw [ByteArray.size_append, ByteArray.size_append]
    show (l.f r).mod.size + 1 + (l.f r).name.size ≤ _
    omega
  have hkey := keyOfS hsz
  rw [full_bytes] at hkey
  have hwf : (Lit.int .i64 ((r : Nat) : Int)).wf = true := wfI (by unfold I64; omega)
  obtain ⟨w', hrun, ho, ht⟩ := World.ownsMap.store h1 keyS Try.underlying56 (by unfold maxLen; omega) hkey (plainElem_int (H := Unit) Try.underlying3 hwf)
  refine ⟨w', hrun, ht.grown, _, ho.mono (by omega), fun s => ?_⟩
  have hlit := keyS.key hkey
  have him := h1.isMap
  by_cases e : s = (l.f r).full
  · subst e
    refine ⟨fun p hp1 hp2 hp3 hp4 => ?_, fun hno => absurd rfl (hno r (Nat.le_refl _) hr)⟩
    obtain rfl : p = r := by
      rcases Nat.lt_or_ge r p with h3 | h3
      · exact absurd rfl (hp4 r (Nat.le_refl _) h3)
      · omega
    exact ⟨has_put_same him hlit _, fun z => atKey_put_same him hlit _ _⟩
  · have hne : (Lit.string s : Lit) ≠ .string (l.f r).full := fun h => e (by injection h)
    refine ⟨fun p hp1 hp2 hp3 hp4 => ?_, fun hno => ?_⟩
    · have hpr : p ≠ r := fun e2 => e (by rw [← hp3, e2])
      have h3 := (h2 s).1 p (by omega) hp2 hp3 (fun q hq1 hq2 => hp4 q (by omega) hq2)
      refine ⟨by rw [has_put_other hne]; exact h3.1, fun z => ?_⟩
      rw [atKey_put_other hne]
      exact h3.2 z
    · rw [has_put_other hne]
      exact (h2 s).2 (fun p hp1 hp2 => hno p (by omega) hp2)
theorem info_E : (Try.prog.info? 46).map (·.size) = some 18 := by kernel_rfl
theorem one_ecells {B : Nat} {W : World} {e : ET} (h : EIn B W e) : e.cells.length = 18 ∧ ∀ v ∈ e.cells, v.oneCell' = true := by
  have h1 := one_tcells h.2.2
  unfold ET.cells
  refine ⟨by rw [List.length_append, h1.1]; rfl, fun v hv => ?_⟩
  rcases List.mem_append.1 hv with h2 | h2
  · simp only [List.mem_cons, List.not_mem_nil, or_false] at h2
    rcases h2 with rfl | rfl | rfl <;> rfl
  · exact h1.2 v h2
theorem eRow_read {B : Nat} {W : World} {l : EL} (h : ELIn B W l) {i : Nat} (hi : i < l.n) :
    ∃ gx ox : Nat, (∀ w, (Instr.indexAt 22 (.slice l.a l.n l.cap) (.int .i64 (i : Nat))).run Try.prog w = .ok (.pointer (some ⟨gx, ox, none⟩)) w) ∧ gx < B ∧ ∀ w : World, w.heap[gx]? = W.heap[gx]? → w.rangeAt gx ox (l.f i).cells := by
  obtain ⟨g, o, ha, hg, hc⟩ := h.1.2.2.2 (by omega)
  refine ⟨g, o + i * 18, fun w => ?_, hg, fun w hw j v hv => ?_⟩
  · rw [ha, run_indexAt_slice (h := by rw [show Try.prog.elem 22 = 46 from by kernel_rfl]; exact Try.underlying22), if_pos (by omega), show Try.prog.elem 22 = 46 from by kernel_rfl, Try.sizeOf46]
    simp [Result.andThen, Addr.add_mid]
  · exact (World.cell?_of_block (w := W) (a := ⟨g, o + i * 18 + j, none⟩) hw).trans (hc i hi j v hv)
def RelBk (l : EL) (J : Nat → World → Prop) (K : World → Prop) (iv : Value) (W : World) : Prop := (iv = .int .i64 (-1) ∧ J 0 W ∧ K W) ∨ ∃ q : Nat, q < l.n ∧ iv = .int .i64 (q : Nat) ∧ J (q + 1) W ∧ K W
set_option maxHeartbeats 8000000 in
theorem back1_ok (l0 g : Nat) (B : Nat) (w : World) (l : EL) (hB : B ≤ w.heap.size) (hl : ELIn B w l) (hn : l.n ≤ 1000000) (J : Nat → World → Prop) (K : World → Prop)
    (hJb : ∀ k W, J k W → Below B w W ∧ Bx W g #[l.v] 22)
    (n : Nat) (hY : ∀ r W, r < l.n → J (r + 1) W → K W → YieldAt Fence.wide (n - 1) Try.prog l0 #[.int .i64 (r : Nat), .agg (l.f r).cells.toArray] W fun e W' => e = .returned (.bool true) ∧ J r W' ∧ K W')
    (W : World) (h0 : J l.n W) (hKW : K W) :
    CallsIn Fence.wide n Try.prog 63 #[.func (.yield l0) #[] #[], .pointer (some ⟨g, 0, none⟩)] W fun e W' => (∃ v, e = .returned v) ∧ J 0 W' ∧ K W' := by
  have HJB := Lib.hid hJb
  have HY := Lib.hid hY
  have HL := Lib.hid hl
  have c0 := (hJb _ W h0).2.cell 0 (v := .slice l.a l.n l.cap) rfl
  have H0 := Lib.hid h0
  have HK0 := Lib.hid hKW
  have HFIN := Lib.hid (show l.n = 0 → J 0 W from fun e => by rw [e] at h0; exact h0)
  clear hJb hY hl h0 hKW
  have q0 : IntKind.i64.wrap ((l.n : Int) - 1) = (l.n : Int) - 1 := wrap_ok (by unfold I64; omega)
  refine callsIn_of_wp Try.func63 rfl trivial ?_ rfl
  simp only [Try.ntmps63, List.size_toArray, List.length_cons, List.length_nil, Nat.reduceAdd, Nat.reduceSub, Array.replicate_succ, Array.replicate_zero, List.push_toArray, List.append_toArray, List.nil_append, List.cons_append]
  gi_wp2_with fail
  clear c0 q0
  gi_loopw [3] (fun iv wr => RelBk l J K iv wr) (fun iv _ => (Lib.intOf iv + 1).toNat)
  case atStart =>
    rcases Nat.eq_zero_or_pos l.n with h | h
    · exact .inl ⟨by rw [h]; rfl, HFIN.out h, HK0.out⟩
    · refine .inr ⟨l.n - 1, by omega, by congr 1; omega, ?_, HK0.out⟩
      rw [show l.n - 1 + 1 = l.n by omega]
      exact H0.out
  case round =>
    rcases hrel with ⟨rfl, hj, hk⟩ | ⟨q, hq, rfl, hj, hk⟩
    · have HJ := Lib.hid hj
      have HK := Lib.hid hk
      clear hj hk
      gi_wp2_with fail
      refine bodyPost_end (results_none rfl _ _ _) rfl ?_
      exact ⟨⟨_, rfl⟩, HJ.out, HK.out⟩
    · have q1 : decide ((0 : Int) ≤ (q : Int)) = true := decide_eq_true (by omega)
      obtain ⟨gx, ox, hix, hgx, hrd⟩ := eRow_read HL.out hq
      have hjb := HJB.out _ _ hj
      have HR := Lib.hid (hrd wr (hjb.1.block gx hgx))
      have H1 := Lib.hid (one_ecells (HL.out.2 q hq))
      have c0 := hjb.2.cell 0 (v := .slice l.a l.n l.cap) rfl
      have hq1 : q ≤ 1000000 := by omega
      obtain ⟨fn, tmps, assign, body, hy, hR⟩ := HY.out q wr hq hj hk
      have HRR := Lib.hid hR
      clear hR hj hk hrd hjb
      gi_wp2_with (refine wpListIn_load_mid rfl 46 (.tmp 15) rfl gx ox rfl (l.f q).cells _ HR.out Try.underlying46 rfl (by rw [info_E, H1.out.1]) ?_)
      refine ⟨fun h => (by cases h), ?_⟩
      refine HRR.out.mono ?_
      rintro e w3 ⟨rfl, h1, h2⟩
      have HJ3 := Lib.hid h1
      have HK3 := Lib.hid h2
      clear h1 h2 hy HRR HR
      have q3 : IntKind.i64.wrap ((q : Int) - 1) = (q : Int) - 1 := wrap_ok (by unfold I64; omega)
      gi_wp2_with fail
      go_roundw
      case rel =>
        rcases Nat.eq_zero_or_pos q with h | h
        · subst h
          exact .inl ⟨rfl, HJ3.out, HK3.out⟩
        · refine .inr ⟨q - 1, by omega, by congr 1; omega, ?_, HK3.out⟩
          rw [show q - 1 + 1 = q by omega]
          exact HJ3.out
      case measure => simp only [Lib.intOf]; omega
end Go.Proofs.Ytecedbjkebdeaaa
