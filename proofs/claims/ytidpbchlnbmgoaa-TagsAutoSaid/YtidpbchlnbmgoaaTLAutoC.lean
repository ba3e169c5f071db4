/-
  Proved: the statement TagsAuto (where tags are automatic all lies apart, and parts stand as they are written), for every input; no further condition. Ahead of it what its walk rests on.
-/
import Derived.Test.YtidpbchlnbmgoaaTgFw
import Derived.Test.YtidpbchlnbmgoaaTgH
import Derived.BigQuiet
import Derived.Test.YtidpbchlnbmgoaaShO
import Derived.Test.YtidpbchlnbmgoaaTgI
import Derived.Test.YtidpbchlnbmgoaaRows
import Derived.OpenShut
import Derived.Test.YtidpbchlnbmgoaaTgAw
import Derived.ProofKit
import Derived.ShutString
import Derived.ChangeOld
/-
  Package tags' laws: the count of entries; arguments that are entries, opened.
-/
namespace Go.Proofs.Ytidpbchlnbmgoaa
open Go.RowKit Go.Maps Go.WideElems Go.ChangeMaps Go.MapKept Go.Shelf
set_option linter.unusedVariables false
set_option linter.unusedSimpArgs false
set_option maxRecDepth 100000

/-- what the law's count lets by -/
def FewE (l : EL) : Prop := l.n ≤ 12 ∧ ∀ i, i < l.n → 0 ≤ (l.f i).t.few 60 ∧ (l.f i).mod.size + (l.f i).name.size ≤ 1000
set_option maxHeartbeats 8000000 in
theorem few13_ok (w : World) (l : EL) (hl : ELIn w.heap.size w l) :
    Calls Try.prog 8 #[.slice l.a l.n l.cap, .int .i64 60] w fun e w' => (∃ b, e = .returned (.bool b) ∧ (b = true → FewE l)) ∧ Below w.heap.size w w' := by
  have HL := Lib.hid hl
  obtain ⟨N, hN⟩ : ∃ N, l.n = N := ⟨_, rfl⟩
  have HN := Lib.hid hN
  rw [hN]
  clear hl hN
  by_cases h12 : 12 < N
  · have q0 : decide ((12 : Int) < (N : Int)) = true := decide_eq_true (by omega)
    have q0n : decide (12 < N) = true := decide_eq_true h12
    go_enter Try.func8, Try.ntmps8
    go_wp2_with fail
    go_ret
    exact ⟨⟨false, rfl, fun e => (by cases e)⟩, Below.refl _ _⟩
  have q0 : decide ((12 : Int) < (N : Int)) = false := decide_eq_false (by omega)
  have q0n : decide (12 < N) = false := decide_eq_false h12
  go_enter Try.func8, Try.ntmps8
  go_wp2_with fail
  go_loopw [5] (fun iv wr => ∃ i : Nat, i ≤ N ∧ iv = .int .i64 (i : Nat) ∧ Below w.heap.size w wr ∧ ∀ j, j < i → 0 ≤ (l.f j).t.few 60 ∧ (l.f j).mod.size + (l.f j).name.size ≤ 1000) (fun iv _ => N - (Lib.intOf iv).toNat)
  case atStart => exact ⟨0, Nat.zero_le _, rfl, Below.refl _ _, fun j hj => absurd hj (Nat.not_lt_zero j)⟩
  case round =>
  obtain ⟨i, hi, rfl, hb, hj⟩ := hrel
  have HB := Lib.hid hb
  have HJ := Lib.hid hj
  have hsz := hb.size
  by_cases hlt : i < N
  · have q4 : decide ((i : Int) < (N : Int)) = true := decide_eq_true (by omega)
    have q4n : decide (i < N) = true := decide_eq_true hlt
    have q5 : IntKind.i64.wrap ((i : Int) + 1) = ((i + 1 : Nat) : Int) := wrap_succ hlt (by omega)
    have hil : i < l.n := by rw [HN.out]; exact hlt
    obtain ⟨gx, ox, hix, hgx, hrd⟩ := eRow_read HL.out hil
    rw [HN.out] at hix
    have hein := HL.out.2 i hil
    have hr := hrd wr (hb.block gx hgx)
    have c0 : wr.cell? ⟨gx, ox, none⟩ = some (.string (l.f i).mod) := hr 0 _ rfl
    have c1 : wr.cell? ⟨gx, ox + 1, none⟩ = some (.string (l.f i).name) := hr 1 _ rfl
    have HRG := Lib.hid (tq_range (show wr.rangeAt gx (ox + 3) (l.f i).t.cells from fun j v hv => by
      have := hr (3 + j) v (by unfold ET.cells; rw [List.getElem?_append_right (by simp)]; simpa using hv)
      rw [← Nat.add_assoc] at this
      exact this))
    have H1T := Lib.hid (one_tcells hein.2.2)
    have HC := Lib.hid (fun (d : Nat) (os : Array Obj) => Calls.regrown_of (Few_ok (l.f i).t w.heap.size 60 (Go.Sort.grow (redrawn wr d) os) (hein.2.2.below (hb.trans ((below_regrown wr d os).mono hsz)) (Nat.le_refl _)) (Nat.le_trans hsz (below_regrown wr d os).size) (by omega) (by omega)))
    obtain ⟨t, ht⟩ : ∃ t, (l.f i).t = t := ⟨_, rfl⟩
    obtain ⟨A, hA⟩ : ∃ A, (l.f i).mod = A := ⟨_, rfl⟩
    obtain ⟨B, hB⟩ : ∃ B, (l.f i).name = B := ⟨_, rfl⟩
    have hAs := hein.1
    have hBs := hein.2.1
    have HTAB := Lib.hid (And.intro ht (And.intro hA hB))
    rw [ht] at HRG H1T HC
    rw [hA] at c0 hAs
    rw [hB] at c1 hBs
    obtain ⟨fb, hfb⟩ : ∃ fb, decide (0 ≤ t.few 60) = fb := ⟨_, rfl⟩
    have HFB := Lib.hid hfb
    rw [hfb] at HC
    have q6 : IntKind.i64.wrap ((A.size : Int) + (B.size : Int)) = ((A.size + B.size : Nat) : Int) := by
      have := wrap_ok (x := (A.size : Int) + (B.size : Int)) (by unfold I64; omega)
      rw [this]
      omega
    obtain ⟨zb, hzb⟩ : ∃ zb, decide (1000 < A.size + B.size) = zb := ⟨_, rfl⟩
    have q7 : decide ((1000 : Int) < ((A.size + B.size : Nat) : Int)) = zb := by rw [← hzb]; exact decide_eq_decide.2 (by omega)
    have q8 : decide ((1000 : Int) < (A.size : Int) + (B.size : Int)) = zb := by rw [← hzb]; exact decide_eq_decide.2 (by omega)
    have HZB := Lib.hid hzb
    have k0 := fun d os => cell_regrown c0 d os
    have k1 := fun d os => cell_regrown c1 d os
    clear hb hj hr hrd hein ht hA hB hfb hzb hil hgx c0 c1
    cases fb with
    | false =>
      go_wp2_with fail
      refine wp_region_quiet_below (by kernel_rfl) (by kernel_rfl) ?_
      iterate 4 go_big_quiet_step (fail)
      (go_big_quiet_want; refine tq_load_mid 35 (.tmp 18) rfl gx (ox + 3) rfl t.cells _ HRG.out Try.underlying35 rfl (by rw [info_T, H1T.out.1]) ?_; simp only [tq_put, List.set_cons_succ, List.set_cons_zero]; go_big_quiet_on)
      go_big_quiet_step (fail)
      go_big_quiet_step (exact HC.out _ _)
      iterate 17 go_big_quiet_step (fail)
      refine wpQuiet_nil ?_
      intro _ hw'
      obtain ⟨⟨dq, osq⟩, hw''⟩ := hw'
      subst hw''
      have hb2 := below_regrown wr dq osq
      clear k0 k1 HRG HC
      generalize Go.Sort.grow (redrawn wr dq) osq = W2 at *
      have HB4 := Lib.hid (HB.out.trans (hb2.mono hsz))
      go_wp2_with fail
      go_ret
      exact ⟨⟨false, rfl, fun e => (by cases e)⟩, HB4.out⟩
    | true =>
    cases zb with
    | true =>
      go_wp2_with fail
      refine wp_region_quiet_below (by kernel_rfl) (by kernel_rfl) ?_
      iterate 4 go_big_quiet_step (fail)
      (go_big_quiet_want; refine tq_load_mid 35 (.tmp 18) rfl gx (ox + 3) rfl t.cells _ HRG.out Try.underlying35 rfl (by rw [info_T, H1T.out.1]) ?_; simp only [tq_put, List.set_cons_succ, List.set_cons_zero]; go_big_quiet_on)
      go_big_quiet_step (fail)
      go_big_quiet_step (exact HC.out _ _)
      iterate 17 go_big_quiet_step (fail)
      refine wpQuiet_nil ?_
      intro _ hw'
      obtain ⟨⟨dq, osq⟩, hw''⟩ := hw'
      subst hw''
      have hb2 := below_regrown wr dq osq
      clear k0 k1 HRG HC
      generalize Go.Sort.grow (redrawn wr dq) osq = W2 at *
      have HB4 := Lib.hid (HB.out.trans (hb2.mono hsz))
      go_wp2_with fail
      go_ret
      exact ⟨⟨false, rfl, fun e => (by cases e)⟩, HB4.out⟩
    | false =>
      have HJ2 := Lib.hid (show ∀ j, j < i + 1 → 0 ≤ (l.f j).t.few 60 ∧ (l.f j).mod.size + (l.f j).name.size ≤ 1000 from fun j hj => by
        rcases Nat.lt_or_ge j i with h | h
        · exact HJ.out j h
        · obtain rfl : j = i := by omega
          rw [HTAB.out.1, HTAB.out.2.1, HTAB.out.2.2]
          have h1 := of_decide_eq_true HFB.out
          have h2 := of_decide_eq_false HZB.out
          exact ⟨h1, by omega⟩)
      go_wp2_with fail
      refine wp_region_quiet_below (by kernel_rfl) (by kernel_rfl) ?_
      iterate 4 go_big_quiet_step (fail)
      (go_big_quiet_want; refine tq_load_mid 35 (.tmp 18) rfl gx (ox + 3) rfl t.cells _ HRG.out Try.underlying35 rfl (by rw [info_T, H1T.out.1]) ?_; simp only [tq_put, List.set_cons_succ, List.set_cons_zero]; go_big_quiet_on)
      go_big_quiet_step (fail)
      go_big_quiet_step (exact HC.out _ _)
      iterate 17 go_big_quiet_step (fail)
      refine wpQuiet_nil ?_
      intro _ hw'
      obtain ⟨⟨dq, osq⟩, hw''⟩ := hw'
      subst hw''
      have hb2 := below_regrown wr dq osq
      clear k0 k1 HRG HC
      generalize Go.Sort.grow (redrawn wr dq) osq = W2 at *
      have HB4 := Lib.hid (HB.out.trans (hb2.mono hsz))
      go_wp2_with fail
      go_roundw
      case rel => exact ⟨i + 1, hlt, rfl, HB4.out, HJ2.out⟩
      case measure => simp only [Lib.intOf]; omega
  · have q4 : decide ((i : Int) < (N : Int)) = false := decide_eq_false (by omega)
    have q4n : decide (i < N) = false := decide_eq_false hlt
    have HE := Lib.hid (show i = l.n by have := HN.out; omega)
    go_wp2_with fail
    go_ret
    exact ⟨⟨true, rfl, fun _ => ⟨by rw [HN.out]; omega, fun j hj' => HJ.out j (by rw [HE.out]; exact hj')⟩⟩, HB.out⟩

/-! entries, opened -/
theorem kEnt : Try.prog.cellsOf 38 = 18 := by kernel_rfl
theorem open_ent {H : Type} {enc : TypeId × Value → H} {W : World} {fuel : Nat} {cs : List Value} {x : DataW H × List MemPlace} (h : DataW.trod enc Try.prog W 0 (fun _ => true) true fuel 38 cs = some x) (hl : Light 38 x.1) :
    ∃ e : ET, cs = e.cells ∧ EIn W.heap.size W e := by
  obtain ⟨n, rfl, hlen, hf⟩ := open_struct Try.underlying38 h hl
  rw [kEnt] at hlen
  match cs, hlen with
  | [c0, c1, c2, c3, c4, c5, c6, c7, c8, c9, c10, c11, c12, c13, c14, c15, c16, c17], _ =>
    obtain ⟨y0, f0, l0⟩ := hf 0 _ rfl 9 0 rfl rfl
    obtain ⟨y1, f1, l1⟩ := hf 1 _ rfl 9 1 rfl rfl
    obtain ⟨y2, f2, _⟩ := hf 2 _ rfl 4 2 rfl rfl
    obtain ⟨y3, f3, l3⟩ := hf 3 _ rfl 35 3 rfl rfl
    simp only [kStr, kTyp, kBool, List.drop_zero, List.drop_succ_cons, List.take_succ_cons, List.take_zero] at f0 f1 f2 f3
    obtain ⟨a0, e0, w0⟩ := open_str Try.underlying9 f0 l0
    obtain ⟨a1, e1, w1⟩ := open_str Try.underlying9 f1 l1
    obtain ⟨a2, e2⟩ := open_b f2
    obtain ⟨t, e3, w3⟩ := open_type n f3 l3
    simp only [List.cons.injEq, and_true] at e0 e1 e2
    subst e0; subst e1; subst e2
    refine ⟨⟨a0, a1, a2, t⟩, ?_, w0, w1, w3⟩
    unfold ET.cells
    rw [← e3]
    rfl
theorem open_es {H : Type} {enc : TypeId × Value → H} {W : World} {a : Option Addr} {len cap : Nat} {d : DataW H} {p : List MemPlace}
    (h : DataW.Trod enc Try.prog W 0 (fun _ => true) true 22 (.slice a len cap) d p) (hl : Light 22 d) : ∃ f : Nat → ET, ELIn W.heap.size W ⟨a, len, cap, f⟩ := by
  obtain ⟨fuel, hf⟩ := h
  obtain ⟨a', n, cap', f, hcs, h1, h2⟩ := open_row (W := W) (⟨ByteArray.empty, ByteArray.empty, false, .nil⟩ : ET) ET.cells (fun e => EIn W.heap.size W e) 18 Try.underlying22 kEnt (by decide) (by decide +kernel) hf hl (fun n cs' x' _ h' hl' => open_ent h' hl')
  simp [Value.cells] at hcs
  obtain ⟨rfl, rfl, rfl⟩ := hcs
  exact ⟨f, ⟨Nat.le_refl _, Nat.le_trans h1.1 h1.2.1, fun e => ⟨(h1.2.2.1 e).1, (h1.2.2.1 e).1⟩, h1.2.2.2⟩, h2⟩
end Go.Proofs.Ytidpbchlnbmgoaa

/-
  Package tags' laws: entries in a row of one's own, all of them automatic.
-/
namespace Go.Proofs.Ytidpbchlnbmgoaa
open Go.RowKit Go.Maps Go.WideElems Go.ChangeMaps Go.MapKept Go.Shelf
set_option linter.unusedVariables false
set_option linter.unusedSimpArgs false
set_option maxRecDepth 100000

def autoE (e : ET) : ET := ⟨e.mod, e.name, true, e.t⟩
def zE (t : TT) : ET := ⟨⟨#[90]⟩, ⟨#[90]⟩, true, t⟩
def flatE (f : Nat → ET) : Nat → List Value
  | 0 => []
  | n + 1 => flatE f n ++ (f n).cells
theorem flatE_len {f : Nat → ET} : ∀ {n : Nat}, (∀ i, i < n → (f i).cells.length = 18) → (flatE f n).length = n * 18
  | 0, _ => rfl
  | n + 1, h => by
    have h1 := flatE_len (n := n) (fun i hi => h i (by omega))
    have h2 := h n (by omega)
    show (flatE f n ++ (f n).cells).length = _
    rw [List.length_append, h1, h2]
    omega
theorem flatE_get {f : Nat → ET} : ∀ {n : Nat}, (∀ i, i < n → (f i).cells.length = 18) → ∀ {i j : Nat} {u : Value}, i < n → (f i).cells[j]? = some u → (flatE f n)[i * 18 + j]? = some u
  | 0, _, i, j, u, hi, _ => absurd hi (Nat.not_lt_zero i)
  | n + 1, h, i, j, u, hi, hu => by
    have h1 := flatE_len (n := n) (fun i hi => h i (by omega))
    have hj : j < 18 := by have := (List.getElem?_eq_some_iff.1 hu).1; rw [h i hi] at this; exact this
    show (flatE f n ++ (f n).cells)[i * 18 + j]? = some u
    rcases Nat.lt_or_ge i n with h2 | h2
    · rw [List.getElem?_append_left (by omega)]
      exact flatE_get (fun i hi => h i (by omega)) h2 hu
    · obtain rfl : i = n := by omega
      rw [List.getElem?_append_right (by omega), h1, Nat.add_sub_cancel_left]
      exact hu
theorem flatE_congr {f f' : Nat → ET} : ∀ {n : Nat}, (∀ i, i < n → f i = f' i) → flatE f n = flatE f' n
  | 0, _ => rfl
  | n + 1, h => by
    show flatE f n ++ (f n).cells = flatE f' n ++ (f' n).cells
    rw [flatE_congr (n := n) (fun i hi => h i (by omega)), h n (by omega)]
theorem own_ents {B : Nat} {W : World} {v : Value} {n : Nat} {f : Nat → ET} (h : W.ownsRow B 38 18 v n (flatE f n)) (hin : ∀ i, i < n → EIn W.heap.size W (f i)) (hn : n ≤ 1000) (h0 : 0 < n) :
    ∃ g cap, v = .slice (some ⟨g, 0, none⟩) n cap ∧ ELIn W.heap.size W ⟨some ⟨g, 0, none⟩, n, cap, f⟩ := by
  rcases h.2 with hn' | ⟨g, cap, cur, rfl, hbg, hg, h1, h2, h3, h4⟩
  · omega
  · have hl : ∀ i, i < n → (f i).cells.length = 18 := fun i hi => (one_ecells (hin i hi)).1
    refine ⟨g, cap, rfl, ⟨Nat.le_refl _, by show n ≤ _; omega, fun e => (by cases e), fun _ => ⟨g, 0, rfl, (Array.getElem?_eq_some_iff.1 hg).1, fun i hi j u hu => ?_⟩⟩, hin⟩
    have hi : i < n := hi
    have hj : j < 18 := by have := (List.getElem?_eq_some_iff.1 hu).1; rw [hl i hi] at this; exact this
    have h5 := flatE_get hl hi hu
    rw [← h4, List.getElem?_take_of_lt (by omega), Array.getElem?_toList] at h5
    rw [Nat.zero_add]
    exact (cell_of_row W g (i * 18 + j) cur _ _ hg).trans h5
/-- the law's entries: those given, and one more -/
def auF (l : EL) (t : TT) (i : Nat) : ET := if i < l.n then autoE (l.f i) else zE t
theorem auF_flat (l : EL) (t : TT) : flatE (auF l t) (l.n + 1) = flatE (fun i => autoE (l.f i)) l.n ++ (zE t).cells := by
  show flatE (auF l t) l.n ++ (auF l t l.n).cells = _
  have e : flatE (auF l t) l.n = flatE (fun i => autoE (l.f i)) l.n := flatE_congr fun i hi => if_pos hi
  rw [e]
  unfold auF
  rw [if_neg (by omega)]
theorem auF_in {B B' : Nat} {W : World} {l : EL} {t : TT} (h : ∀ i, i < l.n → EIn B W (l.f i)) (ht : TIn B W t) : ∀ i, i < l.n + 1 → EIn B W (auF l t i) := fun i hi => by
  unfold auF
  split
  · exact h i (by assumption)
  · exact ⟨by show (1 : Nat) ≤ _; omega, by show (1 : Nat) ≤ _; omega, ht⟩
theorem auF_ok (l : EL) (t : TT) (a : Option Addr) (cap : Nat) : OkAll ⟨a, l.n + 1, cap, auF l t⟩ := fun p hp ha => by
  have e : (auF l t p).auto = true := by
    unfold auF
    split <;> rfl
  have ha : (auF l t p).auto = false := ha
  rw [e] at ha
  cases ha
theorem auF_sz {B : Nat} {W : World} {l : EL} {t : TT} (h : ∀ i, i < l.n → EIn B W (l.f i)) (hf : FewE l) (ht : t.sz ≤ 1000) : ∀ i, i < l.n + 1 → (auF l t i).t.sz ≤ 10000 ∧ (auF l t i).t.wid ≤ 10000 ∧ (auF l t i).mod.size + (auF l t i).name.size ≤ 1000 := fun i hi => by
  unfold auF
  split
  · rename_i h1
    have h2 := few_small (h i h1).2.2 (hf.2 i h1).1 (by omega)
    have h3 := (hf.2 i h1).2
    exact ⟨by show (l.f i).t.sz ≤ _; omega, by show (l.f i).t.wid ≤ _; omega, h3⟩
  · have := t.wid_le
    exact ⟨by show t.sz ≤ _; omega, by show t.wid ≤ _; omega, by show (2 : Nat) ≤ _; omega⟩
theorem auF_eok {B : Nat} {W : World} {l : EL} {t : TT} {g cap : Nat} (h : ELIn B W ⟨some ⟨g, 0, none⟩, l.n + 1, cap, auF l t⟩) (hs : ∀ i, i < l.n + 1 → (auF l t i).t.sz ≤ 10000 ∧ (auF l t i).t.wid ≤ 10000 ∧ (auF l t i).mod.size + (auF l t i).name.size ≤ 1000) (hn : l.n ≤ 12) : EOk B W ⟨some ⟨g, 0, none⟩, l.n + 1, cap, auF l t⟩ :=
  ⟨h, by show l.n + 1 ≤ _; omega, fun i hi => by have h1 := (hs i hi).2.2; show (auF l t i).mod.size + (auF l t i).name.size + 1 ≤ _; omega⟩
theorem cells_new (w : World) (cs : List Value) (t : TypeId) : ∀ j u, cs[j]? = some u → (w.alloc (.cells cs.toArray t)).cell? ((⟨w.heap.size, 0, none⟩ : Addr).add j) = some u := fun j u hj => by
  rw [Addr.add_mid, Nat.zero_add]
  exact (Bx.new w cs.toArray t).cell j (by rw [List.getElem?_toArray]; exact hj)
def zEnt : Value := .agg #[.string ⟨#[]⟩, .string ⟨#[]⟩, .bool false, .int .i64 0, .string ⟨#[]⟩, .int .i64 0, .int .i64 0, .int .i64 0, .bool false, .bool false, .slice none 0 0, .bool false, .string ⟨#[]⟩, .slice none 0 0, .slice none 0 0, .slice none 0 0, .slice none 0 0, .slice none 0 0]
theorem info_Ez : (Try.prog.info? 38).map (fun i => (i.zero, i.size, i.bytes)) = some (some zEnt, 18, 264) := by kernel_rfl
theorem bs_ent (A B : ByteArray) (u0 u1 u2 u3 u4 u5 u6 u7 u8 u9 u10 u11 u12 u13 u14 : Value) (X : World) : (Instr.buildSlice 22 1 #[(0, .agg #[.string A, .string B, .bool true, u0, u1, u2, u3, u4, u5, u6, u7, u8, u9, u10, u11, u12, u13, u14])]).run Try.prog X = .ok (.slice (some ⟨X.heap.size, 0, none⟩) 1 1) (X.alloc (.cells #[.string A, .string B, .bool true, u0, u1, u2, u3, u4, u5, u6, u7, u8, u9, u10, u11, u12, u13, u14] 38)) := by
  first | kernel_rfl | rfl
theorem yields_mid {ops : Array Oper} {S : World → Prop} {o : Oper} {a : Act} (hg : o.guard = none) (ty : TypeId) (x : Operand) (ho : o.op = .load ty x) (b off : Nat) (hx : a.eval x = .pointer (some ⟨b, off, none⟩)) (cs : List Value) (d : TypeDesc)
    (hc : ∀ w, S w → w.rangeAt b off cs) (hu : Try.prog.underlying ty = some d) (hd : d.isRow = true) (hi : (Try.prog.info? ty).map (·.size) = some cs.length) : YieldsIf Try.prog ops S o (.agg cs.toArray) a :=
  .inl ⟨by simp [Region.wanted, hg], fun w hw => by
    unfold execOp
    simp only [ho, hx, Instr.loadAt, Instr.sureAddr, Sem.run_bind, Sem.run_pure, Result.andThen_ok, run_loadVar_mid w b off ty cs d (hc w hw) hu hd hi]⟩
/-- one more entry in the row -/
def RelK (w : World) (f : Nat → ET) (kv iv : Value) (wr : World) : Prop :=
  ∃ (i : Nat) (kv' : Value), iv = .int .i64 (i : Nat) ∧ kv' = kv ∧ wr.ownsRow w.heap.size 38 18 kv' i (flatE f i) ∧ Below w.heap.size w wr
end Go.Proofs.Ytidpbchlnbmgoaa

/-
  A law's arguments within reach, in a program without listed variables.
-/
namespace Go.Proofs.Ytidpbchlnbmgoaa
open Go.RowKit Go.ChangeShapes Go.WideShapes Go.Deep
set_option linter.unusedVariables false
set_option linter.unusedSimpArgs false
set_option maxRecDepth 100000

theorem handed_light {H : Type} {enc : TypeId × Value → H} {a : Assume} {C : Checked} {os : Os} {f : FuncId} {fn : Func} {s : ChangeSpec} {conds : List PathCond} {apart fresh handsOn again : Bool}
    (own : ownKnob C.prog.godebug = none) (started : os.Started) (noInit : C.prog.inits.idxOf? f = none) (hfn : C.prog.funcs[f]? = some fn)
    (witness : ∃ (w : World) (tape : Tape) (i : Input), w.os = os ∧ (w.forCall tape i).Shaped C.prog ∧ i.vars = [] ∧ Input.okWide C.prog (w.forCall tape i) .any w.heap.size f i ∧
      s.pre6 enc C.prog fn conds apart (w.forCall tape i).memory i.args ∧ a.holds C.prog (lone (Frame.enter C.prog f i.args .normal) [] (w.forCall tape i)))
    (contract : ∀ (W : World) (base : Nat) (args : Array Value) (ds gs : List (DataW H)) (before : List MemPlace),
      (∀ (j : Nat) t v, fn.params[j]? = some t → args[j]? = some v → Value.okWide C.prog W .any base t v) →
      DataW.Whole enc C.prog fn.params.toList s.vars apart W args.toList ds gs before →
      (∀ n ∈ DataW.weightsEach C.prog (fn.params.toList ++ (OpenSpec.ofChange s).bare.plain.varTypes C.prog) (ds ++ gs), n ≤ reachBytes) →
      Calls C.prog f args W fun e W' => ∃ v, e = .returned v ∧ s.post enc C.prog fn apart fresh handsOn again W args v W') :
    ReturnsInHanded a C os f .any (s.pre6 enc C.prog fn conds apart) (s.post enc C.prog fn apart fresh handsOn again) := by
  refine returnsInHanded_of_calls own started noInit witness fun w tape i _ _ _ hok hpre _ => ?_
  obtain ⟨_, _, _, fn2, hfn2, _, _, _, _, hval⟩ := hok
  obtain rfl : fn2 = fn := Option.some.inj (hfn2.symm.trans hfn)
  obtain ⟨_, ⟨_, ds, gs, before, hw, hall⟩⟩ := hpre
  refine (contract (w.forCall tape i) w.heap.size i.args ds gs before hval (DataW.Whole.of_heap (w' := w.forCall tape i) (by rfl) hw) (fun n hn => of_decide_eq_true (List.all_eq_true.1 hall n hn))).mono fun e W' ⟨v, he, hp⟩ => ?_
  subst he
  exact ChangeSpec.post_blind hp
end Go.Proofs.Ytidpbchlnbmgoaa

/-
  Proved: the statement TagsAuto (where tags are automatic all lies apart, and parts stand as they are written), for every input; no further condition.
-/
namespace Go.Proofs.Ytidpbchlnbmgoaa.tagsAuto
open Go.ChangeShapes Go.WideShapes Go.ChangeAt Go.RowKit
open Go.ChangeMaps (open_string shut_string)
set_option linter.unusedVariables false
set_option linter.unusedSimpArgs false
set_option maxRecDepth 100000

theorem own : ownKnob Try.prog.godebug = none := by kernel_rfl
theorem laidOut : laidOutB Try.prog = true := by kernel_rfl

set_option maxHeartbeats 16000000 in
theorem walk (w : World) (a0 : Option Addr) (len0 cap0 : Nat) (w0 : ∃ f, ELIn w.heap.size w ⟨a0, len0, cap0, f⟩) (x1 : TT) (hx1 : TIn w.heap.size w x1) :
    Calls Try.prog 4 #[.slice a0 len0 cap0, .agg x1.cells.toArray] w fun e w' => e = .returned (.bool true) ∧ Below w.heap.size w w' := by
  obtain ⟨i0, hi0, hz0, hz1, hz2⟩ := info_parts info_Ez
  obtain ⟨f, hE⟩ := w0
  obtain ⟨t, ht⟩ : ∃ t, x1 = t := ⟨_, rfl⟩
  rw [ht] at hx1 ⊢
  have HTI := Lib.hid hx1
  have HE := Lib.hid hE
  have HEB := Lib.hid (fun (W : World) (hb : Below w.heap.size w W) => (hE.below hb (Nat.le_refl _)).below (Below.refl W.heap.size W) hb.size)
  have HTB := Lib.hid (fun (W : World) (hb : Below w.heap.size w W) => (hx1.below hb (Nat.le_refl _)).below (Below.refl W.heap.size W) hb.size)
  obtain ⟨pa, pc, aa, ac, ea, ec, TC⟩ := hx1.tcells
  obtain ⟨v0, v1, v2, v3, v4, v5, v6, v7, v8, v9, v10, v11, v12, v13, v14, hcs⟩ := list15 t.cells (one_tcells hx1).1
  have hps := TC.ps
  rw [hcs] at hps
  obtain rfl : v12 = .slice pa t.pn pc := by simpa using hps
  obtain ⟨pn, hpn⟩ : ∃ pn, t.pn = pn := ⟨_, rfl⟩
  have HPN := Lib.hid hpn
  rw [hpn] at hcs
  have HCS := Lib.hid hcs
  have HX := Lib.hid (Bx.new w #[v0, v1, v2, v3, v4, v5, v6, v7, v8, v9, v10, v11, .slice pa pn pc, v13, v14] 35)
  have HB := Lib.hid ((Below.refl w.heap.size w).alloc (Nat.le_refl _) (.cells #[v0, v1, v2, v3, v4, v5, v6, v7, v8, v9, v10, v11, .slice pa pn pc, v13, v14] 35))
  rw [hcs]
  clear hx1 hcs ht hE TC hps hpn
  go_enter Try.func4, Try.ntmps4
  go_wp2_with fail
  generalize w.alloc (.cells #[v0, v1, v2, v3, v4, v5, v6, v7, v8, v9, v10, v11, .slice pa pn pc, v13, v14] 35) = W0 at *
  obtain ⟨g, hg0⟩ : ∃ g, w.heap.size = g := ⟨_, rfl⟩
  have HG := Lib.hid hg0
  rw [hg0] at HX ⊢
  clear hg0
  refine (awake13_ok _).mono ?_
  rintro e wA ⟨rfl, h2⟩
  have HX_1 := Lib.hid (HX.out.below h2 HX.out.lt)
  have HB_1 := Lib.hid (HB.out.trans (h2.mono HB.out.size))
  clear h2 HX HB
  have hf := few13_ok wA ⟨a0, len0, cap0, f⟩ (HEB.out wA HB_1.out)
  change Calls _ _ #[.slice a0 len0 cap0, .int .i64 60] _ _ at hf
  have HF0 := Lib.hid hf
  clear hf
  go_wp2_with fail
  refine HF0.out.mono ?_
  rintro e wB ⟨⟨b, rfl, hfe⟩, h2⟩
  have HX_2 := Lib.hid (HX_1.out.below h2 HX_1.out.lt)
  have HB_2 := Lib.hid (HB_1.out.trans (h2.mono HB_1.out.size))
  have HFE := Lib.hid hfe
  clear h2 HX_1 HB_1 HF0 hfe
  cases b with
  | false =>
    go_wp2_with fail
    go_ret
    exact ⟨rfl, by first | exact HB_2.out | (rw [← HG.out]; exact HB_2.out)⟩
  | true =>
  have HFW := Lib.hid (HFE.out (by first | rfl | trivial))
  have h12 : len0 ≤ 12 := HFW.out.1
  have hcf := Few_ok t w.heap.size 100 wB (HTI.out.below HB_2.out (Nat.le_refl _)) HB_2.out.size (by omega) (by omega)
  obtain ⟨b, hb⟩ : ∃ b, decide (0 ≤ t.few 100) = b := ⟨_, rfl⟩
  have HBF := Lib.hid hb
  rw [hb, HCS.out] at hcf
  have HC := Lib.hid hcf
  have HR := Lib.hid (show wB.rangeAt g 0 [v0, v1, v2, v3, v4, v5, v6, v7, v8, v9, v10, v11, .slice pa pn pc, v13, v14] from HX_2.out.range)
  clear hb hcf HFE
  cases b with
  | false =>
    go_wp2_with (refine tg_load_midG (by rfl) 35 (.tmp 3) rfl g 0 rfl [v0, v1, v2, v3, v4, v5, v6, v7, v8, v9, v10, v11, .slice pa pn pc, v13, v14] _ HR.out Try.underlying35 rfl (by rw [info_T]; rfl) ?_)
    refine HC.out.mono ?_
    rintro e wC ⟨rfl, h2⟩
    have HB_3 := Lib.hid (HB_2.out.trans (h2.mono HB_2.out.size))
    clear h2
    go_wp2_with fail
    go_ret
    exact ⟨rfl, by first | exact HB_3.out | (rw [← HG.out]; exact HB_3.out)⟩
  | true =>
  have HSM := Lib.hid (few_small (x := 100) HTI.out (of_decide_eq_true HBF.out) (by omega))
  go_wp2_with (refine tg_load_midG (by rfl) 35 (.tmp 3) rfl g 0 rfl [v0, v1, v2, v3, v4, v5, v6, v7, v8, v9, v10, v11, .slice pa pn pc, v13, v14] _ HR.out Try.underlying35 rfl (by rw [info_T]; rfl) ?_)
  refine HC.out.mono ?_
  rintro e wC ⟨rfl, h2⟩
  have HX_3 := Lib.hid (HX_2.out.below h2 HX_2.out.lt)
  have HB_3 := Lib.hid (HB_2.out.trans (h2.mono HB_2.out.size))
  have hg3 : g < wC.heap.size := HX_3.out.lt
  clear h2 HX_2 HB_2 HC HR
  go_wp2_with fail
  go_loopw [6, 7] (fun kv iv wr => RelK wC (fun j => autoE (f j)) kv iv wr ∧ (Lib.intOf iv).toNat ≤ len0) (fun _ iv _ => len0 - (Lib.intOf iv).toNat)
  case atStart => exact ⟨⟨0, _, rfl, rfl, World.ownsRow_nil _ _ _ _, Below.refl _ _⟩, Nat.zero_le _⟩
  case round =>
  obtain ⟨⟨i, kv, rfl, rfl, hown, hb⟩, hi⟩ := hrel
  have hi : i ≤ len0 := by simpa [Lib.intOf] using hi
  have HOW := Lib.hid hown
  have HBR := Lib.hid hb
  have hsz := hb.size
  clear hown hb
  by_cases hlt : i < len0
  · have q4 : decide ((i : Int) < (len0 : Int)) = true := decide_eq_true (by omega)
    have q4n : decide (i < len0) = true := decide_eq_true hlt
    have q5 : IntKind.i64.wrap ((i : Int) + 1) = ((i + 1 : Nat) : Int) := wrap_succ hlt (by omega)
    obtain ⟨gx, ox, hix, hgx, hrd⟩ := eRow_read HE.out (i := i) hlt
    have hix : ∀ w, (Instr.indexAt 22 (.slice a0 len0 cap0) (.int .i64 (i : Nat))).run Try.prog w = .ok (.pointer (some ⟨gx, ox, none⟩)) w := hix
    have hein := HE.out.2 i hlt
    have hr := hrd wr ((HB_3.out.trans (HBR.out.mono HB_3.out.size)).block gx hgx)
    have c0 : wr.cell? ⟨gx, ox, none⟩ = some (.string (f i).mod) := hr 0 _ rfl
    have c1 : wr.cell? ⟨gx, ox + 1, none⟩ = some (.string (f i).name) := hr 1 _ rfl
    obtain ⟨u0, u1, u2, u3, u4, u5, u6, u7, u8, u9, u10, u11, u12, u13, u14, hus⟩ := list15 (f i).t.cells (one_tcells hein.2.2).1
    have HRG := Lib.hid (show wr.rangeAt gx (ox + 3) [u0, u1, u2, u3, u4, u5, u6, u7, u8, u9, u10, u11, u12, u13, u14] from fun j v hv => by
      have h1 := hr (3 + j) v (by show (ET.cells (f i))[3 + j]? = _; unfold ET.cells; rw [hus, List.getElem?_append_right (by simp)]; simpa using hv)
      rw [← Nat.add_assoc] at h1
      exact h1)
    obtain ⟨A, hA⟩ : ∃ A, (f i).mod = A := ⟨_, rfl⟩
    obtain ⟨B, hB⟩ : ∃ B, (f i).name = B := ⟨_, rfl⟩
    have hone := one_ecells (e := autoE (f i)) (B := w.heap.size) (W := w) hein
    have hce : (autoE (f i)).cells = [.string A, .string B, .bool true, u0, u1, u2, u3, u4, u5, u6, u7, u8, u9, u10, u11, u12, u13, u14] := by
      unfold ET.cells autoE
      show [.string (f i).mod, .string (f i).name, .bool true] ++ (f i).t.cells = _
      rw [hA, hB, hus]
      rfl
    rw [hce] at hone
    have HONE := Lib.hid hone
    have HCE := Lib.hid hce
    rw [hA] at c0
    rw [hB] at c1
    clear hrd hein hr hus hA hB hone hce
    go_wp2_with fail
    refine wp_region_any (by kernel_rfl) ?_
    change wpAny _ _ _ _ _ _ _ wr.drew
    have hS0 : (fun X : World => X.cell? ⟨gx, ox, none⟩ = some (.string A) ∧ X.cell? ⟨gx, ox + 1, none⟩ = some (.string B) ∧ X.rangeAt gx (ox + 3) [u0, u1, u2, u3, u4, u5, u6, u7, u8, u9, u10, u11, u12, u13, u14]) wr.drew := ⟨c0, c1, HRG.out⟩
    have HOX := Lib.hid (show wr.drew.ownsRow wC.heap.size 38 18 kv i (flatE (fun j => autoE (f j)) i) from HOW.out)
    have HBX := Lib.hid (Below.drew HBR.out)
    have hgX : gx < wr.drew.heap.size := by show gx < wr.heap.size; have := HB_3.out.size; omega
    have hCX : wC.heap.size ≤ wr.drew.heap.size := hsz
    clear c0 c1 HRG
    generalize wr.drew = X0 at *
    refine wpAny_head (S := (fun X : World => X.cell? ⟨gx, ox, none⟩ = some (.string A) ∧ X.cell? ⟨gx, ox + 1, none⟩ = some (.string B) ∧ X.rangeAt gx (ox + 3) [u0, u1, u2, u3, u4, u5, u6, u7, u8, u9, u10, u11, u12, u13, u14])) (E := fun _ => false) 18 18 ⟨fun j hj => (by cases hj), by kernel_rfl, by decide, by kernel_rfl, by kernel_rfl⟩ ?_
    refine wpAnyT_go (E := fun _ => false) 0 (kv) (some 26) #[true, false, false, false, false, false, false, false, false, false, false, false, false, false, false, false, false, false, false, false] ⟨fun j hj => (by cases hj), by kernel_rfl, by decide, by kernel_rfl, by kernel_rfl⟩ rfl rfl (by kernel_rfl) (by kernel_rfl) (by kernel_rfl) (by kernel_rfl) (by kernel_rfl) (fun _ _ _ h => h) (Or.inl ⟨by rfl, fun X hX => by go_simp⟩) hS0 ?_
    simp only [tq_put, List.set_cons_succ, List.set_cons_zero]
    refine wpAnyT_go (E := fun _ => false) 1 (.slice a0 len0 cap0) (some 27) #[true, true, false, false, false, false, false, false, false, false, false, false, false, false, false, false, false, false, false, false] ⟨fun j hj => (by cases hj), by kernel_rfl, by decide, by kernel_rfl, by kernel_rfl⟩ rfl rfl (by kernel_rfl) (by kernel_rfl) (by kernel_rfl) (by kernel_rfl) (by kernel_rfl) (fun _ _ _ h => h) (Or.inl ⟨by rfl, fun X hX => by go_simp⟩) hS0 ?_
    simp only [tq_put, List.set_cons_succ, List.set_cons_zero]
    refine wpAnyT_go (E := fun _ => false) 2 (.int .i64 (i : Nat)) (some 28) #[true, true, true, false, false, false, false, false, false, false, false, false, false, false, false, false, false, false, false, false] ⟨fun j hj => (by cases hj), by kernel_rfl, by decide, by kernel_rfl, by kernel_rfl⟩ rfl rfl (by kernel_rfl) (by kernel_rfl) (by kernel_rfl) (by kernel_rfl) (by kernel_rfl) (fun _ _ _ h => h) (Or.inl ⟨by rfl, fun X hX => by go_simp⟩) hS0 ?_
    simp only [tq_put, List.set_cons_succ, List.set_cons_zero]
    refine wpAnyT_go (E := fun _ => false) 3 (.pointer (some ⟨gx, ox, none⟩)) (some 29) #[true, true, true, true, false, false, false, false, false, false, false, false, false, false, false, false, false, false, false, false] ⟨fun j hj => (by cases hj), by kernel_rfl, by decide, by kernel_rfl, by kernel_rfl⟩ rfl rfl (by kernel_rfl) (by kernel_rfl) (by kernel_rfl) (by kernel_rfl) (by kernel_rfl) (fun _ _ _ h => h) (Or.inl ⟨by rfl, fun X hX => by go_simp⟩) hS0 ?_
    simp only [tq_put, List.set_cons_succ, List.set_cons_zero]
    refine wpAnyT_go (E := fun _ => false) 4 (.pointer (some ⟨gx, ox, none⟩)) (some 30) #[true, true, true, true, true, false, false, false, false, false, false, false, false, false, false, false, false, false, false, false] ⟨fun j hj => (by cases hj), by kernel_rfl, by decide, by kernel_rfl, by kernel_rfl⟩ rfl rfl (by kernel_rfl) (by kernel_rfl) (by kernel_rfl) (by kernel_rfl) (by kernel_rfl) (fun _ _ _ h => h) (Or.inl ⟨by rfl, fun X hX => by go_simp⟩) hS0 ?_
    simp only [tq_put, List.set_cons_succ, List.set_cons_zero]
    refine wpAnyT_go (E := fun _ => false) 5 (.string A) (some 31) #[true, true, true, true, true, true, false, false, false, false, false, false, false, false, false, false, false, false, false, false] ⟨fun j hj => (by cases hj), by kernel_rfl, by decide, by kernel_rfl, by kernel_rfl⟩ rfl rfl (by kernel_rfl) (by kernel_rfl) (by kernel_rfl) (by kernel_rfl) (by kernel_rfl) (fun _ _ _ h => h) (Or.inl ⟨by rfl, fun X hX => by obtain ⟨x0, x1, x2⟩ := hX; go_simp⟩) hS0 ?_
    simp only [tq_put, List.set_cons_succ, List.set_cons_zero]
    refine wpAnyT_go (E := fun _ => false) 6 (.slice a0 len0 cap0) (some 32) #[true, true, true, true, true, true, true, false, false, false, false, false, false, false, false, false, false, false, false, false] ⟨fun j hj => (by cases hj), by kernel_rfl, by decide, by kernel_rfl, by kernel_rfl⟩ rfl rfl (by kernel_rfl) (by kernel_rfl) (by kernel_rfl) (by kernel_rfl) (by kernel_rfl) (fun _ _ _ h => h) (Or.inl ⟨by rfl, fun X hX => by go_simp⟩) hS0 ?_
    simp only [tq_put, List.set_cons_succ, List.set_cons_zero]
    refine wpAnyT_go (E := fun _ => false) 7 (.int .i64 (i : Nat)) (some 33) #[true, true, true, true, true, true, true, true, false, false, false, false, false, false, false, false, false, false, false, false] ⟨fun j hj => (by cases hj), by kernel_rfl, by decide, by kernel_rfl, by kernel_rfl⟩ rfl rfl (by kernel_rfl) (by kernel_rfl) (by kernel_rfl) (by kernel_rfl) (by kernel_rfl) (fun _ _ _ h => h) (Or.inl ⟨by rfl, fun X hX => by go_simp⟩) hS0 ?_
    simp only [tq_put, List.set_cons_succ, List.set_cons_zero]
    refine wpAnyT_go (E := fun _ => false) 8 (.pointer (some ⟨gx, ox, none⟩)) (some 34) #[true, true, true, true, true, true, true, true, true, false, false, false, false, false, false, false, false, false, false, false] ⟨fun j hj => (by cases hj), by kernel_rfl, by decide, by kernel_rfl, by kernel_rfl⟩ rfl rfl (by kernel_rfl) (by kernel_rfl) (by kernel_rfl) (by kernel_rfl) (by kernel_rfl) (fun _ _ _ h => h) (Or.inl ⟨by rfl, fun X hX => by go_simp⟩) hS0 ?_
    simp only [tq_put, List.set_cons_succ, List.set_cons_zero]
    refine wpAnyT_go (E := fun _ => false) 9 (.pointer (some ⟨gx, ox + 1, none⟩)) (some 35) #[true, true, true, true, true, true, true, true, true, true, false, false, false, false, false, false, false, false, false, false] ⟨fun j hj => (by cases hj), by kernel_rfl, by decide, by kernel_rfl, by kernel_rfl⟩ rfl rfl (by kernel_rfl) (by kernel_rfl) (by kernel_rfl) (by kernel_rfl) (by kernel_rfl) (fun _ _ _ h => h) (Or.inl ⟨by rfl, fun X hX => by go_simp⟩) hS0 ?_
    simp only [tq_put, List.set_cons_succ, List.set_cons_zero]
    refine wpAnyT_go (E := fun _ => false) 10 (.string B) (some 36) #[true, true, true, true, true, true, true, true, true, true, true, false, false, false, false, false, false, false, false, false] ⟨fun j hj => (by cases hj), by kernel_rfl, by decide, by kernel_rfl, by kernel_rfl⟩ rfl rfl (by kernel_rfl) (by kernel_rfl) (by kernel_rfl) (by kernel_rfl) (by kernel_rfl) (fun _ _ _ h => h) (Or.inl ⟨by rfl, fun X hX => by obtain ⟨x0, x1, x2⟩ := hX; go_simp⟩) hS0 ?_
    simp only [tq_put, List.set_cons_succ, List.set_cons_zero]
    refine wpAnyT_go (E := fun _ => false) 11 (.slice a0 len0 cap0) (some 37) #[true, true, true, true, true, true, true, true, true, true, true, true, false, false, false, false, false, false, false, false] ⟨fun j hj => (by cases hj), by kernel_rfl, by decide, by kernel_rfl, by kernel_rfl⟩ rfl rfl (by kernel_rfl) (by kernel_rfl) (by kernel_rfl) (by kernel_rfl) (by kernel_rfl) (fun _ _ _ h => h) (Or.inl ⟨by rfl, fun X hX => by go_simp⟩) hS0 ?_
    simp only [tq_put, List.set_cons_succ, List.set_cons_zero]
    refine wpAnyT_go (E := fun _ => false) 12 (.int .i64 (i : Nat)) (some 38) #[true, true, true, true, true, true, true, true, true, true, true, true, true, false, false, false, false, false, false, false] ⟨fun j hj => (by cases hj), by kernel_rfl, by decide, by kernel_rfl, by kernel_rfl⟩ rfl rfl (by kernel_rfl) (by kernel_rfl) (by kernel_rfl) (by kernel_rfl) (by kernel_rfl) (fun _ _ _ h => h) (Or.inl ⟨by rfl, fun X hX => by go_simp⟩) hS0 ?_
    simp only [tq_put, List.set_cons_succ, List.set_cons_zero]
    refine wpAnyT_go (E := fun _ => false) 13 (.pointer (some ⟨gx, ox, none⟩)) (some 39) #[true, true, true, true, true, true, true, true, true, true, true, true, true, true, false, false, false, false, false, false] ⟨fun j hj => (by cases hj), by kernel_rfl, by decide, by kernel_rfl, by kernel_rfl⟩ rfl rfl (by kernel_rfl) (by kernel_rfl) (by kernel_rfl) (by kernel_rfl) (by kernel_rfl) (fun _ _ _ h => h) (Or.inl ⟨by rfl, fun X hX => by go_simp⟩) hS0 ?_
    simp only [tq_put, List.set_cons_succ, List.set_cons_zero]
    refine wpAnyT_go (E := fun _ => false) 14 (.pointer (some ⟨gx, ox + 3, none⟩)) (some 40) #[true, true, true, true, true, true, true, true, true, true, true, true, true, true, true, false, false, false, false, false] ⟨fun j hj => (by cases hj), by kernel_rfl, by decide, by kernel_rfl, by kernel_rfl⟩ rfl rfl (by kernel_rfl) (by kernel_rfl) (by kernel_rfl) (by kernel_rfl) (by kernel_rfl) (fun _ _ _ h => h) (Or.inl ⟨by rfl, fun X hX => by go_simp⟩) hS0 ?_
    simp only [tq_put, List.set_cons_succ, List.set_cons_zero]
    refine wpAnyT_go (E := fun _ => false) 15 (.agg #[u0, u1, u2, u3, u4, u5, u6, u7, u8, u9, u10, u11, u12, u13, u14]) (some 41) #[true, true, true, true, true, true, true, true, true, true, true, true, true, true, true, true, false, false, false, false] ⟨fun j hj => (by cases hj), by kernel_rfl, by decide, by kernel_rfl, by kernel_rfl⟩ rfl rfl (by kernel_rfl) (by kernel_rfl) (by kernel_rfl) (by kernel_rfl) (by kernel_rfl) (fun _ _ _ h => h) (yields_mid rfl 35 (.tmp 40) rfl gx (ox + 3) rfl [u0, u1, u2, u3, u4, u5, u6, u7, u8, u9, u10, u11, u12, u13, u14] _ (fun X hX => hX.2.2) Try.underlying35 rfl (by rw [info_T]; rfl)) hS0 ?_
    simp only [tq_put, List.set_cons_succ, List.set_cons_zero]
    refine wpAnyT_go (E := fun _ => false) 16 (.agg #[.string A, .string B, .bool true, u0, u1, u2, u3, u4, u5, u6, u7, u8, u9, u10, u11, u12, u13, u14]) (some 42) #[true, true, true, true, true, true, true, true, true, true, true, true, true, true, true, true, true, false, false, false] ⟨fun j hj => (by cases hj), by kernel_rfl, by decide, by kernel_rfl, by kernel_rfl⟩ rfl rfl (by kernel_rfl) (by kernel_rfl) (by kernel_rfl) (by kernel_rfl) (by kernel_rfl) (fun _ _ _ h => h) (Or.inl ⟨by rfl, fun X hX => by go_simp⟩) hS0 ?_
    simp only [tq_put, List.set_cons_succ, List.set_cons_zero]
    refine wpAnyT_one 17 #[true, true, true, true, true, true, true, true, true, true, true, true, true, true, true, true, true, true, false, false] (by kernel_rfl) (by kernel_rfl) (by decide) ?_
    refine wpOp_bs (w' := X0.alloc (.cells #[.string A, .string B, .bool true, u0, u1, u2, u3, u4, u5, u6, u7, u8, u9, u10, u11, u12, u13, u14] 38)) 17 22 (.tmp 42) (.agg #[.string A, .string B, .bool true, u0, u1, u2, u3, u4, u5, u6, u7, u8, u9, u10, u11, u12, u13, u14]) (.slice (some ⟨X0.heap.size, 0, none⟩) 1 1) (some 43) rfl rfl rfl rfl rfl (bs_ent _ _ _ _ _ _ _ _ _ _ _ _ _ _ _ _ _ _) ?_
    have hblk : (X0.alloc (.cells #[.string A, .string B, .bool true, u0, u1, u2, u3, u4, u5, u6, u7, u8, u9, u10, u11, u12, u13, u14] 38)).heap[gx]? = X0.heap[gx]? := Below.heap_alloc X0 _ gx hgX
    refine ⟨⟨(World.cell?_of_block (w := X0) (a := ⟨gx, ox, none⟩) hblk).trans hS0.1, (World.cell?_of_block (w := X0) (a := ⟨gx, ox + 1, none⟩) hblk).trans hS0.2.1, fun j v hv => (World.cell?_of_block (w := X0) (a := ⟨gx, ox + 3 + j, none⟩) hblk).trans (hS0.2.2 j v hv)⟩, ?_⟩
    simp only [tq_put, List.set_cons_succ, List.set_cons_zero]
    refine ⟨by kernel_rfl, ?_⟩
    simp only [List.drop_succ_cons, List.drop_zero]
    clear hS0 hblk
    go_wp2_with (at_builtin; refine wpList_append_own _ rfl (.tmp 26) (.tmp 43) 22 rfl wC.heap.size 38 i0 zEnt 18 264 Try.underlying22 hi0 hz0 hz1 hz2 rfl (by decide) _ i (flatE (fun j => autoE (f j)) i) rfl (World.ownsRow.alloc HOX.out _) ⟨X0.heap.size, 0, none⟩ 1 1 [.string A, .string B, .bool true, u0, u1, u2, u3, u4, u5, u6, u7, u8, u9, u10, u11, u12, u13, u14] rfl rfl (cells_new X0 [.string A, .string B, .bool true, u0, u1, u2, u3, u4, u5, u6, u7, u8, u9, u10, u11, u12, u13, u14] _) HONE.out.2 (by unfold maxLen; omega) (by omega) (by simp; omega) ?_; intro rv w6 ho4 hg4 _; have HO4 := Lib.hid ho4; have HG4 := Lib.hid hg4; clear ho4 hg4)
    have HB6 := Lib.hid ((HBX.out.alloc hCX _).grown HG4.out (by simp; omega) (fun j hj => (HOX.out.lt j hj).1))
    go_roundw
    case rel => exact ⟨⟨i + 1, _, rfl, rfl, by show World.ownsRow _ _ _ _ _ _ (flatE (fun j => autoE (f j)) i ++ (autoE (f i)).cells); rw [HCE.out]; exact HO4.out, HB6.out⟩, by simp only [Lib.intOf]; omega⟩
    case measure => simp only [Lib.intOf]; omega
  have q4 : decide ((i : Int) < (len0 : Int)) = false := decide_eq_false (by omega)
  have q4n : decide (i < len0) = false := decide_eq_false hlt
  obtain rfl : i = len0 := by omega
  have HXR := Lib.hid (HX_3.out.below HBR.out hg3)
  have HRR := Lib.hid (show wr.rangeAt g 0 [v0, v1, v2, v3, v4, v5, v6, v7, v8, v9, v10, v11, .slice pa pn pc, v13, v14] from HXR.out.range)
  have HBW := Lib.hid (HB_3.out.trans (HBR.out.mono HB_3.out.size))
  have hone := one_ecells (e := zE t) (B := w.heap.size) (W := w) ⟨by show (1 : Nat) ≤ _; omega, by show (1 : Nat) ≤ _; omega, HTI.out⟩
  have hce : (zE t).cells = [.string ⟨#[90]⟩, .string ⟨#[90]⟩, .bool true, v0, v1, v2, v3, v4, v5, v6, v7, v8, v9, v10, v11, .slice pa pn pc, v13, v14] := by
    unfold ET.cells zE
    show [.string ⟨#[90]⟩, .string ⟨#[90]⟩, .bool true] ++ t.cells = _
    rw [HCS.out]
    rfl
  rw [hce] at hone
  have HONE := Lib.hid hone
  have HCE := Lib.hid hce
  clear hone hce
  go_wp2_with (first | (refine wpList_load_mid rfl 35 (.tmp 3) rfl g 0 rfl [v0, v1, v2, v3, v4, v5, v6, v7, v8, v9, v10, v11, .slice pa pn pc, v13, v14] _ HRR.out Try.underlying35 rfl (by rw [info_T]; rfl) ?_) | (refine wpList_load_mid rfl 35 (.tmp 3) rfl g 0 rfl [v0, v1, v2, v3, v4, v5, v6, v7, v8, v9, v10, v11, .slice pa pn pc, v13, v14] _ HRX6.out Try.underlying35 rfl (by rw [info_T]; rfl) ?_) | (at_builtin; refine wpList_append_own _ rfl (.tmp 45) (.tmp 48) 22 rfl wC.heap.size 38 i0 zEnt 18 264 Try.underlying22 hi0 hz0 hz1 hz2 rfl (by decide) _ i (flatE (fun j => autoE (f j)) i) rfl (World.ownsRow.alloc HOW.out _) ⟨wr.heap.size, 0, none⟩ 1 1 [.string ⟨#[90]⟩, .string ⟨#[90]⟩, .bool true, v0, v1, v2, v3, v4, v5, v6, v7, v8, v9, v10, v11, .slice pa pn pc, v13, v14] rfl rfl (cells_new wr [.string ⟨#[90]⟩, .string ⟨#[90]⟩, .bool true, v0, v1, v2, v3, v4, v5, v6, v7, v8, v9, v10, v11, .slice pa pn pc, v13, v14] _) HONE.out.2 (by unfold maxLen; omega) (by omega) (by simp; omega) ?_; intro rv w6 ho4 hg4 _; have HO4 := Lib.hid ho4; have HG4 := Lib.hid hg4; clear ho4 hg4; have HRX6 := Lib.hid (show w6.rangeAt g 0 [v0, v1, v2, v3, v4, v5, v6, v7, v8, v9, v10, v11, .slice pa pn pc, v13, v14] from (HX_3.out.below ((HBR.out.alloc (by omega) (.cells #[.string ⟨#[90]⟩, .string ⟨#[90]⟩, .bool true, v0, v1, v2, v3, v4, v5, v6, v7, v8, v9, v10, v11, .slice pa pn pc, v13, v14] 38)).grown HG4.out (by simp; omega) (fun j hj => (HOW.out.lt j hj).1)) hg3).range)))
  have hb6 := (HBR.out.alloc (by omega) (.cells #[.string ⟨#[90]⟩, .string ⟨#[90]⟩, .bool true, v0, v1, v2, v3, v4, v5, v6, v7, v8, v9, v10, v11, .slice pa pn pc, v13, v14] 38)).grown HG4.out (by simp; omega) (fun j hj => (HOW.out.lt j hj).1)
  have HX6 := Lib.hid (HX_3.out.below hb6 hg3)
  have HB6 := Lib.hid (HB_3.out.trans (hb6.mono HB_3.out.size))
  have HO6 := Lib.hid (show w6.ownsRow wC.heap.size 38 18 rv (i + 1) (flatE (auF ⟨a0, i, cap0, f⟩ t) (i + 1)) from by
    have e := auF_flat ⟨a0, i, cap0, f⟩ t
    have e : flatE (auF ⟨a0, i, cap0, f⟩ t) (i + 1) = flatE (fun j => autoE (f j)) i ++ (zE t).cells := e
    rw [e, HCE.out]
    exact HO4.out)
  have HR6 := Lib.hid (show w6.rangeAt g 0 [v0, v1, v2, v3, v4, v5, v6, v7, v8, v9, v10, v11, .slice pa pn pc, v13, v14] from HX6.out.range)
  have HIN := Lib.hid (auF_in (B' := 0) (t := t) (l := ⟨a0, i, cap0, f⟩) HE.out.2 HTI.out)
  have HSZ := Lib.hid (auF_sz (l := ⟨a0, i, cap0, f⟩) HE.out.2 HFW.out HSM.out.1)
  obtain ⟨g2, cap2, hv4, hel⟩ := own_ents HO6.out (fun j hj => by
    have h := HIN.out j hj
    exact (h.below HB6.out (Nat.le_refl _)).below (Below.refl _ _) HB6.out.size) (by omega) (by omega)
  subst hv4
  have HEK := Lib.hid (auF_eok (l := ⟨a0, i, cap0, f⟩) hel HSZ.out h12)
  have hor := Order_ok w6 ⟨some ⟨g2, 0, none⟩, i + 1, cap2, auF ⟨a0, i, cap0, f⟩ t⟩ true t HEK.out (HTB.out w6 HB6.out) (by show i + 1 ≤ _; omega) (fun p hp => (HSZ.out p hp).2.1) (HSM.out.2) 0 (fun e => (by cases e))
  rw [HCS.out, HPN.out] at hor
  have HOR := Lib.hid (show Calls Try.prog 12 #[.slice (some ⟨g2, 0, none⟩) (i + 1) cap2, .bool true, .agg #[v0, v1, v2, v3, v4, v5, v6, v7, v8, v9, v10, v11, .slice pa pn pc, v13, v14]] w6 _ from hor)
  clear hor hel hb6 HO6 HO4 HG4 HRR HXR HX_3 HB_3 HRX6
  refine HOR.out.mono ?_
  rintro e w7 ⟨ov, rfl, xs, ho, h2, hx, _⟩
  obtain rfl := hx rfl
  rw [List.map_map] at ho
  have HO7 := Lib.hid ho
  have HX7 := Lib.hid (HX6.out.below h2 HX6.out.lt)
  have HB7 := Lib.hid (HB6.out.trans (h2.mono HB6.out.size))
  have HEK7 := Lib.hid ((HEK.out.below h2 (Nat.le_refl _)).below (Below.refl w7.heap.size w7) h2.size)
  obtain ⟨oa, oc, rfl⟩ := own_slice ho
  have hpn1 : pn ≤ 1000 := by
    have h1 := HSM.out.2
    have h2 := t.wid_eq
    have h3 := sumW_ge (f := fun i => (t.alt i).wid) (n := t.nal) (fun i _ => (t.alt i).wid_pos)
    have h4 : t.pn ≤ t.nal := Nat.le_add_right _ _
    have h5 := HPN.out
    omega
  clear ho h2 hx HOR HX6 HB6 HEK HR6
  go_wp2_with fail
  go_loopw [9] (fun iv wr => ∃ j : Nat, j ≤ pn ∧ iv = .int .i64 (j : Nat) ∧ w7 = wr) (fun iv _ => pn - (Lib.intOf iv).toNat)
  case atStart => exact ⟨0, Nat.zero_le _, rfl, rfl⟩
  case round =>
  obtain ⟨j, hj, rfl, rfl⟩ := hrel
  clear q4 q4n
  by_cases hlt2 : j < pn
  · have q4 : decide ((j : Int) < (pn : Int)) = true := decide_eq_true (by omega)
    have q4n : decide (j < pn) = true := decide_eq_true hlt2
    have q5 : IntKind.i64.wrap ((j : Int) + 1) = ((j + 1 : Nat) : Int) := wrap_succ hlt2 (by omega)
    obtain ⟨og, oc', hov, _, _, hix, hcc⟩ := own_read 39 3 Try.underlying39 (by kernel_rfl) Try.sizeOf3 HO7.out hlt2
    cases hov
    have cj := hcc j (.int .i64 (j : Nat)) (by rw [List.getElem?_map, List.getElem?_range hlt2]; rfl)
    have q6 : ((j : Int) != (j : Int)) = false := by simp
    clear hcc
    go_wp2_with fail
    go_roundw
    case rel => exact ⟨j + 1, hlt2, rfl, (by first | rfl | trivial)⟩
    case measure => simp only [Lib.intOf]; omega
  have q4 : decide ((j : Int) < (pn : Int)) = false := decide_eq_false (by omega)
  have q4n : decide (j < pn) = false := decide_eq_false hlt2
  have hck := Check_ok _ _ HEK7.out (by show i + 1 ≤ _; omega) (fun p hp => ⟨(HSZ.out p hp).1, (HSZ.out p hp).2.1⟩)
  have HCK := Lib.hid (show Calls Try.prog 9 #[.slice (some ⟨g2, 0, none⟩) (i + 1) cap2] _ _ from hck)
  clear hck
  go_wp2_with fail
  refine HCK.out.mono ?_
  rintro e w8 ⟨⟨z, rfl, hz⟩, h2⟩
  obtain rfl : z = 0 := by
    rcases hz with ⟨rfl, _⟩ | ⟨_, hz⟩
    · rfl
    · exact absurd (auF_ok ⟨a0, i, cap0, f⟩ t _ _) hz
  have c12 : w8.cell? ⟨g, 12, none⟩ = some (.slice pa pn pc) := (HX7.out.below h2 HX7.out.lt).cell 12 rfl
  have HB8 := Lib.hid (HB7.out.trans (h2.mono HB7.out.size))
  have q7 : ((pn : Int) == (pn : Int)) = true := by simp
  clear hz h2 HCK
  go_wp2_with fail
  go_ret
  exact ⟨by first | rfl | simp, by first | exact HB8.out | (rw [← HG.out]; exact HB8.out)⟩

set_option maxRecDepth 100000 in
theorem lifted (os : Os) (started : os.Started) (H : Type) (enc : TypeId × Value → H) :
    ReturnsInHanded {} Try.checked os 4 .any (Rows.tagsAutoSpec.pre6 enc Try.prog Try.f4 Rows.tagsAutoRow.domain false) (Rows.tagsAutoSpec.post enc Try.prog Try.f4 false true false false) := by
  refine handed_light (C := Try.checked) own started (by kernel_rfl) Try.func4
    (ChangeSpec.witness6 (enc := enc) (C := Try.checked) false ⟨#[], #[.slice none 0 0, .agg #[.int .i64 0, .string ByteArray.empty, .int .i64 0, .int .i64 0, .int .i64 0, .bool false, .bool false, .slice none 0 0, .bool false, .string ByteArray.empty, .slice none 0 0, .slice none 0 0, .slice none 0 0, .slice none 0 0, .slice none 0 0]], []⟩ 8 (by kernel_rfl) (by kernel_rfl) (by kernel_rfl) (by kernel_rfl)) ?_
  intro W base args ds gs before hval0 hW hsz0
  have hval : ∀ (j : Nat) t v, Try.f4.params[j]? = some t → args[j]? = some v → Value.okWide Try.prog W .any base t v := hval0
  have hW' := hW
  obtain ⟨p, q, hA0, hV, rfl, hfz, hnd⟩ := hW
  have hA : DataW.TrodAll enc Try.prog W 0 (fun _ => true) true Try.f4.params.toList args.toList ds p := hA0
  rw [Try.params4] at hA hval
  obtain ⟨v0, vs0, d0, ds0, p0, q0, hargs, rfl, rfl, h0, r0⟩ := trodAll_cons hA
  obtain ⟨v1, vs1, d1, ds1, p1, q1, rfl, rfl, rfl, h1, r1⟩ := trodAll_cons r0
  obtain ⟨rfl, rfl, rfl⟩ := trodAll_nil r1
  obtain rfl : args = #[v0, v1] := by cases args; simp_all
  obtain ⟨rfl, rfl⟩ := trodVars_none hV
  obtain ⟨a0, len0, cap0, rfl⟩ := okWide_slice Try.underlying22 (hval 0 22 v0 rfl rfl)
  have k0 := h0
  have lt0 : ∀ x ∈ p0, x.block < W.heap.size := by obtain ⟨m, hm⟩ := k0; exact DataW.trod_lt m _ _ _ hm
  have li0 : Light 22 d0 := light_each hsz0 0 _ _ rfl rfl
  have w0 := open_es h0 li0
  obtain ⟨cs1, rfl, _⟩ := okWide_struct Try.underlying35 (hval 1 35 v1 rfl rfl)
  have k1 := h1
  have lt1 : ∀ x ∈ p1, x.block < W.heap.size := by obtain ⟨m, hm⟩ := k1; exact DataW.trod_lt m _ _ _ hm
  have li1 : Light 35 d1 := light_each hsz0 1 _ _ rfl rfl
  obtain ⟨fuel1, hf1⟩ := h1
  obtain ⟨x1, hc1, hx1⟩ := open_type (W := W) fuel1 (cs := cs1.toList) hf1 li1
  obtain rfl : cs1 = x1.cells.toArray := by rw [← hc1]
  clear hA0 hval0
  refine (walk W a0 len0 cap0 w0 x1 hx1).mono fun e W' ⟨he, bel⟩ => ?_
  subst he
  exact ⟨_, rfl, _, _, _, [], _, [], hW', trodAll_mk1 (shut_bool Try.underlying4 _), (trodAll_cons_mk (Below.trod laidOut (by kernel_rfl) (of_decide_eq_true (by kernel_rfl)) k0 bel lt0) (trodAll_cons_mk (Below.trod laidOut (by kernel_rfl) (of_decide_eq_true (by kernel_rfl)) k1 bel lt1) trodAll_mk0)), rfl, bel.frame _, fun h => by cases h⟩

theorem over : Rows.tagsAutoRow.holds Try.pinned (OpenSpec.ofChange Rows.tagsAutoSpec) :=
  OpenClaim.holds_of_wide 4 Try.f4 rfl rfl rfl rfl rfl rfl rfl ⟨rfl, rfl, rfl, rfl, rfl⟩ rfl rfl rfl rfl rfl (by kernel_rfl) Try.func4 (by kernel_rfl)
    (of_decide_eq_true (by kernel_rfl)) (by unfold Func.isWrapper; first | (rw [if_pos (by decide +kernel)]; kernel_rfl) | (rw [if_neg (by decide +kernel)]; exact ⟨rfl, rfl⟩))
    (fun os started H enc _ => lifted os started H enc)

theorem proved : Rows.TagsAutoSaid := over
end Go.Proofs.Ytidpbchlnbmgoaa.tagsAuto
