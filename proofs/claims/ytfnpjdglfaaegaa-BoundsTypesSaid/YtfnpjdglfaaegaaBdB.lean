/-
  Package bounds: what several constraints let in together: 'combined', 'byOne', 'byAll', over whatever 'admitted' tells of each.
-/
import Derived.Test.YtfnpjdglfaaegaaBdA
import Derived.Test.YtfnpjdglfaaegaaBdM
import Derived.Laws.AppendOwnNone
namespace Go.Proofs.Ytfnpjdglfaaegaa
open Go.RowKit Go.Shelf
set_option linter.unusedVariables false
set_option linter.unusedSimpArgs false
set_option maxRecDepth 100000

/-- a row of one's own that tells the numbers for which p holds, in whatever order -/
def OwnA (base : Nat) (w : World) (v : Value) (p : Int → Prop) (K : Nat) (r : List Rg) : Prop := OwnR base w v r ∧ Bd r ∧ (∀ n, I64 n → (mem r n ↔ p n)) ∧ r.length ≤ K
theorem AnsO.ownA {base : Nat} {w : World} {v : Value} {p : Int → Prop} {K : Nat} {r : List Rg} (h : AnsO base w v p K r) : OwnA base w v p K r := ⟨h.1, h.2.1.2.1, h.2.1.2.2, h.2.2⟩
theorem OwnA.rsl {base : Nat} {w : World} {v : Value} {p : Int → Prop} {K : Nat} {r : List Rg} (h : OwnA base w v p K r) : RSl w v r := h.1.rsl h.2.1
theorem OwnA.cast {base : Nat} {w : World} {v : Value} {p q : Int → Prop} {K L : Nat} {r : List Rg} (h : OwnA base w v p K r) (hpq : ∀ n, I64 n → (p n ↔ q n)) (hK : K ≤ L) : OwnA base w v q L r := ⟨h.1, h.2.1, fun n hn => (h.2.2.1 n hn).trans (hpq n hn), Nat.le_trans h.2.2.2 hK⟩
theorem OwnA.below {base : Nat} {w w' : World} {v : Value} {p : Int → Prop} {K : Nat} {r : List Rg} (h : OwnA base w v p K r) (hb : Below w.heap.size w w') : OwnA base w' v p K r := ⟨h.1.below hb, h.2⟩
theorem OwnA.base {base b2 : Nat} {w : World} {v : Value} {p : Int → Prop} {K : Nat} {r : List Rg} (h : OwnA base w v p K r) (hb : b2 ≤ base) : OwnA b2 w v p K r := ⟨h.1.base hb, h.2⟩
theorem OwnR.shape {base : Nat} {w : World} {v : Value} {l : List Rg} (h : OwnR base w v l) : ∃ a n c, v = .slice a n c := by
  rcases h.2 with ⟨rfl, _⟩ | ⟨g, cap, cur, rfl, _⟩
  · exact ⟨_, _, _, rfl⟩
  · exact ⟨_, _, _, rfl⟩
/-- an operation on two sets: what is in one, or in both -/
def OpOK (u : Bool) (fn : FuncId) : Prop := ∀ (base : Nat) (w : World) (va vb : Value) (a b : List Rg), base ≤ w.heap.size → OwnR base w va a → OwnR base w vb b → Bd a → Bd b → a.length ≤ 1000 → b.length ≤ 1000 →
  Calls Try.prog fn #[va, vb] w fun e w' => ∃ v r, e = .returned v ∧ OwnA base w' v (fun x => comb u (mem a x) (mem b x)) (a.length + b.length) r ∧ Below base w w'
set_option maxHeartbeats 1000000 in
theorem meet_op : OpOK false 26 := by
  intro base w va vb a b hbase ha hb hba hbb hla hlb
  refine (Meet_own w va vb a b (ha.rsl hba) (hb.rsl hbb) (by omega) (by omega)).mono ?_
  rintro e w' ⟨v, r, rfl, h, hbel⟩
  exact ⟨v, r, rfl, ((h.ownA.base hbase).cast (fun n _ => by simp [comb]) (Nat.le_refl _)), hbel.mono hbase⟩
set_option maxHeartbeats 2000000 in
theorem append_op : OpOK true 63 := by
  intro base w va vb a b hbase ha hb hba hbb hla hlb
  obtain ⟨i0, hi0, hz0, hz1, hz2⟩ := info_parts info_rg
  have HFIN := Lib.hid (show ∀ (w2 : World) (v2 : Value), OwnR base w2 v2 (a ++ b) → OwnA base w2 v2 (fun x => comb true (mem a x) (mem b x)) (a.length + b.length) (a ++ b) from fun w2 v2 h => ⟨h, Bd.append.2 ⟨hba, hbb⟩, fun n _ => by rw [mem_append]; simp [comb], by simp⟩)
  obtain ⟨sa, na, ca, rfl⟩ := ha.shape
  have HA := Lib.hid ha
  have hlen := rcells_length b
  have hone := rcells_oneCell b
  have HHA := Lib.hid (show w.ownsRow base 51 2 (.slice sa na ca) a.length (rcells a) from ha)
  have hb' : w.ownsRow base 51 2 vb b.length (rcells b) := hb
  rcases hb.2 with ⟨rfl, h0⟩ | ⟨g, cap, cur, rfl, hg, hh, hrest⟩
  · obtain rfl : b = [] := List.length_eq_zero_iff.1 h0
    have HF := Lib.hid (HFIN.out w (.slice sa na ca) (by rw [List.append_nil]; exact ha))
    clear ha hb hba hbb hlen hone hb' HFIN
    go_enter Try.func63, Try.ntmps63
    go_wp2_with (at_builtin; refine wpList_append_own_none rfl (.tmp 5) (.tmp 6) 25 rfl base 51 i0 2 Try.underlying25 hi0 _ a.length (rcells a) rfl HHA.out rfl ?_)
    go_ret
    exact ⟨_, _, rfl, HF.out, Below.refl _ _⟩
  · have HCC := Lib.hid (hb'.cells (g := g) rfl)
    have hla2 : a.length + b.length ≤ 2000 := by omega
    clear ha hb hba hbb hb' hh hrest hg
    generalize hnb : b.length = nb at *
    have HNB := Lib.hid hnb
    clear hnb
    go_enter Try.func63, Try.ntmps63
    go_wp2_with (at_builtin; refine wpList_append_own _ rfl (.tmp 5) (.tmp 6) 25 rfl base 51 i0 rgZero 2 16 Try.underlying25 hi0 hz0 hz1 hz2 rfl (by decide) _ a.length (rcells a) rfl HHA.out ⟨g, 0, none⟩ nb cap (rcells b) rfl hlen HCC.out hone (by unfold maxLen; omega) (by omega) hbase ?_; intro v' w4 hown4 hgr4 _; have HO4 := Lib.hid hown4; have HG4 := Lib.hid hgr4; clear hown4 hgr4)
    go_ret
    refine ⟨_, _, rfl, HFIN.out _ _ ?_, ?_⟩
    · have h := HO4.out
      unfold OwnR
      rw [rcells_append, List.length_append, HNB.out]
      exact h
    · exact (Below.refl base w).grown HG4.out hbase (fun k hk => (HHA.out.lt k hk).1)
theorem enters_append : Enters Try.prog 63 := enters_of Try.func63 (by kernel_rfl) rfl
theorem enters_meet : Enters Try.prog 26 := enters_of Try.func26 (by kernel_rfl) rfl

/-! ### lists of constraints -/
def LIn (B : Nat) (W : World) (a : Option Addr) (n cap : Nat) (ch : Nat → CT) : Prop := RowAt B W a n cap 6 (fun i => (ch i).cells) ∧ ∀ i, i < n → CIn B W (ch i)
theorem LIn.below {B B' : Nat} {W W' : World} {a : Option Addr} {n cap : Nat} {ch : Nat → CT} (h : LIn B W a n cap ch) (hb : Below B' W W') (hB : B ≤ B') : LIn B' W' a n cap ch := ⟨h.1.below hb hB, fun i hi => (h.2 i hi).below hb hB⟩
theorem LIn.take {B : Nat} {W : World} {a : Option Addr} {n cap : Nat} {ch : Nat → CT} (h : LIn B W a n cap ch) {k : Nat} (hk : k ≤ n) : LIn B W a k cap ch :=
  ⟨⟨Nat.le_trans hk h.1.1, h.1.2.1, fun e => by have := h.1.2.2.1 e; exact ⟨by omega, this.2⟩, fun h0 => by
    obtain ⟨g, o, e, hg, hc⟩ := h.1.2.2.2 (by omega)
    exact ⟨g, o, e, hg, fun i hi => hc i (by omega)⟩⟩, fun i hi => h.2 i (by omega)⟩
/-- from element k on -/
theorem LIn.drop {B : Nat} {W : World} {g o : Nat} {n cap : Nat} {ch : Nat → CT} (h : LIn B W (some ⟨g, o, none⟩) n cap ch) {k : Nat} (hk : k ≤ n) (o2 : Nat) (ho : k < cap → o2 = o + k * 6) : LIn B W (some ⟨g, o2, none⟩) (n - k) (cap - k) (fun i => ch (k + i)) := by
  refine ⟨⟨by have := h.1.1; omega, by have := h.1.2.1; omega, (fun e => by cases e), (fun h0 => ?_)⟩, fun i hi => h.2 (k + i) (by omega)⟩
  obtain ⟨g', o', e, hg, hc⟩ := h.1.2.2.2 (by omega)
  simp only [Option.some.injEq, Addr.mk.injEq, and_true] at e
  obtain ⟨rfl, rfl⟩ := e
  obtain rfl := ho (by have := h.1.1; omega)
  refine ⟨g, _, rfl, hg, fun i hi j u hj => ?_⟩
  have := hc (k + i) (by omega) j u hj
  rw [show o + k * 6 + i * 6 + j = o + (k + i) * 6 + j by rw [Nat.add_mul]; omega]
  exact this
/-- what 'admitted' answers -/
def AdmOK (c : CT) (k : Nat) : Prop := ∀ (B : Nat) (w : World), CIn B w c → B ≤ w.heap.size →
  Calls Try.prog 31 #[c.v, .int .i64 (k : Nat)] w fun e w' => ∃ v r, e = .returned v ∧ OwnA w.heap.size w' v (fun x => adm c k x = true) (2 * c.sz) r ∧ Below w.heap.size w w'
set_option maxHeartbeats 4000000 in
theorem combined_one (fn : FuncId) (k : Nat) (B : Nat) (w : World) (a : Option Addr) (cap : Nat) (ch : Nat → CT) (vs : Option Addr) (vn vc : Nat) (h : LIn B w a 1 cap ch) (hB : B ≤ w.heap.size) (hadm : AdmOK (ch 0) k) :
    Calls Try.prog 62 #[.slice a 1 cap, .int .i64 (k : Nat), .slice vs vn vc, .func (.func fn) #[] #[]] w fun e w' => ∃ v r, e = .returned v ∧ OwnA w.heap.size w' v (fun x => adm (ch 0) k x = true) (2 * (ch 0).sz) r ∧ Below w.heap.size w w' := by
  have HC := Lib.hid (hadm B w (h.2 0 (by omega)) hB)
  obtain ⟨gx, ox, op', lo', hi', low', high', a', n', cap', ch', hchi, hix, hgx, hrd⟩ := cRow_read h.1 (i := 0) (by omega) (h.2 0 (by omega))
  obtain ⟨k0, k1, k2, k3, k4, k5⟩ := hrd w rfl
  have hix0 : ∀ w, (Instr.indexAt 22 (.slice a 1 cap) (.int .i64 0)).run Try.prog w = .ok (.pointer (some ⟨gx, ox, none⟩)) w := hix
  generalize hp : (fun x => adm (ch 0) k x = true) = p at *
  generalize hK : 2 * (ch 0).sz = K at *
  rw [hchi] at HC
  simp only [CT.v, CT.cells] at HC
  clear h hB hadm hchi hrd hix hp hK
  go_enter Try.func62, Try.ntmps62
  go_wp2_with fail
  refine HC.out.mono ?_
  rintro e w1 ⟨v, r, rfl, h1, h2⟩
  have HA := Lib.hid h1
  have HB := Lib.hid h2
  obtain ⟨sa, na, ca, rfl⟩ := h1.1.shape
  clear h1 h2
  go_wp2_with fail
  go_ret
  exact ⟨_, r, rfl, HA.out, HB.out⟩
end Go.Proofs.Ytfnpjdglfaaegaa
