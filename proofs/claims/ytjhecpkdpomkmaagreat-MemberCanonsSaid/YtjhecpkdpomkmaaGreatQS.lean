/-
  A bundle of texts, one behind the other: MbL1, MbL2.
-/
import Derived.Test.YtjhecpkdpomkmaaGreatQR
import Derived.Test.YtjhecpkdpomkmaaGreatQRA
import Derived.Test.YtjhecpkdpomkmaaGreatQJ
import Derived.Deep.RegionLaw
import Derived.Laws.OwnMore
namespace Go.Proofs.YtjhecpkdpomkmaaGreat
open Go.RowKit
set_option linter.unusedVariables false
set_option linter.unusedSimpArgs false
set_option maxRecDepth 100000

set_option maxHeartbeats 4000000 in
theorem FewValues_ok (B : Nat) (w : World) (D : DL) (y : Int) (hd : DLIn B w D) (hB : B ≤ w.heap.size) (h1 : -4611686018427387904 ≤ y) (h2 : y ≤ 4611686018427387904) :
    Calls Tryz.prog 33 #[.slice D.a D.n D.cap, .int .i64 y] w fun e w' => e = .returned (.bool (decide (0 ≤ D.fewD y))) ∧ Below w.heap.size w w' := by
  have hf := fewDefs_ok B D.vt y w hd.vt hB h1 h2
  have HF := Lib.hid (show Calls Tryz.prog 51 #[.slice D.a D.n D.cap, .int .i64 y] w fun e w' => e = .returned (.int .i64 (D.fewD y)) ∧ Below w.heap.size w w' from hf)
  generalize D.fewD y = z at *
  generalize D.a = a at *
  generalize D.n = n at *
  generalize D.cap = cap at *
  clear hf hd hB h1 h2
  cases hz : decide ((0 : Int) ≤ z) with
  | true =>
    have hz1 : (0 : Int) ≤ z := of_decide_eq_true hz
    go_enter Tryz.func33, Tryz.ntmps33
    go_wp2_with fail
    refine HF.out.mono ?_
    rintro e w2 ⟨rfl, h2⟩
    have HB2 := Lib.hid h2
    clear h2
    go_wp2_with fail
    go_ret
    exact ⟨by first | rfl | simp [hz1], HB2.out⟩
  | false =>
    have hz1 : ¬ (0 : Int) ≤ z := of_decide_eq_false hz
    go_enter Tryz.func33, Tryz.ntmps33
    go_wp2_with fail
    refine HF.out.mono ?_
    rintro e w2 ⟨rfl, h2⟩
    have HB2 := Lib.hid h2
    clear h2
    go_wp2_with fail
    go_ret
    exact ⟨by first | rfl | simp [hz1], HB2.out⟩
def fewV (v : VT) : Bool := decide (0 ≤ fewN (fun _ z => v.few z) 1 300)
def VT.tx : VT → ByteArray
  | .nil => ⟨#[]⟩
  | .mk _ _ s .. => s
set_option maxHeartbeats 8000000 in
theorem few15_ok (B : Nat) (w : World) (v : VT) (hv : VIn B w v) (hB : B ≤ w.heap.size) :
    Calls Tryz.prog 12 #[.agg v.cells.toArray] w fun e w' => e = .returned (.bool (fewV v && decide (v.tx.size ≤ 10000))) ∧ Below w.heap.size w w' := by
  obtain ⟨k0, m0, s0, nm0, a0, n0, cap0, ch0, rfl⟩ := vin_mk hv
  have hb0 := (Below.refl w.heap.size w).alloc (Nat.le_refl _) (.cells #[.int .i64 k0, .int .i64 m0, .string s0, .slice nm0.a nm0.n nm0.cap, .slice a0 n0 cap0] 26)
  have hb1 := hb0.alloc hb0.size (.cells #[.int .i64 k0, .int .i64 m0, .string s0, .slice nm0.a nm0.n nm0.cap, .slice a0 n0 cap0] 26)
  have hxa := (Bx.new w #[.int .i64 k0, .int .i64 m0, .string s0, .slice nm0.a nm0.n nm0.cap, .slice a0 n0 cap0] 26)
  have hxb := Bx.new (w.alloc (.cells #[.int .i64 k0, .int .i64 m0, .string s0, .slice nm0.a nm0.n nm0.cap, .slice a0 n0 cap0] 26)) #[.int .i64 k0, .int .i64 m0, .string s0, .slice nm0.a nm0.n nm0.cap, .slice a0 n0 cap0] 26
  rw [World.size_alloc] at hxb
  have HSZ := Lib.hid (show ((w.alloc (.cells #[.int .i64 k0, .int .i64 m0, .string s0, .slice nm0.a nm0.n nm0.cap, .slice a0 n0 cap0] 26)).alloc (.cells #[.int .i64 k0, .int .i64 m0, .string s0, .slice nm0.a nm0.n nm0.cap, .slice a0 n0 cap0] 26)).heap.size = w.heap.size + 1 + 1 from by simp only [World.size_alloc])
  have HF := Lib.hid (FewValues_ok (w.heap.size + 1 + 1) ((w.alloc (.cells #[.int .i64 k0, .int .i64 m0, .string s0, .slice nm0.a nm0.n nm0.cap, .slice a0 n0 cap0] 26)).alloc (.cells #[.int .i64 k0, .int .i64 m0, .string s0, .slice nm0.a nm0.n nm0.cap, .slice a0 n0 cap0] 26)) ⟨some ⟨w.heap.size + 1, 0, none⟩, 1, 1, fun _ => .mk k0 m0 s0 nm0 a0 n0 cap0 ch0⟩ 300
    ⟨⟨Nat.le_refl _, (show (1 : Nat) ≤ 140737488355328 by decide), fun h => (by cases h), fun _ => ⟨w.heap.size + 1, 0, rfl, by omega, fun i hi j u hj => by
      obtain rfl : i = 0 := by simpa using hi
      rw [Nat.zero_mul, Nat.add_zero, Nat.zero_add]
      have h2 : (VT.mk k0 m0 s0 nm0 a0 n0 cap0 ch0).cells[j]? = some u := hj
      rw [list5] at h2
      exact hxb.cell j (by simpa using h2)⟩⟩, fun i hi => ((hv.below (Below.refl _ _) hB).below hb1 (Nat.le_refl _)).below (Below.refl _ _) (by omega)⟩ (by rw [HSZ.out]; exact Nat.le_refl _) (by omega) (by omega))
  rw [HSZ.out] at HF
  have HL := Lib.hid (show fewV (.mk k0 m0 s0 nm0 a0 n0 cap0 ch0) = decide (0 ≤ DL.fewD ⟨some ⟨w.heap.size + 1, 0, none⟩, 1, 1, fun _ => .mk k0 m0 s0 nm0 a0 n0 cap0 ch0⟩ 300) from rfl)
  rw [← HL.out] at HF
  rw [list5]
  have HXA := Lib.hid (hxa.alloc (.cells #[.int .i64 k0, .int .i64 m0, .string s0, .slice nm0.a nm0.n nm0.cap, .slice a0 n0 cap0] 26))
  have HXA0 := Lib.hid hxa
  have HB1 := Lib.hid hb1
  show Calls _ _ _ _ fun e w' => e = .returned (.bool (fewV (.mk k0 m0 s0 nm0 a0 n0 cap0 ch0) && decide (s0.size ≤ 10000))) ∧ Below w.heap.size w w'
  generalize fewV (.mk k0 m0 s0 nm0 a0 n0 cap0 ch0) = z at *
  clear hb0 hb1 hxa hxb hv hB HL
  go_enter Tryz.func12, Tryz.ntmps12
  go_wp2_with (refine wpList_load_mid rfl 26 (.tmp 1) rfl w.heap.size 0 rfl [.int .i64 k0, .int .i64 m0, .string s0, .slice nm0.a nm0.n nm0.cap, .slice a0 n0 cap0] _ HXA0.out.range Tryz.underlying26 rfl (by rw [info_V]; rfl) ?_)
  refine HF.out.mono ?_
  rintro e w2 ⟨rfl, h2⟩
  have HB2 := Lib.hid (HB1.out.trans (h2.mono (by omega)))
  have hx2 := HXA.out.below h2 (by omega)
  have c2 := hx2.cell 2 (v := .string s0) rfl
  clear h2 hx2
  cases z with
  | true =>
    go_wp2_with fail
    go_ret
    refine ⟨?_, HB2.out⟩
    show Ending.returned (Value.bool (decide ((s0.size : Int) ≤ 10000))) = _
    rw [show decide ((s0.size : Int) ≤ 10000) = decide (s0.size ≤ 10000) from by rw [Bool.eq_iff_iff, decide_eq_true_iff, decide_eq_true_iff]; omega]
    rfl
  | false =>
    go_wp2_with fail
    go_ret
    exact ⟨rfl, HB2.out⟩
end Go.Proofs.YtjhecpkdpomkmaaGreat

namespace Go.Proofs.YtjhecpkdpomkmaaGreat
open Go.RowKit
set_option linter.unusedVariables false
set_option linter.unusedSimpArgs false
set_option maxRecDepth 100000

/-- an append in a region that draws its order, of what may be nothing -/
theorem step_append_rowM {ops : Array Oper} {o : Oper} {a : Act} {w : World} {K : Act → World → Prop} {Q : Exit → Act → World → Prop} {E : Prop} (hgd : o.guard = none) (s x : Operand) (t : TypeId)
    (ho : o.op = .call { callee := .builtin .append, args := #[s, x], argTypes := #[t, t] })
    (base : Nat) (e : TypeId) (i : TypeInfo) (z : Value) (size bytes : Nat) (ht : Tryz.prog.underlying t = some (.slice e)) (hi : Tryz.prog.info? e = some i) (hz : i.zero = some z)
    (hsize : i.size = size) (hby : i.bytes = bytes) (hzs : z.cells.size = size) (hsz : 0 < size)
    (v : Value) (n : Nat) (xs : List Value) (hs : a.eval s = v) (hown : w.ownsRow base e size v n xs)
    (ad : Option Addr) (m c : Nat) (news : List Value) (hx : a.eval x = .slice ad m c) (hl : news.length = m * size) (hn : (ad = none ∧ m = 0 ∧ c = 0) ∨ ∃ d, ad = some d ∧ ∀ j u, news[j]? = some u → w.cell? (d.add j) = some u) (h1 : ∀ u ∈ news, u.oneCell' = true)
    (h63 : n + m ≤ maxLen) (hbytes : (n + m) * bytes ≤ 140737488355328) (hbase : base ≤ w.heap.size)
    (h : ∀ v' w', w'.ownsRow base e size v' (n + m) (xs ++ news) → w.grownBy w' v.ownBlock → K (a.put o.dst v') w') :
    if Region.wanted o (yielded ops a.tmps) = true then Oper.wp Tryz.prog o a w K Q else E := by
  have hw : Region.wanted o (yielded ops a.tmps) = true := by simp [Region.wanted, hgd]
  rw [if_pos hw]
  rcases hn with ⟨rfl, rfl, rfl⟩ | ⟨d, rfl, hc⟩
  · rw [Nat.zero_mul] at hl
    obtain rfl := List.eq_nil_of_length_eq_zero hl
    have hrun := run_append_owned_none (P := Tryz.prog) (w := w) base t o.type e i size ht hi v n xs hown
    unfold Oper.wp
    simp [execOp, ho, resolve, invoke, builtin, hs, hx, hrun, Result.andThen]
    exact h v w (by simpa using hown) (World.grownBy.refl _ _)
  · exact wp_append_own w s x t ho base e i z size bytes ht hi hz hsize hby hzs hsz v n xs hs hown d m c news hx hl hc h1 h63 hbytes hbase fun v' w' h2 h3 _ => h v' w' h2 h3
set_option maxHeartbeats 16000000 in
theorem Fields_ok (B : Nat) (w : World) (r : DT) (hr : DTIn B w r) (hB : B ≤ w.heap.size) (hpn : r.pa.n ≤ 10000) (han : r.ad.n ≤ 10000) :
    Calls Tryz.prog 24 #[.agg r.cells.toArray] w fun e w' => ∃ v, e = .returned v ∧ PRowF w.heap.size w' v r.count (fun k => (r.part k).cells) ∧ Below w.heap.size w w' := by
  obtain ⟨i0, hi0, hz0, hz1, hz2⟩ := info_parts info_PzF
  have hp := hr.2.2.2.2.1.1
  have ha := hr.2.2.2.2.2.1.1
  have hlf : ∀ i, i < r.pa.n → ((fun i => (r.pa.f i).cells) i).length = 4 := fun i _ => (one_fcells (r.pa.f i)).1
  have hlg : ∀ i, i < r.ad.n → ((fun i => (r.ad.f i).cells) i).length = 4 := fun i _ => (one_fcells (r.ad.f i)).1
  have HN1 := Lib.hid (row_newsF hp hlf)
  have HN2 := Lib.hid (row_newsF ha hlg)
  have HL1 := Lib.hid (flat_len hlf)
  have HL2 := Lib.hid (flat_len hlg)
  have HO1 := Lib.hid (flat_one (f := fun i => (r.pa.f i).cells) (n := r.pa.n) fun i _ => (one_fcells (r.pa.f i)).2)
  have HO2 := Lib.hid (flat_one (f := fun i => (r.ad.f i).cells) (n := r.ad.n) fun i _ => (one_fcells (r.ad.f i)).2)
  have HFIN := Lib.hid (show ∀ (W : World) (v : Value), W.ownsRow w.heap.size 48 4 v (0 + r.pa.n + r.ad.n) ([] ++ flat (fun i => (r.pa.f i).cells) r.pa.n ++ flat (fun i => (r.ad.f i).cells) r.ad.n) → PRowF w.heap.size W v r.count (fun k => (r.part k).cells) from fun W v h => by
    rw [List.nil_append, flat_add, Nat.zero_add] at h
    have e1 : (fun k => (r.part k).cells) = (fun i => if i < r.pa.n then (r.pa.f i).cells else (r.ad.f (i - r.pa.n)).cells) := by
      funext k
      unfold DT.part
      split <;> rfl
    rw [e1]
    refine PRowF.of (fun i hi => ?_) h
    split
    · exact (one_fcells _).1
    · exact (one_fcells _).1)
  have HBB := Lib.hid hB
  have hb0 := (Below.refl w.heap.size w).alloc (Nat.le_refl _) (.cells r.cells.toArray 46)
  have hx := Bx.new w r.cells.toArray 46
  have c8 := hx.cell 8 (v := .slice r.pa.a r.pa.n r.pa.cap) rfl
  have c9 := hx.cell 9 (v := .slice r.ad.a r.ad.n r.ad.cap) rfl
  have HX := Lib.hid hx
  have HB0 := Lib.hid hb0
  generalize flat (fun i => (r.pa.f i).cells) r.pa.n = F1 at *
  generalize flat (fun i => (r.ad.f i).cells) r.ad.n = F2 at *
  generalize PRowF w.heap.size = PR at *
  generalize r.pa.a = pa at *
  generalize r.pa.n = pn at *
  generalize r.pa.cap = pc at *
  generalize r.ad.a = aa at *
  generalize r.ad.n = an at *
  generalize r.ad.cap = ac at *
  clear hp ha hlf hlg hr hB hx hb0
  go_enter Tryz.func24, Tryz.ntmps24
  go_wp2_with fail
  generalize w.alloc (.cells r.cells.toArray 46) = W0 at *
  have hs0 : w.heap.size ≤ W0.heap.size := HB0.out.size
  have HOA0 := Lib.hid (World.ownsRow_lit (base := w.heap.size) (e := 48) (size := 4) W0 #[] 0 hs0 (by unfold maxLen; omega) (by rfl))
  have HB1 := Lib.hid (show Below w.heap.size w (W0.alloc (.cells #[] 48)).drew from Below.drew (HB0.out.alloc hs0 _))
  have HBX := Lib.hid (show Below W0.heap.size W0 (W0.alloc (.cells #[] 48)).drew from Below.drew ((Below.refl _ _).alloc (Nat.le_refl _) _))
  have HCC := Lib.hid (show ∀ W, Below W0.heap.size W0 W → W.cell? ⟨w.heap.size, 8, none⟩ = some (.slice pa pn pc) ∧ W.cell? ⟨w.heap.size, 9, none⟩ = some (.slice aa an ac) from fun W hb => ⟨(hb.cell (p := ⟨w.heap.size, 8, none⟩) HX.out.lt).trans c8, (hb.cell (p := ⟨w.heap.size, 9, none⟩) HX.out.lt).trans c9⟩)
  obtain ⟨k8, k9⟩ := HCC.out _ HBX.out
  go_region_law (first
    | (refine step_append_rowM (by rfl) (.tmp 6) (.tmp 8) 43 (by rfl) w.heap.size 48 i0 zeroF 4 56 Tryz.underlying43 hi0 hz0 hz1 hz2 (by rfl) (by decide) v1 (0 + pn) ([] ++ F1) (by rfl) HOA.out aa an ac F2 (by rfl) HL2.out (HN2.out.imp id fun ⟨d, h1, h2⟩ => ⟨d, h1, h2 _ (HBA.out.mono HBB.out)⟩) HO2.out (by unfold maxLen; omega) (by omega) HBA.out.size ?_; intro v2 w5 ho hg; have HOC := Lib.hid ho; have HBC := Lib.hid (show Below w.heap.size w w5 from HBA.out.grown hg HBA.out.size (fun j hj => (HOA.out.lt j hj).1)); clear ho hg)
    | (refine step_append_rowM (by rfl) (.tmp 3) (.tmp 5) 43 (by rfl) w.heap.size 48 i0 zeroF 4 56 Tryz.underlying43 hi0 hz0 hz1 hz2 (by rfl) (by decide) _ 0 [] (by rfl) HOA0.out pa pn pc F1 (by rfl) HL1.out (HN1.out.imp id fun ⟨d, h1, h2⟩ => ⟨d, h1, h2 _ (HB1.out.mono HBB.out)⟩) HO1.out (by unfold maxLen; omega) (by omega) HB1.out.size ?_; intro v1 w4 ho hg; have HOA := Lib.hid ho; have HBA := Lib.hid (show Below w.heap.size w w4 from HB1.out.grown hg HB1.out.size (fun j hj => (HOA0.out.lt j hj).1)); have k9b := (HCC.out w4 (HBX.out.grown hg HBX.out.size (fun j hj => by cases hj; exact Nat.le_refl _))).2; clear ho hg))
  all_goals (go_wp2_with fail; go_ret; exact ⟨_, rfl, HFIN.out _ _ HOC.out, HBC.out⟩)
end Go.Proofs.YtjhecpkdpomkmaaGreat
