/-
  Package tags: 'staysAhead', 'tagsOf'.
-/
import Derived.Test.YtecedbjkebdeaaaTgJ
import Derived.Test.YtecedbjkebdeaaaTgX
namespace Go.Proofs.Ytecedbjkebdeaaa
open Go.RowKit Go.Maps Go.WideElems Go.ChangeMaps Go.MapKept Go.Shelf
set_option linter.unusedVariables false
set_option linter.unusedSimpArgs false
set_option maxRecDepth 100000

theorem pcells_at {B : Nat} {W : World} {p : PD} {t : TT} (h : TIn B W t) : (pcells p t).toArray[16]? = some (.bool p.opt) ∧ (pcells p t).toArray[17]? = some (.slice p.d.a p.d.n p.d.cap) := by
  have h1 := (one_tcells h).1
  constructor
  · show (pcells p t).toArray[16]? = _
    rw [List.getElem?_toArray]
    unfold pcells
    rw [List.getElem?_append_right (by simp [h1])]
    simp [h1]
  · rw [List.getElem?_toArray]
    unfold pcells
    rw [List.getElem?_append_right (by simp [h1])]
    simp [h1, DL.v]
def ahead (kd : Int) (p : PD) (added : Bool) : Bool := if kd = 10 then true else if kd = 8 then p.opt || decide (0 < p.d.n) || added else false
set_option maxHeartbeats 4000000 in
theorem ahead_ok (w : World) (B : Nat) (kd : Int) (p : PD) (t : TT) (added : Bool) (ht : TIn B w t) :
    Calls Try.prog 44 #[.int .i64 kd, .agg (pcells p t).toArray, .bool added] w fun e w' => e = .returned (.bool (ahead kd p added)) ∧ Below w.heap.size w w' := by
  have HX := Lib.hid (Bx.new w (pcells p t).toArray 42)
  obtain ⟨k1, k2⟩ := pcells_at (p := p) ht
  have c16 := HX.out.cell 16 k1
  have c17 := HX.out.cell 17 k2
  have HB := Lib.hid ((Below.refl w.heap.size w).alloc (Nat.le_refl _) (.cells (pcells p t).toArray 42))
  obtain ⟨cs, hcs⟩ : ∃ cs, (pcells p t).toArray = cs := ⟨_, rfl⟩
  rw [hcs] at c16 c17 HB ⊢
  clear HX k1 k2 hcs ht
  by_cases h10 : kd = 10
  · subst h10
    go_enter Try.func44, Try.ntmps44
    go_wp2_with fail
    go_ret
    exact ⟨rfl, HB.out⟩
  · have q1 : (kd == 10) = false := beq_eq_false_iff_ne.2 h10
    by_cases h8 : kd = 8
    · subst h8
      obtain ⟨o, ho⟩ : ∃ o, p.opt = o := ⟨_, rfl⟩
      obtain ⟨dn, hdn⟩ : ∃ dn, p.d.n = dn := ⟨_, rfl⟩
      have HV := Lib.hid (show ahead 8 p added = (o || decide (0 < dn) || added) by unfold ahead; rw [if_neg (by decide), if_pos rfl, ho, hdn])
      rw [ho] at c16
      rw [hdn] at c17
      clear ho hdn
      cases o with
      | true =>
        go_enter Try.func44, Try.ntmps44
        go_wp2_with fail
        go_ret
        exact ⟨by rw [HV.out]; rfl, HB.out⟩
      | false =>
        by_cases hd : 0 < dn
        · have q2 : decide ((0 : Int) < (dn : Int)) = true := decide_eq_true (by omega)
          have q2n : decide (0 < dn) = true := decide_eq_true hd
          rw [q2n] at HV
          go_enter Try.func44, Try.ntmps44
          go_wp2_with fail
          go_ret
          exact ⟨by rw [HV.out]; rfl, HB.out⟩
        · have q2 : decide ((0 : Int) < (dn : Int)) = false := decide_eq_false (by omega)
          have q2n : decide (0 < dn) = false := decide_eq_false hd
          rw [q2n] at HV
          go_enter Try.func44, Try.ntmps44
          go_wp2_with fail
          go_ret
          exact ⟨by rw [HV.out]; rfl, HB.out⟩
    · have q3 : (kd == 8) = false := beq_eq_false_iff_ne.2 h8
      have HV := Lib.hid (show ahead kd p added = false by unfold ahead; rw [if_neg h10, if_neg h8])
      go_enter Try.func44, Try.ntmps44
      go_wp2_with fail
      go_ret
      exact ⟨by rw [HV.out]; rfl, HB.out⟩
/-- what stays of a graph while parts are joined -/
structure JV (b : Nat) (ks : Option Nat) (V V' : GV) (w w' : World) : Prop where
  jm : Jm b ks w w'
  sm : V'.sm = V.sm
  own : ∀ k, k < w.heap.size → V.own k = .no → V'.own k = .no
theorem JV.refl (b : Nat) (ks : Option Nat) (V : GV) (w : World) : JV b ks V V w w := ⟨Jm.refl b ks w, rfl, fun _ _ h => h⟩
theorem JV.trans {b : Nat} {ks : Option Nat} {V1 V2 V3 : GV} {w1 w2 w3 : World} (h : JV b ks V1 V2 w1 w2) (k : JV b ks V2 V3 w2 w3) : JV b ks V1 V3 w1 w3 :=
  ⟨h.jm.trans k.jm, k.sm.trans h.sm, fun j hj ho => k.own j (Nat.lt_of_lt_of_le hj h.jm.size) (h.own j hj ho)⟩
theorem JV.weak {b : Nat} {ks : Option Nat} {V V' : GV} {w w' : World} (h : JV b none V V' w w') : JV b ks V V' w w' := ⟨h.jm.weak, h.sm, h.own⟩
theorem JV.of_below {b : Nat} {ks : Option Nat} {V : GV} {w w' : World} (h : Below w.heap.size w w') : JV b ks V V w w' := ⟨Jm.of_below h, rfl, fun _ _ h => h⟩
theorem JV.fresh {b : Nat} {ks : Option Nat} {k : Nat} {V0 V V' : GV} {w0 w w' : World} (h0 : JV b ks V0 V w0 w) (h : JV b (some k) V V' w w') (hk : w0.heap.size ≤ k) : JV b ks V0 V' w0 w' :=
  ⟨h0.jm.fresh h.jm hk, h.sm.trans h0.sm, fun j hj ho => h.own j (Nat.lt_of_lt_of_le hj h0.jm.size) (h0.own j hj ho)⟩
/-- a graph that is settled, all of it -/
def GFull (l : EL) (G : GL) : Prop := l.n ≤ G.m ∧ ∀ p, p < l.n → p ∈ G.R ∧ ∀ x, x ∈ univ → (G.S p x = true ↔ Tg l (l.f p).auto (l.f p).t x)
theorem Tg.ref_iff {l : EL} {t : TT} {x : Int} (hk : t.kd = 11) : Tg l false t x ↔ ∃ p, l.fnd t.nam = some p ∧ Tg l (l.f p).auto (l.f p).t x := by
  constructor
  · intro h
    cases h with
    | leaf h1 _ _ => exact absurd hk h1
    | alt h1 _ _ => rw [hk] at h1; cases h1
    | ref h1 h2 h3 => exact ⟨_, h2, h3⟩
  · rintro ⟨p, h1, h2⟩
    exact .ref hk h1 h2
theorem Tg.leaf_iff {l : EL} {t : TT} {x : Int} (h1 : t.kd ≠ 11) (h2 : t.kd ≠ 10) : Tg l false t x ↔ uni t.kd x = true := by
  constructor
  · intro h
    cases h with
    | leaf _ _ h => exact h
    | alt h3 _ _ => exact absurd h3 h2
    | ref h3 _ _ => exact absurd h3 h1
  · exact fun h => .leaf h1 h2 h
theorem TagsAt.ne {w : World} {p : Option Nat} {T : TS} {b : Nat} {cs : Array Value} {t : TypeId} (h : TagsAt w p T) (hb : Bx w b cs t) : ∀ k, p = some k → k ≠ b := by
  intro k hk e
  rcases h with ⟨h1, _⟩ | ⟨b', h1, h2⟩
  · rw [h1] at hk; cases hk
  · rw [h1] at hk
    cases hk
    obtain ⟨es, clock, h3, _⟩ := h2
    rw [e] at h3
    rw [hb] at h3
    cases h3
theorem TagsAt.block {w w' : World} {p : Option Nat} {T : TS} (h : TagsAt w p T) (hb : ∀ k, p = some k → w'.heap[k]? = w.heap[k]?) : TagsAt w' p T := by
  rcases h with h1 | ⟨b, h1, h2⟩
  · exact .inl h1
  · exact .inr ⟨b, h1, h2.block (hb b h1)⟩
set_option maxHeartbeats 4000000 in
theorem tagsOf_ok (B : Nat) (w : World) (b : Nat) (l : EL) (G : GL) (V : GV) (t : TT) (hG : GAt B w b l G V) (hB : B ≤ w.heap.size) (hl : EOk B w l) (ht : TIn B w t) (hF : GFull l G) (hk : t.kd ≠ 10) :
    Calls Try.prog 29 #[.pointer (some ⟨b, 0, none⟩), .agg t.cells.toArray] w fun e w' => ∃ p V' T, e = .returned (.map p) ∧ GAt B w' b l G V' ∧ JV b none V V' w w' ∧ TagsAt w' p T ∧ (∀ x, x ∈ univ → (T x = true ↔ Tg l false t x)) ∧ ∀ k, p = some k → k ≠ b := by
  obtain ⟨pa, pc, aa, ac, ea, ec, TC⟩ := ht.tcells
  have HXN := Lib.hid (Bx.new w t.cells.toArray 35)
  have c0 := HXN.out.cell 0 TC.kd
  have c1 := HXN.out.cell 1 TC.nm
  have hns := TC.ns
  have HB0 := Lib.hid (show Below w.heap.size w (w.alloc (.cells t.cells.toArray 35)) from (Below.refl w.heap.size w).alloc (Nat.le_refl _) _)
  have HGA := Lib.hid (show GAt B (w.alloc (.cells t.cells.toArray 35)) b l G V from GAtL.alloc hG _)
  have HLA := Lib.hid (hl.below (HB0.out.mono hB) (Nat.le_refl _))
  have HBA := Lib.hid (show B ≤ (w.alloc (.cells t.cells.toArray 35)).heap.size by simp; omega)
  have hblt := hG.bx.lt
  by_cases h11 : t.kd = 11
  · have HFD := Lib.hid (find_ok2 B _ b l G _ V t.nam HGA.out HBA.out HLA.out (by omega))
    have HTR := Lib.hid (fun x => Tg.ref_iff (l := l) (x := x) h11)
    rw [h11] at c0
    obtain ⟨nm, hnm⟩ : ∃ nm, t.nam = nm := ⟨_, rfl⟩
    rw [hnm] at c1 HFD HTR
    clear hG hl TC hk hnm
    cases hf : l.fnd nm with
    | none =>
      go_enter Try.func29, Try.ntmps29
      go_wp2_with fail
      refine HFD.out.mono ?_
      rintro e w1 ⟨⟨c, rfl, _⟩, V1, h1, h2, h3, h4⟩
      have H1 := Lib.hid h1
      have H2 := Lib.hid h2
      have H3 := Lib.hid (And.intro h3 h4)
      clear h1 h2 h3 h4 c0 c1
      rw [hf]
      go_wp2_with fail
      go_ret
      refine ⟨none, V1, TS.no, rfl, H1.out, ?_, .inl ⟨rfl, rfl⟩, fun x _ => ?_, fun k hk => by cases hk⟩
      · exact ⟨(Jm.of_below HB0.out).trans H3.out.2, H3.out.1, fun k hk ho => (H2.out.block k (by simp; omega) ho).2⟩
      · rw [HTR.out x]
        constructor
        · intro h; cases h
        · rintro ⟨p, h5, _⟩; rw [hf] at h5; cases h5
    | some p =>
      have hp := (EL.fst_lt hf).1
      have hpm : p < G.m := by have := hF.1; omega
      go_enter Try.func29, Try.ntmps29
      go_wp2_with fail
      refine HFD.out.mono ?_
      rintro e w1 ⟨⟨c, rfl, hc⟩, V1, h1, h2, h3, h4⟩
      obtain rfl := hc p hf
      obtain ⟨sg, scap, hsv, hsB, hslt, hixs, hcs⟩ := own_read 57 52 Try.underlying57 (by kernel_rfl) Try.sizeOf52 h1.s hpm
      have c3 := h1.bx.cell 3 (v := .slice (some ⟨sg, 0, none⟩) G.m scap) (by rw [← hsv]; rfl)
      have cs := hcs p _ (range_at hpm)
      obtain ⟨k0, hk0, ho0, hs0⟩ := (h1.sets p hpm).1 (.inl (hF.2 p hp).1)
      rw [hk0] at cs
      have hob := h1.ob
      have H1 := Lib.hid h1
      have H2 := Lib.hid h2
      have H3 := Lib.hid (And.intro h3 h4)
      have HS0 := Lib.hid hs0
      have HNE := Lib.hid (show k0 ≠ b from fun e => by rw [e, hob] at ho0; cases ho0)
      clear h1 h2 h3 h4 hc c0 c1 hcs hs0 hk0
      rw [hf]
      go_wp2_with fail
      go_ret
      refine ⟨some k0, V1, G.S p, rfl, H1.out, ?_, .inr ⟨k0, rfl, HS0.out⟩, fun x hx => ?_, fun k hk => by cases hk; exact HNE.out⟩
      · exact ⟨(Jm.of_below HB0.out).trans H3.out.2, H3.out.1, fun k hk ho => (H2.out.block k (by simp; omega) ho).2⟩
      · rw [HTR.out x, (hF.2 p hp).2 x hx]
        constructor
        · exact fun h => ⟨p, hf, h⟩
        · rintro ⟨q, h5, h6⟩; rw [hf] at h5; cases h5; exact h6
  · have q1 : (t.kd != 11) = true := bne_iff_ne.2 h11
    have HUN := Lib.hid (universal_ok (w.alloc (.cells t.cells.toArray 35)) t.kd)
    have HTR := Lib.hid (fun x => Tg.leaf_iff (l := l) (x := x) h11 hk)
    obtain ⟨kd, hkd⟩ : ∃ kd, t.kd = kd := ⟨_, rfl⟩
    rw [hkd] at c0 q1 HUN HTR
    have HGS := Lib.hid (fun (w1 : World) (hb : Below (w.alloc (.cells t.cells.toArray 35)).heap.size (w.alloc (.cells t.cells.toArray 35)) w1) => And.intro (GAtL.of_below HGA.out hb).1 (hb.mono (show w.heap.size ≤ (w.alloc (.cells t.cells.toArray 35)).heap.size by simp)))
    clear hG hl TC hkd hk h11
    go_enter Try.func29, Try.ntmps29
    go_wp2_with fail
    refine HUN.out.mono ?_
    rintro e w1 ⟨p, rfl, h4, h5⟩
    obtain ⟨h6, h7⟩ := HGS.out w1 h5
    have H4 := Lib.hid h4
    have H6 := Lib.hid h6
    have H7 := Lib.hid (HB0.out.trans h7)
    clear h4 h5 h6 h7 c0 c1
    go_wp2_with fail
    go_ret
    exact ⟨p, V, uni kd, rfl, H6.out, JV.of_below H7.out, H4.out, fun x _ => (HTR.out x).symm, H4.out.ne H6.out.bx⟩
end Go.Proofs.Ytecedbjkebdeaaa
