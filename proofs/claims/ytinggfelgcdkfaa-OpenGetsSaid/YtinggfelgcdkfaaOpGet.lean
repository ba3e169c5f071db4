/-
  Package open: the lengths of fragments (counts), and GetOpen.
-/
import Derived.Test.YtinggfelgcdkfaaOpCut
import Derived.Test.YtinggfelgcdkfaaLGet
import Derived.RangeFuncBox
namespace Go.Proofs.Ytinggfelgcdkfaa
open Go.RowKit Go.Shelf
set_option linter.unusedVariables false
set_option linter.unusedSimpArgs false
set_option maxRecDepth 100000

attribute [local go_sem] Oper.semAt_some

/-- what stays while GetOpen runs: its boxes and those of counts -/
structure Gbox (w0 : World) (b : Nat) (al : Bool) (W : World) : Prop where
  only : Only b w0 W
  rd : Cel W w0.heap.size 40 (.pointer (some ⟨b, 0, none⟩))
  res1 : Cel W (w0.heap.size + 1) 22 (.slice none 0 0)
  res2 : Cel W (w0.heap.size + 2) 27 (.int .i64 0)
  rd2 : Cel W (w0.heap.size + 4) 40 (.pointer (some ⟨b, 0, none⟩))
  al : Cel W (w0.heap.size + 5) 4 (.bool al)
theorem Gbox.step {w0 : World} {b : Nat} {al : Bool} {W W' : World} (h : Gbox w0 b al W) (hb : b < w0.heap.size) (ho : Only b W W') : Gbox w0 b al W' :=
  ⟨h.only.trans ho, h.rd.only ho (by omega), h.res1.only ho (by omega), h.res2.only ho (by omega), h.rd2.only ho (by omega), h.al.only ho (by omega)⟩
theorem Gbox.bk {w0 : World} {b : Nat} {al : Bool} {W : World} {l : Nat} {o : Obj} (h : Gbox w0 b al W) (hB : w0.heap.size ≤ l) (hl : W.heap[l]? = some o) (hc : o.isCells = false) (o' : Obj) : Gbox w0 b al (W.putObj l o') :=
  ⟨h.only.put (o := o) hB o', h.rd.bk hl hc o', h.res1.bk hl hc o', h.res2.bk hl hc o', h.rd2.bk hl hc o', h.al.bk hl hc o'⟩
theorem Cel.old {W W' : World} {k B : Nat} {t : TypeId} {v : Value} (h : Cel W k t v) (ho : Below B W W') (hk : k < B) : Cel W' k t v := (ho.block k hk).trans h
theorem Only.old {w0 W W' : World} {b B : Nat} (h : Only b w0 W) (ho : Below B W W') (hB : w0.heap.size ≤ B) : Only b w0 W' :=
  ⟨ho.os.trans h.os, ho.tape.trans h.tape, ho.output.trans h.output, Nat.le_trans h.size ho.size, fun k hk hb => (ho.block k (by omega)).trans (h.block k hk hb)⟩
theorem Gbox.old {w0 : World} {b : Nat} {al : Bool} {W W' : World} (h : Gbox w0 b al W) (ho : Below (w0.heap.size + 6) W W') : Gbox w0 b al W' :=
  ⟨h.only.old ho (by omega), h.rd.old ho (by omega), h.res1.old ho (by omega), h.res2.old ho (by omega), h.rd2.old ho (by omega), h.al.old ho (by omega)⟩
theorem Gbox.set {w0 : World} {b : Nat} {al : Bool} {W : World} (h : Gbox w0 b al W) (u : Value) : Gbox w0 b al (W.setCell ⟨w0.heap.size + 3, 0, none⟩ u) :=
  ⟨h.only.set (by omega) _, h.rd.other _ _ _ (by omega), h.res1.other _ _ _ (by omega), h.res2.other _ _ _ (by omega), h.rd2.other _ _ _ (by omega), h.al.other _ _ _ (by omega)⟩
/-- a Reader and its octets lie below B -/
theorem RdAt.old {W W' : World} {b B : Nat} {s : Value} {L : List Nat} {p : Nat} (h : RdAt W b s L p) (hb : b < B) (hd : ∀ g' o cap, s = .slice (some ⟨g', o, none⟩) L.length cap → L ≠ [] → g' < B) (ho : Below B W W') : RdAt W' b s L p := by
  obtain ⟨h1, h2, h3⟩ := h
  refine ⟨(ho.block b hb).trans h1, ?_, h3⟩
  rcases h2 with ⟨h0, g, o, cap, cs, fr, e, hg, hd2⟩ | h2
  · have hgB := hd g o cap e h0
    refine .inl ⟨h0, g, o, cap, cs, fr, e, (ho.block g hgB).trans hg, fun i hi => ?_, hd2.byte⟩
    exact (ho.cell (p := ⟨g, o + i, none⟩) hgB).trans (hd2.cell i hi)
  · exact .inr h2

/-- the octets gathered so far -/
def AllAt (w0 W : World) (acc : List Nat) : Prop := ∃ v, Cel W (w0.heap.size + 3) 22 v ∧ W.ownsRow (w0.heap.size + 6) 5 1 v acc.length (u8s acc) ∧ ∀ i, acc.getD i 0 < 256
theorem ownsRow_only {W W' : World} {base b e n : Nat} {v : Value} {xs : List Value} (h : W.ownsRow base e 1 v n xs) (ho : Only b W W') (hb : b < base) : W'.ownsRow base e 1 v n xs := by
  obtain ⟨h1, h2 | ⟨g, cap, cur, hv, hg, hh, r⟩⟩ := h
  · exact ⟨h1, .inl h2⟩
  · exact ⟨h1, .inr ⟨g, cap, cur, hv, hg, (ho.block g (Array.getElem?_eq_some_iff.1 hh).1 (by omega)).trans hh, r⟩⟩
theorem AllAt.step {w0 : World} {b : Nat} {acc : List Nat} {W W' : World} (h : AllAt w0 W acc) (hb : b < w0.heap.size) (ho : Only b W W') : AllAt w0 W' acc := by
  obtain ⟨v, h1, h2, h3⟩ := h
  exact ⟨v, h1.only ho (by omega), ownsRow_only h2 ho (by omega), h3⟩
theorem AllAt.bk {w0 : World} {acc : List Nat} {W : World} {l : Nat} {o : Obj} (h : AllAt w0 W acc) (hl : W.heap[l]? = some o) (hc : o.isCells = false) (o' : Obj) : AllAt w0 (W.putObj l o') acc := by
  obtain ⟨v, h1, h2, h3⟩ := h
  exact ⟨v, h1.bk hl hc o', ownsRow_putObj h2 o' hl hc, h3⟩
theorem AllAt.sl {w0 W : World} {acc : List Nat} (h : AllAt w0 W acc) : ∃ v, Cel W (w0.heap.size + 3) 22 v ∧ SlAt W v acc := by
  obtain ⟨v, h1, h2, h3⟩ := h
  refine ⟨v, h1, ?_⟩
  by_cases h0 : acc = []
  · subst h0
    rcases h2.2 with ⟨rfl, _⟩ | ⟨g, cap, cur, rfl, _⟩
    · exact .inr ⟨rfl, _, _, rfl⟩
    · exact .inr ⟨rfl, _, _, rfl⟩
  · have hl : 0 < acc.length := by cases acc <;> simp_all
    obtain ⟨g, cap, rfl, hd⟩ := own_data h2 hl h3
    exact .inl ⟨g, 0, cap, rfl, hd⟩
theorem own_shape {W : World} {base e size k : Nat} {v : Value} {xs : List Value} (h : W.ownsRow base e size v k xs) : ∃ a cap, v = .slice a k cap := by
  rcases h.2 with ⟨rfl, rfl⟩ | ⟨g, cap, _, rfl, _⟩
  · exact ⟨_, _, rfl⟩
  · exact ⟨_, _, rfl⟩

/-- the answer was an error -/
def GX (w0 : World) (b : Nat) (s : Value) (L : List Nat) (fin : Ro) (W : World) : Prop :=
  fin.l = [] ∧ Cel W (w0.heap.size + 1) 22 (.slice none 0 0) ∧ Cel W (w0.heap.size + 2) 27 (.int .i64 fin.e) ∧ RdAt W b s L fin.p ∧ Only b w0 W
theorem GX.bk {w0 : World} {b : Nat} {s : Value} {L : List Nat} {fin : Ro} {W : World} {l : Nat} {o : Obj} (h : GX w0 b s L fin W) (hB : w0.heap.size ≤ l) (hl : W.heap[l]? = some o) (hc : o.isCells = false) (o' : Obj) : GX w0 b s L fin (W.putObj l o') :=
  ⟨h.1, h.2.1.bk hl hc o', h.2.2.1.bk hl hc o', h.2.2.2.1.bk hl hc o', h.2.2.2.2.put (o := o) hB o'⟩

/-- one length: the octets that follow, an error, where the reader stands, the octets so far -/
structure Cnt where
  v : Nat
  e : Int
  p : Nat
  acc : List Nat
def cntM (w0 : World) (b : Nat) (al : Bool) (s : Value) (L : List Nat) (fin : Ro) (x : Cnt) (W : World) : Prop :=
  RdAt W b s L x.p ∧ Gbox w0 b al W ∧ AllAt w0 W x.acc ∧ (x.e ≠ 0 → fin = ⟨x.e, [], x.p⟩) ∧ (x.e = 0 → oerr L x.p x.v ≠ 0 → fin = ⟨oerr L x.p x.v, [], opos L x.p x.v⟩) ∧ (x.e = 0 → x.acc.length + x.v ≤ 1048576)
def cntN (w0 : World) (b : Nat) (al : Bool) (s : Value) (L : List Nat) (x : Cnt) (W : World) : Prop :=
  x.e = 0 ∧ oerr L x.p x.v = 0 ∧ RdAt W b s L (opos L x.p x.v) ∧ Gbox w0 b al W ∧ AllAt w0 W (x.acc ++ olst L x.p x.v)
def RelCnt (w0 : World) (b : Nat) (al : Bool) (s : Value) (L : List Nat) (fin : Ro) (K : World → Prop) (lv tv mv : Value) (W : World) : Prop :=
  ∃ (f p last : Nat) (acc : List Nat) (mb : Bool), lv = .int .i64 last ∧ tv = .int .i64 acc.length ∧ mv = .bool mb ∧ RdAt W b s L p ∧ Gbox w0 b al W ∧ AllAt w0 W acc ∧ K W ∧ acc.length ≤ 1048576 ∧ last ≤ 65536 ∧
    (mb = true → roGo al L f p last acc = fin ∧ 1048577 ≤ acc.length + 16384 * f) ∧ (mb = false → fin = ⟨0, acc, p⟩)
theorem relCnt_next {w0 W : World} {b : Nat} {al : Bool} {s : Value} {L : List Nat} {fin : Ro} {K : World → Prop} {f v q : Nat} {acc : List Nat} {m : Bool} (hr : RdAt W b s L (opos L q v)) (hg : Gbox w0 b al W) (ha : AllAt w0 W (acc ++ olst L q v)) (hk : K W)
    (ho : oerr L q v = 0) (hle : acc.length + v ≤ 1048576) (hv : v ≤ 65536) (hm : m = true → 16384 ≤ v) (hf : 1048577 ≤ acc.length + 16384 * (f + 1))
    (hgo : (if m = true then roGo al L f (opos L q v) v (acc ++ olst L q v) else ⟨0, acc ++ olst L q v, opos L q v⟩) = fin) (t : Int) (ht : t = (acc.length : Int) + (v : Int)) :
    RelCnt w0 b al s L fin K (.int .i64 v) (.int .i64 t) (.bool m) W ∧ (1048577 - (intOf (.int .i64 t)).toNat) + moreN (.bool m) < (1048577 - acc.length) + 1 := by
  have hol := olst_len0 L q v ho
  subst ht
  refine ⟨⟨f, _, v, _, m, rfl, by rw [List.length_append, hol, Int.natCast_add], rfl, hr, hg, ha, hk, by rw [List.length_append]; omega, hv, fun h => ?_, fun h => ?_⟩, ?_⟩
  · rw [if_pos h] at hgo
    have := hm h
    exact ⟨hgo, by rw [List.length_append]; omega⟩
  · rw [if_neg (by rw [h]; simp)] at hgo
    exact hgo.symm
  · cases m with
    | true =>
      have := hm rfl
      show 1048577 - ((acc.length : Int) + v).toNat + 1 < _
      omega
    | false =>
      show 1048577 - ((acc.length : Int) + v).toNat + 0 < _
      omega
set_option maxHeartbeats 4000000 in
theorem counts1_ok (l : Nat) (K Kx : World → Prop) (hK : ∀ A B, KeepsOthers A B → K A → K B) (w0 : World) (b : Nat) (hb : b < w0.heap.size) (al : Bool) (s : Value) (L : List Nat) (hL : L.length ≤ 1000000000) (p0 : Nat) (fin : Ro) (hfin : rdOpen al L p0 = fin)
    (n : Nat) (hY : ∀ (x : Cnt) W, cntM w0 b al s L fin x W → K W → YieldAt Fence.wide (n - 1) Try.prog l #[.int .i64 x.v, .int .i64 x.e] W fun e W' => (e = .returned (.bool true) ∧ cntN w0 b al s L x W' ∧ K W') ∨ (e = .returned (.bool false) ∧ GX w0 b s L fin W' ∧ Kx W'))
    (W : World) (hW : RdAt W b s L p0) (hP : Gbox w0 b al W) (hA : AllAt w0 W []) (hKW : K W) :
    CallsIn Fence.wide n Try.prog 76 #[.func (.yield l) #[] #[], .pointer (some ⟨w0.heap.size + 4, 0, none⟩), .pointer (some ⟨w0.heap.size + 5, 0, none⟩)] W fun e W' =>
      (∃ v, e = .returned v) ∧ ((fin.e = 0 ∧ RdAt W' b s L fin.p ∧ Gbox w0 b al W' ∧ AllAt w0 W' fin.l ∧ K W') ∨ (GX w0 b s L fin W' ∧ Kx W')) := by
  refine callsIn_of_wp Try.func76 rfl trivial ?_ rfl
  simp only [Try.ntmps76, List.size_toArray, List.length_cons, List.length_nil, Nat.reduceAdd, Nat.reduceSub, Array.replicate_succ, Array.replicate_zero, List.push_toArray, List.append_toArray, List.nil_append, List.cons_append]
  have HW := Lib.hid hW
  have HP := Lib.hid hP
  have HA := Lib.hid hA
  have HF := Lib.hid hfin
  clear hW hP hA hfin
  gi_wp2
  gi_loopw [4, 5, 6] (fun lv tv mv wr => RelCnt w0 b al s L fin K lv tv mv wr) (fun lv tv mv wr => (1048577 - (intOf tv).toNat) + moreN mv)
  case atStart =>
    exact ⟨65, p0, 65536, [], true, rfl, rfl, rfl, HW.out, HP.out, HA.out, hKW, by simp, by omega, fun _ => ⟨HF.out, by simp⟩, (fun h => by cases h)⟩
  case round =>
    obtain ⟨f, p, last, acc, mb, rfl, rfl, rfl, hr, hg, ha, hk, hacc, hlast, ht, hf⟩ := hrel
    cases mb with
    | false =>
      have HFN := Lib.hid (hf rfl)
      have HW1 := Lib.hid hr
      have HP1 := Lib.hid hg
      have HA1 := Lib.hid ha
      clear hr hg ha ht hf
      gi_wp2
      go_end0
      rw [HFN.out]
      exact ⟨⟨_, rfl⟩, .inl ⟨rfl, HW1.out, HP1.out, HA1.out, hk⟩⟩
    | true =>
      obtain ⟨hgo, hfu⟩ := ht rfl
      obtain ⟨f, rfl⟩ : ∃ f', f = f' + 1 := ⟨f - 1, by omega⟩
      unfold roGo at hgo
      have hc1 := hg.rd2.cell
      have hc2 := hg.al.cell
      have hget := lget_open wr b L p al hr hL
      have hov := rlF_v al L p
      have hom := rlF_m al L p
      have hob := rlF_bad al L p
      generalize rlF al L p = o at *
      obtain ⟨e, v, m, q⟩ := o
      have HGET := Lib.hid hget
      have HRD := Lib.hid hr
      have HGB := Lib.hid hg
      have HALL := Lib.hid ha
      clear hget hr hg ha ht hf
      dsimp only at hgo hov hom hob
      have call : ∀ R : Ending → World → Prop, (∀ w2, K w2 → RdAt w2 b s L q → Gbox w0 b al w2 → AllAt w0 w2 acc → R (.returned (.tuple #[.int .i64 v, .bool m, .int .i64 e])) w2) →
          CallsIn Fence.wide (n - 1) Try.prog 73 #[.pointer (some ⟨b, 0, none⟩), .bool al, .int .i64 0, .int .i64 (-1)] wr R := by
        intro R hR
        refine (callsIn_wide.2 HGET.out).mono ?_
        rintro e' w2 ⟨rfl, h1, h2⟩
        exact hR w2 (hK _ _ (h2.keeps HRD.out.cells) hk) h1 (HGB.out.step hb h2) (HALL.out.step hb h2)
      have HC := Lib.hid call
      clear call HGET HRD HGB HALL hk
      have hv0 : (v : Int) ≤ 65536 := by omega
      by_cases he : e = 0
      · subst he
        rw [if_neg (by simp)] at hgo
        cases m with
        | true =>
          by_cases h3 : last < 65536
          · rw [if_pos ⟨rfl, h3⟩] at hgo
            have q1 : decide ((last : Int) < 65536) = true := decide_eq_true (by omega)
            have HGO := Lib.hid hgo
            have HOM := Lib.hid hom
            clear hgo hom hob hov
            gi_wp2_with fail
            refine ⟨trivial, fun h => (by cases h), ?_⟩
            refine HC.out _ ?_
            intro w2 hk2 hr2 hg2 ha2
            obtain ⟨fn, tmps, assign, body, hy, hR⟩ := hY ⟨v, 3, q, acc⟩ w2 ⟨hr2, hg2, ha2, fun _ => HGO.out.symm, (fun h => absurd h (show (3 : Int) ≠ 0 by decide)), (fun h => absurd h (show (3 : Int) ≠ 0 by decide))⟩ hk2
            have HRR := Lib.hid hR
            clear hR hk2 hr2 hg2 ha2 HC
            gi_wp2_with fail
            refine ⟨fun h => (by cases h), ?_⟩
            refine HRR.out.mono ?_
            rintro e' w3 (⟨rfl, hN, hK3⟩ | ⟨rfl, hX, hKx⟩)
            · exact absurd hN.1 (show (3 : Int) ≠ 0 by decide)
            · have HX := Lib.hid hX
              clear hX HRR hy
              gi_wp2
              refine bodyPost_ret (results_none rfl _ _ _) rfl ?_
              exact ⟨⟨_, rfl⟩, .inr ⟨HX.out, hKx⟩⟩
          · rw [if_neg (fun h => h3 h.2)] at hgo
            have q1 : decide ((last : Int) < 65536) = false := decide_eq_false (by omega)
            by_cases hlim : 1048576 < acc.length + v
            · rw [if_pos hlim] at hgo
              have q2 : decide ((1048576 : Int) < (acc.length : Int) + (v : Int)) = true := decide_eq_true (by omega)
              have HGO := Lib.hid hgo
              have HOM := Lib.hid hom
              clear hgo hom hob hov
              gi_wp2_with fail
              refine ⟨trivial, fun h => (by cases h), ?_⟩
              refine HC.out _ ?_
              intro w2 hk2 hr2 hg2 ha2
              obtain ⟨fn, tmps, assign, body, hy, hR⟩ := hY ⟨v, 11, q, acc⟩ w2 ⟨hr2, hg2, ha2, fun _ => HGO.out.symm, (fun h => absurd h (show (11 : Int) ≠ 0 by decide)), (fun h => absurd h (show (11 : Int) ≠ 0 by decide))⟩ hk2
              have HRR := Lib.hid hR
              clear hR hk2 hr2 hg2 ha2 HC
              gi_wp2_with fail
              refine ⟨fun h => (by cases h), ?_⟩
              refine HRR.out.mono ?_
              rintro e' w3 (⟨rfl, hN, hK3⟩ | ⟨rfl, hX, hKx⟩)
              · exact absurd hN.1 (show (11 : Int) ≠ 0 by decide)
              · have HX := Lib.hid hX
                clear hX HRR hy
                gi_wp2
                refine bodyPost_ret (results_none rfl _ _ _) rfl ?_
                exact ⟨⟨_, rfl⟩, .inr ⟨HX.out, hKx⟩⟩
            · rw [if_neg hlim] at hgo
              have q2 : decide ((1048576 : Int) < (acc.length : Int) + (v : Int)) = false := decide_eq_false (by omega)
              have hlim : acc.length + v ≤ 1048576 := by omega
              have HBAD := Lib.hid (fun (ho : oerr L q v ≠ 0) => (by rw [if_pos ho] at hgo; exact hgo.symm : fin = ⟨oerr L q v, [], opos L q v⟩))
              have HGOOD := Lib.hid (fun (ho : oerr L q v = 0) => (by rw [if_neg (by rw [ho]; simp)] at hgo; exact hgo : (if true = true then roGo al L f (opos L q v) v (acc ++ olst L q v) else ⟨0, acc ++ olst L q v, opos L q v⟩) = fin))
              have HGO := Lib.hid hgo
              have HOM := Lib.hid hom
              clear hgo hom hob hov
              gi_wp2_with fail
              refine ⟨trivial, fun h => (by cases h), ?_⟩
              refine HC.out _ ?_
              intro w2 hk2 hr2 hg2 ha2
              obtain ⟨fn, tmps, assign, body, hy, hR⟩ := hY ⟨v, 0, q, acc⟩ w2 ⟨hr2, hg2, ha2, fun h => absurd rfl h, (fun _ ho => HBAD.out ho), fun _ => hlim⟩ hk2
              have HRR := Lib.hid hR
              clear hR hk2 hr2 hg2 ha2 HC
              gi_wp2_with fail
              refine ⟨fun h => (by cases h), ?_⟩
              refine HRR.out.mono ?_
              rintro e' w3 (⟨rfl, hN, hK3⟩ | ⟨rfl, hX, hKx⟩)
              · obtain ⟨_, ho, hr3, hg3, ha3⟩ := hN
                have hnext := fun t ht => relCnt_next (K := K) (f := f) (v := v) (q := q) (acc := acc) (m := true) hr3 hg3 ha3 hK3 ho hlim (by omega) (fun h => by first | exact HOM.out h | exact HOM.out trivial) hfu (by have h9 := HGOOD.out ho; simpa using h9) t ht
                have HN := Lib.hid hnext
                clear hnext hr3 hg3 ha3 hK3 HRR hy ho HGO
                gi_wp2_with fail
                go_roundw
                case rel => exact (HN.out _ (by omega)).1
                case measure => exact (HN.out _ rfl).2
              · have HX := Lib.hid hX
                clear hX HRR hy
                gi_wp2
                refine bodyPost_ret (results_none rfl _ _ _) rfl ?_
                exact ⟨⟨_, rfl⟩, .inr ⟨HX.out, hKx⟩⟩
        | false =>
          rw [if_neg (fun h => by cases h.1)] at hgo
          by_cases hlim : 1048576 < acc.length + v
          · rw [if_pos hlim] at hgo
            have q2 : decide ((1048576 : Int) < (acc.length : Int) + (v : Int)) = true := decide_eq_true (by omega)
            have HGO := Lib.hid hgo
            have HOM := Lib.hid hom
            clear hgo hom hob hov
            gi_wp2_with fail
            refine ⟨trivial, fun h => (by cases h), ?_⟩
            refine HC.out _ ?_
            intro w2 hk2 hr2 hg2 ha2
            obtain ⟨fn, tmps, assign, body, hy, hR⟩ := hY ⟨v, 11, q, acc⟩ w2 ⟨hr2, hg2, ha2, fun _ => HGO.out.symm, (fun h => absurd h (show (11 : Int) ≠ 0 by decide)), (fun h => absurd h (show (11 : Int) ≠ 0 by decide))⟩ hk2
            have HRR := Lib.hid hR
            clear hR hk2 hr2 hg2 ha2 HC
            gi_wp2_with fail
            refine ⟨fun h => (by cases h), ?_⟩
            refine HRR.out.mono ?_
            rintro e' w3 (⟨rfl, hN, hK3⟩ | ⟨rfl, hX, hKx⟩)
            · exact absurd hN.1 (show (11 : Int) ≠ 0 by decide)
            · have HX := Lib.hid hX
              clear hX HRR hy
              gi_wp2
              refine bodyPost_ret (results_none rfl _ _ _) rfl ?_
              exact ⟨⟨_, rfl⟩, .inr ⟨HX.out, hKx⟩⟩
          · rw [if_neg hlim] at hgo
            have q2 : decide ((1048576 : Int) < (acc.length : Int) + (v : Int)) = false := decide_eq_false (by omega)
            have hlim : acc.length + v ≤ 1048576 := by omega
            have HBAD := Lib.hid (fun (ho : oerr L q v ≠ 0) => (by rw [if_pos ho] at hgo; exact hgo.symm : fin = ⟨oerr L q v, [], opos L q v⟩))
            have HGOOD := Lib.hid (fun (ho : oerr L q v = 0) => (by rw [if_neg (by rw [ho]; simp)] at hgo; exact hgo : (if false = true then roGo al L f (opos L q v) v (acc ++ olst L q v) else ⟨0, acc ++ olst L q v, opos L q v⟩) = fin))
            have HGO := Lib.hid hgo
            have HOM := Lib.hid hom
            clear hgo hom hob hov
            gi_wp2_with fail
            refine ⟨trivial, fun h => (by cases h), ?_⟩
            refine HC.out _ ?_
            intro w2 hk2 hr2 hg2 ha2
            obtain ⟨fn, tmps, assign, body, hy, hR⟩ := hY ⟨v, 0, q, acc⟩ w2 ⟨hr2, hg2, ha2, fun h => absurd rfl h, (fun _ ho => HBAD.out ho), fun _ => hlim⟩ hk2
            have HRR := Lib.hid hR
            clear hR hk2 hr2 hg2 ha2 HC
            gi_wp2_with fail
            refine ⟨fun h => (by cases h), ?_⟩
            refine HRR.out.mono ?_
            rintro e' w3 (⟨rfl, hN, hK3⟩ | ⟨rfl, hX, hKx⟩)
            · obtain ⟨_, ho, hr3, hg3, ha3⟩ := hN
              have hnext := fun t ht => relCnt_next (K := K) (f := f) (v := v) (q := q) (acc := acc) (m := false) hr3 hg3 ha3 hK3 ho hlim (by omega) (fun h => by first | exact HOM.out h | exact HOM.out trivial) hfu (by have h9 := HGOOD.out ho; simpa using h9) t ht
              have HN := Lib.hid hnext
              clear hnext hr3 hg3 ha3 hK3 HRR hy ho HGO
              gi_wp2_with fail
              go_roundw
              case rel => exact (HN.out _ (by omega)).1
              case measure => exact (HN.out _ rfl).2
            · have HX := Lib.hid hX
              clear hX HRR hy
              gi_wp2
              refine bodyPost_ret (results_none rfl _ _ _) rfl ?_
              exact ⟨⟨_, rfl⟩, .inr ⟨HX.out, hKx⟩⟩
      · rw [if_pos he] at hgo
        obtain ⟨n1, n2⟩ := ne_facts he
        obtain ⟨rfl, rfl⟩ := hob he
        clear hob
        have HGO := Lib.hid hgo
        have HOM := Lib.hid hom
        clear hgo hom hov
        gi_wp2_with fail
        refine ⟨trivial, fun h => (by cases h), ?_⟩
        refine HC.out _ ?_
        intro w2 hk2 hr2 hg2 ha2
        obtain ⟨fn, tmps, assign, body, hy, hR⟩ := hY ⟨0, e, q, acc⟩ w2 ⟨hr2, hg2, ha2, fun _ => HGO.out.symm, (fun h => absurd h he), (fun h => absurd h he)⟩ hk2
        change Sem.run _ (Instr.yield l #[Value.int IntKind.i64 0, Value.int IntKind.i64 e]) w2 = _ at hy
        have HRR := Lib.hid hR
        clear hR hk2 hr2 hg2 ha2 HC
        gi_wp2_with fail
        refine ⟨fun h => (by cases h), ?_⟩
        refine HRR.out.mono ?_
        rintro e' w3 (⟨rfl, hN, hK3⟩ | ⟨rfl, hX, hKx⟩)
        · exact absurd hN.1 he
        · have HX := Lib.hid hX
          clear hX HRR hy
          gi_wp2
          refine bodyPost_ret (results_none rfl _ _ _) rfl ?_
          exact ⟨⟨_, rfl⟩, .inr ⟨HX.out, hKx⟩⟩
end Go.Proofs.Ytinggfelgcdkfaa
