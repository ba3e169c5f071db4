/-
  Package tags: 'leastTags'.
-/
import Derived.Test.YtecedbjkebdeaaaTgOf
namespace Go.Proofs.Ytecedbjkebdeaaa
open Go.RowKit Go.Maps Go.WideElems Go.ChangeMaps Go.MapKept Go.Shelf
set_option linter.unusedVariables false
set_option linter.unusedSimpArgs false
set_option maxRecDepth 100000

/-- which type each number has: the entries, then the parts -/
def partD (l : EL) (pt : Nat → TT) (k : Nat) : Bool × TT := if k < l.n then ((l.f k).auto, (l.f k).t) else (false, pt (k - l.n))
theorem GI.newD (l : EL) (pt : Nat → TT) (hl : l.n ≤ 1000000) : GI l (fun _ => True) (partD l pt) (GL.new l.n) 0 :=
  ⟨⟨Nat.le_refl _, fun p hp => if_pos hp, fun _ _ _ _ h => (by cases h), fun _ _ _ _ h => (by cases h), fun _ _ _ h => (by cases h), fun _ h => (by cases h), List.nodup_nil, fun _ h => (by cases h), fun h => (by cases h)⟩,
   GL.new_wait l.n, by unfold GL.left; show phi (fun _ => TS.no) l.n + 0 ≤ 9 * l.n; rw [phi_no]; exact Nat.le_refl _, hl, Nat.zero_le _, fun p => Nat.le_refl _⟩
theorem partD_add {l : EL} {pt : Nat → TT} {m i : Nat} (hm : m = l.n + i) : (fun k => if k = m then (false, pt i) else partD l pt k) = partD l pt := by
  subst hm
  funext k
  by_cases h : k = l.n + i
  · rw [if_pos h]
    unfold partD
    rw [if_neg (by omega), h, Nat.add_sub_cancel_left]
  · rw [if_neg h]
theorem Loc.add {l : EL} {G : GL} {n : Nat} {a : Bool} {t : TT} (k : Loc l G n a t) (hn : n < G.m) (hE : ∀ p, p ∈ G.R → p < G.m) : Loc l G.add n a t :=
  ⟨fun e p hp => ⟨(k.1 e p hp).1, by
    have h1 := (k.1 e p hp)
    show n ∈ (if p = G.m then [] else G.E p)
    rw [if_neg (by have := hE p h1.1; omega)]
    exact h1.2⟩, fun e1 e2 x hx => by
    show (if n = G.m then TS.no else G.S n) x = true
    rw [if_neg (by omega)]
    exact k.2.1 e1 e2 x hx, fun e1 e2 e3 => ⟨by
    show (if n = G.m then TS.no else G.S n) 1000 = true
    rw [if_neg (by omega)]
    exact (k.2.2 e1 e2 e3).1, (k.2.2 e1 e2 e3).2⟩⟩
theorem Req.add {l : EL} {G : GL} {n : Nat} {a : Bool} {t : TT} (k : Req l G n a t) (hn : n < G.m) (hE : ∀ p, p ∈ G.R → p < G.m) : Req l G.add n a t := fun a' t' ha => (k a' t' ha).add hn hE
def RelL1 (B : Nat) (l : EL) (pt : Nat → TT) (b : Nat) (V : GV) (w : World) (iv : Value) (wr : World) : Prop :=
  ∃ (i : Nat) (G' : GL) (V' : GV) , iv = .int .i64 (i : Nat) ∧ GAt B wr b l G' V' ∧ Mv V.own w V'.own wr ∧ GI l (fun _ => True) (partD l pt) G' (i * 10000) ∧ G'.m = l.n + i ∧ ∀ j, j < i → Req l G' (l.n + j) false (pt j)
def RelL2 (S : Nat → TS) (w : World) (v iv : Value) (wr : World) : Prop :=
  ∃ i : Nat, iv = .int .i64 (i : Nat) ∧ wr.ownsRow w.heap.size 3 1 v i ((List.range i).map fun j => .int .i64 (S j).least) ∧ Below w.heap.size w wr
theorem sets_from (a : Option Addr) (n cap h : Nat) (hn : h ≤ n) (hc : n ≤ cap) (w : World) : (Instr.slice 57 (.slice a n cap) (some (.int .i64 (h : Nat))) none none).run Try.prog w = .ok (.slice (if cap = h then a else a.map (·.add h)) (n - h) (cap - h)) w := by
  rw [run_slice_l (ht := Try.underlying57) (h0 := by omega) (h1 := by omega), show Try.prog.elem 57 = 52 from by kernel_rfl, Try.sizeOf52]
  simp [Result.andThen, sliced]
set_option maxHeartbeats 16000000 in
theorem leastTags_ok (w : World) (l : EL) (pa : Option Addr) (pn pc : Nat) (pf : Nat → PD) (pt : Nat → TT) (hl : EOk w.heap.size w l) (hr : RowAt w.heap.size w pa pn pc 18 (fun i => pcells (pf i) (pt i))) (ht : ∀ i, i < pn → TIn w.heap.size w (pt i)) (hn : l.n ≤ 1000) (hz : ∀ p, p < l.n → (l.f p).t.wid ≤ 10000) (hw : ∀ i, i < pn → (pt i).wid ≤ 10000) (hpn : pn ≤ 1000) :
    Calls Try.prog 21 #[.slice l.a l.n l.cap, .slice pa pn pc] w fun e w' => ∃ (v : Value) (S : Nat → TS), e = .returned v ∧ w'.ownsRow w.heap.size 3 1 v pn ((List.range pn).map fun j => .int .i64 (S j).least) ∧ (∀ j, j < pn → ∀ x, x ∈ univ → (S j x = true ↔ Tg l false (pt j) x)) ∧ Below w.heap.size w w' := by
  obtain ⟨i0, hi0, hz0, hz1, hz2⟩ := info_parts info_i64
  have HEL := Lib.hid hl
  have HRO := Lib.hid hr
  have HTT := Lib.hid ht
  have HZ := Lib.hid hz
  have HW := Lib.hid hw
  have HN := Lib.hid (newGraph_ok w l (by omega))
  have HI0 := Lib.hid (GI.newD l pt (by omega))
  obtain ⟨N, hN⟩ : ∃ N, l.n = N := ⟨_, rfl⟩
  have HNN := Lib.hid hN
  rw [hN] at hn HN ⊢
  clear hl hr ht hz hw hN
  go_enter Try.func21, Try.ntmps21
  go_wp2_with fail
  refine HN.out.mono ?_
  rintro e w1 ⟨b, V, rfl, h1, h2⟩
  have hs1 := h2.size
  have HG1 := Lib.hid (show GAt w.heap.size w1 b l (GL.new l.n) V by rw [HNN.out]; exact h1)
  have HB1 := Lib.hid h2
  clear h1 h2 HN
  go_wp2_with fail
  go_loopw [15] (fun iv wr => RelL1 w.heap.size l pt b V w1 iv wr ∧ (Lib.intOf iv).toNat ≤ pn) (fun iv _ => pn - (Lib.intOf iv).toNat)
  case atStart => exact ⟨⟨0, GL.new l.n, V, rfl, HG1.out, Mv.refl _ _, HI0.out, rfl, fun j hj => absurd hj (Nat.not_lt_zero j)⟩, Nat.zero_le _⟩
  case round =>
  obtain ⟨⟨i, G', V', rfl, hG', hM', hI', hm', hR'⟩, hi⟩ := hrel
  have hi : i ≤ pn := by simpa [Lib.intOf] using hi
  have HGW := Lib.hid hG'
  have HMW := Lib.hid hM'
  have HIW := Lib.hid hI'
  have HRW := Lib.hid hR'
  have HMM := Lib.hid hm'
  have hbw := HB1.out.trans (GAtL.below HG1.out hM' hs1)
  have HBW := Lib.hid hbw
  have hsw := hM'.size
  clear hG' hM' hI' hR'
  by_cases hlt : i < pn
  · have q4 : decide ((i : Int) < (pn : Int)) = true := decide_eq_true (by omega)
    have q4n : decide (i < pn) = true := decide_eq_true hlt
    have q5 : IntKind.i64.wrap ((i : Int) + 1) = ((i + 1 : Nat) : Int) := wrap_succ hlt (by omega)
    obtain ⟨gx, ox, hix, hgx, hrd⟩ := pRow_read HRO.out hlt
    have HRD := Lib.hid (hrd wr (hbw.block gx hgx))
    have htal := HTT.out i hlt
    have H1 := Lib.hid (one_pcells (p := pf i) htal)
    have H1T := Lib.hid (one_tcells htal)
    have HX := Lib.hid (Bx.new wr (pcells (pf i) (pt i)).toArray 42)
    have HXT := Lib.hid (show (wr.alloc (.cells (pcells (pf i) (pt i)).toArray 42)).rangeAt wr.heap.size 1 (pt i).cells from by have h := part_range HX.out.range; rw [Nat.zero_add] at h; exact h)
    have hbw2 := hbw.alloc (by have := hbw.size; omega) (.cells (pcells (pf i) (pt i)).toArray 42)
    have hm0 : G'.m < 1000000 := by rw [hm']; have := HNN.out; omega
    have HA := Lib.hid (gadd_ok l (fun _ => True) (partD l pt) w.heap.size (wr.alloc (.cells (pcells (pf i) (pt i)).toArray 42)) b G' V' false (pt i) (i * 10000) (by simp; omega) (HEL.out.below hbw2 (Nat.le_refl _)) (GAtL.alloc HGW.out _) (htal.below hbw2 (Nat.le_refl _)) hm0 HIW.out (HW.out i hlt) (fun _ _ => trivial) (by have := HW.out i hlt; omega))
    have HMB := Lib.hid (Mv.alloc V'.own wr (.cells (pcells (pf i) (pt i)).toArray 42) (fun k hk => (HGW.out.lo k hk).2))
    have hwi := HW.out i hlt
    clear hrd hbw hbw2 htal hm'
    go_wp2_with (first | (refine wpList_store_new rfl 42 (.tmp 7) (.tmp 18) rfl 18 _ (pcells (pf i) (pt i)) H1.out.1 (by kernel_rfl) info_P H1.out.2 rfl rfl ?_) | (refine wpList_load_mid rfl 42 (.tmp 17) rfl gx ox rfl (pcells (pf i) (pt i)) _ HRD.out Try.underlying42 rfl (by rw [info_P, H1.out.1]) ?_) | (refine wpList_load_mid rfl 35 (.tmp 20) rfl wr.heap.size 1 rfl (pt i).cells _ HXT.out Try.underlying35 rfl (by rw [info_T, H1T.out.1]) ?_))
    refine HA.out.mono ?_
    rintro e w2 ⟨rfl, G2, V2, h1, h2, h3, h4, h5⟩
    rw [partD_add HMM.out] at h3
    have HG2 := Lib.hid h1
    have HM2 := Lib.hid (HMW.out.trans (HMB.out.trans h2))
    have HI2 := Lib.hid (h3.mono (show i * 10000 + (pt i).wid ≤ (i + 1) * 10000 by omega))
    have HM3 := Lib.hid (show G2.m = l.n + (i + 1) by rw [h4.m]; show G'.m + 1 = _; rw [HMM.out]; omega)
    have HR2 := Lib.hid (show ∀ j, j < i + 1 → Req l G2 (l.n + j) false (pt j) from fun j hj => by
      rcases Nat.lt_or_ge j i with h | h
      · have h6 := HRW.out j h
        have hjm : l.n + j < G'.m := by rw [HMM.out]; omega
        exact (Req.add h6 hjm (fun p hp => by have h7 := (HIW.out.ok.rr p hp).1; have h8 := HIW.out.ok.ln; omega)).ext h4
      · obtain rfl : j = i := by omega
        rw [HMM.out] at h5
        exact h5)
    clear h1 h2 h3 h4 h5 HA
    go_wp2_with fail
    go_roundw
    case rel => exact ⟨⟨i + 1, G2, V2, rfl, HG2.out, HM2.out, HI2.out, HM3.out, HR2.out⟩, by simp only [Lib.intOf]; omega⟩
    case measure => simp only [Lib.intOf]; omega
  · have q4 : decide ((i : Int) < (pn : Int)) = false := decide_eq_false (by omega)
    have q4n : decide (i < pn) = false := decide_eq_false hlt
    have hip : i = pn := by omega
    have HS := Lib.hid (settle_ok l (fun _ => True) (partD l pt) w.heap.size wr b G' V' (i * 10000) (Nat.le_trans hs1 hsw) (HEL.out.below hbw (Nat.le_refl _)) HGW.out HIW.out HZ.out (by have := HNN.out; omega))
    clear hbw
    go_wp2_with fail
    refine HS.out.mono ?_
    rintro e w3 ⟨rfl, G3, V3, h1, h2, h3, h4, h5⟩
    have hs3 := h2.size
    have HB3 := Lib.hid (HBW.out.trans (GAtL.below HGW.out h2 (Nat.le_trans hs1 hsw)))
    have hm3 : G3.m = N + pn := by rw [h4.m, hm', hip, HNN.out]
    obtain ⟨sa, scap, hsv⟩ := own_slice h1.s
    have hscap : G3.m ≤ scap := by
      rcases h1.s.2 with ⟨hv, h0⟩ | ⟨g', cap', cur, hv, _, _, hnc, _⟩
      · omega
      · rw [hsv] at hv; cases hv; exact hnc
    have c3 := h1.bx.cell 3 (v := .slice sa G3.m scap) (by rw [← hsv]; rfl)
    obtain ⟨a2, ha2⟩ : ∃ a2, (if scap = N then sa else sa.map (·.add N)) = a2 := ⟨_, rfl⟩
    have HSET := Lib.hid (show 0 < pn → ∃ sg, a2 = some ⟨sg, N, none⟩ ∧ sg < w3.heap.size ∧ ∀ j, j < pn → ∃ k, w3.cell? ⟨sg, N + j, none⟩ = some (.map (some k)) ∧ SetAt w3 k (G3.S (N + j)) from fun hp0 => by
      obtain ⟨sg, scap', hsv', hsB, hslt, hixs, hcs⟩ := own_read 57 52 Try.underlying57 (by kernel_rfl) Try.sizeOf52 h1.s (i := N) (by rw [hm3]; omega)
      rw [hsv] at hsv'
      cases hsv'
      refine ⟨sg, ?_, hslt, fun j hj => ?_⟩
      · rw [← ha2, if_neg (by omega)]
        simp [Addr.add_mid]
      · have hjm : N + j < G3.m := by omega
        obtain ⟨k, hk1, _, hk3⟩ := (h1.sets (N + j) hjm).1 (.inr (by rw [HNN.out]; omega))
        have := hcs (N + j) _ (range_at hjm)
        rw [hk1] at this
        exact ⟨k, this, hk3⟩)
    have HTG := Lib.hid (show ∀ j, j < pn → ∀ x, x ∈ univ → (G3.S (N + j) x = true ↔ Tg l false (pt j) x) from fun j hj x hx => by
      have hjm : N + j < G3.m := by omega
      have hd : partD l pt (N + j) = (false, pt j) := by unfold partD; rw [if_neg (by rw [HNN.out]; omega), HNN.out, Nat.add_sub_cancel_left]
      constructor
      · intro hs
        have := h3.ok.sn (N + j) hjm x hx hs
        rw [hd] at this
        exact this
      · intro hT
        have hreq := (HRW.out j (by omega)).ext h4
        rw [HNN.out] at hreq
        have := (h5.all h3.ok hT (N + j) _ _ hjm hreq .here).1
        unfold inSet at this
        have hb := univ_pos hx
        split at this
        · exact this
        · obtain rfl : x = 1000 := by omega
          exact this)
    have hsl := sets_from sa G3.m scap N (by omega) hscap
    rw [ha2] at hsl
    obtain ⟨m3, hm3e⟩ : ∃ m3, G3.m = m3 := ⟨_, rfl⟩
    rw [hm3e] at c3 hsl hm3 hscap
    have hmn : m3 - N = pn := by omega
    rw [hmn] at hsl
    have HOF := Lib.hid (show ∀ X, Below w3.heap.size w3 X → Below w.heap.size w X from fun X h => HB3.out.trans (h.mono (by have := HB3.out.size; omega)))
    have hB3 : w.heap.size ≤ w3.heap.size := HB3.out.size
    clear h1 h2 h3 h4 h5 hsv HS hm3 hm3e hmn hm' hip ha2
    go_wp2_with fail
    rename World => w3
    go_loopw [8, 34] (fun v iv wx => RelL2 (fun j => G3.S (N + j)) w3 v iv wx ∧ (Lib.intOf iv).toNat ≤ pn) (fun _ iv _ => pn - (Lib.intOf iv).toNat)
    case atStart => exact ⟨⟨0, rfl, World.ownsRow_nil _ _ _ _, Below.refl _ _⟩, Nat.zero_le _⟩
    case round =>
    clear c3 hsl q4 q4n
    obtain ⟨⟨k, rfl, hown, hb4⟩, hk⟩ := hrel
    have hk : k ≤ pn := by simpa [Lib.intOf] using hk
    have HOW := Lib.hid hown
    have HB4 := Lib.hid hb4
    have hs4 := hb4.size
    clear hown
    by_cases hlt2 : k < pn
    · have q4 : decide ((k : Int) < (pn : Int)) = true := decide_eq_true (by omega)
      have q4n : decide (k < pn) = true := decide_eq_true hlt2
      have q5 : IntKind.i64.wrap ((k : Int) + 1) = ((k + 1 : Nat) : Int) := wrap_succ hlt2 (by omega)
      obtain ⟨sg, rfl, hslt, hset0⟩ := HSET.out (by omega)
      obtain ⟨kk, hc1, hset⟩ := hset0 k hlt2
      have ck := (hb4.cell (p := ⟨sg, N + k, none⟩) hslt).trans hc1
      have hkl := hset.lt
      have HLE := Lib.hid (least_ok wr (some kk) (G3.S (N + k)) (.inr ⟨kk, rfl, hset.block (hb4.block kk hkl)⟩))
      obtain ⟨x, hx⟩ : ∃ x, (G3.S (N + k)).least = x := ⟨_, rfl⟩
      have HX := Lib.hid hx
      rw [hx] at HLE
      have hix2 : ∀ w, (Instr.indexAt 57 (.slice (some ⟨sg, N, none⟩) pn (scap - N)) (.int .i64 (k : Nat))).run Try.prog w = .ok (.pointer (some ⟨sg, N + k, none⟩)) w := fun w => by
        rw [run_indexAt_slice (h := by rw [show Try.prog.elem 57 = 52 from by kernel_rfl]; exact Try.underlying57), if_pos (by omega), show Try.prog.elem 57 = 52 from by kernel_rfl, Try.sizeOf52]
        simp [Result.andThen, Addr.add_mid]
      clear hc1 hset hkl hx hb4 hset0
      go_wp2_with fail
      refine HLE.out.mono ?_
      rintro e w5 ⟨rfl, hb5⟩
      have hs5 := hb5.size
      have HOW5 := Lib.hid (own_block HOW.out (w' := w5) fun j hj => hb5.block j ((HOW.out.lt j hj).2))
      have HB5 := Lib.hid (HB4.out.trans (hb5.mono hs4))
      clear hb5 ck hix2 HLE
      go_wp2_with (at_builtin; refine wpList_append_own _ rfl (.tmp 38) (.tmp 41) 37 rfl w3.heap.size 3 i0 (.int .i64 0) 1 8 Try.underlying37 hi0 hz0 hz1 hz2 rfl (by decide) _ k ((List.range k).map fun j => .int .i64 (G3.S (N + j)).least) rfl (World.ownsRow.alloc HOW5.out _) ⟨w5.heap.size, 0, none⟩ 1 1 [.int .i64 x] rfl rfl (cell_one_new w5 (.int .i64 x) _) (by intro u hu; rw [List.mem_singleton] at hu; subst hu; rfl) (by unfold maxLen; omega) (by omega) (by simp; omega) ?_; intro v4 w6 ho4 hg4 _; have HO4 := Lib.hid ho4; have HG4 := Lib.hid hg4; clear ho4 hg4)
      have HB6 := Lib.hid ((HB5.out.alloc (by omega) _).grown HG4.out (by simp; omega) (fun j hj => (HOW5.out.lt j hj).1))
      go_roundw
      case rel => exact ⟨⟨k + 1, rfl, by rw [List.range_succ, List.map_append]; simpa [HX.out] using HO4.out, HB6.out⟩, by simp only [Lib.intOf]; omega⟩
      case measure => simp only [Lib.intOf]; omega
    · have q4 : decide ((k : Int) < (pn : Int)) = false := decide_eq_false (by omega)
      have q4n : decide (k < pn) = false := decide_eq_false hlt2
      have hkp : k = pn := by omega
      have h7 := HOW.out
      have HKP := Lib.hid hkp
      clear hkp h7
      go_wp2_with fail
      go_ret
      have h7 := HOW.out
      rw [HKP.out] at h7
      exact ⟨_, rfl, fun j => G3.S (N + j), ownsRow_base_a h7 hB3, HTG.out, HOF.out _ HB4.out⟩
end Go.Proofs.Ytecedbjkebdeaaa
