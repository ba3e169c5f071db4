/-
  Package strings: PutText.
-/
import Derived.Test.YtbpfggkpfaobhaaGreatStBits
import Derived.Lib.ConvBytes
import Derived.Lib.AtoiErrMem
namespace Go.Proofs.YtbpfggkpfaobhaaGreat
open Go.RowKit Go.Shelf
set_option linter.unusedVariables false
set_option linter.unusedSimpArgs false
set_option maxRecDepth 100000

theorem bytes_conv (w : World) (s : ByteArray) : ∃ v w1, (convert 9 22 (.string s)).run Tryz.prog w = .ok v w1 ∧ SlAt w1 v (cods s) ∧ Below w.heap.size w w1 := by
  refine ⟨_, _, Lib.run_convert_string_bytes (P := Tryz.prog) w 9 22 5 s Tryz.underlying9 Tryz.underlying22 Tryz.underlying5, .inl ⟨w.heap.size, 0, _, by rw [cods_length], ⟨fun i hi => ?_, cods_lt s⟩⟩, Lib.bytesWorld_below w _ s⟩
  rw [cods_length] at hi
  rw [Nat.zero_add, Lib.bytesWorld_cell w _ s i hi, ← cods_at s i hi]
  congr 3
  have h2 : i < s.data.toList.length := hi
  rw [List.getD_eq_getElem?_getD, List.getElem?_eq_getElem h2]
  rfl
theorem wpList_bytes {ops : Array Oper} {rest : List Oper} {o : Oper} {a : Act} {Q : Exit → Act → World → Prop} {w : World} (hgd : o.guard = none) (x : Operand) (ho : o.op = Op.convert 9 22 x) (s : ByteArray) (hx : a.eval x = .string s)
    (h : ∀ v w1, SlAt w1 v (cods s) → Below w.heap.size w w1 → wpList Tryz.prog ops Q rest (a.put o.dst v) w1) : wpList Tryz.prog ops Q (o :: rest) a w := by
  obtain ⟨v, w1, hrun, h1, h2⟩ := bytes_conv w s
  refine wpList_plain hgd fun K hK => ?_
  unfold Oper.wp
  have e : (execOp a.eval o).run Tryz.prog w = .ok (.value v) w1 := by
    unfold execOp
    simp only [ho, hx, Sem.run_bind, hrun, Sem.run_pure, Result.andThen_ok]
  rw [e]
  exact hK _ _ (h v w1 h1 h2)
/-- the numbers of a text's characters -/
def numN (f : Nat → Int) (l : List Nat) : List Nat := l.map fun c => (f c).toNat
theorem numN_length (f : Nat → Int) (l : List Nat) : (numN f l).length = l.length := List.length_map ..
theorem numN_at (f : Nat → Int) (l : List Nat) (i : Nat) (hi : i < l.length) : (numN f l).getD i 0 = (f (l.getD i 0)).toNat := by
  unfold numN
  rw [List.getD_eq_getElem?_getD, List.getD_eq_getElem?_getD, List.getElem?_map, List.getElem?_eq_getElem hi]
  rfl
theorem enters_text : Enters Tryz.prog 47 := enters_of Tryz.func47 (by kernel_rfl) rfl
set_option maxHeartbeats 2000000 in
theorem units_text (w : World) (b : Nat) (s : ByteArray) (l : List Nat) (f : Nat → Int) (al : Bool) (lo hi : Int) (k : Nat) (tx : Bool) (g1 g2 g3 g4 : Nat) (hc1 : Cel w g1 46 (.pointer (some ⟨b, 0, none⟩))) (hc2 : TabAt w g2 f) (hc3 : Cel w g3 9 (.string s)) (hc4 : LayAt w g4 al lo hi k tx)
    (hl : cods s = l) (hf : ∀ i, i < l.length → ∃ n : Nat, f (l.getD i 0) = n ∧ n < 2 ^ k ∧ n < 128) (hk : k ≤ 8)
    (h1 : g1 ≠ b) (h2 : g2 ≠ b) (h3 : g3 ≠ b) (h4 : g4 ≠ b) (hs : s.size ≤ 20000) : Units 47 #[] #[.pointer (some ⟨g1, 0, none⟩), .pointer (some ⟨g2, 0, none⟩), .pointer (some ⟨g3, 0, none⟩), .pointer (some ⟨g4, 0, none⟩)] b s.size (ubits k (numN f l)) w := by
  intro w1 B ho hw hB
  have hlen := cods_length s
  rw [hl] at hlen
  have hat := cods_at s
  rw [hl] at hat
  have HC1 := Lib.hid (hc1.only ho h1)
  have HC2 := Lib.hid (hc2.only ho h2)
  have HC3 := Lib.hid (hc3.only ho h3)
  have HC4 := Lib.hid (hc4.only ho h4)
  have HW := Lib.hid hw
  have HF := Lib.hid hf
  have HAT := Lib.hid hat
  have HL := Lib.hid hlen
  have HBL := Lib.hid (numN_length f l)
  have HL8 := Lib.hid (fun i => cods_lt s i)
  rw [hl] at HL8
  clear hc1 hc2 hc3 hc4 hw hat ho hl hlen hf
  go_enter Tryz.func47, Tryz.ntmps47
  go_wp2_with fail
  go_loopw [9] (fun i wr => RelU w1 b B k (numN f l) i wr) (fun i _ => s.size - (intOf i).toNat)
  case atStart => exact ⟨0, Nat.zero_le _, rfl, by simpa [ubits] using HW.out, Only.refl _ _⟩
  case round =>
    obtain ⟨j, hj, rfl, hwr, hor⟩ := hrel
    have c1 := (HC1.out.only hor h1).cell
    have t2 := (HC2.out.only hor h2)
    have c3 := (HC3.out.only hor h3).cell
    obtain ⟨d0, d1, d2, d3, d4⟩ := (HC4.out.only hor h4).cells
    have hle := ubits_take_le k (numN f l) j hj
    rw [HBL.out, HL.out] at hj hle
    have hle2 : (ubits k ((numN f l).take j)).length ≤ 160000 := Nat.le_trans hle (Nat.le_trans (Nat.mul_le_mul_left _ hk) (by omega))
    have HR0 := Lib.hid hwr
    have HO0 := Lib.hid hor
    have HR := Lib.hid (hwr.below ((Below.refl _ _).drew))
    have HO := Lib.hid hor.drew
    clear hwr hor hle
    by_cases hlt : j < s.size
    · have q1 : decide ((j : Int) < (s.size : Int)) = true := decide_eq_true (by omega)
      obtain ⟨x, hx⟩ : ∃ x, l.getD j 0 = x := ⟨_, rfl⟩
      have e : (s[j]'hlt).toNat = x := (HAT.out j hlt).trans hx
      have hx8 := HL8.out j
      obtain ⟨n, hn, hnk, hn8⟩ := HF.out j (by rw [HL.out]; exact hlt)
      have hna := numN_at f l j (by rw [HL.out]; exact hlt)
      rw [hn] at hna
      rw [hx] at hn hx8
      have c2 := t2.cell x hx8
      rw [hn] at c2
      have HX := Lib.hid (show (numN f l).getD j 0 = n from hna)
      have q5 : (j : Int) < (s.size : Int) := by omega
      have q6 : (0 : Int) ≤ (j : Int) := by omega
      have q7 : (0 : Int) ≤ (x : Int) := by omega
      have q8 : (x : Int) < 256 := by omega
      have q9 : (n : Int) % 18446744073709551616 = n := by omega
      clear hx hn hna t2
      go_wp2_with fail
      go_still_tail 9, (by kernel_rfl)
      change wpList _ _ _ _ _ wr.drew
      go_wp2_with fail
      refine (put_ok wr.drew b _ n k HR.out (by omega) hnk (by rw [List.length_append]; omega)).mono ?_
      rintro e w2 ⟨rfl, h5, h6⟩
      have H3 := Lib.hid h5
      have H4 := Lib.hid (HO.out.trans h6)
      clear h5 h6 HR HO c1 c2 c3 d0 d1 d2 d3 d4
      go_wp2_with fail
      go_roundw
      case rel => exact relU_next (by rw [HBL.out, HL.out]; exact hlt) HX.out H3.out H4.out
      case measure => simp [intOf]; omega
    · obtain rfl : j = s.size := by omega
      have q1 : decide ((s.size : Int) < (s.size : Int)) = false := decide_eq_false (by omega)
      clear HR HO c1 t2 c3 d0 d1 d2 d3 d4
      have HFi := Lib.hid (show ubits k ((numN f l).take s.size) = ubits k (numN f l) by rw [List.take_of_length_le (by rw [HBL.out, HL.out]; exact Nat.le_refl _)])
      go_wp2_with fail
      go_ret
      exact ⟨rfl, HFi.out ▸ HR0.out, HO0.out⟩
theorem box2 (w : World) (t1 t2 : TypeId) (v1 v2 : Value) : ∃ W, W = (w.alloc (.cells #[v1] t1)).alloc (.cells #[v2] t2) ∧ Below w.heap.size w W ∧ Cel W w.heap.size t1 v1 ∧ Cel W (w.heap.size + 1) t2 v2 := by
  refine ⟨_, rfl, ((Below.refl w.heap.size w).alloc (Nat.le_refl _) _).alloc (by simp) _, (Cel.new w t1 v1).alloc _, ?_⟩
  have := Cel.new (w.alloc (.cells #[v1] t1)) t2 v2
  simpa using this
/-- the walk stands still here -/
def Stp (p : Prop) : Prop := p
theorem stp {p : Prop} (h : Stp p) : p := h
/-- the errors of PutText -/
def tE (fl : List Nat) (al : Bool) (l : List Nat) (lo hi : Int) : Int := if isAl fl = true then eE (allOk (numOf fl (wdT fl al)) l) l.length lo hi else 1
def tB (fl : List Nat) (al : Bool) (l : List Nat) (B : List Bool) (lo hi : Int) : List Bool := if tE fl al l lo hi = 0 then stP al true (wdT fl al) B l.length lo hi ++ ubits (wdT fl al) (numN (numOf fl (wdT fl al)) l) else B
theorem tE_arg {fl : List Nat} {al : Bool} {l : List Nat} {lo hi : Int} (h : isAl fl = false ∨ lBad lo hi) : tE fl al l lo hi = 1 := by
  unfold tE
  rcases h with h | h
  · rw [if_neg (by rw [h]; simp)]
  · split
    · exact eE_bad h
    · rfl
theorem tB_bad {fl : List Nat} {al : Bool} {l : List Nat} {B : List Bool} {lo hi : Int} (h : tE fl al l lo hi ≠ 0) : tB fl al l B lo hi = B := if_neg h
set_option maxHeartbeats 4000000 in
theorem sputText_ok (w : World) (b : Nat) (B : List Bool) (al : Bool) (lo hi : Int) (s fr : ByteArray) (h : WrAt w b B) (hl : s.size < 16384) (hfr : fr.size ≤ 9223372036854775807)
    (b2 : -9223372036854775808 ≤ lo ∧ lo ≤ 9223372036854775807) (b3 : -9223372036854775808 ≤ hi ∧ hi ≤ 9223372036854775807) (hB : B.length ≤ 700000) :
    Calls Tryz.prog 20 #[.pointer (some ⟨b, 0, none⟩), .bool al, .string s, .string fr, .int .i64 lo, .int .i64 hi] w fun e w' =>
      e = .returned (.int .i64 (tE (cods fr) al (cods s) lo hi)) ∧ WrAt w' b (tB (cods fr) al (cods s) B lo hi) ∧ Only b w w' := by
  have hbw := h.lt
  have hmf : ∀ (fn : Fn) (first cap : Array Value) (w : World), (Instr.makeFunc fn first cap).run Tryz.prog w = .ok (.func fn first cap) w := fun _ _ _ _ => rfl
  have hk8 := wdT_le (cods fr) al
  have HWd := Lib.hid (fun w => swidth_ok fr al w hfr)
  have HIA := Lib.hid (fun w => isAlphabet_ok fr w hfr)
  have HNum := Lib.hid (fun w hA => snumbers_ok fr al w hfr hA)
  have HFit := Lib.hid (fun (hA : isAl (cods fr) = true) (c : Nat) (hc : numOf (cods fr) (wdT (cods fr) al) c ≠ -1) => nmo_fits hA al (nmo_mem hc))
  obtain ⟨er, her⟩ : ∃ er, tE (cods fr) al (cods s) lo hi = er := ⟨_, rfl⟩
  obtain ⟨T, hT⟩ : ∃ T, tB (cods fr) al (cods s) B lo hi = T := ⟨_, rfl⟩
  rw [her, hT]
  have HAr := Lib.hid (fun (h : isAl (cods fr) = false ∨ lBad lo hi) => (her.symm.trans (tE_arg h) : er = 1))
  have HTb := Lib.hid (fun (h : er ≠ 0) => (hT.symm.trans (tB_bad (by rw [her]; exact h)) : T = B))
  have HEr := Lib.hid (fun (h : isAl (cods fr) = true) => (her.symm.trans (if_pos h) : er = eE (allOk (numOf (cods fr) (wdT (cods fr) al)) (cods s)) (cods s).length lo hi))
  have HTg := Lib.hid (show T = if er = 0 then stP al true (wdT (cods fr) al) B (cods s).length lo hi ++ ubits (wdT (cods fr) al) (numN (numOf (cods fr) (wdT (cods fr) al)) (cods s)) else B by rw [← hT, ← her]; rfl)
  have hcl := cods_length s
  rw [hcl] at HEr HTg
  clear her hT
  generalize hk : wdT (cods fr) al = k at *
  generalize hf : numOf (cods fr) k = f at *
  clear hk hf
  obtain ⟨W, hW, hbel, hC1, hC2⟩ := box2 w 46 9 (.pointer (some ⟨b, 0, none⟩)) (.string s)
  have hwW := h.below hbel
  have h0 : Only b w W := Only.of_below hbel
  have hsz : w.heap.size + 1 < W.heap.size := hC2.lt
  rw [hW] at h0 hwW hC1 hC2 hsz
  have H0 := Lib.hid h0
  have HW := Lib.hid hwW
  have HC1 := Lib.hid hC1
  have HC2 := Lib.hid hC2
  have HSZ := Lib.hid hsz
  clear h0 hwW hbel hC1 hC2 hW h hsz
  go_enter Tryz.func20, Tryz.ntmps20
  go_wp2_with fail
  refine (HWd.out _).mono ?_
  rintro e w1 ⟨rfl, hb1⟩
  have hb2 := (Below.refl w1.heap.size w1).alloc (Nat.le_refl _) (.cells #[.bool al, .int .i64 lo, .int .i64 hi, .int .i64 (k : Nat), .bool true] 64)
  have HW2 := Lib.hid ((HW.out.below hb1).below hb2)
  have H2 := Lib.hid ((H0.out.trans (Only.of_below hb1)).trans (Only.of_below hb2))
  have HC1a := Lib.hid ((HC1.out.below hb1).below hb2)
  have HC2a := Lib.hid ((HC2.out.below hb1).below hb2)
  have HLA := Lib.hid (LayAt.new w1 al lo hi k true)
  have hg1 : w.heap.size < w1.heap.size := by have := HSZ.out; have := hb1.size; omega
  have c1 := HC1a.out.cell
  have c2 := HC2a.out.cell
  obtain ⟨d0, d1, d2, d3, d4⟩ := HLA.out.cells
  clear hb1 hb2 HW H0 HC1 HC2 HSZ HWd
  go_wp2_with fail
  by_cases hv : lBad lo hi
  · have her := HAr.out (.inr hv)
    have HT1 := Lib.hid (HTb.out (by rw [her]; decide))
    refine (svalid_ok al lo hi k true _ false (by rw [eq_comm, decide_eq_false_iff_not]; exact fun h => h hv)).mono ?_
    rintro e w2 ⟨rfl, hb1⟩
    subst her
    have H3 := Lib.hid (H2.out.trans (Only.of_below hb1))
    have HW3 := Lib.hid (HW2.out.below hb1)
    clear hb1 H2 HW2 c1 c2 d0 d1 d2 d3 d4 hv
    go_wp2_with fail
    go_ret
    exact ⟨rfl, by rw [HT1.out]; exact HW3.out, H3.out⟩
  refine (svalid_ok al lo hi k true _ true (by rw [eq_comm, decide_eq_true_eq]; exact hv)).mono ?_
  rintro e w2 ⟨rfl, hb1⟩
  clear c1 c2 d0 d1 d2 d3 d4
  have H3 := Lib.hid (H2.out.trans (Only.of_below hb1))
  have HW3 := Lib.hid (HW2.out.below hb1)
  have HC1b := Lib.hid (HC1a.out.below hb1)
  have HC2b := Lib.hid (HC2a.out.below hb1)
  have HLb := Lib.hid (HLA.out.below hb1)
  have HV := Lib.hid hv
  clear hb1 H2 HW2 HC1a HC2a HLA hv
  go_wp2_with fail
  refine (HIA.out w2).mono ?_
  rintro e w3 ⟨rfl, hb1⟩
  have H4 := Lib.hid (H3.out.trans (Only.of_below hb1))
  have HW4 := Lib.hid (HW3.out.below hb1)
  have HC1c := Lib.hid (HC1b.out.below hb1)
  have HC2c := Lib.hid (HC2b.out.below hb1)
  have HLc := Lib.hid (HLb.out.below hb1)
  clear hb1 H3 HW3 HC1b HC2b HLb HIA
  cases hA : isAl (cods fr) with
  | false =>
    have her := HAr.out (.inl hA)
    have HT1 := Lib.hid (HTb.out (by rw [her]; decide))
    subst her
    clear hA
    go_wp2_with fail
    go_ret
    exact ⟨rfl, by rw [HT1.out]; exact HW4.out, H4.out⟩
  | true =>
    have HE := Lib.hid (HEr.out hA)
    have HN := Lib.hid (fun w => HNum.out w hA)
    have HFi := Lib.hid (HFit.out hA)
    clear hA HNum HFit HEr HAr
    go_wp2_with fail
    refine (HN.out w3).mono ?_
    rintro e w4 ⟨rfl, hb1⟩
    have hb2 := (Below.refl w4.heap.size w4).alloc (Nat.le_refl _) (.cells Tryz.zeroCells75 75)
    have T0 := Lib.hid (tab_new w4)
    have T1 := Lib.hid (T0.out.setCells (f' := f))
    have hbs := below_setCells hb2 (Nat.le_refl _) (tabL f) 0
    have H5 := Lib.hid ((H4.out.trans (Only.of_below hb1)).trans (Only.of_below hbs))
    have HW5 := Lib.hid ((HW4.out.below hb1).below hbs)
    have HC1d := Lib.hid ((HC1c.out.below hb1).below hbs)
    have HC2d := Lib.hid ((HC2c.out.below hb1).below hbs)
    have HLd := Lib.hid ((HLc.out.below hb1).below hbs)
    have hg4 : w.heap.size < w4.heap.size := by have := (HC1c.out.below hb1).lt; exact this
    clear hb1 hb2 hbs H4 HW4 HC1c HC2c HLc HN
    have hmark : True := trivial
    go_wp2_with (clear hmark; refine wpList_store_tab rfl (.tmp 14) (.tmp 36) rfl w4.heap.size rfl f rfl _ T0.out ?_; refine stp ?_)
    clear T0
    generalize World.setCells (w4.alloc (.cells Tryz.zeroCells75 75)) w4.heap.size 0 (tabL f) = w5 at *
    generalize w4.heap.size = g4 at *
    unfold Stp
    have hmark : True := trivial
    go_wp2_with (clear hmark; refine wpList_load_tab rfl (.tmp 14) rfl g4 rfl f T1.out ?_; refine stp ?_)
    have c2 := HC2d.out.cell
    unfold Stp
    have hmark : True := trivial
    go_wp2_with (clear hmark; refine wpList_bytes rfl (.tmp 38) rfl s rfl ?_; intro sv w6 hsv hb1; refine stp ?_)
    have H6 := Lib.hid (H5.out.trans (Only.of_below hb1))
    have HW6 := Lib.hid (HW5.out.below hb1)
    have HC1e := Lib.hid (HC1d.out.below hb1)
    have HC2e := Lib.hid (HC2d.out.below hb1)
    have HLe := Lib.hid (HLd.out.below hb1)
    have T6 := Lib.hid (T1.out.below hb1)
    have HSV := Lib.hid hsv
    clear hb1 hsv c2 H5 HW5 HC1d HC2d HLd T1
    unfold Stp
    go_wp2_with fail
    refine (shasAll_ok w6 f sv (cods s) HSV.out (by rw [hcl]; omega)).mono ?_
    rintro e w7 ⟨rfl, hb1⟩
    have H7 := Lib.hid (H6.out.trans (Only.of_below hb1))
    have HW7 := Lib.hid (HW6.out.below hb1)
    have HC1f := Lib.hid (HC1e.out.below hb1)
    have HC2f := Lib.hid (HC2e.out.below hb1)
    have HLf := Lib.hid (HLe.out.below hb1)
    have T7 := Lib.hid (T6.out.below hb1)
    clear hb1 H6 HW6 HC1e HC2e HLe T6 HSV
    cases hok : allOk f (cods s) with
    | false =>
      have he : er = 4 := by rw [HE.out, hok, eE_no HV.out]
      have HT1 := Lib.hid (HTb.out (by rw [he]; decide))
      subst he
      clear hok
      go_wp2_with fail
      go_ret
      exact ⟨rfl, by rw [HT1.out]; exact HW7.out, H7.out⟩
    | true =>
      have he : er = sE s.size lo hi := by rw [HE.out, hok, eE_yes]
      have HU := Lib.hid (units_text w7 b s (cods s) f al lo hi k true _ _ _ _ HC1f.out T7.out HC2f.out HLf.out rfl (fun i hi => HFi.out _ (allOk_at hok i hi)) hk8 (by omega) (by omega) (by omega) (by omega) (by omega))
      have HP := Lib.hid (sput_ok w7 b B al lo hi k true s.size _ _ (ubits k (numN f (cods s))) enters_text HW7.out HU.out HV.out hk8 hl b2 b3 (by omega))
      rw [← he, ← HTg.out] at HP
      have c1 := HC1f.out.cell
      have c2 := HC2f.out.cell
      obtain ⟨d0, d1, d2, d3, d4⟩ := HLf.out.cells
      clear hok he HU HE HTg HTb HFi HC1f HC2f HLf T7 HW7
      go_wp2_with fail
      refine HP.out.mono ?_
      rintro e w8 ⟨rfl, h1, h2⟩
      have H8 := Lib.hid h1
      have H9 := Lib.hid (H7.out.trans h2)
      clear h1 h2 c1 c2 d0 d1 d2 d3 d4 HP
      go_wp2_with fail
      go_ret
      exact ⟨rfl, H8.out, H9.out⟩
end Go.Proofs.YtbpfggkpfaobhaaGreat
