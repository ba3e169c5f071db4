/-
  The document's counts: 'few', 'Few', 'FewCon'.
-/
import Derived.Test.YtecedbjkebdeaaaShF1
import Derived.Test.YtecedbjkebdeaaaShE1
namespace Go.Proofs.Ytecedbjkebdeaaa
open Go.RowKit
set_option linter.unusedVariables false
set_option linter.unusedSimpArgs false
set_option maxRecDepth 100000

theorem fewN_neg {g : Nat → Int → Int} {x : Int} (h : x < 0) (n : Nat) : fewN g n x = x := fewN_stop (g := g) (k := 0) (x := x) h n (Nat.zero_le _)
def DL.fewD (d : DL) (y : Int) : Int := fewN (fun i z => (d.f i).few z) d.n y
def TT.few : TT → Int → Int
  | .nil, x => x
  | .mk _ _ con _ _ nm mo pa pt ad at_ _ en _ et, x =>
    fewN (fun i y => (et i).few y) en (fewN (fun i y => (at_ i).few ((ad.f i).d.fewD (y - 1))) ad.n (fewN (fun i y => (pt i).few ((pa.f i).d.fewD (y - 1))) pa.n (con.few (x - 1 - nm.n - mo.n))))
def DL.vt (d : DL) : VT := .mk 0 0 ⟨#[]⟩ ⟨none, 0, 0, fun _ => ⟨#[]⟩⟩ d.a d.n d.cap d.f
theorem DLIn.vt {B : Nat} {W : World} {d : DL} (h : DLIn B W d) : VIn B W d.vt :=
  ⟨⟨by unfold I64; omega, by unfold I64; omega, by decide, ⟨⟨Nat.le_refl _, Nat.zero_le _, fun _ => ⟨rfl, rfl⟩, fun h => absurd h (Nat.lt_irrefl 0)⟩, fun i h => absurd h (Nat.not_lt_zero i)⟩⟩, h.1, h.2⟩
theorem DL.fewD_bounds {B : Nat} {W : World} {d : DL} (h : DLIn B W d) (y : Int) : min y (-140737488355329) ≤ d.fewD y ∧ d.fewD y ≤ y := VT.fewL_bounds d.vt h.vt y
theorem TT.few_bounds {B : Nat} {W : World} : ∀ (t : TT), TIn B W t → ∀ x : Int, (0 ≤ x → -422212465065987 ≤ t.few x ∧ t.few x ≤ x) ∧ (x < 0 → x - 281474976710658 ≤ t.few x ∧ t.few x ≤ x)
  | .nil, h, _ => h.elim
  | .mk kind name con ext fr nm mo pa pt ad at_ ea en ec et, h, x => by
    obtain ⟨⟨_, _, hcon, _, hnm, hmo⟩, ⟨_, hp⟩, ⟨_, ha⟩, ⟨_, he⟩⟩ := h
    have h1 : nm.n ≤ 140737488355328 := by have h1 := hnm.1.1; have h2 := hnm.1.2.1; omega
    have h2 : mo.n ≤ 140737488355328 := by have h1 := hmo.1.1; have h2 := hmo.1.2.1; omega
    have h3 := CT.few_bounds con (x - 1 - nm.n - mo.n)
    have hpn := fewN_bnd (g := fun i y => (pt i).few ((pa.f i).d.fewD (y - 1))) (n := pa.n) (K := 422212465065987) (fun i hi y hy => by
      have a := DL.fewD_bounds (hp i hi).1.2 (y - 1)
      have b := TT.few_bounds (pt i) (hp i hi).2 ((pa.f i).d.fewD (y - 1))
      show -422212465065987 ≤ (pt i).few ((pa.f i).d.fewD (y - 1)) ∧ (pt i).few ((pa.f i).d.fewD (y - 1)) ≤ y
      rcases Int.lt_or_le ((pa.f i).d.fewD (y - 1)) 0 with c | c
      · have := b.2 c; omega
      · have := b.1 c; omega) pa.n (Nat.le_refl _) (con.few (x - 1 - nm.n - mo.n))
    have han := fun z => fewN_bnd (g := fun i y => (at_ i).few ((ad.f i).d.fewD (y - 1))) (n := ad.n) (K := 422212465065987) (fun i hi y hy => by
      have a := DL.fewD_bounds (ha i hi).1.2 (y - 1)
      have b := TT.few_bounds (at_ i) (ha i hi).2 ((ad.f i).d.fewD (y - 1))
      show -422212465065987 ≤ (at_ i).few ((ad.f i).d.fewD (y - 1)) ∧ (at_ i).few ((ad.f i).d.fewD (y - 1)) ≤ y
      rcases Int.lt_or_le ((ad.f i).d.fewD (y - 1)) 0 with c | c
      · have := b.2 c; omega
      · have := b.1 c; omega) ad.n (Nat.le_refl _) z
    have hen := fun z => fewN_bnd (g := fun i y => (et i).few y) (n := en) (K := 422212465065987) (fun i hi y hy => (TT.few_bounds (et i) (he i hi) y).1 hy) en (Nat.le_refl _) z
    simp only [TT.few]
    constructor
    · intro hx
      have a := han (fewN (fun i y => (pt i).few ((pa.f i).d.fewD (y - 1))) pa.n (con.few (x - 1 - nm.n - mo.n)))
      have b := hen (fewN (fun i y => (at_ i).few ((ad.f i).d.fewD (y - 1))) ad.n (fewN (fun i y => (pt i).few ((pa.f i).d.fewD (y - 1))) pa.n (con.few (x - 1 - nm.n - mo.n))))
      omega
    · intro hx
      have hn : con.few (x - 1 - nm.n - mo.n) < 0 := by omega
      rw [fewN_neg hn pa.n, fewN_neg hn ad.n, fewN_neg hn en]
      omega
theorem few_step {B : Nat} {W : World} {n : Nat} {pf : Nat → PD} {pt : Nat → TT} (hp : ∀ i, i < n → PDIn B W (pf i) ∧ TIn B W (pt i)) (k : Nat) (hk : k ≤ n) (x : Int) :
    min x (-422212465065987) ≤ fewN (fun i y => (pt i).few ((pf i).d.fewD (y - 1))) k x ∧ fewN (fun i y => (pt i).few ((pf i).d.fewD (y - 1))) k x ≤ x :=
  fewN_bnd (n := n) (fun i hi y hy => by
      have a := DL.fewD_bounds (hp i hi).1.2 (y - 1)
      have b := TT.few_bounds (pt i) (hp i hi).2 ((pf i).d.fewD (y - 1))
      show -422212465065987 ≤ (pt i).few ((pf i).d.fewD (y - 1)) ∧ (pt i).few ((pf i).d.fewD (y - 1)) ≤ y
      rcases Int.lt_or_le ((pf i).d.fewD (y - 1)) 0 with c | c
      · have := b.2 c; omega
      · have := b.1 c; omega) k hk x
def RelFT (w : World) (g : Nat) (cs : Array Value) (n : Nat) (f : Nat → Int → Int) (x : Int) (xv iv : Value) (wr : World) : Prop :=
  ∃ (i : Nat), i ≤ n ∧ iv = .int .i64 (i : Nat) ∧ xv = .int .i64 (fewN f i x) ∧ Bx wr g cs 35 ∧ Below w.heap.size w wr
set_option maxHeartbeats 16000000 in
theorem few_in (t : TT) (B : Nat) (x : Int) (w : World) (hin : TIn B w t) (hB : B ≤ w.heap.size) (hx1 : -1152921504606846976 ≤ x) (hx2 : x ≤ 1152921504606846976)
    (hrec : ∀ k, k < t.kids → ∀ (z : Int) (w' : World), Below w.heap.size w w' → -1152921504606846976 ≤ z → z ≤ 1152921504606846976 → Calls Try.prog 18 #[.agg (t.kid k).cells.toArray, .int .i64 z] w' fun e w'' => e = .returned (.int .i64 ((t.kid k).few z)) ∧ Below w'.heap.size w' w'') :
    Calls Try.prog 18 #[.agg t.cells.toArray, .int .i64 x] w fun e w' => e = .returned (.int .i64 (t.few x)) ∧ Below w.heap.size w w' := by
  obtain ⟨kd, tn, op, lo, hi, lw, hg, ca, cn, cc, cch, ext, fr, sa, sn, sc, sf, ma, mn, mc, mf, pa, pn, pc, pf, ptf, aa, an, ac, af, atf, ea, en, ec, etf, rfl⟩ := hin.open
  have RP : ∀ i, i < pn → ∀ (z : Int) (w' : World), Below w.heap.size w w' → -1152921504606846976 ≤ z → z ≤ 1152921504606846976 → Calls Try.prog 18 #[.agg (ptf i).cells.toArray, .int .i64 z] w' fun e w'' => e = .returned (.int .i64 ((ptf i).few z)) ∧ Below w'.heap.size w' w'' := fun i hi => by
    have h := hrec i (by show i < pn + an + en; omega)
    simp only [TT.kid, if_pos hi] at h
    exact h
  have RA : ∀ i, i < an → ∀ (z : Int) (w' : World), Below w.heap.size w w' → -1152921504606846976 ≤ z → z ≤ 1152921504606846976 → Calls Try.prog 18 #[.agg (atf i).cells.toArray, .int .i64 z] w' fun e w'' => e = .returned (.int .i64 ((atf i).few z)) ∧ Below w'.heap.size w' w'' := fun i hi => by
    have h := hrec (pn + i) (by show pn + i < pn + an + en; omega)
    simp only [TT.kid, if_neg (show ¬ pn + i < pn by omega), if_pos (show pn + i < pn + an by omega), show pn + i - pn = i by omega] at h
    exact h
  have RE : ∀ i, i < en → ∀ (z : Int) (w' : World), Below w.heap.size w w' → -1152921504606846976 ≤ z → z ≤ 1152921504606846976 → Calls Try.prog 18 #[.agg (etf i).cells.toArray, .int .i64 z] w' fun e w'' => e = .returned (.int .i64 ((etf i).few z)) ∧ Below w'.heap.size w' w'' := fun i hi => by
    have h := hrec (pn + an + i) (by show pn + an + i < pn + an + en; omega)
    simp only [TT.kid, if_neg (show ¬ pn + an + i < pn by omega), if_neg (show ¬ pn + an + i < pn + an by omega), show pn + an + i - (pn + an) = i by omega] at h
    exact h
  obtain ⟨⟨_, _, hcon, _, hnm, hmo⟩, ⟨hpr, hp⟩, ⟨har, ha⟩, ⟨her, he⟩⟩ := hin
  have hpn : pn ≤ 9223372036854775807 := by have h1 : pn ≤ pc := hpr.1; have h2 : pc ≤ 140737488355328 := hpr.2.1; omega
  have han : an ≤ 9223372036854775807 := by have h1 : an ≤ ac := har.1; have h2 : ac ≤ 140737488355328 := har.2.1; omega
  have hen : en ≤ 9223372036854775807 := by have h1 : en ≤ ec := her.1; have h2 : ec ≤ 140737488355328 := her.2.1; omega
  have hsn : sn ≤ 140737488355328 := by have h1 : sn ≤ sc := hnm.1.1; have h2 : sc ≤ 140737488355328 := hnm.1.2.1; omega
  have hmn : mn ≤ 140737488355328 := by have h1 : mn ≤ mc := hmo.1.1; have h2 : mc ≤ 140737488355328 := hmo.1.2.1; omega
  have HBP := Lib.hid (few_step (n := pn) hp)
  have HBA := Lib.hid (few_step (n := an) ha)
  have HBE := Lib.hid (fewN_bnd (g := fun i y => (etf i).few y) (n := en) (K := 422212465065987) (fun i hi y hy => (TT.few_bounds (etf i) (he i hi) y).1 hy))
  have HRES := Lib.hid (show (TT.mk kd tn (.mk op lo hi lw hg ca cn cc cch) ext fr ⟨sa, sn, sc, sf⟩ ⟨ma, mn, mc, mf⟩ ⟨pa, pn, pc, pf⟩ ptf ⟨aa, an, ac, af⟩ atf ea en ec etf).few x = (fewN (fun i y => (etf i).few y) en (fewN (fun i y => (atf i).few ((af i).d.fewD (y - 1))) an (fewN (fun i y => (ptf i).few ((pf i).d.fewD (y - 1))) pn ((CT.mk op lo hi lw hg ca cn cc cch).few (x - 1 - sn - mn))))) from rfl)
  obtain ⟨res, hres⟩ : ∃ res, (TT.mk kd tn (.mk op lo hi lw hg ca cn cc cch) ext fr ⟨sa, sn, sc, sf⟩ ⟨ma, mn, mc, mf⟩ ⟨pa, pn, pc, pf⟩ ptf ⟨aa, an, ac, af⟩ atf ea en ec etf).few x = res := ⟨_, rfl⟩
  rw [hres] at HRES ⊢
  have hcb := CT.few_bounds (.mk op lo hi lw hg ca cn cc cch) (x - 1 - sn - mn)
  have HB0 := Lib.hid ((Below.refl w.heap.size w).alloc (Nat.le_refl _) (.cells #[.int .i64 kd, .string tn, .int .i64 op, .int .i64 lo, .int .i64 hi, .bool lw, .bool hg, .slice ca cn cc, .bool ext, .string fr, .slice sa sn sc, .slice ma mn mc, .slice pa pn pc, .slice aa an ac, .slice ea en ec] 35))
  have HX0 := Lib.hid (Bx.new w #[.int .i64 kd, .string tn, .int .i64 op, .int .i64 lo, .int .i64 hi, .bool lw, .bool hg, .slice ca cn cc, .bool ext, .string fr, .slice sa sn sc, .slice ma mn mc, .slice pa pn pc, .slice aa an ac, .slice ea en ec] 35)
  have HC := Lib.hid (fewCon_ok B (.mk op lo hi lw hg ca cn cc cch) (x - 1 - sn - mn) (w.alloc (.cells #[.int .i64 kd, .string tn, .int .i64 op, .int .i64 lo, .int .i64 hi, .bool lw, .bool hg, .slice ca cn cc, .bool ext, .string fr, .slice sa sn sc, .slice ma mn mc, .slice pa pn pc, .slice aa an ac, .slice ea en ec] 35)) (hcon.below (HB0.out.mono hB) (Nat.le_refl _)) (Nat.le_trans hB HB0.out.size) (by omega) (by omega))
  obtain ⟨x0, hx0⟩ : ∃ x0, (CT.mk op lo hi lw hg ca cn cc cch).few (x - 1 - sn - mn) = x0 := ⟨_, rfl⟩
  rw [hx0] at HRES HC hcb
  simp only [CT.v, CT.cells] at HC
  have q5 : IntKind.i64.wrap (x - 1) = x - 1 := wrap_ok (by unfold I64; omega)
  have q6 : IntKind.i64.wrap (x - 1 - (sn : Int)) = x - 1 - (sn : Int) := wrap_ok (by unfold I64; omega)
  have q7 : IntKind.i64.wrap (x - 1 - (sn : Int) - (mn : Int)) = x - 1 - (sn : Int) - (mn : Int) := wrap_ok (by unfold I64; omega)
  have HPR := Lib.hid hpr
  have HP := Lib.hid hp
  have HAR := Lib.hid har
  have HA := Lib.hid ha
  have HER := Lib.hid her
  have HE := Lib.hid he
  have HPREC := Lib.hid RP
  have HAREC := Lib.hid RA
  have HEREC := Lib.hid RE
  have HBB := Lib.hid hB
  clear hpr hp har ha her he RP RA RE hrec hB hres hx0 hcon hnm hmo
  simp only [TT.cells, CT.cells, SL.v, PL.v, List.cons_append, List.nil_append]
  go_enter Try.func18, Try.ntmps18
  go_wp2_with fail
  refine HC.out.mono ?_
  rintro e W1 ⟨rfl, hb⟩
  have HX := Lib.hid (HX0.out.below hb HX0.out.lt)
  have HB := Lib.hid (HB0.out.trans (hb.mono HB0.out.size))
  clear hb HX0 HB0 HC q5 q6 q7
  go_wp2_with fail
  go_loopw [1, 5] (fun xv iv wr => RelFT w w.heap.size #[.int .i64 kd, .string tn, .int .i64 op, .int .i64 lo, .int .i64 hi, .bool lw, .bool hg, .slice ca cn cc, .bool ext, .string fr, .slice sa sn sc, .slice ma mn mc, .slice pa pn pc, .slice aa an ac, .slice ea en ec] pn (fun i y => (ptf i).few ((pf i).d.fewD (y - 1))) x0 xv iv wr) (fun _ iv _ => pn - (Lib.intOf iv).toNat)
  case atStart => exact ⟨0, Nat.zero_le _, rfl, rfl, HX.out, HB.out⟩
  case round =>
    obtain ⟨i, hli, rfl, rfl, hbx, hbel⟩ := hrel
    have HBo := Lib.hid hbel
    have HXo := Lib.hid hbx
    clear HX HB
    have HX := Lib.hid hbx
    have HB := Lib.hid hbel
    clear HXo HBo
    have c12 := hbx.cell 12 rfl
    obtain ⟨z, hz⟩ : ∃ z, fewN (fun i y => (ptf i).few ((pf i).d.fewD (y - 1))) i x0 = z := ⟨_, rfl⟩
    rw [hz]
    have HZ := Lib.hid hz
    have hzb := HBP.out i hli x0
    rw [hz] at hzb
    have hsz := hbel.size
    clear hbel hbx hz
    by_cases hlt : i < pn
    · have q1 : decide ((i : Int) < (pn : Int)) = true := decide_eq_true (by omega)
      have q1n : decide (i < pn) = true := decide_eq_true hlt
      by_cases h0 : 0 ≤ z
      · have q2 : decide ((0 : Int) ≤ z) = true := decide_eq_true h0
        obtain ⟨gx, ox, hix, hgx, hrd⟩ := pRow_read HPR.out hlt
        have HR := Lib.hid (hrd wr (HB.out.block gx (by have := HBB.out; omega)))
        obtain ⟨kd', tn', op', lo', hi', lw', hg', ca', cn', cc', cch', ext', fr', sa', sn', sc', sf', ma', mn', mc', mf', pa', pn', pc', pf', ptf', aa', an', ac', af', atf', ea', en', ec', etf', hkd⟩ := (HP.out i hlt).2.open
        have k0 : wr.cell? ⟨gx, ox + 1, none⟩ = some (.int .i64 kd') := HR.out 1 _ (by rw [hkd]; rfl)
        have k1 : wr.cell? ⟨gx, ox + 2, none⟩ = some (.string tn') := HR.out 2 _ (by rw [hkd]; rfl)
        have k2 : wr.cell? ⟨gx, ox + 3, none⟩ = some (.int .i64 op') := HR.out 3 _ (by rw [hkd]; rfl)
        have k3 : wr.cell? ⟨gx, ox + 4, none⟩ = some (.int .i64 lo') := HR.out 4 _ (by rw [hkd]; rfl)
        have k4 : wr.cell? ⟨gx, ox + 5, none⟩ = some (.int .i64 hi') := HR.out 5 _ (by rw [hkd]; rfl)
        have k5 : wr.cell? ⟨gx, ox + 6, none⟩ = some (.bool lw') := HR.out 6 _ (by rw [hkd]; rfl)
        have k6 : wr.cell? ⟨gx, ox + 7, none⟩ = some (.bool hg') := HR.out 7 _ (by rw [hkd]; rfl)
        have k7 : wr.cell? ⟨gx, ox + 8, none⟩ = some (.slice ca' cn' cc') := HR.out 8 _ (by rw [hkd]; rfl)
        have k8 : wr.cell? ⟨gx, ox + 9, none⟩ = some (.bool ext') := HR.out 9 _ (by rw [hkd]; rfl)
        have k9 : wr.cell? ⟨gx, ox + 10, none⟩ = some (.string fr') := HR.out 10 _ (by rw [hkd]; rfl)
        have k10 : wr.cell? ⟨gx, ox + 11, none⟩ = some (.slice sa' sn' sc') := HR.out 11 _ (by rw [hkd]; rfl)
        have k11 : wr.cell? ⟨gx, ox + 12, none⟩ = some (.slice ma' mn' mc') := HR.out 12 _ (by rw [hkd]; rfl)
        have k12 : wr.cell? ⟨gx, ox + 13, none⟩ = some (.slice pa' pn' pc') := HR.out 13 _ (by rw [hkd]; rfl)
        have k13 : wr.cell? ⟨gx, ox + 14, none⟩ = some (.slice aa' an' ac') := HR.out 14 _ (by rw [hkd]; rfl)
        have k14 : wr.cell? ⟨gx, ox + 15, none⟩ = some (.slice ea' en' ec') := HR.out 15 _ (by rw [hkd]; rfl)
        have q3 : IntKind.i64.wrap ((i : Int) + 1) = ((i + 1 : Nat) : Int) := wrap_succ hlt hpn
        clear hrd
        have q4 : IntKind.i64.wrap (z - 1) = z - 1 := wrap_ok (by unfold I64; omega)
        have hfd := DL.fewD_bounds (HP.out i hlt).1.2 (z - 1)
        obtain ⟨zd, hzd⟩ : ∃ zd, (pf i).d.fewD (z - 1) = zd := ⟨_, rfl⟩
        rw [hzd] at hfd
        have HCL := Lib.hid (fun (d : Nat) (os : Array Obj) => Calls.regrown_of (fewDefs_ok B (pf i).d.vt (z - 1) (Go.Sort.grow (redrawn wr d) os) ((HP.out i hlt).1.2.vt.below ((HB.out.trans ((below_regrown wr d os).mono hsz)).mono HBB.out) (Nat.le_refl _)) (Nat.le_trans HBB.out (Nat.le_trans hsz (below_regrown wr d os).size)) (by omega) (by omega)))
        rw [show (pf i).d.vt.fewL (z - 1) = zd from hzd] at HCL
        have HCT := Lib.hid (fun (d : Nat) (os : Array Obj) => Calls.regrown_of (HPREC.out i hlt zd (Go.Sort.grow (redrawn wr d) os) (HB.out.trans ((below_regrown wr d os).mono hsz)) (by omega) (by omega)))
        obtain ⟨zn, hzn⟩ : ∃ zn, (ptf i).few zd = zn := ⟨_, rfl⟩
        rw [hzn] at HCT
        have HN := Lib.hid (show fewN (fun i y => (ptf i).few ((pf i).d.fewD (y - 1))) (i + 1) x0 = zn by
          simp only [fewN]
          rw [HZ.out, if_pos h0, hzd, hzn])
        obtain ⟨qn, qo, qa, qk, qc, qf, hpd⟩ : ∃ qn qo qa qk qc qf, pf i = ⟨qn, qo, ⟨qa, qk, qc, qf⟩⟩ := ⟨_, _, _, _, _, _, rfl⟩
        have k17 : wr.cell? ⟨gx, ox + 17, none⟩ = some (.slice qa qk qc) := HR.out 17 _ (by rw [hkd, hpd]; rfl)
        rw [hpd] at HCL
        simp only [DL.vt, VT.row] at HCL
        rw [hkd] at HCT
        simp only [TT.cells, CT.cells, SL.v, PL.v, List.cons_append, List.nil_append] at HCT
        have b12 := fun d os => cell_regrown c12 d os
        have d0 := fun d os => cell_regrown k0 d os
        have d1 := fun d os => cell_regrown k1 d os
        have d2 := fun d os => cell_regrown k2 d os
        have d3 := fun d os => cell_regrown k3 d os
        have d4 := fun d os => cell_regrown k4 d os
        have d5 := fun d os => cell_regrown k5 d os
        have d6 := fun d os => cell_regrown k6 d os
        have d7 := fun d os => cell_regrown k7 d os
        have d8 := fun d os => cell_regrown k8 d os
        have d9 := fun d os => cell_regrown k9 d os
        have d10 := fun d os => cell_regrown k10 d os
        have d11 := fun d os => cell_regrown k11 d os
        have d12 := fun d os => cell_regrown k12 d os
        have d13 := fun d os => cell_regrown k13 d os
        have d14 := fun d os => cell_regrown k14 d os
        have d17 := fun d os => cell_regrown k17 d os
        clear hkd hpd hzn hzd k0 k1 k2 k3 k4 k5 k6 k7 k8 k9 k10 k11 k12 k13 k14 k17
        go_wp2_with fail
        refine wp_region_quiet_below (by kernel_rfl) (by kernel_rfl) ?_
        quiet_step (fail)
        quiet_step (fail)
        quiet_step (fail)
        quiet_step (fail)
        quiet_step (fail)
        quiet_step (fail)
        quiet_step (fail)
        quiet_step (fail)
        quiet_step (fail)
        quiet_step (fail)
        quiet_step (fail)
        quiet_step (fail)
        quiet_step (fail)
        quiet_step (fail)
        quiet_step (exact HCL.out _ _)
        quiet_step (exact HCT.out _ _)
        quiet_step (fail)
        refine wpQuiet_nil ?_
        intro _ hw'
        obtain ⟨⟨dq, osq⟩, hw''⟩ := hw'
        subst hw''
        have hb2 := below_regrown wr dq osq
        clear b12 c12 d0 d1 d2 d3 d4 d5 d6 d7 d8 d9 d10 d11 d12 d13 d14 d17 HCL HCT
        generalize Go.Sort.grow (redrawn wr dq) osq = W2 at *
        have HB1 := Lib.hid (HB.out.trans (hb2.mono hsz))
        have HX1 := Lib.hid (HX.out.below hb2 HX.out.lt)
        clear hb2
        go_wp2_with fail
        go_roundw
        case rel => exact ⟨i + 1, hlt, rfl, by rw [HN.out], HX1.out, HB1.out⟩
        case measure => simp only [Lib.intOf]; omega
      · have q2 : decide ((0 : Int) ≤ z) = false := decide_eq_false h0
        have HZY := Lib.hid ((fewN_stop (g := (fun i y => (ptf i).few ((pf i).d.fewD (y - 1)))) (k := i) (x := x0) (by rw [HZ.out]; omega) pn hli).trans HZ.out)
        obtain ⟨x1, hx1⟩ : ∃ x1, fewN (fun i y => (ptf i).few ((pf i).d.fewD (y - 1))) pn x0 = x1 := ⟨_, rfl⟩
        rw [hx1] at HRES HZY
        obtain rfl : x1 = z := HZY.out
        have hneg0 : x1 < 0 := by omega
        have hbx1 := HBP.out pn (Nat.le_refl _) x0
        rw [hx1] at hbx1
        clear hx1 HZ hzb
        obtain ⟨wo0, rfl⟩ : ∃ wo : World, wo = wr := ⟨_, rfl⟩
        go_wp2_with fail
        clear c12
        go_loopw [1, 6] (fun xv iv wr => RelFT w w.heap.size #[.int .i64 kd, .string tn, .int .i64 op, .int .i64 lo, .int .i64 hi, .bool lw, .bool hg, .slice ca cn cc, .bool ext, .string fr, .slice sa sn sc, .slice ma mn mc, .slice pa pn pc, .slice aa an ac, .slice ea en ec] an (fun i y => (atf i).few ((af i).d.fewD (y - 1))) x1 xv iv wr) (fun _ iv _ => an - (Lib.intOf iv).toNat)
        case atStart => exact ⟨0, Nat.zero_le _, rfl, rfl, HX.out, HB.out⟩
        case round =>
          obtain ⟨i, hli, rfl, rfl, hbx, hbel⟩ := hrel
          have HBo := Lib.hid hbel
          have HXo := Lib.hid hbx
          clear HX HB
          have HX := Lib.hid hbx
          have HB := Lib.hid hbel
          clear HXo HBo
          have c13 := hbx.cell 13 rfl
          obtain ⟨z, hz⟩ : ∃ z, fewN (fun i y => (atf i).few ((af i).d.fewD (y - 1))) i x1 = z := ⟨_, rfl⟩
          rw [hz]
          have HZ := Lib.hid hz
          have hzb := HBA.out i hli x1
          rw [hz] at hzb
          have hsz := hbel.size
          clear hbel hbx hz
          have hzneg : ¬ (0 ≤ z) := by omega
          by_cases hlt : i < an
          · have q1 : decide ((i : Int) < (an : Int)) = true := decide_eq_true (by omega)
            have q1n : decide (i < an) = true := decide_eq_true hlt
            have h0 := hzneg
            clear hzneg
            have q2 : decide ((0 : Int) ≤ z) = false := decide_eq_false h0
            have HZY := Lib.hid ((fewN_stop (g := (fun i y => (atf i).few ((af i).d.fewD (y - 1)))) (k := i) (x := x1) (by rw [HZ.out]; omega) an hli).trans HZ.out)
            obtain ⟨x2, hx2⟩ : ∃ x2, fewN (fun i y => (atf i).few ((af i).d.fewD (y - 1))) an x1 = x2 := ⟨_, rfl⟩
            rw [hx2] at HRES HZY
            obtain rfl : x2 = z := HZY.out
            have hneg1 : x2 < 0 := by omega
            have hbx2 := HBA.out an (Nat.le_refl _) x1
            rw [hx2] at hbx2
            clear hx2 HZ hzb
            obtain ⟨wo1, rfl⟩ : ∃ wo : World, wo = wr := ⟨_, rfl⟩
            go_wp2_with fail
            clear c13
            go_loopw [1, 7] (fun xv iv wr => RelFT w w.heap.size #[.int .i64 kd, .string tn, .int .i64 op, .int .i64 lo, .int .i64 hi, .bool lw, .bool hg, .slice ca cn cc, .bool ext, .string fr, .slice sa sn sc, .slice ma mn mc, .slice pa pn pc, .slice aa an ac, .slice ea en ec] en (fun i y => (etf i).few y) x2 xv iv wr) (fun _ iv _ => en - (Lib.intOf iv).toNat)
            case atStart => exact ⟨0, Nat.zero_le _, rfl, rfl, HX.out, HB.out⟩
            case round =>
              obtain ⟨i, hli, rfl, rfl, hbx, hbel⟩ := hrel
              have HBo := Lib.hid hbel
              have HXo := Lib.hid hbx
              clear HX HB
              have HX := Lib.hid hbx
              have HB := Lib.hid hbel
              clear HXo HBo
              have c14 := hbx.cell 14 rfl
              obtain ⟨z, hz⟩ : ∃ z, fewN (fun i y => (etf i).few y) i x2 = z := ⟨_, rfl⟩
              rw [hz]
              have HZ := Lib.hid hz
              have hzb := HBE.out i hli x2
              rw [hz] at hzb
              have hsz := hbel.size
              clear hbel hbx hz
              have hzneg : ¬ (0 ≤ z) := by omega
              by_cases hlt : i < en
              · have q1 : decide ((i : Int) < (en : Int)) = true := decide_eq_true (by omega)
                have q1n : decide (i < en) = true := decide_eq_true hlt
                have h0 := hzneg
                clear hzneg
                have q2 : decide ((0 : Int) ≤ z) = false := decide_eq_false h0
                have HZY := Lib.hid ((fewN_stop (g := (fun i y => (etf i).few y)) (k := i) (x := x2) (by rw [HZ.out]; omega) en hli).trans HZ.out)
                obtain ⟨x3, hx3⟩ : ∃ x3, fewN (fun i y => (etf i).few y) en x2 = x3 := ⟨_, rfl⟩
                rw [hx3] at HRES HZY
                obtain rfl : x3 = z := HZY.out
                have hneg2 : x3 < 0 := by omega
                have hbx3 := HBE.out en (Nat.le_refl _) x2
                rw [hx3] at hbx3
                clear hx3 HZ hzb
                obtain ⟨wo2, rfl⟩ : ∃ wo : World, wo = wr := ⟨_, rfl⟩
                go_wp2_with fail
                go_ret
                refine ⟨?_, HB.out⟩
                rw [HRES.out]
                rfl
              · have q1 : decide ((i : Int) < (en : Int)) = false := decide_eq_false (by omega)
                have q1n : decide (i < en) = false := decide_eq_false hlt
                obtain rfl : en = i := by omega
                have HZY := Lib.hid HZ.out
                obtain ⟨x3, hx3⟩ : ∃ x3, fewN (fun i y => (etf i).few y) en x2 = x3 := ⟨_, rfl⟩
                rw [hx3] at HRES HZY
                obtain rfl : x3 = z := HZY.out
                have hbx3 := HBE.out en (Nat.le_refl _) x2
                rw [hx3] at hbx3
                clear hx3 HZ hzb
                obtain ⟨wo2, rfl⟩ : ∃ wo : World, wo = wr := ⟨_, rfl⟩
                go_wp2_with fail
                go_ret
                refine ⟨?_, HB.out⟩
                rw [HRES.out]
                rfl
          · have q1 : decide ((i : Int) < (an : Int)) = false := decide_eq_false (by omega)
            have q1n : decide (i < an) = false := decide_eq_false hlt
            obtain rfl : an = i := by omega
            have HZY := Lib.hid HZ.out
            obtain ⟨x2, hx2⟩ : ∃ x2, fewN (fun i y => (atf i).few ((af i).d.fewD (y - 1))) an x1 = x2 := ⟨_, rfl⟩
            rw [hx2] at HRES HZY
            obtain rfl : x2 = z := HZY.out
            have hbx2 := HBA.out an (Nat.le_refl _) x1
            rw [hx2] at hbx2
            clear hx2 HZ hzb
            obtain ⟨wo1, rfl⟩ : ∃ wo : World, wo = wr := ⟨_, rfl⟩
            go_wp2_with fail
            clear c13
            go_loopw [1, 7] (fun xv iv wr => RelFT w w.heap.size #[.int .i64 kd, .string tn, .int .i64 op, .int .i64 lo, .int .i64 hi, .bool lw, .bool hg, .slice ca cn cc, .bool ext, .string fr, .slice sa sn sc, .slice ma mn mc, .slice pa pn pc, .slice aa an ac, .slice ea en ec] en (fun i y => (etf i).few y) x2 xv iv wr) (fun _ iv _ => en - (Lib.intOf iv).toNat)
            case atStart => exact ⟨0, Nat.zero_le _, rfl, rfl, HX.out, HB.out⟩
            case round =>
              obtain ⟨i, hli, rfl, rfl, hbx, hbel⟩ := hrel
              have HBo := Lib.hid hbel
              have HXo := Lib.hid hbx
              clear HX HB
              have HX := Lib.hid hbx
              have HB := Lib.hid hbel
              clear HXo HBo
              have c14 := hbx.cell 14 rfl
              obtain ⟨z, hz⟩ : ∃ z, fewN (fun i y => (etf i).few y) i x2 = z := ⟨_, rfl⟩
              rw [hz]
              have HZ := Lib.hid hz
              have hzb := HBE.out i hli x2
              rw [hz] at hzb
              have hsz := hbel.size
              clear hbel hbx hz
              have hzneg : ¬ (0 ≤ z) := by omega
              by_cases hlt : i < en
              · have q1 : decide ((i : Int) < (en : Int)) = true := decide_eq_true (by omega)
                have q1n : decide (i < en) = true := decide_eq_true hlt
                have h0 := hzneg
                clear hzneg
                have q2 : decide ((0 : Int) ≤ z) = false := decide_eq_false h0
                have HZY := Lib.hid ((fewN_stop (g := (fun i y => (etf i).few y)) (k := i) (x := x2) (by rw [HZ.out]; omega) en hli).trans HZ.out)
                obtain ⟨x3, hx3⟩ : ∃ x3, fewN (fun i y => (etf i).few y) en x2 = x3 := ⟨_, rfl⟩
                rw [hx3] at HRES HZY
                obtain rfl : x3 = z := HZY.out
                have hneg2 : x3 < 0 := by omega
                have hbx3 := HBE.out en (Nat.le_refl _) x2
                rw [hx3] at hbx3
                clear hx3 HZ hzb
                obtain ⟨wo2, rfl⟩ : ∃ wo : World, wo = wr := ⟨_, rfl⟩
                go_wp2_with fail
                go_ret
                refine ⟨?_, HB.out⟩
                rw [HRES.out]
                rfl
              · have q1 : decide ((i : Int) < (en : Int)) = false := decide_eq_false (by omega)
                have q1n : decide (i < en) = false := decide_eq_false hlt
                obtain rfl : en = i := by omega
                have HZY := Lib.hid HZ.out
                obtain ⟨x3, hx3⟩ : ∃ x3, fewN (fun i y => (etf i).few y) en x2 = x3 := ⟨_, rfl⟩
                rw [hx3] at HRES HZY
                obtain rfl : x3 = z := HZY.out
                have hbx3 := HBE.out en (Nat.le_refl _) x2
                rw [hx3] at hbx3
                clear hx3 HZ hzb
                obtain ⟨wo2, rfl⟩ : ∃ wo : World, wo = wr := ⟨_, rfl⟩
                go_wp2_with fail
                go_ret
                refine ⟨?_, HB.out⟩
                rw [HRES.out]
                rfl
    · have q1 : decide ((i : Int) < (pn : Int)) = false := decide_eq_false (by omega)
      have q1n : decide (i < pn) = false := decide_eq_false hlt
      obtain rfl : pn = i := by omega
      have HZY := Lib.hid HZ.out
      obtain ⟨x1, hx1⟩ : ∃ x1, fewN (fun i y => (ptf i).few ((pf i).d.fewD (y - 1))) pn x0 = x1 := ⟨_, rfl⟩
      rw [hx1] at HRES HZY
      obtain rfl : x1 = z := HZY.out
      have hbx1 := HBP.out pn (Nat.le_refl _) x0
      rw [hx1] at hbx1
      clear hx1 HZ hzb
      obtain ⟨wo0, rfl⟩ : ∃ wo : World, wo = wr := ⟨_, rfl⟩
      go_wp2_with fail
      clear c12
      go_loopw [1, 6] (fun xv iv wr => RelFT w w.heap.size #[.int .i64 kd, .string tn, .int .i64 op, .int .i64 lo, .int .i64 hi, .bool lw, .bool hg, .slice ca cn cc, .bool ext, .string fr, .slice sa sn sc, .slice ma mn mc, .slice pa pn pc, .slice aa an ac, .slice ea en ec] an (fun i y => (atf i).few ((af i).d.fewD (y - 1))) x1 xv iv wr) (fun _ iv _ => an - (Lib.intOf iv).toNat)
      case atStart => exact ⟨0, Nat.zero_le _, rfl, rfl, HX.out, HB.out⟩
      case round =>
        obtain ⟨i, hli, rfl, rfl, hbx, hbel⟩ := hrel
        have HBo := Lib.hid hbel
        have HXo := Lib.hid hbx
        clear HX HB
        have HX := Lib.hid hbx
        have HB := Lib.hid hbel
        clear HXo HBo
        have c13 := hbx.cell 13 rfl
        obtain ⟨z, hz⟩ : ∃ z, fewN (fun i y => (atf i).few ((af i).d.fewD (y - 1))) i x1 = z := ⟨_, rfl⟩
        rw [hz]
        have HZ := Lib.hid hz
        have hzb := HBA.out i hli x1
        rw [hz] at hzb
        have hsz := hbel.size
        clear hbel hbx hz
        by_cases hlt : i < an
        · have q1 : decide ((i : Int) < (an : Int)) = true := decide_eq_true (by omega)
          have q1n : decide (i < an) = true := decide_eq_true hlt
          by_cases h0 : 0 ≤ z
          · have q2 : decide ((0 : Int) ≤ z) = true := decide_eq_true h0
            obtain ⟨gx, ox, hix, hgx, hrd⟩ := pRow_read HAR.out hlt
            have HR := Lib.hid (hrd wr (HB.out.block gx (by have := HBB.out; omega)))
            obtain ⟨kd', tn', op', lo', hi', lw', hg', ca', cn', cc', cch', ext', fr', sa', sn', sc', sf', ma', mn', mc', mf', pa', pn', pc', pf', ptf', aa', an', ac', af', atf', ea', en', ec', etf', hkd⟩ := (HA.out i hlt).2.open
            have k0 : wr.cell? ⟨gx, ox + 1, none⟩ = some (.int .i64 kd') := HR.out 1 _ (by rw [hkd]; rfl)
            have k1 : wr.cell? ⟨gx, ox + 2, none⟩ = some (.string tn') := HR.out 2 _ (by rw [hkd]; rfl)
            have k2 : wr.cell? ⟨gx, ox + 3, none⟩ = some (.int .i64 op') := HR.out 3 _ (by rw [hkd]; rfl)
            have k3 : wr.cell? ⟨gx, ox + 4, none⟩ = some (.int .i64 lo') := HR.out 4 _ (by rw [hkd]; rfl)
            have k4 : wr.cell? ⟨gx, ox + 5, none⟩ = some (.int .i64 hi') := HR.out 5 _ (by rw [hkd]; rfl)
            have k5 : wr.cell? ⟨gx, ox + 6, none⟩ = some (.bool lw') := HR.out 6 _ (by rw [hkd]; rfl)
            have k6 : wr.cell? ⟨gx, ox + 7, none⟩ = some (.bool hg') := HR.out 7 _ (by rw [hkd]; rfl)
            have k7 : wr.cell? ⟨gx, ox + 8, none⟩ = some (.slice ca' cn' cc') := HR.out 8 _ (by rw [hkd]; rfl)
            have k8 : wr.cell? ⟨gx, ox + 9, none⟩ = some (.bool ext') := HR.out 9 _ (by rw [hkd]; rfl)
            have k9 : wr.cell? ⟨gx, ox + 10, none⟩ = some (.string fr') := HR.out 10 _ (by rw [hkd]; rfl)
            have k10 : wr.cell? ⟨gx, ox + 11, none⟩ = some (.slice sa' sn' sc') := HR.out 11 _ (by rw [hkd]; rfl)
            have k11 : wr.cell? ⟨gx, ox + 12, none⟩ = some (.slice ma' mn' mc') := HR.out 12 _ (by rw [hkd]; rfl)
            have k12 : wr.cell? ⟨gx, ox + 13, none⟩ = some (.slice pa' pn' pc') := HR.out 13 _ (by rw [hkd]; rfl)
            have k13 : wr.cell? ⟨gx, ox + 14, none⟩ = some (.slice aa' an' ac') := HR.out 14 _ (by rw [hkd]; rfl)
            have k14 : wr.cell? ⟨gx, ox + 15, none⟩ = some (.slice ea' en' ec') := HR.out 15 _ (by rw [hkd]; rfl)
            have q3 : IntKind.i64.wrap ((i : Int) + 1) = ((i + 1 : Nat) : Int) := wrap_succ hlt han
            clear hrd
            have q4 : IntKind.i64.wrap (z - 1) = z - 1 := wrap_ok (by unfold I64; omega)
            have hfd := DL.fewD_bounds (HA.out i hlt).1.2 (z - 1)
            obtain ⟨zd, hzd⟩ : ∃ zd, (af i).d.fewD (z - 1) = zd := ⟨_, rfl⟩
            rw [hzd] at hfd
            have HCL := Lib.hid (fun (d : Nat) (os : Array Obj) => Calls.regrown_of (fewDefs_ok B (af i).d.vt (z - 1) (Go.Sort.grow (redrawn wr d) os) ((HA.out i hlt).1.2.vt.below ((HB.out.trans ((below_regrown wr d os).mono hsz)).mono HBB.out) (Nat.le_refl _)) (Nat.le_trans HBB.out (Nat.le_trans hsz (below_regrown wr d os).size)) (by omega) (by omega)))
            rw [show (af i).d.vt.fewL (z - 1) = zd from hzd] at HCL
            have HCT := Lib.hid (fun (d : Nat) (os : Array Obj) => Calls.regrown_of (HAREC.out i hlt zd (Go.Sort.grow (redrawn wr d) os) (HB.out.trans ((below_regrown wr d os).mono hsz)) (by omega) (by omega)))
            obtain ⟨zn, hzn⟩ : ∃ zn, (atf i).few zd = zn := ⟨_, rfl⟩
            rw [hzn] at HCT
            have HN := Lib.hid (show fewN (fun i y => (atf i).few ((af i).d.fewD (y - 1))) (i + 1) x1 = zn by
              simp only [fewN]
              rw [HZ.out, if_pos h0, hzd, hzn])
            obtain ⟨qn, qo, qa, qk, qc, qf, hpd⟩ : ∃ qn qo qa qk qc qf, af i = ⟨qn, qo, ⟨qa, qk, qc, qf⟩⟩ := ⟨_, _, _, _, _, _, rfl⟩
            have k17 : wr.cell? ⟨gx, ox + 17, none⟩ = some (.slice qa qk qc) := HR.out 17 _ (by rw [hkd, hpd]; rfl)
            rw [hpd] at HCL
            simp only [DL.vt, VT.row] at HCL
            rw [hkd] at HCT
            simp only [TT.cells, CT.cells, SL.v, PL.v, List.cons_append, List.nil_append] at HCT
            have b13 := fun d os => cell_regrown c13 d os
            have d0 := fun d os => cell_regrown k0 d os
            have d1 := fun d os => cell_regrown k1 d os
            have d2 := fun d os => cell_regrown k2 d os
            have d3 := fun d os => cell_regrown k3 d os
            have d4 := fun d os => cell_regrown k4 d os
            have d5 := fun d os => cell_regrown k5 d os
            have d6 := fun d os => cell_regrown k6 d os
            have d7 := fun d os => cell_regrown k7 d os
            have d8 := fun d os => cell_regrown k8 d os
            have d9 := fun d os => cell_regrown k9 d os
            have d10 := fun d os => cell_regrown k10 d os
            have d11 := fun d os => cell_regrown k11 d os
            have d12 := fun d os => cell_regrown k12 d os
            have d13 := fun d os => cell_regrown k13 d os
            have d14 := fun d os => cell_regrown k14 d os
            have d17 := fun d os => cell_regrown k17 d os
            clear hkd hpd hzn hzd k0 k1 k2 k3 k4 k5 k6 k7 k8 k9 k10 k11 k12 k13 k14 k17
            go_wp2_with fail
            refine wp_region_quiet_below (by kernel_rfl) (by kernel_rfl) ?_
            quiet_step (fail)
            quiet_step (fail)
            quiet_step (fail)
            quiet_step (fail)
            quiet_step (fail)
            quiet_step (fail)
            quiet_step (fail)
            quiet_step (fail)
            quiet_step (fail)
            quiet_step (fail)
            quiet_step (fail)
            quiet_step (fail)
            quiet_step (fail)
            quiet_step (fail)
            quiet_step (exact HCL.out _ _)
            quiet_step (exact HCT.out _ _)
            quiet_step (fail)
            refine wpQuiet_nil ?_
            intro _ hw'
            obtain ⟨⟨dq, osq⟩, hw''⟩ := hw'
            subst hw''
            have hb2 := below_regrown wr dq osq
            clear b13 c13 d0 d1 d2 d3 d4 d5 d6 d7 d8 d9 d10 d11 d12 d13 d14 d17 HCL HCT
            generalize Go.Sort.grow (redrawn wr dq) osq = W2 at *
            have HB1 := Lib.hid (HB.out.trans (hb2.mono hsz))
            have HX1 := Lib.hid (HX.out.below hb2 HX.out.lt)
            clear hb2
            go_wp2_with fail
            go_roundw
            case rel => exact ⟨i + 1, hlt, rfl, by rw [HN.out], HX1.out, HB1.out⟩
            case measure => simp only [Lib.intOf]; omega
          · have q2 : decide ((0 : Int) ≤ z) = false := decide_eq_false h0
            have HZY := Lib.hid ((fewN_stop (g := (fun i y => (atf i).few ((af i).d.fewD (y - 1)))) (k := i) (x := x1) (by rw [HZ.out]; omega) an hli).trans HZ.out)
            obtain ⟨x2, hx2⟩ : ∃ x2, fewN (fun i y => (atf i).few ((af i).d.fewD (y - 1))) an x1 = x2 := ⟨_, rfl⟩
            rw [hx2] at HRES HZY
            obtain rfl : x2 = z := HZY.out
            have hneg1 : x2 < 0 := by omega
            have hbx2 := HBA.out an (Nat.le_refl _) x1
            rw [hx2] at hbx2
            clear hx2 HZ hzb
            obtain ⟨wo1, rfl⟩ : ∃ wo : World, wo = wr := ⟨_, rfl⟩
            go_wp2_with fail
            clear c13
            go_loopw [1, 7] (fun xv iv wr => RelFT w w.heap.size #[.int .i64 kd, .string tn, .int .i64 op, .int .i64 lo, .int .i64 hi, .bool lw, .bool hg, .slice ca cn cc, .bool ext, .string fr, .slice sa sn sc, .slice ma mn mc, .slice pa pn pc, .slice aa an ac, .slice ea en ec] en (fun i y => (etf i).few y) x2 xv iv wr) (fun _ iv _ => en - (Lib.intOf iv).toNat)
            case atStart => exact ⟨0, Nat.zero_le _, rfl, rfl, HX.out, HB.out⟩
            case round =>
              obtain ⟨i, hli, rfl, rfl, hbx, hbel⟩ := hrel
              have HBo := Lib.hid hbel
              have HXo := Lib.hid hbx
              clear HX HB
              have HX := Lib.hid hbx
              have HB := Lib.hid hbel
              clear HXo HBo
              have c14 := hbx.cell 14 rfl
              obtain ⟨z, hz⟩ : ∃ z, fewN (fun i y => (etf i).few y) i x2 = z := ⟨_, rfl⟩
              rw [hz]
              have HZ := Lib.hid hz
              have hzb := HBE.out i hli x2
              rw [hz] at hzb
              have hsz := hbel.size
              clear hbel hbx hz
              have hzneg : ¬ (0 ≤ z) := by omega
              by_cases hlt : i < en
              · have q1 : decide ((i : Int) < (en : Int)) = true := decide_eq_true (by omega)
                have q1n : decide (i < en) = true := decide_eq_true hlt
                have h0 := hzneg
                clear hzneg
                have q2 : decide ((0 : Int) ≤ z) = false := decide_eq_false h0
                have HZY := Lib.hid ((fewN_stop (g := (fun i y => (etf i).few y)) (k := i) (x := x2) (by rw [HZ.out]; omega) en hli).trans HZ.out)
                obtain ⟨x3, hx3⟩ : ∃ x3, fewN (fun i y => (etf i).few y) en x2 = x3 := ⟨_, rfl⟩
                rw [hx3] at HRES HZY
                obtain rfl : x3 = z := HZY.out
                have hneg2 : x3 < 0 := by omega
                have hbx3 := HBE.out en (Nat.le_refl _) x2
                rw [hx3] at hbx3
                clear hx3 HZ hzb
                obtain ⟨wo2, rfl⟩ : ∃ wo : World, wo = wr := ⟨_, rfl⟩
                go_wp2_with fail
                go_ret
                refine ⟨?_, HB.out⟩
                rw [HRES.out]
                rfl
              · have q1 : decide ((i : Int) < (en : Int)) = false := decide_eq_false (by omega)
                have q1n : decide (i < en) = false := decide_eq_false hlt
                obtain rfl : en = i := by omega
                have HZY := Lib.hid HZ.out
                obtain ⟨x3, hx3⟩ : ∃ x3, fewN (fun i y => (etf i).few y) en x2 = x3 := ⟨_, rfl⟩
                rw [hx3] at HRES HZY
                obtain rfl : x3 = z := HZY.out
                have hbx3 := HBE.out en (Nat.le_refl _) x2
                rw [hx3] at hbx3
                clear hx3 HZ hzb
                obtain ⟨wo2, rfl⟩ : ∃ wo : World, wo = wr := ⟨_, rfl⟩
                go_wp2_with fail
                go_ret
                refine ⟨?_, HB.out⟩
                rw [HRES.out]
                rfl
        · have q1 : decide ((i : Int) < (an : Int)) = false := decide_eq_false (by omega)
          have q1n : decide (i < an) = false := decide_eq_false hlt
          obtain rfl : an = i := by omega
          have HZY := Lib.hid HZ.out
          obtain ⟨x2, hx2⟩ : ∃ x2, fewN (fun i y => (atf i).few ((af i).d.fewD (y - 1))) an x1 = x2 := ⟨_, rfl⟩
          rw [hx2] at HRES HZY
          obtain rfl : x2 = z := HZY.out
          have hbx2 := HBA.out an (Nat.le_refl _) x1
          rw [hx2] at hbx2
          clear hx2 HZ hzb
          obtain ⟨wo1, rfl⟩ : ∃ wo : World, wo = wr := ⟨_, rfl⟩
          go_wp2_with fail
          clear c13
          go_loopw [1, 7] (fun xv iv wr => RelFT w w.heap.size #[.int .i64 kd, .string tn, .int .i64 op, .int .i64 lo, .int .i64 hi, .bool lw, .bool hg, .slice ca cn cc, .bool ext, .string fr, .slice sa sn sc, .slice ma mn mc, .slice pa pn pc, .slice aa an ac, .slice ea en ec] en (fun i y => (etf i).few y) x2 xv iv wr) (fun _ iv _ => en - (Lib.intOf iv).toNat)
          case atStart => exact ⟨0, Nat.zero_le _, rfl, rfl, HX.out, HB.out⟩
          case round =>
            obtain ⟨i, hli, rfl, rfl, hbx, hbel⟩ := hrel
            have HBo := Lib.hid hbel
            have HXo := Lib.hid hbx
            clear HX HB
            have HX := Lib.hid hbx
            have HB := Lib.hid hbel
            clear HXo HBo
            have c14 := hbx.cell 14 rfl
            obtain ⟨z, hz⟩ : ∃ z, fewN (fun i y => (etf i).few y) i x2 = z := ⟨_, rfl⟩
            rw [hz]
            have HZ := Lib.hid hz
            have hzb := HBE.out i hli x2
            rw [hz] at hzb
            have hsz := hbel.size
            clear hbel hbx hz
            by_cases hlt : i < en
            · have q1 : decide ((i : Int) < (en : Int)) = true := decide_eq_true (by omega)
              have q1n : decide (i < en) = true := decide_eq_true hlt
              by_cases h0 : 0 ≤ z
              · have q2 : decide ((0 : Int) ≤ z) = true := decide_eq_true h0
                obtain ⟨gx, ox, hix, hgx, hrd⟩ := tRow_read HER.out hlt
                have HR := Lib.hid (hrd wr (HB.out.block gx (by have := HBB.out; omega)))
                obtain ⟨kd', tn', op', lo', hi', lw', hg', ca', cn', cc', cch', ext', fr', sa', sn', sc', sf', ma', mn', mc', mf', pa', pn', pc', pf', ptf', aa', an', ac', af', atf', ea', en', ec', etf', hkd⟩ := (HE.out i hlt).open
                have k0 : wr.cell? ⟨gx, ox, none⟩ = some (.int .i64 kd') := HR.out 0 _ (by rw [hkd]; rfl)
                have k1 : wr.cell? ⟨gx, ox + 1, none⟩ = some (.string tn') := HR.out 1 _ (by rw [hkd]; rfl)
                have k2 : wr.cell? ⟨gx, ox + 2, none⟩ = some (.int .i64 op') := HR.out 2 _ (by rw [hkd]; rfl)
                have k3 : wr.cell? ⟨gx, ox + 3, none⟩ = some (.int .i64 lo') := HR.out 3 _ (by rw [hkd]; rfl)
                have k4 : wr.cell? ⟨gx, ox + 4, none⟩ = some (.int .i64 hi') := HR.out 4 _ (by rw [hkd]; rfl)
                have k5 : wr.cell? ⟨gx, ox + 5, none⟩ = some (.bool lw') := HR.out 5 _ (by rw [hkd]; rfl)
                have k6 : wr.cell? ⟨gx, ox + 6, none⟩ = some (.bool hg') := HR.out 6 _ (by rw [hkd]; rfl)
                have k7 : wr.cell? ⟨gx, ox + 7, none⟩ = some (.slice ca' cn' cc') := HR.out 7 _ (by rw [hkd]; rfl)
                have k8 : wr.cell? ⟨gx, ox + 8, none⟩ = some (.bool ext') := HR.out 8 _ (by rw [hkd]; rfl)
                have k9 : wr.cell? ⟨gx, ox + 9, none⟩ = some (.string fr') := HR.out 9 _ (by rw [hkd]; rfl)
                have k10 : wr.cell? ⟨gx, ox + 10, none⟩ = some (.slice sa' sn' sc') := HR.out 10 _ (by rw [hkd]; rfl)
                have k11 : wr.cell? ⟨gx, ox + 11, none⟩ = some (.slice ma' mn' mc') := HR.out 11 _ (by rw [hkd]; rfl)
                have k12 : wr.cell? ⟨gx, ox + 12, none⟩ = some (.slice pa' pn' pc') := HR.out 12 _ (by rw [hkd]; rfl)
                have k13 : wr.cell? ⟨gx, ox + 13, none⟩ = some (.slice aa' an' ac') := HR.out 13 _ (by rw [hkd]; rfl)
                have k14 : wr.cell? ⟨gx, ox + 14, none⟩ = some (.slice ea' en' ec') := HR.out 14 _ (by rw [hkd]; rfl)
                have q3 : IntKind.i64.wrap ((i : Int) + 1) = ((i + 1 : Nat) : Int) := wrap_succ hlt hen
                clear hrd
                have HCT := Lib.hid (HEREC.out i hlt z wr HB.out (by omega) (by omega))
                obtain ⟨zn, hzn⟩ : ∃ zn, (etf i).few z = zn := ⟨_, rfl⟩
                rw [hzn] at HCT
                have HN := Lib.hid (show fewN (fun i y => (etf i).few y) (i + 1) x2 = zn by
                  simp only [fewN]
                  rw [HZ.out, if_pos h0, hzn])
                rw [hkd] at HCT
                simp only [TT.cells, CT.cells, SL.v, PL.v, List.cons_append, List.nil_append] at HCT
                clear hkd hzn
                go_wp2_with fail
                refine HCT.out.mono ?_
                rintro e W2 ⟨rfl, hb2⟩
                have HB1 := Lib.hid (HB.out.trans (hb2.mono hsz))
                have HX1 := Lib.hid (HX.out.below hb2 HX.out.lt)
                clear hb2
                go_wp2_with fail
                go_roundw
                case rel => exact ⟨i + 1, hlt, rfl, by rw [HN.out], HX1.out, HB1.out⟩
                case measure => simp only [Lib.intOf]; omega
              · have q2 : decide ((0 : Int) ≤ z) = false := decide_eq_false h0
                have HZY := Lib.hid ((fewN_stop (g := (fun i y => (etf i).few y)) (k := i) (x := x2) (by rw [HZ.out]; omega) en hli).trans HZ.out)
                obtain ⟨x3, hx3⟩ : ∃ x3, fewN (fun i y => (etf i).few y) en x2 = x3 := ⟨_, rfl⟩
                rw [hx3] at HRES HZY
                obtain rfl : x3 = z := HZY.out
                have hneg2 : x3 < 0 := by omega
                have hbx3 := HBE.out en (Nat.le_refl _) x2
                rw [hx3] at hbx3
                clear hx3 HZ hzb
                obtain ⟨wo2, rfl⟩ : ∃ wo : World, wo = wr := ⟨_, rfl⟩
                go_wp2_with fail
                go_ret
                refine ⟨?_, HB.out⟩
                rw [HRES.out]
                rfl
            · have q1 : decide ((i : Int) < (en : Int)) = false := decide_eq_false (by omega)
              have q1n : decide (i < en) = false := decide_eq_false hlt
              obtain rfl : en = i := by omega
              have HZY := Lib.hid HZ.out
              obtain ⟨x3, hx3⟩ : ∃ x3, fewN (fun i y => (etf i).few y) en x2 = x3 := ⟨_, rfl⟩
              rw [hx3] at HRES HZY
              obtain rfl : x3 = z := HZY.out
              have hbx3 := HBE.out en (Nat.le_refl _) x2
              rw [hx3] at hbx3
              clear hx3 HZ hzb
              obtain ⟨wo2, rfl⟩ : ∃ wo : World, wo = wr := ⟨_, rfl⟩
              go_wp2_with fail
              go_ret
              refine ⟨?_, HB.out⟩
              rw [HRES.out]
              rfl
theorem few_ok : ∀ (t : TT) (B : Nat) (x : Int) (w : World), TIn B w t → B ≤ w.heap.size → -1152921504606846976 ≤ x → x ≤ 1152921504606846976 →
    Calls Try.prog 18 #[.agg t.cells.toArray, .int .i64 x] w fun e w' => e = .returned (.int .i64 (t.few x)) ∧ Below w.heap.size w w'
  | .nil, B, x, w, h, _, _, _ => h.elim
  | .mk kind name con ext fr nm mo pa pt ad at_ ea en ec et, B, x, w, h, hB, h1, h2 => by
    have RP := fun i (hi : i < pa.n) (z : Int) (w' : World) (hb : Below w.heap.size w w') => few_ok (pt i) w.heap.size z w' ((h.2.1.2 i hi).2.below hb hB) hb.size
    have RA := fun i (hi : i < ad.n) (z : Int) (w' : World) (hb : Below w.heap.size w w') => few_ok (at_ i) w.heap.size z w' ((h.2.2.1.2 i hi).2.below hb hB) hb.size
    have RE := fun i (hi : i < en) (z : Int) (w' : World) (hb : Below w.heap.size w w') => few_ok (et i) w.heap.size z w' ((h.2.2.2.2 i hi).below hb hB) hb.size
    refine few_in _ B x w h hB h1 h2 (fun k hk z w' hb => ?_)
    simp only [TT.kids] at hk
    simp only [TT.kid]
    split
    · exact RP k (by assumption) z w' hb
    · split
      · exact RA _ (by omega) z w' hb
      · exact RE _ (by omega) z w' hb
end Go.Proofs.Ytecedbjkebdeaaa
