/-
  A bundle of texts, one behind the other: ShF1, ShE1, ShF2.
-/
import Derived.Test.YtjhecpkdpomkmaaGreatQA
import Derived.Lib.QuietBelow
import Derived.Test.YtjhecpkdpomkmaaGreatQL
import Derived.RangeFuncNested
import Derived.Shelf.RegionOpen
import Derived.WalkKit
import Derived.OwnWalkIn
import Derived.TacticsInMore
import Derived.LoopNIn
import Derived.LoopIn
namespace Go.Proofs.YtjhecpkdpomkmaaGreat
open Go.RowKit
set_option linter.unusedVariables false
set_option linter.unusedSimpArgs false
set_option maxRecDepth 100000

theorem fewN_bnd {g : Nat → Int → Int} {n : Nat} {K : Int} (hg : ∀ i, i < n → ∀ y, 0 ≤ y → -K ≤ g i y ∧ g i y ≤ y) : ∀ k, k ≤ n → ∀ x, min x (-K) ≤ fewN g k x ∧ fewN g k x ≤ x
  | 0, _, x => by simp only [fewN]; omega
  | k + 1, hk, x => by
    have h := fewN_bnd hg k (by omega) x
    simp only [fewN]
    split
    · have := hg k (by omega) _ (by assumption)
      omega
    · exact h
def VT.few : VT → Int → Int
  | .nil, x => x
  | .mk _ _ _ nm _ n _ ch, x => fewN (fun i y => (ch i).few y) n (x - 1 - nm.n)
/-- what is left behind a value's list -/
def VT.fewL : VT → Int → Int
  | .nil, x => x
  | .mk _ _ _ _ _ n _ ch, x => fewN (fun i y => (ch i).few y) n x
def VT.row : VT → Value
  | .nil => .slice none 0 0
  | .mk _ _ _ _ a n cap _ => .slice a n cap
theorem VT.few_bounds {B : Nat} {W : World} : ∀ (c : VT), VIn B W c → ∀ y : Int, 0 ≤ y → -140737488355329 ≤ c.few y ∧ c.few y ≤ y
  | .nil, h, _, _ => h.elim
  | .mk k m s nm a n cap ch, h, y, hy => by
    have hn : nm.n ≤ 140737488355328 := by have h1 := h.1.2.2.2.1.1; have h2 := h.1.2.2.2.1.2.1; omega
    have := fewN_bnd (g := fun i y => (ch i).few y) (n := n) (K := 140737488355329) (fun i hi y hy => VT.few_bounds (ch i) (h.2.2 i hi) y hy) n (Nat.le_refl _) (y - 1 - nm.n)
    simp only [VT.few]
    omega
theorem VT.fewL_bounds {B : Nat} {W : World} : ∀ (c : VT), VIn B W c → ∀ y : Int, min y (-140737488355329) ≤ c.fewL y ∧ c.fewL y ≤ y
  | .nil, h, _ => h.elim
  | .mk k m s nm a n cap ch, h, y => fewN_bnd (g := fun i y => (ch i).few y) (n := n) (K := 140737488355329) (fun i hi y hy => VT.few_bounds (ch i) (h.2.2 i hi) y hy) n (Nat.le_refl _) y
def RelFV (w : World) (n : Nat) (g : Nat → Int → Int) (y : Int) (xv iv : Value) (wr : World) : Prop :=
  ∃ (i : Nat), i ≤ n ∧ iv = .int .i64 (i : Nat) ∧ xv = .int .i64 (fewN g i y) ∧ Below w.heap.size w wr
set_option maxHeartbeats 4000000 in
theorem fewDefs_ok (B : Nat) : ∀ (c : VT) (y : Int) (w : World), VIn B w c → B ≤ w.heap.size → -4611686018427387904 ≤ y → y ≤ 4611686018427387904 →
    Calls Tryz.prog 51 #[c.row, .int .i64 y] w fun e w' => e = .returned (.int .i64 (c.fewL y)) ∧ Below w.heap.size w w'
  | .nil, y, w, h, _, _, _ => h.elim
  | .mk kd m s nm a n cap ch, y, w, hin, hB, hx1, hx2 => by
    obtain ⟨_, hrow, hch⟩ := hin
    have HROW := Lib.hid hrow
    have HCH := Lib.hid hch
    have hn : n ≤ 9223372036854775807 := by have := hrow.1; have := hrow.2.1; omega
    have HBB := Lib.hid hB
    have HB0 := Lib.hid (Below.refl w.heap.size w)
    have HBD := Lib.hid (fewN_bnd (g := fun i y => (ch i).few y) (n := n) (K := 140737488355329) (fun i hi y hy => VT.few_bounds (ch i) (hch i hi) y hy))
    have HRES := Lib.hid (show (VT.mk kd m s nm a n cap ch).fewL y = fewN (fun i y => (ch i).few y) n y from rfl)
    obtain ⟨res, hres⟩ : ∃ res, (VT.mk kd m s nm a n cap ch).fewL y = res := ⟨_, rfl⟩
    rw [hres] at HRES ⊢
    have HREC := Lib.hid (fun i (hi : i < n) (z : Int) (w' : World) (hb : Below w.heap.size w w') => fewDefs_ok w.heap.size (ch i) z w' ((hch i hi).below hb hB) hb.size)
    clear hrow hch hB hres
    show Calls _ _ #[.slice a n cap, .int .i64 y] w _
    go_enter Tryz.func51, Tryz.ntmps51
    go_wp2_with fail
    go_loopw [1, 5] (fun xv iv wr => RelFV w n (fun i y => (ch i).few y) y xv iv wr) (fun _ iv _ => n - (Lib.intOf iv).toNat)
    case atStart => exact ⟨0, Nat.zero_le _, rfl, rfl, HB0.out⟩
    case round =>
      obtain ⟨i, hi, rfl, rfl, hbel⟩ := hrel
      have HB := Lib.hid hbel
      obtain ⟨z, hz⟩ : ∃ z, fewN (fun i y => (ch i).few y) i y = z := ⟨_, rfl⟩
      rw [hz]
      have HZ := Lib.hid hz
      have hzb := HBD.out i hi y
      rw [hz] at hzb
      have hsz := hbel.size
      clear hbel hz
      by_cases hlt : i < n
      · have q1 : decide ((i : Int) < (n : Int)) = true := decide_eq_true (by omega)
        have q1n : decide (i < n) = true := decide_eq_true hlt
        by_cases h0 : 0 ≤ z
        · have q2 : decide ((0 : Int) ≤ z) = true := decide_eq_true h0
          obtain ⟨gx, ox, kd', m', s', na, nn, ncap, nf, a', n', cap', ch', hchi, hix, hgx, hrd⟩ := vRow_read HROW.out hlt (HCH.out i hlt)
          obtain ⟨k0, k1, k2, k3, k4⟩ := hrd wr (HB.out.block gx (by have := HBB.out; omega))
          have hnn : nn ≤ 140737488355328 := by
            have h := HCH.out i hlt
            rw [hchi] at h
            have h1 : nn ≤ ncap := h.1.2.2.2.1.1
            have h2 := h.1.2.2.2.1.2.1
            omega
          have q4 : IntKind.i64.wrap (z - 1) = z - 1 := wrap_ok (by unfold I64; omega)
          have q5 : IntKind.i64.wrap (z - 1 - (nn : Int)) = z - 1 - (nn : Int) := wrap_ok (by unfold I64; omega)
          have HCL := Lib.hid (fun (d : Nat) (os : Array Obj) => Calls.regrown_of (HREC.out i hlt (z - 1 - (nn : Int)) (Go.Sort.grow (redrawn wr d) os) (HB.out.trans ((below_regrown wr d os).mono hsz)) (by omega) (by omega)))
          obtain ⟨zn, hzn⟩ : ∃ zn, (ch i).fewL (z - 1 - (nn : Int)) = zn := ⟨_, rfl⟩
          rw [hzn] at HCL
          have HN := Lib.hid (show fewN (fun i y => (ch i).few y) (i + 1) y = zn by
            simp only [fewN]
            rw [HZ.out, if_pos h0, ← hzn, hchi]
            rfl)
          rw [hchi] at HCL
          simp only [VT.row] at HCL
          have d3 := fun d os => cell_regrown k3 d os
          have d4 := fun d os => cell_regrown k4 d os
          have q3 : IntKind.i64.wrap ((i : Int) + 1) = ((i + 1 : Nat) : Int) := wrap_succ hlt hn
          clear hzn hchi hrd k0 k1 k2
          go_wp2_with fail
          refine wp_region_quiet_below (by kernel_rfl) (by kernel_rfl) ?_
          quiet_step (fail)
          quiet_step (fail)
          quiet_step (fail)
          quiet_step (fail)
          quiet_step (fail)
          quiet_step (fail)
          quiet_step (fail)
          quiet_step (fail)
          quiet_step (fail)
          quiet_step (fail)
          quiet_step (fail)
          quiet_step (fail)
          quiet_step (fail)
          quiet_step (fail)
          quiet_step (exact HCL.out _ _)
          quiet_step (fail)
          refine wpQuiet_nil ?_
          intro _ hw'
          obtain ⟨⟨dq, osq⟩, hw''⟩ := hw'
          subst hw''
          have hb2 := below_regrown wr dq osq
          clear d3 d4 HCL k3 k4
          generalize Go.Sort.grow (redrawn wr dq) osq = W2 at *
          have HB1 := Lib.hid (HB.out.trans (hb2.mono hsz))
          clear hb2
          go_wp2_with fail
          go_roundw
          case rel => exact ⟨i + 1, hlt, rfl, by rw [HN.out], HB1.out⟩
          case measure => simp only [Lib.intOf]; omega
        · have q2 : decide ((0 : Int) ≤ z) = false := decide_eq_false h0
          have HN := Lib.hid ((fewN_stop (g := fun i y => (ch i).few y) (k := i) (x := y) (by rw [HZ.out]; omega) n hi).trans HZ.out)
          go_wp2_with fail
          go_ret
          refine ⟨?_, HB.out⟩
          rw [HRES.out, HN.out]
          rfl
      · have q1 : decide ((i : Int) < (n : Int)) = false := decide_eq_false (by omega)
        have q1n : decide (i < n) = false := decide_eq_false hlt
        obtain rfl : i = n := by omega
        go_wp2_with fail
        go_ret
        refine ⟨?_, HB.out⟩
        rw [HRES.out, HZ.out]
        rfl
end Go.Proofs.YtjhecpkdpomkmaaGreat

namespace Go.Proofs.YtjhecpkdpomkmaaGreat
open Go.RowKit Go.Shelf
set_option linter.unusedVariables false
set_option linter.unusedSimpArgs false
set_option maxRecDepth 100000

attribute [local go_sem] Oper.semAt_some

/-- the greatest of the first n -/
def mxN (f : Nat → Nat) : Nat → Nat
  | 0 => 0
  | n + 1 => max (mxN f n) (f n)
/-- how deep types are nested in a type -/
def TT.dep : TT → Nat
  | .nil => 1
  | .mk _ _ _ _ _ _ _ pa pt ad at_ _ en _ et => 1 + mxN (fun k => if k < pa.n then (pt k).dep else if k < pa.n + ad.n then (at_ (k - pa.n)).dep else (et (k - (pa.n + ad.n))).dep) (pa.n + ad.n + en)
/-- the types that stand directly in a type -/
def TT.kid : TT → Nat → TT
  | .nil, _ => .nil
  | .mk _ _ _ _ _ _ _ pa pt ad at_ _ _ _ et, k => if k < pa.n then pt k else if k < pa.n + ad.n then at_ (k - pa.n) else et (k - (pa.n + ad.n))
def TT.kids : TT → Nat
  | .nil => 0
  | .mk _ _ _ _ _ _ _ pa _ ad _ _ en _ _ => pa.n + ad.n + en
theorem TIn.kid {B : Nat} {W : World} : ∀ {t : TT}, TIn B W t → ∀ k, k < t.kids → TIn B W (t.kid k)
  | .nil, h, _, _ => h.elim
  | .mk kind name con ext fr nm mo pa pt ad at_ ea en ec et, ⟨_, ⟨_, hp⟩, ⟨_, ha⟩, ⟨_, he⟩⟩, k, hk => by
    simp only [TT.kids] at hk
    simp only [TT.kid]
    split
    · exact (hp k (by assumption)).2
    · split
      · exact (ha _ (by omega)).2
      · exact he _ (by omega)
/-- how deep the first k of them are, at most m -/
def TT.dpt (t : TT) (m k : Nat) : Nat := min (mxN (fun k => (t.kid k).dep) k) m
theorem Bx.bk {W : World} {g : Nat} {cs : Array Value} {t : TypeId} (h : Bx W g cs t) {l : Nat} {o : Obj} (hl : W.heap[l]? = some o) (hc : o.isCells = false) (o' : Obj) : Bx (W.putObj l o') g cs t := by
  have hne : l ≠ g := fun e => by
    subst e
    rw [show W.heap[l]? = _ from h] at hl
    cases hl
    simp [Obj.isCells] at hc
  exact (World.putObj_heap_other (Ne.symm hne)).trans h
end Go.Proofs.YtjhecpkdpomkmaaGreat

namespace Go.Proofs.YtjhecpkdpomkmaaGreat
open Go.RowKit
set_option linter.unusedVariables false
set_option linter.unusedSimpArgs false
set_option maxRecDepth 100000

theorem fewN_neg {g : Nat → Int → Int} {x : Int} (h : x < 0) (n : Nat) : fewN g n x = x := fewN_stop (g := g) (k := 0) (x := x) h n (Nat.zero_le _)
def DL.fewD (d : DL) (y : Int) : Int := fewN (fun i z => (d.f i).few z) d.n y
def TT.few : TT → Int → Int
  | .nil, x => x
  | .mk _ _ con _ _ nm mo pa pt ad at_ _ en _ et, x =>
    fewN (fun i y => (et i).few y) en (fewN (fun i y => (at_ i).few ((ad.f i).d.fewD (y - 1))) ad.n (fewN (fun i y => (pt i).few ((pa.f i).d.fewD (y - 1))) pa.n (con.few (x - 1 - nm.n - mo.n))))
def DL.vt (d : DL) : VT := .mk 0 0 ⟨#[]⟩ ⟨none, 0, 0, fun _ => ⟨#[]⟩⟩ d.a d.n d.cap d.f
theorem DLIn.vt {B : Nat} {W : World} {d : DL} (h : DLIn B W d) : VIn B W d.vt :=
  ⟨⟨by unfold I64; omega, by unfold I64; omega, by decide, ⟨⟨Nat.le_refl _, Nat.zero_le _, fun _ => ⟨rfl, rfl⟩, fun h => absurd h (Nat.lt_irrefl 0)⟩, fun i h => absurd h (Nat.not_lt_zero i)⟩⟩, h.1, h.2⟩
theorem DL.fewD_bounds {B : Nat} {W : World} {d : DL} (h : DLIn B W d) (y : Int) : min y (-140737488355329) ≤ d.fewD y ∧ d.fewD y ≤ y := VT.fewL_bounds d.vt h.vt y
theorem TT.few_bounds {B : Nat} {W : World} : ∀ (t : TT), TIn B W t → ∀ x : Int, (0 ≤ x → -422212465065987 ≤ t.few x ∧ t.few x ≤ x) ∧ (x < 0 → x - 281474976710658 ≤ t.few x ∧ t.few x ≤ x)
  | .nil, h, _ => h.elim
  | .mk kind name con ext fr nm mo pa pt ad at_ ea en ec et, h, x => by
    obtain ⟨⟨_, _, hcon, _, hnm, hmo⟩, ⟨_, hp⟩, ⟨_, ha⟩, ⟨_, he⟩⟩ := h
    have h1 : nm.n ≤ 140737488355328 := by have h1 := hnm.1.1; have h2 := hnm.1.2.1; omega
    have h2 : mo.n ≤ 140737488355328 := by have h1 := hmo.1.1; have h2 := hmo.1.2.1; omega
    have h3 := CT.few_bounds con (x - 1 - nm.n - mo.n)
    have hpn := fewN_bnd (g := fun i y => (pt i).few ((pa.f i).d.fewD (y - 1))) (n := pa.n) (K := 422212465065987) (fun i hi y hy => by
      have a := DL.fewD_bounds (hp i hi).1.2 (y - 1)
      have b := TT.few_bounds (pt i) (hp i hi).2 ((pa.f i).d.fewD (y - 1))
      show -422212465065987 ≤ (pt i).few ((pa.f i).d.fewD (y - 1)) ∧ (pt i).few ((pa.f i).d.fewD (y - 1)) ≤ y
      rcases Int.lt_or_le ((pa.f i).d.fewD (y - 1)) 0 with c | c
      · have := b.2 c; omega
      · have := b.1 c; omega) pa.n (Nat.le_refl _) (con.few (x - 1 - nm.n - mo.n))
    have han := fun z => fewN_bnd (g := fun i y => (at_ i).few ((ad.f i).d.fewD (y - 1))) (n := ad.n) (K := 422212465065987) (fun i hi y hy => by
      have a := DL.fewD_bounds (ha i hi).1.2 (y - 1)
      have b := TT.few_bounds (at_ i) (ha i hi).2 ((ad.f i).d.fewD (y - 1))
      show -422212465065987 ≤ (at_ i).few ((ad.f i).d.fewD (y - 1)) ∧ (at_ i).few ((ad.f i).d.fewD (y - 1)) ≤ y
      rcases Int.lt_or_le ((ad.f i).d.fewD (y - 1)) 0 with c | c
      · have := b.2 c; omega
      · have := b.1 c; omega) ad.n (Nat.le_refl _) z
    have hen := fun z => fewN_bnd (g := fun i y => (et i).few y) (n := en) (K := 422212465065987) (fun i hi y hy => (TT.few_bounds (et i) (he i hi) y).1 hy) en (Nat.le_refl _) z
    simp only [TT.few]
    constructor
    · intro hx
      have a := han (fewN (fun i y => (pt i).few ((pa.f i).d.fewD (y - 1))) pa.n (con.few (x - 1 - nm.n - mo.n)))
      have b := hen (fewN (fun i y => (at_ i).few ((ad.f i).d.fewD (y - 1))) ad.n (fewN (fun i y => (pt i).few ((pa.f i).d.fewD (y - 1))) pa.n (con.few (x - 1 - nm.n - mo.n))))
      omega
    · intro hx
      have hn : con.few (x - 1 - nm.n - mo.n) < 0 := by omega
      rw [fewN_neg hn pa.n, fewN_neg hn ad.n, fewN_neg hn en]
      omega
def RelFT (w : World) (g : Nat) (cs : Array Value) (n : Nat) (f : Nat → Int → Int) (x : Int) (xv iv : Value) (wr : World) : Prop :=
  ∃ (i : Nat), i ≤ n ∧ iv = .int .i64 (i : Nat) ∧ xv = .int .i64 (fewN f i x) ∧ Bx wr g cs 204 ∧ Below w.heap.size w wr
end Go.Proofs.YtjhecpkdpomkmaaGreat
