/-
  Package token: any token between two places; behind white space and comments.
-/
import Derived.Test.YthcodmcfkmochaaDoorTkT
namespace Go.Proofs.YthcodmcfkmochaaDoor
open Go.RowKit
set_option linter.unusedVariables false
set_option linter.unusedSimpArgs false
set_option maxRecDepth 100000

theorem token_ok (s : ByteArray) (p k e : Nat) (w : World) (hgl : Gl w) (hp : p < s.size) (hs : s.size ≤ 100000) (h : tkEnd (cods s) p = (k, e)) (hne : e ≠ p) :
    Calls Tryd.prog 20 #[.agg #[.string s, .int .i64 (p : Nat)], .int .i64 (k : Nat), .int .i64 (e : Nat)] w fun r w' => r = .returned (tkVal (tkOf s k p e)) ∧ Below w.heap.size w w' := by
  have hlen := cods_length s
  have hle := tkEnd_le (l := cods s) (p := p) (by omega)
  rw [h] at hle
  have hle2 := hle.resolve_left hne
  cases hl : isLt (tAt (cods s) p) with
  | true =>
    rw [tkEnd_w hl] at h
    injection h with h1 h2
    subst h1
    exact token_plain s 1 p e w (by decide) (by decide) (by decide) (by omega) (by omega) hs
  | false =>
    by_cases hd : isDg (tAt (cods s) p) = true ∨ (tAt (cods s) p = 45 ∧ isDg (tAt (cods s) (p + 1)) = true)
    · rw [tkEnd_i hl hd] at h
      injection h with h1 h2
      subst h1
      have hv : iVal (cods s) p < 9223372036854775808 ∧ e = dEnd (cods s) (iFst (cods s) p) := by
        unfold iEnd at h2
        split at h2
        · exact absurd h2.symm hne
        · split at h2
          · rename_i h3; exact ⟨h3, h2.symm⟩
          · exact absurd h2.symm hne
      obtain ⟨hv, rfl⟩ := hv
      exact token_int s p _ _ w (atoi_token s p hd hv) (by omega) (by omega) hs
    · by_cases hq : tAt (cods s) p = 34
      · rw [tkEnd_q hl hd hq] at h
        injection h with h1 h2
        subst h1
        have := qGo_le (cods s) p ((cods s).length + 1) (p + 1)
        have h3 : qGo (cods s) p ((cods s).length + 1) (p + 1) = e := h2
        rw [h3] at this
        exact token_quoted s p e w hgl (by omega) (by omega) hs
      · rw [tkEnd_s hl hd hq] at h
        injection h with h1 h2
        subst h1
        exact token_plain s 3 p e w (by decide) (by decide) (by decide) (by omega) (by omega) hs

/-- only block b may have changed, and blocks may have come -/
structure Only (b : Nat) (w w' : World) : Prop where
  os : w'.os = w.os
  tape : w'.tape = w.tape
  output : w'.output = w.output
  size : w.heap.size ≤ w'.heap.size
  block : ∀ k, k < w.heap.size → k ≠ b → w'.heap[k]? = w.heap[k]?
theorem Only.refl (b : Nat) (w : World) : Only b w w := ⟨rfl, rfl, rfl, Nat.le_refl _, fun _ _ _ => rfl⟩
theorem Only.trans {b : Nat} {x y z : World} (h : Only b x y) (k : Only b y z) : Only b x z :=
  ⟨k.os.trans h.os, k.tape.trans h.tape, k.output.trans h.output, Nat.le_trans h.size k.size, fun i hi hb => (k.block i (by have := h.size; omega) hb).trans (h.block i hi hb)⟩
theorem Only.of_below {b : Nat} {w w' : World} (h : Below w.heap.size w w') : Only b w w' := ⟨h.os, h.tape, h.output, h.size, fun k hk _ => h.block k hk⟩
theorem Only.below {b B : Nat} {w w' : World} (h : Only b w w') (hb : B ≤ b) (hB : B ≤ w.heap.size) : Below B w w' := ⟨h.os, h.tape, h.output, h.size, fun k hk => h.block k (by omega) (by omega)⟩
theorem Only.drew {b : Nat} {w w' : World} (h : Only b w w') : Only b w w'.drew := ⟨h.os, h.tape, h.output, h.size, h.block⟩
theorem Only.set {b : Nat} {w w' : World} (h : Only b w w') (i : Nat) (v : Value) : Only b w (w'.setCell ⟨b, i, none⟩ v) :=
  ⟨h.os, h.tape, h.output, by simpa using h.size, fun k hk hb => (heap_setCell_other _ _ _ _ hb).trans (h.block k hk hb)⟩
/-- block b is a scanner of s that stands at p -/
def ScAt (w : World) (b : Nat) (s : ByteArray) (p : Nat) : Prop := w.heap[b]? = some (.cells #[.string s, .int .i64 (p : Nat)] 38 (0, 0))
theorem ScAt.lt {w : World} {b p : Nat} {s : ByteArray} (h : ScAt w b s p) : b < w.heap.size := (Array.getElem?_eq_some_iff.1 h).1
theorem ScAt.below {w w' : World} {b p : Nat} {s : ByteArray} (h : ScAt w b s p) (hb : Below w.heap.size w w') : ScAt w' b s p := (hb.block b h.lt).trans h
theorem ScAt.cells {w : World} {b p : Nat} {s : ByteArray} (h : ScAt w b s p) : w.cell? ⟨b, 0, none⟩ = some (.string s) ∧ w.cell? ⟨b, 1, none⟩ = some (.int .i64 (p : Nat)) ∧ w.frozen? ⟨b, 1, none⟩ = false :=
  ⟨cell_of_row _ _ _ _ _ _ h, cell_of_row _ _ _ _ _ _ h, frozen_of_row _ _ _ _ _ h⟩
theorem ScAt.set {w : World} {b p : Nat} {s : ByteArray} (h : ScAt w b s p) (q : Nat) (z : Int) (hz : z = q) : ScAt (w.setCell ⟨b, 1, none⟩ (.int .i64 z)) b s q := by
  subst hz
  have := heap_setCell_same w b 1 _ _ (.int .i64 (q : Nat)) h
  unfold ScAt
  rw [this]
  simp
def posAt (w : World) (b : Nat) : Nat := match w.cell? ⟨b, 1, none⟩ with | some (.int _ n) => n.toNat | _ => 0
theorem ScAt.pos {w : World} {b p : Nat} {s : ByteArray} (h : ScAt w b s p) : posAt w b = p := by
  unfold posAt
  rw [h.cells.2.1]
  simp
theorem kGo_ws {l : List Nat} {n p : Nat} (h : isWs (tAt l p) = true) : kGo l (n + 1) p = kGo l n (p + 1) := if_pos h
theorem kGo_cm {l : List Nat} {n p : Nat} (h : ¬ isWs (tAt l p) = true) (h2 : tAt l p = 45 ∧ tAt l (p + 1) = 45) : kGo l (n + 1) p = kGo l n (cEnd l p) := (if_neg h).trans (if_pos h2)
theorem kGo_no {l : List Nat} {n p : Nat} (h : ¬ isWs (tAt l p) = true) (h2 : ¬ (tAt l p = 45 ∧ tAt l (p + 1) = 45)) : kGo l (n + 1) p = p := (if_neg h).trans (if_neg h2)
def RelK (w : World) (b : Nat) (s : ByteArray) (l : List Nat) (R : Nat) (wr : World) : Prop := ∃ q n : Nat, q ≤ l.length ∧ kGo l n q = R ∧ l.length + 1 ≤ n + q ∧ ScAt wr b s q ∧ Only b w wr
set_option maxHeartbeats 4000000 in
theorem skip_ok (w : World) (b : Nat) (s : ByteArray) (p : Nat) (h : ScAt w b s p) (hp : p ≤ s.size) (hs : s.size ≤ 100000) :
    Calls Tryd.prog 18 #[.pointer (some ⟨b, 0, none⟩)] w fun e w' => e = .returned (.tuple #[]) ∧ ScAt w' b s (skp (cods s) p) ∧ Only b w w' := by
  have HS := Lib.hid h
  have HAT := Lib.hid (fun i x hx w => tat_int s (i : Nat) i rfl x hx w)
  have HH := Lib.hid (fun i hi b hb w => has_hyp s i hi b hb w)
  have HC := Lib.hid (fun q w hq => commentEnd_ok s q w hq hs)
  have hlen := cods_length s
  obtain ⟨R, hR⟩ : ∃ R, skp (cods s) p = R := ⟨_, rfl⟩
  rw [hR]
  have HG0 := Lib.hid (show kGo (cods s) (s.size + 1) p = R by rw [← hR]; unfold skp; rw [hlen])
  have HL := Lib.hid hlen
  generalize cods s = l at *
  clear h hR hlen
  go_enter Tryd.func18, Tryd.ntmps18
  go_wp2_with fail
  go_loopw [] (fun wr => RelK w b s l R wr) (fun wr => s.size + 1 - posAt wr b)
  case atStart => exact ⟨p, s.size + 1, by rw [HL.out]; exact hp, HG0.out, by rw [HL.out]; omega, HS.out, Only.refl _ _⟩
  case round =>
    clear HG0 HS
    obtain ⟨q, n, hq, hgo, hn, hsc, hon⟩ := hrel
    rw [HL.out] at hq hn
    obtain ⟨m, rfl⟩ : ∃ m, n = m + 1 := ⟨n - 1, by omega⟩
    have HGO := Lib.hid hgo
    have HPO := Lib.hid hsc.pos
    have HS := Lib.hid hsc
    have HSd := Lib.hid (hsc.below ((Below.refl _ _).drew))
    have HO := Lib.hid hon.drew
    obtain ⟨x, hx⟩ : ∃ x, tAt l q = x := ⟨_, rfl⟩
    have HA0 := Lib.hid (fun w => HAT.out q x hx w)
    have HWx := Lib.hid (fun w => tws_ok x w)
    have HX := Lib.hid hx
    have k0 := hsc.cells.1
    have k1 := hsc.cells.2.1
    clear hgo hsc hon hx
    go_wp2_with fail
    go_region_held3 (fun w' => w'.cell? ⟨b, 0, none⟩ = some (.string s) ∧ w'.cell? ⟨b, 1, none⟩ = some (.int .i64 (q : Nat))) (first | exact ⟨k0, k1⟩) (first | (go_at_call 24; refine (HA0.out _).mono ?_; rintro e w5 ⟨rfl, rfl⟩) | (go_at_call 23; refine (HWx.out _).mono ?_; rintro e w5 ⟨rfl, rfl⟩))
    clear HS k0 k1 HA0
    generalize World.drew wr = wd at *
    have k0 := HSd.out.cells.1
    have k1 := HSd.out.cells.2.1
    have f1 := HSd.out.cells.2.2
    cases hwx : isWs x with
    | true =>
      have hw : isWs (tAt l q) = true := by rw [HX.out]; exact hwx
      have hin := isWs_in hw
      rw [HL.out] at hin
      have HN := Lib.hid ((kGo_ws hw).symm.trans HGO.out)
      clear hw HWx
      go_wp2_with fail
      go_roundw
      case rel => exact ⟨q + 1, m, by rw [HL.out]; exact hin, HN.out, by rw [HL.out]; omega, HSd.out.set (q + 1) _ (by omega), HO.out.set _ _⟩
      case measure =>
        rw [(HSd.out.set (q + 1) _ (by omega)).pos, HPO.out]
        omega
    | false =>
      have hw : ¬ isWs (tAt l q) = true := by rw [HX.out, hwx]; decide
      have HW := Lib.hid hw
      have HWD := Lib.hid HSd.out.cells
      clear hw HWx
      by_cases h2 : tAt l q = 45 ∧ tAt l (q + 1) = 45
      · have HHq := Lib.hid (fun w => HH.out q (by omega) true (decide_eq_true h2) w)
        have hce := cEnd_le h2
        rw [HL.out] at hce
        have hin2 := tAt_in (l := l) (i := q + 1) (by rw [h2.2]; decide)
        rw [HL.out] at hin2
        have HCq := Lib.hid (fun w => HC.out q w (by omega))
        have HN := Lib.hid ((kGo_cm HW.out h2).symm.trans HGO.out)
        generalize cEnd l q = c at *
        clear h2
        go_wp2_with fail
        go_region_held3 (fun w' => w'.cell? ⟨b, 0, none⟩ = some (.string s) ∧ w'.cell? ⟨b, 1, none⟩ = some (.int .i64 (q : Nat))) (first | exact ⟨k0, k1⟩) (first | (go_at_call 25; refine (HHq.out _).mono ?_; rintro e w5 ⟨rfl, rfl⟩))
        have HSe := Lib.hid (HSd.out.below ((Below.refl _ _).drew))
        have HOe := Lib.hid HO.out.drew
        clear k0 k1 f1 HWD HSd
        generalize World.drew wd = we at *
        have k0 := HSe.out.cells.1
        have k1 := HSe.out.cells.2.1
        go_wp2_with fail
        refine (HCq.out _).mono ?_
        rintro e w5 ⟨rfl, hb⟩
        have HS5 := Lib.hid (HSe.out.below hb)
        have HO5 := Lib.hid (HOe.out.trans (Only.of_below hb))
        clear hb k0 k1
        have k1 := HS5.out.cells.2.1
        have f1 := HS5.out.cells.2.2
        go_wp2_with fail
        go_roundw
        case rel => exact ⟨c, m, by rw [HL.out]; exact hce.2, HN.out, by rw [HL.out]; omega, HS5.out.set c _ rfl, HO5.out.set _ _⟩
        case measure =>
          rw [(HS5.out.set c _ rfl).pos, HPO.out]
          omega
      · have HHq := Lib.hid (fun w => HH.out q (by omega) false (decide_eq_false h2) w)
        have HE := Lib.hid ((kGo_no HW.out h2).symm.trans HGO.out)
        clear h2
        go_wp2_with fail
        go_region_held3 (fun w' => w'.cell? ⟨b, 0, none⟩ = some (.string s) ∧ w'.cell? ⟨b, 1, none⟩ = some (.int .i64 (q : Nat))) (first | exact ⟨k0, k1⟩) (first | (go_at_call 25; refine (HHq.out _).mono ?_; rintro e w5 ⟨rfl, rfl⟩))
        have HSe := Lib.hid (HSd.out.below ((Below.refl _ _).drew))
        have HOe := Lib.hid HO.out.drew
        clear k0 k1 f1 HWD HSd
        generalize World.drew wd = we at *
        go_wp2_with fail
        refine bodyPost_ret (results_none rfl _ _ _) rfl ?_
        rw [← HE.out]
        exact ⟨rfl, HSe.out, HOe.out⟩
end Go.Proofs.YthcodmcfkmochaaDoor
