/-
  Package strings: PutBits, PutText.
-/
import Derived.Test.YtbpfggkpfaobhaaGreatStTab3
import Derived.StillTailTactics
namespace Go.Proofs.YtbpfggkpfaobhaaGreat
open Go.RowKit Go.Shelf
set_option linter.unusedVariables false
set_option linter.unusedSimpArgs false
set_option maxRecDepth 100000

/-- the errors where units may be wrong -/
def eE (ok : Bool) (n : Nat) (lo hi : Int) : Int := if lBad lo hi then 1 else if ok = true then sE n lo hi else 4
def eB (ok al tx : Bool) (k : Nat) (B : List Bool) (lo hi : Int) (l : List Nat) : List Bool := if eE ok l.length lo hi = 0 then stP al tx k B l.length lo hi ++ ubits k l else B
theorem eE_bad {ok : Bool} {n : Nat} {lo hi : Int} (h : lBad lo hi) : eE ok n lo hi = 1 := if_pos h
theorem eE_no {n : Nat} {lo hi : Int} (h : ¬ lBad lo hi) : eE false n lo hi = 4 := by unfold eE; rw [if_neg h, if_neg (by simp)]
theorem eE_yes {n : Nat} {lo hi : Int} : eE true n lo hi = sE n lo hi := by
  unfold eE
  by_cases h : lBad lo hi
  · rw [if_pos h, sE_bad h]
  · rw [if_neg h, if_pos rfl]
theorem eB_bad {ok al tx : Bool} {k : Nat} {B : List Bool} {lo hi : Int} {l : List Nat} (h : eE ok l.length lo hi ≠ 0) : eB ok al tx k B lo hi l = B := if_neg h
set_option maxHeartbeats 1000000 in
theorem sputBits_ok (w : World) (b : Nat) (B : List Bool) (al : Bool) (lo hi : Int) (s : ByteArray) (h : WrAt w b B) (hl : s.size < 16384)
    (b2 : -9223372036854775808 ≤ lo ∧ lo ≤ 9223372036854775807) (b3 : -9223372036854775808 ≤ hi ∧ hi ≤ 9223372036854775807) (hB : B.length ≤ 700000) :
    Calls Tryz.prog 19 #[.pointer (some ⟨b, 0, none⟩), .bool al, .string s, .int .i64 lo, .int .i64 hi] w fun e w' =>
      e = .returned (.int .i64 (eE (isBit (cods s)) s.size lo hi)) ∧ WrAt w' b (eB (isBit (cods s)) al false 1 B lo hi (bitN (cods s))) ∧ Only b w w' := by
  have hbw := h.lt
  have hbl : (bitN (cods s)).length = s.size := by rw [bitN_length, cods_length]
  have hmf : ∀ (fn : Fn) (first cap : Array Value) (w : World), (Instr.makeFunc fn first cap).run Tryz.prog w = .ok (.func fn first cap) w := fun _ _ _ _ => rfl
  obtain ⟨W, hW, hbel, hC1, hC2, hLA⟩ := box3 w 46 9 (.pointer (some ⟨b, 0, none⟩)) (.string s) al lo hi 1 false
  have hwW := h.below hbel
  have h0 : Only b w W := Only.of_below hbel
  by_cases hv : lBad lo hi
  · have hV := svalid_ok al lo hi 1 false W false (by rw [eq_comm, decide_eq_false_iff_not]; exact fun h => h hv)
    rw [eB_bad (by rw [eE_bad hv]; decide), eE_bad hv]
    rw [hW] at hV h0 hwW
    have HV := Lib.hid hV
    have H0 := Lib.hid h0
    have HW := Lib.hid hwW
    clear hV h0 hwW hbel hC1 hC2 hLA hW h hv
    go_enter Tryz.func19, Tryz.ntmps19
    go_wp2_with fail
    refine HV.out.mono ?_
    rintro e w1 ⟨rfl, hb1⟩
    have H1 := Lib.hid (H0.out.trans (Only.of_below hb1))
    have HW1 := Lib.hid (HW.out.below hb1)
    clear hb1 H0 HW
    go_wp2_with fail
    go_ret
    exact ⟨rfl, HW1.out, H1.out⟩
  have hV := svalid_ok al lo hi 1 false W true (by rw [eq_comm, decide_eq_true_eq]; exact hv)
  have HI := Lib.hid (fun w => isBits_ok s w (by omega))
  rw [hW] at hV h0 hwW hC1 hC2 hLA
  have HV := Lib.hid hV
  have H0 := Lib.hid h0
  have HW := Lib.hid hwW
  have HC1 := Lib.hid hC1
  have HC2 := Lib.hid hC2
  have HLA := Lib.hid hLA
  clear hV h0 hwW hbel hC1 hC2 hLA hW h
  cases hib : isBit (cods s) with
  | false =>
    rw [hib] at HI
    rw [eB_bad (by rw [eE_no hv]; decide), eE_no hv]
    clear hib
    go_enter Tryz.func19, Tryz.ntmps19
    go_wp2_with fail
    refine HV.out.mono ?_
    rintro e w1 ⟨rfl, hb1⟩
    have H1 := Lib.hid (H0.out.trans (Only.of_below hb1))
    have HW1 := Lib.hid (HW.out.below hb1)
    have c2 := (HC2.out.below hb1).cell
    clear hb1 H0 HW HC1 HC2 HLA HV
    go_wp2_with fail
    refine (HI.out w1).mono ?_
    rintro e w2 ⟨rfl, rfl⟩
    go_wp2_with fail
    go_ret
    exact ⟨rfl, HW1.out, H1.out⟩
  | true =>
    rw [hib] at HI
    have HP := Lib.hid (fun (w1 : World) (g1 g2 : Nat) (hw : WrAt w1 b B) (c1 : Cel w1 g1 46 (.pointer (some ⟨b, 0, none⟩))) (c2 : Cel w1 g2 9 (.string s)) (h1 : g1 ≠ b) (h2 : g2 ≠ b) =>
      sput_ok w1 b B al lo hi 1 false s.size _ _ (ubits 1 (bitN (cods s))) enters_bit hw (units_bit w1 b s _ g1 g2 c1 c2 rfl hib h1 h2 (by omega)) hv (by omega) hl b2 b3 (by omega))
    have hst : eB true al false 1 B lo hi (bitN (cods s)) = if sE s.size lo hi = 0 then stP al false 1 B s.size lo hi ++ ubits 1 (bitN (cods s)) else B := by unfold eB; rw [eE_yes, hbl]
    rw [hst, eE_yes]
    generalize (if sE s.size lo hi = 0 then stP al false 1 B s.size lo hi ++ ubits 1 (bitN (cods s)) else B) = T at *
    generalize sE s.size lo hi = er at *
    clear hib hst hv hbl
    go_enter Tryz.func19, Tryz.ntmps19
    go_wp2_with fail
    refine HV.out.mono ?_
    rintro e w1 ⟨rfl, hb1⟩
    have H1 := Lib.hid (H0.out.trans (Only.of_below hb1))
    have HW1 := Lib.hid (HW.out.below hb1)
    have c1 := (HC1.out.below hb1)
    have c2 := (HC2.out.below hb1)
    obtain ⟨d0, d1, d2, d3, d4⟩ := (HLA.out.below hb1).cells
    have HC3 := Lib.hid c1
    have HC4 := Lib.hid c2
    replace c1 := c1.cell
    replace c2 := c2.cell
    clear hb1 H0 HW HC1 HC2 HLA HV
    go_wp2_with fail
    refine (HI.out w1).mono ?_
    rintro e w2 ⟨rfl, rfl⟩
    go_wp2_with fail
    refine (HP.out w1 _ _ HW1.out HC3.out HC4.out (by omega) (by omega)).mono ?_
    rintro e w2 ⟨rfl, h1, h2⟩
    have H2 := Lib.hid h1
    have H3 := Lib.hid (H1.out.trans h2)
    clear h1 h2 c1 c2 d0 d1 d2 d3 d4 HP
    go_wp2_with fail
    go_ret
    exact ⟨rfl, H2.out, H3.out⟩
end Go.Proofs.YtbpfggkpfaobhaaGreat
