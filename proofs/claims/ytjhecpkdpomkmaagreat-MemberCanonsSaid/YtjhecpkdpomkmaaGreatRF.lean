/-
  A bundle of texts, one behind the other: McA, McB.
-/
import Derived.Test.YtjhecpkdpomkmaaGreatQN
import Derived.Test.YtjhecpkdpomkmaaGreatQG
import Derived.Test.YtjhecpkdpomkmaaGreatQNA
import Derived.Test.YtjhecpkdpomkmaaGreatQI
namespace Go.Proofs.YtjhecpkdpomkmaaGreat
open Go.RowKit
set_option linter.unusedVariables false
set_option linter.unusedSimpArgs false
set_option maxRecDepth 100000
def isPart3 (k : Int) : Bool := k == 8 || k == 9 || k == 10
theorem rparted_ok (w : World) (k : Int) :
    Calls Tryz.prog 93 #[.int .i64 k] w fun e w' => e = .returned (.bool (isPart3 k)) ∧ w' = w := by
  have HK := Lib.hid (show isPart3 k = (k == 8 || k == 9 || k == 10) from rfl)
  obtain ⟨z, hz⟩ : ∃ z, isPart3 k = z := ⟨_, rfl⟩
  rw [hz] at HK ⊢
  clear hz
  cases h8 : (k == 8) with
  | true =>
    have HZ := Lib.hid (show z = true from by rw [HK.out, h8]; rfl)
    go_enter Tryz.func93, Tryz.ntmps93
    go_wp2_with fail
    go_ret
    exact ⟨by rw [HZ.out]; rfl, rfl⟩
  | false =>
  cases h9 : (k == 9) with
  | true =>
    have HZ := Lib.hid (show z = true from by rw [HK.out, h8, h9]; rfl)
    go_enter Tryz.func93, Tryz.ntmps93
    go_wp2_with fail
    go_ret
    exact ⟨by rw [HZ.out]; rfl, rfl⟩
  | false =>
  obtain ⟨b, h10⟩ : ∃ b, (k == 10) = b := ⟨_, rfl⟩
  have HZ := Lib.hid (show z = b from by rw [HK.out, h8, h9, h10]; rfl)
  go_enter Tryz.func93, Tryz.ntmps93
  go_wp2_with fail
  go_ret
  exact ⟨by rw [HZ.out]; rfl, rfl⟩
theorem rsimple_ok (w : World) (k : Int) :
    Calls Tryz.prog 92 #[.int .i64 k] w fun e w' => e = .returned (.bool (isDfl k)) ∧ w' = w := by
  have HK := Lib.hid (show isDfl k = (k == 1 || k == 2 || k == 3 || k == 7) from rfl)
  obtain ⟨z, hz⟩ : ∃ z, isDfl k = z := ⟨_, rfl⟩
  rw [hz] at HK ⊢
  clear hz
  cases h1 : (k == 1) with
  | true =>
    have HZ := Lib.hid (show z = true from by rw [HK.out, h1]; rfl)
    go_enter Tryz.func92, Tryz.ntmps92
    go_wp2_with fail
    go_ret
    exact ⟨by rw [HZ.out]; rfl, rfl⟩
  | false =>
  cases h2 : (k == 2) with
  | true =>
    have HZ := Lib.hid (show z = true from by rw [HK.out, h1, h2]; rfl)
    go_enter Tryz.func92, Tryz.ntmps92
    go_wp2_with fail
    go_ret
    exact ⟨by rw [HZ.out]; rfl, rfl⟩
  | false =>
  cases h3 : (k == 3) with
  | true =>
    have HZ := Lib.hid (show z = true from by rw [HK.out, h1, h2, h3]; rfl)
    go_enter Tryz.func92, Tryz.ntmps92
    go_wp2_with fail
    go_ret
    exact ⟨by rw [HZ.out]; rfl, rfl⟩
  | false =>
  obtain ⟨b, h7⟩ : ∃ b, (k == 7) = b := ⟨_, rfl⟩
  have HZ := Lib.hid (show z = b from by rw [HK.out, h1, h2, h3, h7]; rfl)
  go_enter Tryz.func92, Tryz.ntmps92
  go_wp2_with fail
  go_ret
  exact ⟨by rw [HZ.out]; rfl, rfl⟩
/-- the place of a text; -1: it is not there -/
def rIdx (s : SL) (x : ByteArray) : Int := if fst (fun i => sEq (s.f i) x) s.n < s.n then ((fst (fun i => sEq (s.f i) x) s.n : Nat) : Int) else -1
def RelHs (w : World) (s : SL) (x : ByteArray) (iv : Value) (wr : World) : Prop := ∃ i : Nat, i ≤ s.n ∧ iv = .int .i64 (i : Nat) ∧ (∀ j, j < i → sEq (s.f j) x = false) ∧ w = wr
theorem rIdx_at {s : SL} {x : ByteArray} {i : Nat} (hi : i < s.n) (h : ∀ j, j < i → sEq (s.f j) x = false) (hx : sEq (s.f i) x = true) : rIdx s x = (i : Nat) := by
  unfold rIdx
  rw [fst_eq hi h hx, if_pos hi]
theorem rIdx_no {s : SL} {x : ByteArray} (h : ∀ j, j < s.n → sEq (s.f j) x = false) : rIdx s x = -1 := by
  unfold rIdx
  rw [fst_end h, if_neg (by omega)]
set_option maxHeartbeats 8000000 in
theorem rhas_ok (B : Nat) (w : World) (s : SL) (x : ByteArray) (hs : SLIn B w s) :
    Calls Tryz.prog 59 #[.slice s.a s.n s.cap, .string x] w fun e w' => e = .returned (.int .i64 (rIdx s x)) ∧ w = w' := by
  have HS := Lib.hid hs
  clear hs
  go_enter Tryz.func59, Tryz.ntmps59
  go_wp2_with fail
  go_loopw [5] (fun iv wr => RelHs w s x iv wr) (fun iv _ => s.n - (Lib.intOf iv).toNat)
  case atStart => exact ⟨0, Nat.zero_le _, rfl, fun j hj => absurd hj (Nat.not_lt_zero _), rfl⟩
  case round =>
    obtain ⟨i, hi, rfl, hall, rfl⟩ := hrel
    have HA := Lib.hid hall
    clear hall
    by_cases hlt : i < s.n
    · have q1 : decide ((i : Int) < (s.n : Int)) = true := decide_eq_true (by omega)
      have q1n : decide (i < s.n) = true := decide_eq_true hlt
      have q3 : IntKind.i64.wrap ((i : Int) + 1) = ((i + 1 : Nat) : Int) := wrap_succ hlt (by have := HS.out.1.2.1; omega)
      obtain ⟨gx, ox, hix, hgx, hrd⟩ := HS.out.1.read 23 9 Tryz.underlying23 (by kernel_rfl) Tryz.sizeOf9 hlt
      have hx := hrd w rfl 0 _ rfl
      rw [Nat.add_zero] at hx
      cases hb : sEq (s.f i) x with
      | true =>
        have r1 : ((s.f i).toList == x.toList) = true := hb
        have HZ := Lib.hid (rIdx_at hlt HA.out hb)
        clear hb hrd
        go_wp2_with fail
        go_ret
        exact ⟨by rw [HZ.out]; rfl, rfl⟩
      | false =>
        have r1 : ((s.f i).toList == x.toList) = false := hb
        have HN := Lib.hid (show ∀ j, j < i + 1 → sEq (s.f j) x = false from fun j hj => by
          rcases Nat.lt_or_ge j i with h1 | h1
          · exact HA.out j h1
          · rw [show j = i by omega]; exact hb)
        clear hb hrd
        go_wp2_with fail
        go_roundw
        case rel => exact ⟨i + 1, hlt, rfl, HN.out, rfl⟩
        case measure => simp only [Lib.intOf]; omega
    · have q1 : decide ((i : Int) < (s.n : Int)) = false := decide_eq_false (by omega)
      have q1n : decide (i < s.n) = false := decide_eq_false hlt
      obtain rfl : i = s.n := by omega
      have HZ := Lib.hid (rIdx_no HA.out)
      go_wp2_with fail
      go_ret
      exact ⟨by rw [HZ.out]; rfl, rfl⟩
def RelDp (w : World) (ch : Nat → VT) (n m : Nat) (iv : Value) (wr : World) : Prop := ∃ i : Nat, i ≤ n ∧ iv = .int .i64 (i : Nat) ∧ (∀ j, j < i → (ch j).deeper m = false) ∧ Below w.heap.size w wr
set_option maxHeartbeats 16000000 in
theorem rDeep_ok : ∀ (v : VT) (B : Nat) (w : World) (M : Nat), VIn B w v → B ≤ w.heap.size → M ≤ 1000 →
    Calls Tryz.prog 57 #[.agg v.cells.toArray, .int .i64 (M : Nat)] w fun e w' => e = .returned (.bool (v.deeper M)) ∧ Below w.heap.size w w'
  | .nil, _, _, _, h, _, _ => h.elim
  | .mk k m s nm a n cap ch, B, w, M, hv, hB, hM => by
    have hrec : ∀ i, i < n → ∀ W, Below w.heap.size w W → 0 < M → Calls Tryz.prog 57 #[.agg (ch i).cells.toArray, .int .i64 ((M - 1 : Nat) : Int)] W fun e w' => e = .returned (.bool ((ch i).deeper (M - 1))) ∧ Below W.heap.size W w' := fun i hi W hW h0 =>
      rDeep_ok (ch i) w.heap.size W (M - 1) (((hv.2.2 i hi).below (Below.refl _ _) hB).below hW (Nat.le_refl _)) hW.size (by omega)
    have HRC := Lib.hid hrec
    have HRW := Lib.hid hv.2.1
    have HON := Lib.hid (fun i hi => hv.2.2 i hi)
    have hBB := hB
    have HX := Lib.hid (Bx.new w #[.int .i64 k, .int .i64 m, .string s, .slice nm.a nm.n nm.cap, .slice a n cap] 26)
    have HB := Lib.hid ((Below.refl w.heap.size w).alloc (Nat.le_refl _) (.cells #[.int .i64 k, .int .i64 m, .string s, .slice nm.a nm.n nm.cap, .slice a n cap] 26))
    have HL := Lib.hid (show (VT.mk k m s nm a n cap ch).deeper M = (isPart3 k && (decide (M = 0) || anyN (fun j => (ch j).deeper (M - 1)) n)) from rfl)
    have hPT := rparted_ok
    have HPT := Lib.hid (fun (W : World) => rparted_ok W k)
    rw [list5]
    generalize (VT.mk k m s nm a n cap ch).deeper M = res at *
    clear hrec hv hB hPT
    have c0 := HX.out.cell 0 (v := .int .i64 k) rfl
    have c4 := HX.out.cell 4 (v := .slice a n cap) rfl
    generalize isPart3 k = pk at *
    cases pk with
    | false =>
      have HN := Lib.hid (show res = false from by rw [HL.out]; rfl)
      clear HL
      go_enter Tryz.func57, Tryz.ntmps57
      go_wp2_with fail
      refine (HPT.out _).mono ?_
      rintro e w2 ⟨rfl, rfl⟩
      go_wp2_with fail
      go_ret
      exact ⟨by rw [HN.out]; rfl, HB.out⟩
    | true =>
    by_cases hM0 : M = 0
    · have HN := Lib.hid (show res = true from by rw [HL.out, decide_eq_true hM0]; rfl)
      have q1 : ((M : Int) == 0) = true := by simp [hM0]
      clear HL hM0
      go_enter Tryz.func57, Tryz.ntmps57
      go_wp2_with fail
      refine (HPT.out _).mono ?_
      rintro e w2 ⟨rfl, rfl⟩
      go_wp2_with fail
      go_ret
      exact ⟨by rw [HN.out]; rfl, HB.out⟩
    have q1 : ((M : Int) == 0) = false := beq_eq_false_iff_ne.2 (by omega)
    have q2 : IntKind.i64.wrap ((M : Int) - 1) = ((M - 1 : Nat) : Int) := by rw [wrap_ok (by unfold I64; omega)]; omega
    have HN := Lib.hid (show res = anyN (fun j => (ch j).deeper (M - 1)) n from by rw [HL.out, decide_eq_false hM0]; rfl)
    obtain ⟨M1, hM1⟩ : ∃ x, M - 1 = x := ⟨_, rfl⟩
    have HM0 := Lib.hid (show 0 < M by omega)
    rw [hM1] at HN HRC q2
    have HNK := Lib.hid (show n ≤ 140737488355328 from HRW.out.2.1)
    clear HL hM0 hM1
    go_enter Tryz.func57, Tryz.ntmps57
    go_wp2_with fail
    refine (HPT.out _).mono ?_
    rintro e w2 ⟨rfl, rfl⟩
    generalize w.alloc (.cells #[.int .i64 k, .int .i64 m, .string s, .slice nm.a nm.n nm.cap, .slice a n cap] 26) = W0 at *
    go_wp2_with fail
    go_loopw [5] (fun iv wr => RelDp W0 ch n M1 iv wr) (fun iv _ => n - (Lib.intOf iv).toNat)
    case atStart => exact ⟨0, Nat.zero_le _, rfl, fun j hj => absurd hj (Nat.not_lt_zero _), Below.refl _ _⟩
    case round =>
      obtain ⟨i, hi, rfl, hall, hbel⟩ := hrel
      have HA := Lib.hid hall
      have HBR := Lib.hid hbel
      have HBT := Lib.hid (HB.out.trans (hbel.mono HB.out.size))
      clear hall hbel c0 c4
      have d4 := (HX.out.below HBR.out HX.out.lt).cell 4 (v := .slice a n cap) rfl
      by_cases hlt : i < n
      · have q4 : decide ((i : Int) < (n : Int)) = true := decide_eq_true (by omega)
        have q4n : decide (i < n) = true := decide_eq_true hlt
        have q3 : IntKind.i64.wrap ((i : Int) + 1) = ((i + 1 : Nat) : Int) := wrap_succ hlt (by have := HNK.out; omega)
        obtain ⟨gx, ox, hix, hgx, hrd⟩ := HRW.out.read 24 26 Tryz.underlying24 (by kernel_rfl) Tryz.sizeOf26 hlt
        have hrx := hrd wr (HBT.out.block gx (by omega))
        have HCH := Lib.hid (HRC.out i hlt)
        obtain ⟨cs, hcs⟩ : ∃ l, (ch i).cells = l := ⟨_, rfl⟩
        have HO := Lib.hid (show cs.length = 5 from by rw [← hcs]; exact (one_vcells (HON.out i hlt)).1)
        have HR := Lib.hid (show wr.rangeAt gx ox cs from fun j u hj => hrx j u (by rw [hcs]; exact hj))
        rw [hcs] at HCH
        have HSU := Lib.hid (show (ch i).deeper M1 = true → res = true from fun h => by rw [HN.out]; exact anyN_yes (f := fun j => (ch j).deeper M1) hlt h)
        have HNX := Lib.hid (show (ch i).deeper M1 = false → ∀ j, j < i + 1 → (ch j).deeper M1 = false from fun h j hj => by
          rcases Nat.lt_or_ge j i with h1 | h1
          · exact HA.out j h1
          · rw [show j = i by omega]; exact h)
        generalize (ch i).deeper M1 = z at *
        clear hrd hrx hcs
        go_wp2_with (refine wpList_load_mid rfl 26 (.tmp 22) rfl gx ox rfl cs _ HR.out Tryz.underlying26 rfl (by rw [info_V, HO.out]) ?_)
        refine (HCH.out _ HBT.out HM0.out).mono ?_
        rintro e w3 ⟨rfl, h3⟩
        have HB3 := Lib.hid (HBT.out.trans (h3.mono HBT.out.size))
        have HB4 := Lib.hid (HBR.out.trans (h3.mono HBR.out.size))
        clear h3 d4
        cases z with
        | true =>
          have HZ := Lib.hid (HSU.out rfl)
          go_wp2_with fail
          go_ret
          exact ⟨by rw [HZ.out]; rfl, HB3.out⟩
        | false =>
          have HZ := Lib.hid (HNX.out rfl)
          go_wp2_with fail
          go_roundw
          case rel => exact ⟨i + 1, hlt, rfl, HZ.out, HB4.out⟩
          case measure => simp only [Lib.intOf]; omega
      · have q4 : decide ((i : Int) < (n : Int)) = false := decide_eq_false (by omega)
        have q4n : decide (i < n) = false := decide_eq_false hlt
        obtain rfl : i = n := by omega
        have HZ := Lib.hid (show res = false from by rw [HN.out]; exact anyN_no HA.out)
        go_wp2_with fail
        go_ret
        exact ⟨by rw [HZ.out]; rfl, HBT.out⟩
end Go.Proofs.YtjhecpkdpomkmaaGreat

namespace Go.Proofs.YtjhecpkdpomkmaaGreat
open Go.RowKit
set_option linter.unusedVariables false
set_option linter.unusedSimpArgs false
set_option maxRecDepth 100000

def chrB (fr : ByteArray) (c : Nat) : Bool := (decide (fr.size = 0) && decide (c < 128)) || anyN (fun j => byteAt fr j == c) fr.size
def charsB (fr s : ByteArray) : Bool := allN (fun k => chrB fr (byteAt s k)) s.size
def RelChO (w : World) (p : Nat → Bool) (n : Nat) (iv : Value) (wr : World) : Prop := ∃ i : Nat, i ≤ n ∧ iv = .int .i64 (i : Nat) ∧ allN p i = true ∧ Below w.heap.size w wr
def RelChI (w : World) (b0 : Bool) (p : Nat → Bool) (n : Nat) (bv jv : Value) (wr : World) : Prop := ∃ j : Nat, j ≤ n ∧ jv = .int .i64 (j : Nat) ∧ bv = .bool (b0 || anyN p j) ∧ Below w.heap.size w wr
theorem anyN_succ (p : Nat → Bool) (j : Nat) : anyN p (j + 1) = (anyN p j || p j) := by
  unfold anyN
  simp [allN, Bool.not_and]
theorem empty_str (fr : ByteArray) : fr.toList.isEmpty = decide (fr.size = 0) := by
  rw [ByteArray.toList_eq]
  by_cases h : fr.size = 0
  · rw [decide_eq_true h]
    have : fr.data.toList = [] := List.eq_nil_of_length_eq_zero h
    rw [this]; rfl
  · rw [decide_eq_false h]
    cases hl : fr.data.toList with
    | nil =>
      exfalso
      apply h
      have : fr.data.toList.length = 0 := by rw [hl]; rfl
      exact this
    | cons a l => rfl
set_option maxHeartbeats 16000000 in
theorem rchars_ok (w : World) (s fr : ByteArray) (hs : s.size ≤ 140737488355328) (hf : fr.size ≤ 140737488355328) :
    Calls Tryz.prog 96 #[.string s, .string fr] w fun e w' => e = .returned (.bool (charsB fr s)) ∧ Below w.heap.size w w' := by
  obtain ⟨res, hres⟩ : ∃ r, charsB fr s = r := ⟨_, rfl⟩
  have HL := Lib.hid (show allN (fun k => chrB fr (byteAt s k)) s.size = res from hres)
  rw [hres]
  have HS := Lib.hid hs
  have HF := Lib.hid hf
  have HE := Lib.hid (empty_str fr)
  clear hs hf hres
  go_enter Tryz.func96, Tryz.ntmps96
  go_wp2_with fail
  go_loopw [5] (fun iv wr => RelChO w (fun k => chrB fr (byteAt s k)) s.size iv wr) (fun iv _ => s.size - (Lib.intOf iv).toNat)
  case atStart => exact ⟨0, Nat.zero_le _, rfl, rfl, Below.refl _ _⟩
  case round =>
    obtain ⟨i, hi, rfl, hall, hbel⟩ := hrel
    have HA := Lib.hid hall
    have HB := Lib.hid hbel
    clear hall hbel
    by_cases hlt : i < s.size
    · have q1 : decide ((i : Int) < (s.size : Int)) = true := decide_eq_true (by omega)
      have q1n : decide (i < s.size) = true := decide_eq_true hlt
      have q3 : (i : Int) < (s.size : Int) := by omega
      have q4 : (0 : Int) ≤ (i : Int) := by omega
      have q5 : IntKind.i64.wrap ((i : Int) + 1) = ((i + 1 : Nat) : Int) := wrap_succ hlt (by have := HS.out; omega)
      obtain ⟨x, hx⟩ : ∃ x, byteAt s i = x := ⟨_, rfl⟩
      have e1 : (s[i]'hlt).toNat = x := (byteAt_eq hlt).trans hx
      have HSU := Lib.hid (fun h => allN_succ (f := fun k => chrB fr (byteAt s k)) (n := i) HA.out h)
      have HFA := Lib.hid (show chrB fr x = false → res = false from fun h => by rw [← HL.out]; exact allN_no (f := fun k => chrB fr (byteAt s k)) hlt (by show chrB fr (byteAt s i) = false; rw [hx]; exact h))
      have HCX := Lib.hid (show chrB fr (byteAt s i) = chrB fr x from by rw [hx])
      clear hx
      by_cases hfe : fr.size = 0
      · have t1 : fr.toList.isEmpty = true := by rw [HE.out, decide_eq_true hfe]
        by_cases hc : x < 128
        · have u1 : decide (x < 128) = true := decide_eq_true hc
          have u2 : decide ((x : Int) < (128 : Int)) = true := decide_eq_true (by omega)
          have HC := Lib.hid (show chrB fr x = (true || anyN (fun j => byteAt fr j == x) fr.size) from by unfold chrB; rw [decide_eq_true hfe, u1]; rfl)
          go_wp2_with fail
          go_loopw [6, 7] (fun bv jv wy => RelChI wr true (fun j => byteAt fr j == x) fr.size bv jv wy) (fun _ jv _ => fr.size - (Lib.intOf jv).toNat)
          case atStart => exact ⟨0, Nat.zero_le _, rfl, rfl, Below.refl _ _⟩
          case round =>
            rename World => wy
            obtain ⟨j, hj, rfl, rfl, hbel⟩ := hrel
            have HBI := Lib.hid hbel
            clear hbel
            have HBT := Lib.hid (HB.out.trans (HBI.out.mono HB.out.size))
            by_cases hjl : j < fr.size
            · omega
            · have r1 : decide ((j : Int) < (fr.size : Int)) = false := decide_eq_false (by omega)
              have r1n : decide (j < fr.size) = false := decide_eq_false hjl
              obtain rfl : j = fr.size := by omega
              rw [← HC.out]
              generalize hcb : chrB fr x = cb at *
              cases cb with
              | true =>
                have HN := Lib.hid (HSU.out (by show chrB fr (byteAt s i) = true; rw [HCX.out]))
                go_wp2_with fail
                go_roundw
                case rel => exact ⟨i + 1, hlt, rfl, HN.out, HBT.out⟩
                case measure => simp only [Lib.intOf]; omega
              | false =>
                have HN := Lib.hid (HFA.out rfl)
                go_wp2_with fail
                go_ret
                exact ⟨by rw [HN.out]; rfl, HBT.out⟩
        · have u1 : decide (x < 128) = false := decide_eq_false hc
          have u2 : decide ((x : Int) < (128 : Int)) = false := decide_eq_false (by omega)
          have HC := Lib.hid (show chrB fr x = (false || anyN (fun j => byteAt fr j == x) fr.size) from by unfold chrB; rw [decide_eq_true hfe, u1]; rfl)
          go_wp2_with fail
          go_loopw [6, 7] (fun bv jv wy => RelChI wr false (fun j => byteAt fr j == x) fr.size bv jv wy) (fun _ jv _ => fr.size - (Lib.intOf jv).toNat)
          case atStart => exact ⟨0, Nat.zero_le _, rfl, rfl, Below.refl _ _⟩
          case round =>
            rename World => wy
            obtain ⟨j, hj, rfl, rfl, hbel⟩ := hrel
            have HBI := Lib.hid hbel
            clear hbel
            have HBT := Lib.hid (HB.out.trans (HBI.out.mono HB.out.size))
            by_cases hjl : j < fr.size
            · omega
            · have r1 : decide ((j : Int) < (fr.size : Int)) = false := decide_eq_false (by omega)
              have r1n : decide (j < fr.size) = false := decide_eq_false hjl
              obtain rfl : j = fr.size := by omega
              rw [← HC.out]
              generalize hcb : chrB fr x = cb at *
              cases cb with
              | true =>
                have HN := Lib.hid (HSU.out (by show chrB fr (byteAt s i) = true; rw [HCX.out]))
                go_wp2_with fail
                go_roundw
                case rel => exact ⟨i + 1, hlt, rfl, HN.out, HBT.out⟩
                case measure => simp only [Lib.intOf]; omega
              | false =>
                have HN := Lib.hid (HFA.out rfl)
                go_wp2_with fail
                go_ret
                exact ⟨by rw [HN.out]; rfl, HBT.out⟩
      · have t1 : fr.toList.isEmpty = false := by rw [HE.out, decide_eq_false hfe]
        have HC := Lib.hid (show chrB fr x = (false || anyN (fun j => byteAt fr j == x) fr.size) from by unfold chrB; rw [decide_eq_false hfe]; rfl)
        go_wp2_with fail
        go_loopw [6, 7] (fun bv jv wy => RelChI wr false (fun j => byteAt fr j == x) fr.size bv jv wy) (fun _ jv _ => fr.size - (Lib.intOf jv).toNat)
        case atStart => exact ⟨0, Nat.zero_le _, rfl, rfl, Below.refl _ _⟩
        case round =>
          rename World => wy
          obtain ⟨j, hj, rfl, rfl, hbel⟩ := hrel
          have HBI := Lib.hid hbel
          clear hbel
          have HBT := Lib.hid (HB.out.trans (HBI.out.mono HB.out.size))
          by_cases hjl : j < fr.size
          · have r1 : decide ((j : Int) < (fr.size : Int)) = true := decide_eq_true (by omega)
            have r1n : decide (j < fr.size) = true := decide_eq_true hjl
            have r3 : (j : Int) < (fr.size : Int) := by omega
            have r4 : (0 : Int) ≤ (j : Int) := by omega
            have r5 : IntKind.i64.wrap ((j : Int) + 1) = ((j + 1 : Nat) : Int) := wrap_succ hjl (by have := HF.out; omega)
            obtain ⟨y, hy⟩ : ∃ y, byteAt fr j = y := ⟨_, rfl⟩
            have e2 : (fr[j]'hjl).toNat = y := (byteAt_eq hjl).trans hy
            have HAS := Lib.hid (show (false || anyN (fun j => byteAt fr j == x) (j + 1)) = ((false || anyN (fun j => byteAt fr j == x) j) || (y == x)) from by rw [anyN_succ, hy, Bool.or_assoc])
            generalize (false || anyN (fun j => byteAt fr j == x) j) = cb at *
            clear hy
            cases cb with
            | true =>
              go_wp2_with fail
              go_quiet (fail)
              go_wp2_with fail
              go_roundw
              case rel => exact ⟨j + 1, hjl, rfl, by rw [HAS.out]; rfl, HBI.out.trans ⟨rfl, rfl, rfl, Nat.le_refl _, fun _ _ => rfl⟩⟩
              case measure => simp only [Lib.intOf]; omega
            | false =>
              by_cases hxy : y = x
              · have s1 : (y == x) = true := beq_iff_eq.2 hxy
                have s2 : ((y : Int) == (x : Int)) = true := beq_iff_eq.2 (by omega)
                go_wp2_with fail
                go_quiet (fail)
                go_wp2_with fail
                go_roundw
                case rel => exact ⟨j + 1, hjl, rfl, by rw [HAS.out, s1]; rfl, HBI.out.trans ⟨rfl, rfl, rfl, Nat.le_refl _, fun _ _ => rfl⟩⟩
                case measure => simp only [Lib.intOf]; omega
              · have s1 : (y == x) = false := beq_eq_false_iff_ne.2 hxy
                have s2 : ((y : Int) == (x : Int)) = false := beq_eq_false_iff_ne.2 (by omega)
                go_wp2_with fail
                go_quiet (fail)
                go_wp2_with fail
                go_roundw
                case rel => exact ⟨j + 1, hjl, rfl, by rw [HAS.out, s1]; rfl, HBI.out.trans ⟨rfl, rfl, rfl, Nat.le_refl _, fun _ _ => rfl⟩⟩
                case measure => simp only [Lib.intOf]; omega
          · have r1 : decide ((j : Int) < (fr.size : Int)) = false := decide_eq_false (by omega)
            have r1n : decide (j < fr.size) = false := decide_eq_false hjl
            obtain rfl : j = fr.size := by omega
            rw [← HC.out]
            generalize hcb : chrB fr x = cb at *
            cases cb with
            | true =>
              have HN := Lib.hid (HSU.out (by show chrB fr (byteAt s i) = true; rw [HCX.out]))
              go_wp2_with fail
              go_roundw
              case rel => exact ⟨i + 1, hlt, rfl, HN.out, HBT.out⟩
              case measure => simp only [Lib.intOf]; omega
            | false =>
              have HN := Lib.hid (HFA.out rfl)
              go_wp2_with fail
              go_ret
              exact ⟨by rw [HN.out]; rfl, HBT.out⟩
    · have q1 : decide ((i : Int) < (s.size : Int)) = false := decide_eq_false (by omega)
      have q1n : decide (i < s.size) = false := decide_eq_false hlt
      obtain rfl : i = s.size := by omega
      have HN := Lib.hid (show res = true from by rw [← HL.out]; exact HA.out)
      go_wp2_with fail
      go_ret
      exact ⟨by rw [HN.out]; rfl, HB.out⟩
set_option maxHeartbeats 8000000 in
theorem rsize15_ok (B : Nat) (w : World) (r : DT) (n : Nat) (hr : DTIn B w r) (hB : B ≤ w.heap.size) (hs : r.set.n ≤ 1000) :
    Calls Tryz.prog 97 #[.agg r.cells.toArray, .int .i64 (n : Nat)] w fun e w' => e = .returned (.bool (r.isSize n)) ∧ Below w.heap.size w w' := by
  have hb0 := (Below.refl w.heap.size w).alloc (Nat.le_refl _) (.cells r.cells.toArray 46)
  have hx := Bx.new w r.cells.toArray 46
  have c1 := hx.cell 1 (v := .bool r.ext) rfl
  have c2 := hx.cell 2 (v := .slice r.set.a r.set.n r.set.cap) rfl
  have HB := Lib.hid hb0
  have HH := Lib.hid (show ∀ W, Below w.heap.size w W → Calls Tryz.prog 95 #[.slice r.set.a r.set.n r.set.cap, .int .i64 (n : Nat)] W fun e w' => e = .returned (.bool (hasB r.set.l (n : Nat))) ∧ w' = W from fun W hW =>
    rHas_ok W r.set.v r.set.l (n : Nat) (((hr.2.1.below (Below.refl _ _) hB).below hW (Nat.le_refl _)).rsl) (by rw [RS.len]; omega))
  have HL := Lib.hid (show r.isSize n = (decide (n ≤ 1048576) && (r.ext || hasB r.set.l (n : Nat))) from rfl)
  generalize r.isSize n = res at *
  generalize hasB r.set.l (n : Nat) = hb at *
  generalize r.ext = ex at *
  clear hx hb0 hr hB hs
  by_cases hn : n ≤ 1048576
  · have q1 : decide ((n : Int) ≤ (1048576 : Int)) = true := decide_eq_true (by omega)
    have q1n : decide (n ≤ 1048576) = true := decide_eq_true hn
    have HN := Lib.hid (show res = (ex || hb) from by rw [HL.out, q1n]; rfl)
    clear HL
    go_enter Tryz.func97, Tryz.ntmps97
    cases ex with
    | true =>
      go_wp2_with fail
      go_ret
      exact ⟨by rw [HN.out]; rfl, HB.out⟩
    | false =>
      go_wp2_with fail
      refine (HH.out _ HB.out).mono ?_
      rintro e w2 ⟨rfl, rfl⟩
      cases hb with
      | true =>
        go_wp2_with fail
        go_ret
        exact ⟨by rw [HN.out]; rfl, HB.out⟩
      | false =>
        go_wp2_with fail
        go_ret
        exact ⟨by rw [HN.out]; rfl, HB.out⟩
  · have q1 : decide ((n : Int) ≤ (1048576 : Int)) = false := decide_eq_false (by omega)
    have q1n : decide (n ≤ 1048576) = false := decide_eq_false hn
    have HN := Lib.hid (show res = false from by rw [HL.out, q1n]; rfl)
    clear HL
    go_enter Tryz.func97, Tryz.ntmps97
    go_wp2_with fail
    go_ret
    exact ⟨by rw [HN.out]; rfl, HB.out⟩
end Go.Proofs.YtjhecpkdpomkmaaGreat
