/-
  Proved: the statement StringsBitsOctets (octets, as a row of their bits, of a fixed size, are written alike, not aligned), for every input; no further condition.
-/
import Derived.Test.YtbbbgoigacledaaRows
import Derived.Test.YtbbbgoigacledaaStLaw
import Derived.ProofKit
import Derived.OpenShut
import Derived.ShutString
import Derived.ChangeOld
namespace Go.Proofs.Ytbbbgoigacledaa.stringsBitsOctets
open Go.ChangeShapes Go.WideShapes Go.ChangeAt Go.RowKit
open Go.ChangeMaps (open_string shut_string)
set_option linter.unusedVariables false
set_option linter.unusedSimpArgs false
set_option maxRecDepth 100000

theorem own : ownKnob Try.prog.godebug = none := by kernel_rfl
theorem laidOut : laidOutB Try.prog = true := by kernel_rfl

/-- the characters of bits -/
def chs (B : List Bool) : List Nat := B.map bch
theorem chs_length (B : List Bool) : (chs B).length = B.length := List.length_map ..
theorem chs_lt (B : List Bool) : ∀ x ∈ chs B, x < 256 := by
  intro x hx
  obtain ⟨b, _, rfl⟩ := List.mem_map.1 hx
  cases b <;> decide
theorem chs_isBit (B : List Bool) : isBit (chs B) = true := by
  unfold isBit
  rw [List.all_eq_true]
  intro x hx
  obtain ⟨b, _, rfl⟩ := List.mem_map.1 hx
  cases b <;> rfl
theorem chs_bits (B : List Bool) : ubits 1 (bitN (chs B)) = B := by
  induction B with
  | nil => rfl
  | cons b B ih =>
    have : ubits 1 (bitN (chs (b :: B))) = nb (bch b - 48) 1 ++ ubits 1 (bitN (chs B)) := by simp [ubits, bitN, chs]
    rw [this, ih]
    cases b <;> rfl
theorem stP_false (tx : Bool) (k n : Nat) (B : List Bool) (lo hi : Int) (h : lo = hi ∧ hi ≤ 65535) : stP false tx k B n lo hi = B := by
  rw [stP_fix h]
  unfold algn
  rw [if_pos (fixd_yes h)]
  rfl
theorem sE_fix (n : Nat) (h : n ≤ 65535) : sE n n n = 0 := sE_ok (by unfold lBad; omega) (by omega) (by omega)
theorem wr_no_u8 {w : World} {b : Nat} {B : List Bool} (h : WrAt w b B) : ∀ cs fr, w.heap[b]? ≠ some (.cells cs 5 fr) := by
  intro cs fr e
  obtain ⟨c, hc, _⟩ := h
  rw [hc] at e
  unfold wrObj at e
  injection e with e
  injection e with e1 e2 e3
  exact absurd e2 (by decide)
theorem put_fix (w : World) (b n : Nat) (l : List Nat) (s : Value) (h : WrAt w b []) (hs : Sb w b s l) (hl : l.length = n) (hn : n ≤ 500) :
    Calls Try.prog 12 #[.pointer (some ⟨b, 0, none⟩), .bool false, s, .int .i64 (n : Nat), .int .i64 (n : Nat)] w fun e w' => e = .returned (.int .i64 0) ∧ WrAt w' b (bitsOf l) ∧ Only b w w' := by
  have h1 := sputOctets_ok w b [] false n n s l h hs (by omega) (by omega) (by omega) (by simp)
  subst hl
  rw [sE_fix _ (by omega), stB_ok (sE_fix _ (by omega)), stP_false _ _ _ _ _ _ ⟨rfl, by omega⟩] at h1
  exact h1
theorem put_bits (w : World) (b m : Nat) (B : List Bool) (h : WrAt w b []) (hm : (chs B).length = m) (hn : m ≤ 4000) :
    Calls Try.prog 18 #[.pointer (some ⟨b, 0, none⟩), .bool false, .string (bstr (chs B)), .int .i64 (m : Nat), .int .i64 (m : Nat)] w fun e w' => e = .returned (.int .i64 0) ∧ WrAt w' b B ∧ Only b w w' := by
  have hc := cods_bstr (chs B) (chs_lt B)
  have hsz : (bstr (chs B)).size = m := by rw [← cods_length, hc, hm]
  have h1 := sputBits_ok w b [] false m m (bstr (chs B)) h (by omega) (by omega) (by omega) (by simp)
  rw [hc, chs_isBit, hsz, eE_yes, sE_fix _ (by omega)] at h1
  have hb : eB true false false 1 [] m m (bitN (chs B)) = B := by
    unfold eB
    rw [bitN_length, hm, eE_yes, sE_fix _ (by omega), if_pos rfl, stP_false _ _ _ _ _ _ ⟨rfl, by omega⟩, chs_bits]
    rfl
  rw [hb] at h1
  exact h1
def RelB (w1 : World) (l : List Nat) (v i : Value) (wr : World) : Prop := ∃ j : Nat, j ≤ l.length ∧ i = .int .i64 j ∧ Own w1.heap.size wr v (chs (bitsOf (l.take j))) ∧ Below w1.heap.size w1 wr
def kv : Nat → Value
  | 0 => .int .i64 (-1)
  | t + 1 => .int .i64 (t : Nat)
theorem kv_next (t : Nat) : Value.int .i64 ((t : Int) - 1) = kv t := by
  cases t with
  | zero => rfl
  | succ t =>
    show Value.int .i64 (((t + 1 : Nat) : Int) - 1) = .int .i64 (t : Nat)
    congr 1
    omega
def RelK (w1 : World) (l : List Nat) (j x : Nat) (v k : Value) (wr : World) : Prop := ∃ m : Nat, m ≤ 8 ∧ k = kv m ∧ Own w1.heap.size wr v (chs (bitsOf (l.take j) ++ (nb x 8).take (8 - m))) ∧ Below w1.heap.size w1 wr
theorem and_one (x t : Nat) (hx : x < 256) : bits .and .u8 ((x : Int) / 2 ^ t) 1 = ((x / 2 ^ t % 2 : Nat) : Int) := by
  have e : ((x : Int) / 2 ^ t) = ((x / 2 ^ t : Nat) : Int) := by rw [Int.natCast_ediv, Int.natCast_pow]; rfl
  rw [e, show (1 : Int) = ((1 : Nat) : Int) from rfl, u8_and_nat _ _ (Nat.lt_of_le_of_lt (Nat.div_le_self _ _) hx) (by omega), nat_mask1]
theorem relK_next {w1 w4 : World} {l : List Nat} {j x m : Nat} {v : Value} (hm : m + 1 ≤ 8) (h : w4.ownsRow w1.heap.size 5 1 v ((chs (bitsOf (l.take j) ++ (nb x 8).take (8 - (m + 1)))).length + 1) (u8s (chs (bitsOf (l.take j) ++ (nb x 8).take (8 - (m + 1)))) ++ [.int .u8 (48 + x / 2 ^ m % 2 : Nat)])) (hb : Below w1.heap.size w1 w4) : RelK w1 l j x v (.int .i64 ((m : Int) - 1)) w4 := by
  have e : (nb x 8).take (8 - m) = (nb x 8).take (8 - (m + 1)) ++ [x.testBit m] := by
    rw [show 8 - m = (8 - (m + 1)) + 1 by omega, List.take_succ_eq_append_getElem (by rw [nb_length]; omega)]
    congr 2
    have := nb_getD x 8 (8 - (m + 1)) (by omega)
    rw [List.getD_eq_getElem?_getD, List.getElem?_eq_getElem (by rw [nb_length]; omega)] at this
    rw [show 8 - 1 - (8 - (m + 1)) = m by omega] at this
    simpa using this
  have e2 : bch (x.testBit m) = 48 + x / 2 ^ m % 2 := by
    rw [Nat.testBit_eq_decide_div_mod_eq]
    have : x / 2 ^ m % 2 < 2 := Nat.mod_lt _ (by omega)
    by_cases h : x / 2 ^ m % 2 = 1
    · simp [h, bch]
    · have h0 : x / 2 ^ m % 2 = 0 := by omega
      simp [h0, bch]
  have e3 : chs (bitsOf (l.take j) ++ (nb x 8).take (8 - m)) = chs (bitsOf (l.take j) ++ (nb x 8).take (8 - (m + 1))) ++ [48 + x / 2 ^ m % 2] := by
    rw [e, ← List.append_assoc]
    unfold chs
    rw [List.map_append, List.map_singleton, e2]
  refine ⟨m, by omega, kv_next m, ?_, hb⟩
  rw [e3]
  exact own_snoc h (getD_lt (chs_lt _)) (by have : x / 2 ^ m % 2 < 2 := Nat.mod_lt _ (by omega)
                                            omega)
set_option maxHeartbeats 8000000 in
theorem walk_gen (w : World) (a : Option Addr) (n cap : Nat) (l : List Nat) (hsb : ∀ b, w.heap.size ≤ b → Sb w b (.slice a n cap) l) (hl : l.length = n) (hn : n ≤ 500) :
    Calls Try.prog 9 #[.slice a n cap] w fun e w' => e = .returned (.bool true) ∧ Below w.heap.size w w' := by
  obtain ⟨i0, hi0, hz0, hz1, hz2⟩ := info_parts info_u8
  have q0 : decide ((500 : Int) < (n : Int)) = false := decide_eq_false (by omega)
  have HS := Lib.hid hsb
  have HL := Lib.hid hl
  have hb8 := sb_lt (hsb w.heap.size (Nat.le_refl _))
  have HB80 := Lib.hid hb8
  clear hsb hl hb8
  go_enter Try.func9, Try.ntmps9
  go_wp2_with fail
  refine (stawake _).mono ?_
  rintro e w1 ⟨rfl, hb⟩
  have H1 := Lib.hid hb
  have HS1 := Lib.hid (fun b hb2 => (HS.out b hb2).below hb)
  clear hb HS
  go_wp2_with fail
  go_loopw [4, 5] (fun v i wr => RelB w1 l v i wr) (fun _ i _ => n - (intOf i).toNat)
  case atStart => exact ⟨0, Nat.zero_le _, rfl, Own.nil _ _, Below.refl _ _⟩
  case round =>
    obtain ⟨j, hj, rfl, hown, hbel⟩ := hrel
    rw [HL.out] at hj
    have HO := Lib.hid hown
    have HB := Lib.hid hbel
    clear hown hbel
    by_cases hlt : j < n
    · have q1 : decide ((j : Int) < (n : Int)) = true := decide_eq_true (by omega)
      have HSj := Lib.hid ((HS1.out w1.heap.size H1.out.size).sl)
      obtain ⟨x, hx⟩ : ∃ x, l.getD j 0 = x := ⟨_, rfl⟩
      obtain ⟨g, o, rfl, hd⟩ := sl_ptr HSj.out HL.out (by omega)
      have hx8 := hd.byte j
      rw [hx] at hx8
      have HX := Lib.hid hx
      have HD := Lib.hid hd
      clear hd hx
      have HO0 := Lib.hid (show Own w1.heap.size wr u4 (chs (bitsOf (l.take j) ++ (nb x 8).take (8 - 8))) by simpa using HO.out)
      clear HO
      go_wp2_with fail
      go_loopw [4, 6] (fun v k wr => RelK w1 l j x v k wr) (fun _ k _ => (intOf k + 1).toNat)
      case atStart => exact ⟨8, Nat.le_refl _, rfl, HO0.out, HB.out⟩
      case round =>
        clear HO0 HB
        obtain ⟨m, hm, rfl, hown, hbel⟩ := hrel
        have HO := Lib.hid hown
        have HB := Lib.hid hbel
        clear hown hbel
        cases m with
        | zero =>
          have HF := Lib.hid (show chs (bitsOf (l.take j) ++ (nb x 8).take (8 - 0)) = chs (bitsOf (l.take (j + 1))) by
            rw [bitsOf_take_succ l j (by rw [HL.out]; exact hlt), HX.out]
            congr 2)
          unfold kv
          go_wp2_with fail
          go_roundw
          case rel => exact ⟨j + 1, by rw [HL.out]; exact hlt, by go_num, HF.out ▸ HO.out, HB.out⟩
          case measure => first | (simp [intOf]; done) | (simp [intOf]; omega)
        | succ t =>
          unfold kv
          obtain ⟨y, hy⟩ : ∃ y, x / 2 ^ t % 2 = y := ⟨_, rfl⟩
          have hy2 : y < 2 := by rw [← hy]; exact Nat.mod_lt _ (by omega)
          have hq := and_one x t hx8
          rw [hy] at hq
          obtain ⟨z, hz⟩ : ∃ z, 48 + y = z := ⟨_, rfl⟩
          have q2 : (48 : Int) + (y : Int) = (z : Int) := by omega
          have q3 : (z : Int) % 256 = (z : Int) := by omega
          have q4 : decide ((0 : Int) ≤ (t : Int)) = true := decide_eq_true (by omega)
          have q5 : (t : Int) % 18446744073709551616 = (t : Int) := by omega
          have HZ := Lib.hid (show 48 + x / 2 ^ t % 2 = z by rw [hy, hz])
          have hc := (HD.out.below HB.out).cell j (by rw [HL.out]; exact hlt)
          rw [HX.out] at hc
          have hln : (chs (bitsOf (l.take j) ++ (nb x 8).take (8 - (t + 1)))).length ≤ 8000 := by
            rw [chs_length, List.length_append, bitsOf_length, List.length_take, List.length_take, nb_length]
            omega
          have hsz := HB.out.size
          clear hy hz
          go_wp2_with (at_builtin; refine wpList_append_own _ rfl (.tmp 26) (.tmp 36) 22 rfl w1.heap.size 5 i0 (.int .u8 0) 1 1 Try.underlying22 hi0 hz0 hz1 hz2 rfl (by decide) _ _ _ rfl (HO.out.1.alloc _) ⟨wr.heap.size, 0, none⟩ 1 1 [.int .u8 (z : Nat)] rfl rfl (cell_one_new _ _ _) (by simp [Value.oneCell']) (by unfold maxLen; omega) (by omega) (by simp; omega) ?_; intro v' w4 hown4 hgr4 _; have HO4 := Lib.hid hown4; have HG4 := Lib.hid hgr4; clear hown4 hgr4)
          have h2 := HO.out.1.alloc (.cells #[.int .u8 (z : Nat)] 5)
          have HB4 := Lib.hid ((HB.out.alloc HB.out.size (.cells #[.int .u8 (z : Nat)] 5)).grown HG4.out (by simp; omega) (fun k hk => (h2.lt k hk).1))
          clear h2 HG4 HO HB hc
          rw [← HZ.out] at HO4
          go_roundw
          case rel => exact relK_next (by omega) HO4.out HB4.out
          case measure => first | (simp [intOf]; done) | (simp [intOf]; omega)
    · obtain rfl : j = n := by omega
      have q1 : decide ((j : Int) < (j : Int)) = false := decide_eq_false (by omega)
      have hown : Own w1.heap.size wr u4 (chs (bitsOf l)) := by
        have := HO.out
        rwa [List.take_of_length_le (by rw [HL.out]; exact Nat.le_refl _)] at this
      have hcl : (chs (bitsOf l)).length = 8 * j := by rw [chs_length, bitsOf_length, HL.out]
      have HOW := Lib.hid hown
      have HCL := Lib.hid hcl
      clear HO hown hcl
      have HB2 := Lib.hid (H1.out.trans (HB.out.mono H1.out.size))
      go_wp2_with (refine wpList_box_writer rfl rfl rfl 38 rfl rfl (by kernel_rfl) ?_; intro w2 hw2 hb2 hs2; refine stp ?_)
      have HW2 := Lib.hid hw2
      have HB3 := Lib.hid (HB2.out.trans (hb2.mono HB2.out.size))
      have HOW2 := Lib.hid (HOW.out.below hb2)
      have hgw : w.heap.size ≤ wr.heap.size := HB2.out.size
      have hb12 := HB.out.size
      have HSw := Lib.hid (fun b (hb : w.heap.size ≤ b) => ((HS1.out b hb).below HB.out).below hb2)
      clear hw2 hb2 HOW HB2 HB
      unfold Stp
      go_wp2_with (refine wpList_box_writer rfl rfl rfl 40 rfl rfl (by kernel_rfl) ?_; intro w3 hw3 hb3 hs3; refine stp ?_)
      have HW3 := Lib.hid (HW2.out.below hb3)
      have HX3 := Lib.hid hw3
      have HB4 := Lib.hid (HB3.out.trans (hb3.mono HB3.out.size))
      have HOW3 := Lib.hid (HOW2.out.below hb3)
      have HS3 := Lib.hid (fun b (hb : w.heap.size ≤ b) => (HSw.out b hb).below hb3)
      have hgx : w.heap.size ≤ w2.heap.size := HB3.out.size
      have hne : wr.heap.size ≠ w2.heap.size := by omega
      clear hw3 hb3 HW2 HB3 HOW2 HSw
      unfold Stp
      generalize wr.heap.size = b1 at *
      generalize w2.heap.size = b2 at *
      have HP1 := Lib.hid (put_fix w3 b1 j l (.slice a j cap) HW3.out (HS3.out b1 hgw) HL.out (by omega))
      obtain ⟨ua, m, ucap, rfl, hm⟩ := sl_shape' HOW3.out.sl
      have HP2 := Lib.hid (fun (w4 : World) (h : WrAt w4 b2 []) => put_bits w4 b2 m (bitsOf l) h hm (by rw [HCL.out] at hm; omega))
      have hm8 : m ≤ 4000 := by rw [HCL.out] at hm; omega
      have HBL := Lib.hid (bitsOf_length l)
      have HLe := Lib.hid (show (bitsOf l).length ≤ 100000 by rw [HBL.out, HL.out]; omega)
      generalize bitsOf l = BB at *
      clear hj hlt
      go_wp2_with fail
      refine HP1.out.mono ?_
      rintro e w4 ⟨rfl, h1, h2⟩
      have HW4 := Lib.hid h1
      have HX4 := Lib.hid (HX3.out.keep_wr HW3.out h2 hne.symm)
      have HO4 := Lib.hid (HOW3.out.only h2 (wr_no_u8 HW3.out))
      have HB5 := Lib.hid (HB4.out.trans (h2.below hgw HB4.out.size))
      have cs := fun (m' : Nat) (h : m' = m) => conv_sl w4 (.slice ua m ucap) _ HO4.out.sl
      have cs1 := cs m rfl
      clear h1 h2 HW3 HX3 HOW3 HB4 HP1 cs
      go_wp2_with fail
      refine (HP2.out w4 HX4.out).mono ?_
      rintro e w5 ⟨rfl, h1, h2⟩
      have HX5 := Lib.hid h1
      have HW5 := Lib.hid (HW4.out.keep_wr HX4.out h2 hne)
      have HB6 := Lib.hid (HB5.out.trans (h2.below hgx HB5.out.size))
      clear h1 h2 HW4 HX4 HO4 HB5 HP2 cs1
      go_wp2_with fail
      refine (len_ok w5 b1 BB HW5.out).mono ?_
      rintro e w6 ⟨rfl, rfl⟩
      go_wp2_with fail
      refine (len_ok w5 b2 BB HX5.out).mono ?_
      rintro e w6 ⟨rfl, rfl⟩
      go_wp2_with fail
      refine (wbytes_any w5 b1 BB HW5.out (by have := HLe.out; omega)).mono ?_
      rintro e w6 ⟨rfl, hr, hb⟩
      have HS6 := Lib.hid (sl_of_row hr (wb_lt BB) rfl)
      have HX6 := Lib.hid (HX5.out.below hb)
      have HB7 := Lib.hid (HB6.out.trans (hb.mono HB6.out.size))
      clear hr hb HW5 HX5 HB6
      go_wp2_with fail
      refine (wbytes_any w6 b2 BB HX6.out (by have := HLe.out; omega)).mono ?_
      rintro e w7 ⟨rfl, hr, hb⟩
      have HS7 := Lib.hid (sl_of_row hr (wb_lt BB) rfl)
      have HS67 := Lib.hid (HS6.out.below hb)
      have HB8 := Lib.hid (HB7.out.trans (hb.mono HB7.out.size))
      clear hr hb HX6 HB7 HS6
      go_wp2_with fail
      refine (stsame_yes w7 _ _ (wb BB) HS67.out HS7.out).mono ?_
      rintro e w8 ⟨rfl, rfl⟩
      go_wp2_with fail
      go_ret
      exact ⟨rfl, HB8.out⟩
theorem walk (w : World) (a : Option Addr) (len cap : Nat) (z : List Int) (hz : IsRow .u8 w a len cap z) :
    Calls Try.prog 9 #[.slice a len cap] w fun e w' => e = .returned (.bool true) ∧ Below w.heap.size w w' := by
  obtain ⟨l, h1, h2⟩ := sb_of_isRow hz
  by_cases hn : len ≤ 500
  · exact walk_gen w a len cap l h1 h2 hn
  · have q0 : decide ((500 : Int) < (len : Int)) = true := decide_eq_true (by omega)
    clear h1 h2 hz hn
    go_enter Try.func9, Try.ntmps9
    go_wp2_with fail
    refine (stawake _).mono ?_
    rintro e w1 ⟨rfl, hb⟩
    have H1 := Lib.hid hb
    clear hb
    go_wp2_with fail
    go_ret
    exact ⟨rfl, H1.out⟩

set_option maxRecDepth 100000 in
theorem lifted (os : Os) (started : os.Started) (H : Type) (enc : TypeId × Value → H) :
    ReturnsInHanded {} Try.checked os 9 .any (Rows.stringsBitsOctetsSpec.pre6 enc Try.prog Try.f9 Rows.stringsBitsOctetsRow.domain false) (Rows.stringsBitsOctetsSpec.post enc Try.prog Try.f9 false true false false) := by
  refine returnsInHanded_of_change (C := Try.checked) own started (by kernel_rfl) Try.func9
    (ChangeSpec.witness6 (enc := enc) (C := Try.checked) false ⟨#[], #[.slice none 0 0], []⟩ 8 (by kernel_rfl) (by kernel_rfl) (by kernel_rfl) (by kernel_rfl)) ?_
  intro W base args ds gs before hval0 hW hcnd _
  have hval : ∀ (j : Nat) t v, Try.f9.params[j]? = some t → args[j]? = some v → Value.okWide Try.prog W .any base t v := hval0
  have hW' := hW
  obtain ⟨p, q, hA0, hV, rfl, hfz, hnd⟩ := hW
  have hA : DataW.TrodAll enc Try.prog W 0 (fun _ => true) true Try.f9.params.toList args.toList ds p := hA0
  rw [Try.params9] at hA hval
  obtain ⟨v0, vs0, d0, ds0, p0, q0, hargs, rfl, rfl, h0, r0⟩ := trodAll_cons hA
  obtain ⟨rfl, rfl, rfl⟩ := trodAll_nil r0
  obtain rfl : args = #[v0] := by cases args; simp_all
  obtain ⟨rfl, rfl⟩ := trodVars_none hV
  obtain ⟨a0, len0, cap0, rfl⟩ := okWide_slice Try.underlying22 (hval 0 22 v0 rfl rfl)
  have k0 := h0
  have lt0 : ∀ x ∈ p0, x.block < W.heap.size := by obtain ⟨m, hm⟩ := k0; exact DataW.trod_lt m _ _ _ hm
  obtain ⟨z0, w0⟩ : ∃ zs, IsRow .u8 W a0 len0 cap0 zs := by
    obtain ⟨fuel, hf⟩ := h0
    rcases open_ints Try.underlying22 Try.underlying5 (by kernel_rfl) hf with ⟨hcs, _⟩ | ⟨x, l, c, zs, hcs, _, hl, hm, hz, _, hcell, hwz⟩
    · simp [Value.cells] at hcs
      obtain ⟨rfl, rfl, rfl⟩ := hcs
      exact ⟨[], .inl ⟨rfl, rfl, rfl, rfl⟩⟩
    · simp [Value.cells] at hcs
      obtain ⟨rfl, rfl, rfl⟩ := hcs
      exact ⟨zs, .inr ⟨_, rfl, hl, hm, by simpa using hz, hcell, hwz⟩⟩
  clear hA0 hval0
  refine (walk W a0 len0 cap0 z0 w0).mono fun e W' ⟨he, bel⟩ => ?_
  subst he
  exact ⟨_, rfl, _, _, _, [], _, [], hW', trodAll_mk1 (shut_bool Try.underlying4 _), (trodAll_cons_mk (Below.trod laidOut (by kernel_rfl) (of_decide_eq_true (by kernel_rfl)) k0 bel lt0) trodAll_mk0), rfl, bel.frame _, fun h => by cases h⟩

theorem over : Rows.stringsBitsOctetsRow.holds Try.pinned (OpenSpec.ofChange Rows.stringsBitsOctetsSpec) :=
  OpenClaim.holds_of_wide 9 Try.f9 rfl rfl rfl rfl rfl rfl rfl ⟨rfl, rfl, rfl, rfl, rfl⟩ rfl rfl rfl rfl rfl (by kernel_rfl) Try.func9 (by kernel_rfl)
    (of_decide_eq_true (by kernel_rfl)) (by unfold Func.isWrapper; first | (rw [if_pos (by decide +kernel)]; kernel_rfl) | (rw [if_neg (by decide +kernel)]; exact ⟨rfl, rfl⟩))
    (fun os started H enc _ => lifted os started H enc)

theorem proved : Rows.StringsBitsOctetsSaid := over
end Go.Proofs.Ytbbbgoigacledaa.stringsBitsOctets
