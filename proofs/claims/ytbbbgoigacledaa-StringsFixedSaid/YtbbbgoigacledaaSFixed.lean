/-
  Proved: the statement StringsFixed (a row of a fixed size takes, not aligned, just its units' bits; of another size it is refused, and nothing is written), for every input; no further condition.
-/
import Derived.Test.YtbbbgoigacledaaRows
import Derived.Test.YtbbbgoigacledaaStLaw
import Derived.Test.YtbbbgoigacledaaStRefW
import Derived.ProofKit
import Derived.OpenShut
import Derived.ShutString
import Derived.ChangeOld
namespace Go.Proofs.Ytbbbgoigacledaa.stringsFixed
open Go.ChangeShapes Go.WideShapes Go.ChangeAt Go.RowKit
open Go.ChangeMaps (open_string shut_string)
set_option linter.unusedVariables false
set_option linter.unusedSimpArgs false
set_option maxRecDepth 100000

theorem own : ownKnob Try.prog.godebug = none := by kernel_rfl
theorem laidOut : laidOutB Try.prog = true := by kernel_rfl

theorem stP_false (tx : Bool) (k n : Nat) (B : List Bool) (lo hi : Int) (h : lo = hi ∧ hi ≤ 65535) : stP false tx k B n lo hi = B := by
  rw [stP_fix h]
  unfold algn
  rw [if_pos (fixd_yes h)]
  rfl
theorem sE_fix (n : Nat) (h : n ≤ 65535) : sE n n n = 0 := sE_ok (by unfold lBad; omega) (by omega) (by omega)
theorem wr_no_u8 {w : World} {b : Nat} {B : List Bool} (h : WrAt w b B) : ∀ cs fr, w.heap[b]? ≠ some (.cells cs 5 fr) := by
  intro cs fr e
  obtain ⟨c, hc, _⟩ := h
  rw [hc] at e
  unfold wrObj at e
  injection e with e
  injection e with e1 e2 e3
  exact absurd e2 (by decide)
theorem put_fix (w : World) (b n : Nat) (l : List Nat) (s : Value) (h : WrAt w b []) (hs : Sb w b s l) (hl : l.length = n) (hn : n ≤ 1000) :
    Calls Try.prog 12 #[.pointer (some ⟨b, 0, none⟩), .bool false, s, .int .i64 (n : Nat), .int .i64 (n : Nat)] w fun e w' => e = .returned (.int .i64 0) ∧ WrAt w' b (bitsOf l) ∧ Only b w w' := by
  have h1 := sputOctets_ok w b [] false n n s l h hs (by omega) (by omega) (by omega) (by simp)
  subst hl
  rw [sE_fix _ (by omega), stB_ok (sE_fix _ (by omega)), stP_false _ _ _ _ _ _ ⟨rfl, by omega⟩] at h1
  exact h1
theorem and255 (n : Int) : bits .and .i64 n 255 = n % 256 := by
  have h7 : (BitVec.ofInt 64 255).toNat = 2 ^ 8 - 1 := by decide
  have key : (BitVec.ofInt 64 n &&& BitVec.ofInt 64 255).toNat = (n % ((2 ^ 64 : Nat) : Int)).toNat % 2 ^ 8 := by
    rw [BitVec.toNat_and, BitVec.toNat_ofInt, h7, Nat.and_two_pow_sub_one_eq_mod]
  show IntKind.i64.wrap ((BitVec.ofInt 64 n &&& BitVec.ofInt 64 255).toNat : Nat) = n % 256
  rw [key, IntKind.wrap_i64]
  omega
theorem put_other (w : World) (b n : Nat) (lo : Int) (l : List Nat) (s : Value) (h : WrAt w b []) (hs : Sb w b s l) (hl : l.length = n) (hn : n ≤ 1000) (h1 : (n : Int) < lo) (h2 : lo ≤ 2000) :
    Calls Try.prog 12 #[.pointer (some ⟨b, 0, none⟩), .bool false, s, .int .i64 lo, .int .i64 lo] w fun e w' => e = .returned (.int .i64 4) ∧ WrAt w' b [] ∧ Only b w w' := by
  have h3 := sputOctets_ok w b [] false lo lo s l h hs (by omega) (by omega) (by omega) (by simp)
  subst hl
  have he : sE l.length lo lo = 4 := sE_con (by unfold lBad; omega) (by omega)
  rw [he, stB_bad (by rw [he]; decide)] at h3
  exact h3
set_option maxHeartbeats 16000000 in
theorem walk_gen (w : World) (a : Option Addr) (n cap : Nat) (l : List Nat) (hsb : ∀ b, w.heap.size ≤ b → Sb w b (.slice a n cap) l) (hl : l.length = n) (hn : n ≤ 1000) (s fr : ByteArray) (hss : s.size ≤ 1000) (hfr : fr.size ≤ 300) (num : Int) :
    Calls Try.prog 8 #[.slice a n cap, .string s, .string fr, .int .i64 num] w fun e w' => e = .returned (.bool true) ∧ Below w.heap.size w w' := by
  obtain ⟨nn, hnn⟩ : ∃ nn : Nat, (nn : Int) = num % 256 := ⟨(num % 256).toNat, by omega⟩
  have hn5 : nn ≤ 255 := by omega
  have ha := and255 num
  rw [← hnn] at ha
  have q1 : decide ((1000 : Int) < (n : Int)) = false := decide_eq_false (by omega)
  have q2 : decide ((1000 : Int) < (s.size : Int)) = false := decide_eq_false (by omega)
  have q3 : decide ((300 : Int) < (fr.size : Int)) = false := decide_eq_false (by omega)
  have HS := Lib.hid hsb
  have HL := Lib.hid hl
  have hcl := cods_length s
  have hk8 := wdT_le (cods fr) false
  have HP2 := Lib.hid (fun w b h => sputText_ok w b [] false (s.size : Int) (s.size : Int) s fr h (by omega) (by omega) (by omega) (by omega) (by simp))
  have HW := Lib.hid (fun w => rwidth6_ok fr false w (by omega))
  have HT0 := Lib.hid (fun (h : tE (cods fr) false (cods s) (s.size : Int) (s.size : Int) = 0) => (show (tB (cods fr) false (cods s) [] (s.size : Int) (s.size : Int)).length = s.size * wdT (cods fr) false by
    unfold tB
    rw [if_pos h, hcl, stP_false _ _ _ _ _ _ ⟨rfl, by omega⟩, List.nil_append, ubits_length, numN_length, hcl]))
  have HT1 := Lib.hid (fun (h : tE (cods fr) false (cods s) (s.size : Int) (s.size : Int) ≠ 0) => tB_bad (B := []) h)
  generalize tE (cods fr) false (cods s) (s.size : Int) (s.size : Int) = er at *
  generalize tB (cods fr) false (cods s) [] (s.size : Int) (s.size : Int) = T at *
  generalize wdT (cods fr) false = k at *
  have hprod : s.size * k ≤ 8000 := Nat.le_trans (Nat.mul_le_mul_left _ hk8) (by omega)
  obtain ⟨N, hN⟩ : ∃ N, s.size * k = N := ⟨_, rfl⟩
  have hN2 : (s.size : Int) * (k : Int) = (N : Int) := by rw [← hN, Int.natCast_mul]
  rw [hN] at HT0 hprod
  clear hN hsb hl hcl hnn
  have HBL := Lib.hid (bitsOf_length l)
  go_enter Try.func8, Try.ntmps8
  go_wp2_with fail
  refine (stawake _).mono ?_
  rintro e w1 ⟨rfl, hb⟩
  have H1 := Lib.hid hb
  clear hb
  go_wp2_with (refine wpList_box_writer rfl rfl rfl 32 rfl rfl (by kernel_rfl) ?_; intro w2 hw2 hb2 hs2; refine stp ?_)
  have HW2 := Lib.hid hw2
  have H2 := Lib.hid (H1.out.trans (hb2.mono H1.out.size))
  have hg1 : w.heap.size ≤ w1.heap.size := H1.out.size
  clear hw2 hb2 H1
  unfold Stp
  go_wp2_with (refine wpList_box_writer rfl rfl rfl 34 rfl rfl (by kernel_rfl) ?_; intro w3 hw3 hb3 hs3; refine stp ?_)
  have HX3 := Lib.hid hw3
  have HW3 := Lib.hid (HW2.out.below hb3)
  have H3 := Lib.hid (H2.out.trans (hb3.mono H2.out.size))
  have hg2 : w.heap.size ≤ w2.heap.size := H2.out.size
  clear hw3 hb3 H2 HW2
  unfold Stp
  generalize w1.heap.size = b1 at *
  generalize w2.heap.size = b2 at *
  have hne : b1 ≠ b2 := by omega
  go_wp2_with fail
  refine (put_fix w3 b1 n l _ HW3.out ((HS.out b1 hg1).below H3.out) HL.out hn).mono ?_
  rintro e w4 ⟨rfl, h1, h2⟩
  have HW4 := Lib.hid h1
  have HX4 := Lib.hid (HX3.out.keep_wr HW3.out h2 hne.symm)
  have H4 := Lib.hid (H3.out.trans (h2.below hg1 H3.out.size))
  clear h1 h2 HW3 HX3 H3
  go_wp2_with fail
  refine (HP2.out w4 b2 HX4.out).mono ?_
  rintro e w5 ⟨rfl, h1, h2⟩
  have HX5 := Lib.hid h1
  have HW5 := Lib.hid (HW4.out.keep_wr HX4.out h2 hne)
  have H5 := Lib.hid (H4.out.trans (h2.below hg2 H4.out.size))
  clear h1 h2 HW4 HX4 H4 HP2
  go_wp2_with (refine wpList_box_writer rfl rfl rfl 54 rfl rfl (by kernel_rfl) ?_; intro w6 hw6 hb6 hs6; refine stp ?_)
  have HY6 := Lib.hid hw6
  have HW6 := Lib.hid (HW5.out.below hb6)
  have HX6 := Lib.hid (HX5.out.below hb6)
  have H6 := Lib.hid (H5.out.trans (hb6.mono H5.out.size))
  have hg3 : w.heap.size ≤ w5.heap.size := H5.out.size
  have hne1 : b1 ≠ w5.heap.size := by have := HW5.out.lt; omega
  have hne2 : b2 ≠ w5.heap.size := by have := HX5.out.lt; omega
  clear hw6 hb6 H5 HW5 HX5
  unfold Stp
  generalize w5.heap.size = b3 at *
  have q5 : (n : Int) + (1 + (nn : Int)) ≤ 2000 := by omega
  have HP3 := Lib.hid (put_other w6 b3 n ((n : Int) + (1 + (nn : Int))) l (.slice a n cap) HY6.out ((HS.out b3 hg3).below H6.out) HL.out hn (by omega) (by omega))
  have hM : (8 : Int) * (n : Int) = ((bitsOf l).length : Int) := by rw [HBL.out, HL.out]; omega
  have HLn := Lib.hid (fun (w : World) (h : WrAt w b1 (bitsOf l)) => len_ok w b1 (bitsOf l) h)
  obtain ⟨M, hM2⟩ : ∃ M, (bitsOf l).length = M := ⟨_, rfl⟩
  rw [hM2] at hM HLn
  have hMl : M ≤ 8000 := by omega
  clear hM2
  generalize bitsOf l = BB at *
  go_wp2_with fail
  refine HP3.out.mono ?_
  rintro e w7 ⟨rfl, h1, h2⟩
  have HY7 := Lib.hid h1
  have HX7 := Lib.hid (HX6.out.keep_wr HY6.out h2 hne2)
  have HW7 := Lib.hid (HW6.out.keep_wr HY6.out h2 hne1)
  have H7 := Lib.hid (H6.out.trans (h2.below hg3 H6.out.size))
  clear h1 h2 HW6 HX6 HY6 H6 HP3 q5
  by_cases he : er = 0
  · subst he
    have hTl := HT0.out rfl
    have HLx := len_ok w7 b2 T HX7.out
    rw [hTl] at HLx
    have HLX := Lib.hid HLx
    clear hTl HLx HT0 HT1
    go_wp2_with fail
    refine (HLn.out w7 HW7.out).mono ?_
    rintro e w8 ⟨rfl, rfl⟩
    go_wp2_with fail
    refine HLX.out.mono ?_
    rintro e w8 ⟨rfl, rfl⟩
    go_wp2_with fail
    refine (HW.out w7).mono ?_
    rintro e w8 ⟨rfl, hb⟩
    have HY8 := Lib.hid (HY7.out.below hb)
    have H8 := Lib.hid (H7.out.trans (hb.mono H7.out.size))
    clear hb H7 HY7
    go_wp2_with fail
    refine (len_ok w8 b3 [] HY8.out).mono ?_
    rintro e w9 ⟨rfl, rfl⟩
    go_wp2_with fail
    go_ret
    exact ⟨rfl, H8.out⟩
  · have hT1 := HT1.out he
    obtain ⟨n1, n2⟩ := ne_facts he
    have HLx := len_ok w7 b2 T HX7.out
    rw [hT1] at HLx
    have HLX := Lib.hid HLx
    clear hT1 HLx HT0 HT1 he
    go_wp2_with fail
    refine HLX.out.mono ?_
    rintro e w8 ⟨rfl, rfl⟩
    go_wp2_with fail
    refine (HLn.out w7 HW7.out).mono ?_
    rintro e w8 ⟨rfl, rfl⟩
    go_wp2_with fail
    refine (len_ok w7 b3 [] HY7.out).mono ?_
    rintro e w8 ⟨rfl, rfl⟩
    go_wp2_with fail
    go_ret
    exact ⟨rfl, H7.out⟩
theorem walk_big (w : World) (a : Option Addr) (n cap : Nat) (s fr : ByteArray) (num : Int) (h : 1000 < n ∨ 1000 < s.size ∨ 300 < fr.size) :
    Calls Try.prog 8 #[.slice a n cap, .string s, .string fr, .int .i64 num] w fun e w' => e = .returned (.bool true) ∧ Below w.heap.size w w' := by
  by_cases h1 : 1000 < n
  · have q1 : decide ((1000 : Int) < (n : Int)) = true := decide_eq_true (by omega)
    clear h h1
    go_enter Try.func8, Try.ntmps8
    go_wp2_with fail
    refine (stawake _).mono ?_
    rintro e w1 ⟨rfl, hb⟩
    have H1 := Lib.hid hb
    clear hb
    go_wp2_with fail
    go_ret
    exact ⟨rfl, H1.out⟩
  have q1 : decide ((1000 : Int) < (n : Int)) = false := decide_eq_false (by omega)
  by_cases h2 : 1000 < s.size
  · have q2 : decide ((1000 : Int) < (s.size : Int)) = true := decide_eq_true (by omega)
    clear h h1 h2
    go_enter Try.func8, Try.ntmps8
    go_wp2_with fail
    refine (stawake _).mono ?_
    rintro e w1 ⟨rfl, hb⟩
    have H1 := Lib.hid hb
    clear hb
    go_wp2_with fail
    go_ret
    exact ⟨rfl, H1.out⟩
  · have q2 : decide ((1000 : Int) < (s.size : Int)) = false := decide_eq_false (by omega)
    have q3 : decide ((300 : Int) < (fr.size : Int)) = true := decide_eq_true (by omega)
    clear h h1 h2
    go_enter Try.func8, Try.ntmps8
    go_wp2_with fail
    refine (stawake _).mono ?_
    rintro e w1 ⟨rfl, hb⟩
    have H1 := Lib.hid hb
    clear hb
    go_wp2_with fail
    go_ret
    exact ⟨rfl, H1.out⟩
theorem walk (w : World) (a : Option Addr) (len cap : Nat) (z : List Int) (hz : IsRow .u8 w a len cap z) (s : ByteArray) (w1 : s.size ≤ maxLen) (fr : ByteArray) (w2 : fr.size ≤ maxLen) (num : Int) (w3 : (Lit.int .i64 num).wf = true) :
    Calls Try.prog 8 #[.slice a len cap, .string s, .string fr, .int .i64 num] w fun e w' => e = .returned (.bool true) ∧ Below w.heap.size w w' := by
  by_cases h : 1000 < len ∨ 1000 < s.size ∨ 300 < fr.size
  · exact walk_big w a len cap s fr num h
  · obtain ⟨l, h1, h2⟩ := sb_of_isRow hz
    exact walk_gen w a len cap l h1 h2 (by omega) s fr (by omega) (by omega) num

set_option maxRecDepth 100000 in
theorem lifted (os : Os) (started : os.Started) (H : Type) (enc : TypeId × Value → H) :
    ReturnsInHanded {} Try.checked os 8 .any (Rows.stringsFixedSpec.pre6 enc Try.prog Try.f8 Rows.stringsFixedRow.domain false) (Rows.stringsFixedSpec.post enc Try.prog Try.f8 false true false false) := by
  refine returnsInHanded_of_change (C := Try.checked) own started (by kernel_rfl) Try.func8
    (ChangeSpec.witness6 (enc := enc) (C := Try.checked) false ⟨#[], #[.slice none 0 0, .string ByteArray.empty, .string ByteArray.empty, .int .i64 0], []⟩ 8 (by kernel_rfl) (by kernel_rfl) (by kernel_rfl) (by kernel_rfl)) ?_
  intro W base args ds gs before hval0 hW hcnd _
  have hval : ∀ (j : Nat) t v, Try.f8.params[j]? = some t → args[j]? = some v → Value.okWide Try.prog W .any base t v := hval0
  have hW' := hW
  obtain ⟨p, q, hA0, hV, rfl, hfz, hnd⟩ := hW
  have hA : DataW.TrodAll enc Try.prog W 0 (fun _ => true) true Try.f8.params.toList args.toList ds p := hA0
  rw [Try.params8] at hA hval
  obtain ⟨v0, vs0, d0, ds0, p0, q0, hargs, rfl, rfl, h0, r0⟩ := trodAll_cons hA
  obtain ⟨v1, vs1, d1, ds1, p1, q1, rfl, rfl, rfl, h1, r1⟩ := trodAll_cons r0
  obtain ⟨v2, vs2, d2, ds2, p2, q2, rfl, rfl, rfl, h2, r2⟩ := trodAll_cons r1
  obtain ⟨v3, vs3, d3, ds3, p3, q3, rfl, rfl, rfl, h3, r3⟩ := trodAll_cons r2
  obtain ⟨rfl, rfl, rfl⟩ := trodAll_nil r3
  obtain rfl : args = #[v0, v1, v2, v3] := by cases args; simp_all
  obtain ⟨rfl, rfl⟩ := trodVars_none hV
  obtain ⟨a0, len0, cap0, rfl⟩ := okWide_slice Try.underlying22 (hval 0 22 v0 rfl rfl)
  have k0 := h0
  have lt0 : ∀ x ∈ p0, x.block < W.heap.size := by obtain ⟨m, hm⟩ := k0; exact DataW.trod_lt m _ _ _ hm
  obtain ⟨z0, w0⟩ : ∃ zs, IsRow .u8 W a0 len0 cap0 zs := by
    obtain ⟨fuel, hf⟩ := h0
    rcases open_ints Try.underlying22 Try.underlying5 (by kernel_rfl) hf with ⟨hcs, _⟩ | ⟨x, l, c, zs, hcs, _, hl, hm, hz, _, hcell, hwz⟩
    · simp [Value.cells] at hcs
      obtain ⟨rfl, rfl, rfl⟩ := hcs
      exact ⟨[], .inl ⟨rfl, rfl, rfl, rfl⟩⟩
    · simp [Value.cells] at hcs
      obtain ⟨rfl, rfl, rfl⟩ := hcs
      exact ⟨zs, .inr ⟨_, rfl, hl, hm, by simpa using hz, hcell, hwz⟩⟩
  obtain ⟨a1, rfl, rfl, rfl, w1⟩ := open_string Try.underlying9 (hval 1 9 v1 rfl rfl) h1
  obtain ⟨a2, rfl, rfl, rfl, w2⟩ := open_string Try.underlying9 (hval 2 9 v2 rfl rfl) h2
  obtain ⟨a3, rfl, rfl, rfl, w3⟩ := open_int Try.underlying3 (hval 3 3 v3 rfl rfl) h3
  clear hA0 hval0
  refine (walk W a0 len0 cap0 z0 w0 a1 w1 a2 w2 a3 w3).mono fun e W' ⟨he, bel⟩ => ?_
  subst he
  exact ⟨_, rfl, _, _, _, [], _, [], hW', trodAll_mk1 (shut_bool Try.underlying4 _), (trodAll_cons_mk (Below.trod laidOut (by kernel_rfl) (of_decide_eq_true (by kernel_rfl)) k0 bel lt0) (trodAll_cons_mk (shut_string Try.underlying9 w1) (trodAll_cons_mk (shut_string Try.underlying9 w2) (trodAll_cons_mk (shut_int Try.underlying3 w3) trodAll_mk0)))), rfl, bel.frame _, fun h => by cases h⟩

theorem over : Rows.stringsFixedRow.holds Try.pinned (OpenSpec.ofChange Rows.stringsFixedSpec) :=
  OpenClaim.holds_of_wide 8 Try.f8 rfl rfl rfl rfl rfl rfl rfl ⟨rfl, rfl, rfl, rfl, rfl⟩ rfl rfl rfl rfl rfl (by kernel_rfl) Try.func8 (by kernel_rfl)
    (of_decide_eq_true (by kernel_rfl)) (by unfold Func.isWrapper; first | (rw [if_pos (by decide +kernel)]; kernel_rfl) | (rw [if_neg (by decide +kernel)]; exact ⟨rfl, rfl⟩))
    (fun os started H enc _ => lifted os started H enc)

theorem proved : Rows.StringsFixedSaid := over
end Go.Proofs.Ytbbbgoigacledaa.stringsFixed
