/-
  Proved: the statement StringsTextsUpto (what any text over any alphabet, of any bounds, is written as, or why not, and how many bits a character takes, is what the document says), for every input within the statement's bound
-/
import Derived.Test.YtbbbgoigacledaaRows
import Derived.Test.YtbbbgoigacledaaStLaw
import Derived.Test.YtbbbgoigacledaaStRefA
import Derived.ProofKit
import Derived.OpenShut
import Derived.ShutString
import Derived.ChangeOld
import Derived.JoinedCond
namespace Go.Proofs.Ytbbbgoigacledaa.stringsTexts
open Go.ChangeShapes Go.WideShapes Go.ChangeAt Go.RowKit
open Go.ChangeMaps (open_string shut_string)
set_option linter.unusedVariables false
set_option linter.unusedSimpArgs false
set_option maxRecDepth 100000

theorem own : ownKnob Try.prog.godebug = none := by kernel_rfl
theorem laidOut : laidOutB Try.prog = true := by kernel_rfl

/-- what both the program and the document make of a put: an error and the bits -/
structure Both (w0 : World) (al : Bool) (B W : List Bool) (er : Int) (f g : Nat) (args : List Value) : Prop where
  prog : ∀ (w' : World) (b : Nat), Below w0.heap.size w0 w' → w0.heap.size ≤ b → WrAt w' b B → Calls Try.prog f (.pointer (some ⟨b, 0, none⟩) :: .bool al :: args).toArray w' fun e w2 => e = .returned (.int .i64 er) ∧ WrAt w2 b W ∧ Only b w' w2
  ref : ∀ (w' : World), Below w0.heap.size w0 w' → Calls Try.prog g (.string (bchars B) :: .bool al :: args).toArray w' fun e w2 => e = .returned (.tuple #[.string (bchars W), .int .i64 er]) ∧ Below w'.heap.size w' w2
  len : W.length ≤ 100000
theorem tB_le (fl : List Nat) (al : Bool) (l : List Nat) (B : List Bool) (lo hi : Int) (hB : B.length ≤ 100) (hl : l.length ≤ 1000) (b2 : -9223372036854775808 ≤ lo ∧ lo ≤ 9223372036854775807) (b3 : -9223372036854775808 ≤ hi ∧ hi ≤ 9223372036854775807) : (tB fl al l B lo hi).length ≤ 100000 := by
  have h := stP_le al true (wdT fl al) B l.length lo hi (by omega) b2 b3
  have h8 : l.length * wdT fl al ≤ 8000 := Nat.le_trans (Nat.mul_le_mul_left _ (wdT_le fl al)) (by omega)
  unfold tB
  split
  · rw [List.length_append, ubits_length, numN_length]; omega
  · omega
theorem both (w0 : World) (al : Bool) (B : List Bool) (hB : B.length ≤ 100) (lo hi : Int) (b2 : -9223372036854775808 ≤ lo ∧ lo ≤ 9223372036854775807) (b3 : -9223372036854775808 ≤ hi ∧ hi ≤ 9223372036854775807) (s fr : ByteArray) (hl : s.size ≤ 1000) (hf : fr.size ≤ 300) :
    ∃ W er, Both w0 al B W er 20 21 [.string s, .string fr, .int .i64 lo, .int .i64 hi] := by
  have hle := tB_le (cods fr) al (cods s) B lo hi hB (by rw [cods_length]; exact hl) b2 b3
  exact ⟨_, _, fun w' b _ _ hw => sputText_ok w' b B al lo hi s fr hw (by omega) (by omega) b2 b3 (by omega), fun w' _ => rputText_ok w' B al s fr lo hi (by omega) (by omega) (by omega) b2 b3, hle⟩
theorem walk_mid (w : World) (k : Int) (al : Bool) (lo hi : Int) (s fr : ByteArray) (h1 : 1000 < s.size) (h2 : s.size ≤ 1048576) :
    Calls Try.prog 5 #[.int .i64 k, .bool al, .string s, .string fr, .int .i64 lo, .int .i64 hi] w fun e w' => e = .returned (.bool true) ∧ Below w.heap.size w w' := by
  have q1 : decide ((1000 : Int) < (s.size : Int)) = true := decide_eq_true (by omega)
  have q2 : decide ((s.size : Int) ≤ 1048576) = true := decide_eq_true (by omega)
  clear h1 h2
  go_enter Try.func5, Try.ntmps5
  go_wp2_with fail
  refine (stawake _).mono ?_
  rintro e wa ⟨rfl, hb⟩
  have HB := Lib.hid hb
  clear hb
  go_wp2_with fail
  go_ret
  exact ⟨rfl, HB.out⟩
theorem walk_far (w : World) (k : Int) (al : Bool) (lo hi : Int) (s fr : ByteArray) (h1 : s.size ≤ 1000) (h2 : 300 < fr.size) :
    Calls Try.prog 5 #[.int .i64 k, .bool al, .string s, .string fr, .int .i64 lo, .int .i64 hi] w fun e w' => e = .returned (.bool true) ∧ Below w.heap.size w w' := by
  have q1 : decide ((1000 : Int) < (s.size : Int)) = false := decide_eq_false (by omega)
  have q2 : decide ((300 : Int) < (fr.size : Int)) = true := decide_eq_true (by omega)
  clear h1 h2
  go_enter Try.func5, Try.ntmps5
  go_wp2_with fail
  refine (stawake _).mono ?_
  rintro e wa ⟨rfl, hb⟩
  have HB := Lib.hid hb
  clear hb
  go_wp2_with fail
  go_ret
  exact ⟨rfl, HB.out⟩
set_option maxHeartbeats 4000000 in
theorem walk_main (w : World) (k : Int) (al : Bool) (lo hi : Int) (b2 : -9223372036854775808 ≤ lo ∧ lo ≤ 9223372036854775807) (b3 : -9223372036854775808 ≤ hi ∧ hi ≤ 9223372036854775807) (s fr : ByteArray) (hl : s.size ≤ 1000) (hf : fr.size ≤ 300) :
    Calls Try.prog 5 #[.int .i64 k, .bool al, .string s, .string fr, .int .i64 lo, .int .i64 hi] w fun e w' => e = .returned (.bool true) ∧ Below w.heap.size w w' := by
  obtain ⟨m, hm⟩ : ∃ m : Nat, (m : Int) = k % 8 := ⟨(k % 8).toNat, by omega⟩
  have hm7 : m ≤ 7 := by omega
  obtain ⟨B, hB⟩ : ∃ B, List.replicate m true = B := ⟨_, rfl⟩
  have hBl : B.length ≤ 100 := by rw [← hB, List.length_replicate]; omega
  obtain ⟨W1, e1, hw1⟩ := both w al B hBl lo hi b2 b3 s fr hl hf
  have HB1 := Lib.hid hw1
  have HAH : Go.RowKit.Hid (∀ w' : World, Below w.heap.size w w' → Calls Try.prog 11 #[.int .i64 k] w' fun e w2 => ∃ b : Nat, e = .returned (.tuple #[.pointer (some ⟨b, 0, none⟩), .string (bchars B)]) ∧ w.heap.size ≤ b ∧ WrAt w2 b B ∧ Below w.heap.size w w2) := fun w' hb => by
    refine (stahead_ok k w').mono ?_
    rintro e w2 ⟨b, m', _, hm', rfl, hbw, hw, hb2⟩
    obtain rfl : m' = m := by omega
    rw [hB] at hw ⊢
    exact ⟨b, rfl, by have := hb.size; omega, hw, hb.trans (hb2.mono hb.size)⟩
  have q1 : decide ((1000 : Int) < (s.size : Int)) = false := decide_eq_false (by omega)
  have q2 : decide ((300 : Int) < (fr.size : Int)) = false := decide_eq_false (by omega)
  have HWA := Lib.hid (fun w => swidth_ok fr al w (by omega))
  have HWB := Lib.hid (fun w => rwidth6_ok fr al w (by omega))
  generalize wdT (cods fr) al = kk at HWA HWB
  clear hw1 hl hf b2 b3 hm hm7 hB hBl
  go_enter Try.func5, Try.ntmps5
  go_wp2_with fail
  refine (stawake _).mono ?_
  rintro e w1 ⟨rfl, hb⟩
  have HB := Lib.hid hb
  clear hb
  go_wp2_with fail
  refine (HAH.out _ HB.out).mono ?_
  rintro e w2 ⟨b, rfl, hbw, hw, hb⟩
  have HBa := Lib.hid hb
  have HWa := Lib.hid hw
  clear hb hw HB
  go_wp2_with fail
  have HP := Lib.hid (HB1.out.prog w2 b HBa.out hbw HWa.out)
  refine HP.out.mono ?_
  rintro e w4 ⟨rfl, h1, h2⟩
  have HWb := Lib.hid h1
  have HBb := Lib.hid (HBa.out.trans (h2.below hbw HBa.out.size))
  clear h1 h2 HP HBa HWa
  go_wp2_with fail
  refine (HB1.out.ref w4 HBb.out).mono ?_
  rintro e w5 ⟨rfl, h1⟩
  have HWc := Lib.hid (HWb.out.below h1)
  have HBc := Lib.hid (HBb.out.trans (h1.mono HBb.out.size))
  have hln := HB1.out.len
  clear h1 HWb HBb
  have hs1 : ((W1.length : Int) == ((bchars W1).size : Int)) = true := by rw [bchars_size]; simp
  have hs2 : ((W1.length : Int) != ((bchars W1).size : Int)) = false := by rw [bchars_size]; simp
  go_wp2_with fail
  refine (len_ok w5 b W1 HWc.out).mono ?_
  rintro e w6 ⟨rfl, rfl⟩
  go_wp2_with fail
  refine (wbytes_any w5 b W1 HWc.out (by omega)).mono ?_
  rintro e w6 ⟨rfl, hr, hb⟩
  have HS1 := Lib.hid (sl_of_row hr (wb_lt W1) rfl)
  have HBd := Lib.hid (HBc.out.trans (hb.mono HBc.out.size))
  clear hr hb HWc HBc
  go_wp2_with fail
  refine (rbytes_any w6 W1 (by omega)).mono ?_
  rintro e w7 ⟨v, rfl, hs, hb⟩
  have HS2 := Lib.hid hs
  have HS3 := Lib.hid (HS1.out.below hb)
  have HB := Lib.hid (HBd.out.trans (hb.mono HBd.out.size))
  clear hs hb HS1 HBd
  go_wp2_with fail
  refine (stsame_yes w7 _ _ _ HS3.out HS2.out).mono ?_
  rintro e w8 ⟨rfl, rfl⟩
  clear HS2 HS3 hs1 hs2 hln HB1 hbw
  go_wp2_with fail
  refine (HWA.out w7).mono ?_
  rintro e w8 ⟨rfl, hb⟩
  have HBx := Lib.hid (HB.out.trans (hb.mono HB.out.size))
  clear hb HB
  go_wp2_with fail
  refine (HWB.out w8).mono ?_
  rintro e w9 ⟨rfl, hb⟩
  have HBy := Lib.hid (HBx.out.trans (hb.mono HBx.out.size))
  clear hb HBx
  go_wp2_with fail
  go_ret
  exact ⟨rfl, HBy.out⟩
theorem walk (w : World) (k : Int) (w0 : (Lit.int .i64 k).wf = true) (al : Bool) (s : ByteArray) (w2 : s.size ≤ maxLen) (kk : s.size ≤ 1048576) (fr : ByteArray) (w3 : fr.size ≤ maxLen) (kf : fr.size ≤ 1048576) (lo : Int) (w4 : (Lit.int .i64 lo).wf = true) (hi : Int) (w5 : (Lit.int .i64 hi).wf = true) :
    Calls Try.prog 5 #[.int .i64 k, .bool al, .string s, .string fr, .int .i64 lo, .int .i64 hi] w fun e w' => e = .returned (.bool true) ∧ Below w.heap.size w w' := by
  by_cases h : 1000 < s.size
  · exact walk_mid w k al lo hi s fr h kk
  by_cases h2 : 300 < fr.size
  · exact walk_far w k al lo hi s fr (by omega) h2
  · exact walk_main w k al lo hi (i64_bounds w4) (i64_bounds w5) s fr (by omega) (by omega)

theorem bulk_one {H : Type} (d : DataW H) : 1 ≤ Rows.uptoBulk d := by
  cases d with
  | lit x => cases x <;> simp [Rows.uptoBulk]
  | _ => simp [Rows.uptoBulk]
theorem bulk_len {H : Type} : ∀ l : List (DataW H), l.length ≤ Rows.uptoBulkAll l
  | [] => Nat.zero_le _
  | x :: r => by
    have h1 := bulk_one x
    have h2 := bulk_len r
    simp only [Rows.uptoBulkAll, List.length_cons]
    omega
theorem bulk_slice {H : Type} (a b : List (DataW H)) : a.length ≤ Rows.uptoBulk (.slice a b) := by
  have h := bulk_len a
  simp only [Rows.uptoBulk]
  omega
set_option maxRecDepth 100000 in
theorem contract (H : Type) (enc : TypeId × Value → H) (W : World) (base : Nat) (args : Array Value) (ds gs : List (DataW H)) (before : List MemPlace)
    (hval0 : ∀ (j : Nat) t v, Try.f5.params[j]? = some t → args[j]? = some v → Value.okWide Try.prog W .any base t v)
    (hW : DataW.Whole enc Try.prog Try.f5.params.toList Rows.stringsTextsSpec.vars false W args.toList ds gs before) (hk : Rows.uptoSmall H (ds ++ gs) = true) :
    Calls Try.prog 5 args W fun e W' => ∃ v, e = .returned v ∧ Rows.stringsTextsSpec.post enc Try.prog Try.f5 false true false false W args v W' := by
  have hval : ∀ (j : Nat) t v, Try.f5.params[j]? = some t → args[j]? = some v → Value.okWide Try.prog W .any base t v := hval0
  have hW' := hW
  obtain ⟨p, q, hA0, hV, rfl, hfz, hnd⟩ := hW
  have hA : DataW.TrodAll enc Try.prog W 0 (fun _ => true) true Try.f5.params.toList args.toList ds p := hA0
  rw [Try.params5] at hA hval
  obtain ⟨v0, vs0, d0, ds0, p0, q0, hargs, rfl, rfl, h0, r0⟩ := trodAll_cons hA
  obtain ⟨v1, vs1, d1, ds1, p1, q1, rfl, rfl, rfl, h1, r1⟩ := trodAll_cons r0
  obtain ⟨v2, vs2, d2, ds2, p2, q2, rfl, rfl, rfl, h2, r2⟩ := trodAll_cons r1
  obtain ⟨v3, vs3, d3, ds3, p3, q3, rfl, rfl, rfl, h3, r3⟩ := trodAll_cons r2
  obtain ⟨v4, vs4, d4, ds4, p4, q4, rfl, rfl, rfl, h4, r4⟩ := trodAll_cons r3
  obtain ⟨v5, vs5, d5, ds5, p5, q5, rfl, rfl, rfl, h5, r5⟩ := trodAll_cons r4
  obtain ⟨rfl, rfl, rfl⟩ := trodAll_nil r5
  obtain rfl : args = #[v0, v1, v2, v3, v4, v5] := by cases args; simp_all
  obtain ⟨rfl, rfl⟩ := trodVars_none hV
  have hb := of_decide_eq_true hk
  simp only [List.append_nil, List.cons_append, List.nil_append, Rows.uptoBulkAll] at hb
  obtain ⟨a0, rfl, rfl, rfl, w0⟩ := open_int Try.underlying3 (hval 0 3 v0 rfl rfl) h0
  obtain ⟨a1, rfl, rfl, rfl⟩ := open_bool Try.underlying4 (hval 1 4 v1 rfl rfl) h1
  obtain ⟨a2, rfl, e2, rfl, w2⟩ := open_string Try.underlying9 (hval 2 9 v2 rfl rfl) h2
  have kk2 : a2.size ≤ 1048576 := by
    have h : Rows.uptoBulk d2 = a2.data.toList.length + 1 := by rw [e2]; simp only [Rows.uptoBulk]
    have h2 : a2.data.toList.length = a2.size := by exact Array.length_toList
    omega
  subst e2
  obtain ⟨a3, rfl, e3, rfl, w3⟩ := open_string Try.underlying9 (hval 3 9 v3 rfl rfl) h3
  have kk3 : a3.size ≤ 1048576 := by
    have h : Rows.uptoBulk d3 = a3.data.toList.length + 1 := by rw [e3]; simp only [Rows.uptoBulk]
    have h2 : a3.data.toList.length = a3.size := by exact Array.length_toList
    omega
  subst e3
  obtain ⟨a4, rfl, rfl, rfl, w4⟩ := open_int Try.underlying3 (hval 4 3 v4 rfl rfl) h4
  obtain ⟨a5, rfl, rfl, rfl, w5⟩ := open_int Try.underlying3 (hval 5 3 v5 rfl rfl) h5
  clear hA0 hval0 hb hk
  refine (walk W a0 w0 a1 a2 w2 kk2 a3 w3 kk3 a4 w4 a5 w5).mono fun e W' ⟨he, bel⟩ => ?_
  subst he
  exact ⟨_, rfl, _, _, _, [], _, [], hW', trodAll_mk1 (shut_bool Try.underlying4 _), (trodAll_cons_mk (shut_int Try.underlying3 w0) (trodAll_cons_mk (shut_bool Try.underlying4 a1) (trodAll_cons_mk (shut_string Try.underlying9 w2) (trodAll_cons_mk (shut_string Try.underlying9 w3) (trodAll_cons_mk (shut_int Try.underlying3 w4) (trodAll_cons_mk (shut_int Try.underlying3 w5) trodAll_mk0)))))), rfl, bel.frame _, fun h => by cases h⟩

set_option maxRecDepth 100000 in
theorem lifted (os : Os) (started : os.Started) (H : Type) (enc : TypeId × Value → H) (F : Stop.Interp) :
    ReturnsInHanded {} Try.checked os 5 .any ((Rows.OpenSpec.upto Rows.stringsTextsSpec).pre6 enc Try.prog Try.f5 Rows.stringsTextsUptoRow.domain false) (((Rows.OpenSpec.upto Rows.stringsTextsSpec).at F).post enc Try.prog Try.f5 false true false false) := by
  refine returnsInHanded_of_cond (C := Try.checked) (s := Rows.OpenSpec.upto Rows.stringsTextsSpec) (k := Rows.uptoSmall) rfl own started (by kernel_rfl) Try.func5
    (OpenSpec.witness (enc := enc) (C := Try.checked) (s := Rows.OpenSpec.upto Rows.stringsTextsSpec) (k := Rows.uptoSmall) rfl false ⟨#[], #[.int .i64 0, .bool false, .string ByteArray.empty, .string ByteArray.empty, .int .i64 0, .int .i64 0], []⟩ 8 (by kernel_rfl) (by kernel_rfl) (by kernel_rfl)
      (x := ([.lit (.int .i64 0), .lit (.bool false), .lit (.string []), .lit (.string []), .lit (.int .i64 0), .lit (.int .i64 0)], [], [])) (by kernel_rfl) rfl (by kernel_rfl)) ?_
  intro W base args ds gs before hval hW _ hk _
  exact contract H enc W base args ds gs before hval hW hk

theorem over : Rows.stringsTextsUptoRow.holds Try.pinned (Rows.OpenSpec.upto Rows.stringsTextsSpec) :=
  OpenClaim.holds_of_cond 5 Try.f5 rfl rfl rfl rfl rfl rfl rfl ⟨rfl, rfl, rfl, rfl, rfl⟩ rfl rfl rfl rfl rfl (by kernel_rfl) Try.func5 (by kernel_rfl)
    (of_decide_eq_true (by kernel_rfl)) (by unfold Func.isWrapper; first | (rw [if_pos (by decide +kernel)]; kernel_rfl) | (rw [if_neg (by decide +kernel)]; exact ⟨rfl, rfl⟩))
    (fun os started H enc _ F => lifted os started H enc F)

theorem proved : Rows.StringsTextsUptoSaid := over
end Go.Proofs.Ytbbbgoigacledaa.stringsTexts
