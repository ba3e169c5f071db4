/-
  Proved: the statement OpenPuts (what any number, with a bound and without, and any octets are written as, or why not, is what the document says), for every input; no further condition.
-/
import Derived.Test.YtinggfelgcdkfaaRows
import Derived.Test.YtinggfelgcdkfaaOpLaw
import Derived.Test.YtinggfelgcdkfaaOpRef
import Derived.ProofKit
import Derived.OpenShut
import Derived.ShutString
import Derived.ChangeOld
namespace Go.Proofs.Ytinggfelgcdkfaa.openPuts
open Go.ChangeShapes Go.WideShapes Go.ChangeAt Go.RowKit
open Go.ChangeMaps (open_string shut_string)
set_option linter.unusedVariables false
set_option linter.unusedSimpArgs false
set_option maxRecDepth 100000

theorem own : ownKnob Try.prog.godebug = none := by kernel_rfl
theorem laidOut : laidOutB Try.prog = true := by kernel_rfl

/-- what both the program and the document make of a put: an error and the bits -/
structure Both (w0 : World) (al : Bool) (B W : List Bool) (er : Int) (f g : Nat) (args : List Value) (res : ByteArray → Int → Value) (lim : Nat) : Prop where
  prog : ∀ (w' : World) (b : Nat), Below w0.heap.size w0 w' → w0.heap.size ≤ b → WrAt w' b B → Calls Try.prog f (.pointer (some ⟨b, 0, none⟩) :: .bool al :: args).toArray w' fun e w2 => e = .returned (.int .i64 er) ∧ WrAt w2 b W ∧ Only b w' w2
  ref : ∀ (w' : World), Below w0.heap.size w0 w' → Calls Try.prog g (.string (bchars B) :: .bool al :: args).toArray w' fun e w2 => e = .returned (res (bchars W) er) ∧ Below w'.heap.size w' w2
  len : W.length ≤ lim
theorem both_semi (w0 : World) (al : Bool) (B : List Bool) (hB : B.length ≤ 100) (n lo : Int) (b1 : -9223372036854775808 ≤ n ∧ n ≤ 9223372036854775807) (b2 : -9223372036854775808 ≤ lo ∧ lo ≤ 9223372036854775807) :
    ∃ W er, Both w0 al B W er 12 13 [.int .i64 n, .int .i64 lo] (fun s e => .tuple #[.string s, .int .i64 e]) 1000 := by
  by_cases h : n < lo
  · refine ⟨B, 4, fun w' b _ _ hw => ?_, fun w' _ => ?_, by omega⟩
    · refine (oput_semi_low w' b al n lo h).mono ?_
      rintro e w2 ⟨rfl, rfl⟩
      exact ⟨rfl, hw, Only.refl _ _⟩
    · refine (rput_semi_low w' (bchars B) al n lo h).mono ?_
      rintro e w2 ⟨rfl, rfl⟩
      exact ⟨rfl, Below.refl _ _⟩
  · have hle := itemB_le al B (low (n - lo).toNat (cnt (n - lo).toNat))
    have hc8 := cnt_le (n - lo).toNat (by omega)
    rw [low_length] at hle
    exact ⟨_, 0, fun w' b _ _ hw => oput_semi w' b B al n lo hw b2.1 (by omega) b1.2 (by omega), fun w' _ => rput_semi w' B al n lo b2.1 (by omega) b1.2 (by omega), by omega⟩
theorem both_any (w0 : World) (al : Bool) (B : List Bool) (hB : B.length ≤ 100) (n : Int) (b1 : -9223372036854775808 ≤ n ∧ n ≤ 9223372036854775807) :
    ∃ W, Both w0 al B W 0 18 19 [.int .i64 n] (fun s _ => .string s) 1000 := by
  have hle := itemB_le al B (low (u64n n) (scnt n))
  have hc8 := scnt_le n (mag_lt n b1.1 b1.2)
  rw [low_length] at hle
  exact ⟨_, fun w' b _ _ hw => oput_any_int w' b B al n hw b1.1 b1.2 (by omega), fun w' _ => rput_any_int w' B al n b1.1 b1.2 (by omega), by omega⟩
theorem both_open (w0 : World) (al : Bool) (B : List Bool) (hB : B.length ≤ 100) (a : Option Addr) (n cap : Nat) (l : List Nat) (hs : ∀ b, w0.heap.size ≤ b → Sb w0 b (.slice a n cap) l) (hl : n ≤ 2000 ∨ 1048576 < n) :
    ∃ W er, Both w0 al B W er 20 21 [.slice a n cap] (fun s e => .tuple #[.string s, .int .i64 e]) 20000 := by
  have hn := (hs _ (Nat.le_refl _)).len
  by_cases h : n ≤ 2000
  · have hle := opB_le al B l
    exact ⟨_, 0, fun w' b hb hbw hw => oput_any w' b B al _ l hw ((hs b hbw).below hb) (by omega) (by omega), fun w' hb => rput_open w' _ B al _ l ((hs _ (Nat.le_refl _)).below hb) (by omega) (by omega), by omega⟩
  · refine ⟨B, 11, fun w' b _ _ hw => ?_, fun w' _ => ?_, by omega⟩
    · refine (oput_large w' b al a n cap (by omega)).mono ?_
      rintro e w2 ⟨rfl, h1⟩
      exact ⟨rfl, hw.below h1, Only.of_below h1⟩
    · refine (rput_open_large w' (bchars B) al a n cap (by omega)).mono ?_
      rintro e w2 ⟨rfl, rfl⟩
      exact ⟨rfl, Below.refl _ _⟩
set_option maxHeartbeats 1000000 in
theorem walk_mid (w : World) (k : Int) (al : Bool) (n lo : Int) (a4 : Option Addr) (len4 cap4 : Nat) (h1 : 2000 < len4) (h2 : len4 ≤ 1048576) :
    Calls Try.prog 3 #[.int .i64 k, .bool al, .int .i64 n, .int .i64 lo, .slice a4 len4 cap4] w fun e w' => e = .returned (.bool true) ∧ Below w.heap.size w w' := by
  have q1 : decide ((2000 : Int) < (len4 : Int)) = true := decide_eq_true (by omega)
  have q2 : decide ((len4 : Int) ≤ 1048576) = true := decide_eq_true (by omega)
  clear h1 h2
  go_enter Try.func3, Try.ntmps3
  go_wp2_with fail
  refine (opawake _).mono ?_
  rintro e wa ⟨rfl, hb⟩
  have HB := Lib.hid hb
  clear hb
  go_wp2_with fail
  go_ret
  exact ⟨rfl, HB.out⟩
set_option maxHeartbeats 16000000 in
theorem walk_main (w : World) (k : Int) (al : Bool) (n lo : Int) (b1 : -9223372036854775808 ≤ n ∧ n ≤ 9223372036854775807) (b2 : -9223372036854775808 ≤ lo ∧ lo ≤ 9223372036854775807) (a4 : Option Addr) (len4 cap4 : Nat) (l : List Nat) (hs : ∀ b, w.heap.size ≤ b → Sb w b (.slice a4 len4 cap4) l) (hl : len4 ≤ 2000 ∨ 1048576 < len4) :
    Calls Try.prog 3 #[.int .i64 k, .bool al, .int .i64 n, .int .i64 lo, .slice a4 len4 cap4] w fun e w' => e = .returned (.bool true) ∧ Below w.heap.size w w' := by
  obtain ⟨m, hm⟩ : ∃ m : Nat, (m : Int) = k % 8 := ⟨(k % 8).toNat, by omega⟩
  have hm7 : m ≤ 7 := by omega
  obtain ⟨B, hB⟩ : ∃ B, List.replicate m true = B := ⟨_, rfl⟩
  have hBl : B.length ≤ 100 := by rw [← hB, List.length_replicate]; omega
  obtain ⟨W1, e1, hw1⟩ := both_semi w al B hBl n lo b1 b2
  obtain ⟨W2, hw2⟩ := both_any w al B hBl n b1
  obtain ⟨W3, e3, hw3⟩ := both_open w al B hBl a4 len4 cap4 l hs hl
  have HB1 := Lib.hid hw1
  have HB2 := Lib.hid hw2
  have HB3 := Lib.hid hw3
  have HAH : Go.RowKit.Hid (∀ w' : World, Below w.heap.size w w' → Calls Try.prog 11 #[.int .i64 k] w' fun e w2 => ∃ b : Nat, e = .returned (.tuple #[.pointer (some ⟨b, 0, none⟩), .string (bchars B)]) ∧ w.heap.size ≤ b ∧ WrAt w2 b B ∧ Below w.heap.size w w2) := fun w' hb => by
    refine (opahead_ok k w').mono ?_
    rintro e w2 ⟨b, m', _, hm', rfl, hbw, hw, hb2⟩
    obtain rfl : m' = m := by omega
    rw [hB] at hw ⊢
    exact ⟨b, rfl, by have := hb.size; omega, hw, hb.trans (hb2.mono hb.size)⟩
  have hq : decide ((2000 : Int) < (len4 : Int)) = false ∨ (decide ((2000 : Int) < (len4 : Int)) = true ∧ decide ((len4 : Int) ≤ 1048576) = false) := by
    by_cases h : len4 ≤ 2000
    · exact .inl (decide_eq_false (by omega))
    · exact .inr ⟨decide_eq_true (by omega), decide_eq_false (by omega)⟩
  clear hw1 hw2 hw3 hs hl b1 b2 hm hm7 hB hBl
  rcases hq with q1 | ⟨q1, q2⟩
  all_goals
    go_enter Try.func3, Try.ntmps3
    go_wp2_with fail
    refine (opawake _).mono ?_
    rintro e w1 ⟨rfl, hb⟩
    have HB := Lib.hid hb
    clear hb
    go_wp2_with fail
    refine (HAH.out _ HB.out).mono ?_
    rintro e w2 ⟨b, rfl, hbw, hw, hb⟩
    have HBa := Lib.hid hb
    have HWa := Lib.hid hw
    clear hb hw HB
    go_wp2_with fail
    have HP := Lib.hid (HB1.out.prog w2 b HBa.out hbw HWa.out)
    refine HP.out.mono ?_
    rintro e w4 ⟨rfl, h1, h2⟩
    have HWb := Lib.hid h1
    have HBb := Lib.hid (HBa.out.trans (h2.below hbw HBa.out.size))
    clear h1 h2 HP HBa HWa
    go_wp2_with fail
    refine (HB1.out.ref w4 HBb.out).mono ?_
    rintro e w5 ⟨rfl, h1⟩
    have HWc := Lib.hid (HWb.out.below h1)
    have HBc := Lib.hid (HBb.out.trans (h1.mono HBb.out.size))
    have hln := HB1.out.len
    clear h1 HWb HBb
    have hs1 : ((W1.length : Int) == ((bchars W1).size : Int)) = true := by rw [bchars_size]; simp
    have hs2 : ((W1.length : Int) != ((bchars W1).size : Int)) = false := by rw [bchars_size]; simp
    go_wp2_with fail
    refine (len_ok w5 b W1 HWc.out).mono ?_
    rintro e w6 ⟨rfl, rfl⟩
    go_wp2_with fail
    refine (wbytes_any w5 b W1 HWc.out (by omega)).mono ?_
    rintro e w6 ⟨rfl, hr, hb⟩
    have HS1 := Lib.hid (sl_of_row hr (wb_lt W1) rfl)
    have HBd := Lib.hid (HBc.out.trans (hb.mono HBc.out.size))
    clear hr hb HWc HBc
    go_wp2_with fail
    refine (rbytes_any w6 W1 (by omega)).mono ?_
    rintro e w7 ⟨v, rfl, hs, hb⟩
    have HS2 := Lib.hid hs
    have HS3 := Lib.hid (HS1.out.below hb)
    have HB := Lib.hid (HBd.out.trans (hb.mono HBd.out.size))
    clear hs hb HS1 HBd
    go_wp2_with fail
    refine (opsame_yes w7 _ _ _ HS3.out HS2.out).mono ?_
    rintro e w8 ⟨rfl, rfl⟩
    clear HS2 HS3 hs1 hs2 hln HB1 hbw
    go_wp2_with fail
    refine (HAH.out _ HB.out).mono ?_
    rintro e w2 ⟨b, rfl, hbw, hw, hb⟩
    have HBa := Lib.hid hb
    have HWa := Lib.hid hw
    clear hb hw HB
    go_wp2_with fail
    have HP := Lib.hid (HB2.out.prog w2 b HBa.out hbw HWa.out)
    refine HP.out.mono ?_
    rintro e w4 ⟨rfl, h1, h2⟩
    have HWb := Lib.hid h1
    have HBb := Lib.hid (HBa.out.trans (h2.below hbw HBa.out.size))
    clear h1 h2 HP HBa HWa
    go_wp2_with fail
    refine (HB2.out.ref w4 HBb.out).mono ?_
    rintro e w5 ⟨rfl, h1⟩
    have HWc := Lib.hid (HWb.out.below h1)
    have HBc := Lib.hid (HBb.out.trans (h1.mono HBb.out.size))
    have hln := HB2.out.len
    clear h1 HWb HBb
    have hs1 : ((W2.length : Int) == ((bchars W2).size : Int)) = true := by rw [bchars_size]; simp
    have hs2 : ((W2.length : Int) != ((bchars W2).size : Int)) = false := by rw [bchars_size]; simp
    go_wp2_with fail
    refine (len_ok w5 b W2 HWc.out).mono ?_
    rintro e w6 ⟨rfl, rfl⟩
    go_wp2_with fail
    refine (wbytes_any w5 b W2 HWc.out (by omega)).mono ?_
    rintro e w6 ⟨rfl, hr, hb⟩
    have HS1 := Lib.hid (sl_of_row hr (wb_lt W2) rfl)
    have HBd := Lib.hid (HBc.out.trans (hb.mono HBc.out.size))
    clear hr hb HWc HBc
    go_wp2_with fail
    refine (rbytes_any w6 W2 (by omega)).mono ?_
    rintro e w7 ⟨v, rfl, hs, hb⟩
    have HS2 := Lib.hid hs
    have HS3 := Lib.hid (HS1.out.below hb)
    have HB := Lib.hid (HBd.out.trans (hb.mono HBd.out.size))
    clear hs hb HS1 HBd
    go_wp2_with fail
    refine (opsame_yes w7 _ _ _ HS3.out HS2.out).mono ?_
    rintro e w8 ⟨rfl, rfl⟩
    clear HS2 HS3 hs1 hs2 hln HB2 hbw
    go_wp2_with fail
    refine (HAH.out _ HB.out).mono ?_
    rintro e w2 ⟨b, rfl, hbw, hw, hb⟩
    have HBa := Lib.hid hb
    have HWa := Lib.hid hw
    clear hb hw HB
    go_wp2_with fail
    have HP := Lib.hid (HB3.out.prog w2 b HBa.out hbw HWa.out)
    refine HP.out.mono ?_
    rintro e w4 ⟨rfl, h1, h2⟩
    have HWb := Lib.hid h1
    have HBb := Lib.hid (HBa.out.trans (h2.below hbw HBa.out.size))
    clear h1 h2 HP HBa HWa
    go_wp2_with fail
    refine (HB3.out.ref w4 HBb.out).mono ?_
    rintro e w5 ⟨rfl, h1⟩
    have HWc := Lib.hid (HWb.out.below h1)
    have HBc := Lib.hid (HBb.out.trans (h1.mono HBb.out.size))
    have hln := HB3.out.len
    clear h1 HWb HBb
    have hs1 : ((W3.length : Int) == ((bchars W3).size : Int)) = true := by rw [bchars_size]; simp
    have hs2 : ((W3.length : Int) != ((bchars W3).size : Int)) = false := by rw [bchars_size]; simp
    go_wp2_with fail
    refine (len_ok w5 b W3 HWc.out).mono ?_
    rintro e w6 ⟨rfl, rfl⟩
    go_wp2_with fail
    refine (wbytes_any w5 b W3 HWc.out (by omega)).mono ?_
    rintro e w6 ⟨rfl, hr, hb⟩
    have HS1 := Lib.hid (sl_of_row hr (wb_lt W3) rfl)
    have HBd := Lib.hid (HBc.out.trans (hb.mono HBc.out.size))
    clear hr hb HWc HBc
    go_wp2_with fail
    refine (rbytes_any w6 W3 (by omega)).mono ?_
    rintro e w7 ⟨v, rfl, hs, hb⟩
    have HS2 := Lib.hid hs
    have HS3 := Lib.hid (HS1.out.below hb)
    have HB := Lib.hid (HBd.out.trans (hb.mono HBd.out.size))
    clear hs hb HS1 HBd
    go_wp2_with fail
    refine (opsame_yes w7 _ _ _ HS3.out HS2.out).mono ?_
    rintro e w8 ⟨rfl, rfl⟩
    clear HS2 HS3 hs1 hs2 hln HB3 hbw
    go_wp2_with fail
    go_ret
    exact ⟨rfl, HB.out⟩
theorem walk (w : World) (k : Int) (w0 : (Lit.int .i64 k).wf = true) (al : Bool) (n : Int) (w1 : (Lit.int .i64 n).wf = true) (lo : Int) (w2 : (Lit.int .i64 lo).wf = true) (a4 : Option Addr) (len4 cap4 : Nat) (z4 : List Int) (w4 : IsRow .u8 w a4 len4 cap4 z4) :
    Calls Try.prog 3 #[.int .i64 k, .bool al, .int .i64 n, .int .i64 lo, .slice a4 len4 cap4] w fun e w' => e = .returned (.bool true) ∧ Below w.heap.size w w' := by
  obtain ⟨l, hs, hl⟩ := sb_of_isRow w4
  by_cases h : 2000 < len4 ∧ len4 ≤ 1048576
  · exact walk_mid w k al n lo a4 len4 cap4 h.1 h.2
  · exact walk_main w k al n lo (i64_bounds w1) (i64_bounds w2) a4 len4 cap4 l hs (by omega)

set_option maxRecDepth 100000 in
theorem lifted (os : Os) (started : os.Started) (H : Type) (enc : TypeId × Value → H) :
    ReturnsInHanded {} Try.checked os 3 .any (Rows.openPutsSpec.pre6 enc Try.prog Try.f3 Rows.openPutsRow.domain false) (Rows.openPutsSpec.post enc Try.prog Try.f3 false true false false) := by
  refine returnsInHanded_of_change (C := Try.checked) own started (by kernel_rfl) Try.func3
    (ChangeSpec.witness6 (enc := enc) (C := Try.checked) false ⟨#[], #[.int .i64 0, .bool false, .int .i64 0, .int .i64 0, .slice none 0 0], []⟩ 8 (by kernel_rfl) (by kernel_rfl) (by kernel_rfl) (by kernel_rfl)) ?_
  intro W base args ds gs before hval0 hW hcnd _
  have hval : ∀ (j : Nat) t v, Try.f3.params[j]? = some t → args[j]? = some v → Value.okWide Try.prog W .any base t v := hval0
  have hW' := hW
  obtain ⟨p, q, hA0, hV, rfl, hfz, hnd⟩ := hW
  have hA : DataW.TrodAll enc Try.prog W 0 (fun _ => true) true Try.f3.params.toList args.toList ds p := hA0
  rw [Try.params3] at hA hval
  obtain ⟨v0, vs0, d0, ds0, p0, q0, hargs, rfl, rfl, h0, r0⟩ := trodAll_cons hA
  obtain ⟨v1, vs1, d1, ds1, p1, q1, rfl, rfl, rfl, h1, r1⟩ := trodAll_cons r0
  obtain ⟨v2, vs2, d2, ds2, p2, q2, rfl, rfl, rfl, h2, r2⟩ := trodAll_cons r1
  obtain ⟨v3, vs3, d3, ds3, p3, q3, rfl, rfl, rfl, h3, r3⟩ := trodAll_cons r2
  obtain ⟨v4, vs4, d4, ds4, p4, q4, rfl, rfl, rfl, h4, r4⟩ := trodAll_cons r3
  obtain ⟨rfl, rfl, rfl⟩ := trodAll_nil r4
  obtain rfl : args = #[v0, v1, v2, v3, v4] := by cases args; simp_all
  obtain ⟨rfl, rfl⟩ := trodVars_none hV
  obtain ⟨a0, rfl, rfl, rfl, w0⟩ := open_int Try.underlying3 (hval 0 3 v0 rfl rfl) h0
  obtain ⟨a1, rfl, rfl, rfl⟩ := open_bool Try.underlying4 (hval 1 4 v1 rfl rfl) h1
  obtain ⟨a2, rfl, rfl, rfl, w2⟩ := open_int Try.underlying3 (hval 2 3 v2 rfl rfl) h2
  obtain ⟨a3, rfl, rfl, rfl, w3⟩ := open_int Try.underlying3 (hval 3 3 v3 rfl rfl) h3
  obtain ⟨a4, len4, cap4, rfl⟩ := okWide_slice Try.underlying22 (hval 4 22 v4 rfl rfl)
  have k4 := h4
  have lt4 : ∀ x ∈ p4, x.block < W.heap.size := by obtain ⟨m, hm⟩ := k4; exact DataW.trod_lt m _ _ _ hm
  obtain ⟨z4, w4⟩ : ∃ zs, IsRow .u8 W a4 len4 cap4 zs := by
    obtain ⟨fuel, hf⟩ := h4
    rcases open_ints Try.underlying22 Try.underlying5 (by kernel_rfl) hf with ⟨hcs, _⟩ | ⟨x, l, c, zs, hcs, _, hl, hm, hz, _, hcell, hwz⟩
    · simp [Value.cells] at hcs
      obtain ⟨rfl, rfl, rfl⟩ := hcs
      exact ⟨[], .inl ⟨rfl, rfl, rfl, rfl⟩⟩
    · simp [Value.cells] at hcs
      obtain ⟨rfl, rfl, rfl⟩ := hcs
      exact ⟨zs, .inr ⟨_, rfl, hl, hm, by simpa using hz, hcell, hwz⟩⟩
  clear hA0 hval0
  refine (walk W a0 w0 a1 a2 w2 a3 w3 a4 len4 cap4 z4 w4).mono fun e W' ⟨he, bel⟩ => ?_
  subst he
  exact ⟨_, rfl, _, _, _, [], _, [], hW', trodAll_mk1 (shut_bool Try.underlying4 _), (trodAll_cons_mk (shut_int Try.underlying3 w0) (trodAll_cons_mk (shut_bool Try.underlying4 a1) (trodAll_cons_mk (shut_int Try.underlying3 w2) (trodAll_cons_mk (shut_int Try.underlying3 w3) (trodAll_cons_mk (Below.trod laidOut (by kernel_rfl) (of_decide_eq_true (by kernel_rfl)) k4 bel lt4) trodAll_mk0))))), rfl, bel.frame _, fun h => by cases h⟩

theorem over : Rows.openPutsRow.holds Try.pinned (OpenSpec.ofChange Rows.openPutsSpec) :=
  OpenClaim.holds_of_wide 3 Try.f3 rfl rfl rfl rfl rfl rfl rfl ⟨rfl, rfl, rfl, rfl, rfl⟩ rfl rfl rfl rfl rfl (by kernel_rfl) Try.func3 (by kernel_rfl)
    (of_decide_eq_true (by kernel_rfl)) (by unfold Func.isWrapper; first | (rw [if_pos (by decide +kernel)]; kernel_rfl) | (rw [if_neg (by decide +kernel)]; exact ⟨rfl, rfl⟩))
    (fun os started H enc _ => lifted os started H enc)

theorem proved : Rows.OpenPutsSaid := over
end Go.Proofs.Ytinggfelgcdkfaa.openPuts
