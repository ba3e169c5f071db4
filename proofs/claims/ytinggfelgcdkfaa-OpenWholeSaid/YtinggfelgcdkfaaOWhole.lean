/-
  Proved: the statement OpenWhole (octets that were put, however many, are got, in pieces where they are many; what stands behind is read then), for every input; no further condition.
-/
import Derived.Test.YtinggfelgcdkfaaRows
import Derived.Test.YtinggfelgcdkfaaOpLaw
import Derived.ProofKit
import Derived.OpenShut
import Derived.ShutString
import Derived.ChangeOld
namespace Go.Proofs.Ytinggfelgcdkfaa.openWhole
open Go.ChangeShapes Go.WideShapes Go.ChangeAt Go.RowKit
open Go.ChangeMaps (open_string shut_string)
set_option linter.unusedVariables false
set_option linter.unusedSimpArgs false
set_option maxRecDepth 100000

theorem own : ownKnob Try.prog.godebug = none := by kernel_rfl
theorem laidOut : laidOutB Try.prog = true := by kernel_rfl

theorem op_and262143 (n : Int) : bits .and .i64 n 262143 = n % 262144 := by
  have h7 : (BitVec.ofInt 64 262143).toNat = 2 ^ 18 - 1 := by decide
  have key : (BitVec.ofInt 64 n &&& BitVec.ofInt 64 262143).toNat = (n % ((2 ^ 64 : Nat) : Int)).toNat % 2 ^ 18 := by
    rw [BitVec.toNat_and, BitVec.toNat_ofInt, h7, Nat.and_two_pow_sub_one_eq_mod]
  show IntKind.i64.wrap ((BitVec.ofInt 64 n &&& BitVec.ofInt 64 262143).toNat : Nat) = n % 262144
  rw [key, IntKind.wrap_i64]
  omega
/-- n octets, of which j are filled, from x on -/
def fillRow (x n j : Nat) : List Nat := (List.range n).map fun i => if i < j then (x + i) % 256 else 0
theorem fillRow_length (x n j : Nat) : (fillRow x n j).length = n := by simp [fillRow]
theorem fillRow_zero (x n : Nat) : u8s (fillRow x n 0) = List.replicate n (Value.int .u8 0) := by
  apply List.ext_getElem?
  intro i
  rcases Nat.lt_or_ge i n with h | h
  · simp [u8s, fillRow, h]
  · simp [u8s, fillRow, h]
theorem fillRow_lt (x n j i : Nat) : (fillRow x n j).getD i 0 < 256 := by
  unfold fillRow
  rw [List.getD_eq_getElem?_getD, List.getElem?_map]
  rcases Nat.lt_or_ge i n with h | h
  · rw [List.getElem?_range h]
    show (if i < j then (x + i) % 256 else 0) < 256
    split <;> omega
  · rw [List.getElem?_eq_none (by simpa using h)]
    simp
theorem fillRow_set (x n j : Nat) (h : j < n) : (u8s (fillRow x n j)).set j (.int .u8 ((x + j) % 256 : Nat)) = u8s (fillRow x n (j + 1)) := by
  apply List.ext_getElem?
  intro i
  rw [List.getElem?_set, u8s_length, fillRow_length]
  by_cases hij : j = i
  · subst hij
    rw [if_pos rfl, if_pos h]
    simp [u8s, fillRow, h]
  · rw [if_neg hij]
    rcases Nat.lt_or_ge i n with h2 | h2
    · have : (i < j) ↔ (i < j + 1) := by omega
      simp [u8s, fillRow, h2, this]
    · simp [u8s, fillRow, h2]
theorem fillRow_get (x n j i : Nat) (h : i < n) : ∃ y : Nat, (u8s (fillRow x n j))[i]? = some (.int .u8 y) := ⟨_, by simp [u8s, fillRow, h]; rfl⟩
def RelF (w : World) (x n g : Nat) (i : Value) (wr : World) : Prop := ∃ j : Nat, j ≤ n ∧ i = .int .i64 j ∧ wr.heap[g]? = some (.cells (u8s (fillRow x n j)).toArray 5 (0, 0)) ∧ Below w.heap.size w wr
theorem relF_next {w wr : World} {x n g j : Nat} (hj : j < n) (hg : w.heap.size ≤ g) (hrow : wr.heap[g]? = some (.cells (u8s (fillRow x n j)).toArray 5 (0, 0))) (hb : Below w.heap.size w wr) {y : Int} (hy : y = ((x + j) % 256 : Nat)) {z : Int} (hz : z = (j : Int) + 1) : RelF w x n g (.int .i64 z) (wr.setCell ⟨g, j, none⟩ (.int .u8 y)) := by
  subst hy
  subst hz
  refine ⟨j + 1, hj, rfl, ?_, hb.setCell (p := ⟨g, j, none⟩) hg _⟩
  have := heap_setCell_same wr g j _ _ (.int .u8 ((x + j) % 256 : Nat)) hrow
  rw [List.setIfInBounds_toArray, fillRow_set _ _ _ hj] at this
  exact this
theorem rd_no_data {w : World} {b : Nat} {s : Value} {L : List Nat} {p o : Nat} {l : List Nat} (h : RdAt w b s L p) (hl : l ≠ []) (hd : DataAt w b o l) : False := by
  have hc := hd.cell 0 (by cases l <;> simp_all)
  rw [cell_of_row w b _ _ _ _ h.1] at hc
  match o, hc with
  | 0, hc =>
    obtain ⟨_, h2, _⟩ := h
    rcases h2 with ⟨_, g, o, cap, cs, fr, e, _⟩ | ⟨_, a, cap, e⟩
    · subst e
      simp at hc
    · subst e
      simp at hc
  | 1, hc => simp at hc
  | o + 2, hc => simp at hc
theorem rd_sl {w w' : World} {b : Nat} {s : Value} {L : List Nat} {p : Nat} {l : List Nat} {v : Value} (h : RdAt w b s L p) (hs : SlAt w v l) (ho : Only b w w') : SlAt w' v l := by
  by_cases hl : l = []
  · rcases hs with ⟨g, o, cap, e, hd⟩ | hs
    · subst hl
      exact .inr ⟨rfl, _, _, e⟩
    · exact .inr hs
  · rcases hs with ⟨g, o, cap, e, hd⟩ | ⟨h0, _⟩
    · refine .inl ⟨g, o, cap, e, hd.keep ho ?_⟩
      rintro rfl
      exact rd_no_data h hl hd
    · exact absurd h0 hl
theorem whole_math (al : Bool) (B : List Bool) (hB : B.length ≤ 64) (lb : List Nat) (hl : lb.length ≤ 262143) (hb : ∀ i, lb.getD i 0 < 256) (W1 : List Bool) (h1 : opB al B lb = W1) :
    gpos (wb (W1 ++ nb 5 3)) 0 B.length = B.length ∧ rdOpen al (wb (W1 ++ nb 5 3)) B.length = ⟨0, lb, W1.length⟩ ∧ gerr (wb (W1 ++ nb 5 3)) W1.length 3 = 0 ∧ gval (wb (W1 ++ nb 5 3)) W1.length 3 = 5 ∧
      W1.length ≤ 2200000 ∧ (wb (W1 ++ nb 5 3)).length ≤ 1000000 := by
  obtain ⟨S, hS⟩ := opB_pre al B lb
  rw [h1] at hS
  have hle := opB_le al B lb
  rw [h1] at hle
  obtain ⟨m, hm, _⟩ := wb_bits (W1 ++ nb 5 3)
  obtain ⟨g1, g2, g3⟩ := get_has (Has.wb (W := W1 ++ nb 5 3) (A := []) (S := B) (R := S ++ nb 5 3) (by rw [hS]; simp)) 0 B.length rfl rfl hB
  obtain ⟨k1, k2, _⟩ := get_has (Has.wb (W := W1 ++ nb 5 3) (A := W1) (S := nb 5 3) (R := []) (by simp)) W1.length 3 rfl (nb_length 5 3).symm (by omega)
  have hr := rdOpen_back al (wb (W1 ++ nb 5 3)) B lb ⟨nb 5 3 ++ List.replicate m false, by rw [h1, hm, List.append_assoc]⟩ hb (by omega)
  rw [h1] at hr
  refine ⟨by rw [g3]; omega, hr, k1, by rw [show gval (wb (W1 ++ nb 5 3)) W1.length 3 = _ from k2]; decide, by omega, wb_le (by rw [List.length_append, nb_length]; omega) (by omega)⟩
set_option maxHeartbeats 8000000 in
theorem walk (w : World) (k : Int) (w0 : (Lit.int .i64 k).wf = true) (al : Bool) (x : Int) (w1 : (Lit.int .u8 x).wf = true) (n0 : Int) (w2 : (Lit.int .i64 n0).wf = true) :
    Calls Try.prog 6 #[.int .i64 k, .bool al, .int .u8 x, .int .i64 n0] w fun e w' => e = .returned (.bool true) ∧ Below w.heap.size w w' := by
  obtain ⟨n, hn⟩ : ∃ n : Nat, (n : Int) = n0 % 262144 := ⟨(n0 % 262144).toNat, by omega⟩
  have hand := op_and262143 n0
  rw [← hn] at hand
  have hn2 : n ≤ 262143 := by omega
  obtain ⟨xn, rfl⟩ : ∃ m : Nat, x = m := by
    simp [Lit.wf, IntKind.min, IntKind.max, IntKind.signed, IntKind.bits] at w1
    exact ⟨x.toNat, by omega⟩
  have hx : xn < 256 := by
    simp [Lit.wf, IntKind.min, IntKind.max, IntKind.signed, IntKind.bits] at w1
    omega
  clear w0 w1 w2 hn
  go_enter Try.func6, Try.ntmps6
  go_wp2_with fail
  refine (opawake _).mono ?_
  rintro e wa ⟨rfl, hb⟩
  have HB := Lib.hid hb
  clear hb
  go_wp2_with (at_make; refine wpList_make_u8 rfl (.tmp 23) (.tmp 23) rfl n (by omega) rfl rfl ?_; intro w2 hG hbl hsz; have HG := Lib.hid hG; have HBL := Lib.hid hbl; clear hG hbl)
  have hs := HB.out.size
  have HB2 := Lib.hid (HB.out.trans (HBL.out.mono hs))
  have hrow : w2.heap[wa.heap.size]? = some (.cells (u8s (fillRow xn n 0)).toArray 5 (0, 0)) := by
    rw [fillRow_zero]
    exact HG.out
  have HROW := Lib.hid hrow
  clear HB HBL HG hrow
  generalize wa.heap.size = g at *
  have hb2 := HB2.out.size
  go_loopw [11] (fun i wr => RelF w xn n g i wr) (fun i _ => n - (intOf i).toNat)
  case atStart => exact ⟨0, Nat.zero_le _, rfl, HROW.out, HB2.out⟩
  case round =>
    obtain ⟨j, hj, rfl, hrow, hbl⟩ := hrel
    have HR := Lib.hid hrow
    have HBJ := Lib.hid hbl
    by_cases hlt : j < n
    · have q1 : decide ((j : Int) < (n : Int)) = true := decide_eq_true (by omega)
      obtain ⟨y, hy⟩ := fillRow_get xn n j j hlt
      have hc := cell_of_list hrow hy
      have hf := frozen_of_row wr g j _ _ hrow
      have hj0 : (0 : Int) ≤ (j : Int) := by omega
      have hj1 : (j : Int) < (n : Int) := by omega
      clear hrow hbl hy
      go_wp2_with fail
      go_roundw
      case rel => exact relF_next hlt hs HR.out HBJ.out (by omega) (by omega)
      case measure => simp [intOf]; omega
    · obtain rfl : j = n := by omega
      have q1 : decide ((j : Int) < (j : Int)) = false := decide_eq_false (by omega)
      clear hrow hbl
      have hll := fillRow_length xn j j
      have hlt8 := fillRow_lt xn j j
      have hgw : g < wr.heap.size := (Array.getElem?_eq_some_iff.1 HR.out).1
      have HRW := Lib.hid HR.out
      clear HR
      generalize fillRow xn j j = lb at *
      have HLB := Lib.hid hlt8
      have HLL := Lib.hid hll
      clear hlt8 hll
      go_wp2_with fail
      refine (opahead_ok k wr).mono ?_
      rintro e w3 ⟨b, m, hm, hmk, rfl, hbw, hw, hb⟩
      have hgb : g ≠ b := by omega
      have hbw' : w.heap.size ≤ b := by have := HBJ.out.size; omega
      have H1 := Lib.hid (HBJ.out.trans (hb.mono HBJ.out.size))
      have H2 := Lib.hid hw
      have hrow3 : w3.heap[g]? = some (.cells (u8s lb).toArray 5 (0, 0)) := (hb.block g hgw).trans HRW.out
      have HS3 : Go.RowKit.Hid (Sb w3 b (.slice (some ⟨g, 0, none⟩) j j) lb) := ⟨_, _, by rw [HLL.out], by rw [HLL.out]; exact Nat.le_refl _, .inr ⟨g, 0, rfl, data_of_row _ _ _ hrow3 HLB.out, hgb⟩⟩
      have hlen : (List.replicate m true).length ≤ 64 := by rw [List.length_replicate]; omega
      clear hb hw hbw hrow3 HBJ HRW hmk
      generalize List.replicate m true = B at *
      obtain ⟨W1, hW1⟩ : ∃ W1, opB al B lb = W1 := ⟨_, rfl⟩
      obtain ⟨hB0, hrd, hge, hgv, hwl, hL⟩ := whole_math al B hlen lb (by have := HLL.out; omega) HLB.out W1 hW1
      have HP := Lib.hid (oput_any w3 b B al _ lb H2.out HS3.out (by have := HLL.out; omega) (by have := HLL.out; omega))
      rw [hW1] at HP
      have HGO := Lib.hid (fun w r s h => oget_open w r s (wb (W1 ++ nb 5 3)) B.length al h (by omega))
      rw [hrd] at HGO
      have HG3 := Lib.hid (fun w r (s : Value) h => get_any w r (s := s) (wb (W1 ++ nb 5 3)) W1.length 3 h (by omega))
      rw [hge, hgv] at HG3
      have HG0 := Lib.hid (fun w r (s : Value) h => get_any w r (s := s) (wb (W1 ++ nb 5 3)) 0 B.length h (by omega))
      rw [hB0] at HG0
      have hw2l : (W1 ++ nb 5 3).length ≤ 100000000 := by rw [List.length_append, nb_length]; omega
      clear hW1 hrd hge hgv hB0
      go_wp2_with fail
      refine (len_ok w3 b B H2.out).mono ?_
      rintro e w4 ⟨rfl, rfl⟩
      go_wp2_with fail
      refine HP.out.mono ?_
      rintro e w4 ⟨rfl, h1, h2⟩
      have H3 := Lib.hid h1
      have HS4 := Lib.hid (HS3.out.only h2)
      have H4 := Lib.hid (H1.out.trans (h2.below hbw' H1.out.size))
      clear h1 h2 H1 H2 HP HS3
      go_wp2_with fail
      refine (put_ok w4 b W1 5 3 H3.out (by omega) (by decide) (by omega)).mono ?_
      rintro e w5 ⟨rfl, h1, h2⟩
      have H5 := Lib.hid h1
      have HS5 := Lib.hid (HS4.out.only h2)
      have H6 := Lib.hid (H4.out.trans (h2.below hbw' H4.out.size))
      clear h1 h2 H3 H4 HS4
      generalize W1 ++ nb 5 3 = W2 at *
      go_wp2_with fail
      refine (wbytes_any w5 b W2 H5.out (by omega)).mono ?_
      rintro e w6 ⟨rfl, hr, hb⟩
      have HSL := Lib.hid (sl_of_row hr (wb_lt W2) rfl)
      have HS6 := Lib.hid (HS5.out.sl.below hb)
      have H8 := Lib.hid (H6.out.trans (hb.mono H6.out.size))
      clear hr hb H5 H6 HS5
      generalize wb W2 = L at *
      go_wp2_with fail
      refine (new_ok w6 _ L HSL.out (by omega)).mono ?_
      rintro e w7 ⟨s, r, rfl, hr1, hrd1, hb1⟩
      have HS7 := Lib.hid (HS6.out.below hb1)
      have H10 := Lib.hid (H8.out.trans (hb1.mono H8.out.size))
      have HR := Lib.hid hrd1
      have hrw : w.heap.size ≤ r := by have := H8.out.size; omega
      clear hr1 hrd1 hb1 H8 HSL HS6
      go_wp2_with fail
      refine (HG0.out w7 r s HR.out).mono ?_
      rintro e w8 ⟨rfl, h1, h2⟩
      have HR2 := Lib.hid h1
      have HS8 := Lib.hid (rd_sl HR.out HS7.out h2)
      have H12 := Lib.hid (H10.out.trans (h2.below hrw H10.out.size))
      clear h1 h2 H10 HR HG0 HS7
      generalize gval L 0 B.length = gv at *
      generalize gerr L 0 B.length = gr at *
      go_wp2_with fail
      refine (HGO.out w8 r s HR2.out).mono ?_
      rintro e w9 ⟨vc, rfl, h0, h1, h2⟩
      have HC := Lib.hid h0
      have HR3 := Lib.hid h1
      have HS9 := Lib.hid (rd_sl HR2.out HS8.out h2)
      have H14 := Lib.hid (H12.out.trans (h2.below hrw H12.out.size))
      clear h0 h1 h2 H12 HR2 HGO HS8
      go_wp2_with fail
      refine (HG3.out w9 r s HR3.out).mono ?_
      rintro e w10 ⟨rfl, h1, h2⟩
      have HC10 := Lib.hid (rd_sl HR3.out HC.out h2)
      have HS10 := Lib.hid (rd_sl HR3.out HS9.out h2)
      have H16 := Lib.hid (H14.out.trans (h2.below hrw H14.out.size))
      clear h1 h2 H14 HR3 HG3 HS9 HC
      go_wp2_with fail
      refine (opsame_yes w10 _ _ lb HS10.out HC10.out).mono ?_
      rintro e w11 ⟨rfl, rfl⟩
      go_wp2_with fail
      go_ret
      exact ⟨rfl, H16.out⟩

set_option maxRecDepth 100000 in
theorem lifted (os : Os) (started : os.Started) (H : Type) (enc : TypeId × Value → H) :
    ReturnsInHanded {} Try.checked os 6 .any (Rows.openWholeSpec.pre6 enc Try.prog Try.f6 Rows.openWholeRow.domain false) (Rows.openWholeSpec.post enc Try.prog Try.f6 false true false false) := by
  refine returnsInHanded_of_change (C := Try.checked) own started (by kernel_rfl) Try.func6
    (ChangeSpec.witness6 (enc := enc) (C := Try.checked) false ⟨#[], #[.int .i64 0, .bool false, .int .u8 0, .int .i64 0], []⟩ 8 (by kernel_rfl) (by kernel_rfl) (by kernel_rfl) (by kernel_rfl)) ?_
  intro W base args ds gs before hval0 hW hcnd _
  have hval : ∀ (j : Nat) t v, Try.f6.params[j]? = some t → args[j]? = some v → Value.okWide Try.prog W .any base t v := hval0
  have hW' := hW
  obtain ⟨p, q, hA0, hV, rfl, hfz, hnd⟩ := hW
  have hA : DataW.TrodAll enc Try.prog W 0 (fun _ => true) true Try.f6.params.toList args.toList ds p := hA0
  rw [Try.params6] at hA hval
  obtain ⟨v0, vs0, d0, ds0, p0, q0, hargs, rfl, rfl, h0, r0⟩ := trodAll_cons hA
  obtain ⟨v1, vs1, d1, ds1, p1, q1, rfl, rfl, rfl, h1, r1⟩ := trodAll_cons r0
  obtain ⟨v2, vs2, d2, ds2, p2, q2, rfl, rfl, rfl, h2, r2⟩ := trodAll_cons r1
  obtain ⟨v3, vs3, d3, ds3, p3, q3, rfl, rfl, rfl, h3, r3⟩ := trodAll_cons r2
  obtain ⟨rfl, rfl, rfl⟩ := trodAll_nil r3
  obtain rfl : args = #[v0, v1, v2, v3] := by cases args; simp_all
  obtain ⟨rfl, rfl⟩ := trodVars_none hV
  obtain ⟨a0, rfl, rfl, rfl, w0⟩ := open_int Try.underlying3 (hval 0 3 v0 rfl rfl) h0
  obtain ⟨a1, rfl, rfl, rfl⟩ := open_bool Try.underlying4 (hval 1 4 v1 rfl rfl) h1
  obtain ⟨a2, rfl, rfl, rfl, w2⟩ := open_int Try.underlying5 (hval 2 5 v2 rfl rfl) h2
  obtain ⟨a3, rfl, rfl, rfl, w3⟩ := open_int Try.underlying3 (hval 3 3 v3 rfl rfl) h3
  clear hA0 hval0
  refine (walk W a0 w0 a1 a2 w2 a3 w3).mono fun e W' ⟨he, bel⟩ => ?_
  subst he
  exact ⟨_, rfl, _, _, _, [], _, [], hW', trodAll_mk1 (shut_bool Try.underlying4 _), (trodAll_cons_mk (shut_int Try.underlying3 w0) (trodAll_cons_mk (shut_bool Try.underlying4 a1) (trodAll_cons_mk (shut_int Try.underlying5 w2) (trodAll_cons_mk (shut_int Try.underlying3 w3) trodAll_mk0)))), rfl, bel.frame _, fun h => by cases h⟩

theorem over : Rows.openWholeRow.holds Try.pinned (OpenSpec.ofChange Rows.openWholeSpec) :=
  OpenClaim.holds_of_wide 6 Try.f6 rfl rfl rfl rfl rfl rfl rfl ⟨rfl, rfl, rfl, rfl, rfl⟩ rfl rfl rfl rfl rfl (by kernel_rfl) Try.func6 (by kernel_rfl)
    (of_decide_eq_true (by kernel_rfl)) (by unfold Func.isWrapper; first | (rw [if_pos (by decide +kernel)]; kernel_rfl) | (rw [if_neg (by decide +kernel)]; exact ⟨rfl, rfl⟩))
    (fun os started H enc _ => lifted os started H enc)

theorem proved : Rows.OpenWholeSaid := over
end Go.Proofs.Ytinggfelgcdkfaa.openWhole
