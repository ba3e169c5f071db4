/-
  The document's answer for package strings: lay, Fixed, near, put.
-/
import Derived.Test.YtbbbgoigacledaaStRefW
import Derived.Test.YtbbbgoigacledaaStText
import Derived.Test.YtbbbgoigacledaaLRef
import Derived.Test.YtbbbgoigacledaaOpMem
import Derived.StillTailTactics
namespace Go.Proofs.Ytbbbgoigacledaa
open Go.RowKit Go.Shelf
set_option linter.unusedVariables false
set_option linter.unusedSimpArgs false
set_option maxRecDepth 100000

/-- a slice of integers -/
def InAt (w : World) (v : Value) (z : List Int) : Prop := (v = .slice none 0 0 ∧ z = []) ∨ ∃ g o cap, v = .slice (some ⟨g, o, none⟩) z.length cap ∧ z.length ≤ cap ∧ ∀ i, i < z.length → w.cell? ⟨g, o + i, none⟩ = some (.int .i64 (z.getD i 0))
theorem InAt.below {w w' : World} {v : Value} {z : List Int} (h : InAt w v z) (ho : Below w.heap.size w w') : InAt w' v z := by
  rcases h with h | ⟨g, o, cap, e, hc, hz⟩
  · exact .inl h
  · refine .inr ⟨g, o, cap, e, hc, fun i hi => ?_⟩
    rw [← hz i hi]
    exact World.cell?_of_block (w := w) (ho.block g (World.block_lt_of_cell? w _ (hz i hi)))
theorem InAt.shape {w : World} {v : Value} {z : List Int} (h : InAt w v z) : ∃ a n cap, v = .slice a n cap ∧ z.length = n ∧ n ≤ cap := by
  rcases h with ⟨rfl, rfl⟩ | ⟨g, o, cap, rfl, hc, _⟩
  · exact ⟨_, _, _, rfl, rfl, Nat.le_refl _⟩
  · exact ⟨_, _, _, rfl, rfl, hc⟩
theorem InAt.ptr {w : World} {a : Option Addr} {n cap : Nat} {z : List Int} (h : InAt w (.slice a n cap) z) (hn : 0 < n) : ∃ g o, a = some ⟨g, o, none⟩ ∧ ∀ i, i < n → w.cell? ⟨g, o + i, none⟩ = some (.int .i64 (z.getD i 0)) := by
  rcases h with ⟨e, rfl⟩ | ⟨g, o, cap', e, hc, hz⟩
  · injection e with e1 e2
    omega
  · injection e with e1 e2 e3
    subst e2
    exact ⟨g, o, e1, hz⟩
/-- numbers as integers -/
def ints (u : List Nat) : List Int := u.map fun x : Nat => (x : Int)
theorem ints_length (u : List Nat) : (ints u).length = u.length := List.length_map ..
theorem ints_at (u : List Nat) (i : Nat) : (ints u).getD i 0 = (u.getD i 0 : Nat) := by
  unfold ints
  rw [List.getD_eq_getElem?_getD, List.getD_eq_getElem?_getD, List.getElem?_map]
  cases u[i]? <;> rfl
theorem and1_i64 (n : Int) : bits .and .i64 n 1 = n % 2 := by
  have h7 : (BitVec.ofInt 64 1).toNat = 2 ^ 1 - 1 := by decide
  have key : (BitVec.ofInt 64 n &&& BitVec.ofInt 64 1).toNat = (n % ((2 ^ 64 : Nat) : Int)).toNat % 2 ^ 1 := by
    rw [BitVec.toNat_and, BitVec.toNat_ofInt, h7, Nat.and_two_pow_sub_one_eq_mod]
  show IntKind.i64.wrap ((BitVec.ofInt 64 n &&& BitVec.ofInt 64 1).toNat : Nat) = n % 2
  rw [key, IntKind.wrap_i64]
  omega
theorem bit_nat (x t : Nat) : bits .and .i64 ((x : Int) / 2 ^ t) 1 = ((x / 2 ^ t % 2 : Nat) : Int) := by
  have e : ((x : Int) / 2 ^ t) = ((x / 2 ^ t : Nat) : Int) := by rw [Int.natCast_ediv, Int.natCast_pow]; rfl
  rw [and1_i64, e]
  omega
theorem bch_bit (x t : Nat) : bch (x.testBit t) = 48 + x / 2 ^ t % 2 := by
  rw [Nat.testBit_eq_decide_div_mod_eq]
  have : x / 2 ^ t % 2 < 2 := Nat.mod_lt _ (by omega)
  by_cases h : x / 2 ^ t % 2 = 1
  · simp [h, bch]
  · have h0 : x / 2 ^ t % 2 = 0 := by omega
    simp [h0, bch]
def RelLy (w : World) (B : List Bool) (k : Nat) (u : List Nat) (bv i : Value) (wr : World) : Prop := ∃ j : Nat, j ≤ u.length ∧ i = .int .i64 j ∧ Buf wr w.heap.size bv (bcells (B ++ ubits k (u.take j))) ∧ Below w.heap.size w wr
set_option maxHeartbeats 4000000 in
theorem rlay_ok (w : World) (B : List Bool) (k : Nat) (tx : Bool) (v : Value) (u : List Nat) (hv : InAt w v (ints u)) (hk : k ≤ 8) (hu : ∀ i, u.getD i 0 < 256) (hn : u.length ≤ 100000) (hB : B.length ≤ 1000000) :
    Calls Try.prog 62 #[.string (bchars B), .agg #[.int .i64 (k : Nat), .bool tx], v] w fun e w' => e = .returned (.string (bchars (B ++ ubits k u))) ∧ Below w.heap.size w w' := by
  obtain ⟨a, n, cap, rfl, hzn, hcap⟩ := hv.shape
  rw [ints_length] at hzn
  have hb0 := (Below.refl w.heap.size w).alloc (Nat.le_refl _) (.cells #[.int .i64 (k : Nat), .bool tx] 70)
  have HK := Lib.hid (show (w.alloc (.cells #[.int .i64 (k : Nat), .bool tx] 70)).cell? ⟨w.heap.size, 0, none⟩ = some (.int .i64 (k : Nat)) from cell_of_row _ _ _ _ _ _ (heap_alloc_new _ _))
  have hlt0 : w.heap.size < (w.alloc (.cells #[.int .i64 (k : Nat), .bool tx] 70)).heap.size := by simp
  have HV := Lib.hid (hv.below hb0)
  have HZ := Lib.hid hzn
  have HB0 := Lib.hid hb0
  have HU := Lib.hid hu
  have hn' : n ≤ 100000 := by omega
  clear hv hzn hu hb0 hn
  go_enter Try.func62, Try.ntmps62
  have hmark : True := trivial
  go_wp2_with (clear hmark; refine wpList_conv rfl (.tmp 10) rfl B (by omega) (by kernel_rfl) ?_; intro bv w1 hbuf hbel; refine stp ?_)
  have HBUF := Lib.hid hbuf
  have HBEL := Lib.hid hbel
  clear hbuf hbel
  unfold Stp
  generalize w.alloc (.cells #[.int .i64 (k : Nat), .bool tx] 70) = W at *
  have HK1 := Lib.hid (fun (w' : World) (h : Below W.heap.size W w') => (World.cell?_of_block (w := W) (a := ⟨w.heap.size, 0, none⟩) (h.block w.heap.size hlt0)).trans HK.out)
  clear HK
  go_wp2_with fail
  go_loopw [7, 8] (fun bv i wr => RelLy W B k u bv i wr) (fun _ i _ => n - (intOf i).toNat)
  case atStart => exact ⟨0, Nat.zero_le _, rfl, by simpa [ubits] using HBUF.out, HBEL.out⟩
  case round =>
    clear HBUF HBEL
    obtain ⟨j, hj, rfl, hbuf, hbel⟩ := hrel
    rw [HZ.out] at hj
    have HBUF1 := Lib.hid hbuf
    have HBEL1 := Lib.hid hbel
    have ck := HK1.out wr hbel
    clear hbuf hbel
    by_cases hlt : j < n
    · have q1 : decide ((j : Int) < (n : Int)) = true := decide_eq_true (by omega)
      obtain ⟨x, hx⟩ : ∃ x, u.getD j 0 = x := ⟨_, rfl⟩
      have hx8 := HU.out j
      rw [hx] at hx8
      obtain ⟨g, o, rfl, hcl⟩ := InAt.ptr HV.out (show 0 < n by omega)
      have HCZ := Lib.hid (fun w' (h : Below W.heap.size W w') => (show w'.cell? ⟨g, o + j, none⟩ = some (.int .i64 (x : Nat)) by
        have hc := hcl j hlt
        rw [ints_at, hx] at hc
        rw [← hc]
        exact World.cell?_of_block (w := W) (h.block g (World.block_lt_of_cell? W _ hc))))
      have HX := Lib.hid hx
      clear hx hcl
      go_wp2_with fail
      obtain ⟨wo, rfl⟩ : ∃ wo : World, wo = wr := ⟨_, rfl⟩
      go_loopw [7, 9] (fun bv i wr => RelP W (B ++ ubits k (u.take j)) x k bv i wr) (fun _ i _ => (intOf i + 1).toNat)
      case atStart => exact ⟨k, Nat.le_refl _, rfl, by simpa using HBUF1.out, HBEL1.out⟩
      case round =>
        clear ck HBUF1 HBEL1
        obtain ⟨m, hm, rfl, hbuf, hbel⟩ := hrel
        have HBUF := Lib.hid hbuf
        have HBEL := Lib.hid hbel
        clear hbuf hbel
        cases m with
        | zero =>
          have hb3 := HBUF.out
          have e8 : (nb x k).take (k - 0) = nb x k := List.take_of_length_le (by rw [nb_length]; omega)
          have e9 : ubits k (u.take j) ++ nb x k = ubits k (u.take (j + 1)) := by rw [ubits_take_succ k u j (by rw [HZ.out]; exact hlt), HX.out]
          rw [e8, List.append_assoc, e9] at hb3
          have HB3 := Lib.hid hb3
          have q2 : decide ((0 : Int) ≤ ((0 : Nat) : Int) - 1) = false := by decide
          clear hb3 e8 e9
          go_wp2_with fail
          go_roundw
          case rel => exact ⟨j + 1, by rw [HZ.out]; exact hlt, by go_num, HB3.out, HBEL.out⟩
          case measure => first | (simp [intOf]; done) | (simp [intOf]; omega)
        | succ t =>
          obtain ⟨y, hy⟩ : ∃ y, x / 2 ^ t % 2 = y := ⟨_, rfl⟩
          have hy2 : y < 2 := by rw [← hy]; exact Nat.mod_lt _ (by omega)
          have hq := bit_nat x t
          rw [hy] at hq
          obtain ⟨z, hz⟩ : ∃ z, 48 + y = z := ⟨_, rfl⟩
          have q2 : (48 : Int) + (y : Int) = (z : Int) := by omega
          have q3 : (z : Int) % 256 = (z : Int) := by omega
          have q3' : (y : Int) % 256 = (y : Int) := by omega
          have q4 : decide ((0 : Int) ≤ (t : Int)) = true := decide_eq_true (by omega)
          have q5 : (t : Int) % 18446744073709551616 = (t : Int) := by omega
          have q6 : ((t + 1 : Nat) : Int) - 1 = (t : Int) := by omega
          have HZ2 := Lib.hid (show (z : Int) = ((bch (x.testBit t) : Nat) : Int) by rw [bch_bit, hy, hz])
          have hlen : (bcells (B ++ ubits k (u.take j) ++ (nb x k).take (k - (t + 1)))).length + 1 ≤ 1000000000 := by
            have h1 := ubits_take_le k u j (by rw [HZ.out]; omega)
            have h2 : u.length * k ≤ 800000 := Nat.le_trans (Nat.mul_le_mul_left _ hk) (by rw [HZ.out]; omega)
            rw [bcells_length, List.length_append, List.length_append, List.length_take, nb_length]
            omega
          have hc1 := HCZ.out _ HBEL.out
          clear hy hz
          go_wp2_with (at_builtin; refine wpList_push (w0 := W) rfl (.tmp 25) (.tmp 36) rfl _ _ rfl (HBUF.out.alloc _) (HBEL.out.alloc HBEL.out.size _) ⟨wr.heap.size, 0, none⟩ (.int .u8 (bch (x.testBit t) : Nat)) rfl (new_one wr HZ2.out) rfl hlen ?_; intro bv' w2 hb2 hl2; have HB2 := Lib.hid hb2; have HL2 := Lib.hid hl2; clear hb2 hl2)
          go_roundw
          case rel =>
            have h1 := relP_next (w := W) (k := k) (m := t + 1) (by omega) (by omega) HB2.out HL2.out
            rw [show ((t + 1 : Nat) : Int) - 1 - 1 = (t : Int) - 1 by omega] at h1
            exact h1
          case measure => first | (simp [intOf]; done) | (simp [intOf]; omega)
    · obtain rfl : j = n := by omega
      have q1 : decide ((j : Int) < (j : Int)) = false := decide_eq_false (by omega)
      have hb1 := HBUF1.out
      rw [List.take_of_length_le (by rw [HZ.out]; exact Nat.le_refl _)] at hb1
      have hback := conv_back wr _ _ _ hb1
      clear hb1
      go_wp2_with fail
      go_ret
      exact ⟨rfl, HB0.out.trans (HBEL1.out.mono HB0.out.size)⟩
theorem rFixed_ok (lo hi : Int) (w : World) : Calls Try.prog 61 #[.int .i64 lo, .int .i64 hi] w fun e w' => e = .returned (.bool (fixd lo hi)) ∧ w = w' := by
  by_cases h : lo = hi
  · subst h
    obtain ⟨b, hb⟩ : ∃ b, fixd lo lo = b := ⟨_, rfl⟩
    have q2 : decide (lo ≤ (65535 : Int)) = b := by rw [← hb]; unfold fixd; rw [decide_eq_decide]; omega
    rw [hb]
    clear hb
    go_enter Try.func61, Try.ntmps61
    go_wp2_with fail
    go_ret
    exact ⟨rfl, rfl⟩
  · rw [fixd_no (fun h2 => h h2.1)]
    have q1 : (lo == hi) = false := by simpa using h
    have q2 : decide (lo = hi) = false := decide_eq_false h
    clear h
    go_enter Try.func61, Try.ntmps61
    go_wp2_with fail
    go_ret
    exact ⟨rfl, rfl⟩
theorem rnear_ok (k : Nat) (tx : Bool) (hi : Int) (w : World) (hk : k ≤ 8) : Calls Try.prog 63 #[.agg #[.int .i64 (k : Nat), .bool tx], .int .i64 hi] w fun e w' => e = .returned (.bool (near tx k hi)) ∧ Below w.heap.size w w' := by
  have h0 := (Below.refl w.heap.size w).alloc (Nat.le_refl _) (.cells #[.int .i64 (k : Nat), .bool tx] 70)
  cases tx with
  | false =>
    have e1 : near false k hi = false := rfl
    rw [e1]
    go_enter Try.func63, Try.ntmps63
    go_wp2_with fail
    go_ret
    exact ⟨rfl, h0⟩
  | true =>
    by_cases hh : 0 ≤ hi ∧ hi ≤ 65535
    · have HC := Lib.hid (fun w => close_ok hi w true (lNar_yes hh).symm)
      have hm := mul_small (a := hi) (k := k) (by omega) (by omega) (by omega) (by omega)
      obtain ⟨b, hb⟩ : ∃ b, near true k hi = b := ⟨_, rfl⟩
      have q1 : decide (hi * (k : Int) < 16) = b := by
        rw [← hb]
        unfold near
        rw [Bool.true_and, decide_eq_decide]
        omega
      rw [hb]
      clear hb hh
      go_enter Try.func63, Try.ntmps63
      go_wp2_with fail
      refine (HC.out _).mono ?_
      rintro e w1 ⟨rfl, rfl⟩
      go_wp2_with fail
      go_ret
      exact ⟨rfl, h0⟩
    · have HC := Lib.hid (fun w => close_ok hi w false (lNar_no hh).symm)
      have e1 : near true k hi = false := by unfold near; rw [Bool.true_and]; exact decide_eq_false (by omega)
      rw [e1]
      clear e1 hh
      go_enter Try.func63, Try.ntmps63
      go_wp2_with fail
      refine (HC.out _).mono ?_
      rintro e w1 ⟨rfl, rfl⟩
      go_wp2_with fail
      go_ret
      exact ⟨rfl, h0⟩
end Go.Proofs.Ytbbbgoigacledaa
