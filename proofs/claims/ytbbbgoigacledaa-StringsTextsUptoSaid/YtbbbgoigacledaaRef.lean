/-
  The reference's Put, Align, Octets and Bytes, over strings of 0 and 1.
-/
import Derived.Test.YtbbbgoigacledaaBuf
namespace Go.Proofs.Ytbbbgoigacledaa
open Go.RowKit
set_option linter.unusedVariables false
set_option linter.unusedSimpArgs false
set_option maxRecDepth 100000

theorem Buf.below {w w' : World} {base : Nat} {v : Value} {xs : List Value} (h : Buf w base v xs) (hb : Below w.heap.size w w') : Buf w' base v xs := by
  obtain ⟨g, cap, cur, fz, hv, hbase, hg, hf, r⟩ := h
  have hlt := (Array.getElem?_eq_some_iff.1 hg).1
  refine ⟨g, cap, cur, fz, hv, hbase, (hb.block g hlt).trans hg, fun j hj => ?_, r⟩
  rw [← hf j hj]
  exact World.frozen?_of_block (w := w) (hb.block g hlt)
theorem Buf.alloc {w : World} {base : Nat} {v : Value} {xs : List Value} (h : Buf w base v xs) (o : Obj) : Buf (w.alloc o) base v xs := h.below ((Below.refl _ _).alloc (Nat.le_refl _) o)
theorem new_one (w : World) {x y : Int} (h : x = y) : (w.alloc (.cells #[.int .u8 x] 5)).cell? ((⟨w.heap.size, 0, none⟩ : Addr).add 0) = some (.int .u8 y) := by
  rw [h, Addr.add_mid, cell_of_row _ _ _ _ _ _ (heap_alloc_new w _)]
  rfl
theorem chr_u64 (v s : Nat) (hv : v < 18446744073709551616) : (48 + bits BinOp.and IntKind.u64 ((v : Int) / 2 ^ s) 1) % 256 = (bch (v.testBit s) : Nat) := by
  have h1 : v / 2 ^ s < 18446744073709551616 := Nat.lt_of_le_of_lt (Nat.div_le_self _ _) hv
  have e1 : ((v : Int) / 2 ^ s) = ((v / 2 ^ s : Nat) : Int) := by rw [Int.natCast_ediv, Int.natCast_pow]; rfl
  rw [e1, show (1 : Int) = ((1 : Nat) : Int) from rfl, bits_and_u64_nat _ _ h1 (by omega), nat_mask1, Nat.testBit_eq_decide_div_mod_eq]
  have : v / 2 ^ s % 2 < 2 := Nat.mod_lt _ (by omega)
  by_cases h : v / 2 ^ s % 2 = 1
  · simp [h, bch]
  · have h0 : v / 2 ^ s % 2 = 0 := by omega
    simp [h0, bch]
theorem chr_u8 (v s : Nat) (hv : v < 256) : (48 + bits BinOp.and IntKind.u8 ((v : Int) / 2 ^ s) 1) % 256 = (bch (v.testBit s) : Nat) := by
  rw [and1_u8 v s hv]
  cases v.testBit s <;> simp [bch]
def RelP (w : World) (B : List Bool) (v k : Nat) (bv i : Value) (wr : World) : Prop := ∃ m : Nat, m ≤ k ∧ i = .int .i64 ((m : Int) - 1) ∧ Buf wr w.heap.size bv (bcells (B ++ (nb v k).take (k - m))) ∧ Below w.heap.size w wr
theorem relP_next {w w2 : World} {B : List Bool} {v k m : Nat} {bv : Value} (hm : m ≤ k) (hm0 : 0 < m) (h : Buf w2 w.heap.size bv (bcells (B ++ (nb v k).take (k - m)) ++ [.int .u8 (bch (v.testBit (m - 1)) : Nat)])) (hb : Below w.heap.size w w2) : RelP w B v k bv (.int .i64 ((m : Int) - 1 - 1)) w2 := by
  refine ⟨m - 1, by omega, by congr 1; omega, ?_, hb⟩
  have e : k - (m - 1) = (k - m) + 1 := by omega
  rw [e, nb_take_succ v k (k - m) (by omega), ← List.append_assoc, bcells_append (B ++ (nb v k).take (k - m)), show k - 1 - (k - m) = m - 1 by omega]
  exact h
theorem rput_ok (w : World) (B : List Bool) (v k : Nat) (hB : B.length ≤ 100000000) (hk : k ≤ 64) (hv : v < 2 ^ k) :
    Calls Try.prog 94 #[.string (bchars B), .int .u64 v, .int .i64 k] w fun e w' => e = .returned (.tuple #[.string (bchars (B ++ nb v k)), .int .i64 0]) ∧ Below w.heap.size w w' := by
  have hz : (v : Int) / 2 ^ k ≤ 0 := by
    have : (v : Int) / 2 ^ k = 0 := by
      rw [Int.ediv_eq_zero_of_lt (by omega) (by exact_mod_cast hv)]
    omega
  have hv64 : v < 18446744073709551616 := Nat.lt_of_lt_of_le hv (Nat.pow_le_pow_right (n := 2) (by omega) hk)
  by_cases h64 : k < 64
  · go_enter Try.func94, Try.ntmps94
    go_wp2_with (refine wpList_conv rfl (.tmp 28) rfl B (by omega) (by kernel_rfl) ?_; intro bv w1 hbuf hbel; have HBUF := Lib.hid hbuf; have HBEL := Lib.hid hbel; clear hbuf hbel)
    go_loopw [8, 9] (fun bv i wr => RelP w B v k bv i wr) (fun _ i _ => (intOf i + 1).toNat)
    case atStart => exact ⟨k, Nat.le_refl _, rfl, by simpa using HBUF.out, HBEL.out⟩
    case round =>
      obtain ⟨m, hm, rfl, hbuf, hbel⟩ := hrel
      have HBUF := Lib.hid hbuf
      have HBEL := Lib.hid hbel
      clear hbuf hbel
      by_cases hm0 : 0 < m
      · have HE := Lib.hid (chr_u64 v (m - 1) hv64)
        have hlen : (bcells (B ++ (nb v k).take (k - m))).length + 1 ≤ 1000000000 := by rw [bcells_length, List.length_append, List.length_take, nb_length]; omega
        go_wp2_with (at_builtin; refine wpList_push (w0 := w) rfl (.tmp 36) (.tmp 44) rfl _ _ rfl (HBUF.out.alloc _) (HBEL.out.alloc HBEL.out.size _) ⟨wr.heap.size, 0, none⟩ (.int .u8 (bch (v.testBit (m - 1)) : Nat)) rfl (new_one wr HE.out) rfl hlen ?_; intro bv' w2 hb2 hl2; have HB2 := Lib.hid hb2; have HL2 := Lib.hid hl2; clear hb2 hl2)
        go_roundw
        case rel => exact relP_next hm hm0 HB2.out HL2.out
        case measure => simp [intOf]; omega
      · obtain rfl : m = 0 := by omega
        have hback := conv_back wr _ _ _ HBUF.out
        rw [List.take_of_length_le (by rw [nb_length]; omega)] at hback
        go_wp2_with fail
        go_ret2
        exact ⟨rfl, HBEL.out⟩
  · obtain rfl : k = 64 := by omega
    have hz : (v : Int) / 2 ^ 64 ≤ 0 := hz
    clear hz
    go_enter Try.func94, Try.ntmps94
    go_wp2_with (refine wpList_conv rfl (.tmp 28) rfl B (by omega) (by kernel_rfl) ?_; intro bv w1 hbuf hbel; have HBUF := Lib.hid hbuf; have HBEL := Lib.hid hbel; clear hbuf hbel)
    go_loopw [8, 9] (fun bv i wr => RelP w B v 64 bv i wr) (fun _ i _ => (intOf i + 1).toNat)
    case atStart => exact ⟨64, Nat.le_refl _, rfl, by simpa using HBUF.out, HBEL.out⟩
    case round =>
      obtain ⟨m, hm, rfl, hbuf, hbel⟩ := hrel
      have HBUF := Lib.hid hbuf
      have HBEL := Lib.hid hbel
      clear hbuf hbel
      by_cases hm0 : 0 < m
      · have HE := Lib.hid (chr_u64 v (m - 1) hv64)
        have hlen : (bcells (B ++ (nb v 64).take (64 - m))).length + 1 ≤ 1000000000 := by rw [bcells_length, List.length_append, List.length_take, nb_length]; omega
        go_wp2_with (at_builtin; refine wpList_push (w0 := w) rfl (.tmp 36) (.tmp 44) rfl _ _ rfl (HBUF.out.alloc _) (HBEL.out.alloc HBEL.out.size _) ⟨wr.heap.size, 0, none⟩ (.int .u8 (bch (v.testBit (m - 1)) : Nat)) rfl (new_one wr HE.out) rfl hlen ?_; intro bv' w2 hb2 hl2; have HB2 := Lib.hid hb2; have HL2 := Lib.hid hl2; clear hb2 hl2)
        go_roundw
        case rel => exact relP_next hm hm0 HB2.out HL2.out
        case measure => simp [intOf]; omega
      · obtain rfl : m = 0 := by omega
        have hback := conv_back wr _ _ _ HBUF.out
        rw [List.take_of_length_le (by rw [nb_length]; omega)] at hback
        go_wp2_with fail
        go_ret2
        exact ⟨rfl, HBEL.out⟩
theorem rput_wide (w : World) (s : ByteArray) (v : Nat) (z : Int) (hz : widthB z = false) :
    Calls Try.prog 94 #[.string s, .int .u64 v, .int .i64 z] w fun e w' => e = .returned (.tuple #[.string s, .int .i64 1]) ∧ w = w' := by
  have hz' : z < 0 ∨ 64 < z := by
    simp [widthB] at hz
    omega
  rcases hz' with h | h
  · clear hz
    go_enter Try.func94, Try.ntmps94
    go_wp2_with fail
    go_ret2
    exact ⟨rfl, rfl⟩
  · clear hz
    have h0 : ¬ z < 0 := by omega
    go_enter Try.func94, Try.ntmps94
    go_wp2_with fail
    go_ret2
    exact ⟨rfl, rfl⟩
theorem rput_big (w : World) (s : ByteArray) (v k : Nat) (hk : k < 64) (hv : 2 ^ k ≤ v) :
    Calls Try.prog 94 #[.string s, .int .u64 v, .int .i64 k] w fun e w' => e = .returned (.tuple #[.string s, .int .i64 1]) ∧ w = w' := by
  have hz : 0 < (v : Int) / 2 ^ k := by
    have h1 : 1 ≤ v / 2 ^ k := by
      have := Nat.div_le_div_right (c := 2 ^ k) hv
      rwa [Nat.div_self (Nat.two_pow_pos k)] at this
    have h2 : (v : Int) / 2 ^ k = ((v / 2 ^ k : Nat) : Int) := by rw [Int.natCast_ediv, Int.natCast_pow]; rfl
    rw [h2]
    generalize v / 2 ^ k = q at h1
    omega
  clear hv
  go_enter Try.func94, Try.ntmps94
  go_wp2_with fail
  go_ret2
  exact ⟨rfl, rfl⟩

def slLen : Value → Nat
  | .slice _ n _ => n
  | _ => 0
def RelA (w : World) (B : List Bool) (bv : Value) (wr : World) : Prop := ∃ c : Nat, c ≤ (8 - B.length % 8) % 8 ∧ Buf wr w.heap.size bv (bcells (B ++ List.replicate c false)) ∧ Below w.heap.size w wr
theorem relA_next {w w2 : World} {B : List Bool} {c : Nat} {bv : Value} (hc : c < (8 - B.length % 8) % 8) (h : Buf w2 w.heap.size bv (bcells (B ++ List.replicate c false) ++ [.int .u8 48])) (hb : Below w.heap.size w w2) : RelA w B bv w2 := by
  refine ⟨c + 1, hc, ?_, hb⟩
  rw [List.replicate_succ', ← List.append_assoc, bcells_append (B ++ List.replicate c false)]
  exact h
theorem buf_len {w : World} {base : Nat} {v : Value} {xs : List Value} (h : Buf w base v xs) : slLen v = xs.length := by
  obtain ⟨g, cap, rfl, _⟩ := h.cell
  rfl
theorem ralignS_ok (w : World) (B : List Bool) (hB : B.length ≤ 100000000) :
    Calls Try.prog 36 #[.string (bchars B)] w fun e w' => e = .returned (.string (bchars (padded B))) ∧ Below w.heap.size w w' := by
  go_enter Try.func36, Try.ntmps36
  go_wp2_with (refine wpList_conv rfl (.tmp 4) rfl B (by omega) (by kernel_rfl) ?_; intro bv w1 hbuf hbel; have HBUF := Lib.hid hbuf; have HBEL := Lib.hid hbel; clear hbuf hbel)
  go_loopw [3] (fun bv wr => RelA w B bv wr) (fun bv _ => (8 - slLen bv % 8) % 8)
  case atStart => exact ⟨0, Nat.zero_le _, by simpa using HBUF.out, HBEL.out⟩
  case round =>
    obtain ⟨c, hc, hbuf, hbel⟩ := hrel
    have hxl : (bcells (B ++ List.replicate c false)).length = B.length + c := by rw [bcells_length, List.length_append, List.length_replicate]
    obtain ⟨g, cap, hbv, _⟩ := hbuf.cell
    rw [hxl] at hbv
    subst hbv
    have HBUF := Lib.hid hbuf
    have HBEL := Lib.hid hbel
    have HXL := Lib.hid hxl
    clear hbuf hbel hxl
    by_cases hc0 : c < (8 - B.length % 8) % 8
    · have hne : (((B.length : Int) + c) % 8 != 0) = true := by simp; omega
      go_wp2_with (at_builtin; refine wpList_push (w0 := w) rfl (.tmp 10) (.tmp 11) rfl _ _ rfl (HBUF.out.alloc _) (HBEL.out.alloc HBEL.out.size _) ⟨wr.heap.size, 0, none⟩ (.int .u8 48) rfl (new_one wr rfl) rfl (by rw [HXL.out]; omega) ?_; intro bv' w2 hb2 hl2; have hln := buf_len hb2; rw [List.length_append, HXL.out] at hln; have HLN := Lib.hid hln; have HB2 := Lib.hid hb2; have HL2 := Lib.hid hl2; clear hb2 hl2 hln)
      go_roundw
      case rel => exact relA_next hc0 HB2.out HL2.out
      case measure =>
        have h1 := HLN.out
        simp only [List.length_singleton] at h1
        simp only [slLen] at h1 ⊢
        rw [h1]
        omega
    · have hce : c = (8 - B.length % 8) % 8 := by omega
      have hne : (((B.length : Int) + c) % 8 != 0) = false := by simp; omega
      have hback := conv_back wr _ _ _ HBUF.out
      rw [hce] at hback
      rw [show B ++ List.replicate ((8 - B.length % 8) % 8) false = padded B from rfl] at hback
      rw [← hce] at hback
      clear hce
      go_wp2_with fail
      go_ret
      exact ⟨rfl, HBEL.out⟩
end Go.Proofs.Ytbbbgoigacledaa
