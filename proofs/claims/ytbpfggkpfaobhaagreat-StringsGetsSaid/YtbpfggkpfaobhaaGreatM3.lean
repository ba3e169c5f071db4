import Derived.Test.YtbpfggkpfaobhaaGreatM2
import Derived.Lib.ConvBytes
import Derived.ArgAppend
import Derived.Deep.AppendLies
import Derived.Deep.RegionHeld3
import Derived.Deep.QuietTactic
import Derived.BigQuiet
/-
  A slice of octets of one's own that may grow, and the reference's strings of 0 and 1.
-/
namespace Go.Proofs.YtbpfggkpfaobhaaGreat
open Go.RowKit
set_option linter.unusedVariables false
set_option linter.unusedSimpArgs false
set_option maxRecDepth 100000

/-- the slice v holds the cells xs, in a block from base on that may be written -/
def Buf (w : World) (base : Nat) (v : Value) (xs : List Value) : Prop :=
  ∃ g cap cur fz, v = .slice (some ⟨g, 0, none⟩) xs.length cap ∧ base ≤ g ∧ w.heap[g]? = some (.cells cur 5 fz) ∧ (∀ j, j < cap → w.frozen? ⟨g, j, none⟩ = false) ∧ xs.length ≤ cap ∧ cur.size = cap ∧ cur.toList.take xs.length = xs
theorem Buf.cell {w : World} {base : Nat} {v : Value} {xs : List Value} (h : Buf w base v xs) : ∃ g cap, v = .slice (some ⟨g, 0, none⟩) xs.length cap ∧ ∀ j u, xs[j]? = some u → w.cell? ⟨g, j, none⟩ = some u := by
  obtain ⟨g, cap, cur, fz, hv, hb, hg, hf, hl, hs, ht⟩ := h
  refine ⟨g, cap, hv, fun j u hj => ?_⟩
  rw [cell_of_row w g j _ _ _ hg]
  have hjl := (List.getElem?_eq_some_iff.1 hj).1
  rw [← ht, List.getElem?_take, if_pos hjl, Array.getElem?_toList] at hj
  exact hj
theorem wpList_push {ops : Array Oper} {rest : List Oper} {o : Oper} {a : Act} {Q : Exit → Act → World → Prop} {w w0 : World} (hgd : o.guard = none) (s x : Operand)
    (ho : o.op = Op.call { callee := Callee.builtin Builtin.append, args := #[s, x], argTypes := #[22, 22] })
    (v : Value) (xs : List Value) (hs : a.eval s = v) (hbuf : Buf w w0.heap.size v xs) (hb : Below w0.heap.size w0 w) (ad : Addr) (u : Value) (hx : a.eval x = .slice (some ad) 1 1) (hc : w.cell? (ad.add 0) = some u) (h1 : u.oneCell' = true) (hlen : xs.length + 1 ≤ 1000000000)
    (h : ∀ v' w', Buf w' w0.heap.size v' (xs ++ [u]) → Below w0.heap.size w0 w' → wpList Tryz.prog ops Q rest (a.put o.dst v') w') : wpList Tryz.prog ops Q (o :: rest) a w := by
  obtain ⟨i0, hi, hz0, hz1, hz2⟩ := info_parts info_u8
  obtain ⟨g, cap, cur, fz, hv, hbase, hg, hf, hl, hsz, ht⟩ := hbuf
  have hcells : ∀ j u, xs[j]? = some u → w.cell? ⟨g, 0 + j, none⟩ = some u := by
    intro j u hj
    rw [Nat.zero_add, cell_of_row w g j _ _ _ hg]
    have hjl := (List.getElem?_eq_some_iff.1 hj).1
    rw [← ht, List.getElem?_take, if_pos hjl, Array.getElem?_toList] at hj
    exact hj
  refine wpList_append_arg w hgd s x 22 ho 5 i0 (.int .u8 0) 1 1 Tryz.underlying22 hi hz0 hz1 hz2 rfl (by decide) g 0 xs.length cap xs (hs.trans hv) (by simp) hcells ad 1 1 [u] hx rfl
    (fun j u' hj => ?_) (fun u' hu => ?_) (fun hroom j hj => ?_) (by unfold maxLen; omega) (by omega) (fun hroom => ?_) (fun hgrow v' w' hown hgr => ?_)
  · cases j with
    | zero => simp at hj; subst hj; exact hc
    | succ j => simp at hj
  · simp at hu; subst hu; exact h1
  · have hj0 : j = 0 := by simpa using hj
    subst hj0
    have e : 0 + xs.length * 1 + 0 = xs.length := by omega
    rw [e]
    refine ⟨?_, hf _ (by omega)⟩
    have hlt : xs.length < cur.size := by rw [hsz]; exact hroom
    rw [cell_of_row w g _ _ _ _ hg, Array.getElem?_eq_getElem hlt]
    rfl
  · have e : 0 + xs.length * 1 = xs.length := by omega
    rw [e]
    have hset : (w.setCell ⟨g, xs.length, none⟩ u).heap[g]? = some (.cells (cur.setIfInBounds xs.length u) 5 fz) := by
      rw [setCell_eq_setRow w g xs.length cur _ fz u hg]
      exact setRow_heap w g cur _ _ _ hg
    refine h _ _ ⟨g, cap, cur.setIfInBounds xs.length u, fz, by simp, hbase, hset, fun j hj => ?_, by simpa using hroom, by simpa using hsz, ?_⟩ (hb.setCell hbase u)
    · show (w.setCell ⟨g, xs.length, none⟩ u).frozen? ⟨g, j, none⟩ = false
      rw [World.frozen?_setCell]; exact hf j hj
    · have hlt : xs.length < cur.toList.length := by
        have h2 : cur.toList.length = cap := by rw [← hsz]; exact Array.length_toList
        omega
      rw [Array.toList_setIfInBounds, List.length_append, List.length_singleton]
      rw [List.take_succ_eq_append_getElem (by rw [List.length_set]; exact hlt), List.getElem_set_self, List.take_set_of_le (Nat.le_refl _), ht]
  · obtain ⟨h2, h3⟩ := hown
    have hsize := hb.size
    rcases h3 with ⟨_, h4⟩ | ⟨g', cap', cur', hv', hb', hg', hn', _, hs', ht'⟩
    · omega
    · refine h _ _ ⟨g', cap', cur', (0, 0), by rw [List.length_append]; exact hv', by omega, hg', fun j _ => frozen_of_row _ _ _ _ _ hg', by rw [List.length_append]; exact hn', by rw [hs', Nat.mul_one], ?_⟩ (hb.grown hgr hsize (fun k hk => by cases hk))
      rw [List.length_append]
      rw [Nat.mul_one] at ht'
      exact ht'

/-! ### the reference's strings of bits -/
def bch (b : Bool) : Nat := if b then 49 else 48
def bcells (B : List Bool) : List Value := B.map fun b => Value.int .u8 (bch b : Nat)
def bchars (B : List Bool) : ByteArray := ⟨(B.map fun b => UInt8.ofNat (bch b)).toArray⟩
theorem bchars_size (B : List Bool) : (bchars B).size = B.length := by simp [bchars, ByteArray.size]
theorem bcells_length (B : List Bool) : (bcells B).length = B.length := by simp [bcells]
theorem bcells_append (A B : List Bool) : bcells (A ++ B) = bcells A ++ bcells B := by simp [bcells]
theorem buf_conv (w : World) (B : List Bool) (hB : B.length ≤ 1000000000) :
    ∃ v w1, (convert 9 22 (.string (bchars B))).run Tryz.prog w = .ok v w1 ∧ Buf w1 w.heap.size v (bcells B) ∧ Below w.heap.size w w1 := by
  refine ⟨_, _, Lib.run_convert_string_bytes (P := Tryz.prog) w 9 22 5 (bchars B) Tryz.underlying9 Tryz.underlying22 Tryz.underlying5, ?_, ?_⟩
  · have hge := grownCap_ge w (bchars B).size 0 5
    have hsz : (Lib.bytesCells w 5 (bchars B)).size = grownCap w (bchars B).size 0 5 := by
      simp only [Lib.bytesCells, Array.size_append, Array.size_map, Array.size_replicate]
      have : (bchars B).data.size = (bchars B).size := rfl
      omega
    refine ⟨w.heap.size, _, _, _, by rw [bcells_length, bchars_size], Nat.le_refl _, Lib.bytesWorld_at_new w _ _, fun j hj => ?_, by rw [bcells_length, ← bchars_size]; exact hge, hsz, ?_⟩
    · have h1 := Lib.bytesWorld_at_new w 5 (bchars B)
      simp only [World.frozen?, h1]
      rw [hsz]
      simp
      omega
    · rw [bcells_length, Lib.bytesCells, Array.toList_append, List.take_append_of_le_length (by simp [bchars])]
      rw [List.take_of_length_le (by simp [bchars])]
      simp only [bchars, bcells, Array.toList_map, List.map_map]
      apply List.map_congr_left
      intro b _
      cases b <;> rfl
  · refine ⟨rfl, rfl, rfl, by rw [Lib.bytesWorld_size]; omega, fun k hk => Lib.bytesWorld_at_old w _ _ k hk⟩
theorem wpList_conv {ops : Array Oper} {rest : List Oper} {o : Oper} {a : Act} {Q : Exit → Act → World → Prop} {w : World} (hgd : o.guard = none) (x : Operand) (ho : o.op = Op.convert 9 22 x) (B : List Bool) (hB : B.length ≤ 1000000000) (hx : a.eval x = .string (bchars B))
    (h : ∀ v w1, Buf w1 w.heap.size v (bcells B) → Below w.heap.size w w1 → wpList Tryz.prog ops Q rest (a.put o.dst v) w1) : wpList Tryz.prog ops Q (o :: rest) a w := by
  obtain ⟨v, w1, hrun, h1, h2⟩ := buf_conv w B hB
  refine wpList_plain hgd fun K hK => ?_
  unfold Oper.wp
  have e : (execOp a.eval o).run Tryz.prog w = .ok (.value v) w1 := by
    unfold execOp
    simp only [ho, hx, Sem.run_bind, hrun, Sem.run_pure, Result.andThen_ok]
  rw [e]
  exact hK _ _ (h v w1 h1 h2)
theorem conv_back (w : World) (base : Nat) (v : Value) (B : List Bool) (h : Buf w base v (bcells B)) : (convert 22 9 v).run Tryz.prog w = .ok (.string (bchars B)) w := by
  obtain ⟨g, cap, rfl, hc⟩ := h.cell
  have e : strOfNums (B.map fun b => ((bch b : Nat) : Int)) = bchars B := by
    unfold strOfNums bchars
    congr 2
    rw [List.map_map]
    rfl
  rw [← e]
  refine run_convert_bytes_arg w 22 5 Tryz.underlying22 Tryz.underlying5 g 0 _ cap _ (by rw [List.length_map, bcells_length]) (fun i hi => ?_) 9 Tryz.underlying9
  rw [Nat.zero_add]
  refine hc i _ ?_
  rw [bcells_length] at hi
  simp [bcells, List.getD_eq_getElem?_getD, hi]
end Go.Proofs.YtbpfggkpfaobhaaGreat

/-
  The reference's Put, Align, Octets and Bytes, over strings of 0 and 1.
-/
namespace Go.Proofs.YtbpfggkpfaobhaaGreat
open Go.RowKit
set_option linter.unusedVariables false
set_option linter.unusedSimpArgs false
set_option maxRecDepth 100000

theorem Buf.below {w w' : World} {base : Nat} {v : Value} {xs : List Value} (h : Buf w base v xs) (hb : Below w.heap.size w w') : Buf w' base v xs := by
  obtain ⟨g, cap, cur, fz, hv, hbase, hg, hf, r⟩ := h
  have hlt := (Array.getElem?_eq_some_iff.1 hg).1
  refine ⟨g, cap, cur, fz, hv, hbase, (hb.block g hlt).trans hg, fun j hj => ?_, r⟩
  rw [← hf j hj]
  exact World.frozen?_of_block (w := w) (hb.block g hlt)
theorem Buf.alloc {w : World} {base : Nat} {v : Value} {xs : List Value} (h : Buf w base v xs) (o : Obj) : Buf (w.alloc o) base v xs := h.below ((Below.refl _ _).alloc (Nat.le_refl _) o)
theorem new_one (w : World) {x y : Int} (h : x = y) : (w.alloc (.cells #[.int .u8 x] 5)).cell? ((⟨w.heap.size, 0, none⟩ : Addr).add 0) = some (.int .u8 y) := by
  rw [h, Addr.add_mid, cell_of_row _ _ _ _ _ _ (heap_alloc_new w _)]
  rfl
theorem chr_u64 (v s : Nat) (hv : v < 18446744073709551616) : (48 + bits BinOp.and IntKind.u64 ((v : Int) / 2 ^ s) 1) % 256 = (bch (v.testBit s) : Nat) := by
  have h1 : v / 2 ^ s < 18446744073709551616 := Nat.lt_of_le_of_lt (Nat.div_le_self _ _) hv
  have e1 : ((v : Int) / 2 ^ s) = ((v / 2 ^ s : Nat) : Int) := by rw [Int.natCast_ediv, Int.natCast_pow]; rfl
  rw [e1, show (1 : Int) = ((1 : Nat) : Int) from rfl, bits_and_u64_nat _ _ h1 (by omega), nat_mask1, Nat.testBit_eq_decide_div_mod_eq]
  have : v / 2 ^ s % 2 < 2 := Nat.mod_lt _ (by omega)
  by_cases h : v / 2 ^ s % 2 = 1
  · simp [h, bch]
  · have h0 : v / 2 ^ s % 2 = 0 := by omega
    simp [h0, bch]
theorem chr_u8 (v s : Nat) (hv : v < 256) : (48 + bits BinOp.and IntKind.u8 ((v : Int) / 2 ^ s) 1) % 256 = (bch (v.testBit s) : Nat) := by
  rw [and1_u8 v s hv]
  cases v.testBit s <;> simp [bch]
def RelP (w : World) (B : List Bool) (v k : Nat) (bv i : Value) (wr : World) : Prop := ∃ m : Nat, m ≤ k ∧ i = .int .i64 ((m : Int) - 1) ∧ Buf wr w.heap.size bv (bcells (B ++ (nb v k).take (k - m))) ∧ Below w.heap.size w wr
theorem relP_next {w w2 : World} {B : List Bool} {v k m : Nat} {bv : Value} (hm : m ≤ k) (hm0 : 0 < m) (h : Buf w2 w.heap.size bv (bcells (B ++ (nb v k).take (k - m)) ++ [.int .u8 (bch (v.testBit (m - 1)) : Nat)])) (hb : Below w.heap.size w w2) : RelP w B v k bv (.int .i64 ((m : Int) - 1 - 1)) w2 := by
  refine ⟨m - 1, by omega, by congr 1; omega, ?_, hb⟩
  have e : k - (m - 1) = (k - m) + 1 := by omega
  rw [e, nb_take_succ v k (k - m) (by omega), ← List.append_assoc, bcells_append (B ++ (nb v k).take (k - m)), show k - 1 - (k - m) = m - 1 by omega]
  exact h
def slLen : Value → Nat
  | .slice _ n _ => n
  | _ => 0
def RelA (w : World) (B : List Bool) (bv : Value) (wr : World) : Prop := ∃ c : Nat, c ≤ (8 - B.length % 8) % 8 ∧ Buf wr w.heap.size bv (bcells (B ++ List.replicate c false)) ∧ Below w.heap.size w wr
theorem relA_next {w w2 : World} {B : List Bool} {c : Nat} {bv : Value} (hc : c < (8 - B.length % 8) % 8) (h : Buf w2 w.heap.size bv (bcells (B ++ List.replicate c false) ++ [.int .u8 48])) (hb : Below w.heap.size w w2) : RelA w B bv w2 := by
  refine ⟨c + 1, hc, ?_, hb⟩
  rw [List.replicate_succ', ← List.append_assoc, bcells_append (B ++ List.replicate c false)]
  exact h
theorem buf_len {w : World} {base : Nat} {v : Value} {xs : List Value} (h : Buf w base v xs) : slLen v = xs.length := by
  obtain ⟨g, cap, rfl, _⟩ := h.cell
  rfl
theorem ralignS_ok (w : World) (B : List Bool) (hB : B.length ≤ 100000000) :
    Calls Tryz.prog 101 #[.string (bchars B)] w fun e w' => e = .returned (.string (bchars (padded B))) ∧ Below w.heap.size w w' := by
  go_enter Tryz.func101, Tryz.ntmps101
  go_wp2_with (refine wpList_conv rfl (.tmp 4) rfl B (by omega) (by kernel_rfl) ?_; intro bv w1 hbuf hbel; have HBUF := Lib.hid hbuf; have HBEL := Lib.hid hbel; clear hbuf hbel)
  go_loopw [3] (fun bv wr => RelA w B bv wr) (fun bv _ => (8 - slLen bv % 8) % 8)
  case atStart => exact ⟨0, Nat.zero_le _, by simpa using HBUF.out, HBEL.out⟩
  case round =>
    obtain ⟨c, hc, hbuf, hbel⟩ := hrel
    have hxl : (bcells (B ++ List.replicate c false)).length = B.length + c := by rw [bcells_length, List.length_append, List.length_replicate]
    obtain ⟨g, cap, hbv, _⟩ := hbuf.cell
    rw [hxl] at hbv
    subst hbv
    have HBUF := Lib.hid hbuf
    have HBEL := Lib.hid hbel
    have HXL := Lib.hid hxl
    clear hbuf hbel hxl
    by_cases hc0 : c < (8 - B.length % 8) % 8
    · have hne : (((B.length : Int) + c) % 8 != 0) = true := by simp; omega
      go_wp2_with (at_builtin; refine wpList_push (w0 := w) rfl (.tmp 10) (.tmp 11) rfl _ _ rfl (HBUF.out.alloc _) (HBEL.out.alloc HBEL.out.size _) ⟨wr.heap.size, 0, none⟩ (.int .u8 48) rfl (new_one wr rfl) rfl (by rw [HXL.out]; omega) ?_; intro bv' w2 hb2 hl2; have hln := buf_len hb2; rw [List.length_append, HXL.out] at hln; have HLN := Lib.hid hln; have HB2 := Lib.hid hb2; have HL2 := Lib.hid hl2; clear hb2 hl2 hln)
      go_roundw
      case rel => exact relA_next hc0 HB2.out HL2.out
      case measure =>
        have h1 := HLN.out
        simp only [List.length_singleton] at h1
        simp only [slLen] at h1 ⊢
        rw [h1]
        omega
    · have hce : c = (8 - B.length % 8) % 8 := by omega
      have hne : (((B.length : Int) + c) % 8 != 0) = false := by simp; omega
      have hback := conv_back wr _ _ _ HBUF.out
      rw [hce] at hback
      rw [show B ++ List.replicate ((8 - B.length % 8) % 8) false = padded B from rfl] at hback
      rw [← hce] at hback
      clear hce
      go_wp2_with fail
      go_ret
      exact ⟨rfl, HBEL.out⟩
end Go.Proofs.YtbpfggkpfaobhaaGreat

/-
  The reference's Octets and Bytes.
-/
namespace Go.Proofs.YtbpfggkpfaobhaaGreat
open Go.RowKit
set_option linter.unusedVariables false
set_option linter.unusedSimpArgs false
set_option maxRecDepth 100000

def RelO (w : World) (B : List Bool) (l : List Nat) (bv i : Value) (wr : World) : Prop := ∃ j : Nat, j ≤ l.length ∧ i = .int .i64 j ∧ Buf wr w.heap.size bv (bcells (B ++ bitsOf (l.take j))) ∧ Below w.heap.size w wr
theorem rocts_at (w : World) (B : List Bool) (g o cap : Nat) (l : List Nat) (hd : DataAt w g o l) (hB : B.length ≤ 100000000) (hl : l.length ≤ 10000000) :
    Calls Tryz.prog 25 #[.string (bchars B), .slice (some ⟨g, o, none⟩) l.length cap] w fun e w' => e = .returned (.string (bchars (B ++ bitsOf l))) ∧ Below w.heap.size w w' := by
  have HD := Lib.hid hd
  clear hd
  go_enter Tryz.func25, Tryz.ntmps25
  go_wp2_with (refine wpList_conv rfl (.tmp 8) rfl B (by omega) (by kernel_rfl) ?_; intro bv w1 hbuf hbel; have HBUF := Lib.hid hbuf; have HBEL := Lib.hid hbel; clear hbuf hbel)
  go_loopw [5, 6] (fun bv i wr => RelO w B l bv i wr) (fun _ i _ => l.length - (intOf i).toNat)
  case atStart => exact ⟨0, Nat.zero_le _, rfl, by simpa [bitsOf] using HBUF.out, HBEL.out⟩
  case round =>
    obtain ⟨j, hj, rfl, hbuf, hbel⟩ := hrel
    have HBUF1 := Lib.hid hbuf
    have HBEL1 := Lib.hid hbel
    clear hbuf hbel
    by_cases hlt : j < l.length
    · have hb8 := HD.out.byte j
      obtain ⟨z, hz⟩ : ∃ z, l.getD j 0 = z := ⟨_, rfl⟩
      have hcz : ∀ w', Below w.heap.size w w' → w'.cell? ⟨g, o + j, none⟩ = some (.int .u8 z) := fun w' h => by rw [← hz]; exact (HD.out.below h).cell j hlt
      have HCZ := Lib.hid hcz
      have HZ := Lib.hid hz
      rw [hz] at hb8
      clear hcz hz
      go_wp2_with fail
      obtain ⟨wo, rfl⟩ : ∃ wo : World, wo = wr := ⟨_, rfl⟩
      go_loopw [5, 7] (fun bv i wr => RelP w (B ++ bitsOf (l.take j)) z 8 bv i wr) (fun _ i _ => (intOf i + 1).toNat)
      case atStart => exact ⟨8, Nat.le_refl _, rfl, by simpa using HBUF1.out, HBEL1.out⟩
      case round =>
        obtain ⟨m, hm, rfl, hbuf, hbel⟩ := hrel
        have HBUF := Lib.hid hbuf
        have HBEL := Lib.hid hbel
        clear hbuf hbel
        by_cases hm0 : 0 < m
        · have HE := Lib.hid (chr_u8 z (m - 1) hb8)
          have hlen : (bcells (B ++ bitsOf (l.take j) ++ (nb z 8).take (8 - m))).length + 1 ≤ 1000000000 := by rw [bcells_length, List.length_append, List.length_append, List.length_take, nb_length, bitsOf_length, List.length_take]; omega
          have hc1 := HCZ.out _ HBEL.out
          go_wp2_with (at_builtin; refine wpList_push (w0 := w) rfl (.tmp 20) (.tmp 30) rfl _ _ rfl (HBUF.out.alloc _) (HBEL.out.alloc HBEL.out.size _) ⟨wr.heap.size, 0, none⟩ (.int .u8 (bch (z.testBit (m - 1)) : Nat)) rfl (new_one wr HE.out) rfl hlen ?_; intro bv' w2 hb2 hl2; have HB2 := Lib.hid hb2; have HL2 := Lib.hid hl2; clear hb2 hl2)
          go_roundw
          case rel => exact relP_next hm hm0 HB2.out HL2.out
          case measure => simp [intOf]; omega
        · obtain rfl : m = 0 := by omega
          have hb3 := HBUF.out
          have e8 : (nb z 8).take (8 - 0) = nb z 8 := List.take_of_length_le (by rw [nb_length]; omega)
          have e9 : bitsOf (l.take j) ++ nb z 8 = bitsOf (l.take (j + 1)) := by rw [← HZ.out, ← bitsOf_take_succ l j hlt]
          rw [e8, List.append_assoc, e9] at hb3
          clear e8 e9
          have HB3 := Lib.hid hb3
          clear hb3
          go_wp2_with fail
          go_roundw
          case rel => exact ⟨j + 1, by omega, by go_num, HB3.out, HBEL.out⟩
          case measure => simp [intOf]; omega
    · obtain rfl : j = l.length := by omega
      have hback := conv_back wr _ _ _ HBUF1.out
      rw [List.take_of_length_le (Nat.le_refl _)] at hback
      go_wp2_with fail
      go_ret
      exact ⟨rfl, HBEL1.out⟩
theorem rocts_none (w : World) (B : List Bool) (a : Option Addr) (cap : Nat) (hB : B.length ≤ 100000000) :
    Calls Tryz.prog 25 #[.string (bchars B), .slice a 0 cap] w fun e w' => e = .returned (.string (bchars B)) ∧ Below w.heap.size w w' := by
  go_enter Tryz.func25, Tryz.ntmps25
  go_wp2_with (refine wpList_conv rfl (.tmp 8) rfl B (by omega) (by kernel_rfl) ?_; intro bv w1 hbuf hbel; have HBUF := Lib.hid hbuf; have HBEL := Lib.hid hbel; clear hbuf hbel)
  have hback := conv_back w1 _ _ _ HBUF.out
  refine wp_loop_once ?_
  go_wp2_with fail
  go_ret
  exact ⟨rfl, HBEL.out⟩
theorem rocts_sl (w : World) (B : List Bool) (s : Value) (l : List Nat) (hs : SlAt w s l) (hB : B.length ≤ 100000000) (hl : l.length ≤ 10000000) :
    Calls Tryz.prog 25 #[.string (bchars B), s] w fun e w' => e = .returned (.string (bchars (B ++ bitsOf l))) ∧ Below w.heap.size w w' := by
  rcases hs with ⟨g, o, cap, rfl, hd⟩ | ⟨rfl, a, cap, rfl⟩
  · exact rocts_at w B g o cap l hd hB hl
  · have := rocts_none w B a cap hB
    simpa [bitsOf] using this

/-- the octets that i bits of B are, the last one begun -/
def part (B : List Bool) (i : Nat) : List Nat := (List.range ((i + 7) / 8)).map fun j => num ((B.drop (8 * j)).take (min 8 (i - 8 * j)))
theorem part_length (B : List Bool) (i : Nat) : (part B i).length = (i + 7) / 8 := by simp [part]
theorem part_new (B : List Bool) (i : Nat) (h : i % 8 = 0) : part B i ++ [0] = (List.range (i / 8 + 1)).map fun j => num ((B.drop (8 * j)).take (min 8 (i - 8 * j))) := by
  rw [List.range_succ, List.map_append]
  unfold part
  rw [show (i + 7) / 8 = i / 8 by omega]
  congr 1
  simp [show i - 8 * (i / 8) = 0 by omega, num]
theorem part_set (B : List Bool) (i : Nat) (h : i < B.length) : ((List.range (i / 8 + 1)).map fun j => num ((B.drop (8 * j)).take (min 8 (i - 8 * j)))).set (i / 8) (2 * num ((B.drop (8 * (i / 8))).take (i % 8)) + (B.getD i false).toNat) = part B (i + 1) := by
  apply List.ext_getElem
  · simp [part]; omega
  · intro k h1 h2
    simp at h1
    rw [List.getElem_set]
    simp only [part, List.getElem_map, List.getElem_range]
    by_cases hk : i / 8 = k
    · rw [if_pos hk]
      subst hk
      rw [show min 8 (i + 1 - 8 * (i / 8)) = i % 8 + 1 by omega, List.take_succ_eq_append_getElem (by rw [List.length_drop]; omega), num_snoc, List.getElem_drop]
      congr 2
      rw [List.getD_eq_getElem?_getD, List.getElem?_eq_getElem h]
      simp only [Option.getD_some]
      congr 1
      omega
    · rw [if_neg hk]
      congr 2
      omega
theorem part_full (B : List Bool) (h : B.length % 8 = 0) : part B B.length = octs B := by
  unfold part octs
  apply List.map_congr_left
  intro j hj
  simp at hj
  unfold oct
  congr 1
  apply List.ext_getElem
  · simp; omega
  · intro k h1 h2
    simp at h1 h2
    simp [List.getD_eq_getElem?_getD, show 8 * j + k < B.length by omega]
theorem bchars_data (B : List Bool) : (bchars B).data.toList = B.map fun b => UInt8.ofNat (bch b) := rfl
theorem bchars_at (B : List Bool) (i : Nat) (h : i < B.length) (h' : i < (bchars B).size) : ((bchars B)[i]'h').toNat = bch (B.getD i false) := by
  have e : (bchars B)[i]'h' = UInt8.ofNat (bch (B.getD i false)) := by
    have h1 : (bchars B).data.toList[i]? = some (UInt8.ofNat (bch (B.getD i false))) := by
      rw [bchars_data, List.getElem?_map, List.getElem?_eq_getElem h, List.getD_eq_getElem?_getD, List.getElem?_eq_getElem h]
      rfl
    have h2 : (bchars B).data.toList[i]? = some ((bchars B)[i]'h') := List.getElem?_eq_getElem (by rw [bchars_data, List.length_map]; exact h)
    exact Option.some.inj (h2.symm.trans h1)
  rw [e]
  generalize B.getD i false = t
  cases t <;> rfl
theorem info_u8' : (Tryz.prog.info? 5).map (·.size) = some 1 := by kernel_rfl
/-- a row of octets of the call's own -/
def RelB (w : World) (B : List Bool) (ov i : Value) (wr : World) : Prop := ∃ k : Nat, k ≤ B.length ∧ i = .int .i64 k ∧ wr.ownsRow w.heap.size 5 1 ov (part B k).length (u8s (part B k)) ∧ Below w.heap.size w wr
def partx (B : List Bool) (i : Nat) : List Nat := (List.range (i / 8 + 1)).map fun j => num ((B.drop (8 * j)).take (min 8 (i - 8 * j)))
theorem partx_part (B : List Bool) (i : Nat) (h : i % 8 ≠ 0) : part B i = partx B i := by
  unfold part partx
  rw [show (i + 7) / 8 = i / 8 + 1 by omega]
theorem partx_at (B : List Bool) (i : Nat) : (partx B i)[i / 8]? = some (num ((B.drop (8 * (i / 8))).take (i % 8))) := by
  unfold partx
  rw [List.getElem?_map, List.getElem?_range (by omega)]
  simp only [Option.map_some]
  rw [show min 8 (i - 8 * (i / 8)) = i % 8 by omega]
theorem u8s_append (a b : List Nat) : u8s (a ++ b) = u8s a ++ u8s b := by simp [u8s]
theorem u8s_set (a : List Nat) (j x : Nat) : u8s (a.set j x) = (u8s a).set j (.int .u8 (x : Int)) := by simp [u8s, List.map_set]
theorem u8s_length (a : List Nat) : (u8s a).length = a.length := by simp [u8s]
/-- the row in the middle of a round -/
def MidB (w : World) (B : List Bool) (k : Nat) (v : Value) (wr : World) : Prop := ∃ g cap, v = .slice (some ⟨g, 0, none⟩) (k / 8 + 1) cap ∧ wr.ownsRow w.heap.size 5 1 v (k / 8 + 1) (u8s (partx B k)) ∧ Below w.heap.size w wr
theorem midB_old {w wr : World} {B : List Bool} {k : Nat} {v : Value} (h8 : k % 8 ≠ 0) (h : wr.ownsRow w.heap.size 5 1 v (part B k).length (u8s (part B k))) (hb : Below w.heap.size w wr) : MidB w B k v wr := by
  rw [part_length, show (k + 7) / 8 = k / 8 + 1 by omega, partx_part B k h8] at h
  obtain ⟨g, cap, hv, _⟩ := h.form (by omega)
  exact ⟨g, cap, hv, h, hb⟩
theorem midB_new {w wr w4 : World} {B : List Bool} {k : Nat} {v v' : Value} {ob : Obj} (h8 : k % 8 = 0) (hold : wr.ownsRow w.heap.size 5 1 v (part B k).length (u8s (part B k))) (hb : Below w.heap.size w wr)
    (h : w4.ownsRow w.heap.size 5 1 v' ((part B k).length + 1) (u8s (part B k) ++ [.int .u8 0])) (hgr : (wr.alloc ob).grownBy w4 v.ownBlock) : MidB w B k v' w4 := by
  have h2 := hold.alloc ob
  have hb4 : Below w.heap.size w w4 := (hb.alloc hb.size ob).grown hgr (by have := hb.size; simp; omega) (fun k hk => (h2.lt k hk).1)
  have e : u8s (part B k) ++ [.int .u8 0] = u8s (partx B k) := by
    show u8s (part B k) ++ u8s [0] = _
    rw [← u8s_append, part_new B k h8]
    rfl
  rw [e, part_length, show (k + 7) / 8 + 1 = k / 8 + 1 by omega] at h
  obtain ⟨g, cap, hv, _⟩ := h.form (by omega)
  exact ⟨g, cap, hv, h, hb4⟩
theorem midB_cell {w wr : World} {B : List Bool} {k g cap : Nat} (h : wr.ownsRow w.heap.size 5 1 (.slice (some ⟨g, 0, none⟩) (k / 8 + 1) cap) (k / 8 + 1) (u8s (partx B k))) : wr.cell? ⟨g, k / 8, none⟩ = some (.int .u8 (num ((B.drop (8 * (k / 8))).take (k % 8)) : Nat)) := by
  rw [h.cellAt (k / 8) (by omega)]
  unfold u8s
  rw [List.getElem?_map, partx_at]
  rfl
theorem midB_next {w wr : World} {B : List Bool} {k g cap z : Nat} {t : Bool} (hk : k < B.length) (h : wr.ownsRow w.heap.size 5 1 (.slice (some ⟨g, 0, none⟩) (k / 8 + 1) cap) (k / 8 + 1) (u8s (partx B k))) (hb : Below w.heap.size w wr) (hg : w.heap.size ≤ g) (i : Value) (hi : i = .int .i64 ((k : Int) + 1))
    (y : Int) (hz : num ((B.drop (8 * (k / 8))).take (k % 8)) = z) (ht : B.getD k false = t) (hy : y = 2 * (z : Int) + (t.toNat : Nat)) : RelB w B (.slice (some ⟨g, 0, none⟩) (k / 8 + 1) cap) i (wr.setCell ⟨g, k / 8, none⟩ (.int .u8 y)).drew := by
  obtain rfl : y = ((2 * z + t.toNat : Nat) : Int) := by rw [hy]; simp
  subst hz ht
  refine ⟨k + 1, hk, by rw [hi]; rfl, ?_, (hb.setCell (by show w.heap.size ≤ g; exact hg) _).drew⟩
  have h1 := (h.stored (k / 8) (.int .u8 ((2 * num ((B.drop (8 * (k / 8))).take (k % 8)) + (B.getD k false).toNat : Nat) : Int))).1
  rw [← u8s_set] at h1
  unfold partx at h1
  rw [part_set B k hk] at h1
  rw [part_length, show (k + 1 + 7) / 8 = k / 8 + 1 by omega]
  exact h1.drew
theorem midB_at {w : World} {wr : World} {B : List Bool} {k : Nat} {v : Value} (h : MidB w B k v wr) : ∃ g cap, v = .slice (some ⟨g, 0, none⟩) (k / 8 + 1) cap ∧ w.heap.size ≤ g ∧ wr.ownsRow w.heap.size 5 1 (.slice (some ⟨g, 0, none⟩) (k / 8 + 1) cap) (k / 8 + 1) (u8s (partx B k)) ∧ Below w.heap.size w wr := by
  obtain ⟨g, cap, hv, hown, hbl⟩ := h
  subst hv
  obtain ⟨g', cap', h1, h2, _⟩ := hown.form (by omega)
  simp only [Value.slice.injEq, Option.some.injEq, Addr.mk.injEq, and_true, true_and] at h1
  exact ⟨g, cap, rfl, by rw [h1.1]; exact h2, hown, hbl⟩
theorem mid_num (B : List Bool) (k : Nat) : num ((B.drop (8 * (k / 8))).take (k % 8)) < 128 := by
  refine Nat.lt_of_lt_of_le (num_lt _) (Nat.le_trans (Nat.pow_le_pow_right (by decide) (?_ : _ ≤ 7)) (by decide))
  rw [List.length_take]
  omega
theorem own_data {w : World} {base : Nat} {v : Value} {l : List Nat} (h : w.ownsRow base 5 1 v l.length (u8s l)) (hl : 0 < l.length) (hb : ∀ j, l.getD j 0 < 256) : ∃ g cap, v = .slice (some ⟨g, 0, none⟩) l.length cap ∧ DataAt w g 0 l := by
  obtain ⟨g, cap, hv, _, _⟩ := h.form hl
  subst hv
  refine ⟨g, cap, rfl, fun i hi => ?_, hb⟩
  rw [Nat.zero_add, h.cellAt i (by omega)]
  unfold u8s
  rw [List.getElem?_map, List.getElem?_eq_getElem hi, List.getD_eq_getElem?_getD, List.getElem?_eq_getElem hi]
  rfl
theorem octs_lt (B : List Bool) (j : Nat) : (octs B).getD j 0 < 256 := by
  unfold octs
  rw [List.getD_eq_getElem?_getD, List.getElem?_map]
  cases h : (List.range ((B.length + 7) / 8))[j]? with
  | none => simp
  | some j => simpa using oct_lt B j
theorem rbytes_ok (w : World) (B0 : List Bool) (hB0 : B0.length ≤ 100000000) (hne : B0 ≠ []) :
    Calls Tryz.prog 97 #[.string (bchars B0)] w fun e w' => ∃ cap g, e = .returned (.slice (some ⟨g, 0, none⟩) (octs B0).length cap) ∧ DataAt w' g 0 (octs B0) ∧ Below w.heap.size w w' := by
  obtain ⟨i0, hi, hz0, hz1, hz2⟩ := info_parts info_u8
  have hpl := padded_length B0
  have hpos : 0 < B0.length := by cases B0 <;> simp_all
  go_enter Tryz.func97, Tryz.ntmps97
  go_wp2_with fail
  refine (ralignS_ok w B0 hB0).mono ?_
  rintro e w1 ⟨rfl, hbl⟩
  have hB : (padded B0).length ≤ 1000000000 := by omega
  have hB8 : (padded B0).length % 8 = 0 := by omega
  have hBp : 0 < (padded B0).length := by omega
  have hoc : octs (padded B0) = octs B0 := by
    unfold octs
    rw [hpl, show (8 * ((B0.length + 7) / 8) + 7) / 8 = (B0.length + 7) / 8 by omega]
    apply List.map_congr_left
    intro j _
    exact oct_congr (fun k _ => padded_getD _ _)
  revert hB hB8 hBp hoc
  generalize padded B0 = B
  intro hB hB8 hBp hoc
  have hsz := bchars_size B
  have hne0 : (((bchars B).size : Int) == 0) = false := by rw [hsz, beq_eq_false_iff_ne]; omega
  have HBL := Lib.hid hbl
  have HSZ := Lib.hid hsz
  have HOC := Lib.hid hoc
  clear hbl hsz hpl hoc
  go_wp2_with fail
  go_loopw [3, 4] (fun ov i wr => RelB w B ov i wr) (fun _ i _ => B.length - (intOf i).toNat)
  case atStart => exact ⟨0, Nat.zero_le _, rfl, World.ownsRow_nil _ _ _ _, HBL.out⟩
  case round =>
    obtain ⟨k, hk, rfl, hown, hbl⟩ := hrel
    have HOWN := Lib.hid hown
    have HBEL := Lib.hid hbl
    have hbs := hbl.size
    clear hown hbl
    have hlast : (bchars B).size ≤ k ∨ k < (bchars B).size := by omega
    by_cases hlt : k < B.length
    · have hlt2 : k < (bchars B).size := by rw [HSZ.out]; exact hlt
      clear hlast
      by_cases h8 : k % 8 = 0
      · have h8' : ((k : Int) % 8 == 0) = true := by rw [beq_iff_eq]; omega
        have H8 := Lib.hid h8
        clear h8
        go_wp2_with (at_builtin; refine wpList_append_own _ rfl (.tmp 20) (.tmp 21) 22 rfl w.heap.size 5 i0 (.int .u8 0) 1 1 Tryz.underlying22 hi hz0 hz1 hz2 rfl (by decide) _ (part B k).length (u8s (part B k)) rfl (HOWN.out.alloc _) ⟨wr.heap.size, 0, none⟩ 1 1 [.int .u8 0] rfl rfl (cell_one_new _ _ _) (by simp [Value.oneCell']) (by rw [part_length]; unfold maxLen; omega) (by rw [part_length]; omega) (by have := HBEL.out.size; simp; omega) ?_; intro v' w4 hown4 hgr4 _; have HMID := Lib.hid (midB_new H8.out HOWN.out HBEL.out hown4 hgr4); clear hown4 hgr4)
        obtain ⟨g, cap, hv, hg, hown, hbl⟩ := midB_at HMID.out
        subst hv
        have hcell := midB_cell hown
        have hfz : w4.frozen? ⟨g, k / 8, none⟩ = false := hown.frozenAt _
        have hch := bchars_at B k hlt hlt2
        obtain ⟨z, hz⟩ : ∃ z, num ((B.drop (8 * (k / 8))).take (k % 8)) = z := ⟨_, rfl⟩
        have hz128 : z < 128 := by rw [← hz]; exact mid_num B k
        rw [hz] at hcell
        obtain ⟨t, ht⟩ : ∃ t, B.getD k false = t := ⟨_, rfl⟩
        rw [ht] at hch
        have HOWN4 := Lib.hid hown
        have HBL4 := Lib.hid hbl
        have HZ := Lib.hid hz
        have HT := Lib.hid ht
        have HG := Lib.hid hg
        clear hown hbl hz ht HMID hg
        cases t
        all_goals
          simp only [bch, Bool.false_eq_true, if_true, if_false] at hch
          go_region
          all_goals go_wp2_with fail
          all_goals go_roundw
          case rel => exact midB_next hlt HOWN4.out HBL4.out HG.out _ rfl _ HZ.out HT.out (by simp; omega)
          case measure => simp [intOf]; omega
      · have h8' : ((k : Int) % 8 == 0) = false := by rw [beq_eq_false_iff_ne]; omega
        have HMID := Lib.hid (midB_old h8 HOWN.out HBEL.out)
        clear h8
        obtain ⟨g, cap, hv, hg, hown, hbl⟩ := midB_at HMID.out
        subst hv
        have hcell := midB_cell hown
        have hfz : wr.frozen? ⟨g, k / 8, none⟩ = false := hown.frozenAt _
        have hch := bchars_at B k hlt hlt2
        obtain ⟨z, hz⟩ : ∃ z, num ((B.drop (8 * (k / 8))).take (k % 8)) = z := ⟨_, rfl⟩
        have hz128 : z < 128 := by rw [← hz]; exact mid_num B k
        rw [hz] at hcell
        obtain ⟨t, ht⟩ : ∃ t, B.getD k false = t := ⟨_, rfl⟩
        rw [ht] at hch
        have HOWN4 := Lib.hid hown
        have HBL4 := Lib.hid hbl
        have HZ := Lib.hid hz
        have HT := Lib.hid ht
        have HG := Lib.hid hg
        clear hown hbl hz ht HMID hg
        cases t
        all_goals
          simp only [bch, Bool.false_eq_true, if_true, if_false] at hch
          go_wp2_with fail
          go_region
          all_goals go_wp2_with fail
          all_goals go_roundw
          case rel => exact midB_next hlt HOWN4.out HBL4.out HG.out _ rfl _ HZ.out HT.out (by simp; omega)
          case measure => simp [intOf]; omega
    · obtain rfl : k = B.length := by omega
      have hown := HOWN.out
      rw [part_full B hB8, HOC.out] at hown
      have hol : 0 < (octs B0).length := by simp [octs]; omega
      have hfin := own_data hown hol (octs_lt B0)
      have hend : (bchars B).size ≤ B.length := by rw [HSZ.out]; exact Nat.le_refl _
      clear hlast hown hol
      go_wp2_with fail
      go_ret
      obtain ⟨g, cap, hv, hd⟩ := hfin
      exact ⟨cap, g, by rw [hv]; rfl, hd, HBEL.out⟩
/-- nothing written: one octet, zero -/
theorem rbytes_none (w : World) :
    Calls Tryz.prog 97 #[.string (bchars [])] w fun e w' => ∃ cap g, e = .returned (.slice (some ⟨g, 0, none⟩) 1 cap) ∧ DataAt w' g 0 [0] ∧ Below w.heap.size w w' := by
  go_enter Tryz.func97, Tryz.ntmps97
  go_wp2_with fail
  refine (ralignS_ok w [] (by simp)).mono ?_
  rintro e w1 ⟨rfl, hbl⟩
  have HBL := Lib.hid hbl
  have hsz : (bchars (padded [])).size = 0 := rfl
  clear hbl
  go_wp2_with fail
  go_ret
  exact ⟨1, w1.heap.size, rfl, data_of_row _ _ [0] (heap_alloc_new _ _) (wb_lt []), HBL.out.alloc HBL.out.size _⟩
theorem rbytes_any (w : World) (B : List Bool) (hB : B.length ≤ 100000000) :
    Calls Tryz.prog 97 #[.string (bchars B)] w fun e w' => ∃ v, e = .returned v ∧ SlAt w' v (wb B) ∧ Below w.heap.size w w' := by
  by_cases h : B = []
  · subst h
    refine (rbytes_none w).mono ?_
    rintro e w' ⟨cap, g, rfl, hd, hb⟩
    exact ⟨_, rfl, .inl ⟨g, 0, cap, rfl, hd⟩, hb⟩
  · refine (rbytes_ok w B hB h).mono ?_
    rintro e w' ⟨cap, g, rfl, hd, hb⟩
    refine ⟨_, rfl, .inl ⟨g, 0, cap, ?_, ?_⟩, hb⟩
    · unfold wb
      rw [if_neg h]
    · unfold wb
      rw [if_neg h]
      exact hd
end Go.Proofs.YtbpfggkpfaobhaaGreat

/-
  The reference's Reader.
-/
namespace Go.Proofs.YtbpfggkpfaobhaaGreat
open Go.RowKit
set_option linter.unusedVariables false
set_option linter.unusedSimpArgs false
set_option maxRecDepth 100000

/-- block b is a reference's Reader of the bits B that has read p of them -/
def QAt (w : World) (b : Nat) (B : List Bool) (p : Nat) : Prop :=
  w.heap[b]? = some (.cells #[.string (bchars B), .int .i64 p] 39 (0, 0)) ∧ p ≤ B.length
theorem QAt.lt {w : World} {b : Nat} {B : List Bool} {p : Nat} (h : QAt w b B p) : b < w.heap.size := (Array.getElem?_eq_some_iff.1 h.1).1
theorem QAt.below {w w' : World} {b : Nat} {B : List Bool} {p : Nat} (h : QAt w b B p) (ho : Below w.heap.size w w') : QAt w' b B p := ⟨(ho.block b h.lt).trans h.1, h.2⟩
theorem QAt.still {w w' : World} {b : Nat} {B : List Bool} {p : Nat} (h : QAt w b B p) (ho : Still w w') : QAt w' b B p := h.below (ho.below _)
theorem QAt.keep {w w' : World} {b b' : Nat} {B : List Bool} {p : Nat} (h : QAt w b B p) (ho : Only b' w w') (hb : b ≠ b') : QAt w' b B p := ⟨(ho.block b h.lt hb).trans h.1, h.2⟩
theorem QAt.str {w : World} {b : Nat} {B : List Bool} {p : Nat} (h : QAt w b B p) : w.cell? ⟨b, 0, none⟩ = some (.string (bchars B)) := cell_of_list (l := [.string (bchars B), .int .i64 p]) h.1 rfl
theorem QAt.pos {w : World} {b : Nat} {B : List Bool} {p : Nat} (h : QAt w b B p) : w.cell? ⟨b, 1, none⟩ = some (.int .i64 p) := cell_of_list (l := [.string (bchars B), .int .i64 p]) h.1 rfl
theorem QAt.free {w : World} {b : Nat} {B : List Bool} {p : Nat} (h : QAt w b B p) (j : Nat) : w.frozen? ⟨b, j, none⟩ = false := frozen_of_row w b j _ _ h.1
theorem QAt.move {w : World} {b : Nat} {B : List Bool} {p : Nat} (h : QAt w b B p) {z : Int} (q : Nat) (hz : z = q) (hq : q ≤ B.length) :
    QAt (w.setCell ⟨b, 1, none⟩ (.int .i64 z)) b B q ∧ Only b w (w.setCell ⟨b, 1, none⟩ (.int .i64 z)) := by
  subst hz
  refine ⟨⟨?_, hq⟩, ?_⟩
  · rw [heap_setCell_same w b 1 _ _ _ h.1]
    rfl
  · exact Only.setCell 1 _
theorem rnew_ok (w : World) (s : Value) (l : List Nat) (h : SlAt w s l) (hl : l.length ≤ 10000000) :
    Calls Tryz.prog 7 #[s] w fun e w' => ∃ b, e = .returned (.pointer (some ⟨b, 0, none⟩)) ∧ w.heap.size ≤ b ∧ QAt w' b (bitsOf l) 0 ∧ Below w.heap.size w w' := by
  have HC := Lib.hid (rocts_sl w [] s l h (by simp) hl)
  go_enter Tryz.func7, Tryz.ntmps7
  go_wp2_with (go_at_call 25; refine HC.out.mono ?_; rintro e w1 ⟨rfl, hb1⟩; have HB1 := Lib.hid hb1; clear hb1)
  go_ret
  exact ⟨_, rfl, HB1.out.size, ⟨heap_alloc_new _ _, Nat.zero_le _⟩, HB1.out.alloc HB1.out.size _⟩
def RelG (w : World) (B : List Bool) (p k : Nat) (v i : Value) (wr : World) : Prop := ∃ j : Nat, j ≤ k ∧ i = .int .i64 j ∧ v = .int .u64 (bitsAt B p j : Nat) ∧ Still w wr
theorem relG_next {w w' : World} {B : List Bool} {p k j : Nat} {x : Int} (hlt : j < k) (hx : x = (bitsAt B p (j + 1) : Nat)) (hs : Still w w') : RelG w B p k (.int .u64 x) (.int .i64 ((j : Int) + 1)) w' :=
  ⟨j + 1, hlt, by go_num, by rw [hx], hs⟩
theorem rget_ok (w : World) (b : Nat) (B : List Bool) (p k : Nat) (h : QAt w b B p) (hB : B.length ≤ 10000000000) (hk : k ≤ 64) (hi : p + k ≤ B.length) :
    Calls Tryz.prog 9 #[.pointer (some ⟨b, 0, none⟩), .int .i64 k] w fun e w' => e = .returned (.tuple #[.int .u64 (bitsAt B p k : Nat), .int .i64 0]) ∧ QAt w' b B (p + k) ∧ Only b w w' := by
  have hs := h.str
  have hp := h.pos
  have hf := h.free 1
  have hsz := bchars_size B
  have HQ := Lib.hid h
  clear h
  go_enter Tryz.func9, Tryz.ntmps9
  have hle : (k : Int) ≤ ((bchars B).size : Int) - p := by omega
  go_wp2_with fail
  go_region
  go_wp2_with fail
  have HST0 := Lib.hid (Still.refl w).drew
  clear hs hp hf hle
  go_loopw [6, 7] (fun v i wr => RelG w B p k v i wr) (fun _ i _ => k - (intOf i).toNat)
  case atStart => exact ⟨0, Nat.zero_le _, rfl, rfl, HST0.out⟩
  case round =>
    obtain ⟨j, hj, rfl, rfl, hst⟩ := hrel
    have hs := (HQ.out.still hst).str
    have hp := (HQ.out.still hst).pos
    have hf := (HQ.out.still hst).free 1
    have HST := Lib.hid hst
    clear hst
    by_cases hlt : j < k
    · have hv := bitsAt_lt B p j (by omega)
      have hs2 := bitsAt_succ B p j (by omega)
      have h63 : 2 ^ j ≤ 2 ^ 63 := Nat.pow_le_pow_right (by omega) (by omega)
      have hv' : bitsAt B p j < 9223372036854775808 := Nat.lt_of_lt_of_le hv h63
      obtain ⟨m, hm⟩ : ∃ m, p + j = m := ⟨_, rfl⟩
      have hwr : IntKind.i64.wrap ((p : Int) + j) = (m : Int) := by rw [IntKind.wrap_i64]; omega
      have hix : m < (bchars B).size := by omega
      have hix2 : m < B.length := by omega
      have hch := bchars_at B m (by omega) hix
      rw [hm] at hs2
      have HNX := Lib.hid (fun x w' => relG_next (w := w) (B := B) (p := p) (k := k) (j := j) (x := x) (w' := w') hlt)
      clear hm
      revert hs2 hch hv'
      generalize bitsAt B p j = v at *
      generalize bitsAt B p (j + 1) = v2 at *
      generalize B.getD m false = t
      intro y1 y2 y3
      have hs2 : v2 = 2 * v + t.toNat := by assumption
      have hch : ((bchars B)[m]'hix).toNat = bch t := by assumption
      have hv' : v < 9223372036854775808 := by assumption
      clear y1 y2 y3
      have HS2 := Lib.hid hs2
      clear hv h63 hs2
      cases t
      all_goals
        simp only [bch, Bool.false_eq_true, if_true, if_false] at hch
        go_wp2_with fail
        go_region
        all_goals go_wp2_with fail
        go_roundw
        case rel => exact HNX.out _ _ (by rw [HS2.out]; simp only [Bool.toNat_false, Bool.toNat_true]; omega) HST.out.drew
        case measure => simp [intOf]; omega
    · obtain rfl : j = k := by omega
      have HM := Lib.hid ((HQ.out.still HST.out).move (z := (p : Int) + j) (p + j) (by omega) (by omega))
      go_wp2_with fail
      go_ret2
      exact ⟨rfl, HM.out.1, (HST.out.only b).trans HM.out.2⟩
theorem rget_wide (w : World) (b : Nat) (z : Int) (hz : widthB z = false) :
    Calls Tryz.prog 9 #[.pointer (some ⟨b, 0, none⟩), .int .i64 z] w fun e w' => e = .returned (.tuple #[.int .u64 0, .int .i64 1]) ∧ w = w' := by
  have hz' : z < 0 ∨ 64 < z := by
    simp [widthB] at hz
    omega
  clear hz
  rcases hz' with h | h
  · go_enter Tryz.func9, Tryz.ntmps9
    go_wp2_with fail
    go_ret2
    exact ⟨rfl, rfl⟩
  · have h0 : 0 ≤ z := by omega
    go_enter Tryz.func9, Tryz.ntmps9
    go_wp2_with fail
    go_ret2
    exact ⟨rfl, rfl⟩
theorem rget_short (w : World) (b : Nat) (B : List Bool) (p k : Nat) (h : QAt w b B p) (hB : B.length ≤ 10000000000) (hk : k ≤ 64) (hi : B.length < p + k) :
    Calls Tryz.prog 9 #[.pointer (some ⟨b, 0, none⟩), .int .i64 k] w fun e w' => e = .returned (.tuple #[.int .u64 0, .int .i64 2]) ∧ Still w w' := by
  have hs := h.str
  have hp := h.pos
  have hle := h.2
  have hsz := bchars_size B
  clear h
  go_enter Tryz.func9, Tryz.ntmps9
  have hgt : ((bchars B).size : Int) - p < k := by omega
  go_wp2_with fail
  go_region
  go_wp2_with fail
  go_ret2
  exact ⟨rfl, (Still.refl w).drew⟩
/-- the zeros passed by Align -/
def RelZ (w : World) (B : List Bool) (p : Nat) (i : Value) (wr : World) : Prop := ∃ c : Nat, c ≤ (8 - p % 8) % 8 ∧ i = .int .i64 ((p + c : Nat) : Int) ∧ (∀ q, q < c → B.getD (p + q) false = false) ∧ Still w wr
theorem relZ_next {w w' : World} {B : List Bool} {p c m : Nat} (hc : c < (8 - p % 8) % 8) (hz : ∀ q, q < c → B.getD (p + q) false = false) (hm : p + c = m) (ht : B.getD m false = false) (hs : Still w w') : RelZ w B p (.int .i64 ((m : Int) + 1)) w' := by
  subst hm
  refine ⟨c + 1, hc, rfl, fun q hq => ?_, hs⟩
  by_cases h : q = c
  · subst h; exact ht
  · exact hz q (by omega)
theorem rralign_any (w : World) (b : Nat) (B : List Bool) (p : Nat) (h : QAt w b B p) (hB : B.length ≤ 10000000000) (h8 : B.length % 8 = 0) :
    Calls Tryz.prog 56 #[.pointer (some ⟨b, 0, none⟩)] w fun e w' =>
      (allz B p ((8 - p % 8) % 8) = true → e = .returned (.int .i64 0) ∧ QAt w' b B (p + (8 - p % 8) % 8) ∧ Only b w w') ∧ (allz B p ((8 - p % 8) % 8) = false → e = .returned (.int .i64 3) ∧ Still w w') := by
  have hs := h.str
  have hp := h.pos
  have hf := h.free 1
  have hle := h.2
  have hsz := bchars_size B
  have HQ := Lib.hid h
  clear h
  go_enter Tryz.func56, Tryz.ntmps56
  go_wp2_with fail
  clear hs hp hf
  go_loopw [3] (fun i wr => RelZ w B p i wr) (fun i _ => ((p + (8 - p % 8) % 8 : Nat) - intOf i : Int).toNat)
  case atStart => exact ⟨0, Nat.zero_le _, rfl, fun q h => absurd h (by omega), Still.refl w⟩
  case round =>
    obtain ⟨c, hc, rfl, hz, hst⟩ := hrel
    have hs := (HQ.out.still hst).str
    have hp := (HQ.out.still hst).pos
    have hf := (HQ.out.still hst).free 1
    have HST := Lib.hid hst
    have HZ := Lib.hid hz
    clear hst hz
    by_cases hlt : c < (8 - p % 8) % 8
    · obtain ⟨m, hm⟩ : ∃ m, p + c = m := ⟨_, rfl⟩
      have hix : m < (bchars B).size := by omega
      have hix2 : m < B.length := by omega
      have hm8 : ((m : Int) % 8 != 0) = true := by simp; omega
      have hch := bchars_at B m (by omega) hix
      have HM := Lib.hid hm
      rw [hm]
      obtain ⟨t, ht⟩ : ∃ t, B.getD m false = t := ⟨_, rfl⟩
      rw [ht] at hch
      have HT := Lib.hid ht
      clear ht hm
      cases t
      · simp only [bch, Bool.false_eq_true, if_false] at hch
        go_wp2_with fail
        go_roundw
        case rel => exact relZ_next hlt HZ.out HM.out HT.out HST.out
        case measure =>
          have hm := HM.out
          simp [intOf]
          omega
      · simp only [bch, if_true] at hch
        go_wp2_with fail
        go_ret
        have hf := allz_false hlt (by rw [HM.out]; exact HT.out)
        exact ⟨fun h => absurd (hf.symm.trans h) (by decide), fun _ => ⟨rfl, HST.out⟩⟩
    · obtain rfl : c = (8 - p % 8) % 8 := by omega
      obtain ⟨m, hm⟩ : ∃ m, p + (8 - p % 8) % 8 = m := ⟨_, rfl⟩
      have hm8 : ((m : Int) % 8 != 0) = false := by simp; omega
      have HM := Lib.hid ((HQ.out.still HST.out).move (z := (m : Int)) m rfl (by omega))
      have hz := allz_true HZ.out
      rw [hm]
      go_wp2_with fail
      go_ret
      exact ⟨fun _ => ⟨rfl, by rw [hm]; exact HM.out.1, (HST.out.only b).trans HM.out.2⟩, fun h => absurd (hz.symm.trans h) (by decide)⟩
theorem rroct_neg (w : World) (b : Nat) (z : Int) (hz : z < 0) :
    Calls Tryz.prog 93 #[.pointer (some ⟨b, 0, none⟩), .int .i64 z] w fun e w' => e = .returned (.tuple #[.slice none 0 0, .int .i64 1]) ∧ w = w' := by
  go_enter Tryz.func93, Tryz.ntmps93
  go_wp2_with fail
  go_ret2
  exact ⟨rfl, rfl⟩
theorem rroct_short (w : World) (b : Nat) (B : List Bool) (p : Nat) (z : Int) (h : QAt w b B p) (hB : B.length ≤ 10000000000) (hz : 0 ≤ z) (hi : ((B.length - p : Nat) : Int) / 8 < z) :
    Calls Tryz.prog 93 #[.pointer (some ⟨b, 0, none⟩), .int .i64 z] w fun e w' => e = .returned (.tuple #[.slice none 0 0, .int .i64 2]) ∧ Still w w' := by
  have hs := h.str
  have hp := h.pos
  have hle := h.2
  have hsz := bchars_size B
  have hi2 : ((B.length : Int) - p) / 8 < z := by omega
  clear h hi
  go_enter Tryz.func93, Tryz.ntmps93
  go_wp2_with fail
  go_region
  go_wp2_with fail
  go_ret2
  exact ⟨rfl, (Still.refl w).drew⟩
theorem rroct_zero (w : World) (b : Nat) (B : List Bool) (p : Nat) (h : QAt w b B p) (hB : B.length ≤ 10000000000) :
    Calls Tryz.prog 93 #[.pointer (some ⟨b, 0, none⟩), .int .i64 0] w fun e w' => e = .returned (.tuple #[.slice none 0 0, .int .i64 0]) ∧ Still w w' := by
  have hs := h.str
  have hp := h.pos
  have hle := h.2
  have hsz := bchars_size B
  have hi2 : (0 : Int) ≤ ((B.length : Int) - p) / 8 := by omega
  clear h
  go_enter Tryz.func93, Tryz.ntmps93
  go_wp2_with fail
  go_region
  go_wp2_with fail
  go_ret2
  exact ⟨rfl, (Still.refl w).drew⟩
theorem bchars_extract (B : List Bool) (p q : Nat) : (bchars B).extract p q = bchars ((B.drop p).take (q - p)) := by
  apply ByteArray.ext
  rw [ByteArray.data_extract]
  apply Array.ext'
  simp [bchars, List.map_take, List.map_drop]
theorem QAt.no_data {w : World} {b : Nat} {B : List Bool} {p o : Nat} {l : List Nat} (h : QAt w b B p) (hl : l ≠ []) (hd : DataAt w b o l) : False := by
  have hc := hd.cell 0 (by cases l <;> simp_all)
  rw [cell_of_row w b _ _ _ _ h.1] at hc
  match o, hc with
  | 0, hc => simp at hc
  | 1, hc => simp at hc
  | o + 2, hc => simp at hc
theorem QAt.sl {w : World} {b : Nat} {B : List Bool} {p : Nat} {l : List Nat} {s : Value} (h : QAt w b B p) (hs : SlAt w s l) (hl : l ≠ []) {w' : World} (ho : Only b w w') : SlAt w' s l := by
  rcases hs with ⟨g, o, cap, e, hd⟩ | ⟨h0, _⟩
  · refine .inl ⟨g, o, cap, e, hd.keep ho ?_⟩
    rintro rfl
    exact h.no_data hl hd
  · exact absurd h0 hl
theorem wb_octetsAt (B : List Bool) (p n : Nat) (hn : 0 < n) (h : p + 8 * n ≤ B.length) : wb ((B.drop p).take (8 * n)) = octetsAt B p n := by
  have hl : ((B.drop p).take (8 * n)).length = 8 * n := by rw [List.length_take, List.length_drop]; omega
  unfold wb
  rw [if_neg (by intro h0; rw [h0] at hl; simp at hl; omega)]
  unfold octs octetsAt
  rw [hl, show (8 * n + 7) / 8 = n by omega]
  apply List.map_congr_left
  intro j hj
  simp at hj
  unfold oct bitsAt
  congr 1
  apply List.ext_getElem
  · simp; omega
  · intro k h1 h2
    simp at h1
    simp [List.getD_eq_getElem?_getD, List.getElem?_take, show 8 * j + k < 8 * n by omega, show p + (8 * j + k) < B.length by omega, Nat.add_assoc]
theorem rroct_ok (w : World) (b : Nat) (B : List Bool) (p n : Nat) (h : QAt w b B p) (hB : B.length ≤ 100000000) (hn : 0 < n) (hi : p + 8 * n ≤ B.length) :
    Calls Tryz.prog 93 #[.pointer (some ⟨b, 0, none⟩), .int .i64 n] w fun e w' => ∃ v, e = .returned (.tuple #[v, .int .i64 0]) ∧ SlAt w' v (octetsAt B p n) ∧ QAt w' b B (p + 8 * n) ∧ Only b w w' := by
  have hs := h.str
  have hp := h.pos
  have hf := h.free 1
  have hle := h.2
  have hsz := bchars_size B
  have hi2 : (n : Int) ≤ ((B.length : Int) - p) / 8 := by omega
  have hn0 : ((n : Int) == 0) = false := by rw [beq_eq_false_iff_ne]; omega
  have HQ := Lib.hid h
  clear h
  go_enter Tryz.func93, Tryz.ntmps93
  go_wp2_with fail
  go_region
  go_wp2_with fail
  have d0 : w.drew.cell? ⟨b, 0, none⟩ = some (.string (bchars B)) := hs
  have d1 : w.drew.cell? ⟨b, 1, none⟩ = some (.int .i64 p) := hp
  have hst := Lib.hid (Still.refl w).drew
  clear hs hp hf
  revert d0 d1 hst
  generalize w.drew = w2
  intro d0 d1 hst
  obtain ⟨m, hm⟩ : ∃ m, 8 * n = m := ⟨_, rfl⟩
  obtain ⟨q, hq⟩ : ∃ q, p + m = q := ⟨_, rfl⟩
  have hw1 : IntKind.i64.wrap (8 * (n : Int)) = (m : Int) := by rw [IntKind.wrap_i64]; omega
  have hw2 : IntKind.i64.wrap ((p : Int) + m) = (q : Int) := by rw [IntKind.wrap_i64]; omega
  have hb1 : (p : Int) ≤ (q : Int) := by omega
  have hb2 : (q : Int) ≤ (B.length : Int) := by omega
  have hb3 : (0 : Int) ≤ (p : Int) := by omega
  have hb4 : p ≤ q := by omega
  have hb5 : q ≤ B.length := by omega
  have hex : (bchars B).extract p q = bchars ((B.drop p).take m) := by rw [bchars_extract]; congr 2; omega
  have HB := fun w2 => Lib.hid (rbytes_any w2 ((B.drop p).take m) (by rw [List.length_take]; omega))
  have HQD := Lib.hid ((HQ.out.still hst.out).still (Still.refl w2).drew)
  go_region_held3 (fun w' => w'.cell? ⟨b, 0, none⟩ = some (.string (bchars B)) ∧ w'.cell? ⟨b, 1, none⟩ = some (.int .i64 p)) (first | exact ⟨d0, d1⟩ | exact ⟨(HQD.out.below HB3.out).str, (HQD.out.below HB3.out).pos⟩) (first | (go_at_call 97; refine (HB _).out.mono ?_; rintro e w3 ⟨v3, rfl, hs3, hb3⟩; have HS3 := Lib.hid hs3; have HB3 := Lib.hid hb3; clear hs3 hb3))
  have HQ3 := Lib.hid (HQD.out.below HB3.out)
  have HO3 := Lib.hid (hst.out.drew.only b |>.trans (Only.of_below HB3.out))
  have e0 := HQ3.out.str
  have e1 := HQ3.out.pos
  have e2 := HQ3.out.free 1
  clear d0 d1 HQD HB3 hst HQ HB
  go_wp2_with fail
  have HM := Lib.hid (HQ3.out.move (z := (q : Int)) q rfl (by omega))
  have HSL := Lib.hid (HQ3.out.sl HS3.out (by rw [← hm, wb_octetsAt B p n hn hi]; intro h0; have := octetsAt_length B p n; rw [h0] at this; simp at this; omega) HM.out.2)
  go_ret2
  refine ⟨v3, rfl, ?_, ?_, ?_⟩
  · rw [← wb_octetsAt B p n hn hi, hm]
    exact HSL.out
  · rw [hm, hq]
    exact HM.out.1
  · exact HO3.out.trans HM.out.2
def RelE (w : World) (B : List Bool) (p : Nat) (i : Value) (wr : World) : Prop := ∃ c : Nat, p + c ≤ B.length ∧ i = .int .i64 ((p + c : Nat) : Int) ∧ (∀ q, q < c → B.getD (p + q) false = false) ∧ Still w wr
theorem relE_next {w w' : World} {B : List Bool} {p c m : Nat} (hc : p + c < B.length) (hz : ∀ q, q < c → B.getD (p + q) false = false) (hm : p + c = m) (ht : B.getD m false = false) (hs : Still w w') : RelE w B p (.int .i64 ((m : Int) + 1)) w' := by
  subst hm
  refine ⟨c + 1, hc, rfl, fun q hq => ?_, hs⟩
  by_cases h : q = c
  · subst h; exact ht
  · exact hz q (by omega)
end Go.Proofs.YtbpfggkpfaobhaaGreat

/-
  The reference's End, at the start too: the same as the Reader's.
-/
namespace Go.Proofs.YtbpfggkpfaobhaaGreat
open Go.RowKit
set_option linter.unusedVariables false
set_option linter.unusedSimpArgs false
set_option maxRecDepth 100000

theorem zeros_str (B : List Bool) : ((bchars B).toList == [48, 48, 48, 48, 48, 48, 48, 48]) = decide (B = List.replicate 8 false) := by
  rw [ByteArray.toList_eq, bchars_data]
  by_cases h : B = List.replicate 8 false
  · subst h; rfl
  · rw [decide_eq_false h, beq_eq_false_iff_ne]
    intro he
    apply h
    have hl : B.length = 8 := by
      have := congrArg List.length he
      simpa using this
    apply List.ext_getElem
    · simp [hl]
    · intro i h1 h2
      have h3 := congrArg (fun l => l[i]?) he
      simp only [List.getElem?_map, List.getElem?_eq_getElem h1, Option.map_some] at h3
      have h4 : ([48, 48, 48, 48, 48, 48, 48, 48] : List UInt8)[i]? = some 48 := by
        match i, h1 with
        | 0, _ | 1, _ | 2, _ | 3, _ | 4, _ | 5, _ | 6, _ | 7, _ => rfl
        | i + 8, h1 => omega
      rw [h4] at h3
      rw [List.getElem_replicate]
      generalize B[i] = t at *
      cases t
      · rfl
      · exact absurd h3 (by decide)
/-- what End tells -/
def endE (L : List Nat) (p : Nat) : Int := if endB L p = true then 0 else 3
theorem zeros_iff (B : List Bool) (h : B.length = 8) : allz B 0 8 = decide (B = List.replicate 8 false) := by
  by_cases hz : B = List.replicate 8 false
  · subst hz; rfl
  · rw [decide_eq_false hz]
    by_cases ha : allz B 0 8 = true
    · exfalso
      apply hz
      apply List.ext_getElem
      · simp [h]
      · intro i h1 h2
        rw [List.getElem_replicate]
        unfold allz at ha
        have h3 := List.all_eq_true.1 ha i (by simp; omega)
        simpa [List.getD_eq_getElem?_getD, h1] using h3
    · simpa using ha
end Go.Proofs.YtbpfggkpfaobhaaGreat

/-
  What a step of reading tells, for the Reader and for the reference's alike: one contract for each call.
-/
namespace Go.Proofs.YtbpfggkpfaobhaaGreat
open Go.RowKit
set_option linter.unusedVariables false
set_option linter.unusedSimpArgs false
set_option maxRecDepth 100000

def gerr (L : List Nat) (p : Nat) (z : Int) : Int := if widthB z = false then 1 else if p + z.toNat ≤ 8 * L.length then 0 else 2
def gval (L : List Nat) (p : Nat) (z : Int) : Nat := if gerr L p z = 0 then bitsAt (bitsOf L) p z.toNat else 0
def gpos (L : List Nat) (p : Nat) (z : Int) : Nat := if gerr L p z = 0 then p + z.toNat else p
theorem width_nat {z : Int} (h : ¬ widthB z = false) : ∃ k : Nat, z = k ∧ k ≤ 64 := by
  have h1 : widthB z = true := by simpa using h
  simp [widthB] at h1
  exact ⟨z.toNat, by omega, by omega⟩
theorem get_any (w : World) (b : Nat) {s : Value} (L : List Nat) (p : Nat) (z : Int) (h : RdAt w b s L p) (hL : L.length ≤ 10000000000) :
    Calls Tryz.prog 8 #[.pointer (some ⟨b, 0, none⟩), .int .i64 z] w fun e w' => e = .returned (.tuple #[.int .u64 (gval L p z : Nat), .int .i64 (gerr L p z)]) ∧ RdAt w' b s L (gpos L p z) ∧ Only b w w' := by
  by_cases hz : widthB z = false
  · have he : gerr L p z = 1 := if_pos hz
    refine (get_wide w b z hz).mono ?_
    rintro e w' ⟨rfl, rfl⟩
    unfold gval gpos
    rw [he, if_neg (by decide), if_neg (by decide)]
    exact ⟨rfl, h, Only.refl _ _⟩
  · obtain ⟨k, rfl, hk⟩ := width_nat hz
    by_cases hs : p + k ≤ 8 * L.length
    · have he : gerr L p k = 0 := by unfold gerr; rw [if_neg hz, if_pos (show p + ((k : Int)).toNat ≤ 8 * L.length from hs)]
      refine (get_ok w b L p k h hL hk hs).mono ?_
      rintro e w' ⟨rfl, h1, h2⟩
      unfold gval gpos
      rw [he, if_pos rfl, if_pos rfl]
      exact ⟨rfl, h1, h2⟩
    · have he : gerr L p k = 2 := by unfold gerr; rw [if_neg hz, if_neg (show ¬ p + ((k : Int)).toNat ≤ 8 * L.length from hs)]
      refine (get_short w b L p k h hL hk (by omega)).mono ?_
      rintro e w' ⟨rfl, h1⟩
      unfold gval gpos
      rw [he, if_neg (by decide), if_neg (by decide)]
      exact ⟨rfl, h.still h1, h1.only b⟩
theorem rget_any (w : World) (b : Nat) (L : List Nat) (p : Nat) (z : Int) (h : QAt w b (bitsOf L) p) (hL : L.length ≤ 1000000000) :
    Calls Tryz.prog 9 #[.pointer (some ⟨b, 0, none⟩), .int .i64 z] w fun e w' => e = .returned (.tuple #[.int .u64 (gval L p z : Nat), .int .i64 (gerr L p z)]) ∧ QAt w' b (bitsOf L) (gpos L p z) ∧ Only b w w' := by
  have hl := bitsOf_length L
  by_cases hz : widthB z = false
  · have he : gerr L p z = 1 := if_pos hz
    refine (rget_wide w b z hz).mono ?_
    rintro e w' ⟨rfl, rfl⟩
    unfold gval gpos
    rw [he, if_neg (by decide), if_neg (by decide)]
    exact ⟨rfl, h, Only.refl _ _⟩
  · obtain ⟨k, rfl, hk⟩ := width_nat hz
    by_cases hs : p + k ≤ 8 * L.length
    · have he : gerr L p k = 0 := by unfold gerr; rw [if_neg hz, if_pos (show p + ((k : Int)).toNat ≤ 8 * L.length from hs)]
      refine (rget_ok w b _ p k h (by omega) hk (by omega)).mono ?_
      rintro e w' ⟨rfl, h1, h2⟩
      unfold gval gpos
      rw [he, if_pos rfl, if_pos rfl]
      exact ⟨rfl, h1, h2⟩
    · have he : gerr L p k = 2 := by unfold gerr; rw [if_neg hz, if_neg (show ¬ p + ((k : Int)).toNat ≤ 8 * L.length from hs)]
      refine (rget_short w b _ p k h (by omega) hk (by omega)).mono ?_
      rintro e w' ⟨rfl, h1⟩
      unfold gval gpos
      rw [he, if_neg (by decide), if_neg (by decide)]
      exact ⟨rfl, h.still h1, h1.only b⟩
def aerr (L : List Nat) (p : Nat) : Int := if allz (bitsOf L) p ((8 - p % 8) % 8) = true then 0 else 3
def apos (L : List Nat) (p : Nat) : Nat := if allz (bitsOf L) p ((8 - p % 8) % 8) = true then p + (8 - p % 8) % 8 else p
theorem ralign_all (w : World) (b : Nat) {s : Value} (L : List Nat) (p : Nat) (h : RdAt w b s L p) (hL : L.length ≤ 10000000000) :
    Calls Tryz.prog 69 #[.pointer (some ⟨b, 0, none⟩)] w fun e w' => e = .returned (.int .i64 (aerr L p)) ∧ RdAt w' b s L (apos L p) ∧ Only b w w' := by
  unfold aerr apos
  by_cases hz : allz (bitsOf L) p ((8 - p % 8) % 8) = true
  · rw [if_pos hz, if_pos hz]
    exact ralign_ok w b L p h hL hz
  · rw [if_neg hz, if_neg hz]
    refine (ralign_bad w b L p h hL (by simpa using hz)).mono ?_
    rintro e w' ⟨rfl, rfl⟩
    exact ⟨rfl, h, Only.refl _ _⟩
theorem rralign_all (w : World) (b : Nat) (L : List Nat) (p : Nat) (h : QAt w b (bitsOf L) p) (hL : L.length ≤ 1000000000) :
    Calls Tryz.prog 56 #[.pointer (some ⟨b, 0, none⟩)] w fun e w' => e = .returned (.int .i64 (aerr L p)) ∧ QAt w' b (bitsOf L) (apos L p) ∧ Only b w w' := by
  have hl := bitsOf_length L
  refine (rralign_any w b _ p h (by omega) (by omega)).mono ?_
  rintro e w' ⟨h1, h2⟩
  unfold aerr apos
  by_cases hz : allz (bitsOf L) p ((8 - p % 8) % 8) = true
  · rw [if_pos hz, if_pos hz]
    exact h1 hz
  · rw [if_neg hz, if_neg hz]
    obtain ⟨h3, h4⟩ := h2 (by simpa using hz)
    exact ⟨h3, h.still h4, h4.only b⟩
def oerr (L : List Nat) (p : Nat) (z : Int) : Int := if z < 0 then 1 else if ((8 * L.length - p : Nat) : Int) / 8 < z then 2 else 0
def olst (L : List Nat) (p : Nat) (z : Int) : List Nat := if oerr L p z = 0 then octetsAt (bitsOf L) p z.toNat else []
def opos (L : List Nat) (p : Nat) (z : Int) : Nat := if oerr L p z = 0 then p + 8 * z.toNat else p
theorem octetsAt_lt (L : List Nat) (p n : Nat) (h : p + 8 * n ≤ 8 * L.length) (i : Nat) : (octetsAt (bitsOf L) p n).getD i 0 < 256 := by
  unfold octetsAt
  rw [List.getD_eq_getElem?_getD, List.getElem?_map]
  rcases Nat.lt_or_ge i n with hi | hi
  · rw [List.getElem?_range hi]
    have := bitsAt_lt (bitsOf L) (p + 8 * i) 8 (by rw [bitsOf_length]; omega)
    simpa using this
  · rw [List.getElem?_eq_none (by simpa using hi)]
    simp
theorem roctets_any (w : World) (b : Nat) {s : Value} (L : List Nat) (p : Nat) (z : Int) (h : RdAt w b s L p) (hL : L.length ≤ 10000000000) :
    Calls Tryz.prog 31 #[.pointer (some ⟨b, 0, none⟩), .int .i64 z] w fun e w' => ∃ v, e = .returned (.tuple #[v, .int .i64 (oerr L p z)]) ∧ SlAt w' v (olst L p z) ∧ RdAt w' b s L (opos L p z) ∧ Only b w w' := by
  have hle := h.le
  by_cases hz : z < 0
  · have he : oerr L p z = 1 := if_pos hz
    refine (roctets_neg w b z hz).mono ?_
    rintro e w' ⟨rfl, rfl⟩
    unfold olst opos
    rw [he, if_neg (by decide), if_neg (by decide)]
    exact ⟨_, rfl, .inr ⟨rfl, _, _, rfl⟩, h, Only.refl _ _⟩
  · by_cases hs : ((8 * L.length - p : Nat) : Int) / 8 < z
    · have he : oerr L p z = 2 := by unfold oerr; rw [if_neg hz, if_pos hs]
      refine (roctets_short w b L p z h hL (by omega) hs).mono ?_
      rintro e w' ⟨rfl, h1⟩
      unfold olst opos
      rw [he, if_neg (by decide), if_neg (by decide)]
      exact ⟨_, rfl, .inr ⟨rfl, _, _, rfl⟩, h.still h1, h1.only b⟩
    · have he : oerr L p z = 0 := by unfold oerr; rw [if_neg hz, if_neg hs]
      obtain ⟨n, rfl⟩ : ∃ n : Nat, z = n := ⟨z.toNat, by omega⟩
      have hfit : p + 8 * n ≤ 8 * L.length := by omega
      refine (roctets_ok w b L p n h hL hfit).mono ?_
      rintro e w' ⟨rfl, h1, h2, h3⟩
      unfold olst opos
      rw [he, if_pos rfl, if_pos rfl]
      exact ⟨_, rfl, sl_of_row h2 (octetsAt_lt L p n hfit) (octetsAt_length _ _ _).symm, h1, h3⟩
theorem rroct_any (w : World) (b : Nat) (L : List Nat) (p : Nat) (z : Int) (h : QAt w b (bitsOf L) p) (hL : L.length ≤ 10000000) :
    Calls Tryz.prog 93 #[.pointer (some ⟨b, 0, none⟩), .int .i64 z] w fun e w' => ∃ v, e = .returned (.tuple #[v, .int .i64 (oerr L p z)]) ∧ SlAt w' v (olst L p z) ∧ QAt w' b (bitsOf L) (opos L p z) ∧ Only b w w' := by
  have hl := bitsOf_length L
  have hle := h.2
  by_cases hz : z < 0
  · have he : oerr L p z = 1 := if_pos hz
    refine (rroct_neg w b z hz).mono ?_
    rintro e w' ⟨rfl, rfl⟩
    unfold olst opos
    rw [he, if_neg (by decide), if_neg (by decide)]
    exact ⟨_, rfl, .inr ⟨rfl, _, _, rfl⟩, h, Only.refl _ _⟩
  · by_cases hs : ((8 * L.length - p : Nat) : Int) / 8 < z
    · have he : oerr L p z = 2 := by unfold oerr; rw [if_neg hz, if_pos hs]
      refine (rroct_short w b _ p z h (by omega) (by omega) (by rw [hl]; exact hs)).mono ?_
      rintro e w' ⟨rfl, h1⟩
      unfold olst opos
      rw [he, if_neg (by decide), if_neg (by decide)]
      exact ⟨_, rfl, .inr ⟨rfl, _, _, rfl⟩, h.still h1, h1.only b⟩
    · have he : oerr L p z = 0 := by unfold oerr; rw [if_neg hz, if_neg hs]
      obtain ⟨n, rfl⟩ : ∃ n : Nat, z = n := ⟨z.toNat, by omega⟩
      have hfit : p + 8 * n ≤ 8 * L.length := by omega
      unfold olst opos
      rw [he, if_pos rfl, if_pos rfl]
      by_cases hn : n = 0
      · subst hn
        refine (rroct_zero w b _ p h (by omega)).mono ?_
        rintro e w' ⟨rfl, h1⟩
        exact ⟨_, rfl, .inr ⟨rfl, _, _, rfl⟩, h.still h1, h1.only b⟩
      · exact rroct_ok w b _ p n h (by omega) (by omega) (by omega)
theorem QAt.no_u8 {w : World} {b : Nat} {B : List Bool} {p : Nat} (h : QAt w b B p) : ∀ cs fr, w.heap[b]? ≠ some (.cells cs 5 fr) := by
  intro cs fr e
  obtain ⟨hs, _⟩ := h
  rw [hs] at e
  injection e with e
  injection e with h1 h2 h3
  exact absurd h2 (by decide)
theorem QAt.sl_any {w w' : World} {b : Nat} {B : List Bool} {p : Nat} {l : List Nat} {s : Value} (h : QAt w b B p) (hs : SlAt w s l) (ho : Only b w w') : SlAt w' s l := by
  by_cases hl : l = []
  · subst hl
    rcases hs with ⟨g, o, cap, e, hd⟩ | ⟨_, a, cap, e⟩
    · exact .inr ⟨rfl, _, _, e⟩
    · exact .inr ⟨rfl, a, cap, e⟩
  · exact h.sl hs hl ho
end Go.Proofs.YtbpfggkpfaobhaaGreat
