/-
  A bundle of texts, one behind the other: ShZ3, ShZ4.
-/
import Derived.Test.YtgmnojnalkhepaaGreatDoorKA
import Derived.Deep.DeepCutAuto
import Derived.Test.YtgmnojnalkhepaaGreatDoorJT
/-
  The document's text of a list in braces: 'list'.
-/
namespace Go.Proofs.YtgmnojnalkhepaaGreatDoor
open Go.RowKit
set_option linter.unusedVariables false
set_option linter.unusedSimpArgs false
set_option maxRecDepth 100000

theorem info_s : (Tryz.prog.info? 9).map (fun i => (i.zero, i.size, i.bytes)) = some (some (.string ByteArray.empty), 1, 16) := by kernel_rfl
def OwnS (base : Nat) (w : World) (v : Value) (l : List ByteArray) : Prop := w.ownsRow base 9 1 v l.length (l.map Value.string)
theorem OwnS.open {base : Nat} {w : World} {v : Value} {l : List ByteArray} (h : OwnS base w v l) : (∃ a cap, v = .slice a l.length cap) ∧ (0 < l.length → ∃ g cap, v = .slice (some ⟨g, 0, none⟩) l.length cap ∧ l.length ≤ cap ∧ ∀ i, i < l.length → w.cell? ⟨g, i, none⟩ = some (.string (l.getD i ⟨#[]⟩))) := by
  obtain ⟨h1, h2⟩ := h
  rcases h2 with ⟨h2, h3⟩ | ⟨g, cap, cur, rfl, hg, hh, hc, hm, hs, ht⟩
  · refine ⟨?_, fun h0 => by omega⟩
    first | exact ⟨none, 0, by rw [h2, h3]⟩ | exact ⟨none, 0, by rw [h3, h2]⟩
  · refine ⟨⟨_, _, rfl⟩, fun _ => ⟨g, cap, rfl, hc, fun i hi => ?_⟩⟩
    have hx : (cur.toList.take (l.length * 1))[i]? = (l.map Value.string)[i]? := by rw [ht]
    rw [List.getElem?_take, if_pos (by omega)] at hx
    refine (cell_of_row w g i cur 9 _ hh).trans ?_
    rw [← Array.getElem?_toList, hx]
    simp [List.getD_eq_getElem?_getD, hi]
theorem ownS_snoc {base : Nat} {w : World} {v : Value} {l r : List ByteArray} {n : Nat} (hn : n = r.length) (h : w.ownsRow base 9 1 v (l.length + n) (l.map Value.string ++ r.map Value.string)) : OwnS base w v (l ++ r) := by
  unfold OwnS
  rw [List.map_append, List.length_append, ← hn]
  exact h
def strs (n : Nat) (f : Nat → ByteArray) : List ByteArray := (List.range n).map f
theorem strs_len (n : Nat) (f : Nat → ByteArray) : (strs n f).length = n := by simp [strs]
theorem strs_at (n : Nat) (f : Nat → ByteArray) {i : Nat} (hi : i < n) : (strs n f).getD i ⟨#[]⟩ = f i := by
  simp [strs, List.getD_eq_getElem?_getD, hi]
/-- a row of strings, of whatever capacity -/
def SRow (B : Nat) (W : World) (a : Option Addr) (n cap : Nat) (f : Nat → ByteArray) : Prop :=
  n ≤ cap ∧ n ≤ 140737488355328 ∧ (a = none → n = 0 ∧ cap = 0) ∧ (0 < n → ∃ g o, a = some ⟨g, o, none⟩ ∧ g < B ∧ ∀ i, i < n → ∀ j u, ([Value.string (f i)])[j]? = some u → W.cell? ⟨g, o + i * 1 + j, none⟩ = some u)
theorem SLIn.srow {B : Nat} {W : World} {a : Option Addr} {n cap : Nat} {f : Nat → ByteArray} (h : SLIn B W ⟨a, n, cap, f⟩) : SRow B W a n cap f := ⟨h.1.1, by have h1 : n ≤ cap := h.1.1; have h2 : cap ≤ 140737488355328 := h.1.2.1; omega, h.1.2.2.1, h.1.2.2.2⟩
theorem SRow.below {B B' : Nat} {W W' : World} {a : Option Addr} {n cap : Nat} {f : Nat → ByteArray} (h : SRow B W a n cap f) (hb : Below B' W W') (hB : B ≤ B') : SRow B' W' a n cap f :=
  ⟨h.1, h.2.1, h.2.2.1, fun hn => by
    obtain ⟨g, o, ha, hg, hc⟩ := h.2.2.2 hn
    exact ⟨g, o, ha, by omega, fun i hi j u hj => by rw [hb.cell (p := ⟨g, o + i * 1 + j, none⟩) (by show g < B'; omega)]; exact hc i hi j u hj⟩⟩
theorem strs_cells {B : Nat} {W w : World} {ad : Addr} {n cap : Nat} {f : Nat → ByteArray} (h : SRow B W (some ad) n cap f) (hb : Below B W w) : ∀ j u, ((strs n f).map Value.string)[j]? = some u → w.cell? (ad.add j) = some u := by
  intro j u hj
  have hjn : j < n := by
    have := (List.getElem?_eq_some_iff.1 hj).1
    simpa [strs] using this
  obtain ⟨g, o, ha, hg, hc⟩ := h.2.2.2 (by omega)
  cases ha
  have hu : u = .string (f j) := by
    simp [strs, hjn] at hj
    exact hj.symm
  subst hu
  have h1 := hc j hjn 0 (.string (f j)) rfl
  have e : (⟨g, o, none⟩ : Addr).add j = ⟨g, o + j * 1 + 0, none⟩ := by rw [Addr.add_mid]; simp
  rw [e]
  exact (World.cell?_of_block (w := W) (a := ⟨g, o + j * 1 + 0, none⟩) (hb.block g hg)).trans h1
/-- the text of a list -/
def lstT (l : List ByteArray) (k : Nat) : List UInt8 := [123] ++ catL (fun i => sepT i ++ (l.getD i ⟨#[]⟩).data.toList) k
theorem catL_add (F : Nat → List UInt8) (a : Nat) : ∀ b, catL F (a + b) = catL F a ++ catL (fun i => F (a + i)) b
  | 0 => by simp [catL]
  | b + 1 => by rw [← Nat.add_assoc]; simp only [catL]; rw [catL_add F a b, List.append_assoc]
theorem catL_congr {F G : Nat → List UInt8} : ∀ {n : Nat}, (∀ i, i < n → F i = G i) → catL F n = catL G n
  | 0, _ => rfl
  | n + 1, h => by simp only [catL]; rw [catL_congr fun i hi => h i (by omega), h n (by omega)]
theorem lst_no (n : Nat) (f : Nat → ByteArray) (g : Nat → List UInt8) : lstT (strs n f) n ++ [32, 125] = braT (fun i => (f i).data.toList) n false g 0 := by
  unfold lstT braT
  rw [catL_congr (G := fun i => sepT i ++ (f i).data.toList) fun i hi => by rw [strs_at n f hi]]
  simp [catL]
theorem lst_ext (n m : Nat) (f g : Nat → ByteArray) : lstT (strs n f ++ [(⟨#[46, 46, 46]⟩ : ByteArray)] ++ strs m g) (n + 1 + m) ++ [32, 125] = braT (fun i => (f i).data.toList) n true (fun i => (g i).data.toList) m := by
  unfold lstT braT
  have h1 : ∀ i, i < n → (strs n f ++ [(⟨#[46, 46, 46]⟩ : ByteArray)] ++ strs m g).getD i ⟨#[]⟩ = f i := fun i hi => by
    rw [List.getD_eq_getElem?_getD, List.append_assoc, List.getElem?_append_left (by rw [strs_len]; exact hi), ← List.getD_eq_getElem?_getD]
    exact strs_at n f hi
  have h2 : (strs n f ++ [(⟨#[46, 46, 46]⟩ : ByteArray)] ++ strs m g).getD n ⟨#[]⟩ = ⟨#[46, 46, 46]⟩ := by
    rw [List.getD_eq_getElem?_getD, List.append_assoc, List.getElem?_append_right (by rw [strs_len]; exact Nat.le_refl _), strs_len, Nat.sub_self]
    rfl
  have h3 : ∀ i, i < m → (strs n f ++ [(⟨#[46, 46, 46]⟩ : ByteArray)] ++ strs m g).getD (n + 1 + i) ⟨#[]⟩ = g i := fun i hi => by
    rw [List.getD_eq_getElem?_getD, List.getElem?_append_right (by rw [List.length_append, strs_len]; simp), List.length_append, strs_len, show n + 1 + i - (n + [(⟨#[46, 46, 46]⟩ : ByteArray)].length) = i by rw [List.length_singleton]; omega, ← List.getD_eq_getElem?_getD]
    exact strs_at m g hi
  rw [catL_add, catL_add, catL_congr (G := fun i => sepT i ++ (f i).data.toList) fun i hi => by rw [h1 i hi], catL_congr (n := m) (G := fun i => [44, 32] ++ (g i).data.toList) fun i hi => by rw [h3 i hi]; unfold sepT; rw [if_neg (by omega)]]
  have e : catL (fun i => sepT (n + i) ++ ((strs n f ++ [(⟨#[46, 46, 46]⟩ : ByteArray)] ++ strs m g).getD (n + i) ⟨#[]⟩).data.toList) 1 = sepT n ++ [46, 46, 46] := by
    simp only [catL, List.nil_append, Nat.add_zero]
    rw [h2]
  rw [e]
  simp
def RelLi (w : World) (L : List ByteArray) (W : World) (ov iv : Value) (wr : World) : Prop := ∃ i : Nat, i ≤ L.length ∧ iv = .int .i64 (i : Nat) ∧ ov = .string (bs (lstT L i)) ∧ wr = W
theorem lstT_succ (l : List ByteArray) (k : Nat) : lstT l (k + 1) = lstT l k ++ (sepT k ++ (l.getD k ⟨#[]⟩).data.toList) := by
  unfold lstT
  simp only [catL, List.append_assoc]
theorem lstT_le (l : List ByteArray) {i n : Nat} (h : i ≤ n) : (lstT l i).length ≤ (lstT l n).length := by
  unfold lstT
  rw [List.length_append, List.length_append]
  exact Nat.add_le_add_left (catL_mono h) _
theorem lstT_cnt (l : List ByteArray) : ∀ k, k ≤ (lstT l k).length
  | 0 => Nat.zero_le _
  | k + 1 => by
    have h := lstT_cnt l k
    rw [lstT_succ, List.length_append, List.length_append]
    have h2 : 1 ≤ (sepT k).length := by unfold sepT; split <;> simp
    omega
set_option maxHeartbeats 16000000 in
theorem rlist_no (B : Nat) (w : World) (a : Option Addr) (n cap : Nat) (f : Nat → ByteArray) (a' : Option Addr) (m cap' : Nat) (g : Nat → List UInt8) (hB : B ≤ w.heap.size) (hs : SRow B w a n cap f) (hlen : (braT (fun i => (f i).data.toList) n false g 0).length ≤ 1000000000) :
    Calls Tryz.prog 40 #[.slice a n cap, .bool false, .slice a' m cap'] w fun e w' => e = .returned (.string (bs (braT (fun i => (f i).data.toList) n false g 0))) ∧ Below w.heap.size w w' := by
  obtain ⟨i0, hi0, hz0, hz1, hz2⟩ := info_parts info_s
  have HR1 := Lib.hid hs
  have hn : n ≤ 140737488355328 := by have h1 := HR1.out.1; have h2 := HR1.out.2.1; omega
  have HB0 := Lib.hid ((Below.refl w.heap.size w).alloc (Nat.le_refl _) (.cells #[] 9))
  have HO0 := Lib.hid (show (w.alloc (.cells #[] 9)).ownsRow w.heap.size 9 1 (.slice (some ⟨w.heap.size, 0, none⟩) 0 0) 0 [] from ⟨rfl, .inr ⟨w.heap.size, 0, _, rfl, Nat.le_refl _, heap_alloc_new w _, Nat.le_refl _, by unfold maxLen; omega, rfl, rfl⟩⟩)
  rw [← lst_no n f g] at hlen ⊢
  obtain ⟨R, hR⟩ : ∃ R, bs (lstT (strs n f) n ++ [32, 125]) = R := ⟨_, rfl⟩
  rw [hR]
  rw [List.length_append] at hlen
  have hlen : (lstT (strs n f) n).length ≤ 1000000000 := by omega
  have HTXT := Lib.hid (show bs (lstT (strs n f) n) ++ (⟨#[32, 125]⟩ : ByteArray) = R by rw [← hR, show (⟨#[32, 125]⟩ : ByteArray) = bs [32, 125] from rfl, bs_append])
  have hcnt := lstT_cnt (strs n f) n
  have hn2 : n ≤ 1000000000 := by omega
  clear hs hR hcnt
  cases a with
  | none =>
    obtain ⟨rfl, rfl⟩ := HR1.out.2.2.1 rfl
    go_enter Tryz.func40, Tryz.ntmps40
    go_wp2_with fail
    have HOA := Lib.hid (show OwnS w.heap.size (w.alloc (.cells #[] 9)) (.slice (some ⟨w.heap.size, 0, none⟩) 0 0) (strs 0 f) from HO0.out)
    have HBA := HB0
    generalize w.alloc (.cells #[] 9) = WA at *
    have e0 : strs 0 f = [] := rfl
    rw [e0] at HOA HTXT hlen
    go_loopw [8, 9] (fun ov iv wr => RelLi w [] WA ov iv wr) (fun _ iv _ => 0 - (Lib.intOf iv).toNat)
    case atStart => exact ⟨0, Nat.zero_le _, rfl, rfl, rfl⟩
    case round =>
      obtain ⟨i, hi, rfl, rfl, rfl⟩ := hrel
      obtain rfl : i = 0 := by simpa using hi
      have e8 : bs (lstT [] 0) ++ (⟨#[32, 125]⟩ : ByteArray) = R := HTXT.out
      have z8 : ¬ 9223372036854775807 < (bs (lstT [] 0)).size + 2 := by rw [bs_size]; omega
      go_wp2_with fail
      go_ret
      exact ⟨rfl, HBA.out⟩
  | some ad =>
    go_enter Tryz.func40, Tryz.ntmps40
    go_wp2_with (at_builtin; go_must (refine wpList_append_own _ rfl (.tmp 10) (.tmp 11) 35 rfl w.heap.size 9 i0 (.string ByteArray.empty) 1 16 Tryz.underlying35 hi0 hz0 hz1 hz2 rfl (by decide) _ (([] : List ByteArray)).length ((([] : List ByteArray)).map Value.string) rfl HO0.out ad n cap ((strs n f).map Value.string) rfl (by rw [List.length_map, strs_len, Nat.mul_one]) (strs_cells HR1.out (((Below.refl w.heap.size w).alloc (Nat.le_refl _) _).mono hB)) (by intro u hu; simp only [List.mem_map] at hu; obtain ⟨y, _, rfl⟩ := hu; rfl) (by first | (unfold maxLen; simp; omega) | (simp; omega)) (by first | (unfold maxLen; simp; omega) | (simp; omega)) (by simp) ?_; intro v1 w1 hown1 hgr1 _; have HO1 := Lib.hid (ownS_snoc (strs_len n f).symm hown1); have HG1 := Lib.hid hgr1; clear hown1 hgr1))
    have h2 := HO0.out
    have HB1 := Lib.hid (HB0.out.grown HG1.out (by simp) (fun k hk => (World.ownsRow.lt h2 k hk).1))
    clear h2 HG1 HO0 HR1 HB0
    have HOA := HO1
    rw [List.nil_append] at HOA
    have HBA := HB1
    obtain ⟨LA, hLA⟩ : ∃ LA, strs n f = LA := ⟨_, rfl⟩
    have hll : LA.length = n := by rw [← hLA, strs_len]
    rw [hLA] at HOA HTXT hlen
    rw [← hll] at HTXT hlen
    clear hLA hll HO1 HB1
    obtain ⟨WA, hWA⟩ : ∃ W, w1 = W := ⟨_, rfl⟩
    subst hWA
    obtain ⟨N, hN⟩ : ∃ N, LA.length = N := ⟨_, rfl⟩
    have hnn : N ≤ 1000000000 := by
      have h := lstT_cnt LA LA.length
      omega
    rw [hN] at hlen HTXT
    have HNN := Lib.hid hN
    have HLEN := Lib.hid hlen
    have HOP := Lib.hid HOA.out.open
    rw [hN] at HOP
    clear hN hlen
    by_cases hN0 : N = 0
    · subst hN0
      obtain ⟨aA, cA, hvA⟩ := HOP.out.1
      cases hvA
      go_loopw [8, 9] (fun ov iv wr => RelLi w LA w1 ov iv wr) (fun _ iv _ => LA.length - (Lib.intOf iv).toNat)
      case atStart => exact ⟨0, Nat.zero_le _, rfl, rfl, rfl⟩
      case round =>
        obtain ⟨i, hi, rfl, rfl, rfl⟩ := hrel
        rw [HNN.out] at hi
        obtain rfl : i = 0 := by omega
        have e8 : bs (lstT LA 0) ++ (⟨#[32, 125]⟩ : ByteArray) = R := HTXT.out
        have z8 : ¬ 9223372036854775807 < (bs (lstT LA 0)).size + 2 := by rw [bs_size]; have := HLEN.out; omega
        go_wp2_with fail
        go_ret
        exact ⟨rfl, HBA.out⟩
    obtain ⟨gA, cA, hvA, _, HCA0⟩ := HOP.out.2 (by omega)
    cases hvA
    have HCA := Lib.hid HCA0
    clear HCA0 HOP
    go_loopw [8, 9] (fun ov iv wr => RelLi w LA w1 ov iv wr) (fun _ iv _ => N - (Lib.intOf iv).toNat)
    case atStart => exact ⟨0, Nat.zero_le _, rfl, rfl, rfl⟩
    case round =>
      obtain ⟨i, hi, rfl, rfl, rfl⟩ := hrel
      rw [HNN.out] at hi
      by_cases hlt : i < N
      · have q1 : decide ((i : Int) < (N : Int)) = true := decide_eq_true (by omega)
        have q1n : decide (i < N) = true := decide_eq_true hlt
        have q3 : (i : Int) < (N : Int) := by omega
        have q4 : (0 : Int) ≤ (i : Int) := by omega
        have q5 : IntKind.i64.wrap ((i : Int) + 1) = ((i + 1 : Nat) : Int) := wrap_succ hlt (by omega)
        obtain ⟨S, hS⟩ : ∃ S, LA.getD i ⟨#[]⟩ = S := ⟨_, rfl⟩
        have c1 : wr.cell? ⟨gA, i, none⟩ = some (.string S) := by rw [← hS]; exact HCA.out i hlt
        have hl1 := lstT_le LA (show i + 1 ≤ N by omega)
        have hs1 := lstT_succ LA i
        rw [hS] at hs1
        obtain ⟨O, hO⟩ : ∃ O, bs (lstT LA i) = O := ⟨_, rfl⟩
        have zO : O.size = (lstT LA i).length := by rw [← hO, bs_size]
        have zS : S.data.toList.length = S.size := Array.length_toList
        have hll := HLEN.out
        rw [hs1, List.length_append, List.length_append, zS, ← zO] at hl1
        by_cases h0 : 0 < i
        · have q6 : decide ((0 : Int) < (i : Int)) = true := decide_eq_true (by omega)
          have q6n : decide (0 < i) = true := decide_eq_true h0
          have hsep : sepT i = [44, 32] := by unfold sepT; rw [if_neg (by omega)]
          rw [hsep] at hs1 hl1
          simp only [List.length_cons, List.length_nil] at hl1
          obtain ⟨O1, e1⟩ : ∃ O1, O ++ (⟨#[44]⟩ : ByteArray) = O1 := ⟨_, rfl⟩
          obtain ⟨O2, e2⟩ : ∃ O2, O1 ++ (⟨#[32]⟩ : ByteArray) = O2 := ⟨_, rfl⟩
          obtain ⟨O3, e3⟩ : ∃ O3, O2 ++ S = O3 := ⟨_, rfl⟩
          have y1 : O1.size = O.size + 1 := by rw [← e1, ByteArray.size_append]; rfl
          have y2 : O2.size = O1.size + 1 := by rw [← e2, ByteArray.size_append]; rfl
          have z1 : ¬ 9223372036854775807 < O.size + 1 := by omega
          have z2 : ¬ 9223372036854775807 < O1.size + 1 := by omega
          have z3 : ¬ 9223372036854775807 < O2.size + S.size := by omega
          have HE := Lib.hid (show bs (lstT LA (i + 1)) = O3 by
            rw [hs1, ← e3, ← e2, ← e1, ← hO, ← bs_data S, show (⟨#[44]⟩ : ByteArray) = bs [44] from rfl, show (⟨#[32]⟩ : ByteArray) = bs [32] from rfl, bs_append, bs_append, bs_append]
            simp [bs_data])
          rw [hO]
          clear hl1 hs1 hO zO zS hsep y1 y2 hS hll
          go_wp2_with fail
          go_roundw
          case rel => exact ⟨i + 1, by rw [HNN.out]; exact hlt, rfl, by rw [HE.out], rfl⟩
          case measure => simp only [Lib.intOf]; omega
        · have q6 : decide ((0 : Int) < (i : Int)) = false := decide_eq_false (by omega)
          have q6n : decide (0 < i) = false := decide_eq_false h0
          have hsep : sepT i = [32] := by unfold sepT; rw [if_pos (by omega)]
          rw [hsep] at hs1 hl1
          simp only [List.length_cons, List.length_nil] at hl1
          obtain ⟨O2, e2⟩ : ∃ O2, O ++ (⟨#[32]⟩ : ByteArray) = O2 := ⟨_, rfl⟩
          obtain ⟨O3, e3⟩ : ∃ O3, O2 ++ S = O3 := ⟨_, rfl⟩
          have y2 : O2.size = O.size + 1 := by rw [← e2, ByteArray.size_append]; rfl
          have z2 : ¬ 9223372036854775807 < O.size + 1 := by omega
          have z3 : ¬ 9223372036854775807 < O2.size + S.size := by omega
          have HE := Lib.hid (show bs (lstT LA (i + 1)) = O3 by
            rw [hs1, ← e3, ← e2, ← hO, ← bs_data S, show (⟨#[32]⟩ : ByteArray) = bs [32] from rfl, bs_append, bs_append]
            simp [bs_data])
          rw [hO]
          clear hl1 hs1 hO zO zS hsep y2 hS hll
          go_wp2_with fail
          go_roundw
          case rel => exact ⟨i + 1, by rw [HNN.out]; exact hlt, rfl, by rw [HE.out], rfl⟩
          case measure => simp only [Lib.intOf]; omega
      · have q1 : decide ((i : Int) < (N : Int)) = false := decide_eq_false (by omega)
        have q1n : decide (i < N) = false := decide_eq_false hlt
        obtain rfl : i = N := by omega
        obtain ⟨O, hO⟩ : ∃ O, bs (lstT LA i) = O := ⟨_, rfl⟩
        have e8 : O ++ (⟨#[32, 125]⟩ : ByteArray) = R := by rw [← hO]; exact HTXT.out
        have z8 : ¬ 9223372036854775807 < O.size + 2 := by rw [← hO, bs_size]; have := HLEN.out; omega
        rw [hO]
        clear hO
        go_wp2_with fail
        go_ret
        exact ⟨rfl, HBA.out⟩
set_option maxHeartbeats 16000000 in
theorem rlist_ext (B : Nat) (w : World) (a : Option Addr) (n cap : Nat) (f : Nat → ByteArray) (a' : Option Addr) (m cap' : Nat) (g : Nat → ByteArray) (hB : B ≤ w.heap.size) (hs : SRow B w a n cap f) (hs' : SRow B w a' m cap' g) (hlen : (braT (fun i => (f i).data.toList) n true (fun i => (g i).data.toList) m).length ≤ 1000000000) :
    Calls Tryz.prog 40 #[.slice a n cap, .bool true, .slice a' m cap'] w fun e w' => e = .returned (.string (bs (braT (fun i => (f i).data.toList) n true (fun i => (g i).data.toList) m))) ∧ Below w.heap.size w w' := by
  obtain ⟨i0, hi0, hz0, hz1, hz2⟩ := info_parts info_s
  have HR1 := Lib.hid hs
  have HR2 := Lib.hid hs'
  have HB0 := Lib.hid ((Below.refl w.heap.size w).alloc (Nat.le_refl _) (.cells #[] 9))
  have HO0 := Lib.hid (show (w.alloc (.cells #[] 9)).ownsRow w.heap.size 9 1 (.slice (some ⟨w.heap.size, 0, none⟩) 0 0) 0 [] from ⟨rfl, .inr ⟨w.heap.size, 0, _, rfl, Nat.le_refl _, heap_alloc_new w _, Nat.le_refl _, by unfold maxLen; omega, rfl, rfl⟩⟩)
  rw [← lst_ext n m f g] at hlen ⊢
  obtain ⟨R, hR⟩ : ∃ R, bs (lstT (strs n f ++ [(⟨#[46, 46, 46]⟩ : ByteArray)] ++ strs m g) (n + 1 + m) ++ [32, 125]) = R := ⟨_, rfl⟩
  rw [hR]
  rw [List.length_append] at hlen
  have hlen : (lstT (strs n f ++ [(⟨#[46, 46, 46]⟩ : ByteArray)] ++ strs m g) (n + 1 + m)).length ≤ 1000000000 := by omega
  have HTXT := Lib.hid (show bs (lstT (strs n f ++ [(⟨#[46, 46, 46]⟩ : ByteArray)] ++ strs m g) (n + 1 + m)) ++ (⟨#[32, 125]⟩ : ByteArray) = R by rw [← hR, show (⟨#[32, 125]⟩ : ByteArray) = bs [32, 125] from rfl, bs_append])
  have hcnt := lstT_cnt (strs n f ++ [(⟨#[46, 46, 46]⟩ : ByteArray)] ++ strs m g) (n + 1 + m)
  have hn2 : n ≤ 1000000000 := by omega
  have hm2 : m ≤ 1000000000 := by omega
  have HLN := Lib.hid hlen
  clear hs hs' hR hcnt hlen
  obtain ⟨L1, hL1⟩ : ∃ L1, strs n f = L1 := ⟨_, rfl⟩
  have hl1e : L1.length = n := by rw [← hL1, strs_len]
  have hl1 : L1.length ≤ 1000000000 := by omega
  rw [hL1, ← hl1e] at HTXT HLN
  clear hl1e
  cases a with
  | none =>
    obtain ⟨rfl, rfl⟩ := HR1.out.2.2.1 rfl
    have e0 : L1 = [] := hL1.symm
    go_enter Tryz.func40, Tryz.ntmps40
    go_upto_region 3 with fail
    have HO1 := Lib.hid (show OwnS w.heap.size (w.alloc (.cells #[] 9)) (.slice (some ⟨w.heap.size, 0, none⟩) 0 0) L1 from by rw [e0]; exact HO0.out)
    have HB1 := HB0
    clear HO0 HB0 hL1 e0
    generalize w.alloc (.cells #[] 9) = w1 at *
    generalize Value.slice (some ⟨w.heap.size, 0, none⟩) 0 0 = v1 at *
    go_upto_region 4 with (at_builtin; go_must (refine wpList_append_own _ rfl (.tmp 14) (.tmp 15) 35 rfl w.heap.size 9 i0 (.string ByteArray.empty) 1 16 Tryz.underlying35 hi0 hz0 hz1 hz2 rfl (by decide) _ (L1).length ((L1).map Value.string) rfl (World.ownsRow.alloc HO1.out _) ⟨w1.heap.size, 0, none⟩ 1 1 ([((⟨#[46, 46, 46]⟩ : ByteArray))].map Value.string) rfl (by simp) (cell_one_new _ _ _) (by intro u hu; simp at hu; subst hu; rfl) (by first | (unfold maxLen; omega) | omega | (unfold maxLen; simp; omega) | (simp; omega)) (by first | (unfold maxLen; omega) | omega | (unfold maxLen; simp; omega) | (simp; omega)) (by have := HB1.out.size; first | omega | (simp; omega)) ?_; intro v2 w2 hown2 hgr2 _; have HO2 := Lib.hid (ownS_snoc (l := L1) (r := [((⟨#[46, 46, 46]⟩ : ByteArray))]) rfl hown2); have HG2 := Lib.hid hgr2; clear hown2 hgr2))
    have h2 := World.ownsRow.alloc HO1.out (.cells #[.string ⟨#[46, 46, 46]⟩] 9)
    have HB2 := Lib.hid ((HB1.out.alloc HB1.out.size (.cells #[.string ⟨#[46, 46, 46]⟩] 9)).grown HG2.out (by have := HB1.out.size; simp; omega) (fun k hk => (World.ownsRow.lt h2 k hk).1))
    clear h2 HG2 HO1
    cases a' with
    | none =>
      obtain ⟨rfl, rfl⟩ := HR2.out.2.2.1 rfl
      obtain ⟨g2, c2, rfl, hc2, hcc⟩ := HO2.out.open.2 (by simp)
      obtain ⟨N2, hN2⟩ : ∃ N2, (L1 ++ [((⟨#[46, 46, 46]⟩ : ByteArray))]).length = N2 := ⟨_, rfl⟩
      have HN2 := Lib.hid hN2
      rw [hN2] at hc2 hcc ⊢
      have HC2 := Lib.hid hcc
      clear hcc
      have hc2b : N2 + 0 ≤ c2 := hc2
      clear hN2
      go_wp2_with fail
      rw [show strs 0 g = [] from rfl, List.append_nil, Nat.add_zero] at HTXT HLN
      have HOA := HO2
      have HBA := HB2
      obtain ⟨LA, hLA⟩ : ∃ LA, L1 ++ [((⟨#[46, 46, 46]⟩ : ByteArray))] = LA := ⟨_, rfl⟩
      have hll : LA.length = L1.length + 1 := by rw [← hLA]; simp [strs_len]; try omega
      have hTX : bs (lstT LA LA.length) ++ (⟨#[32, 125]⟩ : ByteArray) = R := by rw [hll, ← hLA]; exact HTXT.out
      have hlen : (lstT LA LA.length).length ≤ 1000000000 := by rw [hll, ← hLA]; exact HLN.out
      rw [hLA] at HOA
      clear HTXT
      have HTXT := Lib.hid hTX
      obtain ⟨N, hN⟩ : ∃ N, LA.length = N := ⟨_, rfl⟩
      obtain rfl : N = N2 := by rw [← hN, ← hLA]; exact HN2.out
      have hnn : N ≤ 1000000000 := by
        have h := lstT_cnt LA LA.length
        omega
      rw [hN] at hlen HTXT
      have HNN := Lib.hid hN
      have HLEN := Lib.hid hlen
      have HCA := Lib.hid (show ∀ i, i < N → w2.cell? ⟨g2, i, none⟩ = some (.string (LA.getD i ⟨#[]⟩)) by rw [← hLA]; exact HC2.out)
      clear hN hlen hLA hll hTX hl1 hm2 HN2 HC2
      go_loopw [8, 9] (fun ov iv wr => RelLi w LA w2 ov iv wr) (fun _ iv _ => N - (Lib.intOf iv).toNat)
      case atStart => exact ⟨0, Nat.zero_le _, rfl, rfl, rfl⟩
      case round =>
        obtain ⟨i, hi, rfl, rfl, rfl⟩ := hrel
        rw [HNN.out] at hi
        by_cases hlt : i < N
        · have q1 : decide ((i : Int) < (N : Int)) = true := decide_eq_true (by omega)
          have q1n : decide (i < N) = true := decide_eq_true hlt
          have q3 : (i : Int) < (N : Int) := by omega
          have q4 : (0 : Int) ≤ (i : Int) := by omega
          have q5 : IntKind.i64.wrap ((i : Int) + 1) = ((i + 1 : Nat) : Int) := wrap_succ hlt (by omega)
          obtain ⟨S, hS⟩ : ∃ S, LA.getD i ⟨#[]⟩ = S := ⟨_, rfl⟩
          have c1 : wr.cell? ⟨g2, i, none⟩ = some (.string S) := by rw [← hS]; exact HCA.out i hlt
          have hl1 := lstT_le LA (show i + 1 ≤ N by omega)
          have hs1 := lstT_succ LA i
          rw [hS] at hs1
          obtain ⟨O, hO⟩ : ∃ O, bs (lstT LA i) = O := ⟨_, rfl⟩
          have zO : O.size = (lstT LA i).length := by rw [← hO, bs_size]
          have zS : S.data.toList.length = S.size := Array.length_toList
          have hll := HLEN.out
          rw [hs1, List.length_append, List.length_append, zS, ← zO] at hl1
          by_cases h0 : 0 < i
          · have q6 : decide ((0 : Int) < (i : Int)) = true := decide_eq_true (by omega)
            have q6n : decide (0 < i) = true := decide_eq_true h0
            have hsep : sepT i = [44, 32] := by unfold sepT; rw [if_neg (by omega)]
            rw [hsep] at hs1 hl1
            simp only [List.length_cons, List.length_nil] at hl1
            obtain ⟨O1, e1⟩ : ∃ O1, O ++ (⟨#[44]⟩ : ByteArray) = O1 := ⟨_, rfl⟩
            obtain ⟨O2, e2⟩ : ∃ O2, O1 ++ (⟨#[32]⟩ : ByteArray) = O2 := ⟨_, rfl⟩
            obtain ⟨O3, e3⟩ : ∃ O3, O2 ++ S = O3 := ⟨_, rfl⟩
            have y1 : O1.size = O.size + 1 := by rw [← e1, ByteArray.size_append]; rfl
            have y2 : O2.size = O1.size + 1 := by rw [← e2, ByteArray.size_append]; rfl
            have z1 : ¬ 9223372036854775807 < O.size + 1 := by omega
            have z2 : ¬ 9223372036854775807 < O1.size + 1 := by omega
            have z3 : ¬ 9223372036854775807 < O2.size + S.size := by omega
            have HE := Lib.hid (show bs (lstT LA (i + 1)) = O3 by
              rw [hs1, ← e3, ← e2, ← e1, ← hO, ← bs_data S, show (⟨#[44]⟩ : ByteArray) = bs [44] from rfl, show (⟨#[32]⟩ : ByteArray) = bs [32] from rfl, bs_append, bs_append, bs_append]
              simp [bs_data])
            rw [hO]
            clear hl1 hs1 hO zO zS hsep y1 y2 hS hll
            go_wp2_with fail
            go_roundw
            case rel => exact ⟨i + 1, by rw [HNN.out]; exact hlt, rfl, by rw [HE.out], rfl⟩
            case measure => simp only [Lib.intOf]; omega
          · have q6 : decide ((0 : Int) < (i : Int)) = false := decide_eq_false (by omega)
            have q6n : decide (0 < i) = false := decide_eq_false h0
            have hsep : sepT i = [32] := by unfold sepT; rw [if_pos (by omega)]
            rw [hsep] at hs1 hl1
            simp only [List.length_cons, List.length_nil] at hl1
            obtain ⟨O2, e2⟩ : ∃ O2, O ++ (⟨#[32]⟩ : ByteArray) = O2 := ⟨_, rfl⟩
            obtain ⟨O3, e3⟩ : ∃ O3, O2 ++ S = O3 := ⟨_, rfl⟩
            have y2 : O2.size = O.size + 1 := by rw [← e2, ByteArray.size_append]; rfl
            have z2 : ¬ 9223372036854775807 < O.size + 1 := by omega
            have z3 : ¬ 9223372036854775807 < O2.size + S.size := by omega
            have HE := Lib.hid (show bs (lstT LA (i + 1)) = O3 by
              rw [hs1, ← e3, ← e2, ← hO, ← bs_data S, show (⟨#[32]⟩ : ByteArray) = bs [32] from rfl, bs_append, bs_append]
              simp [bs_data])
            rw [hO]
            clear hl1 hs1 hO zO zS hsep y2 hS hll
            go_wp2_with fail
            go_roundw
            case rel => exact ⟨i + 1, by rw [HNN.out]; exact hlt, rfl, by rw [HE.out], rfl⟩
            case measure => simp only [Lib.intOf]; omega
        · have q1 : decide ((i : Int) < (N : Int)) = false := decide_eq_false (by omega)
          have q1n : decide (i < N) = false := decide_eq_false hlt
          obtain rfl : i = N := by omega
          obtain ⟨O, hO⟩ : ∃ O, bs (lstT LA i) = O := ⟨_, rfl⟩
          have e8 : O ++ (⟨#[32, 125]⟩ : ByteArray) = R := by rw [← hO]; exact HTXT.out
          have z8 : ¬ 9223372036854775807 < O.size + 2 := by rw [← hO, bs_size]; have := HLEN.out; omega
          rw [hO]
          clear hO
          go_wp2_with fail
          go_ret
          exact ⟨rfl, HBA.out⟩
    | some ad' =>
      go_wp2_with (at_builtin; go_must (refine wpList_append_own _ rfl (.tmp 17) (.tmp 18) 35 rfl w.heap.size 9 i0 (.string ByteArray.empty) 1 16 Tryz.underlying35 hi0 hz0 hz1 hz2 rfl (by decide) _ (L1 ++ [((⟨#[46, 46, 46]⟩ : ByteArray))]).length ((L1 ++ [((⟨#[46, 46, 46]⟩ : ByteArray))]).map Value.string) rfl HO2.out ad' m cap' ((strs m g).map Value.string) rfl (by rw [List.length_map, strs_len, Nat.mul_one]) (strs_cells HR2.out (HB2.out.mono hB)) (by intro u hu; simp only [List.mem_map] at hu; obtain ⟨y, _, rfl⟩ := hu; rfl) (by first | (unfold maxLen; omega) | omega | (unfold maxLen; simp; omega) | (simp; omega)) (by first | (unfold maxLen; omega) | omega | (unfold maxLen; simp; omega) | (simp; omega)) (by have := HB2.out.size; first | omega | (simp; omega)) ?_; intro v3 w3 hown3 hgr3 _; have HO3 := Lib.hid (ownS_snoc (strs_len m g).symm hown3); have HG3 := Lib.hid hgr3; clear hown3 hgr3))
      have HB3 := Lib.hid (HB2.out.grown HG3.out HB2.out.size (fun k hk => (World.ownsRow.lt HO2.out k hk).1))
      clear HG3 HO2
      have HOA := HO3
      have HBA := HB3
      obtain ⟨LA, hLA⟩ : ∃ LA, L1 ++ [((⟨#[46, 46, 46]⟩ : ByteArray))] ++ strs m g = LA := ⟨_, rfl⟩
      have hll : LA.length = L1.length + 1 + m := by rw [← hLA]; simp [strs_len]; try omega
      have hTX : bs (lstT LA LA.length) ++ (⟨#[32, 125]⟩ : ByteArray) = R := by rw [hll, ← hLA]; exact HTXT.out
      have hlen : (lstT LA LA.length).length ≤ 1000000000 := by rw [hll, ← hLA]; exact HLN.out
      rw [hLA] at HOA
      clear HTXT
      have HTXT := Lib.hid hTX
      obtain ⟨N, hN⟩ : ∃ N, LA.length = N := ⟨_, rfl⟩
      have hnn : N ≤ 1000000000 := by
        have h := lstT_cnt LA LA.length
        omega
      rw [hN] at hlen HTXT
      have hN1 : 0 < N := by omega
      have HNN := Lib.hid hN
      have HLEN := Lib.hid hlen
      have HOP := Lib.hid HOA.out.open
      rw [hN] at HOP
      clear hN hlen hLA hll hTX hl1 hm2
      obtain ⟨gA, cA, hvA, _, HCA0⟩ := HOP.out.2 hN1
      cases hvA
      have HCA := Lib.hid HCA0
      clear HCA0 HOP
      go_loopw [8, 9] (fun ov iv wr => RelLi w LA w3 ov iv wr) (fun _ iv _ => N - (Lib.intOf iv).toNat)
      case atStart => exact ⟨0, Nat.zero_le _, rfl, rfl, rfl⟩
      case round =>
        obtain ⟨i, hi, rfl, rfl, rfl⟩ := hrel
        rw [HNN.out] at hi
        by_cases hlt : i < N
        · have q1 : decide ((i : Int) < (N : Int)) = true := decide_eq_true (by omega)
          have q1n : decide (i < N) = true := decide_eq_true hlt
          have q3 : (i : Int) < (N : Int) := by omega
          have q4 : (0 : Int) ≤ (i : Int) := by omega
          have q5 : IntKind.i64.wrap ((i : Int) + 1) = ((i + 1 : Nat) : Int) := wrap_succ hlt (by omega)
          obtain ⟨S, hS⟩ : ∃ S, LA.getD i ⟨#[]⟩ = S := ⟨_, rfl⟩
          have c1 : wr.cell? ⟨gA, i, none⟩ = some (.string S) := by rw [← hS]; exact HCA.out i hlt
          have hl1 := lstT_le LA (show i + 1 ≤ N by omega)
          have hs1 := lstT_succ LA i
          rw [hS] at hs1
          obtain ⟨O, hO⟩ : ∃ O, bs (lstT LA i) = O := ⟨_, rfl⟩
          have zO : O.size = (lstT LA i).length := by rw [← hO, bs_size]
          have zS : S.data.toList.length = S.size := Array.length_toList
          have hll := HLEN.out
          rw [hs1, List.length_append, List.length_append, zS, ← zO] at hl1
          by_cases h0 : 0 < i
          · have q6 : decide ((0 : Int) < (i : Int)) = true := decide_eq_true (by omega)
            have q6n : decide (0 < i) = true := decide_eq_true h0
            have hsep : sepT i = [44, 32] := by unfold sepT; rw [if_neg (by omega)]
            rw [hsep] at hs1 hl1
            simp only [List.length_cons, List.length_nil] at hl1
            obtain ⟨O1, e1⟩ : ∃ O1, O ++ (⟨#[44]⟩ : ByteArray) = O1 := ⟨_, rfl⟩
            obtain ⟨O2, e2⟩ : ∃ O2, O1 ++ (⟨#[32]⟩ : ByteArray) = O2 := ⟨_, rfl⟩
            obtain ⟨O3, e3⟩ : ∃ O3, O2 ++ S = O3 := ⟨_, rfl⟩
            have y1 : O1.size = O.size + 1 := by rw [← e1, ByteArray.size_append]; rfl
            have y2 : O2.size = O1.size + 1 := by rw [← e2, ByteArray.size_append]; rfl
            have z1 : ¬ 9223372036854775807 < O.size + 1 := by omega
            have z2 : ¬ 9223372036854775807 < O1.size + 1 := by omega
            have z3 : ¬ 9223372036854775807 < O2.size + S.size := by omega
            have HE := Lib.hid (show bs (lstT LA (i + 1)) = O3 by
              rw [hs1, ← e3, ← e2, ← e1, ← hO, ← bs_data S, show (⟨#[44]⟩ : ByteArray) = bs [44] from rfl, show (⟨#[32]⟩ : ByteArray) = bs [32] from rfl, bs_append, bs_append, bs_append]
              simp [bs_data])
            rw [hO]
            clear hl1 hs1 hO zO zS hsep y1 y2 hS hll
            go_wp2_with fail
            go_roundw
            case rel => exact ⟨i + 1, by rw [HNN.out]; exact hlt, rfl, by rw [HE.out], rfl⟩
            case measure => simp only [Lib.intOf]; omega
          · have q6 : decide ((0 : Int) < (i : Int)) = false := decide_eq_false (by omega)
            have q6n : decide (0 < i) = false := decide_eq_false h0
            have hsep : sepT i = [32] := by unfold sepT; rw [if_pos (by omega)]
            rw [hsep] at hs1 hl1
            simp only [List.length_cons, List.length_nil] at hl1
            obtain ⟨O2, e2⟩ : ∃ O2, O ++ (⟨#[32]⟩ : ByteArray) = O2 := ⟨_, rfl⟩
            obtain ⟨O3, e3⟩ : ∃ O3, O2 ++ S = O3 := ⟨_, rfl⟩
            have y2 : O2.size = O.size + 1 := by rw [← e2, ByteArray.size_append]; rfl
            have z2 : ¬ 9223372036854775807 < O.size + 1 := by omega
            have z3 : ¬ 9223372036854775807 < O2.size + S.size := by omega
            have HE := Lib.hid (show bs (lstT LA (i + 1)) = O3 by
              rw [hs1, ← e3, ← e2, ← hO, ← bs_data S, show (⟨#[32]⟩ : ByteArray) = bs [32] from rfl, bs_append, bs_append]
              simp [bs_data])
            rw [hO]
            clear hl1 hs1 hO zO zS hsep y2 hS hll
            go_wp2_with fail
            go_roundw
            case rel => exact ⟨i + 1, by rw [HNN.out]; exact hlt, rfl, by rw [HE.out], rfl⟩
            case measure => simp only [Lib.intOf]; omega
        · have q1 : decide ((i : Int) < (N : Int)) = false := decide_eq_false (by omega)
          have q1n : decide (i < N) = false := decide_eq_false hlt
          obtain rfl : i = N := by omega
          obtain ⟨O, hO⟩ : ∃ O, bs (lstT LA i) = O := ⟨_, rfl⟩
          have e8 : O ++ (⟨#[32, 125]⟩ : ByteArray) = R := by rw [← hO]; exact HTXT.out
          have z8 : ¬ 9223372036854775807 < O.size + 2 := by rw [← hO, bs_size]; have := HLEN.out; omega
          rw [hO]
          clear hO
          go_wp2_with fail
          go_ret
          exact ⟨rfl, HBA.out⟩
  | some ad =>
    go_enter Tryz.func40, Tryz.ntmps40
    go_upto_region 3 with (at_builtin; go_must (refine wpList_append_own _ rfl (.tmp 10) (.tmp 11) 35 rfl w.heap.size 9 i0 (.string ByteArray.empty) 1 16 Tryz.underlying35 hi0 hz0 hz1 hz2 rfl (by decide) _ (([] : List ByteArray)).length ((([] : List ByteArray)).map Value.string) rfl HO0.out ad n cap ((strs n f).map Value.string) rfl (by rw [List.length_map, strs_len, Nat.mul_one]) (strs_cells HR1.out (((Below.refl w.heap.size w).alloc (Nat.le_refl _) _).mono hB)) (by intro u hu; simp only [List.mem_map] at hu; obtain ⟨y, _, rfl⟩ := hu; rfl) (by first | (unfold maxLen; omega) | omega | (unfold maxLen; simp; omega) | (simp; omega)) (by first | (unfold maxLen; omega) | omega | (unfold maxLen; simp; omega) | (simp; omega)) (by simp) ?_; intro v1 w1 hown1 hgr1 _; have HO1 := Lib.hid (ownS_snoc (strs_len n f).symm hown1); have HG1 := Lib.hid hgr1; clear hown1 hgr1))
    have h2 := HO0.out
    have HB1 := Lib.hid (HB0.out.grown HG1.out (by simp) (fun k hk => (World.ownsRow.lt h2 k hk).1))
    clear h2 HG1 HO0 HB0
    rw [List.nil_append, hL1] at HO1
    clear hL1
    go_upto_region 4 with (at_builtin; go_must (refine wpList_append_own _ rfl (.tmp 14) (.tmp 15) 35 rfl w.heap.size 9 i0 (.string ByteArray.empty) 1 16 Tryz.underlying35 hi0 hz0 hz1 hz2 rfl (by decide) _ (L1).length ((L1).map Value.string) rfl (World.ownsRow.alloc HO1.out _) ⟨w1.heap.size, 0, none⟩ 1 1 ([((⟨#[46, 46, 46]⟩ : ByteArray))].map Value.string) rfl (by simp) (cell_one_new _ _ _) (by intro u hu; simp at hu; subst hu; rfl) (by first | (unfold maxLen; omega) | omega | (unfold maxLen; simp; omega) | (simp; omega)) (by first | (unfold maxLen; omega) | omega | (unfold maxLen; simp; omega) | (simp; omega)) (by have := HB1.out.size; first | omega | (simp; omega)) ?_; intro v2 w2 hown2 hgr2 _; have HO2 := Lib.hid (ownS_snoc (l := L1) (r := [((⟨#[46, 46, 46]⟩ : ByteArray))]) rfl hown2); have HG2 := Lib.hid hgr2; clear hown2 hgr2))
    have h2 := World.ownsRow.alloc HO1.out (.cells #[.string ⟨#[46, 46, 46]⟩] 9)
    have HB2 := Lib.hid ((HB1.out.alloc HB1.out.size (.cells #[.string ⟨#[46, 46, 46]⟩] 9)).grown HG2.out (by have := HB1.out.size; simp; omega) (fun k hk => (World.ownsRow.lt h2 k hk).1))
    clear h2 HG2 HO1
    cases a' with
    | none =>
      obtain ⟨rfl, rfl⟩ := HR2.out.2.2.1 rfl
      obtain ⟨g2, c2, rfl, hc2, hcc⟩ := HO2.out.open.2 (by simp)
      obtain ⟨N2, hN2⟩ : ∃ N2, (L1 ++ [((⟨#[46, 46, 46]⟩ : ByteArray))]).length = N2 := ⟨_, rfl⟩
      have HN2 := Lib.hid hN2
      rw [hN2] at hc2 hcc ⊢
      have HC2 := Lib.hid hcc
      clear hcc
      have hc2b : N2 + 0 ≤ c2 := hc2
      clear hN2
      go_wp2_with fail
      rw [show strs 0 g = [] from rfl, List.append_nil, Nat.add_zero] at HTXT HLN
      have HOA := HO2
      have HBA := HB2
      obtain ⟨LA, hLA⟩ : ∃ LA, L1 ++ [((⟨#[46, 46, 46]⟩ : ByteArray))] = LA := ⟨_, rfl⟩
      have hll : LA.length = L1.length + 1 := by rw [← hLA]; simp [strs_len]; try omega
      have hTX : bs (lstT LA LA.length) ++ (⟨#[32, 125]⟩ : ByteArray) = R := by rw [hll, ← hLA]; exact HTXT.out
      have hlen : (lstT LA LA.length).length ≤ 1000000000 := by rw [hll, ← hLA]; exact HLN.out
      rw [hLA] at HOA
      clear HTXT
      have HTXT := Lib.hid hTX
      obtain ⟨N, hN⟩ : ∃ N, LA.length = N := ⟨_, rfl⟩
      obtain rfl : N = N2 := by rw [← hN, ← hLA]; exact HN2.out
      have hnn : N ≤ 1000000000 := by
        have h := lstT_cnt LA LA.length
        omega
      rw [hN] at hlen HTXT
      have HNN := Lib.hid hN
      have HLEN := Lib.hid hlen
      have HCA := Lib.hid (show ∀ i, i < N → w2.cell? ⟨g2, i, none⟩ = some (.string (LA.getD i ⟨#[]⟩)) by rw [← hLA]; exact HC2.out)
      clear hN hlen hLA hll hTX hl1 hm2 HN2 HC2
      go_loopw [8, 9] (fun ov iv wr => RelLi w LA w2 ov iv wr) (fun _ iv _ => N - (Lib.intOf iv).toNat)
      case atStart => exact ⟨0, Nat.zero_le _, rfl, rfl, rfl⟩
      case round =>
        obtain ⟨i, hi, rfl, rfl, rfl⟩ := hrel
        rw [HNN.out] at hi
        by_cases hlt : i < N
        · have q1 : decide ((i : Int) < (N : Int)) = true := decide_eq_true (by omega)
          have q1n : decide (i < N) = true := decide_eq_true hlt
          have q3 : (i : Int) < (N : Int) := by omega
          have q4 : (0 : Int) ≤ (i : Int) := by omega
          have q5 : IntKind.i64.wrap ((i : Int) + 1) = ((i + 1 : Nat) : Int) := wrap_succ hlt (by omega)
          obtain ⟨S, hS⟩ : ∃ S, LA.getD i ⟨#[]⟩ = S := ⟨_, rfl⟩
          have c1 : wr.cell? ⟨g2, i, none⟩ = some (.string S) := by rw [← hS]; exact HCA.out i hlt
          have hl1 := lstT_le LA (show i + 1 ≤ N by omega)
          have hs1 := lstT_succ LA i
          rw [hS] at hs1
          obtain ⟨O, hO⟩ : ∃ O, bs (lstT LA i) = O := ⟨_, rfl⟩
          have zO : O.size = (lstT LA i).length := by rw [← hO, bs_size]
          have zS : S.data.toList.length = S.size := Array.length_toList
          have hll := HLEN.out
          rw [hs1, List.length_append, List.length_append, zS, ← zO] at hl1
          by_cases h0 : 0 < i
          · have q6 : decide ((0 : Int) < (i : Int)) = true := decide_eq_true (by omega)
            have q6n : decide (0 < i) = true := decide_eq_true h0
            have hsep : sepT i = [44, 32] := by unfold sepT; rw [if_neg (by omega)]
            rw [hsep] at hs1 hl1
            simp only [List.length_cons, List.length_nil] at hl1
            obtain ⟨O1, e1⟩ : ∃ O1, O ++ (⟨#[44]⟩ : ByteArray) = O1 := ⟨_, rfl⟩
            obtain ⟨O2, e2⟩ : ∃ O2, O1 ++ (⟨#[32]⟩ : ByteArray) = O2 := ⟨_, rfl⟩
            obtain ⟨O3, e3⟩ : ∃ O3, O2 ++ S = O3 := ⟨_, rfl⟩
            have y1 : O1.size = O.size + 1 := by rw [← e1, ByteArray.size_append]; rfl
            have y2 : O2.size = O1.size + 1 := by rw [← e2, ByteArray.size_append]; rfl
            have z1 : ¬ 9223372036854775807 < O.size + 1 := by omega
            have z2 : ¬ 9223372036854775807 < O1.size + 1 := by omega
            have z3 : ¬ 9223372036854775807 < O2.size + S.size := by omega
            have HE := Lib.hid (show bs (lstT LA (i + 1)) = O3 by
              rw [hs1, ← e3, ← e2, ← e1, ← hO, ← bs_data S, show (⟨#[44]⟩ : ByteArray) = bs [44] from rfl, show (⟨#[32]⟩ : ByteArray) = bs [32] from rfl, bs_append, bs_append, bs_append]
              simp [bs_data])
            rw [hO]
            clear hl1 hs1 hO zO zS hsep y1 y2 hS hll
            go_wp2_with fail
            go_roundw
            case rel => exact ⟨i + 1, by rw [HNN.out]; exact hlt, rfl, by rw [HE.out], rfl⟩
            case measure => simp only [Lib.intOf]; omega
          · have q6 : decide ((0 : Int) < (i : Int)) = false := decide_eq_false (by omega)
            have q6n : decide (0 < i) = false := decide_eq_false h0
            have hsep : sepT i = [32] := by unfold sepT; rw [if_pos (by omega)]
            rw [hsep] at hs1 hl1
            simp only [List.length_cons, List.length_nil] at hl1
            obtain ⟨O2, e2⟩ : ∃ O2, O ++ (⟨#[32]⟩ : ByteArray) = O2 := ⟨_, rfl⟩
            obtain ⟨O3, e3⟩ : ∃ O3, O2 ++ S = O3 := ⟨_, rfl⟩
            have y2 : O2.size = O.size + 1 := by rw [← e2, ByteArray.size_append]; rfl
            have z2 : ¬ 9223372036854775807 < O.size + 1 := by omega
            have z3 : ¬ 9223372036854775807 < O2.size + S.size := by omega
            have HE := Lib.hid (show bs (lstT LA (i + 1)) = O3 by
              rw [hs1, ← e3, ← e2, ← hO, ← bs_data S, show (⟨#[32]⟩ : ByteArray) = bs [32] from rfl, bs_append, bs_append]
              simp [bs_data])
            rw [hO]
            clear hl1 hs1 hO zO zS hsep y2 hS hll
            go_wp2_with fail
            go_roundw
            case rel => exact ⟨i + 1, by rw [HNN.out]; exact hlt, rfl, by rw [HE.out], rfl⟩
            case measure => simp only [Lib.intOf]; omega
        · have q1 : decide ((i : Int) < (N : Int)) = false := decide_eq_false (by omega)
          have q1n : decide (i < N) = false := decide_eq_false hlt
          obtain rfl : i = N := by omega
          obtain ⟨O, hO⟩ : ∃ O, bs (lstT LA i) = O := ⟨_, rfl⟩
          have e8 : O ++ (⟨#[32, 125]⟩ : ByteArray) = R := by rw [← hO]; exact HTXT.out
          have z8 : ¬ 9223372036854775807 < O.size + 2 := by rw [← hO, bs_size]; have := HLEN.out; omega
          rw [hO]
          clear hO
          go_wp2_with fail
          go_ret
          exact ⟨rfl, HBA.out⟩
    | some ad' =>
      go_wp2_with (at_builtin; go_must (refine wpList_append_own _ rfl (.tmp 17) (.tmp 18) 35 rfl w.heap.size 9 i0 (.string ByteArray.empty) 1 16 Tryz.underlying35 hi0 hz0 hz1 hz2 rfl (by decide) _ (L1 ++ [((⟨#[46, 46, 46]⟩ : ByteArray))]).length ((L1 ++ [((⟨#[46, 46, 46]⟩ : ByteArray))]).map Value.string) rfl HO2.out ad' m cap' ((strs m g).map Value.string) rfl (by rw [List.length_map, strs_len, Nat.mul_one]) (strs_cells HR2.out (HB2.out.mono hB)) (by intro u hu; simp only [List.mem_map] at hu; obtain ⟨y, _, rfl⟩ := hu; rfl) (by first | (unfold maxLen; omega) | omega | (unfold maxLen; simp; omega) | (simp; omega)) (by first | (unfold maxLen; omega) | omega | (unfold maxLen; simp; omega) | (simp; omega)) (by have := HB2.out.size; first | omega | (simp; omega)) ?_; intro v3 w3 hown3 hgr3 _; have HO3 := Lib.hid (ownS_snoc (strs_len m g).symm hown3); have HG3 := Lib.hid hgr3; clear hown3 hgr3))
      have HB3 := Lib.hid (HB2.out.grown HG3.out HB2.out.size (fun k hk => (World.ownsRow.lt HO2.out k hk).1))
      clear HG3 HO2
      have HOA := HO3
      have HBA := HB3
      obtain ⟨LA, hLA⟩ : ∃ LA, L1 ++ [((⟨#[46, 46, 46]⟩ : ByteArray))] ++ strs m g = LA := ⟨_, rfl⟩
      have hll : LA.length = L1.length + 1 + m := by rw [← hLA]; simp [strs_len]; try omega
      have hTX : bs (lstT LA LA.length) ++ (⟨#[32, 125]⟩ : ByteArray) = R := by rw [hll, ← hLA]; exact HTXT.out
      have hlen : (lstT LA LA.length).length ≤ 1000000000 := by rw [hll, ← hLA]; exact HLN.out
      rw [hLA] at HOA
      clear HTXT
      have HTXT := Lib.hid hTX
      obtain ⟨N, hN⟩ : ∃ N, LA.length = N := ⟨_, rfl⟩
      have hnn : N ≤ 1000000000 := by
        have h := lstT_cnt LA LA.length
        omega
      rw [hN] at hlen HTXT
      have hN1 : 0 < N := by omega
      have HNN := Lib.hid hN
      have HLEN := Lib.hid hlen
      have HOP := Lib.hid HOA.out.open
      rw [hN] at HOP
      clear hN hlen hLA hll hTX hl1 hm2
      obtain ⟨gA, cA, hvA, _, HCA0⟩ := HOP.out.2 hN1
      cases hvA
      have HCA := Lib.hid HCA0
      clear HCA0 HOP
      go_loopw [8, 9] (fun ov iv wr => RelLi w LA w3 ov iv wr) (fun _ iv _ => N - (Lib.intOf iv).toNat)
      case atStart => exact ⟨0, Nat.zero_le _, rfl, rfl, rfl⟩
      case round =>
        obtain ⟨i, hi, rfl, rfl, rfl⟩ := hrel
        rw [HNN.out] at hi
        by_cases hlt : i < N
        · have q1 : decide ((i : Int) < (N : Int)) = true := decide_eq_true (by omega)
          have q1n : decide (i < N) = true := decide_eq_true hlt
          have q3 : (i : Int) < (N : Int) := by omega
          have q4 : (0 : Int) ≤ (i : Int) := by omega
          have q5 : IntKind.i64.wrap ((i : Int) + 1) = ((i + 1 : Nat) : Int) := wrap_succ hlt (by omega)
          obtain ⟨S, hS⟩ : ∃ S, LA.getD i ⟨#[]⟩ = S := ⟨_, rfl⟩
          have c1 : wr.cell? ⟨gA, i, none⟩ = some (.string S) := by rw [← hS]; exact HCA.out i hlt
          have hl1 := lstT_le LA (show i + 1 ≤ N by omega)
          have hs1 := lstT_succ LA i
          rw [hS] at hs1
          obtain ⟨O, hO⟩ : ∃ O, bs (lstT LA i) = O := ⟨_, rfl⟩
          have zO : O.size = (lstT LA i).length := by rw [← hO, bs_size]
          have zS : S.data.toList.length = S.size := Array.length_toList
          have hll := HLEN.out
          rw [hs1, List.length_append, List.length_append, zS, ← zO] at hl1
          by_cases h0 : 0 < i
          · have q6 : decide ((0 : Int) < (i : Int)) = true := decide_eq_true (by omega)
            have q6n : decide (0 < i) = true := decide_eq_true h0
            have hsep : sepT i = [44, 32] := by unfold sepT; rw [if_neg (by omega)]
            rw [hsep] at hs1 hl1
            simp only [List.length_cons, List.length_nil] at hl1
            obtain ⟨O1, e1⟩ : ∃ O1, O ++ (⟨#[44]⟩ : ByteArray) = O1 := ⟨_, rfl⟩
            obtain ⟨O2, e2⟩ : ∃ O2, O1 ++ (⟨#[32]⟩ : ByteArray) = O2 := ⟨_, rfl⟩
            obtain ⟨O3, e3⟩ : ∃ O3, O2 ++ S = O3 := ⟨_, rfl⟩
            have y1 : O1.size = O.size + 1 := by rw [← e1, ByteArray.size_append]; rfl
            have y2 : O2.size = O1.size + 1 := by rw [← e2, ByteArray.size_append]; rfl
            have z1 : ¬ 9223372036854775807 < O.size + 1 := by omega
            have z2 : ¬ 9223372036854775807 < O1.size + 1 := by omega
            have z3 : ¬ 9223372036854775807 < O2.size + S.size := by omega
            have HE := Lib.hid (show bs (lstT LA (i + 1)) = O3 by
              rw [hs1, ← e3, ← e2, ← e1, ← hO, ← bs_data S, show (⟨#[44]⟩ : ByteArray) = bs [44] from rfl, show (⟨#[32]⟩ : ByteArray) = bs [32] from rfl, bs_append, bs_append, bs_append]
              simp [bs_data])
            rw [hO]
            clear hl1 hs1 hO zO zS hsep y1 y2 hS hll
            go_wp2_with fail
            go_roundw
            case rel => exact ⟨i + 1, by rw [HNN.out]; exact hlt, rfl, by rw [HE.out], rfl⟩
            case measure => simp only [Lib.intOf]; omega
          · have q6 : decide ((0 : Int) < (i : Int)) = false := decide_eq_false (by omega)
            have q6n : decide (0 < i) = false := decide_eq_false h0
            have hsep : sepT i = [32] := by unfold sepT; rw [if_pos (by omega)]
            rw [hsep] at hs1 hl1
            simp only [List.length_cons, List.length_nil] at hl1
            obtain ⟨O2, e2⟩ : ∃ O2, O ++ (⟨#[32]⟩ : ByteArray) = O2 := ⟨_, rfl⟩
            obtain ⟨O3, e3⟩ : ∃ O3, O2 ++ S = O3 := ⟨_, rfl⟩
            have y2 : O2.size = O.size + 1 := by rw [← e2, ByteArray.size_append]; rfl
            have z2 : ¬ 9223372036854775807 < O.size + 1 := by omega
            have z3 : ¬ 9223372036854775807 < O2.size + S.size := by omega
            have HE := Lib.hid (show bs (lstT LA (i + 1)) = O3 by
              rw [hs1, ← e3, ← e2, ← hO, ← bs_data S, show (⟨#[32]⟩ : ByteArray) = bs [32] from rfl, bs_append, bs_append]
              simp [bs_data])
            rw [hO]
            clear hl1 hs1 hO zO zS hsep y2 hS hll
            go_wp2_with fail
            go_roundw
            case rel => exact ⟨i + 1, by rw [HNN.out]; exact hlt, rfl, by rw [HE.out], rfl⟩
            case measure => simp only [Lib.intOf]; omega
        · have q1 : decide ((i : Int) < (N : Int)) = false := decide_eq_false (by omega)
          have q1n : decide (i < N) = false := decide_eq_false hlt
          obtain rfl : i = N := by omega
          obtain ⟨O, hO⟩ : ∃ O, bs (lstT LA i) = O := ⟨_, rfl⟩
          have e8 : O ++ (⟨#[32, 125]⟩ : ByteArray) = R := by rw [← hO]; exact HTXT.out
          have z8 : ¬ 9223372036854775807 < O.size + 2 := by rw [← hO, bs_size]; have := HLEN.out; omega
          rw [hO]
          clear hO
          go_wp2_with fail
          go_ret
          exact ⟨rfl, HBA.out⟩
end Go.Proofs.YtgmnojnalkhepaaGreatDoor

/-
  The document's texts of parts: 'partTexts'.
-/
namespace Go.Proofs.YtgmnojnalkhepaaGreatDoor
open Go.RowKit Go.BigFrame
set_option linter.unusedVariables false
set_option linter.unusedSimpArgs false
set_option maxRecDepth 100000

def RelPx (w : World) (n : Nat) (G : Nat → ByteArray) (ov iv : Value) (wr : World) : Prop := ∃ i : Nat, i ≤ n ∧ iv = .int .i64 (i : Nat) ∧ OwnS w.heap.size wr ov (strs i G) ∧ Below w.heap.size w wr
theorem strs_succ (G : Nat → ByteArray) (i : Nat) : strs (i + 1) G = strs i G ++ [G i] := by simp [strs, List.range_succ]
theorem ownS_below {base : Nat} {w w' : World} {v : Value} {l : List ByteArray} (h : OwnS base w v l) (hb : Below w.heap.size w w') : OwnS base w' v l := by
  obtain ⟨h1, h2⟩ := h
  refine ⟨h1, ?_⟩
  rcases h2 with h2 | ⟨g, cap, cur, hv, hg, hh, r⟩
  · exact .inl h2
  · exact .inr ⟨g, cap, cur, hv, hg, (hb.block g (Array.getElem?_eq_some_iff.1 hh).1).trans hh, r⟩
set_option maxHeartbeats 16000000 in
theorem rparts_text (B : Nat) (w : World) (a : Option Addr) (n cap : Nat) (pf : Nat → PD) (pt : Nat → TT) (hB : B ≤ w.heap.size) (hn9 : n ≤ 1000000000)
    (hrow : RowAt B w a n cap 18 (fun i => pcells (pf i) (pt i))) (hp : ∀ i, i < n → PDIn B w (pf i) ∧ TIn B w (pt i))
    (hd : ∀ i, i < n → (pf i).d.n ≤ 1 ∧ ((pf i).d.n = 1 → ((pf i).d.f 0).dflt = true) ∧ (pf i).wt ≤ 1000000000 ∧ (partT (pf i) (pt i).txt).length ≤ 1000000000)
    (hrec : ∀ i, i < n → ∀ w' : World, Below w.heap.size w w' → Calls Tryz.prog 25 #[.agg (pt i).cells.toArray] w' fun e w'' => e = .returned (.string (bs (pt i).txt)) ∧ Below w'.heap.size w' w'') :
    Calls Tryz.prog 43 #[.slice a n cap] w fun e w' => ∃ v, e = .returned v ∧ OwnS w.heap.size w' v (strs n fun i => bs (partT (pf i) (pt i).txt)) ∧ Below w.heap.size w w' := by
  obtain ⟨i0, hi0, hz0, hz1, hz2⟩ := info_parts info_s
  obtain ⟨G, hG⟩ : ∃ G : Nat → ByteArray, (fun i => bs (partT (pf i) (pt i).txt)) = G := ⟨_, rfl⟩
  have HG := Lib.hid (show ∀ i, G i = bs (partT (pf i) (pt i).txt) from fun i => by rw [← hG])
  rw [hG]
  have hn : n ≤ 9223372036854775807 := by omega
  have HROW := Lib.hid hrow
  have HP := Lib.hid hp
  have HDD := Lib.hid hd
  have HREC := Lib.hid hrec
  have HBB := Lib.hid hB
  have HN9 := Lib.hid hn9
  clear hrow hp hd hrec hB hG hn9
  go_enter Tryz.func43, Tryz.ntmps43
  go_wp2_with fail
  go_loopw [3, 4] (fun ov iv wr => RelPx w n G ov iv wr) (fun _ iv _ => n - (Lib.intOf iv).toNat)
  case atStart => exact ⟨0, Nat.zero_le _, rfl, World.ownsRow_nil _ _ _ _, Below.refl _ _⟩
  case round =>
    obtain ⟨i, hi, rfl, hown, hbel⟩ := hrel
    have HO := Lib.hid hown
    have HB := Lib.hid hbel
    have hsz := hbel.size
    clear hown hbel
    by_cases hlt : i < n
    · have q1 : decide ((i : Int) < (n : Int)) = true := decide_eq_true (by omega)
      have q1n : decide (i < n) = true := decide_eq_true hlt
      have q3 : IntKind.i64.wrap ((i : Int) + 1) = ((i + 1 : Nat) : Int) := wrap_succ hlt hn
      obtain ⟨gx, ox, hix, hgx, hrd⟩ := pRow_read HROW.out hlt
      have hr0 := hrd wr (HB.out.block gx (by have := HBB.out; omega))
      have HON := Lib.hid (one_tcells (HP.out i hlt).2)
      have HGI := Lib.hid (HG.out i)
      have HDI := Lib.hid (HDD.out i hlt)
      have HCT := Lib.hid (fun (d : Nat) (os : Array Obj) => Calls.regrown_of (HREC.out i hlt (Go.Sort.grow (redrawn wr d) os) (HB.out.trans ((below_regrown wr d os).mono hsz))))
      have HRT := Lib.hid (range_regrown (range_part hr0))
      have HPI := Lib.hid (HP.out i hlt).1
      have htin := (HP.out i hlt).2
      have hl16 : (pcells (pf i) (pt i))[16]? = some (.bool (pf i).opt) := by
        obtain ⟨kd', tn', op', lo', hi', lw', hg', ca', cn', cc', cch', ext', fr', sa', sn', sc', sf', ma', mn', mc', mf', pa', pn', pc', pf', ptf', aa', an', ac', af', atf', ea', en', ec', etf', hq⟩ := htin.open
        rw [hq]; rfl
      have hl17 : (pcells (pf i) (pt i))[17]? = some (.slice (pf i).d.a (pf i).d.n (pf i).d.cap) := by
        obtain ⟨kd', tn', op', lo', hi', lw', hg', ca', cn', cc', cch', ext', fr', sa', sn', sc', sf', ma', mn', mc', mf', pa', pn', pc', pf', ptf', aa', an', ac', af', atf', ea', en', ec', etf', hq⟩ := htin.open
        rw [hq]; rfl
      have k0 : wr.cell? ⟨gx, ox, none⟩ = some (.string (pf i).name) := hr0 0 _ rfl
      have d0 := fun d os => cell_regrown k0 d os
      have HK16 := Lib.hid (fun (W : World) (hb : Below w.heap.size w W) => hrd W (hb.block gx (by have := HBB.out; omega)) 16 _ hl16)
      have HK17 := Lib.hid (fun (W : World) (hb : Below w.heap.size w W) => hrd W (hb.block gx (by have := HBB.out; omega)) 17 _ hl17)
      obtain ⟨⟨qn, qo, ⟨qa, qk, qc, qf⟩⟩, hq⟩ : ∃ q : PD, pf i = q := ⟨_, rfl⟩
      obtain ⟨T, hT⟩ : ∃ T, pt i = T := ⟨_, rfl⟩
      rw [hq] at HGI HDI HK16 HK17 HPI d0
      rw [hT] at HON HGI HDI HCT HRT
      obtain ⟨X, hX⟩ : ∃ X, bs T.txt = X := ⟨_, rfl⟩
      rw [hX] at HCT
      have hdi := HDI.out
      have hq1 : qk ≤ 1 := hdi.1
      have hpl := hdi.2.2.2
      unfold partT at hpl
      simp only [List.length_append, List.length_cons, List.length_nil] at hpl
      have zq : qn.data.toList.length = qn.size := Array.length_toList
      have zx : X.size = T.txt.length := by rw [← hX, bs_size]
      rw [zq] at hpl
      obtain ⟨s0, e0⟩ : ∃ s, qn ++ (⟨#[32]⟩ : ByteArray) = s := ⟨_, rfl⟩
      obtain ⟨s1, e1⟩ : ∃ s, s0 ++ X = s := ⟨_, rfl⟩
      have y0 : s0.size = qn.size + 1 := by rw [← e0, ByteArray.size_append]; rfl
      have y1 : s1.size = s0.size + X.size := by rw [← e1, ByteArray.size_append]
      have z0 : ¬ 9223372036854775807 < qn.size + 1 := by omega
      have z1 : ¬ 9223372036854775807 < s0.size + X.size := by omega
      have HS1 := Lib.hid (show s1 = bs ((qn.data.toList ++ [32]) ++ T.txt) by rw [← e1, ← e0, ← hX, ← bs_data qn, show (⟨#[32]⟩ : ByteArray) = bs [32] from rfl, bs_append, bs_append, bs_data])
      have hs1 : s1.size ≤ 1000000000 := by omega
      clear hrd hr0 htin hl16 hl17 k0 hq hT hX hdi hpl zq zx y0 y1
      go_wp2_with fail
      refine wp_region_quiet_below (by kernel_rfl) (by kernel_rfl) ?_
      go_big_quiet_step (fail)
      go_big_quiet_step (fail)
      go_big_quiet_step (fail)
      go_big_quiet_step (fail)
      go_big_quiet_step (fail)
      go_big_quiet_step (fail)
      go_big_quiet_step (fail)
      go_big_quiet_step (fail)
      go_big_quiet_step (fail)
      go_big_quiet_step (fail)
      (go_big_quiet_want; refine quiet_load_mid 39 (.tmp 21) rfl gx (ox + 1) rfl T.cells _ HRT.out Tryz.underlying39 rfl (by rw [info_T, HON.out.1]) ?_; simp only [put_mk, List.set_cons_succ, List.set_cons_zero]; go_big_quiet_on)
      go_big_quiet_step (exact HCT.out _ _)
      go_big_quiet_step (fail)
      go_big_quiet_step (fail)
      refine wpQuiet_nil ?_
      intro _ hw'
      obtain ⟨⟨dq, osq⟩, hw''⟩ := hw'
      subst hw''
      have hb2 := below_regrown wr dq osq
      clear d0 HCT HRT
      generalize Go.Sort.grow (redrawn wr dq) osq = W2 at *
      have HB2 := Lib.hid (HB.out.trans (hb2.mono hsz))
      have HO2 := Lib.hid (show OwnS w.heap.size W2 _ _ from ownS_below HO.out hb2)
      have k16 : W2.cell? ⟨gx, ox + 16, none⟩ = some (.bool qo) := HK16.out W2 HB2.out
      have k17 : W2.cell? ⟨gx, ox + 17, none⟩ = some (.slice qa qk qc) := HK17.out W2 HB2.out
      clear hb2 HO HB
      cases qo with
      | true =>
        obtain ⟨s2, e2⟩ : ∃ s, s1 ++ (⟨#[32, 79, 80, 84, 73, 79, 78, 65, 76]⟩ : ByteArray) = s := ⟨_, rfl⟩
        have y2 : s2.size = s1.size + 9 := by rw [← e2, ByteArray.size_append]; rfl
        have z2 : ¬ 9223372036854775807 < s1.size + 9 := by omega
        have HS2 := Lib.hid (show s2 = bs (((qn.data.toList ++ [32]) ++ T.txt) ++ optT) by rw [← e2, HS1.out, show (⟨#[32, 79, 80, 84, 73, 79, 78, 65, 76]⟩ : ByteArray) = bs optT from rfl, bs_append])
        by_cases hk0 : qk = 0
        · subst hk0
          have HGS := Lib.hid (show G i = s2 by
            rw [HGI.out, HS2.out]
            unfold partT
            simp [catL, optT])
          go_wp2_with (at_builtin; go_must (refine wpList_append_own _ rfl (.tmp 50) (.tmp 52) 35 rfl w.heap.size 9 i0 (.string ByteArray.empty) 1 16 Tryz.underlying35 hi0 hz0 hz1 hz2 rfl (by decide) _ (strs i G).length ((strs i G).map Value.string) rfl (World.ownsRow.alloc HO2.out _) ⟨W2.heap.size, 0, none⟩ 1 1 ([s2].map Value.string) rfl rfl (cell_one_new _ _ _) (by intro u hu; simp at hu; subst hu; rfl) (by rw [strs_len]; have := HN9.out; unfold maxLen; omega) (by rw [strs_len]; have := HN9.out; omega) (by have := HB2.out.size; first | omega | (simp; omega)) ?_; intro v5 w5 hown5 hgr5 _; have HO5 := Lib.hid (ownS_snoc (l := strs i G) (r := [s2]) rfl hown5); have HG5 := Lib.hid hgr5; clear hown5 hgr5))
          have h2 := World.ownsRow.alloc HO2.out (.cells #[.string s2] 9)
          have HB5 := Lib.hid ((HB2.out.alloc HB2.out.size (.cells #[.string s2] 9)).grown HG5.out (by have := HB2.out.size; simp; omega) (fun k hk => (World.ownsRow.lt h2 k hk).1))
          clear h2 HG5
          go_roundw
          case rel => exact ⟨i + 1, hlt, rfl, by rw [strs_succ, HGS.out]; exact HO5.out, HB5.out⟩
          case measure => simp only [Lib.intOf]; omega
        · obtain rfl : qk = 1 := by omega
          clear hk0 hq1
          obtain ⟨gy, oy, rfl, hgy, hry⟩ : ∃ g o, qa = some ⟨g, o, none⟩ ∧ g < B ∧ ∀ i, i < 1 → ∀ j u, ((qf i).cells)[j]? = some u → w.cell? ⟨g, o + i * 5 + j, none⟩ = some u := HPI.out.2.1.2.2.2 (by show 0 < 1; omega)
          have HRV : Hid (W2.rangeAt gy oy (qf 0).cells) := Lib.hid (fun j u hj => by
            have h := hry 0 (by omega) j u hj
            rw [Nat.zero_mul, Nat.add_zero] at h
            exact (World.cell?_of_block (w := w) (a := ⟨gy, oy + j, none⟩) (HB2.out.block gy (Nat.lt_of_lt_of_le hgy HBB.out))).trans h)
          have hvin : VIn w.heap.size W2 (qf 0) := (HPI.out.2.2 0 (by show 0 < 1; omega)).below HB2.out HBB.out
          have HLV := Lib.hid (show (qf 0).cells.length = 5 by obtain ⟨x1, x2, x3, x4, x5, x6, x7, x8, hx⟩ := hvin.open; rw [hx]; rfl)
          have hdi := HDI.out
          have hwv : (qf 0).wt ≤ 1000000000 := by
            have h := hdi.2.2.1
            have e : PD.wt ⟨qn, true, ⟨some ⟨gy, oy, none⟩, 1, qc, qf⟩⟩ = 1 + qn.size + (1 + (0 + (qf 0).wt)) := rfl
            rw [e] at h
            omega
          have HV := Lib.hid (rvalue_ok w.heap.size (qf 0) W2 hvin (hdi.2.1 rfl) hwv)
          obtain ⟨V, hV⟩ : ∃ V, bs (qf 0).txt = V := ⟨_, rfl⟩
          rw [hV] at HV
          have zV : V.size ≤ 1000000000 := by
            rw [← hV, bs_size]
            have h := hdi.2.2.2
            unfold partT at h
            simp only [List.length_append, catL, List.length_nil] at h
            omega
          obtain ⟨s3, e3⟩ : ∃ s, s2 ++ (⟨#[32, 68, 69, 70, 65, 85, 76, 84, 32]⟩ : ByteArray) = s := ⟨_, rfl⟩
          obtain ⟨s4, e4⟩ : ∃ s, s3 ++ V = s := ⟨_, rfl⟩
          have y3 : s3.size = s2.size + 9 := by rw [← e3, ByteArray.size_append]; rfl
          have z3 : ¬ 9223372036854775807 < s2.size + 9 := by omega
          have z4 : ¬ 9223372036854775807 < s3.size + V.size := by omega
          have HGS := Lib.hid (show G i = s4 by
            rw [HGI.out, ← e4, ← e3, HS2.out, ← hV, show (⟨#[32, 68, 69, 70, 65, 85, 76, 84, 32]⟩ : ByteArray) = bs dfT from rfl, bs_append, bs_append]
            unfold partT
            simp [catL, optT])
          clear hry hvin hdi hwv hV zV y3
          go_wp2_with (first | (refine wpList_load_mid rfl 44 (.tmp 46) rfl gy oy rfl (qf 0).cells _ HRV.out Tryz.underlying44 rfl (by rw [info_V, HLV.out]) ?_) | fail)
          refine HV.out.mono ?_
          rintro e W3 ⟨rfl, hb⟩
          have HB3 := Lib.hid (HB2.out.trans (hb.mono HB2.out.size))
          have HO3 := Lib.hid (ownS_below HO2.out hb)
          clear hb HV HO2 HB2 HRV
          go_wp2_with (at_builtin; go_must (refine wpList_append_own _ rfl (.tmp 50) (.tmp 52) 35 rfl w.heap.size 9 i0 (.string ByteArray.empty) 1 16 Tryz.underlying35 hi0 hz0 hz1 hz2 rfl (by decide) _ (strs i G).length ((strs i G).map Value.string) rfl (World.ownsRow.alloc HO3.out _) ⟨W3.heap.size, 0, none⟩ 1 1 ([s4].map Value.string) rfl rfl (cell_one_new _ _ _) (by intro u hu; simp at hu; subst hu; rfl) (by rw [strs_len]; have := HN9.out; unfold maxLen; omega) (by rw [strs_len]; have := HN9.out; omega) (by have := HB3.out.size; first | omega | (simp; omega)) ?_; intro v5 w5 hown5 hgr5 _; have HO5 := Lib.hid (ownS_snoc (l := strs i G) (r := [s4]) rfl hown5); have HG5 := Lib.hid hgr5; clear hown5 hgr5))
          have h2 := World.ownsRow.alloc HO3.out (.cells #[.string s4] 9)
          have HB5 := Lib.hid ((HB3.out.alloc HB3.out.size (.cells #[.string s4] 9)).grown HG5.out (by have := HB3.out.size; simp; omega) (fun k hk => (World.ownsRow.lt h2 k hk).1))
          clear h2 HG5
          go_roundw
          case rel => exact ⟨i + 1, hlt, rfl, by rw [strs_succ, HGS.out]; exact HO5.out, HB5.out⟩
          case measure => simp only [Lib.intOf]; omega
      | false =>
        by_cases hk0 : qk = 0
        · subst hk0
          have HGS := Lib.hid (show G i = s1 by
            rw [HGI.out, HS1.out]
            unfold partT
            simp [catL, optT])
          go_wp2_with (at_builtin; go_must (refine wpList_append_own _ rfl (.tmp 50) (.tmp 52) 35 rfl w.heap.size 9 i0 (.string ByteArray.empty) 1 16 Tryz.underlying35 hi0 hz0 hz1 hz2 rfl (by decide) _ (strs i G).length ((strs i G).map Value.string) rfl (World.ownsRow.alloc HO2.out _) ⟨W2.heap.size, 0, none⟩ 1 1 ([s1].map Value.string) rfl rfl (cell_one_new _ _ _) (by intro u hu; simp at hu; subst hu; rfl) (by rw [strs_len]; have := HN9.out; unfold maxLen; omega) (by rw [strs_len]; have := HN9.out; omega) (by have := HB2.out.size; first | omega | (simp; omega)) ?_; intro v5 w5 hown5 hgr5 _; have HO5 := Lib.hid (ownS_snoc (l := strs i G) (r := [s1]) rfl hown5); have HG5 := Lib.hid hgr5; clear hown5 hgr5))
          have h2 := World.ownsRow.alloc HO2.out (.cells #[.string s1] 9)
          have HB5 := Lib.hid ((HB2.out.alloc HB2.out.size (.cells #[.string s1] 9)).grown HG5.out (by have := HB2.out.size; simp; omega) (fun k hk => (World.ownsRow.lt h2 k hk).1))
          clear h2 HG5
          go_roundw
          case rel => exact ⟨i + 1, hlt, rfl, by rw [strs_succ, HGS.out]; exact HO5.out, HB5.out⟩
          case measure => simp only [Lib.intOf]; omega
        · obtain rfl : qk = 1 := by omega
          clear hk0 hq1
          obtain ⟨gy, oy, rfl, hgy, hry⟩ : ∃ g o, qa = some ⟨g, o, none⟩ ∧ g < B ∧ ∀ i, i < 1 → ∀ j u, ((qf i).cells)[j]? = some u → w.cell? ⟨g, o + i * 5 + j, none⟩ = some u := HPI.out.2.1.2.2.2 (by show 0 < 1; omega)
          have HRV : Hid (W2.rangeAt gy oy (qf 0).cells) := Lib.hid (fun j u hj => by
            have h := hry 0 (by omega) j u hj
            rw [Nat.zero_mul, Nat.add_zero] at h
            exact (World.cell?_of_block (w := w) (a := ⟨gy, oy + j, none⟩) (HB2.out.block gy (Nat.lt_of_lt_of_le hgy HBB.out))).trans h)
          have hvin : VIn w.heap.size W2 (qf 0) := (HPI.out.2.2 0 (by show 0 < 1; omega)).below HB2.out HBB.out
          have HLV := Lib.hid (show (qf 0).cells.length = 5 by obtain ⟨x1, x2, x3, x4, x5, x6, x7, x8, hx⟩ := hvin.open; rw [hx]; rfl)
          have hdi := HDI.out
          have hwv : (qf 0).wt ≤ 1000000000 := by
            have h := hdi.2.2.1
            have e : PD.wt ⟨qn, false, ⟨some ⟨gy, oy, none⟩, 1, qc, qf⟩⟩ = 1 + qn.size + (1 + (0 + (qf 0).wt)) := rfl
            rw [e] at h
            omega
          have HV := Lib.hid (rvalue_ok w.heap.size (qf 0) W2 hvin (hdi.2.1 rfl) hwv)
          obtain ⟨V, hV⟩ : ∃ V, bs (qf 0).txt = V := ⟨_, rfl⟩
          rw [hV] at HV
          have zV : V.size ≤ 1000000000 := by
            rw [← hV, bs_size]
            have h := hdi.2.2.2
            unfold partT at h
            simp only [List.length_append, catL, List.length_nil] at h
            omega
          obtain ⟨s3, e3⟩ : ∃ s, s1 ++ (⟨#[32, 68, 69, 70, 65, 85, 76, 84, 32]⟩ : ByteArray) = s := ⟨_, rfl⟩
          obtain ⟨s4, e4⟩ : ∃ s, s3 ++ V = s := ⟨_, rfl⟩
          have y3 : s3.size = s1.size + 9 := by rw [← e3, ByteArray.size_append]; rfl
          have z3 : ¬ 9223372036854775807 < s1.size + 9 := by omega
          have z4 : ¬ 9223372036854775807 < s3.size + V.size := by omega
          have HGS := Lib.hid (show G i = s4 by
            rw [HGI.out, ← e4, ← e3, HS1.out, ← hV, show (⟨#[32, 68, 69, 70, 65, 85, 76, 84, 32]⟩ : ByteArray) = bs dfT from rfl, bs_append, bs_append]
            unfold partT
            simp [catL, optT])
          clear hry hvin hdi hwv hV zV y3
          go_wp2_with (first | (refine wpList_load_mid rfl 44 (.tmp 46) rfl gy oy rfl (qf 0).cells _ HRV.out Tryz.underlying44 rfl (by rw [info_V, HLV.out]) ?_) | fail)
          refine HV.out.mono ?_
          rintro e W3 ⟨rfl, hb⟩
          have HB3 := Lib.hid (HB2.out.trans (hb.mono HB2.out.size))
          have HO3 := Lib.hid (ownS_below HO2.out hb)
          clear hb HV HO2 HB2 HRV
          go_wp2_with (at_builtin; go_must (refine wpList_append_own _ rfl (.tmp 50) (.tmp 52) 35 rfl w.heap.size 9 i0 (.string ByteArray.empty) 1 16 Tryz.underlying35 hi0 hz0 hz1 hz2 rfl (by decide) _ (strs i G).length ((strs i G).map Value.string) rfl (World.ownsRow.alloc HO3.out _) ⟨W3.heap.size, 0, none⟩ 1 1 ([s4].map Value.string) rfl rfl (cell_one_new _ _ _) (by intro u hu; simp at hu; subst hu; rfl) (by rw [strs_len]; have := HN9.out; unfold maxLen; omega) (by rw [strs_len]; have := HN9.out; omega) (by have := HB3.out.size; first | omega | (simp; omega)) ?_; intro v5 w5 hown5 hgr5 _; have HO5 := Lib.hid (ownS_snoc (l := strs i G) (r := [s4]) rfl hown5); have HG5 := Lib.hid hgr5; clear hown5 hgr5))
          have h2 := World.ownsRow.alloc HO3.out (.cells #[.string s4] 9)
          have HB5 := Lib.hid ((HB3.out.alloc HB3.out.size (.cells #[.string s4] 9)).grown HG5.out (by have := HB3.out.size; simp; omega) (fun k hk => (World.ownsRow.lt h2 k hk).1))
          clear h2 HG5
          go_roundw
          case rel => exact ⟨i + 1, hlt, rfl, by rw [strs_succ, HGS.out]; exact HO5.out, HB5.out⟩
          case measure => simp only [Lib.intOf]; omega
    · have q1 : decide ((i : Int) < (n : Int)) = false := decide_eq_false (by omega)
      have q1n : decide (i < n) = false := decide_eq_false hlt
      obtain rfl : i = n := by omega
      obtain ⟨a2, c2, rfl⟩ := HO.out.open.1
      go_wp2_with fail
      go_ret
      exact ⟨_, rfl, HO.out, HB.out⟩
end Go.Proofs.YtgmnojnalkhepaaGreatDoor
