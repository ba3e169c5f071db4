/-
  The document's cuts: 'ends': the numbers at which a constraint may begin to let in others.
-/
import Derived.Test.YtfnpjdglfaaegaaBdA
import Derived.Test.YtfnpjdglfaaegaaBdI
import Derived.Deep.AppendLies
namespace Go.Proofs.Ytfnpjdglfaaegaa
open Go.RowKit Go.Shelf
set_option linter.unusedVariables false
set_option linter.unusedSimpArgs false
set_option maxRecDepth 100000

def flatN (f : Nat → List Int) : Nat → List Int
  | 0 => []
  | n + 1 => flatN f n ++ f n
theorem flatN_len {f : Nat → List Int} {s : Nat → Nat} : ∀ {n : Nat}, (∀ i, i < n → (f i).length ≤ 2 * s i) → (flatN f n).length ≤ 2 * sumN s n
  | 0, _ => by simp [flatN]
  | n + 1, h => by
    simp only [flatN, sumN, List.length_append]
    have h1 : (flatN f n).length ≤ 2 * sumN s n := flatN_len (n := n) (fun i hi => h i (by omega))
    have h2 := h n (by omega)
    omega
theorem flatN_mem {f : Nat → List Int} {x : Int} : ∀ {n : Nat}, x ∈ flatN f n ↔ ∃ i, i < n ∧ x ∈ f i
  | 0 => by simp [flatN]
  | n + 1 => by
    simp only [flatN, List.mem_append, flatN_mem (n := n)]
    constructor
    · rintro (⟨i, hi, h⟩ | h)
      · exact ⟨i, by omega, h⟩
      · exact ⟨n, by omega, h⟩
    · rintro ⟨i, hi, h⟩
      rcases Nat.lt_or_ge i n with h1 | h1
      · exact .inl ⟨i, h1, h⟩
      · obtain rfl : i = n := by omega
        exact .inr h
/-- the ends of one range -/
def cutP (op lo hi : Int) (low high : Bool) : List Int := (if op = 1 ∧ low = false then [lo] else []) ++ (if op = 1 ∧ high = false ∧ hi < 9223372036854775807 then [hi + 1] else [])
def cutsC : CT → Nat → List Int
  | .nil, _ => []
  | .mk op lo hi low high _ n _ ch, k => cutP op lo hi low high ++ (match k with
    | 0 => []
    | k + 1 => flatN (fun i => cutsC (ch i) k) n)
theorem cutP_len (op lo hi : Int) (low high : Bool) : (cutP op lo hi low high).length ≤ 2 := by
  unfold cutP
  split <;> split <;> simp
theorem cutsC_len : ∀ (c : CT) (k : Nat), (cutsC c k).length ≤ 2 * c.sz
  | .nil, _ => by simp [cutsC]
  | .mk op lo hi low high a n cap ch, k => by
    have h1 := cutP_len op lo hi low high
    rw [CT.sz_mk]
    cases k with
    | zero =>
      simp only [cutsC, List.append_nil]
      omega
    | succ k =>
      have h2 := flatN_len (f := fun i => cutsC (ch i) k) (s := fun i => (ch i).sz) (n := n) (fun i _ => cutsC_len (ch i) k)
      simp only [cutsC, List.length_append]
      omega
def dup (x : Int) : Rg := (x, x)
/-! ### what an append leaves -/
structure Grow (w w' : World) (v v' : Value) : Prop where
  grown : w.grownBy w' v.ownBlock
  at_ : ∀ k, v'.ownBlock = some k → v.ownBlock = some k ∨ w.heap.size ≤ k
theorem Grow.refl (w : World) (v : Value) : Grow w w v v := ⟨⟨rfl, rfl, rfl, Nat.le_refl _, fun _ _ _ => rfl⟩, fun k h => .inl h⟩
theorem Grow.trans {w1 w2 w3 : World} {v1 v2 v3 : Value} (h : Grow w1 w2 v1 v2) (j : Grow w2 w3 v2 v3) : Grow w1 w3 v1 v3 := by
  refine ⟨⟨j.grown.os.trans h.grown.os, j.grown.tape.trans h.grown.tape, j.grown.output.trans h.grown.output, Nat.le_trans h.grown.size j.grown.size, fun k hk hne => ?_⟩, fun k hk => ?_⟩
  · refine (j.grown.block k (Nat.lt_of_lt_of_le hk h.grown.size) (fun e => ?_)).trans (h.grown.block k hk hne)
    rcases h.at_ k e.symm with e2 | e2
    · exact hne e2.symm
    · omega
  · rcases j.at_ k hk with e | e
    · exact h.at_ k e
    · exact .inr (Nat.le_trans h.grown.size e)
theorem Grow.below {w w' : World} {v v' : Value} {base : Nat} {l : List Rg} (h : Grow w w' v v') (ho : OwnR base w v l) (hb : base ≤ w.heap.size) : Below base w w' :=
  (Below.refl base w).grown h.grown hb (fun k hk => (ho.lt k hk).1)
def REn (base : Nat) (w : World) (v0 : Value) (l : List Rg) (g : Nat) (cs : Array Value) (L : List Int) (v1 : Value) (wr : World) : Prop :=
  OwnR base wr v1 (l ++ L.map dup) ∧ Bx wr g cs 24 ∧ Grow w wr v0 v1 ∧ ∀ k, v1.ownBlock = some k → k ≠ g
theorem REn.push {base : Nat} {w : World} {v0 : Value} {l : List Rg} {g : Nat} {cs : Array Value} {L : List Int} {v1 : Value} {wr w4 : World} {o : Obj} {x : Int} {g' cap H : Nat} {xs : List Value} {n : Nat} (h : REn base w v0 l g cs L v1 wr)
    (hown : w4.ownsRow base 51 2 (.slice (some ⟨g', 0, none⟩) (n + 1) cap) (n + 1) (xs ++ [.int .i64 x, .int .i64 x])) (hn : n = (l ++ L.map dup).length) (hxs : xs = rcells (l ++ L.map dup))
    (hgr : (wr.alloc o).grownBy w4 v1.ownBlock) (hat : v1.ownBlock = some g' ∨ g' = H) (hH : (wr.alloc o).heap.size = H) : REn base w v0 l g cs (L ++ [x]) (.slice (some ⟨g', 0, none⟩) (n + 1) cap) w4 := by
  subst hn
  subst hxs
  subst hH
  obtain ⟨h1, h2, h3, h4⟩ := h
  have hs : (wr.alloc o).heap.size = wr.heap.size + 1 := by simp
  have hlt := h2.lt
  refine ⟨?_, ?_, h3.trans ⟨⟨hgr.os, hgr.tape, hgr.output, by have := hgr.size; omega, fun k hk hne => (hgr.block k (by omega) hne).trans (Below.heap_alloc wr o k hk)⟩, fun k hk => ?_⟩, fun k hk => ?_⟩
  · rw [List.map_append, ← List.append_assoc]
    exact own_snoc hown
  · have hg2 := hgr.block g (by omega) (fun e => h4 g e.symm rfl)
    exact hg2.trans ((Below.heap_alloc wr o g hlt).trans h2)
  · obtain rfl : g' = k := by simpa [Value.ownBlock] using hk
    rcases hat with e | e
    · exact .inl e
    · exact .inr (by omega)
  · obtain rfl : g' = k := by simpa [Value.ownBlock] using hk
    rcases hat with e | e
    · exact h4 _ e
    · omega
theorem REn.call {base : Nat} {w : World} {v0 : Value} {l : List Rg} {g : Nat} {cs : Array Value} {L M : List Int} {v1 v' : Value} {wr w1 : World} (h : REn base w v0 l g cs L v1 wr)
    (hown : OwnR base w1 v' ((l ++ L.map dup) ++ M.map dup)) (hg : Grow wr w1 v1 v') : REn base w v0 l g cs (L ++ M) v' w1 := by
  obtain ⟨h1, h2, h3, h4⟩ := h
  have hlt := h2.lt
  refine ⟨?_, (hg.grown.block g hlt (fun e => h4 g e.symm rfl)).trans h2, h3.trans hg, fun k hk => ?_⟩
  · rw [List.map_append, ← List.append_assoc]
    exact hown
  · rcases hg.at_ k hk with e | e
    · exact h4 k e
    · omega
set_option maxHeartbeats 16000000 in
theorem rends_ok (B base : Nat) (hBb : B ≤ base) : ∀ (c : CT) (l : List Rg) (w : World) (d : Nat) (v : Value), CIn B w c → base ≤ w.heap.size → OwnR base w v l → 1 ≤ d → d ≤ 41 → l.length + 2 * c.sz ≤ 100000 →
    Calls Try.prog 32 #[v, c.v, .int .i64 (d : Nat)] w fun e w' => ∃ v', e = .returned v' ∧ OwnR base w' v' (l ++ (cutsC c (41 - d)).map dup) ∧ Grow w w' v v'
  | .nil, l, w, d, v, h, _, _, _, _, _ => h.elim
  | .mk op lo hi0 low high a n cap ch, l, w, d, v, hin, hbase, hown, hd1, hd2, hlen => by
    obtain ⟨i0, hi0', hz0, hz1, hz2⟩ := info_parts info_rg
    obtain ⟨hI, hrow, hch⟩ := hin
    have HROW := Lib.hid hrow
    have HCH := Lib.hid hch
    have hn : n ≤ 9223372036854775807 := by have := hrow.1; have := hrow.2.1; omega
    have HBASE := Lib.hid hbase
    have HOWN := Lib.hid hown
    rw [CT.sz_mk] at hlen
    obtain ⟨f, m, hfm, hm, hflen⟩ : ∃ (f : Nat → List Int) (m : Nat), cutsC (.mk op lo hi0 low high a n cap ch) (41 - d) = cutP op lo hi0 low high ++ flatN f m ∧ ((d < 41 ∧ m = n ∧ ∀ i, i < n → f i = cutsC (ch i) (41 - (d + 1))) ∨ (d = 41 ∧ m = 0)) ∧ ∀ j, j ≤ m → (flatN f j).length ≤ 2 * sumN (fun i => (ch i).sz) j := by
      rcases Nat.lt_or_ge d 41 with hd | hd
      · obtain ⟨k, hk⟩ : ∃ k, 41 - d = k + 1 := ⟨40 - d, by omega⟩
        refine ⟨fun i => cutsC (ch i) k, n, by rw [hk]; rfl, .inl ⟨hd, rfl, fun i _ => by rw [show 41 - (d + 1) = k by omega]⟩, fun j _ => flatN_len (fun i _ => cutsC_len (ch i) k)⟩
      · obtain rfl : d = 41 := by omega
        refine ⟨fun _ => [], 0, rfl, .inr ⟨rfl, rfl⟩, fun j hj => ?_⟩
        obtain rfl : j = 0 := by omega
        simp [flatN]
    rw [hfm]
    have HFL := Lib.hid hflen
    have HM := Lib.hid hm
    have hP := cutP_len op lo hi0 low high
    have hmn : m ≤ n := by rcases hm with h | h <;> omega
    have HREC := Lib.hid (show ∀ i, i < m → ∀ (l' : List Rg) (w' : World) (v' : Value), base ≤ w'.heap.size → Below base w w' → OwnR base w' v' l' → l'.length + 2 * (ch i).sz ≤ 100000 → Calls Try.prog 32 #[v', (ch i).v, .int .i64 ((d + 1 : Nat) : Int)] w' fun e w'' => ∃ v'', e = .returned v'' ∧ OwnR base w'' v'' (l' ++ (f i).map dup) ∧ Grow w' w'' v' v'' from fun i hi l' w' v' hb hbel ho hl => by
      rcases hm with ⟨hd, rfl, hf⟩ | ⟨_, rfl⟩
      · rw [hf i hi]
        exact rends_ok B base hBb (ch i) l' w' (d + 1) v' ((hch i hi).below (hbel.mono hBb) (Nat.le_refl _)) hb ho (by omega) (by omega) hl
      · omega)
    have HLEN := Lib.hid (show ∀ i, i < m → ∀ L : List Int, L = cutP op lo hi0 low high ++ flatN f i → (l ++ L.map dup).length + 2 * (ch i).sz ≤ 100000 from fun i hi L hL => by
      subst hL
      have h1 := hflen i (by omega)
      have h2 := sumN_mono (fun i => (ch i).sz) (show i + 1 ≤ n by omega)
      simp only [sumN] at h2
      simp only [List.length_append, List.length_map]
      omega)
    have hll : l.length ≤ 100000 := by omega
    have HI := Lib.hid hI
    clear hrow hch hI hflen hP hfm
    have q41 : decide ((d : Int) < 41) = decide (d < 41) := by
      rcases Nat.lt_or_ge d 41 with h | h
      · rw [decide_eq_true h, decide_eq_true (by omega)]
      · rw [decide_eq_false (by omega), decide_eq_false (by omega)]
    obtain ⟨bd, hbd⟩ : ∃ bd, decide (d < 41) = bd := ⟨_, rfl⟩
    have HBD := Lib.hid hbd
    rw [hbd] at q41
    have qs : IntKind.i64.wrap ((d : Int) + 1) = ((d + 1 : Nat) : Int) := wrap_succ (n := 100) (by omega) (by omega)
    show Calls _ _ #[v, .agg #[.int .i64 op, .int .i64 lo, .int .i64 hi0, .bool low, .bool high, .slice a n cap], .int .i64 (d : Nat)] w _
    have H0 := Lib.hid (show REn base w v l w.heap.size #[.int .i64 op, .int .i64 lo, .int .i64 hi0, .bool low, .bool high, .slice a n cap] [] v (w.alloc (.cells #[.int .i64 op, .int .i64 lo, .int .i64 hi0, .bool low, .bool high, .slice a n cap] 24)) from
      ⟨by rw [List.map_nil, List.append_nil]; exact World.ownsRow.alloc hown _, Bx.new _ _ _, ⟨World.grownBy_alloc _ _ _, fun k hk => .inl hk⟩, fun k hk => by have := (hown.lt k hk).2; omega⟩)
    clear hown hbase hm hd1 hd2 hlen hbd
    go_enter Try.func32, Try.ntmps32
    go_upto_region 1 with fail
    generalize w.alloc (.cells #[.int .i64 op, .int .i64 lo, .int .i64 hi0, .bool low, .bool high, .slice a n cap] 24) = W at *
    obtain ⟨g, hg⟩ : ∃ g, w.heap.size = g := ⟨_, rfl⟩
    rw [hg] at H0 ⊢
    clear hg
    have HLB := Lib.hid hll
    have QS := Lib.hid qs
    have QD := Lib.hid q41
    clear hll qs q41
    obtain ⟨bA, hbA⟩ : ∃ bA : Bool, ((op == 1) && !low) = bA := ⟨_, rfl⟩
    obtain ⟨bB, hbB⟩ : ∃ bB : Bool, ((op == 1) && !high && decide (hi0 < 9223372036854775807)) = bB := ⟨_, rfl⟩
    have HBA := Lib.hid hbA
    have HBB := Lib.hid hbB
    have HCP := Lib.hid (show cutP op lo hi0 low high = (if bA then [lo] else []) ++ (if bB then [hi0 + 1] else []) from by
      unfold cutP
      rw [← hbA, ← hbB]
      by_cases h1 : op = 1
      · by_cases h2 : hi0 < 9223372036854775807 <;> cases low <;> cases high <;> simp [h1, h2]
      · simp [h1])
    obtain ⟨LA, hLA⟩ : ∃ LA : List Int, (if bA then [lo] else []) = LA := ⟨_, rfl⟩
    have HLA := Lib.hid (show LA.length ≤ 1 from by rw [← hLA]; cases bA <;> simp)
    have HLAE := Lib.hid hLA
    clear hbA hbB hLA
    go_cut [15] from 8 to 15 (fun p wx => p = .bool bA ∧ wx = W)
    case first =>
      have k0 := H0.out.2.1.cell 0 rfl
      have k1 := H0.out.2.1.cell 1 rfl
      have k2 := H0.out.2.1.cell 2 rfl
      have k3 := H0.out.2.1.cell 3 rfl
      have k4 := H0.out.2.1.cell 4 rfl
      have k5 := H0.out.2.1.cell 5 rfl
      cases hz1 : (op == 1) with
      | true =>
        have e := HBA.out
        rw [hz1] at e
        cases low with
        | true =>
          obtain rfl : bA = false := e.symm
          clear e
          go_wp2_with fail
          go_meet
          exact ⟨rfl, rfl⟩
        | false =>
          obtain rfl : bA = true := e.symm
          clear e
          go_wp2_with fail
          go_meet
          exact ⟨rfl, rfl⟩
      | false =>
        have e := HBA.out
        rw [hz1] at e
        obtain rfl : bA = false := e.symm
        clear e
        go_wp2_with fail
        go_meet
        exact ⟨rfl, rfl⟩
    obtain ⟨rfl, hwc⟩ := hcut
    obtain rfl : W = wc := hwc.symm
    go_upto_if 15 with fail
    go_cut [0] from 16 to 23 (fun v1 wx => REn base w v l g #[.int .i64 op, .int .i64 lo, .int .i64 hi0, .bool low, .bool high, .slice a n cap] LA v1 wx)
    case first =>
      have k0 := H0.out.2.1.cell 0 rfl
      have k1 := H0.out.2.1.cell 1 rfl
      have k2 := H0.out.2.1.cell 2 rfl
      have k3 := H0.out.2.1.cell 3 rfl
      have k4 := H0.out.2.1.cell 4 rfl
      have k5 := H0.out.2.1.cell 5 rfl
      cases bA with
      | true =>
        obtain rfl : [lo] = LA := HLAE.out
        have HAPP := Lib.hid (show (l ++ ([] : List Int).map dup).length + 1 ≤ maxLen ∧ ((l ++ ([] : List Int).map dup).length + 1) * 16 ≤ 140737488355328 ∧ base ≤ (W.alloc (.cells #[.int .i64 lo, .int .i64 lo] 51)).heap.size from ⟨by have := HLB.out; have := HLA.out; unfold maxLen; simp; omega, by have := HLB.out; have := HLA.out; simp; omega, by have := H0.out.2.2.1.grown.size; have := HBASE.out; simp; omega⟩)
        go_wp2_with (at_builtin; refine wpList_append_lies _ rfl (.tmp 16) (.tmp 22) 25 rfl base 51 i0 rgZero 2 16 Try.underlying25 hi0' hz0 hz1 hz2 rfl (by decide) _ (l ++ ([] : List Int).map dup).length (rcells (l ++ ([] : List Int).map dup)) rfl (World.ownsRow.alloc H0.out.1 _) ⟨_, 0, none⟩ 1 1 [.int .i64 lo, .int .i64 lo] rfl rfl (new_rg _ _ _) (one_rg _ _) (by decide) HAPP.out.1 HAPP.out.2.1 HAPP.out.2.2 _ rfl ?_; intro g9 cap9 w9 hown9 hgr9 hat9 hlt9; have HR1 := Lib.hid (H0.out.push hown9 rfl rfl hgr9 hat9 rfl); clear hown9 hgr9 hat9 hlt9)
        go_meet
        have h := HR1.out
        simpa using h
      | false =>
        obtain rfl : [] = LA := HLAE.out
        go_wp2_with fail
        go_meet
        exact H0.out
    rename World => W1
    have HC1 := Lib.hid hcut
    clear hcut H0
    go_upto_region 3 with fail
    go_cut [36] from 24 to 36 (fun p wx => p = .bool bB ∧ wx = W1)
    case first =>
      have k0 := HC1.out.2.1.cell 0 rfl
      have k1 := HC1.out.2.1.cell 1 rfl
      have k2 := HC1.out.2.1.cell 2 rfl
      have k3 := HC1.out.2.1.cell 3 rfl
      have k4 := HC1.out.2.1.cell 4 rfl
      have k5 := HC1.out.2.1.cell 5 rfl
      cases hz1 : (op == 1) with
      | true =>
        have e := HBB.out
        rw [hz1] at e
        cases high with
        | true =>
          obtain rfl : bB = false := e.symm
          clear e
          go_wp2_with fail
          go_meet
          exact ⟨rfl, rfl⟩
        | false =>
          obtain ⟨b3, hb3⟩ : ∃ b3, decide (hi0 < 9223372036854775807) = b3 := ⟨_, rfl⟩
          rw [hb3] at e
          obtain rfl : b3 = bB := by simpa using e
          clear e
          go_wp2_with fail
          go_meet
          exact ⟨rfl, rfl⟩
      | false =>
        have e := HBB.out
        rw [hz1] at e
        obtain rfl : bB = false := e.symm
        clear e
        go_wp2_with fail
        go_meet
        exact ⟨rfl, rfl⟩
    obtain ⟨rfl, hwc⟩ := hcut
    obtain rfl : W1 = wc := hwc.symm
    go_upto_if 36 with fail
    go_cut [0] from 37 to 46 (fun v1 wx => REn base w v l g #[.int .i64 op, .int .i64 lo, .int .i64 hi0, .bool low, .bool high, .slice a n cap] (cutP op lo hi0 low high) v1 wx)
    case first =>
      have k0 := HC1.out.2.1.cell 0 rfl
      have k1 := HC1.out.2.1.cell 1 rfl
      have k2 := HC1.out.2.1.cell 2 rfl
      have k3 := HC1.out.2.1.cell 3 rfl
      have k4 := HC1.out.2.1.cell 4 rfl
      have k5 := HC1.out.2.1.cell 5 rfl
      cases bB with
      | true =>
        obtain ⟨z, hz⟩ : ∃ z, hi0 + 1 = z := ⟨_, rfl⟩
        have h8 : hi0 < 9223372036854775807 := by have := HBB.out; simp at this; exact this.2
        have q2 : IntKind.i64.wrap (hi0 + 1) = z := (wrap_ok (by have := HI.out; unfold I64 at *; omega)).trans hz
        have HZ := Lib.hid (show cutP op lo hi0 low high = LA ++ [z] from by rw [HCP.out, ← HLAE.out, ← hz]; rfl)
        have Q2 := Lib.hid q2
        clear hz h8 q2
        have HAPP := Lib.hid (show (l ++ (LA : List Int).map dup).length + 1 ≤ maxLen ∧ ((l ++ (LA : List Int).map dup).length + 1) * 16 ≤ 140737488355328 ∧ base ≤ (W1.alloc (.cells #[.int .i64 z, .int .i64 z] 51)).heap.size from ⟨by have := HLB.out; have := HLA.out; unfold maxLen; simp; omega, by have := HLB.out; have := HLA.out; simp; omega, by have := HC1.out.2.2.1.grown.size; have := HBASE.out; simp; omega⟩)
        have q2 := Q2.out
        go_wp2_with (at_builtin; refine wpList_append_lies _ rfl (.tmp 37) (.tmp 45) 25 rfl base 51 i0 rgZero 2 16 Try.underlying25 hi0' hz0 hz1 hz2 rfl (by decide) _ (l ++ (LA : List Int).map dup).length (rcells (l ++ (LA : List Int).map dup)) rfl (World.ownsRow.alloc HC1.out.1 _) ⟨_, 0, none⟩ 1 1 [.int .i64 z, .int .i64 z] rfl rfl (new_rg _ _ _) (one_rg _ _) (by decide) HAPP.out.1 HAPP.out.2.1 HAPP.out.2.2 _ rfl ?_; intro g9 cap9 w9 hown9 hgr9 hat9 hlt9; have HR2 := Lib.hid (HC1.out.push hown9 rfl rfl hgr9 hat9 rfl); clear hown9 hgr9 hat9 hlt9)
        go_meet
        rw [HZ.out]
        have h := HR2.out
        rw [List.length_append, List.length_map] at h
        exact h
      | false =>
        go_wp2_with fail
        go_meet
        rw [HCP.out, HLAE.out, if_neg (by decide), List.append_nil]
        exact HC1.out
    have HC0 := Lib.hid hcut
    clear hcut HC1
    have qs := QS.out
    have q41 := QD.out
    go_wp2_with fail
    go_loopw [0, 7] (fun v1 iv wr => ∃ i : Nat, i ≤ m ∧ iv = .int .i64 (i : Nat) ∧ REn base w v l g #[.int .i64 op, .int .i64 lo, .int .i64 hi0, .bool low, .bool high, .slice a n cap] (cutP op lo hi0 low high ++ flatN f i) v1 wr) (fun _ iv _ => m - (Lib.intOf iv).toNat)
    case atStart => exact ⟨0, Nat.zero_le _, rfl, by have h := HC0.out; rw [show flatN f 0 = [] from rfl, List.append_nil]; exact h⟩
    case round =>
      obtain ⟨i, hi, rfl, hen⟩ := hrel
      have HE := Lib.hid hen
      have HBL := Lib.hid (hen.2.2.1.below HOWN.out HBASE.out)
      have c5 := hen.2.1.cell 5 rfl
      clear hen
      by_cases hlt : i < n
      · have q1 : decide ((i : Int) < (n : Int)) = true := decide_eq_true (by omega)
        have q1n : decide (i < n) = true := decide_eq_true hlt
        cases bd with
        | true =>
          have him : i < m := by
            have hd := of_decide_eq_true HBD.out
            have hmm := HM.out
            clear qs q41 HREC
            rcases hmm with h | h <;> omega
          obtain ⟨gx, ox, op', lo', hi', low', high', a', n', cap', ch', hchi, hix, hgx, hrd⟩ := cRow_read HROW.out hlt (HCH.out i hlt)
          obtain ⟨k0, k1, k2, k3, k4, k5⟩ := hrd wr (HBL.out.block gx (by omega))
          have HC := Lib.hid (HREC.out i him _ wr _ (by have := HBL.out.size; have := HBASE.out; omega) HBL.out HE.out.1 (HLEN.out i him _ rfl))
          rw [hchi] at HC
          simp only [CT.v, CT.cells] at HC
          clear hchi hrd
          have q3 : IntKind.i64.wrap ((i : Int) + 1) = ((i + 1 : Nat) : Int) := wrap_succ hlt hn
          go_wp2_with fail
          refine HC.out.mono ?_
          rintro e w1 ⟨v2, rfl, h1, h2⟩
          have HE1 := Lib.hid (HE.out.call h1 h2)
          clear h1 h2
          go_wp2_with fail
          go_roundw
          case rel => exact ⟨i + 1, him, rfl, by have h := HE1.out; rw [List.append_assoc] at h; exact h⟩
          case measure => simp only [Lib.intOf]; omega
        | false =>
          have him : i = m := by
            have hd := of_decide_eq_false HBD.out
            have hmm := HM.out
            clear qs q41 HREC
            rcases hmm with h | h <;> omega
          subst him
          go_wp2_with fail
          go_ret
          exact ⟨_, rfl, HE.out.1, HE.out.2.2.1⟩
      · have q1 : decide ((i : Int) < (n : Int)) = false := decide_eq_false (by omega)
        have q1n : decide (i < n) = false := decide_eq_false hlt
        have him : i = m := by
          have hmm := HM.out
          clear qs q41 HREC
          omega
        subst him
        go_wp2_with fail
        go_ret
        exact ⟨_, rfl, HE.out.1, HE.out.2.2.1⟩
end Go.Proofs.Ytfnpjdglfaaegaa
