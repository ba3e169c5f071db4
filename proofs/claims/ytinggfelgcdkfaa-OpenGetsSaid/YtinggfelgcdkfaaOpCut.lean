/-
  Package open: the fragments of octets (cut), and PutOpen.
-/
import Derived.Test.YtinggfelgcdkfaaOpMem
import Derived.RangeFuncNested
import Derived.Shelf.Abstract
import Derived.Shelf.RegionOpen
import Derived.WalkKit
import Derived.OwnWalkIn
import Derived.TacticsInMore
import Derived.LoopNIn
import Derived.LoopIn
namespace Go.Proofs.Ytinggfelgcdkfaa
open Go.RowKit Go.Shelf
set_option linter.unusedVariables false
set_option linter.unusedSimpArgs false
set_option maxRecDepth 100000

attribute [local go_sem] Oper.semAt_some

def moreN : Value → Nat | .bool true => 1 | _ => 0
def lenV : Value → Nat | .slice _ n _ => n | _ => 0
/-- what stays while PutOpen runs: its boxes and those of cut -/
structure Pbox (w0 : World) (b : Nat) (al : Bool) (s : Value) (W : World) : Prop where
  only : Only b w0 W
  wr : Cel W w0.heap.size 24 (.pointer (some ⟨b, 0, none⟩))
  res : Cel W (w0.heap.size + 1) 27 (.int .i64 0)
  wr2 : Cel W (w0.heap.size + 2) 24 (.pointer (some ⟨b, 0, none⟩))
  al : Cel W (w0.heap.size + 3) 4 (.bool al)
  s : Cel W (w0.heap.size + 4) 22 s
theorem Pbox.step {w0 : World} {b : Nat} {al : Bool} {s : Value} {W W' : World} (h : Pbox w0 b al s W) (hb : b < w0.heap.size) (ho : Only b W W') : Pbox w0 b al s W' :=
  ⟨h.only.trans ho, h.wr.only ho (by omega), h.res.only ho (by omega), h.wr2.only ho (by omega), h.al.only ho (by omega), h.s.only ho (by omega)⟩
theorem Pbox.bk {w0 : World} {b : Nat} {al : Bool} {s : Value} {W : World} {l : Nat} {o : Obj} (h : Pbox w0 b al s W) (hB : w0.heap.size ≤ l) (hl : W.heap[l]? = some o) (hc : o.isCells = false) (o' : Obj) : Pbox w0 b al s (W.putObj l o') :=
  ⟨h.only.put (o := o) hB o', h.wr.bk hl hc o', h.res.bk hl hc o', h.wr2.bk hl hc o', h.al.bk hl hc o', h.s.bk hl hc o'⟩

/-- one fragment: the bits ahead of its octets, these, their slice -/
structure Frag where
  B : List Bool
  l : List Nat
  v : Value
def fragM (w0 : World) (b : Nat) (al : Bool) (s : Value) (x : Frag) (W : World) : Prop := WrAt W b x.B ∧ Sb w0 b x.v x.l ∧ x.B.length ≤ 9950000 ∧ x.l.length ≤ 65536 ∧ Pbox w0 b al s W
def fragN (w0 : World) (b : Nat) (al : Bool) (s : Value) (x : Frag) (W : World) : Prop := WrAt W b (x.B ++ bitsOf x.l) ∧ Pbox w0 b al s W
def RelCut (w0 : World) (b : Nat) (al : Bool) (s : Value) (T : List Bool) (K : World → Prop) (v m : Value) (W : World) : Prop :=
  ∃ (B : List Bool) (l : List Nat) (mb : Bool), Sb w0 b v l ∧ m = .bool mb ∧ WrAt W b B ∧ Pbox w0 b al s W ∧ K W ∧ (mb = true → opB al B l = T) ∧ (mb = false → B = T) ∧ (mb = true → B.length + 9 * l.length ≤ 9900000)
theorem relCut_next {w0 w3 : World} {b : Nat} {al : Bool} {s : Value} {T B : List Bool} {K : World → Prop} {a a' : Option Addr} {m cap c : Nat} {ls : List Nat} {mm : Bool} (hsb : Sb w0 b (.slice a m cap) ls) (hc : lfst m = c) (hmm : decide (16384 ≤ m) = mm) (hT : opB al B ls = T)
    (hle : B.length + 9 * ls.length ≤ 9900000) (h : WrAt w3 b (putF al B c ++ bitsOf (ls.take c))) (hp : Pbox w0 b al s w3) (hk : K w3) (ha : cap = c ∨ a' = a.map (·.add c)) :
    RelCut w0 b al s T K (.slice a' (m - c) (cap - c)) (.bool mm) w3 ∧ (m - c) + moreN (.bool mm) < m + 1 := by
  have hm := hsb.len
  have hlf := lfst_le m
  have ht := take_len (l := ls) (c := c) (by omega)
  have e : putF al B c ++ bitsOf (ls.take c) = itemB al B (ls.take c) := by unfold itemB; rw [ht]
  rw [e] at h
  by_cases h1 : 16384 ≤ m
  · rw [decide_eq_true h1] at hmm
    subst hmm
    have hp2 := lfst_pos h1
    refine ⟨⟨_, ls.drop c, true, hsb.drop (by omega) a' ha, rfl, h, hp, hk, fun _ => ?_, (fun h => by cases h), fun _ => ?_⟩, by show m - c + 1 < m + 1; omega⟩
    · rw [opB_more (by omega), hm.1, hc] at hT
      exact hT
    · have := itemB_le al B (ls.take c)
      rw [List.length_drop]
      omega
  · rw [decide_eq_false h1] at hmm
    subst hmm
    rw [lfst_small (by omega)] at hc
    refine ⟨⟨_, ls.drop c, false, hsb.drop (by omega) a' ha, rfl, h, hp, hk, (fun h => by cases h), fun _ => ?_, (fun h => by cases h)⟩, by show m - c + 0 < m + 1; omega⟩
    rw [opB_last (by omega)] at hT
    rw [← hT, List.take_of_length_le (by omega)]
theorem cut1_ok (l : Nat) (K : World → Prop) (hK : ∀ A B, KeepsOthers A B → K A → K B) (w0 : World) (b : Nat) (hb : b < w0.heap.size) (al : Bool) (s : Value) (B0 : List Bool) (l0 : List Nat) (hs : Sb w0 b s l0) (hn : B0.length + 9 * l0.length ≤ 9900000)
    (n : Nat) (hY : ∀ (x : Frag) W, fragM w0 b al s x W → K W → YieldAt Fence.wide (n - 1) Try.prog l #[x.v, .int .i64 0] W fun e W' => e = .returned (.bool true) ∧ fragN w0 b al s x W' ∧ K W')
    (W : World) (hW : WrAt W b B0) (hP : Pbox w0 b al s W) (hKW : K W) :
    CallsIn Fence.wide n Try.prog 68 #[.func (.yield l) #[] #[], .pointer (some ⟨w0.heap.size + 4, 0, none⟩), .pointer (some ⟨w0.heap.size + 2, 0, none⟩), .pointer (some ⟨w0.heap.size + 3, 0, none⟩)] W fun e W' =>
      (∃ v, e = .returned v) ∧ WrAt W' b (opB al B0 l0) ∧ Pbox w0 b al s W' ∧ K W' := by
  obtain ⟨T, hT⟩ : ∃ T, opB al B0 l0 = T := ⟨_, rfl⟩
  rw [hT]
  have hcs := hP.s.cell
  refine callsIn_of_wp Try.func68 rfl trivial ?_ rfl
  simp only [Try.ntmps68, List.size_toArray, List.length_cons, List.length_nil, Nat.reduceAdd, Nat.reduceSub, Array.replicate_succ, Array.replicate_zero, List.push_toArray, List.append_toArray, List.nil_append, List.cons_append]
  have HW := Lib.hid hW
  have HS := Lib.hid hs
  have HP := Lib.hid hP
  have HT := Lib.hid hT
  clear hW hs hP hT
  gi_wp2
  gi_loopw [5, 6] (fun v m wr => RelCut w0 b al s T K v m wr) (fun v m wr => lenV v + moreN m)
  case atStart =>
    exact ⟨B0, l0, true, HS.out, rfl, HW.out, HP.out, hKW, fun _ => HT.out, (fun h => by cases h), fun _ => hn⟩
  case round =>
    obtain ⟨B, ls, mb, hsb, rfl, hwr, hpb, hk, ht, hf, hle⟩ := hrel
    obtain ⟨a, m, cap, rfl⟩ := hsb.shape
    have hlm := hsb.len
    cases mb with
    | false =>
      obtain rfl := hf rfl
      have HW1 := Lib.hid hwr
      have HP1 := Lib.hid hpb
      clear hwr hpb ht hf hsb
      gi_wp2
      go_end0
      exact ⟨⟨_, rfl⟩, HW1.out, HP1.out, hk⟩
    | true =>
      have hT := ht rfl
      replace hle := hle rfl
      have hc1 := hpb.wr2.cell
      have hc2 := hpb.al.cell
      have hm63 : (m : Int) ≤ 9223372036854775807 := by omega
      have hlf := lfst_le m
      have hput := lput_any wr b B al m 0 (-1) hwr (by omega) (by decide) (by decide) (by omega)
      obtain ⟨p1, p2, p3, p4⟩ := lPut_nat m al B
      rw [p1, p2, p3, p4] at hput
      clear p1 p2 p3 p4
      have HPUT := Lib.hid hput
      have HSB := Lib.hid hsb
      have HPB := Lib.hid hpb
      have HWR := Lib.hid hwr
      clear hput hsb hpb hwr ht hf
      obtain ⟨c, hc⟩ : ∃ c, lfst m = c := ⟨_, rfl⟩
      obtain ⟨mm, hmm⟩ : ∃ mm, decide (16384 ≤ m) = mm := ⟨_, rfl⟩
      rw [hc] at HPUT hlf
      rw [hmm] at HPUT
      have HC := Lib.hid hc
      have HMM := Lib.hid hmm
      clear hc hmm
      gi_wp2_with fail
      refine ⟨trivial, fun h => (by cases h), ?_⟩
      refine (callsIn_wide.2 HPUT.out).mono ?_
      rintro e' w2 ⟨rfl, h1, h2⟩
      have H1 := Lib.hid h1
      have HK := Lib.hid (hK _ _ (h2.keeps HWR.out.cells) hk)
      have HP2 := Lib.hid (HPB.out.step hb h2)
      have hcm : (c : Int) ≤ (cap : Int) := by omega
      have hcm2 : (c : Int) ≤ (m : Int) := by omega
      clear h1 h2 hk HPB HWR HPUT hc1 hc2
      obtain ⟨fn, tmps, assign, body, hy, hR⟩ := hY ⟨putF al B c, ls.take c, .slice a c cap⟩ w2 ⟨H1.out, HSB.out.take (by omega) a (.inr rfl), by have := putF_le al B c; show (putF al B c).length ≤ 9950000; omega, by show (ls.take c).length ≤ 65536; rw [take_len (by omega)]; omega, HP2.out⟩ HK.out
      have HRR := Lib.hid hR
      clear hR
      gi_wp2_with fail
      refine ⟨fun h => (by cases h), ?_⟩
      refine HRR.out.mono ?_
      rintro e' w3 ⟨rfl, ⟨h1, h2⟩, h3⟩
      have H3 := Lib.hid h1
      have HP3 := Lib.hid h2
      have HK3 := Lib.hid h3
      clear h1 h2 h3 HK HP2 HRR hy
      have hnext := fun a' ha => relCut_next (a' := a') HSB.out HC.out HMM.out hT hle H3.out HP3.out HK3.out ha
      have HN := Lib.hid hnext
      clear hnext
      gi_wp2_with fail
      go_roundw
      case rel => exact (HN.out _ (by by_cases h : cap = c; exact .inl h; exact .inr (by rw [if_neg h]))).1
      case measure => exact (HN.out (a.map (·.add c)) (.inr rfl)).2
theorem cut_ok (w : World) (pt : Option Addr) (al : Bool) (a : Option Addr) (m cap : Nat) (n : Nat) :
    CallsIn Fence.wide n Try.prog 42 #[.pointer pt, .bool al, .slice a m cap] w fun e w' => e = .returned (.func (.func 68) #[] #[.pointer (some ⟨w.heap.size + 2, 0, none⟩), .pointer (some ⟨w.heap.size, 0, none⟩), .pointer (some ⟨w.heap.size + 1, 0, none⟩)]) ∧
      w' = ((w.alloc (.cells #[.pointer pt] 24)).alloc (.cells #[.bool al] 4)).alloc (.cells #[.slice a m cap] 22) := by
  refine callsIn_of_wp Try.func42 rfl trivial ?_ rfl
  simp only [Try.ntmps42, List.size_toArray, List.length_cons, List.length_nil, Nat.reduceAdd, Nat.reduceSub, Array.replicate_succ, Array.replicate_zero, List.push_toArray, List.append_toArray, List.nil_append, List.cons_append]
  gi_wp2
  go_ret
  exact ⟨rfl, rfl⟩
theorem oput_in (w : World) (b : Nat) (B : List Bool) (al : Bool) (s : Value) (l : List Nat) (h : WrAt w b B) (hs : Sb w b s l) (hn : B.length + 9 * l.length ≤ 9900000) (hl : l.length ≤ 1048576) (n : Nat) (hn3 : 3 ≤ n) :
    CallsIn Fence.wide n Try.prog 20 #[.pointer (some ⟨b, 0, none⟩), .bool al, s] w fun e w' => e = .returned (.int .i64 0) ∧ WrAt w' b (opB al B l) ∧ Only b w w' := by
  obtain ⟨a, m, cap, rfl⟩ := hs.shape
  have hm := hs.len
  have q1 : decide ((1048576 : Int) < (m : Int)) = false := decide_eq_false (by omega)
  have hblt := h.lt
  refine callsIn_of_wp_marks Try.func20 rfl trivial ?_ rfl
  simp only [Try.ntmps20, List.size_toArray, List.length_cons, List.length_nil, Nat.reduceAdd, Nat.reduceSub, Array.replicate_succ, Array.replicate_zero, List.push_toArray, List.append_toArray, List.nil_append, List.cons_append]
  have HW := Lib.hid h
  have HS := Lib.hid hs
  have HM := Lib.hid hm
  clear h hs hm
  gi_wp2_with fail
  refine ⟨trivial, fun h => (by cases h), ?_⟩
  refine (cut_ok _ _ _ _ _ _ _).mono ?_
  rintro e' w2 ⟨rfl, rfl⟩
  gi_wp2_with fail
  obtain ⟨W0, hW0⟩ : ∃ W0, ((((w.alloc (.cells #[.pointer (some ⟨b, 0, none⟩)] 24)).alloc (.cells #[.int .i64 0] 27)).alloc (.cells #[.pointer (some ⟨b, 0, none⟩)] 24)).alloc (.cells #[.bool al] 4)).alloc (.cells #[.slice a m cap] 22) = W0 := ⟨_, rfl⟩
  have hsz : W0.heap.size = w.heap.size + 5 := by rw [← hW0]; simp
  have hP0 : Pbox w b al (.slice a m cap) W0 := by
    have c0 := Cel.new w 24 (.pointer (some ⟨b, 0, none⟩))
    have c1 := Cel.new (w.alloc (.cells #[.pointer (some ⟨b, 0, none⟩)] 24)) 27 (.int .i64 0)
    have c2 := Cel.new ((w.alloc (.cells #[.pointer (some ⟨b, 0, none⟩)] 24)).alloc (.cells #[.int .i64 0] 27)) 24 (.pointer (some ⟨b, 0, none⟩))
    have c3 := Cel.new (((w.alloc (.cells #[.pointer (some ⟨b, 0, none⟩)] 24)).alloc (.cells #[.int .i64 0] 27)).alloc (.cells #[.pointer (some ⟨b, 0, none⟩)] 24)) 4 (.bool al)
    have c4 := Cel.new ((((w.alloc (.cells #[.pointer (some ⟨b, 0, none⟩)] 24)).alloc (.cells #[.int .i64 0] 27)).alloc (.cells #[.pointer (some ⟨b, 0, none⟩)] 24)).alloc (.cells #[.bool al] 4)) 22 (.slice a m cap)
    simp only [World.size_alloc] at c1 c2 c3 c4
    rw [← hW0]
    exact ⟨((((Only.refl b w).alloc _).alloc _).alloc _).alloc _ |>.alloc _, (((c0.alloc _).alloc _).alloc _).alloc _, ((c1.alloc _).alloc _).alloc _, (c2.alloc _).alloc _, c3.alloc _, c4⟩
  have hWr0 : WrAt W0 b B := HW.out.below (by rw [← hW0]; exact (((((Below.refl _ w).alloc (Nat.le_refl _) _).alloc (by simp) _).alloc (by simp; omega) _).alloc (by simp; omega) _).alloc (by simp; omega) _)
  simp only [hW0, Nat.add_assoc, Nat.reduceAdd]
  clear hW0
  have HP0 := Lib.hid hP0
  have HWr0 := Lib.hid hWr0
  have HSZ := Lib.hid hsz
  clear hP0 hWr0 hsz
  refine rangeFunc_own (α := Frag) rfl (by omega) (gf := 68) (lb := #[.pointer (some ⟨w.heap.size + 4, 0, none⟩), .pointer (some ⟨w.heap.size + 2, 0, none⟩), .pointer (some ⟨w.heap.size + 3, 0, none⟩)]) rfl trivial (enters_of Try.func68 (by kernel_rfl) rfl)
    (encs := fun x => #[x.v, .int .i64 0]) (fun _ => rfl)
    (fun W => WrAt W b B ∧ Pbox w b al (.slice a m cap) W) (fun W => WrAt W b (opB al B l) ∧ Pbox w b al (.slice a m cap) W) (fun _ => False)
    (fragM w b al (.slice a m cap)) (fragN w b al (.slice a m cap)) (fun _ _ => False)
    (fun x W r o o' hr hl hc h => ⟨h.1.bk hl hc o', h.2.1, h.2.2.1, h.2.2.2.1, h.2.2.2.2.bk (by have := HSZ.out; omega) hl hc o'⟩)
    (fun x W r o o' hr hl hc h => ⟨h.1.bk hl hc o', h.2.bk (by have := HSZ.out; omega) hl hc o'⟩)
    (fun _ _ _ _ _ _ _ _ h => h)
    (fun W r o o' hr hl hc h => ⟨h.1.bk hl hc o', h.2.bk (by have := HSZ.out; omega) hl hc o'⟩)
    (fun _ _ _ _ _ _ _ h => h)
    (fun o o' => ⟨HWr0.out.below (((Below.refl _ _).alloc (Nat.le_refl _) _).alloc (by simp) _), HP0.out.step hblt (Only.of_below (((Below.refl _ _).alloc (Nat.le_refl _) _).alloc (by simp) _))⟩)
    (fun r K Kx W hK _ hY hI hk => (cut1_ok r K hK w b hblt al _ B l HS.out hn (n - 1) (fun x W hm hk => (hY x W hm hk).mono (fun e w' h => by
      rcases h with h | h
      · exact h
      · exact h.2.1.elim)) W hI.1 hI.2 hk).mono (fun e w' h => ⟨h.1, .inl ⟨⟨h.2.1, h.2.2.1⟩, h.2.2.2⟩⟩))
    (fun x => { tmps := #[Value.pointer (some ⟨b, 0, none⟩), Value.bool al, Value.slice a m cap, Value.pointer (some ⟨w.heap.size, 0, none⟩), undef, undef,
          Value.pointer (some ⟨w.heap.size + 1, 0, none⟩), x.v, .int .i64 0, undef, Value.pointer (some ⟨b, 0, none⟩), Value.bool false, Value.slice a m cap,
          Value.int IntKind.i64 ↑m, Value.bool false, Value.pointer (some ⟨b, 0, none⟩), Value.bool al, Value.slice a m cap,
          Value.func (Fn.func 68) #[] #[.pointer (some ⟨w.heap.size + 4, 0, none⟩), .pointer (some ⟨w.heap.size + 2, 0, none⟩), .pointer (some ⟨w.heap.size + 3, 0, none⟩)],
          x.v, .int .i64 0, undef, undef, undef, undef, undef, undef, undef, undef, undef], defers := [] })
    ?assign ?body ?done ?stop
  case assign =>
    rintro r ⟨xB, xl, xv⟩ W K hK
    gi_wp2
    exact hK
  case body =>
    rintro r ⟨xB, xl, xv⟩ W ⟨hwr, hsb, hB, hxl, hpb⟩
    obtain ⟨xa, xn, xc, hxv⟩ := hsb.shape
    have hxv : xv = Value.slice xa xn xc := hxv
    subst hxv
    have hc1 := hpb.wr.cell
    have HO := Lib.hid (woctets_sl W b xB _ xl hwr (hsb.only hpb.only).sl hsb.apart (by have : xB.length ≤ 9950000 := hB; omega) (by have : xl.length ≤ 65536 := hxl; omega))
    have HWR := Lib.hid hwr
    have HPB := Lib.hid hpb
    clear hwr hsb hpb hB hxl
    gi_wp2_with fail
    refine ⟨trivial, fun h => (by cases h), ?_⟩
    refine (CallsIn.inRound r (callsIn_wide.2 HO.out)).mono ?_
    rintro e' w3 ⟨rfl, h1, h2⟩
    have H1 := Lib.hid h1
    have H2 := Lib.hid h2
    clear h1 h2 hc1
    gi_wp2_with fail
    exact ⟨H2.out.keeps HWR.out.cells, H1.out, HPB.out.step hblt H2.out⟩
  case done =>
    rintro D W hD ⟨h1, h2⟩ hK
    have hc1 := h2.res.cell
    have hf1 := h2.res.free
    have hK' : (W.setCell ⟨w.heap.size + 1, 0, none⟩ (.int .i64 0)).heap[D]? = some (.deferred (some [])) := (heap_setCell_other _ _ _ _ (by show D ≠ w.heap.size + 1; have := HSZ.out; omega)).trans hK
    have h3 : Pbox w b al (.slice a m cap) (W.setCell ⟨w.heap.size + 1, 0, none⟩ (.int .i64 0)) := ⟨h2.only.set (by omega) _, h2.wr.other _ _ _ (by omega), h2.res.set _, h2.wr2.other _ _ _ (by omega), h2.al.other _ _ _ (by omega), h2.s.other _ _ _ (by omega)⟩
    have h4 : WrAt (W.setCell ⟨w.heap.size + 1, 0, none⟩ (.int .i64 0)) b (opB al B l) := h1.keep (Only.setCell 0 _) (by omega) (fun c' q' e => by
      have := h2.res
      unfold Cel at this
      rw [this] at e
      unfold chObj at e
      injection e with e
      injection e with h1 h2 h3
      exact absurd h2 (by decide))
    have h5 := h3.bk (by have := HSZ.out; omega) hK' rfl (.deferred none)
    have h6 := h4.bk hK' rfl (.deferred none)
    have hc5 := h5.res.cell
    gi_wp2
    refine ⟨by simp, .inl ⟨_, _, rfl, run_takeDeferred hK', ?_⟩⟩
    refine ⟨.int .i64 0, ?_, rfl, h6, h5.only⟩
    simp [results, Try.f20, go_sem, hc5]
  case stop =>
    rintro D W _ h _
    exact h.elim
theorem oput_any (w : World) (b : Nat) (B : List Bool) (al : Bool) (s : Value) (l : List Nat) (h : WrAt w b B) (hs : Sb w b s l) (hn : B.length + 9 * l.length ≤ 9900000) (hl : l.length ≤ 1048576) :
    Calls Try.prog 20 #[.pointer (some ⟨b, 0, none⟩), .bool al, s] w fun e w' => e = .returned (.int .i64 0) ∧ WrAt w' b (opB al B l) ∧ Only b w w' :=
  (callsIn_wide (n := 3)).1 (oput_in w b B al s l h hs hn hl 3 (by omega))
theorem oput_large (w : World) (b : Nat) (al : Bool) (a : Option Addr) (m cap : Nat) (hl : 1048576 < m) :
    Calls Try.prog 20 #[.pointer (some ⟨b, 0, none⟩), .bool al, .slice a m cap] w fun e w' => e = .returned (.int .i64 11) ∧ Below w.heap.size w w' := by
  have q1 : decide ((1048576 : Int) < (m : Int)) = true := decide_eq_true (by omega)
  go_enter Try.func20, Try.ntmps20
  go_wp2
  have hc := Cel.new (w.alloc (.cells #[.pointer (some ⟨b, 0, none⟩)] 24)) 27 (.int .i64 11)
  rw [World.size_alloc] at hc
  refine bodyPost_ret (v := .int .i64 11) ?_ rfl ⟨rfl, ((Below.refl _ w).alloc (Nat.le_refl _) _).alloc (by simp) _⟩
  simp [results, Try.f20, go_sem, hc.cell]
theorem oput_nil (w : World) (al : Bool) (s : Value) :
    Calls Try.prog 20 #[.pointer none, .bool al, s] w fun e w' => e = .returned (.int .i64 1) ∧ Below w.heap.size w w' := by
  go_enter Try.func20, Try.ntmps20
  go_wp2
  have hc := Cel.new (w.alloc (.cells #[.pointer none] 24)) 27 (.int .i64 1)
  rw [World.size_alloc] at hc
  refine bodyPost_ret (v := .int .i64 1) ?_ rfl ⟨rfl, ((Below.refl _ w).alloc (Nat.le_refl _) _).alloc (by simp) _⟩
  simp [results, Try.f20, go_sem, hc.cell]
end Go.Proofs.Ytinggfelgcdkfaa
