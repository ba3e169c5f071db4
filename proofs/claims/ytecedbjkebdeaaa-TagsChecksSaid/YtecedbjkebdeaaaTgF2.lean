/-
  Package tags: 'find', where the places are not made yet.
-/
import Derived.Test.YtecedbjkebdeaaaTgF
import Derived.Test.YtecedbjkebdeaaaTgT
namespace Go.Proofs.Ytecedbjkebdeaaa
open Go.RowKit Go.Maps Go.WideElems Go.ChangeMaps Go.MapKept Go.Shelf
set_option linter.unusedVariables false
set_option linter.unusedSimpArgs false
set_option maxRecDepth 100000

attribute [local go_sem] Oper.semAt_some

/-- behind the range: what lay is as it was, but the graph's struct; a map of places, filled from entry r on -/
structure JF (w : World) (b : Nat) (cs : Array Value) (l : EL) (r : Nat) (W : World) : Prop where
  os : W.os = w.os
  tape : W.tape = w.tape
  output : W.output = w.output
  size : w.heap.size + 3 ≤ W.heap.size
  blk : ∀ j, j < w.heap.size → j ≠ b → W.heap[j]? = w.heap[j]?
  bx : Bx W b cs 60
  bp : Bx W w.heap.size #[.pointer (some ⟨b, 0, none⟩)] 47
  bl : Bx W (w.heap.size + 2) #[l.v] 22
  pl : PlPart W (w.heap.size + 1) l r
theorem JF.step {w : World} {b : Nat} {cs : Array Value} {l : EL} {r r' : Nat} {W W' : World} (h : JF w b cs l r W) (hb : b < w.heap.size) (hg : W.grownBy W' (some (w.heap.size + 1))) (hp : PlPart W' (w.heap.size + 1) l r') : JF w b cs l r' W' :=
  have hs := h.size
  ⟨hg.os.trans h.os, hg.tape.trans h.tape, hg.output.trans h.output, Nat.le_trans h.size hg.size, fun j hj hjb => (hg.block j (by omega) (fun e => by have := Option.some.inj e; omega)).trans (h.blk j hj hjb),
   (hg.block b (by omega) (fun e => by have := Option.some.inj e; omega)).trans h.bx, (hg.block _ (by omega) (fun e => by have := Option.some.inj e; omega)).trans h.bp, (hg.block _ (by omega) (fun e => by have := Option.some.inj e; omega)).trans h.bl, hp⟩
theorem JF.alloc {w : World} {b : Nat} {cs : Array Value} {l : EL} {r : Nat} {W : World} (h : JF w b cs l r W) (hb : b < w.heap.size) (o : Obj) : JF w b cs l r (W.alloc o) :=
  have hs := h.size
  h.step hb (World.grownBy_alloc W o _) (h.pl.block (Below.heap_alloc W o _ (by omega)))
theorem JF.drew {w : World} {b : Nat} {cs : Array Value} {l : EL} {r : Nat} {W : World} (h : JF w b cs l r W) : JF w b cs l r W.drew := ⟨h.os, h.tape, h.output, h.size, h.blk, h.bx, h.bp, h.bl, h.pl⟩
theorem JF.bk {w : World} {b : Nat} {cs : Array Value} {l : EL} {r : Nat} {W : World} (h : JF w b cs l r W) (hb : b < w.heap.size) {j : Nat} {o : Obj} (hj : w.heap.size + 3 ≤ j) (hl : W.heap[j]? = some o) (hc : o.isCells = false) (o' : Obj) : JF w b cs l r (W.putObj j o') :=
  have e : ∀ i, i ≠ j → (W.putObj j o').heap[i]? = W.heap[i]? := fun i hi => World.putObj_heap_other hi
  ⟨h.os, h.tape, h.output, by have := h.size; simp [World.putObj]; exact this, fun i hi hib => (e i (by omega)).trans (h.blk i hi hib), (e b (by omega)).trans h.bx, (e _ (by omega)).trans h.bp, (e _ (by omega)).trans h.bl, h.pl.block (e _ (by omega))⟩
theorem backward_ok (w : World) (a : Option Addr) (n c : Nat) : Calls Try.prog 57 #[.slice a n c] w fun e w' => e = .returned (.func (.func 63) #[] #[.pointer (some ⟨w.heap.size, 0, none⟩)]) ∧ w' = w.alloc (.cells #[.slice a n c] 22) := by
  go_enter Try.func57, Try.ntmps57
  go_wp2_with fail
  go_ret
  exact ⟨rfl, rfl⟩
theorem JF.below {w : World} {b : Nat} {cs : Array Value} {l : EL} {r : Nat} {W : World} {B : Nat} (h : JF w b cs l r W) (hB : B ≤ w.heap.size) (hb : B ≤ b) : Below B w W := ⟨h.os, h.tape, h.output, by have := h.size; omega, fun j hj => h.blk j (by omega) (by omega)⟩
def FM2 (w : World) (b : Nat) (cs : Array Value) (l : EL) (s : ByteArray) (x : Nat) (a' : Act) (W : World) : Prop := ∃ gi : Nat, (x < l.n ∧ JF w b cs l (x + 1) W) ∧ w.heap.size + 3 ≤ gi ∧ Bx W gi (l.f x).cells.toArray 46 ∧
  a' = { tmps := #[.pointer (some ⟨b, 0, none⟩), .string s, .pointer (some ⟨w.heap.size, 0, none⟩), undef, .int .i64 0, .bool false, .int .i64 (x : Nat), .pointer (some ⟨gi, 0, none⟩), undef, undef, .pointer (some ⟨b, 0, none⟩), .pointer (some ⟨b, 0, none⟩), .pointer (some ⟨b, 1, none⟩), .map none, .bool true, .pointer (some ⟨b, 0, none⟩), .pointer (some ⟨b, 0, none⟩), .pointer (some ⟨b, 0, none⟩), .pointer (some ⟨b, 0, none⟩), .slice l.a l.n l.cap, .int .i64 (l.n : Nat), .map (some (w.heap.size + 1)), .pointer (some ⟨b, 0, none⟩), .pointer (some ⟨b, 1, none⟩), .pointer (some ⟨b, 0, none⟩), .pointer (some ⟨b, 0, none⟩), .pointer (some ⟨b, 0, none⟩), .slice l.a l.n l.cap, .func (.func 63) #[] #[.pointer (some ⟨w.heap.size + 2, 0, none⟩)], .int .i64 (x : Nat), .agg (l.f x).cells.toArray, undef, undef, undef, undef, undef, undef, undef, undef, undef, undef, undef, undef, undef, undef, undef, undef, undef, undef, undef, undef, undef, undef], defers := [] }
set_option maxHeartbeats 8000000 in
theorem find_make (w : World) (b : Nat) (l : EL) (rv sv vv qv mv : Value) (cs : Array Value) (hcs : cs = #[l.v, .map (some (w.heap.size + 1)), rv, sv, vv, qv, mv]) (s : ByteArray) (n : Nat) (hn : 6 ≤ n) (hbx : Bx w b #[l.v, .map none, rv, sv, vv, qv, mv] 60) (B : Nat) (hB : B ≤ w.heap.size) (hl : ELIn B w l) (hln : l.n ≤ 1000000) (hbB : B ≤ b) (hs : s.size ≤ 9223372036854775807)
    (hsz : ∀ i, i < l.n → (l.f i).mod.size + (l.f i).name.size + 1 ≤ 9223372036854775807) :
    CallsIn Fence.wide n Try.prog 47 #[.pointer (some ⟨b, 0, none⟩), .string s] w fun e w' => Found l s e ∧ JF w b cs l 0 w' := by
  have hlt := hbx.lt
  have c1 : ∀ o, (w.alloc o).cell? ⟨b, 1, none⟩ = some (.map none) := fun o => (hbx.alloc o).cell 1 rfl
  have c0 : ∀ o, (w.alloc o).cell? ⟨b, 0, none⟩ = some (.slice l.a l.n l.cap) := fun o => (hbx.alloc o).cell 0 rfl
  have f1 : ∀ o, (w.alloc o).frozen? ⟨b, 1, none⟩ = false := fun o => frozen_gx (hbx.alloc o) 1
  have hyes := pl_none
  have hmk := mk_pl
  refine callsIn_of_wp_marks Try.func47 rfl trivial ?_ rfl
  simp only [Try.ntmps47, List.size_toArray, List.length_cons, List.length_nil, Nat.reduceAdd, Nat.reduceSub, Array.replicate_succ, Array.replicate_zero, List.push_toArray, List.append_toArray, List.nil_append, List.cons_append]
  gi_wp2_with fail
  gi_region
  obtain ⟨W2, hW2⟩ : ∃ W, (((w.setCell ⟨b, 1, none⟩ (.map (some (w.heap.size + 1)))).alloc (.cells #[.pointer (some ⟨b, 0, none⟩)] 47)).alloc (.map #[] 0)).drew = W := ⟨_, rfl⟩
  have hsz2 : W2.heap.size = w.heap.size + 2 := by rw [← hW2]; simp [World.setCell]
  have hJ3 : ∀ c, c = W2.alloc (.cells #[l.v] 22) → JF w b #[l.v, .map (some (w.heap.size + 1)), rv, sv, vv, qv, mv] l l.n c := by
    intro c hc
    have e1 : (w.setCell ⟨b, 1, none⟩ (.map (some (w.heap.size + 1)))).heap.size = w.heap.size := size_field
    have b1 := bx_field hbx 1 (.map (some (w.heap.size + 1)))
    have b2 := Bx.new (w.setCell ⟨b, 1, none⟩ (.map (some (w.heap.size + 1)))) #[.pointer (some ⟨b, 0, none⟩)] 47
    have b3 := PlPart.made ((w.setCell ⟨b, 1, none⟩ (.map (some (w.heap.size + 1)))).alloc (.cells #[.pointer (some ⟨b, 0, none⟩)] 47)) l
    have e2 : ((w.setCell ⟨b, 1, none⟩ (.map (some (w.heap.size + 1)))).alloc (.cells #[.pointer (some ⟨b, 0, none⟩)] 47)).heap.size = w.heap.size + 1 := by simp [World.setCell]
    rw [e1] at b2
    rw [e2] at b3
    have b4 := Bx.new W2 #[l.v] 22
    rw [hsz2] at b4
    subst hc
    refine ⟨by rw [← hW2]; rfl, by rw [← hW2]; rfl, by rw [← hW2]; rfl, by simp; omega, fun j hj hjb => ?_, ?_, ?_, b4, ?_⟩
    · rw [Below.heap_alloc _ _ _ (by omega), ← hW2]
      show (((w.setCell ⟨b, 1, none⟩ _).alloc _).alloc _).heap[j]? = _
      rw [Below.heap_alloc _ _ _ (by rw [e2]; omega), Below.heap_alloc _ _ _ (by rw [e1]; omega)]
      exact heap_field hjb
    · refine Bx.alloc ?_ _
      rw [← hW2]
      exact (b1.alloc _).alloc _
    · refine Bx.alloc ?_ _
      rw [← hW2]
      exact b2.alloc _
    · refine PlPart.block ?_ (Below.heap_alloc _ _ _ (by omega))
      rw [← hW2]
      exact b3
  have HJ3 := Lib.hid hJ3
  have HSZ := Lib.hid hsz2
  have p0 : W2.cell? ⟨w.heap.size, 0, none⟩ = some (.pointer (some ⟨b, 0, none⟩)) := by
    have := ((hJ3 _ rfl).bp).cell 0 (v := .pointer (some ⟨b, 0, none⟩)) rfl
    rw [World.cell?_of_block (w := W2) (a := ⟨w.heap.size, 0, none⟩) (Below.heap_alloc W2 _ _ (by show w.heap.size < _; omega))] at this
    exact this
  have p1 : W2.cell? ⟨b, 0, none⟩ = some (.slice l.a l.n l.cap) := by
    have := ((hJ3 _ rfl).bx).cell 0 (v := .slice l.a l.n l.cap) rfl
    rw [World.cell?_of_block (w := W2) (a := ⟨b, 0, none⟩) (Below.heap_alloc W2 _ _ (by show b < _; omega))] at this
    exact this
  rw [hW2]
  clear hW2 c1 c0 f1 hyes hmk hJ3 hsz2
  gi_wp2_with fail
  refine ⟨trivial, fun h => (by cases h), ?_⟩
  refine (callsIn_wide.2 (backward_ok _ _ _ _)).mono ?_
  rintro e w3 ⟨rfl, hw3⟩
  have HJ := Lib.hid (HJ3.out _ hw3)
  clear hw3 HJ3 p0 p1
  rw [HSZ.out]
  clear HSZ
  gi_wp2_with fail
  have HBX := Lib.hid (show b < w.heap.size from hlt)
  have HS3 := Lib.hid HJ.out.size
  have HL := Lib.hid hl
  have HSZ := Lib.hid hsz
  clear hbx hl hsz
  have HCS := Lib.hid (show cs[1]? = some (.map (some (w.heap.size + 1))) by rw [hcs]; rfl)
  rw [← hcs] at HJ
  clear hcs
  refine rangeFunc_own3 (α := Nat) rfl (by omega) (gf := 63) (lb := #[.pointer (some ⟨w.heap.size + 2, 0, none⟩)]) rfl trivial (enters_of Try.func63 (by kernel_rfl) rfl)
    (encs := fun x => #[.int .i64 (x : Nat), .agg (l.f x).cells.toArray]) (fun _ => rfl)
    (fun W => JF w b cs l l.n W) (fun W => JF w b cs l 0 W) (fun _ _ => False)
    (fun x W => x < l.n ∧ JF w b cs l (x + 1) W) (fun x W => JF w b cs l x W) (FM2 w b cs l s) (fun _ _ _ => False)
    (fun x W r o o' hr hl hc h => ⟨h.1, h.2.bk HBX.out (by have := HS3.out; omega) hl hc o'⟩)
    (fun x W r o o' hr hl hc h => h.bk HBX.out (by have := HS3.out; omega) hl hc o')
    (fun x a' W r o o' hr hl hc ⟨gi, h1, h2, h3, h4⟩ => ⟨gi, ⟨h1.1, h1.2.bk HBX.out (by have := HS3.out; omega) hl hc o'⟩, h2, h3.bk hl hc o', h4⟩)
    (fun c x W r o o' hr hl hc h => h)
    (fun W r o o' hr hl hc h => h.bk HBX.out (by have := HS3.out; omega) hl hc o')
    (fun c W r o o' hr hl hc h => h)
    (fun o o' => (HJ.out.alloc HBX.out o).alloc HBX.out o')
    (fun l0 K Kx W hK hKx hY hI hk => (back1_ok l0 (w.heap.size + 2) B w l hB HL.out hln (fun r W => JF w b cs l r W) K
      (fun k W h => ⟨h.below hB hbB, h.bl⟩) (n - 1)
      (fun r W hr hj hk2 => (hY r W ⟨hr, hj⟩ hk2).mono (fun e w' h => by
        rcases h with ⟨h1, h2, h3⟩ | ⟨h1, c, h2, h3⟩
        · exact ⟨h1, h2, h3⟩
        · exact h2.elim)) W hI hk).mono (fun e w' h => ⟨h.1, .inl ⟨h.2.1, h.2.2⟩⟩))
    ?assign ?body ?done ?stop
  case assign =>
    rintro r x W K ⟨hx, hd⟩ hK
    have H1 := Lib.hid (one_ecells (HL.out.2 x hx))
    have HD := Lib.hid hd
    have HKK := Lib.hid hK
    have HXN := Lib.hid (Bx.new W (l.f x).cells.toArray 46)
    have HGE := Lib.hid hd.size
    clear hd hK
    gi_wp2_with (refine wpListIn_store_new rfl 46 (.tmp 7) (.tmp 30) rfl 18 _ (l.f x).cells H1.out.1 (by kernel_rfl) info_E H1.out.2 rfl rfl ?_)
    exact HKK.out _ _ ((KeepsOthers.alloc _ _).from _) ⟨W.heap.size, ⟨hx, HD.out.alloc HBX.out _⟩, HGE.out, HXN.out, rfl⟩
  case body =>
    rintro r x a' W ⟨gi, ⟨hx, hd⟩, hgi, hbx, rfl⟩
    have hz := HSZ.out x hx
    obtain ⟨W', hrun, hgr, hpl⟩ := (hd.drew.pl).put hx hln hz
    have HD := Lib.hid hd
    have HG := Lib.hid hgr
    have HP := Lib.hid hpl
    have k0 : W.cell? ⟨w.heap.size, 0, none⟩ = some (.pointer (some ⟨b, 0, none⟩)) := hd.bp.cell 0 rfl
    have k1 : W.cell? ⟨b, 1, none⟩ = some (.map (some (w.heap.size + 1))) := hd.bx.cell 1 HCS.out
    have k2 : W.cell? ⟨gi, 0, none⟩ = some (.string (l.f x).mod) := hbx.cell 0 rfl
    have k3 : W.cell? ⟨gi, 1, none⟩ = some (.string (l.f x).name) := hbx.cell 1 rfl
    obtain ⟨em, hem⟩ : ∃ y, (l.f x).mod = y := ⟨_, rfl⟩
    obtain ⟨en, hen⟩ : ∃ y, (l.f x).name = y := ⟨_, rfl⟩
    rw [hem] at k2 hrun hz
    rw [hen] at k3 hrun hz
    have z1 : ¬ 9223372036854775807 < em.size + 1 := by omega
    have z2 : ¬ 9223372036854775807 < em.size + 1 + en.size := by omega
    clear hd hgr hpl hbx hem hen hz
    gi_wp2_with fail
    refine wpIn_region_still_tail 11 (by kernel_rfl) (by kernel_rfl) (by kernel_rfl) ?_
    simp only [List.take_succ_cons, List.take_zero, List.drop_succ_cons, List.drop_zero]
    change wpStill _ _ (World.drew W) _ _ _
    repeat still_step
    try refine wpStill_nil ?_
    change wpListIn _ _ _ _ _ _ _ (World.drew W)
    gi_wp2_with fail
    refine ⟨((KeepsOthers.drew W).from _).trans (KeepsFrom.of_grownBy HG.out (fun j hj => by cases hj; have := HS3.out; omega)), HD.out.drew.step HBX.out HG.out HP.out⟩
  case done =>
    rintro r W hr hD hK'
    have k0 : W.cell? ⟨w.heap.size, 0, none⟩ = some (.pointer (some ⟨b, 0, none⟩)) := hD.bp.cell 0 rfl
    have k1 : W.cell? ⟨b, 1, none⟩ = some (.map (some (w.heap.size + 1))) := hD.bx.cell 1 HCS.out
    obtain ⟨D, hDo, hl2⟩ := hD.pl.done
    have HLK := Lib.hid (hl2 s hs)
    have HDO := Lib.hid hDo
    have HKEY := Lib.hid (keyOfS hs)
    have HB := Lib.hid (hD.bk HBX.out (by have := HS3.out; omega) hK' rfl (.deferred none))
    clear hD hDo hl2
    gi_wp2_with (refine wpListIn_lookup_own_ok_int _ rfl _ _ 56 rfl 9 3 .i64 keyS Try.underlying56 Try.underlying3 (zero_int _) (w.heap.size + 1) l.n D rfl HDO.out _ _ rfl HKEY.out ?_; intro c hat hwc; have HAT := Lib.hid hat; clear hat hwc)
    refine ⟨by simp, .inl ⟨_, _, rfl, run_takeDeferred hK', ?_⟩⟩
    refine ⟨_, results_tmp2 rfl _ _ _, ?_, HB.out⟩
    have hfo := found_of HLK.out.1 HLK.out.2 HAT.out
    simpa using hfo
  case stop =>
    rintro r c W hr h hK'
    exact h.elim
end Go.Proofs.Ytecedbjkebdeaaa
