/-
  A bundle of texts, one behind the other: ShN5, ShN6, ShN7, ShN8.
-/
import Derived.Test.YtgmnojnalkhepaaGreatDoorKE
import Derived.Test.YtgmnojnalkhepaaGreatDoorJU
import Derived.Test.YtgmnojnalkhepaaGreatDoorJH
import Derived.Deep.RegionHeld3
import Derived.Test.YtgmnojnalkhepaaGreatDoorJI
import Derived.Test.YtgmnojnalkhepaaGreatDoorJE
/-
  A module's text in plain words: nothing of the program here.
-/
namespace Go.Proofs.YtgmnojnalkhepaaGreatDoor
open Go.RowKit
set_option linter.unusedVariables false
set_option linter.unusedSimpArgs false
set_option maxRecDepth 100000

/-- a name in a list of names: with a comma ahead of it, but for the first -/
def cms (f : Nat → ByteArray) (k : Nat) : List UInt8 := (if 0 < k then [44] else []) ++ (32 :: (f k).data.toList)
def IM.txt (i : IM) : List UInt8 := catL (cms i.nm.f) i.nm.n ++ ([32, 70, 82, 79, 77, 32] ++ i.fr.data.toList)
def DF.txt (d : DF) : List UInt8 := d.name.data.toList ++ ([32, 58, 58, 61, 32] ++ (d.t.txt ++ [10]))
def hdT (name : ByteArray) (auto : Bool) : List UInt8 := name.data.toList ++ ([32, 68, 69, 70, 73, 78, 73, 84, 73, 79, 78, 83] ++ ((if auto then [32, 65, 85, 84, 79, 77, 65, 84, 73, 67, 32, 84, 65, 71, 83] else []) ++ [32, 58, 58, 61, 32, 66, 69, 71, 73, 78, 10]))
def impT (f : Nat → IM) (n : Nat) : List UInt8 := if 0 < n then [73, 77, 80, 79, 82, 84, 83] ++ (catL (fun i => (f i).txt) n ++ [59, 10]) else []
def MT.txt (m : MT) : List UInt8 := hdT m.name m.auto ++ (impT m.im m.ni ++ (catL (fun i => (m.df i).txt) m.nd ++ [69, 78, 68, 10]))
def MT.text (m : MT) : List UInt8 := if m.ok = true then m.txt else []
theorem joinTail_snoc (sep : List UInt8) (r : List (List UInt8)) (y : List UInt8) : Lib.joinTail sep (r ++ [y]) = Lib.joinTail sep r ++ (sep ++ y) := by
  simp [Lib.joinTail]
theorem join_snoc (sep : List UInt8) (xs : List (List UInt8)) (y : List UInt8) (h : xs ≠ []) : Lib.join (xs ++ [y]) sep = Lib.join xs sep ++ (sep ++ y) := by
  cases xs with
  | nil => exact absurd rfl h
  | cons x r => rw [List.cons_append, Lib.join_cons, Lib.join_cons, joinTail_snoc, List.append_assoc]
theorem range_map_succ (f : Nat → List UInt8) (n : Nat) : (List.range (n + 1)).map f = (List.range n).map f ++ [f n] := by
  rw [List.range_succ, List.map_append]
  rfl
/-- the names joined by a comma and a space, with a space ahead: the document's way of writing them -/
theorem join_cms (f : Nat → ByteArray) : ∀ n, 0 < n → 32 :: Lib.join ((List.range n).map fun k => (f k).data.toList) [44, 32] = catL (cms f) n
  | 0, h => absurd h (Nat.lt_irrefl 0)
  | 1, _ => by
    rw [show (List.range 1).map (fun k => (f k).data.toList) = [(f 0).data.toList] from rfl, Lib.join_one]
    simp [catL, cms]
  | n + 2, _ => by
    have ih := join_cms f (n + 1) (by omega)
    rw [range_map_succ, join_snoc _ _ _ (by simp [List.range_succ]), ← List.cons_append, ih]
    show _ = catL (cms f) (n + 1) ++ cms f (n + 1)
    unfold cms
    rw [if_pos (by omega)]
    simp
end Go.Proofs.YtgmnojnalkhepaaGreatDoor

/-
  Package shape's writer: 'imports'.
-/
namespace Go.Proofs.YtgmnojnalkhepaaGreatDoor
open Go.RowKit
set_option linter.unusedVariables false
set_option linter.unusedSimpArgs false
set_option maxRecDepth 100000

theorem put4_ok (w0 : World) (b : Nat) (l t1 t2 t3 t4 : List UInt8) (w : World) (cap : Nat) (hw : Wr w0.heap.size b l w) (hB : w0.heap.size ≤ w.heap.size) (hlen : l.length + (t1 ++ (t2 ++ (t3 ++ t4))).length ≤ 140737488355328) :
    Calls Tryz.prog 36 #[.pointer (some ⟨b, 0, none⟩), .slice (some ⟨w.heap.size, 0, none⟩) 4 cap] (w.alloc (.cells #[.string (bs t1), .string (bs t2), .string (bs t3), .string (bs t4)] 9)) fun e w' => Adds w0 w b l (t1 ++ (t2 ++ (t3 ++ t4))) e w' := by
  have hb : Below w.heap.size w (w.alloc (.cells #[.string (bs t1), .string (bs t2), .string (bs t3), .string (bs t4)] 9)) := (Below.refl _ _).alloc (Nat.le_refl _) _
  have hc : catN (fun i => bs ([t1, t2, t3, t4].getD i [])) 4 = t1 ++ (t2 ++ (t3 ++ t4)) := by simp [catN, bs_list]
  refine (put_ok w0.heap.size b l _ w.heap.size 4 cap (fun i => bs ([t1, t2, t3, t4].getD i [])) (hw.below hb) (Nat.le_trans hB hb.size) (StrRow.new w _ 4 _ (fun i hi => by
    match i, hi with
    | 0, _ => rfl
    | 1, _ => rfl
    | 2, _ => rfl
    | 3, _ => rfl)) (by have := hw.lt; omega) (by omega) (by rw [hc]; exact hlen)).mono ?_
  rintro e w' ⟨rfl, h1, h2, h3⟩
  rw [hc] at h1
  exact ⟨rfl, h1, (hb.mono hB).trans h2, (kept_below hb).trans h3⟩
theorem put4_at (w0 : World) (b : Nat) (l t1 t2 t3 t4 : List UInt8) (w : World) (g cap : Nat) (hgw : w.heap.size = g) (hw : Wr w0.heap.size b l w) (hB : w0.heap.size ≤ w.heap.size) (hlen : l.length + (t1 ++ (t2 ++ (t3 ++ t4))).length ≤ 140737488355328) :
    Calls Tryz.prog 36 #[.pointer (some ⟨b, 0, none⟩), .slice (some ⟨g, 0, none⟩) 4 cap] (w.alloc (.cells #[.string (bs t1), .string (bs t2), .string (bs t3), .string (bs t4)] 9)) fun e w' => Adds w0 w b l (t1 ++ (t2 ++ (t3 ++ t4))) e w' := by
  subst hgw
  exact put4_ok w0 b l t1 t2 t3 t4 w cap hw hB hlen
/-- the names joined -/
def joinT (s : SL) : List UInt8 := Lib.join ((List.range s.n).map fun k => (s.f k).data.toList) [44, 32]
theorem joinT_cms (s : SL) (h : 0 < s.n) : 32 :: joinT s = catL (cms s.f) s.n := join_cms s.f s.n h
theorem join_ok (B : Nat) (W : World) (s : SL) (h : SLIn B W s) (hp : 0 < s.n) (w : World) (hb : Below B W w) (hB : B ≤ w.heap.size) (hl : (joinT s).length ≤ 140737488355328) :
    Calls Tryz.prog 73 #[.slice s.a s.n s.cap, .string (bs [44, 32])] w fun e w' => e = .returned (.string (bs (joinT s))) ∧ Below w.heap.size w w' := by
  obtain ⟨⟨h1, h2, h3, h4⟩, _⟩ := h
  obtain ⟨g, o, ha, hg, hc⟩ := h4 hp
  have hx : ((List.range s.n).map s.f).length = s.n := by rw [List.length_map, List.length_range]
  have hm : (((List.range s.n).map s.f).map (·.data.toList)) = (List.range s.n).map fun k => (s.f k).data.toList := by rw [List.map_map]; rfl
  have hj := Tryz.strings_Join g o s.cap ((List.range s.n).map s.f) (bs [44, 32]) w (fun j x hx2 => by
    rw [List.getElem?_map] at hx2
    rcases Nat.lt_or_ge j s.n with hlt | hge
    · rw [List.getElem?_range hlt] at hx2
      injection hx2 with hx3
      have h5 := hc j hlt 0 _ rfl
      rw [Nat.mul_one, Nat.add_zero] at h5
      rw [← hx3, hb.cell (p := ⟨g, o + j, none⟩) (by show g < B; omega)]
      exact h5
    · rw [List.getElem?_eq_none (by rw [List.length_range]; omega)] at hx2
      cases hx2) (by omega) (by rw [hx]; omega) (by rw [hx]; exact h1) (by rw [hm, bs_list]; exact hl)
  rw [hx, hm, bs_list] at hj
  rw [ha]
  exact hj
def RelImp (w0 w : World) (b : Nat) (l : List UInt8) (f : Nat → List UInt8) (n : Nat) (iv : Value) (wr : World) : Prop :=
  ∃ i : Nat, i ≤ n ∧ iv = .int .i64 (i : Nat) ∧ Wr w0.heap.size b (l ++ catL f i) wr ∧ Below w0.heap.size w wr ∧ Lib.OthersKept 5 (some b) w wr
set_option maxHeartbeats 4000000 in
theorem imports_ok (w0 : World) (a : Option Addr) (n cap : Nat) (f : Nat → IM) (hrow : RowAt w0.heap.size w0 a n cap 2 (fun i => (f i).cells)) (hin : ∀ i, i < n → IMIn w0.heap.size w0 (f i)) (hpos : ∀ i, i < n → 0 < (f i).nm.n) :
    Writes w0 37 (.slice a n cap) ([73, 77, 80, 79, 82, 84, 83] ++ (catL (fun i => (f i).txt) n ++ [59, 10])) := by
  intro b l w h0 hw hlen
  have hn : n ≤ 9223372036854775807 := by have := hrow.1; have := hrow.2.1; omega
  obtain ⟨F, hF⟩ : ∃ F, (fun i => (f i).txt) = F := ⟨_, rfl⟩
  rw [hF] at hlen ⊢
  have HF := Lib.hid (show ∀ i, F i = (f i).txt from fun i => by rw [← hF])
  have HL := Lib.hid hlen
  have H0 := Lib.hid h0
  have HROW := Lib.hid hrow
  have HIN := Lib.hid hin
  have HPOS := Lib.hid hpos
  have HP := Lib.hid (put1_at w0 b l [73, 77, 80, 79, 82, 84, 83] w w.heap.size 1 rfl hw h0.size (by simp at hlen ⊢; omega))
  clear hlen hF h0 hw hrow hin hpos
  go_enter Tryz.func37, Tryz.ntmps37
  go_wp2_with fail
  refine HP.out.mono ?_
  rintro e w1 ha
  have HA1 := Lib.hid ha
  have HB1 := Lib.hid (H0.out.trans ha.2.2.1)
  have HW1 := Lib.hid ha.2.1
  obtain ⟨rfl, _⟩ := ha
  clear HP
  go_wp2_with fail
  go_loopw [11] (fun iv wr => RelImp w0 w1 b (l ++ [73, 77, 80, 79, 82, 84, 83]) F n iv wr) (fun iv _ => n - (Lib.intOf iv).toNat)
  case atStart => exact ⟨0, Nat.zero_le _, rfl, by simp only [catL, List.append_nil]; exact HW1.out, Below.refl _ _, Lib.OthersKept.refl _ _ _⟩
  case round =>
    obtain ⟨i, hi0, rfl, hwr, hbel, hkp⟩ := hrel
    have HWR := Lib.hid hwr
    have HB := Lib.hid hbel
    have HK := Lib.hid hkp
    have HBB := Lib.hid (HB1.out.trans hbel)
    have hsz := (HB1.out.trans hbel).size
    have hbl := hwr.lt
    by_cases hlt : i < n
    · have q2 : decide ((i : Int) < (n : Int)) = true := decide_eq_true (by omega)
      have q2n : decide (i < n) = true := decide_eq_true hlt
      have q3 : IntKind.i64.wrap ((i : Int) + 1) = ((i + 1 : Nat) : Int) := wrap_succ hlt hn
      obtain ⟨gx, ox, hix, hgx, hrd⟩ := iRow_read HROW.out hlt
      obtain ⟨k0, k1⟩ := hrd wr (HBB.out.block gx hgx)
      have HFI := HF.out i
      have hsl := (HIN.out i hlt).1
      have hps := HPOS.out i hlt
      have hl2 : (l ++ [73, 77, 80, 79, 82, 84, 83] ++ catL F i).length + (F i).length + 100 ≤ 140737488355328 := by
        have e1 := catL_mono (f := F) (n := n) (i := i + 1) (by omega)
        have e2 := HL.out
        simp only [catL, List.length_append] at e1 e2 ⊢
        omega
      obtain ⟨x, hx⟩ : ∃ x, f i = x := ⟨_, rfl⟩
      rw [hx] at HFI hsl hps k0 k1
      clear hrd hx
      obtain ⟨⟨na, nn, nc, nf⟩, fr⟩ := x
      obtain ⟨J, hJ⟩ : ∃ J, joinT ⟨na, nn, nc, nf⟩ = J := ⟨_, rfl⟩
      have hFi : F i = [32] ++ (J ++ ([32, 70, 82, 79, 77, 32] ++ fr.data.toList)) := by
        rw [HFI, ← hJ]
        show catL (cms nf) nn ++ _ = _
        rw [← joinT_cms ⟨na, nn, nc, nf⟩ hps]
        simp
      clear HFI
      rw [hFi] at hl2
      have hLJ : J.length ≤ 140737488355328 := by
        simp only [List.length_append] at hl2
        omega
      have HBA := Lib.hid (show Below wr.heap.size wr (wr.alloc (.cells #[.slice na nn nc, .string fr] 52)) from (Below.refl _ _).alloc (Nat.le_refl _) _)
      have HX := Lib.hid (Bx.new wr #[.slice na nn nc, .string fr] 52)
      have HWA := Lib.hid (hwr.below HBA.out)
      have HBW := Lib.hid (HBB.out.trans (HBA.out.mono hsz))
      have hgb : wr.heap.size ≠ b := by omega
      have HXO := Lib.hid (fun (W' : World) (hb : Bx W' wr.heap.size #[.slice na nn nc, .string fr] 52) => And.intro (hb.cell 0 (v := .slice na nn nc) rfl) (hb.cell 1 (v := .string fr) rfl))
      have k0' : wr.cell? ⟨gx, ox, none⟩ = some (.slice na nn nc) := k0
      have k1' : wr.cell? ⟨gx, ox + 1, none⟩ = some (.string fr) := k1
      clear k0 k1
      go_wp2_with fail
      generalize wr.alloc (.cells #[.slice na nn nc, .string fr] 52) = W at *
      obtain ⟨g, hg⟩ : ∃ g, wr.heap.size = g := ⟨_, rfl⟩
      rw [hg] at HX HXO hgb ⊢
      have HBd := Lib.hid (Below.drew (Below.refl W.heap.size W))
      have HSX := Lib.hid (fun (W' : World) (hb : Below W.heap.size W W') => HX.out.below hb HX.out.lt)
      have HS0 := Lib.hid (HXO.out _ (HSX.out _ HBd.out))
      have HJ := Lib.hid (fun (W' : World) (hb : Below W.heap.size W W') => hJ ▸ join_ok w0.heap.size w0 ⟨na, nn, nc, nf⟩ hsl hps W' (HBW.out.trans (hb.mono HBW.out.size)) (Nat.le_trans HBW.out.size hb.size) (by rw [hJ]; exact hLJ))
      have HPUT := Lib.hid (fun (W' : World) (hb : Below W.heap.size W W') => (bs_data fr) ▸ put4_at w0 b _ [32] J [32, 70, 82, 79, 77, 32] fr.data.toList W' W'.heap.size 4 rfl (HWA.out.below hb) (Nat.le_trans HBW.out.size hb.size) (by omega))
      have HFI := Lib.hid hFi
      clear hJ hsl hps hl2 hLJ hwr hbel hkp k0' k1' hFi
      go_region_held3 (fun w' => w'.cell? ⟨g, 0, none⟩ = some (.slice na nn nc) ∧ w'.cell? ⟨g, 1, none⟩ = some (.string fr)) (first | with_reducible exact HS4.out | with_reducible exact HSA.out _ | with_reducible exact HS3.out | with_reducible exact HS0.out) (first
        | (go_at_call 73; refine (HJ.out _ HBd.out).mono ?_; rintro e w3 ⟨rfl, hb⟩; have HB3 := Lib.hid (HBd.out.trans (hb.mono HBd.out.size)); have HS3 := Lib.hid (HXO.out _ (HSX.out w3 HB3.out)); have HSA := Lib.hid (fun o => HXO.out (w3.alloc o) ((HSX.out w3 HB3.out).alloc o)); clear hb)
        | (go_at_call 36; refine (HPUT.out _ HB3.out).mono ?_; rintro e w4 ha; have HA := Lib.hid (Adds.from (HBA.out.trans (HB3.out.mono HBA.out.size)) hsz ha); have HS4 := Lib.hid (HXO.out w4 ((HSX.out w3 HB3.out).kept ha.2.2.2 hgb (by decide))); obtain ⟨rfl, _⟩ := ha))
      all_goals go_wp2_with fail
      all_goals go_roundw
      all_goals first
        | exact ⟨i + 1, hlt, rfl, by have h3 := HA.out.wr; simp only [catL]; rw [HFI.out, ← List.append_assoc]; exact h3, HB.out.trans HA.out.2.2.1, HK.out.trans HA.out.2.2.2⟩
        | (simp only [Lib.intOf]; omega)
    · have q2 : decide ((i : Int) < (n : Int)) = false := decide_eq_false (by omega)
      have q2n : decide (i < n) = false := decide_eq_false hlt
      obtain rfl : i = n := by omega
      clear hbel hkp
      have HP := Lib.hid (put1_at w0 b _ [59, 10] wr wr.heap.size 1 rfl hwr hsz (by have := HL.out; simp at this ⊢; omega))
      clear hwr
      go_wp2_with fail
      refine HP.out.mono ?_
      rintro e w2 ha
      have HA2 := Lib.hid ha
      obtain ⟨rfl, _⟩ := ha
      go_wp2_with fail
      go_end0
      have h3 := HA2.out.wr
      exact ⟨rfl, by simp only [List.append_assoc] at h3 ⊢; exact h3, HA1.out.2.2.1.trans (HB.out.trans HA2.out.2.2.1), HA1.out.2.2.2.trans (HK.out.trans HA2.out.2.2.2)⟩
end Go.Proofs.YtgmnojnalkhepaaGreatDoor

/-
  Package shape's writer: 'module'.
-/
namespace Go.Proofs.YtgmnojnalkhepaaGreatDoor
open Go.RowKit
set_option linter.unusedVariables false
set_option linter.unusedSimpArgs false
set_option maxRecDepth 100000

/-- what the writer asks of a module -/
def MQ (m : MT) : Prop := (∀ i, i < m.ni → 0 < (m.im i).nm.n) ∧ ∀ i, i < m.nd → TQ (m.df i).t
set_option maxHeartbeats 8000000 in
theorem module_ok (w0 : World) (hgs : Gs w0) (m : MT) (hm : MIn w0.heap.size w0 m) (hq : MQ m) : Writes w0 23 (.agg m.cells.toArray) m.txt := by
  intro b l w h0 hw hlen
  obtain ⟨name, auto, ia, ni, icap, im, da, nd, dcap, df⟩ := m
  obtain ⟨hnm, ⟨hir, hin⟩, ⟨hdr, hdn⟩⟩ := hm
  have HIM := Lib.hid (imports_ok w0 ia ni icap im hir hin hq.1)
  have HTYP := Lib.hid (fun i (hi : i < nd) => typ_ok w0 hgs (df i).t (hdn i hi).2 (hq.2 i hi))
  have HIN := Lib.hid (show ∀ i, i < nd → DFIn w0.heap.size w0 (df i) from hdn)
  have HROW := Lib.hid (show RowAt w0.heap.size w0 da nd dcap 16 (fun i => (df i).cells) from hdr)
  have HND := Lib.hid (show nd ≤ 9223372036854775807 by have h1 := hdr.1; have h2 := hdr.2.1; dsimp only at h1 h2; omega)
  obtain ⟨F, hF⟩ : ∃ F, (fun i => (df i).txt) = F := ⟨_, rfl⟩
  have HF := Lib.hid (show ∀ i, F i = (df i).txt from fun i => by rw [← hF])
  obtain ⟨I, hI⟩ : ∃ I, [73, 77, 80, 79, 82, 84, 83] ++ (catL (fun i => (im i).txt) ni ++ [59, 10]) = I := ⟨_, rfl⟩
  rw [hI] at HIM
  obtain ⟨R, hR⟩ : ∃ R, (MT.mk name auto ia ni icap im da nd dcap df).txt = R := ⟨_, rfl⟩
  have hR2 : R = hdT name auto ++ ((if 0 < ni then I else []) ++ (catL F nd ++ [69, 78, 68, 10])) := by rw [← hR, ← hI, ← hF]; rfl
  rw [hR] at hlen ⊢
  have hgb : w.heap.size ≠ b := by have := hw.lt; omega
  have HSZ := Lib.hid h0.size
  clear hR hI hF hir hin hdr hdn hq hgs hnm
  cases auto with
  | true =>
    have hb1 : Below w.heap.size w (w.alloc (.cells #[.string name, .bool true, .slice ia ni icap, .slice da nd dcap] 25)) := (Below.refl _ _).alloc (Nat.le_refl _) _
    have HB1 := Lib.hid hb1
    have HX0 := Lib.hid (Bx.new w #[.string name, .bool true, .slice ia ni icap, .slice da nd dcap] 25)
    have HW := Lib.hid (hw.below hb1)
    have H0 := Lib.hid (h0.trans (hb1.mono h0.size))
    have HWS := Lib.hid (show (w.alloc (.cells #[.string name, .bool true, .slice ia ni icap, .slice da nd dcap] 25)).heap.size = w.heap.size + 1 by simp)
    have c00 := HX0.out.cell 0 (v := .string name) rfl
    by_cases h1 : 0 < ni
    case pos =>
      have p1 : decide ((0 : Int) < (ni : Int)) = true := decide_eq_true (by omega)
      have p1n : decide (0 < ni) = true := decide_eq_true (by omega)
      have hR3 : R = name.data.toList ++ ([32, 68, 69, 70, 73, 78, 73, 84, 73, 79, 78, 83] ++ ([32, 65, 85, 84, 79, 77, 65, 84, 73, 67, 32, 84, 65, 71, 83] ++ [32, 58, 58, 61, 32, 66, 69, 71, 73, 78, 10])) ++ (I ++ (catL F nd ++ [69, 78, 68, 10])) := by rw [hR2, if_pos h1]; rfl
      rw [hR3] at hlen
      have HL := Lib.hid hlen
      have HR := Lib.hid hR3
      clear hlen hR2 hR3 hw h0 hb1 h1
      show Calls _ _ #[_, .agg #[.string name, .bool true, .slice ia ni icap, .slice da nd dcap]] w _
      go_enter Tryz.func23, Tryz.ntmps23
      go_wp2_with fail
      generalize w.alloc (.cells #[.string name, .bool true, .slice ia ni icap, .slice da nd dcap] 25) = W at *
      have HP := Lib.hid (put2_at w0 b l name.data.toList [32, 68, 69, 70, 73, 78, 73, 84, 73, 79, 78, 83] W _ 2 HWS.out HW.out H0.out.size (by have := HL.out; simp at this ⊢; omega))
      rw [bs_data] at HP
      refine HP.out.mono ?_
      rintro e w1 ha
      have HA1 := Lib.hid ha
      have HBB1 := Lib.hid (H0.out.trans ha.2.2.1)
      have HX1 := Lib.hid (HX0.out.kept ha.2.2.2 hgb (by decide))
      obtain ⟨rfl, _⟩ := ha
      clear HP
      have c11 := HX1.out.cell 1 (v := .bool true) rfl
      have c21 := HX1.out.cell 2 (v := .slice ia ni icap) rfl
      have c31 := HX1.out.cell 3 (v := .slice da nd dcap) rfl
      go_wp2_with fail
      refine (put1_at w0 b _ [32, 65, 85, 84, 79, 77, 65, 84, 73, 67, 32, 84, 65, 71, 83] w1 _ _ rfl HA1.out.wr HBB1.out.size (by have := HL.out; simp at this ⊢; omega)).mono ?_
      rintro e w2 ha
      have HA2 := Lib.hid (HA1.out.step ha)
      have HBB2 := Lib.hid (HBB1.out.trans ha.2.2.1)
      have HX2 := Lib.hid (HX1.out.kept ha.2.2.2 hgb (by decide))
      obtain ⟨rfl, _⟩ := ha
      clear c11 c21 c31
      have c12 := HX2.out.cell 1 (v := .bool true) rfl
      have c22 := HX2.out.cell 2 (v := .slice ia ni icap) rfl
      have c32 := HX2.out.cell 3 (v := .slice da nd dcap) rfl
      go_wp2_with fail
      refine (put1_at w0 b _ [32, 58, 58, 61, 32, 66, 69, 71, 73, 78, 10] w2 _ _ rfl HA2.out.wr HBB2.out.size (by have := HL.out; simp at this ⊢; omega)).mono ?_
      rintro e w3 ha
      have HA3 := Lib.hid (HA2.out.step ha)
      have HBB3 := Lib.hid (HBB2.out.trans ha.2.2.1)
      have HX3 := Lib.hid (HX2.out.kept ha.2.2.2 hgb (by decide))
      obtain ⟨rfl, _⟩ := ha
      clear c12 c22 c32
      have c13 := HX3.out.cell 1 (v := .bool true) rfl
      have c23 := HX3.out.cell 2 (v := .slice ia ni icap) rfl
      have c33 := HX3.out.cell 3 (v := .slice da nd dcap) rfl
      go_wp2_with fail
      refine (HIM.out b _ w3 HBB3.out HA3.out.wr (by have := HL.out; simp at this ⊢; omega)).mono ?_
      rintro e w4 ha
      have HA4 := Lib.hid (HA3.out.step ha)
      have HBB4 := Lib.hid (HBB3.out.trans ha.2.2.1)
      have HX4 := Lib.hid (HX3.out.kept ha.2.2.2 hgb (by decide))
      obtain ⟨rfl, _⟩ := ha
      clear c13 c23 c33
      have c14 := HX4.out.cell 1 (v := .bool true) rfl
      have c24 := HX4.out.cell 2 (v := .slice ia ni icap) rfl
      have c34 := HX4.out.cell 3 (v := .slice da nd dcap) rfl
      go_wp2_with fail
      clear c14 c24 c34
      obtain ⟨L0, hL0⟩ : ∃ L0, L0 = ((((name.data.toList ++ [32, 68, 69, 70, 73, 78, 73, 84, 73, 79, 78, 83]) ++ [32, 65, 85, 84, 79, 77, 65, 84, 73, 67, 32, 84, 65, 71, 83]) ++ [32, 58, 58, 61, 32, 66, 69, 71, 73, 78, 10]) ++ I) := ⟨_, rfl⟩
      have HWL := Lib.hid (show Wr w0.heap.size b (l ++ L0) w4 by rw [hL0]; exact HA4.out.wr)
      have HAK := Lib.hid (show Adds w0 w b l L0 (.returned (.tuple #[])) w4 from by rw [hL0]; exact HA4.out.from HB1.out HSZ.out)
      have HL2 := Lib.hid (show l.length + L0.length + (catL F nd).length + 104 ≤ 140737488355328 by have := HL.out; rw [hL0]; simp at this ⊢; omega)
      have HR2 := Lib.hid (show R = L0 ++ (catL F nd ++ [69, 78, 68, 10]) by rw [HR.out, hL0]; simp)
      clear HL HR hL0
      go_loopw [30] (fun iv wr => RelImp w0 w4 b (l ++ L0) F nd iv wr) (fun iv _ => nd - (Lib.intOf iv).toNat)
      case atStart => exact ⟨0, Nat.zero_le _, rfl, by simp only [catL, List.append_nil]; exact HWL.out, Below.refl _ _, Lib.OthersKept.refl _ _ _⟩
      case round =>
        obtain ⟨i, hi0, rfl, hwr, hbel, hkp⟩ := hrel
        have HWR := Lib.hid hwr
        have HB := Lib.hid hbel
        have HK := Lib.hid hkp
        have HBB := Lib.hid (HBB4.out.trans hbel)
        have hsz := (HBB4.out.trans hbel).size
        have hbl := hwr.lt
        by_cases hlt : i < nd
        · have q2 : decide ((i : Int) < (nd : Int)) = true := decide_eq_true (by omega)
          have q2n : decide (i < nd) = true := decide_eq_true hlt
          have q3 : IntKind.i64.wrap ((i : Int) + 1) = ((i + 1 : Nat) : Int) := wrap_succ hlt HND.out
          obtain ⟨gx, ox, hix, hgx, hrd⟩ := dRow_read HROW.out hlt
          have HR := Lib.hid (hrd wr (HBB.out.block gx hgx))
          have H1 := Lib.hid (one_dcells (HIN.out i hlt))
          have H1T := Lib.hid (one_tcells (HIN.out i hlt).2)
          have HTY := Lib.hid (HTYP.out i hlt)
          have hFi := HF.out i
          have hl2 : (l ++ L0 ++ catL F i).length + (F i).length + 100 ≤ 140737488355328 := by
            have e1 := catL_mono (f := F) (n := nd) (i := i + 1) (by omega)
            have e2 := HL2.out
            simp only [catL, List.length_append] at e1 e2 ⊢
            omega
          obtain ⟨x, hx⟩ : ∃ x, df i = x := ⟨_, rfl⟩
          rw [hx] at HR H1 H1T HTY hFi
          obtain ⟨dn, dt⟩ := x
          dsimp only at HTY H1T
          have hFj : F i = (dn.data.toList ++ [32, 58, 58, 61, 32]) ++ (dt.txt ++ [10]) := by rw [hFi]; simp [DF.txt]
          obtain ⟨T, hT⟩ : ∃ T, dt.txt = T := ⟨_, rfl⟩
          rw [hT] at HTY hFj
          rw [hFj] at hl2
          have HFI := Lib.hid hFj
          have HLL := Lib.hid hl2
          have HXD := Lib.hid (Bx.new wr (DF.mk dn dt).cells.toArray 50)
          have HBA := Lib.hid (show Below wr.heap.size wr (wr.alloc (.cells (DF.mk dn dt).cells.toArray 50)) from (Below.refl _ _).alloc (Nat.le_refl _) _)
          have HWS2 := Lib.hid (show (wr.alloc (.cells (DF.mk dn dt).cells.toArray 50)).heap.size = wr.heap.size + 1 by simp)
          have HWA := Lib.hid (hwr.below HBA.out)
          have HBW := Lib.hid (HBB.out.trans (HBA.out.mono hsz))
          have hcb : wr.heap.size ≠ b := by omega
          have d0' := HXD.out.cell 0 (v := .string dn) rfl
          clear hwr hbel hkp hrd hx hFi hFj hl2 hT
          go_wp2_with (first | (refine wpList_store_new rfl 50 (.tmp 5) (.tmp 33) rfl 16 _ (DF.mk dn dt).cells H1.out.1 (by kernel_rfl) info_D H1.out.2 rfl rfl ?_) | (refine wpList_load_mid rfl 50 (.tmp 32) rfl gx ox rfl (DF.mk dn dt).cells _ HR.out Tryz.underlying50 rfl (by rw [info_D, H1.out.1]) ?_))
          generalize wr.alloc (.cells (DF.mk dn dt).cells.toArray 50) = W2 at *
          have HP := Lib.hid (put2_at w0 b _ dn.data.toList [32, 58, 58, 61, 32] W2 _ 2 HWS2.out HWA.out HBW.out.size (by have := HLL.out; simp only [List.length_append] at this ⊢; omega))
          rw [bs_data] at HP
          refine HP.out.mono ?_
          rintro e x1 ha
          have HA := Lib.hid ha
          have HXE := Lib.hid (HXD.out.kept ha.2.2.2 hcb (by decide))
          have HBX := Lib.hid (HBW.out.trans ha.2.2.1)
          have HRT := Lib.hid (range_dt (d := ⟨dn, dt⟩) HXE.out.range)
          obtain ⟨rfl, _⟩ := ha
          clear HP d0'
          go_wp2_with (refine wpList_load_mid rfl 39 (.tmp 40) rfl wr.heap.size 1 rfl dt.cells _ HRT.out Tryz.underlying39 rfl (by rw [info_T, H1T.out.1]) ?_)
          refine (HTY.out b _ x1 HBX.out HA.out.wr (by have := HLL.out; simp only [List.length_append] at this ⊢; omega)).mono ?_
          rintro e x2 ha
          have HAB := Lib.hid (HA.out.step ha)
          have HBX2 := Lib.hid (HBX.out.trans ha.2.2.1)
          obtain ⟨rfl, _⟩ := ha
          go_wp2_with fail
          refine (put1_at w0 b _ [10] x2 _ _ rfl HAB.out.wr HBX2.out.size (by have := HLL.out; simp only [List.length_append] at this ⊢; omega)).mono ?_
          rintro e x3 ha
          have HAC := Lib.hid ((HAB.out.step ha).from HBA.out hsz)
          obtain ⟨rfl, _⟩ := ha
          go_wp2_with fail
          go_roundw
          case rel => exact ⟨i + 1, hlt, rfl, by have h3 := HAC.out.wr; simp only [catL]; rw [HFI.out]; simp only [List.append_assoc] at h3 ⊢; exact h3, HB.out.trans HAC.out.2.2.1, HK.out.trans HAC.out.2.2.2⟩
          case measure => simp only [Lib.intOf]; omega
        · have q2 : decide ((i : Int) < (nd : Int)) = false := decide_eq_false (by omega)
          have q2n : decide (i < nd) = false := decide_eq_false hlt
          obtain rfl : i = nd := by omega
          clear hwr hbel hkp
          go_wp2_with fail
          refine (put1_at w0 b _ [69, 78, 68, 10] wr _ _ rfl HWR.out hsz (by have := HL2.out; simp at this ⊢; omega)).mono ?_
          rintro e w9 ha
          have HA9 := Lib.hid ha
          obtain ⟨rfl, _⟩ := ha
          go_wp2_with fail
          go_end0
          rw [HR2.out]
          have h3 := HA9.out.wr
          exact ⟨rfl, by simp only [List.append_assoc] at h3 ⊢; exact h3, HAK.out.2.2.1.trans (HB.out.trans HA9.out.2.2.1), HAK.out.2.2.2.trans (HK.out.trans HA9.out.2.2.2)⟩
    case neg =>
      have p1 : decide ((0 : Int) < (ni : Int)) = false := decide_eq_false (by omega)
      have p1n : decide (0 < ni) = false := decide_eq_false (by omega)
      have hR3 : R = name.data.toList ++ ([32, 68, 69, 70, 73, 78, 73, 84, 73, 79, 78, 83] ++ ([32, 65, 85, 84, 79, 77, 65, 84, 73, 67, 32, 84, 65, 71, 83] ++ [32, 58, 58, 61, 32, 66, 69, 71, 73, 78, 10])) ++ ([] ++ (catL F nd ++ [69, 78, 68, 10])) := by rw [hR2, if_neg h1]; rfl
      rw [hR3] at hlen
      have HL := Lib.hid hlen
      have HR := Lib.hid hR3
      clear hlen hR2 hR3 hw h0 hb1 h1
      show Calls _ _ #[_, .agg #[.string name, .bool true, .slice ia ni icap, .slice da nd dcap]] w _
      go_enter Tryz.func23, Tryz.ntmps23
      go_wp2_with fail
      generalize w.alloc (.cells #[.string name, .bool true, .slice ia ni icap, .slice da nd dcap] 25) = W at *
      have HP := Lib.hid (put2_at w0 b l name.data.toList [32, 68, 69, 70, 73, 78, 73, 84, 73, 79, 78, 83] W _ 2 HWS.out HW.out H0.out.size (by have := HL.out; simp at this ⊢; omega))
      rw [bs_data] at HP
      refine HP.out.mono ?_
      rintro e w1 ha
      have HA1 := Lib.hid ha
      have HBB1 := Lib.hid (H0.out.trans ha.2.2.1)
      have HX1 := Lib.hid (HX0.out.kept ha.2.2.2 hgb (by decide))
      obtain ⟨rfl, _⟩ := ha
      clear HP
      have c11 := HX1.out.cell 1 (v := .bool true) rfl
      have c21 := HX1.out.cell 2 (v := .slice ia ni icap) rfl
      have c31 := HX1.out.cell 3 (v := .slice da nd dcap) rfl
      go_wp2_with fail
      refine (put1_at w0 b _ [32, 65, 85, 84, 79, 77, 65, 84, 73, 67, 32, 84, 65, 71, 83] w1 _ _ rfl HA1.out.wr HBB1.out.size (by have := HL.out; simp at this ⊢; omega)).mono ?_
      rintro e w2 ha
      have HA2 := Lib.hid (HA1.out.step ha)
      have HBB2 := Lib.hid (HBB1.out.trans ha.2.2.1)
      have HX2 := Lib.hid (HX1.out.kept ha.2.2.2 hgb (by decide))
      obtain ⟨rfl, _⟩ := ha
      clear c11 c21 c31
      have c12 := HX2.out.cell 1 (v := .bool true) rfl
      have c22 := HX2.out.cell 2 (v := .slice ia ni icap) rfl
      have c32 := HX2.out.cell 3 (v := .slice da nd dcap) rfl
      go_wp2_with fail
      refine (put1_at w0 b _ [32, 58, 58, 61, 32, 66, 69, 71, 73, 78, 10] w2 _ _ rfl HA2.out.wr HBB2.out.size (by have := HL.out; simp at this ⊢; omega)).mono ?_
      rintro e w3 ha
      have HA3 := Lib.hid (HA2.out.step ha)
      have HBB3 := Lib.hid (HBB2.out.trans ha.2.2.1)
      have HX3 := Lib.hid (HX2.out.kept ha.2.2.2 hgb (by decide))
      obtain ⟨rfl, _⟩ := ha
      clear c12 c22 c32
      have c13 := HX3.out.cell 1 (v := .bool true) rfl
      have c23 := HX3.out.cell 2 (v := .slice ia ni icap) rfl
      have c33 := HX3.out.cell 3 (v := .slice da nd dcap) rfl
      go_wp2_with fail
      clear c13 c23 c33
      obtain ⟨L0, hL0⟩ : ∃ L0, L0 = (((name.data.toList ++ [32, 68, 69, 70, 73, 78, 73, 84, 73, 79, 78, 83]) ++ [32, 65, 85, 84, 79, 77, 65, 84, 73, 67, 32, 84, 65, 71, 83]) ++ [32, 58, 58, 61, 32, 66, 69, 71, 73, 78, 10]) := ⟨_, rfl⟩
      have HWL := Lib.hid (show Wr w0.heap.size b (l ++ L0) w3 by rw [hL0]; exact HA3.out.wr)
      have HAK := Lib.hid (show Adds w0 w b l L0 (.returned (.tuple #[])) w3 from by rw [hL0]; exact HA3.out.from HB1.out HSZ.out)
      have HL2 := Lib.hid (show l.length + L0.length + (catL F nd).length + 104 ≤ 140737488355328 by have := HL.out; rw [hL0]; simp at this ⊢; omega)
      have HR2 := Lib.hid (show R = L0 ++ (catL F nd ++ [69, 78, 68, 10]) by rw [HR.out, hL0]; simp)
      clear HL HR hL0
      go_loopw [30] (fun iv wr => RelImp w0 w3 b (l ++ L0) F nd iv wr) (fun iv _ => nd - (Lib.intOf iv).toNat)
      case atStart => exact ⟨0, Nat.zero_le _, rfl, by simp only [catL, List.append_nil]; exact HWL.out, Below.refl _ _, Lib.OthersKept.refl _ _ _⟩
      case round =>
        obtain ⟨i, hi0, rfl, hwr, hbel, hkp⟩ := hrel
        have HWR := Lib.hid hwr
        have HB := Lib.hid hbel
        have HK := Lib.hid hkp
        have HBB := Lib.hid (HBB3.out.trans hbel)
        have hsz := (HBB3.out.trans hbel).size
        have hbl := hwr.lt
        by_cases hlt : i < nd
        · have q2 : decide ((i : Int) < (nd : Int)) = true := decide_eq_true (by omega)
          have q2n : decide (i < nd) = true := decide_eq_true hlt
          have q3 : IntKind.i64.wrap ((i : Int) + 1) = ((i + 1 : Nat) : Int) := wrap_succ hlt HND.out
          obtain ⟨gx, ox, hix, hgx, hrd⟩ := dRow_read HROW.out hlt
          have HR := Lib.hid (hrd wr (HBB.out.block gx hgx))
          have H1 := Lib.hid (one_dcells (HIN.out i hlt))
          have H1T := Lib.hid (one_tcells (HIN.out i hlt).2)
          have HTY := Lib.hid (HTYP.out i hlt)
          have hFi := HF.out i
          have hl2 : (l ++ L0 ++ catL F i).length + (F i).length + 100 ≤ 140737488355328 := by
            have e1 := catL_mono (f := F) (n := nd) (i := i + 1) (by omega)
            have e2 := HL2.out
            simp only [catL, List.length_append] at e1 e2 ⊢
            omega
          obtain ⟨x, hx⟩ : ∃ x, df i = x := ⟨_, rfl⟩
          rw [hx] at HR H1 H1T HTY hFi
          obtain ⟨dn, dt⟩ := x
          dsimp only at HTY H1T
          have hFj : F i = (dn.data.toList ++ [32, 58, 58, 61, 32]) ++ (dt.txt ++ [10]) := by rw [hFi]; simp [DF.txt]
          obtain ⟨T, hT⟩ : ∃ T, dt.txt = T := ⟨_, rfl⟩
          rw [hT] at HTY hFj
          rw [hFj] at hl2
          have HFI := Lib.hid hFj
          have HLL := Lib.hid hl2
          have HXD := Lib.hid (Bx.new wr (DF.mk dn dt).cells.toArray 50)
          have HBA := Lib.hid (show Below wr.heap.size wr (wr.alloc (.cells (DF.mk dn dt).cells.toArray 50)) from (Below.refl _ _).alloc (Nat.le_refl _) _)
          have HWS2 := Lib.hid (show (wr.alloc (.cells (DF.mk dn dt).cells.toArray 50)).heap.size = wr.heap.size + 1 by simp)
          have HWA := Lib.hid (hwr.below HBA.out)
          have HBW := Lib.hid (HBB.out.trans (HBA.out.mono hsz))
          have hcb : wr.heap.size ≠ b := by omega
          have d0' := HXD.out.cell 0 (v := .string dn) rfl
          clear hwr hbel hkp hrd hx hFi hFj hl2 hT
          go_wp2_with (first | (refine wpList_store_new rfl 50 (.tmp 5) (.tmp 33) rfl 16 _ (DF.mk dn dt).cells H1.out.1 (by kernel_rfl) info_D H1.out.2 rfl rfl ?_) | (refine wpList_load_mid rfl 50 (.tmp 32) rfl gx ox rfl (DF.mk dn dt).cells _ HR.out Tryz.underlying50 rfl (by rw [info_D, H1.out.1]) ?_))
          generalize wr.alloc (.cells (DF.mk dn dt).cells.toArray 50) = W2 at *
          have HP := Lib.hid (put2_at w0 b _ dn.data.toList [32, 58, 58, 61, 32] W2 _ 2 HWS2.out HWA.out HBW.out.size (by have := HLL.out; simp only [List.length_append] at this ⊢; omega))
          rw [bs_data] at HP
          refine HP.out.mono ?_
          rintro e x1 ha
          have HA := Lib.hid ha
          have HXE := Lib.hid (HXD.out.kept ha.2.2.2 hcb (by decide))
          have HBX := Lib.hid (HBW.out.trans ha.2.2.1)
          have HRT := Lib.hid (range_dt (d := ⟨dn, dt⟩) HXE.out.range)
          obtain ⟨rfl, _⟩ := ha
          clear HP d0'
          go_wp2_with (refine wpList_load_mid rfl 39 (.tmp 40) rfl wr.heap.size 1 rfl dt.cells _ HRT.out Tryz.underlying39 rfl (by rw [info_T, H1T.out.1]) ?_)
          refine (HTY.out b _ x1 HBX.out HA.out.wr (by have := HLL.out; simp only [List.length_append] at this ⊢; omega)).mono ?_
          rintro e x2 ha
          have HAB := Lib.hid (HA.out.step ha)
          have HBX2 := Lib.hid (HBX.out.trans ha.2.2.1)
          obtain ⟨rfl, _⟩ := ha
          go_wp2_with fail
          refine (put1_at w0 b _ [10] x2 _ _ rfl HAB.out.wr HBX2.out.size (by have := HLL.out; simp only [List.length_append] at this ⊢; omega)).mono ?_
          rintro e x3 ha
          have HAC := Lib.hid ((HAB.out.step ha).from HBA.out hsz)
          obtain ⟨rfl, _⟩ := ha
          go_wp2_with fail
          go_roundw
          case rel => exact ⟨i + 1, hlt, rfl, by have h3 := HAC.out.wr; simp only [catL]; rw [HFI.out]; simp only [List.append_assoc] at h3 ⊢; exact h3, HB.out.trans HAC.out.2.2.1, HK.out.trans HAC.out.2.2.2⟩
          case measure => simp only [Lib.intOf]; omega
        · have q2 : decide ((i : Int) < (nd : Int)) = false := decide_eq_false (by omega)
          have q2n : decide (i < nd) = false := decide_eq_false hlt
          obtain rfl : i = nd := by omega
          clear hwr hbel hkp
          go_wp2_with fail
          refine (put1_at w0 b _ [69, 78, 68, 10] wr _ _ rfl HWR.out hsz (by have := HL2.out; simp at this ⊢; omega)).mono ?_
          rintro e w9 ha
          have HA9 := Lib.hid ha
          obtain ⟨rfl, _⟩ := ha
          go_wp2_with fail
          go_end0
          rw [HR2.out]
          have h3 := HA9.out.wr
          exact ⟨rfl, by simp only [List.append_assoc] at h3 ⊢; exact h3, HAK.out.2.2.1.trans (HB.out.trans HA9.out.2.2.1), HAK.out.2.2.2.trans (HK.out.trans HA9.out.2.2.2)⟩
  | false =>
    have hb1 : Below w.heap.size w (w.alloc (.cells #[.string name, .bool false, .slice ia ni icap, .slice da nd dcap] 25)) := (Below.refl _ _).alloc (Nat.le_refl _) _
    have HB1 := Lib.hid hb1
    have HX0 := Lib.hid (Bx.new w #[.string name, .bool false, .slice ia ni icap, .slice da nd dcap] 25)
    have HW := Lib.hid (hw.below hb1)
    have H0 := Lib.hid (h0.trans (hb1.mono h0.size))
    have HWS := Lib.hid (show (w.alloc (.cells #[.string name, .bool false, .slice ia ni icap, .slice da nd dcap] 25)).heap.size = w.heap.size + 1 by simp)
    have c00 := HX0.out.cell 0 (v := .string name) rfl
    by_cases h1 : 0 < ni
    case pos =>
      have p1 : decide ((0 : Int) < (ni : Int)) = true := decide_eq_true (by omega)
      have p1n : decide (0 < ni) = true := decide_eq_true (by omega)
      have hR3 : R = name.data.toList ++ ([32, 68, 69, 70, 73, 78, 73, 84, 73, 79, 78, 83] ++ ([] ++ [32, 58, 58, 61, 32, 66, 69, 71, 73, 78, 10])) ++ (I ++ (catL F nd ++ [69, 78, 68, 10])) := by rw [hR2, if_pos h1]; rfl
      rw [hR3] at hlen
      have HL := Lib.hid hlen
      have HR := Lib.hid hR3
      clear hlen hR2 hR3 hw h0 hb1 h1
      show Calls _ _ #[_, .agg #[.string name, .bool false, .slice ia ni icap, .slice da nd dcap]] w _
      go_enter Tryz.func23, Tryz.ntmps23
      go_wp2_with fail
      generalize w.alloc (.cells #[.string name, .bool false, .slice ia ni icap, .slice da nd dcap] 25) = W at *
      have HP := Lib.hid (put2_at w0 b l name.data.toList [32, 68, 69, 70, 73, 78, 73, 84, 73, 79, 78, 83] W _ 2 HWS.out HW.out H0.out.size (by have := HL.out; simp at this ⊢; omega))
      rw [bs_data] at HP
      refine HP.out.mono ?_
      rintro e w1 ha
      have HA1 := Lib.hid ha
      have HBB1 := Lib.hid (H0.out.trans ha.2.2.1)
      have HX1 := Lib.hid (HX0.out.kept ha.2.2.2 hgb (by decide))
      obtain ⟨rfl, _⟩ := ha
      clear HP
      have c11 := HX1.out.cell 1 (v := .bool false) rfl
      have c21 := HX1.out.cell 2 (v := .slice ia ni icap) rfl
      have c31 := HX1.out.cell 3 (v := .slice da nd dcap) rfl
      go_wp2_with fail
      refine (put1_at w0 b _ [32, 58, 58, 61, 32, 66, 69, 71, 73, 78, 10] w1 _ _ rfl HA1.out.wr HBB1.out.size (by have := HL.out; simp at this ⊢; omega)).mono ?_
      rintro e w2 ha
      have HA2 := Lib.hid (HA1.out.step ha)
      have HBB2 := Lib.hid (HBB1.out.trans ha.2.2.1)
      have HX2 := Lib.hid (HX1.out.kept ha.2.2.2 hgb (by decide))
      obtain ⟨rfl, _⟩ := ha
      clear c11 c21 c31
      have c12 := HX2.out.cell 1 (v := .bool false) rfl
      have c22 := HX2.out.cell 2 (v := .slice ia ni icap) rfl
      have c32 := HX2.out.cell 3 (v := .slice da nd dcap) rfl
      go_wp2_with fail
      refine (HIM.out b _ w2 HBB2.out HA2.out.wr (by have := HL.out; simp at this ⊢; omega)).mono ?_
      rintro e w3 ha
      have HA3 := Lib.hid (HA2.out.step ha)
      have HBB3 := Lib.hid (HBB2.out.trans ha.2.2.1)
      have HX3 := Lib.hid (HX2.out.kept ha.2.2.2 hgb (by decide))
      obtain ⟨rfl, _⟩ := ha
      clear c12 c22 c32
      have c13 := HX3.out.cell 1 (v := .bool false) rfl
      have c23 := HX3.out.cell 2 (v := .slice ia ni icap) rfl
      have c33 := HX3.out.cell 3 (v := .slice da nd dcap) rfl
      go_wp2_with fail
      clear c13 c23 c33
      obtain ⟨L0, hL0⟩ : ∃ L0, L0 = (((name.data.toList ++ [32, 68, 69, 70, 73, 78, 73, 84, 73, 79, 78, 83]) ++ [32, 58, 58, 61, 32, 66, 69, 71, 73, 78, 10]) ++ I) := ⟨_, rfl⟩
      have HWL := Lib.hid (show Wr w0.heap.size b (l ++ L0) w3 by rw [hL0]; exact HA3.out.wr)
      have HAK := Lib.hid (show Adds w0 w b l L0 (.returned (.tuple #[])) w3 from by rw [hL0]; exact HA3.out.from HB1.out HSZ.out)
      have HL2 := Lib.hid (show l.length + L0.length + (catL F nd).length + 104 ≤ 140737488355328 by have := HL.out; rw [hL0]; simp at this ⊢; omega)
      have HR2 := Lib.hid (show R = L0 ++ (catL F nd ++ [69, 78, 68, 10]) by rw [HR.out, hL0]; simp)
      clear HL HR hL0
      go_loopw [30] (fun iv wr => RelImp w0 w3 b (l ++ L0) F nd iv wr) (fun iv _ => nd - (Lib.intOf iv).toNat)
      case atStart => exact ⟨0, Nat.zero_le _, rfl, by simp only [catL, List.append_nil]; exact HWL.out, Below.refl _ _, Lib.OthersKept.refl _ _ _⟩
      case round =>
        obtain ⟨i, hi0, rfl, hwr, hbel, hkp⟩ := hrel
        have HWR := Lib.hid hwr
        have HB := Lib.hid hbel
        have HK := Lib.hid hkp
        have HBB := Lib.hid (HBB3.out.trans hbel)
        have hsz := (HBB3.out.trans hbel).size
        have hbl := hwr.lt
        by_cases hlt : i < nd
        · have q2 : decide ((i : Int) < (nd : Int)) = true := decide_eq_true (by omega)
          have q2n : decide (i < nd) = true := decide_eq_true hlt
          have q3 : IntKind.i64.wrap ((i : Int) + 1) = ((i + 1 : Nat) : Int) := wrap_succ hlt HND.out
          obtain ⟨gx, ox, hix, hgx, hrd⟩ := dRow_read HROW.out hlt
          have HR := Lib.hid (hrd wr (HBB.out.block gx hgx))
          have H1 := Lib.hid (one_dcells (HIN.out i hlt))
          have H1T := Lib.hid (one_tcells (HIN.out i hlt).2)
          have HTY := Lib.hid (HTYP.out i hlt)
          have hFi := HF.out i
          have hl2 : (l ++ L0 ++ catL F i).length + (F i).length + 100 ≤ 140737488355328 := by
            have e1 := catL_mono (f := F) (n := nd) (i := i + 1) (by omega)
            have e2 := HL2.out
            simp only [catL, List.length_append] at e1 e2 ⊢
            omega
          obtain ⟨x, hx⟩ : ∃ x, df i = x := ⟨_, rfl⟩
          rw [hx] at HR H1 H1T HTY hFi
          obtain ⟨dn, dt⟩ := x
          dsimp only at HTY H1T
          have hFj : F i = (dn.data.toList ++ [32, 58, 58, 61, 32]) ++ (dt.txt ++ [10]) := by rw [hFi]; simp [DF.txt]
          obtain ⟨T, hT⟩ : ∃ T, dt.txt = T := ⟨_, rfl⟩
          rw [hT] at HTY hFj
          rw [hFj] at hl2
          have HFI := Lib.hid hFj
          have HLL := Lib.hid hl2
          have HXD := Lib.hid (Bx.new wr (DF.mk dn dt).cells.toArray 50)
          have HBA := Lib.hid (show Below wr.heap.size wr (wr.alloc (.cells (DF.mk dn dt).cells.toArray 50)) from (Below.refl _ _).alloc (Nat.le_refl _) _)
          have HWS2 := Lib.hid (show (wr.alloc (.cells (DF.mk dn dt).cells.toArray 50)).heap.size = wr.heap.size + 1 by simp)
          have HWA := Lib.hid (hwr.below HBA.out)
          have HBW := Lib.hid (HBB.out.trans (HBA.out.mono hsz))
          have hcb : wr.heap.size ≠ b := by omega
          have d0' := HXD.out.cell 0 (v := .string dn) rfl
          clear hwr hbel hkp hrd hx hFi hFj hl2 hT
          go_wp2_with (first | (refine wpList_store_new rfl 50 (.tmp 5) (.tmp 33) rfl 16 _ (DF.mk dn dt).cells H1.out.1 (by kernel_rfl) info_D H1.out.2 rfl rfl ?_) | (refine wpList_load_mid rfl 50 (.tmp 32) rfl gx ox rfl (DF.mk dn dt).cells _ HR.out Tryz.underlying50 rfl (by rw [info_D, H1.out.1]) ?_))
          generalize wr.alloc (.cells (DF.mk dn dt).cells.toArray 50) = W2 at *
          have HP := Lib.hid (put2_at w0 b _ dn.data.toList [32, 58, 58, 61, 32] W2 _ 2 HWS2.out HWA.out HBW.out.size (by have := HLL.out; simp only [List.length_append] at this ⊢; omega))
          rw [bs_data] at HP
          refine HP.out.mono ?_
          rintro e x1 ha
          have HA := Lib.hid ha
          have HXE := Lib.hid (HXD.out.kept ha.2.2.2 hcb (by decide))
          have HBX := Lib.hid (HBW.out.trans ha.2.2.1)
          have HRT := Lib.hid (range_dt (d := ⟨dn, dt⟩) HXE.out.range)
          obtain ⟨rfl, _⟩ := ha
          clear HP d0'
          go_wp2_with (refine wpList_load_mid rfl 39 (.tmp 40) rfl wr.heap.size 1 rfl dt.cells _ HRT.out Tryz.underlying39 rfl (by rw [info_T, H1T.out.1]) ?_)
          refine (HTY.out b _ x1 HBX.out HA.out.wr (by have := HLL.out; simp only [List.length_append] at this ⊢; omega)).mono ?_
          rintro e x2 ha
          have HAB := Lib.hid (HA.out.step ha)
          have HBX2 := Lib.hid (HBX.out.trans ha.2.2.1)
          obtain ⟨rfl, _⟩ := ha
          go_wp2_with fail
          refine (put1_at w0 b _ [10] x2 _ _ rfl HAB.out.wr HBX2.out.size (by have := HLL.out; simp only [List.length_append] at this ⊢; omega)).mono ?_
          rintro e x3 ha
          have HAC := Lib.hid ((HAB.out.step ha).from HBA.out hsz)
          obtain ⟨rfl, _⟩ := ha
          go_wp2_with fail
          go_roundw
          case rel => exact ⟨i + 1, hlt, rfl, by have h3 := HAC.out.wr; simp only [catL]; rw [HFI.out]; simp only [List.append_assoc] at h3 ⊢; exact h3, HB.out.trans HAC.out.2.2.1, HK.out.trans HAC.out.2.2.2⟩
          case measure => simp only [Lib.intOf]; omega
        · have q2 : decide ((i : Int) < (nd : Int)) = false := decide_eq_false (by omega)
          have q2n : decide (i < nd) = false := decide_eq_false hlt
          obtain rfl : i = nd := by omega
          clear hwr hbel hkp
          go_wp2_with fail
          refine (put1_at w0 b _ [69, 78, 68, 10] wr _ _ rfl HWR.out hsz (by have := HL2.out; simp at this ⊢; omega)).mono ?_
          rintro e w9 ha
          have HA9 := Lib.hid ha
          obtain ⟨rfl, _⟩ := ha
          go_wp2_with fail
          go_end0
          rw [HR2.out]
          have h3 := HA9.out.wr
          exact ⟨rfl, by simp only [List.append_assoc] at h3 ⊢; exact h3, HAK.out.2.2.1.trans (HB.out.trans HA9.out.2.2.1), HAK.out.2.2.2.trans (HK.out.trans HA9.out.2.2.2)⟩
    case neg =>
      have p1 : decide ((0 : Int) < (ni : Int)) = false := decide_eq_false (by omega)
      have p1n : decide (0 < ni) = false := decide_eq_false (by omega)
      have hR3 : R = name.data.toList ++ ([32, 68, 69, 70, 73, 78, 73, 84, 73, 79, 78, 83] ++ ([] ++ [32, 58, 58, 61, 32, 66, 69, 71, 73, 78, 10])) ++ ([] ++ (catL F nd ++ [69, 78, 68, 10])) := by rw [hR2, if_neg h1]; rfl
      rw [hR3] at hlen
      have HL := Lib.hid hlen
      have HR := Lib.hid hR3
      clear hlen hR2 hR3 hw h0 hb1 h1
      show Calls _ _ #[_, .agg #[.string name, .bool false, .slice ia ni icap, .slice da nd dcap]] w _
      go_enter Tryz.func23, Tryz.ntmps23
      go_wp2_with fail
      generalize w.alloc (.cells #[.string name, .bool false, .slice ia ni icap, .slice da nd dcap] 25) = W at *
      have HP := Lib.hid (put2_at w0 b l name.data.toList [32, 68, 69, 70, 73, 78, 73, 84, 73, 79, 78, 83] W _ 2 HWS.out HW.out H0.out.size (by have := HL.out; simp at this ⊢; omega))
      rw [bs_data] at HP
      refine HP.out.mono ?_
      rintro e w1 ha
      have HA1 := Lib.hid ha
      have HBB1 := Lib.hid (H0.out.trans ha.2.2.1)
      have HX1 := Lib.hid (HX0.out.kept ha.2.2.2 hgb (by decide))
      obtain ⟨rfl, _⟩ := ha
      clear HP
      have c11 := HX1.out.cell 1 (v := .bool false) rfl
      have c21 := HX1.out.cell 2 (v := .slice ia ni icap) rfl
      have c31 := HX1.out.cell 3 (v := .slice da nd dcap) rfl
      go_wp2_with fail
      refine (put1_at w0 b _ [32, 58, 58, 61, 32, 66, 69, 71, 73, 78, 10] w1 _ _ rfl HA1.out.wr HBB1.out.size (by have := HL.out; simp at this ⊢; omega)).mono ?_
      rintro e w2 ha
      have HA2 := Lib.hid (HA1.out.step ha)
      have HBB2 := Lib.hid (HBB1.out.trans ha.2.2.1)
      have HX2 := Lib.hid (HX1.out.kept ha.2.2.2 hgb (by decide))
      obtain ⟨rfl, _⟩ := ha
      clear c11 c21 c31
      have c12 := HX2.out.cell 1 (v := .bool false) rfl
      have c22 := HX2.out.cell 2 (v := .slice ia ni icap) rfl
      have c32 := HX2.out.cell 3 (v := .slice da nd dcap) rfl
      go_wp2_with fail
      clear c12 c22 c32
      obtain ⟨L0, hL0⟩ : ∃ L0, L0 = ((name.data.toList ++ [32, 68, 69, 70, 73, 78, 73, 84, 73, 79, 78, 83]) ++ [32, 58, 58, 61, 32, 66, 69, 71, 73, 78, 10]) := ⟨_, rfl⟩
      have HWL := Lib.hid (show Wr w0.heap.size b (l ++ L0) w2 by rw [hL0]; exact HA2.out.wr)
      have HAK := Lib.hid (show Adds w0 w b l L0 (.returned (.tuple #[])) w2 from by rw [hL0]; exact HA2.out.from HB1.out HSZ.out)
      have HL2 := Lib.hid (show l.length + L0.length + (catL F nd).length + 104 ≤ 140737488355328 by have := HL.out; rw [hL0]; simp at this ⊢; omega)
      have HR2 := Lib.hid (show R = L0 ++ (catL F nd ++ [69, 78, 68, 10]) by rw [HR.out, hL0]; simp)
      clear HL HR hL0
      go_loopw [30] (fun iv wr => RelImp w0 w2 b (l ++ L0) F nd iv wr) (fun iv _ => nd - (Lib.intOf iv).toNat)
      case atStart => exact ⟨0, Nat.zero_le _, rfl, by simp only [catL, List.append_nil]; exact HWL.out, Below.refl _ _, Lib.OthersKept.refl _ _ _⟩
      case round =>
        obtain ⟨i, hi0, rfl, hwr, hbel, hkp⟩ := hrel
        have HWR := Lib.hid hwr
        have HB := Lib.hid hbel
        have HK := Lib.hid hkp
        have HBB := Lib.hid (HBB2.out.trans hbel)
        have hsz := (HBB2.out.trans hbel).size
        have hbl := hwr.lt
        by_cases hlt : i < nd
        · have q2 : decide ((i : Int) < (nd : Int)) = true := decide_eq_true (by omega)
          have q2n : decide (i < nd) = true := decide_eq_true hlt
          have q3 : IntKind.i64.wrap ((i : Int) + 1) = ((i + 1 : Nat) : Int) := wrap_succ hlt HND.out
          obtain ⟨gx, ox, hix, hgx, hrd⟩ := dRow_read HROW.out hlt
          have HR := Lib.hid (hrd wr (HBB.out.block gx hgx))
          have H1 := Lib.hid (one_dcells (HIN.out i hlt))
          have H1T := Lib.hid (one_tcells (HIN.out i hlt).2)
          have HTY := Lib.hid (HTYP.out i hlt)
          have hFi := HF.out i
          have hl2 : (l ++ L0 ++ catL F i).length + (F i).length + 100 ≤ 140737488355328 := by
            have e1 := catL_mono (f := F) (n := nd) (i := i + 1) (by omega)
            have e2 := HL2.out
            simp only [catL, List.length_append] at e1 e2 ⊢
            omega
          obtain ⟨x, hx⟩ : ∃ x, df i = x := ⟨_, rfl⟩
          rw [hx] at HR H1 H1T HTY hFi
          obtain ⟨dn, dt⟩ := x
          dsimp only at HTY H1T
          have hFj : F i = (dn.data.toList ++ [32, 58, 58, 61, 32]) ++ (dt.txt ++ [10]) := by rw [hFi]; simp [DF.txt]
          obtain ⟨T, hT⟩ : ∃ T, dt.txt = T := ⟨_, rfl⟩
          rw [hT] at HTY hFj
          rw [hFj] at hl2
          have HFI := Lib.hid hFj
          have HLL := Lib.hid hl2
          have HXD := Lib.hid (Bx.new wr (DF.mk dn dt).cells.toArray 50)
          have HBA := Lib.hid (show Below wr.heap.size wr (wr.alloc (.cells (DF.mk dn dt).cells.toArray 50)) from (Below.refl _ _).alloc (Nat.le_refl _) _)
          have HWS2 := Lib.hid (show (wr.alloc (.cells (DF.mk dn dt).cells.toArray 50)).heap.size = wr.heap.size + 1 by simp)
          have HWA := Lib.hid (hwr.below HBA.out)
          have HBW := Lib.hid (HBB.out.trans (HBA.out.mono hsz))
          have hcb : wr.heap.size ≠ b := by omega
          have d0' := HXD.out.cell 0 (v := .string dn) rfl
          clear hwr hbel hkp hrd hx hFi hFj hl2 hT
          go_wp2_with (first | (refine wpList_store_new rfl 50 (.tmp 5) (.tmp 33) rfl 16 _ (DF.mk dn dt).cells H1.out.1 (by kernel_rfl) info_D H1.out.2 rfl rfl ?_) | (refine wpList_load_mid rfl 50 (.tmp 32) rfl gx ox rfl (DF.mk dn dt).cells _ HR.out Tryz.underlying50 rfl (by rw [info_D, H1.out.1]) ?_))
          generalize wr.alloc (.cells (DF.mk dn dt).cells.toArray 50) = W2 at *
          have HP := Lib.hid (put2_at w0 b _ dn.data.toList [32, 58, 58, 61, 32] W2 _ 2 HWS2.out HWA.out HBW.out.size (by have := HLL.out; simp only [List.length_append] at this ⊢; omega))
          rw [bs_data] at HP
          refine HP.out.mono ?_
          rintro e x1 ha
          have HA := Lib.hid ha
          have HXE := Lib.hid (HXD.out.kept ha.2.2.2 hcb (by decide))
          have HBX := Lib.hid (HBW.out.trans ha.2.2.1)
          have HRT := Lib.hid (range_dt (d := ⟨dn, dt⟩) HXE.out.range)
          obtain ⟨rfl, _⟩ := ha
          clear HP d0'
          go_wp2_with (refine wpList_load_mid rfl 39 (.tmp 40) rfl wr.heap.size 1 rfl dt.cells _ HRT.out Tryz.underlying39 rfl (by rw [info_T, H1T.out.1]) ?_)
          refine (HTY.out b _ x1 HBX.out HA.out.wr (by have := HLL.out; simp only [List.length_append] at this ⊢; omega)).mono ?_
          rintro e x2 ha
          have HAB := Lib.hid (HA.out.step ha)
          have HBX2 := Lib.hid (HBX.out.trans ha.2.2.1)
          obtain ⟨rfl, _⟩ := ha
          go_wp2_with fail
          refine (put1_at w0 b _ [10] x2 _ _ rfl HAB.out.wr HBX2.out.size (by have := HLL.out; simp only [List.length_append] at this ⊢; omega)).mono ?_
          rintro e x3 ha
          have HAC := Lib.hid ((HAB.out.step ha).from HBA.out hsz)
          obtain ⟨rfl, _⟩ := ha
          go_wp2_with fail
          go_roundw
          case rel => exact ⟨i + 1, hlt, rfl, by have h3 := HAC.out.wr; simp only [catL]; rw [HFI.out]; simp only [List.append_assoc] at h3 ⊢; exact h3, HB.out.trans HAC.out.2.2.1, HK.out.trans HAC.out.2.2.2⟩
          case measure => simp only [Lib.intOf]; omega
        · have q2 : decide ((i : Int) < (nd : Int)) = false := decide_eq_false (by omega)
          have q2n : decide (i < nd) = false := decide_eq_false hlt
          obtain rfl : i = nd := by omega
          clear hwr hbel hkp
          go_wp2_with fail
          refine (put1_at w0 b _ [69, 78, 68, 10] wr _ _ rfl HWR.out hsz (by have := HL2.out; simp at this ⊢; omega)).mono ?_
          rintro e w9 ha
          have HA9 := Lib.hid ha
          obtain ⟨rfl, _⟩ := ha
          go_wp2_with fail
          go_end0
          rw [HR2.out]
          have h3 := HA9.out.wr
          exact ⟨rfl, by simp only [List.append_assoc] at h3 ⊢; exact h3, HAK.out.2.2.1.trans (HB.out.trans HA9.out.2.2.1), HAK.out.2.2.2.trans (HK.out.trans HA9.out.2.2.2)⟩
end Go.Proofs.YtgmnojnalkhepaaGreatDoor

/-
  Package shape: 'ModuleText'.
-/
namespace Go.Proofs.YtgmnojnalkhepaaGreatDoor
open Go.RowKit
set_option linter.unusedVariables false
set_option linter.unusedSimpArgs false
set_option maxRecDepth 100000

theorem MT.txt_ne (m : MT) : m.txt ≠ [] := by
  unfold MT.txt
  simp
set_option maxHeartbeats 4000000 in
theorem moduleText_ok (m : MT) (w : World) (hgs : Gs w) (hm : MIn w.heap.size w m) (hl : m.ok = true → m.txt.length + 200 ≤ 140737488355328) (hq : m.ok = true → MQ m) :
    Calls Tryz.prog 8 #[.agg m.cells.toArray] w fun e w' => e = .returned (.string (bs m.text)) ∧ Below w.heap.size w w' := by
  have HOK := Lib.hid (fun (w' : World) (hb : Below w.heap.size w w') => Module_ok m w.heap.size w' (hgs.below hb) (hm.below hb (Nat.le_refl _)) hb.size)
  have HMOD := Lib.hid (fun (h : MQ m) => module_ok w hgs m hm h)
  have HNE := Lib.hid m.txt_ne
  obtain ⟨name, auto, ia, ni, icap, im, da, nd, dcap, df⟩ := m
  obtain ⟨k, hk⟩ : ∃ k, (MT.mk name auto ia ni icap im da nd dcap df).ok = k := ⟨_, rfl⟩
  obtain ⟨X, hX⟩ : ∃ X, (MT.mk name auto ia ni icap im da nd dcap df).txt = X := ⟨_, rfl⟩
  have HT := Lib.hid (show (MT.mk name auto ia ni icap im da nd dcap df).text = (if k = true then X else []) by unfold MT.text; rw [hk, hX])
  rw [hk] at HOK hq hl
  rw [hX] at HMOD hl HNE
  obtain ⟨R, hR⟩ : ∃ R, (MT.mk name auto ia ni icap im da nd dcap df).text = R := ⟨_, rfl⟩
  rw [hR] at HT ⊢
  have HB1 := Lib.hid ((Below.refl w.heap.size w).alloc (Nat.le_refl _) (.cells #[.string name, .bool auto, .slice ia ni icap, .slice da nd dcap] 25))
  have HX := Lib.hid (Bx.new w #[.string name, .bool auto, .slice ia ni icap, .slice da nd dcap] 25)
  clear hgs hm hk hX hR
  simp only [MT.cells] at HOK HMOD
  show Calls _ _ #[.agg #[.string name, .bool auto, .slice ia ni icap, .slice da nd dcap]] w _
  cases k with
  | false =>
    obtain rfl : R = [] := by rw [HT.out, if_neg (by decide)]
    clear HT HMOD HNE hq
    go_enter Tryz.func8, Tryz.ntmps8
    go_wp2_with fail
    refine (HOK.out _ HB1.out).mono ?_
    rintro e w1 ⟨rfl, hb⟩
    have HB2 := Lib.hid (HB1.out.trans (hb.mono HB1.out.size))
    clear hb
    go_wp2_with fail
    go_ret
    exact ⟨rfl, HB2.out⟩
  | true =>
    obtain rfl : R = X := by rw [HT.out, if_pos rfl]
    have HM := Lib.hid (HMOD.out (hq rfl))
    have hl := hl rfl
    clear HT HMOD hq
    go_enter Tryz.func8, Tryz.ntmps8
    go_wp2_with fail
    refine (HOK.out _ HB1.out).mono ?_
    rintro e w1 ⟨rfl, hb⟩
    have HB2 := Lib.hid (HB1.out.trans (hb.mono HB1.out.size))
    have hx1 := HX.out.below hb HX.out.lt
    have c0 : ∀ o, (w1.alloc o).cell? ⟨w.heap.size, 0, none⟩ = some (.string name) := fun o => (hx1.alloc o).cell 0 rfl
    have c1 : ∀ o, (w1.alloc o).cell? ⟨w.heap.size, 1, none⟩ = some (.bool auto) := fun o => (hx1.alloc o).cell 1 rfl
    have c2 : ∀ o, (w1.alloc o).cell? ⟨w.heap.size, 2, none⟩ = some (.slice ia ni icap) := fun o => (hx1.alloc o).cell 2 rfl
    have c3 : ∀ o, (w1.alloc o).cell? ⟨w.heap.size, 3, none⟩ = some (.slice da nd dcap) := fun o => (hx1.alloc o).cell 3 rfl
    have HWN := Lib.hid (Wr.new w w1 HB2.out.size)
    have HB3 := Lib.hid (HB2.out.alloc HB2.out.size (.cells #[.pointer none, .slice none 0 0] 62))
    clear hb hx1 HX HOK
    go_wp2_with fail
    refine (HM.out w1.heap.size [] _ HB3.out HWN.out (by simp; omega)).mono ?_
    rintro e w2 ha
    have HWR := Lib.hid ha.wr
    have HB4 := Lib.hid (HB3.out.trans ha.2.2.1)
    obtain ⟨rfl, _⟩ := ha
    go_wp2_with fail
    refine (wrString_ok w.heap.size w1.heap.size R w2 (by have := HWR.out; rw [List.nil_append] at this; exact this) HNE.out).mono ?_
    rintro e w3 ⟨rfl, hb⟩
    have HB5 := Lib.hid (HB4.out.trans hb)
    clear hb
    go_wp2_with fail
    go_ret
    exact ⟨rfl, HB5.out⟩
end Go.Proofs.YtgmnojnalkhepaaGreatDoor
