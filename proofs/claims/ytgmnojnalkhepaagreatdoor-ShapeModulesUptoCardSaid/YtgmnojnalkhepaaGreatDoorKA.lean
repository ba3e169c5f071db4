/-
  A bundle of texts, one behind the other: ShZ1, ShZ2.
-/
import Derived.Test.YtgmnojnalkhepaaGreatDoorJZ
import Derived.Test.YtgmnojnalkhepaaGreatDoorJU
import Derived.Laws.BytesArg
import Derived.Maps.AppendAt
import Derived.Deep.DeepMust
import Derived.Test.YtgmnojnalkhepaaGreatDoorJT
import Derived.Test.YtgmnojnalkhepaaGreatDoorJP
/-
  The document's texts: 'more', 'quoted'.
-/
namespace Go.Proofs.YtgmnojnalkhepaaGreatDoor
open Go.RowKit
set_option linter.unusedVariables false
set_option linter.unusedSimpArgs false
set_option maxRecDepth 100000

set_option maxHeartbeats 2000000 in
theorem rmore_ok (b : Bool) (w : World) : Calls Tryz.prog 39 #[.bool b] w fun e w' => e = .returned (.string (bs (moreT b))) ∧ w' = w := by
  cases b
  · go_enter Tryz.func39, Tryz.ntmps39
    go_wp2_with fail
    go_ret
    exact ⟨rfl, rfl⟩
  · go_enter Tryz.func39, Tryz.ntmps39
    go_wp2_with fail
    go_ret
    exact ⟨rfl, rfl⟩
def zU (l : List Nat) : List Value := l.map fun n : Nat => Value.int .u8 n
theorem zU_snoc (l : List Nat) (x : Nat) : zU (l ++ [x]) = zU l ++ [.int .u8 (x : Nat)] := by simp [zU]
def OwnB (base : Nat) (w : World) (v : Value) (l : List Nat) : Prop := w.ownsRow base 5 1 v l.length (zU l)
theorem OwnB.conv {base : Nat} {w : World} {v : Value} {l : List Nat} (h : OwnB base w v l) (h0 : 0 < l.length) : (convert 58 9 v).run Tryz.prog w = .ok (.string (bstr l)) w := by
  obtain ⟨h1, h2⟩ := h
  rcases h2 with ⟨h2, h3⟩ | ⟨g, cap, cur, rfl, hg, hh, hc, hm, hs, ht⟩
  · omega
  · have e : strOfNums (l.map fun n : Nat => (n : Int)) = bstr l := by
      unfold strOfNums bstr
      congr 2
      rw [List.map_map]
      rfl
    rw [← e]
    refine run_convert_bytes_arg w 58 5 Tryz.underlying58 Tryz.underlying5 g 0 l.length cap _ (by simp) (fun i hi => ?_) 9 Tryz.underlying9
    have hx : (cur.toList.take (l.length * 1))[i]? = (zU l)[i]? := by rw [ht]
    rw [List.getElem?_take, if_pos (by omega)] at hx
    refine (cell_of_row w g (0 + i) cur 5 _ hh).trans ?_
    rw [Nat.zero_add, ← Array.getElem?_toList, hx]
    simp [zU, List.getD_eq_getElem?_getD, hi]
def dblN : List Nat → List Nat
  | [] => []
  | c :: r => if c = 34 then 34 :: 34 :: dblN r else c :: dblN r
theorem dblN_snoc : ∀ (l : List Nat) (x : Nat), dblN (l ++ [x]) = dblN l ++ (if x = 34 then [34, 34] else [x])
  | [], x => by simp only [List.nil_append, dblN]
  | c :: r, x => by
    simp only [List.cons_append, dblN, dblN_snoc r x]
    split <;> simp
theorem dblN_len : ∀ l : List Nat, (dblN l).length ≤ 2 * l.length
  | [] => by simp [dblN]
  | c :: r => by
    have := dblN_len r
    simp only [dblN]
    split <;> simp only [List.length_cons] <;> omega
theorem dblN_map : ∀ l : List UInt8, dblN (l.map (·.toNat)) = (dbl l).map (·.toNat)
  | [] => rfl
  | c :: r => by
    simp only [List.map_cons, dblN, dbl, dblN_map r]
    by_cases h : c = 34
    · subst h; rfl
    · have h2 : ¬ c.toNat = 34 := fun e => h (by apply UInt8.toNat_inj.1; rw [e]; rfl)
      rw [if_neg h, if_neg h2]
      rfl
theorem quo_bstr (s : ByteArray) : bstr ((34 :: dblN (cods s)) ++ [34]) = bs (quoT s) := by
  rw [quoT_dbl]
  have e : cods s = s.data.toList.map (·.toNat) := rfl
  rw [e, dblN_map]
  unfold bstr bs
  congr 2
  simp
  rw [show (UInt8.ofNat ∘ fun x : UInt8 => x.toNat) = id from by funext x; simp, List.map_id]
theorem info_u8 : (Tryz.prog.info? 5).map (fun i => (i.zero, i.size, i.bytes)) = some (some (.int .u8 0), 1, 1) := by kernel_rfl
def RelQu (w : World) (s : ByteArray) (ov iv : Value) (wr : World) : Prop := ∃ i : Nat, i ≤ s.size ∧ iv = .int .i64 (i : Nat) ∧ OwnB w.heap.size wr ov (34 :: dblN ((cods s).take i)) ∧ Below w.heap.size w wr
theorem dblN_step {s : ByteArray} {i x : Nat} (hi : i < s.size) (hx : tAt (cods s) i = x) : dblN ((cods s).take (i + 1)) = dblN ((cods s).take i) ++ (if x = 34 then [34, 34] else [x]) := by
  have hl : i < (cods s).length := by rw [cods_length]; exact hi
  rw [List.take_succ_eq_append_getElem hl, dblN_snoc]
  have e : (cods s)[i]'hl = x := by rw [← hx]; show _ = (cods s).getD i 0; rw [List.getD_eq_getElem?_getD, List.getElem?_eq_getElem hl]; rfl
  rw [e]
theorem own_snoc {base : Nat} {w : World} {v : Value} {l : List Nat} {x : Nat} (h : w.ownsRow base 5 1 v (l.length + 1) (zU l ++ [.int .u8 (x : Nat)])) : OwnB base w v (l ++ [x]) := by
  unfold OwnB
  rw [zU_snoc, List.length_append]
  exact h
set_option maxHeartbeats 8000000 in
theorem rquoted_ok (s : ByteArray) (w : World) (hs : s.size ≤ 1000000000) : Calls Tryz.prog 42 #[.string s] w fun e w' => e = .returned (.string (bs (quoT s))) ∧ Below w.heap.size w w' := by
  obtain ⟨i0, hi0, hz0, hz1, hz2⟩ := info_parts info_u8
  have HS := Lib.hid hs
  have HQ := Lib.hid (quo_bstr s)
  obtain ⟨Q, hQ⟩ : ∃ Q, bs (quoT s) = Q := ⟨_, rfl⟩
  rw [hQ] at HQ ⊢
  have HO := Lib.hid (show OwnB w.heap.size (w.alloc (.cells #[.int .u8 34] 5)) (.slice (some ⟨w.heap.size, 0, none⟩) 1 1) [34] from ⟨rfl, .inr ⟨w.heap.size, 1, _, rfl, Nat.le_refl _, heap_alloc_new w _, Nat.le_refl _, by unfold maxLen; omega, rfl, rfl⟩⟩)
  have HB := Lib.hid ((Below.refl w.heap.size w).alloc (Nat.le_refl _) (.cells #[.int .u8 34] 5))
  clear hs hQ
  go_enter Tryz.func42, Tryz.ntmps42
  go_wp2_with fail
  go_loopw [3, 4] (fun ov iv wr => RelQu w s ov iv wr) (fun _ iv _ => s.size - (Lib.intOf iv).toNat)
  case atStart => exact ⟨0, Nat.zero_le _, rfl, HO.out, HB.out⟩
  case round =>
    obtain ⟨i, hi, rfl, hown, hbel⟩ := hrel
    clear HO HB
    have HO := Lib.hid hown
    have HB := Lib.hid hbel
    have hsz := hbel.size
    have hs := HS.out
    have hlen : (34 :: dblN ((cods s).take i)).length ≤ 2 * i + 1 := by
      have := dblN_len ((cods s).take i)
      rw [List.length_take] at this
      simp only [List.length_cons]
      omega
    obtain ⟨L, hL⟩ : ∃ L, 34 :: dblN ((cods s).take i) = L := ⟨_, rfl⟩
    rw [hL] at HO hlen
    have HL := Lib.hid hL
    obtain ⟨m, hm⟩ : ∃ m, L.length = m := ⟨_, rfl⟩
    have hmi : m ≤ 2000000001 := by omega
    have HM := Lib.hid hm
    clear hown hbel hlen hL hm
    by_cases hlt : i < s.size
    · have q1 : decide ((i : Int) < (s.size : Int)) = true := decide_eq_true (by omega)
      have q1n : decide (i < s.size) = true := decide_eq_true hlt
      obtain ⟨x, hx⟩ : ∃ x, tAt (cods s) i = x := ⟨_, rfl⟩
      have e1 : (s[i]'hlt).toNat = x := (cods_at s i hlt).trans hx
      have q3 : (i : Int) < (s.size : Int) := by omega
      have q4 : (0 : Int) ≤ (i : Int) := by omega
      have q5 : IntKind.i64.wrap ((i : Int) + 1) = ((i + 1 : Nat) : Int) := wrap_succ hlt (by omega)
      have HN := Lib.hid (dblN_step hlt hx)
      have HII := Lib.hid hi
      clear hx hi
      by_cases h34 : x = 34
      · subst h34
        rw [if_pos rfl] at HN
        go_wp2_with (first | (at_builtin; refine wpList_append_own _ rfl (.tmp 16) (.tmp 17) 58 rfl w.heap.size 5 i0 (.int .u8 0) 1 1 Tryz.underlying58 hi0 hz0 hz1 hz2 rfl (by decide) _ (L).length (zU (L)) rfl (World.ownsRow.alloc HO.out _) ⟨wr.heap.size, 0, none⟩ 1 1 [.int .u8 34] rfl rfl (cell_one_new _ _ _) (by simp [Value.oneCell']) (by rw [HM.out]; unfold maxLen; omega) (by rw [HM.out]; omega) (by simp; omega) ?_; intro v4 w4 hown4 hgr4 _; have HO4 := Lib.hid (own_snoc hown4); have HG4 := Lib.hid hgr4; have hsz4 : w.heap.size ≤ w4.heap.size := Nat.le_trans hsz (Nat.le_trans (by simp) (hgr4.size)); clear hown4 hgr4) | (at_builtin; refine wpList_append_own _ rfl (.tmp 19) (.tmp 23) 58 rfl w.heap.size 5 i0 (.int .u8 0) 1 1 Tryz.underlying58 hi0 hz0 hz1 hz2 rfl (by decide) _ (L ++ [34]).length (zU (L ++ [34])) rfl (World.ownsRow.alloc HO4.out _) ⟨w4.heap.size, 0, none⟩ 1 1 [.int .u8 34] rfl rfl (cell_one_new _ _ _) (by simp [Value.oneCell']) (by rw [List.length_append, HM.out, List.length_singleton]; unfold maxLen; omega) (by rw [List.length_append, HM.out, List.length_singleton]; omega) (by simp; omega) ?_; intro v5 w5 hown5 hgr5 _; have HO5 := Lib.hid (own_snoc hown5); have HG5 := Lib.hid hgr5; clear hown5 hgr5))
        have h2 := World.ownsRow.alloc HO.out (.cells #[.int .u8 34] 5)
        have HB4 := Lib.hid ((HB.out.alloc hsz (.cells #[.int .u8 34] 5)).grown HG4.out (by simp; omega) (fun k hk => (h2.lt k hk).1))
        have h3 := World.ownsRow.alloc HO4.out (.cells #[.int .u8 34] 5)
        have HB5 := Lib.hid ((HB4.out.alloc HB4.out.size (.cells #[.int .u8 34] 5)).grown HG5.out (by simp; omega) (fun k hk => (h3.lt k hk).1))
        clear h2 h3 HG4 HG5 HO4 HB4
        go_roundw
        case rel => exact ⟨i + 1, hlt, rfl, by rw [HN.out, ← List.cons_append, HL.out, show L ++ [34, 34] = L ++ [34] ++ [34] by simp]; exact HO5.out, HB5.out⟩
        case measure => simp only [Lib.intOf]; omega
      · have q6 : ((x : Int) == 34) = false := by simpa using (show ¬ (x : Int) = 34 by omega)
        have q6n : (x == 34) = false := by simpa using h34
        rw [if_neg h34] at HN
        go_wp2_with (at_builtin; refine wpList_append_own _ rfl (.tmp 19) (.tmp 23) 58 rfl w.heap.size 5 i0 (.int .u8 0) 1 1 Tryz.underlying58 hi0 hz0 hz1 hz2 rfl (by decide) _ (L).length (zU (L)) rfl (World.ownsRow.alloc HO.out _) ⟨wr.heap.size, 0, none⟩ 1 1 [.int .u8 (x : Nat)] rfl rfl (cell_one_new _ _ _) (by simp [Value.oneCell']) (by rw [HM.out]; unfold maxLen; omega) (by rw [HM.out]; omega) (by simp; omega) ?_; intro v4 w4 hown4 hgr4 _; have HO4 := Lib.hid (own_snoc hown4); have HG4 := Lib.hid hgr4; clear hown4 hgr4)
        have h2 := World.ownsRow.alloc HO.out (.cells #[.int .u8 (x : Nat)] 5)
        have HB4 := Lib.hid ((HB.out.alloc hsz (.cells #[.int .u8 (x : Nat)] 5)).grown HG4.out (by simp; omega) (fun k hk => (h2.lt k hk).1))
        clear h2 HG4
        go_roundw
        case rel => exact ⟨i + 1, hlt, rfl, by rw [HN.out, ← List.cons_append, HL.out]; exact HO4.out, HB4.out⟩
        case measure => simp only [Lib.intOf]; omega
    · have q1 : decide ((i : Int) < (s.size : Int)) = false := decide_eq_false (by omega)
      have q1n : decide (i < s.size) = false := decide_eq_false hlt
      obtain rfl : i = s.size := by omega
      have HLQ := Lib.hid (show bstr (L ++ [34]) = Q by
        rw [← HQ.out, ← HL.out, List.take_of_length_le (by rw [cods_length]; exact Nat.le_refl _)])
      go_wp2_with (at_builtin; refine wpList_append_own _ rfl (.tmp 25) (.tmp 26) 58 rfl w.heap.size 5 i0 (.int .u8 0) 1 1 Tryz.underlying58 hi0 hz0 hz1 hz2 rfl (by decide) _ (L).length (zU (L)) rfl (World.ownsRow.alloc HO.out _) ⟨wr.heap.size, 0, none⟩ 1 1 [.int .u8 34] rfl rfl (cell_one_new _ _ _) (by simp [Value.oneCell']) (by rw [HM.out]; unfold maxLen; omega) (by rw [HM.out]; omega) (by simp; omega) ?_; intro v4 w4 hown4 hgr4 _; have HO4 := Lib.hid (own_snoc hown4); have HG4 := Lib.hid hgr4; have hcv := (own_snoc hown4).conv (by simp); rw [HLQ.out] at hcv; clear hown4 hgr4)
      have h2 := World.ownsRow.alloc HO.out (.cells #[.int .u8 34] 5)
      have HB4 := Lib.hid ((HB.out.alloc hsz (.cells #[.int .u8 34] 5)).grown HG4.out (by simp; omega) (fun k hk => (h2.lt k hk).1))
      go_ret
      exact ⟨rfl, HB4.out⟩
end Go.Proofs.YtgmnojnalkhepaaGreatDoor

/-
  The document's texts of a default, of a size: 'value', 'size'.
-/
namespace Go.Proofs.YtgmnojnalkhepaaGreatDoor
open Go.RowKit Go.BigFrame
set_option linter.unusedVariables false
set_option linter.unusedSimpArgs false
set_option maxRecDepth 100000

set_option maxHeartbeats 8000000 in
theorem rvalue_ok (B : Nat) (x : VT) (w : World) (hx : VIn B w x) (hd : x.dflt = true) (hw : x.wt ≤ 1000000000) : Calls Tryz.prog 75 #[.agg x.cells.toArray] w fun e w' => e = .returned (.string (bs x.txt)) ∧ Below w.heap.size w w' := by
  obtain ⟨kd, m, s, nm, a, n, cap, ch, rfl⟩ := hx.open
  obtain ⟨⟨hk, hm, hs, _⟩, _, _⟩ := hx
  simp only [VT.wt] at hw
  have HX := Lib.hid (Bx.new w (VT.mk kd m s nm a n cap ch).cells.toArray 44)
  have HB := Lib.hid ((Below.refl w.heap.size w).alloc (Nat.le_refl _) (.cells (VT.mk kd m s nm a n cap ch).cells.toArray 44))
  obtain ⟨cs, hcs⟩ : ∃ cs, (VT.mk kd m s nm a n cap ch).cells = cs := ⟨_, rfl⟩
  have d0 : (w.alloc (.cells cs.toArray 44)).cell? ⟨w.heap.size, 0, none⟩ = some (.int .i64 kd) := by rw [← hcs]; exact HX.out.cell 0 rfl
  have d1 : (w.alloc (.cells cs.toArray 44)).cell? ⟨w.heap.size, 1, none⟩ = some (.int .i64 m) := by rw [← hcs]; exact HX.out.cell 1 rfl
  have d2 : (w.alloc (.cells cs.toArray 44)).cell? ⟨w.heap.size, 2, none⟩ = some (.string s) := by rw [← hcs]; exact HX.out.cell 2 rfl
  rw [hcs] at HX HB ⊢
  clear hcs HX
  have HD := Lib.hid (show (if kd = 1 then decide (s.size = 0) && (decide (nm.n = 0) && (decide (n = 0) && decide (m = 0 ∨ m = 1))) else if kd = 2 then decide (s.size = 0) && (decide (nm.n = 0) && (decide (n = 0) && decide (m ≠ -9223372036854775808))) else if kd = 3 then decide (m = 0) && (decide (s.size ≠ 0) && (decide (nm.n = 0) && (decide (n = 0) && lowd s))) else if kd = 7 then decide (m = 0) && (decide (nm.n = 0) && (decide (n = 0) && chars s)) else false) = true from hd)
  have HQ := Lib.hid (fun w => rquoted_ok s w (by omega))
  show Calls _ _ _ w fun e w' => e = .returned (.string (bs (if kd = 2 then Lib.itoa m else if kd = 3 then s.data.toList else if kd = 7 then quoT s else if m = 0 then [70, 65, 76, 83, 69] else [84, 82, 85, 69]))) ∧ _
  by_cases k1 : kd = 1
  · subst k1
    have h : m = 0 ∨ m = 1 := by
      have h := HD.out
      simp only [if_true, Bool.and_eq_true, decide_eq_true_eq] at h
      exact h.2.2.2
    rw [if_neg (by decide), if_neg (by decide), if_neg (by decide)]
    rcases h with rfl | rfl
    · rw [if_pos rfl]
      go_enter Tryz.func75, Tryz.ntmps75
      go_wp2_with fail
      go_ret
      exact ⟨rfl, HB.out⟩
    · rw [if_neg (by decide)]
      go_enter Tryz.func75, Tryz.ntmps75
      go_wp2_with fail
      go_ret
      exact ⟨rfl, HB.out⟩
  by_cases k2 : kd = 2
  · subst k2
    have h : m ≠ -9223372036854775808 := by
      have h := HD.out
      rw [if_neg (by decide), if_pos rfl] at h
      simp only [Bool.and_eq_true, decide_eq_true_eq] at h
      exact h.2.2.2
    rw [if_pos rfl]
    have HG := Lib.hid (fun w => digits08_ok m hm h w)
    clear HD h
    go_enter Tryz.func75, Tryz.ntmps75
    go_wp2_with fail
    refine (HG.out _).mono ?_
    rintro e w1 ⟨rfl, hb⟩
    have HB1 := Lib.hid (HB.out.trans (hb.mono HB.out.size))
    clear hb
    go_wp2_with fail
    go_ret
    exact ⟨rfl, HB1.out⟩
  by_cases k3 : kd = 3
  · subst k3
    rw [if_neg (by decide), if_pos rfl, bs_data]
    clear HD
    go_enter Tryz.func75, Tryz.ntmps75
    go_wp2_with fail
    go_ret
    exact ⟨rfl, HB.out⟩
  by_cases k7 : kd = 7
  · subst k7
    rw [if_neg (by decide), if_neg (by decide), if_pos rfl]
    clear HD
    go_enter Tryz.func75, Tryz.ntmps75
    go_wp2_with fail
    refine (HQ.out _).mono ?_
    rintro e w1 ⟨rfl, hb⟩
    have HB1 := Lib.hid (HB.out.trans (hb.mono HB.out.size))
    clear hb
    go_wp2_with fail
    go_ret
    exact ⟨rfl, HB1.out⟩
  · have h := HD.out
    rw [if_neg k1, if_neg k2, if_neg k3, if_neg k7] at h
    cases h
set_option maxHeartbeats 8000000 in
theorem rsize_ok (t : TT) (c : CT) (ext : Bool) (B : Nat) (w : World) (hin : TIn B w t) (hB : B ≤ w.heap.size) (hc : ∀ kd tn con ext fr nm mo pa pt ad at_ ea en ec et, t = .mk kd tn con ext fr nm mo pa pt ad at_ ea en ec et → con = c)
    (h2 : t.cells[2]? = some (.int .i64 c.op)) (h8 : t.cells[8]? = some (.bool ext)) (hok : c.ok 40 = true) (hlen : c.txt.length ≤ 1000000000) :
    Calls Tryz.prog 41 #[.agg t.cells.toArray] w fun e w' => e = .returned (.string (bs (bndT c ext szB szC))) ∧ Below w.heap.size w w' := by
  have hci : CIn B w c := by
    obtain ⟨kd', tn', op', lo', hi', lw', hg', ca', cn', cc', cch', ext', fr', sa', sn', sc', sf', ma', mn', mc', mf', pa', pn', pc', pf', ptf', aa', an', ac', af', atf', ea', en', ec', etf', rfl⟩ := hin.open
    obtain rfl := hc _ _ _ _ _ _ _ _ _ _ _ _ _ _ _ rfl
    exact hin.1.2.2.1
  have HX := Lib.hid (Bx.new w t.cells.toArray 39)
  have HB := Lib.hid ((Below.refl w.heap.size w).alloc (Nat.le_refl _) (.cells t.cells.toArray 39))
  have HRC := Lib.hid (range_con hin hc HX.out)
  have HLC := Lib.hid (show c.cells.length = 6 by obtain ⟨op, lo, hi, lw, hg, ca, cn, cc, cch, rfl⟩ := hci.open; rfl)
  have d2 : (w.alloc (.cells t.cells.toArray 39)).cell? ⟨w.heap.size, 2, none⟩ = some (.int .i64 c.op) := HX.out.cell 2 (by rw [List.getElem?_toArray]; exact h2)
  have d8 : (w.alloc (.cells t.cells.toArray 39)).cell? ⟨w.heap.size, 8, none⟩ = some (.bool ext) := HX.out.cell 8 (by rw [List.getElem?_toArray]; exact h8)
  by_cases h0 : c.op = 0
  · rw [show bndT c ext szB szC = [] by unfold bndT; rw [if_pos h0]]
    rw [h0] at d2
    clear hin hB hc hci h2 h8 hok hlen h0 d8
    go_enter Tryz.func41, Tryz.ntmps41
    go_wp2_with fail
    go_ret
    exact ⟨rfl, HB.out⟩
  have hwf := CT.ok_wf c 40 hok h0
  obtain ⟨W, hW⟩ : ∃ W, w.alloc (.cells t.cells.toArray 39) = W := ⟨_, rfl⟩
  have HC0 : ∀ (d : Nat) (os : Array Obj), Calls Tryz.prog 38 #[.agg c.cells.toArray] (Go.Sort.grow (redrawn (w.alloc (.cells t.cells.toArray 39)) d) os) fun e w'' => e = .returned (.string (bs c.txt)) ∧ ∃ p : Regrown, w'' = Go.Sort.grow (redrawn (w.alloc (.cells t.cells.toArray 39)) p.d) p.os := fun d os =>
    Calls.regrown_of (rtext_ok c B (Go.Sort.grow (redrawn (w.alloc (.cells t.cells.toArray 39)) d) os) (hci.below ((HB.out.trans ((below_regrown _ d os).mono HB.out.size)).mono hB) (Nat.le_refl _)) (Nat.le_trans hB (Nat.le_trans HB.out.size (below_regrown _ d os).size)) hwf hlen)
  have HM0 : ∀ (d : Nat) (os : Array Obj), Calls Tryz.prog 39 #[.bool ext] (Go.Sort.grow (redrawn (w.alloc (.cells t.cells.toArray 39)) d) os) fun e w'' => e = .returned (.string (bs (moreT ext))) ∧ ∃ p : Regrown, w'' = Go.Sort.grow (redrawn (w.alloc (.cells t.cells.toArray 39)) p.d) p.os := fun d os =>
    Calls.regrown_of ((rmore_ok ext _).mono fun e w' ⟨h1, h2⟩ => ⟨h1, by rw [h2]; exact Below.refl _ _⟩)
  have HC := Lib.hid HC0
  have HM := Lib.hid HM0
  have HRR := Lib.hid (range_regrown HRC.out)
  have p0 : (c.op == 0) = false := by simpa using h0
  have d8g := fun d os => cell_regrown d8 d os
  obtain ⟨X, hX⟩ : ∃ X, bs c.txt = X := ⟨_, rfl⟩
  obtain ⟨M, hM⟩ : ∃ X, bs (moreT ext) = X := ⟨_, rfl⟩
  have zX : X.size ≤ 1000000000 := by rw [← hX, bs_size]; exact hlen
  have zM : M.size ≤ 5 := by rw [← hM, bs_size]; cases ext <;> decide
  obtain ⟨g1, e1⟩ : ∃ g, (⟨#[32, 40, 83, 73, 90, 69, 32, 40]⟩ : ByteArray) ++ X = g := ⟨_, rfl⟩
  obtain ⟨g2, e2⟩ : ∃ g, g1 ++ M = g := ⟨_, rfl⟩
  obtain ⟨g3, e3⟩ : ∃ g, g2 ++ (⟨#[41, 41]⟩ : ByteArray) = g := ⟨_, rfl⟩
  have z1 : g1.size = 8 + X.size := by rw [← e1, ByteArray.size_append]; rfl
  have z2 : g2.size = g1.size + M.size := by rw [← e2, ByteArray.size_append]
  have f1 : ¬ 9223372036854775807 < 8 + X.size := by omega
  have f2 : ¬ 9223372036854775807 < g1.size + M.size := by omega
  have f3 : ¬ 9223372036854775807 < g2.size + 2 := by omega
  have HR := Lib.hid (show bs (bndT c ext szB szC) = g3 by
    unfold bndT
    rw [if_neg h0, ← e3, ← e2, ← e1, ← hX, ← hM, show (⟨#[32, 40, 83, 73, 90, 69, 32, 40]⟩ : ByteArray) = bs szB from rfl, show (⟨#[41, 41]⟩ : ByteArray) = bs szC from rfl, bs_append, bs_append, bs_append]
    simp)
  rw [HR.out]
  rw [hX] at HC
  rw [hM] at HM
  clear hin hB hc hci h2 h8 hok hlen h0 hwf HC0 HM0 hX hM zX zM z1 z2 HR HRC W hW d8
  go_enter Tryz.func41, Tryz.ntmps41
  go_wp2_with fail
  refine wp_region_quiet_below (by kernel_rfl) (by kernel_rfl) ?_
  go_big_quiet_step (fail)
  (go_big_quiet_want; refine quiet_load_mid 34 (.tmp 7) rfl w.heap.size 2 rfl c.cells _ HRR.out Tryz.underlying34 rfl (by rw [info_C, HLC.out]) ?_; simp only [put_mk, List.set_cons_succ, List.set_cons_zero]; go_big_quiet_on)
  go_big_quiet_step (exact HC.out _ _)
  go_big_quiet_step (fail)
  go_big_quiet_step (fail)
  go_big_quiet_step (fail)
  go_big_quiet_step (exact HM.out _ _)
  go_big_quiet_step (fail)
  go_big_quiet_step (fail)
  go_big_quiet_step (fail)
  refine wpQuiet_nil ?_
  intro _ hw'
  obtain ⟨⟨dq, osq⟩, hw''⟩ := hw'
  subst hw''
  have hb2 := below_regrown (w.alloc (.cells t.cells.toArray 39)) dq osq
  have HB4 := Lib.hid (HB.out.trans (hb2.mono HB.out.size))
  clear HC HM HRR d8g
  generalize Go.Sort.grow (redrawn (w.alloc (.cells t.cells.toArray 39)) dq) osq = W2 at *
  go_wp2_with fail
  go_ret
  exact ⟨rfl, HB4.out⟩
end Go.Proofs.YtgmnojnalkhepaaGreatDoor
