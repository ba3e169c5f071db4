/-
  Package strings: GetOctets, GetBits.
-/
import Derived.Test.YtbpfggkpfaobhaaGreatStGet3
import Derived.Test.YtbpfggkpfaobhaaGreatStText
import Derived.Test.YtbpfggkpfaobhaaGreatStTab4
import Derived.Deep.RegionHeld3
namespace Go.Proofs.YtbpfggkpfaobhaaGreat
open Go.RowKit Go.Shelf
set_option linter.unusedVariables false
set_option linter.unusedSimpArgs false
set_option maxRecDepth 100000

/-- a first length that is no last one is followed by too few units -/
def Last (al tx : Bool) (k : Nat) (U : Nat → Nat → Ro) (L : List Nat) (p : Nat) (lo hi : Int) : Prop := (gl al L p lo hi).m = true → (gl al L p lo hi).e = 0 → (gU al tx k U L p lo hi).e ≠ 0
theorem uGo_len (L : List Nat) (k : Nat) : ∀ (n p : Nat) (acc : List Nat), (uGo L k n p acc).l.length ≤ acc.length + n
  | 0, p, acc => Nat.le_refl _
  | n + 1, p, acc => by
    unfold uGo
    split
    · have := uGo_len L k n (gpos L p k) (acc ++ [gval L p k])
      rw [List.length_append, List.length_singleton] at this
      omega
    · exact Nat.zero_le _
theorem oct_len (L : List Nat) (n p : Nat) : (oGo L n p).l.length ≤ n := olst_le L p n
theorem makeFunc_run (fn : Fn) (first cap : Array Value) (w : World) : (Instr.makeFunc fn first cap).run Tryz.prog w = .ok (.func fn first cap) w := rfl
theorem lay_new (w : World) (al : Bool) (lo hi k : Int) (tx : Bool) : Below w.heap.size w (w.alloc (.cells #[.bool al, .int .i64 lo, .int .i64 hi, .int .i64 k, .bool tx] 64)) ∧ LayAt (w.alloc (.cells #[.bool al, .int .i64 lo, .int .i64 hi, .int .i64 k, .bool tx] 64)) w.heap.size al lo hi k tx := ⟨(Below.refl w.heap.size w).alloc (Nat.le_refl _) _, LayAt.new w al lo hi k tx⟩
set_option maxHeartbeats 1000000 in
theorem sgetOctets_ok (w : World) (r : Nat) (s : Value) (L : List Nat) (p : Nat) (al : Bool) (lo hi : Int) (h : RdAt w r s L p) (hL : L.length ≤ 1000000) (b2 : -9223372036854775808 ≤ lo ∧ lo ≤ 9223372036854775807) (b3 : -9223372036854775808 ≤ hi ∧ hi ≤ 9223372036854775807)
    (hm : Last al false 8 (fun n p => oGo L n p) L p lo hi) :
    Calls Tryz.prog 10 #[.pointer (some ⟨r, 0, none⟩), .bool al, .int .i64 lo, .int .i64 hi] w fun e w' =>
      ∃ v, e = .returned (.tuple #[v, .int .i64 (rS al false 8 (fun n p => oGo L n p) L p lo hi).e]) ∧ Own w.heap.size w' v (rS al false 8 (fun n p => oGo L n p) L p lo hi).l ∧ RdAt w' r s L (rS al false 8 (fun n p => oGo L n p) L p lo hi).p ∧ Only r w w' := by
  have hmf := makeFunc_run
  have hrw := h.lt
  obtain ⟨hb0, hla⟩ := lay_new w al lo hi 8 false
  have HLA := Lib.hid hla
  have HR := Lib.hid (h.below hb0)
  have H0 := Lib.hid (Only.of_below (b := r) hb0)
  clear h hla hb0
  by_cases hv : lBad lo hi
  · rw [rS_bad hv]
    have HV := Lib.hid (fun w => svalid_ok al lo hi 8 false w false (by rw [eq_comm, decide_eq_false_iff_not]; exact fun h => h hv))
    clear hv hm
    go_enter Tryz.func10, Tryz.ntmps10
    go_wp2_with fail
    refine (HV.out _).mono ?_
    rintro e w1 ⟨rfl, hb1⟩
    have H1 := Lib.hid (H0.out.trans (Only.of_below hb1))
    have HR1 := Lib.hid (HR.out.below hb1)
    clear hb1 H0 HR
    go_wp2_with fail
    go_ret2
    exact ⟨_, rfl, Own.nil _ _, HR1.out, H1.out⟩
  · have HV := Lib.hid (fun w => svalid_ok al lo hi 8 false w true (by rw [eq_comm, decide_eq_true_eq]; exact hv))
    have HP := Lib.hid (fun (w1 : World) (h1 : RdAt w1 r s L p) => sget_ok w1 r s L p al lo hi 8 false _ _ _ _ enters_ro h1 (units_ro w1 r s L hL) hv (by omega) hL b2 b3 (fun n p => oct_len L n p) hm)
    generalize rS al false 8 (fun n p => oGo L n p) L p lo hi = o at *
    clear hv hm
    go_enter Tryz.func10, Tryz.ntmps10
    go_wp2_with fail
    refine (HV.out _).mono ?_
    rintro e w1 ⟨rfl, hb1⟩
    have H1 := Lib.hid (H0.out.trans (Only.of_below hb1))
    have HR1 := Lib.hid (HR.out.below hb1)
    obtain ⟨d0, d1, d2, d3, d4⟩ := (HLA.out.below hb1).cells
    clear hb1 H0 HR HLA HV
    go_wp2_with fail
    refine (HP.out w1 HR1.out).mono ?_
    rintro e w2 ⟨v, rfl, h1, h2, h3⟩
    have H2 := Lib.hid (h1.base H1.out.size)
    have H3 := Lib.hid h2
    have H4 := Lib.hid (H1.out.trans h3)
    clear h1 h2 h3 d0 d1 d2 d3 d4 HP HR1 H1
    go_wp2_with fail
    go_ret2
    exact ⟨_, rfl, H2.out, H3.out, H4.out⟩
theorem unitsOf_ok (w : World) (r k : Nat) : Calls Tryz.prog 33 #[.pointer (some ⟨r, 0, none⟩), .int .i64 (k : Nat)] w fun e w' => e = .returned (.func (.func 60) #[] #[.pointer (some ⟨w.heap.size, 0, none⟩), .pointer (some ⟨w.heap.size + 1, 0, none⟩)]) ∧
    Cel w' w.heap.size 25 (.pointer (some ⟨r, 0, none⟩)) ∧ Cel w' (w.heap.size + 1) 3 (.int .i64 (k : Nat)) ∧ Below w.heap.size w w' := by
  have hmf := makeFunc_run
  obtain ⟨W, hW, hbel, hC1, hC2⟩ := box2 w 25 3 (.pointer (some ⟨r, 0, none⟩)) (.int .i64 (k : Nat))
  rw [hW] at hbel hC1 hC2
  have HB := Lib.hid hbel
  have HC1 := Lib.hid hC1
  have HC2 := Lib.hid hC2
  clear hbel hC1 hC2 hW
  go_enter Tryz.func33, Tryz.ntmps33
  go_wp2_with fail
  go_ret
  exact ⟨rfl, HC1.out, HC2.out, HB.out⟩
/-- the first j units turned -/
def mp (f : Nat → Nat) (j : Nat) (l : List Nat) : List Nat := (l.take j).map f ++ l.drop j
theorem mp_length (f : Nat → Nat) (j : Nat) (l : List Nat) : (mp f j l).length = l.length := by
  unfold mp
  rw [List.length_append, List.length_map, List.length_take, List.length_drop]
  omega
theorem mp_zero (f : Nat → Nat) (l : List Nat) : mp f 0 l = l := by simp [mp]
theorem mp_all (f : Nat → Nat) (l : List Nat) : mp f l.length l = l.map f := by simp [mp]
theorem mp_get (f : Nat → Nat) (j : Nat) (l : List Nat) (hj : j < l.length) : (mp f j l).getD j 0 = l.getD j 0 := by
  unfold mp
  rw [List.getD_eq_getElem?_getD, List.getD_eq_getElem?_getD, List.getElem?_append_right (by rw [List.length_map, List.length_take]; omega), List.length_map, List.length_take, List.getElem?_drop]
  congr 2
  omega
theorem mp_next (f : Nat → Nat) (j : Nat) (l : List Nat) (hj : j < l.length) : (mp f j l).set j (f (l.getD j 0)) = mp f (j + 1) l := by
  unfold mp
  have hl : ((l.take j).map f).length = j := by rw [List.length_map, List.length_take]; omega
  rw [List.set_append_right _ _ (by omega), hl, Nat.sub_self, List.take_succ_eq_append_getElem hj, List.map_append, List.append_assoc]
  congr 1
  rw [List.drop_eq_getElem_cons hj, List.set_cons_zero]
  simp [List.getD_eq_getElem?_getD, hj]
theorem own_set {base g cap n j x : Nat} {w : World} {l : List Nat} (h : Own base w (.slice (some ⟨g, 0, none⟩) n cap) l) (hx : x < 256) : Own base (w.setCell ⟨g, j, none⟩ (.int .u8 (x : Nat))) (.slice (some ⟨g, 0, none⟩) n cap) (l.set j x) := by
  obtain ⟨h1, h2⟩ := h
  have hn : n = l.length := by
    rcases h1.2 with ⟨e, _⟩ | ⟨_, _, _, e, _⟩
    · cases e
    · injection e with e1 e2
  subst hn
  have h3 := (h1.stored j (.int .u8 (x : Nat))).1
  rw [← u8s_set] at h3
  refine ⟨by rw [List.length_set]; exact h3, getD_lt fun y hy => ?_⟩
  rcases List.mem_or_eq_of_mem_set hy with hy | rfl
  · exact mem_lt h2 y hy
  · exact hx
def RelIn (w : World) (r : Nat) (s : Value) (L : List Nat) (q : Nat) (f : Nat → Nat) (v : Value) (l : List Nat) (i : Value) (wr : World) : Prop :=
  ∃ j : Nat, j ≤ l.length ∧ i = .int .i64 j ∧ Own w.heap.size wr v (mp f j l) ∧ RdAt wr r s L q ∧ Only r w wr
theorem relIn_next {w wr : World} {r g n cap j q p0 : Nat} {s : Value} {L : List Nat} {f : Nat → Nat} {l : List Nat} (h0 : RdAt w r s L p0) (hj : j < l.length) (hf : f (l.getD j 0) < 256) (hg : w.heap.size ≤ g) (h1 : Own w.heap.size wr (.slice (some ⟨g, 0, none⟩) n cap) (mp f j l)) (h2 : RdAt wr r s L q) (h3 : Only r w wr) (y : Nat) (hy : f (l.getD j 0) = y) :
    RelIn w r s L q f (.slice (some ⟨g, 0, none⟩) n cap) l (.int .i64 ((j : Int) + 1)) (wr.setCell ⟨g, j, none⟩ (.int .u8 (y : Nat))) := by
  subst hy
  have hr := h0.lt
  have ho : Only r w (wr.setCell ⟨g, j, none⟩ (.int .u8 (f (l.getD j 0) : Nat))) := h3.set hg _
  exact ⟨j + 1, hj, by go_num, by rw [← mp_next f j l hj]; exact own_set h1 hf, h0.regrow h2 (heap_setCell_other _ _ _ _ (by show r ≠ g; omega)) ho, ho⟩
/-- the text of bits -/
def bitS (o : Ro) : ByteArray := if o.e = 0 then bstr (o.l.map fun u => (u + 48) % 256) else ⟨#[]⟩
set_option maxHeartbeats 2000000 in
theorem sgetBits_ok (w : World) (r : Nat) (s : Value) (L : List Nat) (p : Nat) (al : Bool) (lo hi : Int) (h : RdAt w r s L p) (hL : L.length ≤ 1000000) (b2 : -9223372036854775808 ≤ lo ∧ lo ≤ 9223372036854775807) (b3 : -9223372036854775808 ≤ hi ∧ hi ≤ 9223372036854775807)
    (hm : Last al false 1 (fun n p => uGo L 1 n p []) L p lo hi) :
    Calls Tryz.prog 14 #[.pointer (some ⟨r, 0, none⟩), .bool al, .int .i64 lo, .int .i64 hi] w fun e w' =>
      e = .returned (.tuple #[.string (bitS (rS al false 1 (fun n p => uGo L 1 n p []) L p lo hi)), .int .i64 (rS al false 1 (fun n p => uGo L 1 n p []) L p lo hi).e]) ∧ RdAt w' r s L (rS al false 1 (fun n p => uGo L 1 n p []) L p lo hi).p ∧ Only r w w' := by
  have hrw := h.lt
  obtain ⟨hb0, hla⟩ := lay_new w al lo hi 1 false
  have HLA := Lib.hid hla
  have HR00 := Lib.hid h
  have HR := Lib.hid (h.below hb0)
  have H0 := Lib.hid (Only.of_below (b := r) hb0)
  clear h hla hb0
  by_cases hv : lBad lo hi
  · rw [rS_bad hv]
    have HV := Lib.hid (fun w => svalid_ok al lo hi 1 false w false (by rw [eq_comm, decide_eq_false_iff_not]; exact fun h => h hv))
    clear hv hm
    go_enter Tryz.func14, Tryz.ntmps14
    go_wp2_with fail
    refine (HV.out _).mono ?_
    rintro e w1 ⟨rfl, hb1⟩
    have H1 := Lib.hid (H0.out.trans (Only.of_below hb1))
    have HR1 := Lib.hid (HR.out.below hb1)
    clear hb1 H0 HR
    go_wp2_with fail
    go_ret2
    exact ⟨rfl, HR1.out, H1.out⟩
  have HV := Lib.hid (fun w => svalid_ok al lo hi 1 false w true (by rw [eq_comm, decide_eq_true_eq]; exact hv))
  have HP := Lib.hid (fun (w1 : World) (g1 g2 : Nat) (h1 : RdAt w1 r s L p) (c1 : Cel w1 g1 25 (.pointer (some ⟨r, 0, none⟩))) (c2 : Cel w1 g2 3 (.int .i64 (1 : Nat))) (e1 : g1 ≠ r) (e2 : g2 ≠ r) => sget_ok w1 r s L p al lo hi 1 false _ _ _ _ enters_units h1 (units_rd w1 r s L 1 g1 g2 c1 c2 (by omega) e1 e2 hL) hv (by omega) hL b2 b3 (fun n p => by have := uGo_len L 1 n p []; simpa using this) hm)
  have HUn := Lib.hid (fun w => unitsOf_ok w r 1)
  generalize rS al false 1 (fun n p => uGo L 1 n p []) L p lo hi = o at *
  clear hv hm
  obtain ⟨oe, l, q⟩ := o
  simp only at HP ⊢
  by_cases he : oe = 0
  · subst he
    rw [show bitS ⟨0, l, q⟩ = bstr (l.map fun u => (u + 48) % 256) from if_pos rfl]
    go_enter Tryz.func14, Tryz.ntmps14
    go_wp2_with fail
    refine (HV.out _).mono ?_
    rintro e w1 ⟨rfl, hb1⟩
    have H1 := Lib.hid (H0.out.trans (Only.of_below hb1)).drew
    have HR1 := Lib.hid ((HR.out.below hb1).below ((Below.refl _ _).drew))
    have HL1 := Lib.hid ((HLA.out.below hb1).below ((Below.refl _ _).drew))
    obtain ⟨d0, d1, d2, d3, d4⟩ := (HLA.out.below hb1).cells
    have hg1 : w.heap.size < w1.drew.heap.size := HL1.out.lt
    clear hb1 H0 HR HLA HV
    go_wp2_with fail
    go_region_held3 (fun w' => w'.cell? ⟨w.heap.size, 0, none⟩ = some (.bool al) ∧ w'.cell? ⟨w.heap.size, 1, none⟩ = some (.int .i64 lo) ∧ w'.cell? ⟨w.heap.size, 2, none⟩ = some (.int .i64 hi) ∧ w'.cell? ⟨w.heap.size, 3, none⟩ = some (.int .i64 1) ∧ w'.cell? ⟨w.heap.size, 4, none⟩ = some (.bool false)) (first | exact ⟨d0, d1, d2, d3, d4⟩ | exact HS3.out | exact HS2.out) (first
      | (go_at_call 33; refine (HUn.out _).mono ?_; rintro e w2 ⟨rfl, h1, h2, h3⟩; have HC1 := Lib.hid h1; have HC2 := Lib.hid h2; have H2 := Lib.hid (H1.out.trans (Only.of_below h3)); have HR2 := Lib.hid (HR1.out.below h3); have HL2 := Lib.hid (HL1.out.below h3); have HS2 := Lib.hid HL2.out.cells; clear h1 h2 h3)
      | (go_at_call 30; refine (HP.out _ _ _ HR2.out HC1.out HC2.out (by omega) (by omega)).mono ?_; rintro e w3 ⟨v, rfl, h1, h2, h3⟩; have HO3 := Lib.hid h1; have HR3 := Lib.hid h2; have H3 := Lib.hid (H2.out.trans h3); have HS3 := Lib.hid (HL2.out.only h3 (by omega)).cells; clear h1 h2 h3))
    have HB3 := Lib.hid (HO3.out.base H2.out.size)
    clear HO3 HS2 HS3 HL2 HC1 HC2 HR2 H2 H1 HR1 HL1 d0 d1 d2 d3 d4 HP HUn
    rcases HB3.out.shape with ⟨rfl, hnil⟩ | ⟨g, vc, rfl, hg, _⟩
    · subst hnil
      have cs := fun w => conv_sl w (.slice none 0 0) [] (.inr ⟨rfl, _, _, rfl⟩)
      go_wp2_with fail
      go_loopw [38] (fun i wr => i = .int .i64 0 ∧ wr = w3) (fun _ _ => 0)
      case atStart => exact ⟨rfl, rfl⟩
      case round =>
        obtain ⟨rfl, rfl⟩ := hrel
        go_wp2_with fail
        go_ret2
        exact ⟨rfl, HR3.out, H3.out⟩
    · obtain ⟨n, hn⟩ : ∃ n, l.length = n := ⟨_, rfl⟩
      have hn6 : n ≤ 9223372036854775807 := by
        have h1 := HB3.out.1.2
        rcases h1 with ⟨e, _⟩ | ⟨_, _, _, _, _, _, h2, h3, _⟩
        · cases e
        · unfold maxLen at h3
          omega
      rw [hn] at HB3 ⊢
      have HN := Lib.hid hn
      clear hn
      go_wp2_with fail
      go_loopw [38] (fun i wr => RelIn w r s L q (fun u => (u + 48) % 256) (.slice (some ⟨g, 0, none⟩) n vc) l i wr) (fun i _ => n - (intOf i).toNat)
      case atStart => exact ⟨0, Nat.zero_le _, rfl, by rw [mp_zero]; exact HB3.out, HR3.out, H3.out⟩
      case round =>
        clear HB3 HR3 H3
        obtain ⟨j, hj, rfl, h1, h2, h3⟩ := hrel
        rw [HN.out] at hj
        have H1 := Lib.hid h1
        have H2 := Lib.hid h2
        have H3 := Lib.hid h3
        clear h1 h2 h3
        by_cases hlt : j < n
        · have q1 : decide ((j : Int) < (n : Int)) = true := decide_eq_true (by omega)
          have hjl : j < l.length := by rw [HN.out]; exact hlt
          have hml := mp_length (fun u => (u + 48) % 256) j l
          obtain ⟨x, hx⟩ : ∃ x, l.getD j 0 = x := ⟨_, rfl⟩
          have c1 : wr.cell? ⟨g, j, none⟩ = some (.int .u8 (x : Nat)) := by
            rcases H1.out.shape with ⟨e, _⟩ | ⟨g', cap', e, _, hd⟩
            · cases e
            · injection e with e1 e2 e3
              injection e1 with e1
              injection e1 with e1
              subst e1
              have := hd.cell j (by rw [hml]; exact hjl)
              rw [Nat.zero_add, mp_get _ j l hjl, hx] at this
              exact this
          have f1 : wr.frozen? ⟨g, j, none⟩ = false := by
            have h1 := H1.out.1
            rw [hml, HN.out] at h1
            exact h1.frozenAt j
          obtain ⟨y, hy⟩ : ∃ y, (x + 48) % 256 = y := ⟨_, rfl⟩
          have q2 : ((x : Int) + 48) % 256 = (y : Int) := by omega
          have HNX := Lib.hid (relIn_next (f := fun u => (u + 48) % 256) HR00.out hjl (Nat.mod_lt _ (by omega)) hg H1.out H2.out H3.out y (by show (l.getD j 0 + 48) % 256 = y; rw [hx]; exact hy))
          clear hx hy hml hjl H1 H2 H3
          go_wp2_with fail
          go_roundw
          case rel => exact HNX.out
          case measure => simp [intOf]; omega
        · obtain rfl : j = n := by omega
          have q1 : decide ((j : Int) < (j : Int)) = false := decide_eq_false (by omega)
          have h1 := H1.out
          rw [← HN.out, mp_all] at h1
          have cs := conv_sl wr _ _ h1.sl
          rw [HN.out] at cs
          clear h1 H1
          go_wp2_with fail
          go_ret2
          exact ⟨rfl, H2.out, H3.out⟩
  · obtain ⟨n1, n2⟩ := ne_facts he
    rw [show bitS ⟨oe, l, q⟩ = ⟨#[]⟩ from if_neg he]
    clear he
    go_enter Tryz.func14, Tryz.ntmps14
    go_wp2_with fail
    refine (HV.out _).mono ?_
    rintro e w1 ⟨rfl, hb1⟩
    have H1 := Lib.hid (H0.out.trans (Only.of_below hb1)).drew
    have HR1 := Lib.hid ((HR.out.below hb1).below ((Below.refl _ _).drew))
    have HL1 := Lib.hid ((HLA.out.below hb1).below ((Below.refl _ _).drew))
    obtain ⟨d0, d1, d2, d3, d4⟩ := (HLA.out.below hb1).cells
    have hg1 : w.heap.size < w1.drew.heap.size := HL1.out.lt
    clear hb1 H0 HR HLA HV
    go_wp2_with fail
    go_region_held3 (fun w' => w'.cell? ⟨w.heap.size, 0, none⟩ = some (.bool al) ∧ w'.cell? ⟨w.heap.size, 1, none⟩ = some (.int .i64 lo) ∧ w'.cell? ⟨w.heap.size, 2, none⟩ = some (.int .i64 hi) ∧ w'.cell? ⟨w.heap.size, 3, none⟩ = some (.int .i64 1) ∧ w'.cell? ⟨w.heap.size, 4, none⟩ = some (.bool false)) (first | exact ⟨d0, d1, d2, d3, d4⟩ | exact HS3.out | exact HS2.out) (first
      | (go_at_call 33; refine (HUn.out _).mono ?_; rintro e w2 ⟨rfl, h1, h2, h3⟩; have HC1 := Lib.hid h1; have HC2 := Lib.hid h2; have H2 := Lib.hid (H1.out.trans (Only.of_below h3)); have HR2 := Lib.hid (HR1.out.below h3); have HL2 := Lib.hid (HL1.out.below h3); have HS2 := Lib.hid HL2.out.cells; clear h1 h2 h3)
      | (go_at_call 30; refine (HP.out _ _ _ HR2.out HC1.out HC2.out (by omega) (by omega)).mono ?_; rintro e w3 ⟨v, rfl, h1, h2, h3⟩; have HO3 := Lib.hid h1; have HR3 := Lib.hid h2; have H3 := Lib.hid (H2.out.trans h3); have HS3 := Lib.hid (HL2.out.only h3 (by omega)).cells; clear h1 h2 h3))
    have HB3 := Lib.hid (HO3.out.base H2.out.size)
    clear HO3 HS2 HS3 HL2 HC1 HC2 HR2 H2 H1 HR1 HL1 d0 d1 d2 d3 d4 HP HUn
    go_wp2_with fail
    go_ret2
    exact ⟨rfl, HR3.out, H3.out⟩
end Go.Proofs.YtbpfggkpfaobhaaGreat
