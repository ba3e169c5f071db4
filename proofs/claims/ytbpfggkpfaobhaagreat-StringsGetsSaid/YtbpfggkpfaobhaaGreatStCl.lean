/-
  Package strings: the functions that write units (octets, bits).
-/
import Derived.Test.YtbpfggkpfaobhaaGreatStPut
import Derived.Test.YtbpfggkpfaobhaaGreatM1
import Derived.StillTailTactics
namespace Go.Proofs.YtbpfggkpfaobhaaGreat
open Go.RowKit Go.Shelf
set_option linter.unusedVariables false
set_option linter.unusedSimpArgs false
set_option maxRecDepth 100000

theorem enters_oct : Enters Tryz.prog 41 := enters_of Tryz.func41 (by kernel_rfl) rfl
theorem units_oct (w : World) (b : Nat) (a : Option Addr) (n cp : Nat) (l : List Nat) (g1 g2 : Nat) (hc1 : Cel w g1 46 (.pointer (some ⟨b, 0, none⟩))) (hc2 : Cel w g2 22 (.slice a n cp)) (hs : Sb w b (.slice a n cp) l)
    (h1 : g1 ≠ b) (h2 : g2 ≠ b) (hl : n ≤ 1000000) : Units 41 #[] #[.pointer (some ⟨g1, 0, none⟩), .pointer (some ⟨g2, 0, none⟩)] b n (bitsOf l) w := by
  intro w1 B ho hw hB
  have c1 := (hc1.only ho h1).cell
  have c2 := (hc2.only ho h2).cell
  have hs1 := hs.only ho
  have hm := hs1.len
  have hd : Only b w1 w1.drew := (Only.refl b w1).drew
  have HS := Lib.hid hs1
  have HW := Lib.hid (hw.below ((Below.refl _ _).drew))
  have HD := Lib.hid hd
  have k1 : (n : Int) ≤ (cp : Int) := by omega
  have k2 : (0 : Int) ≤ (n : Int) := by omega
  clear hw hs1 hs hc1 hc2 hd
  go_enter Tryz.func41, Tryz.ntmps41
  go_wp2_with fail
  go_still_tail 5, (by kernel_rfl)
  change wpList _ _ _ _ _ w1.drew
  go_wp2_with fail
  refine (woctets_sl _ b B (.slice a n cp) l HW.out ((HS.out.only HD.out).sl) (HS.out.only HD.out).apart (by omega) (by omega)).mono ?_
  rintro e w2 ⟨rfl, h3, h4⟩
  have H1 := Lib.hid h3
  have H2 := Lib.hid (HD.out.trans h4)
  clear h3 h4 HW HS HD
  go_wp2_with fail
  go_ret
  exact ⟨rfl, H1.out, H2.out⟩
/-- the codes of a text's characters -/
def cods (s : ByteArray) : List Nat := s.data.toList.map (·.toNat)
theorem cods_length (s : ByteArray) : (cods s).length = s.size := by unfold cods; rw [List.length_map]; rfl
theorem cods_at (s : ByteArray) (i : Nat) (h : i < s.size) : (s[i]'h).toNat = (cods s).getD i 0 := by
  unfold cods
  rw [List.getD_eq_getElem?_getD, List.getElem?_map]
  have h2 : i < s.data.toList.length := h
  rw [List.getElem?_eq_getElem h2]
  rfl
theorem cods_lt (s : ByteArray) (i : Nat) : (cods s).getD i 0 < 256 := by
  by_cases h : i < s.size
  · rw [← cods_at s i h]
    exact (s[i]'h).toBitVec.isLt
  · rw [List.getD_eq_getElem?_getD, List.getElem?_eq_none (by rw [cods_length]; omega)]
    simp
def isBit (l : List Nat) : Bool := l.all fun c => c == 48 || c == 49
theorem isBit_at {l : List Nat} (h : isBit l = true) (i : Nat) (hi : i < l.length) : l.getD i 0 = 48 ∨ l.getD i 0 = 49 := by
  unfold isBit at h
  rw [List.all_eq_true] at h
  have := h l[i] (List.getElem_mem hi)
  rw [List.getD_eq_getElem?_getD, List.getElem?_eq_getElem hi]
  simpa using this
theorem isBit_no {l : List Nat} (i : Nat) (hi : i < l.length) (h1 : l.getD i 0 ≠ 48) (h2 : l.getD i 0 ≠ 49) : isBit l = false := by
  cases hb : isBit l with
  | false => rfl
  | true => rcases isBit_at hb i hi with h | h <;> contradiction
theorem isBit_all {l : List Nat} (h : ∀ i, i < l.length → l.getD i 0 = 48 ∨ l.getD i 0 = 49) : isBit l = true := by
  unfold isBit
  rw [List.all_eq_true]
  intro x hx
  obtain ⟨i, hi, rfl⟩ := List.getElem_of_mem hx
  have := h i hi
  rw [List.getD_eq_getElem?_getD, List.getElem?_eq_getElem hi] at this
  simpa using this
theorem isBits_ok (s : ByteArray) (w : World) (hs : s.size ≤ 9223372036854775807) :
    Calls Tryz.prog 43 #[.string s] w fun e w' => e = .returned (.bool (isBit (cods s))) ∧ w = w' := by
  have hlen := Lib.hid (cods_length s)
  have hat := Lib.hid (cods_at s)
  go_enter Tryz.func43, Tryz.ntmps43
  go_wp2_with fail
  go_loop [6] (fun i => ∃ k : Nat, k ≤ s.size ∧ i = .int .i64 k ∧ ∀ j, j < k → (cods s).getD j 0 = 48 ∨ (cods s).getD j 0 = 49) (fun i => s.size - (intOf i).toNat)
  case atStart => exact ⟨0, Nat.zero_le _, rfl, fun j h => by omega⟩
  case round =>
    obtain ⟨k, hk, rfl, hall⟩ := hrel
    have HA := Lib.hid hall
    clear hall
    by_cases hlt : k < s.size
    · have q1 : decide ((k : Int) < (s.size : Int)) = true := decide_eq_true (by omega)
      obtain ⟨x, hx⟩ : ∃ x, (cods s).getD k 0 = x := ⟨_, rfl⟩
      have e : (s[k]'hlt).toNat = x := (hat.out k hlt).trans hx
      have HX := Lib.hid hx
      clear hx
      by_cases h8 : x = 48
      · subst h8
        go_wp2_with fail
        go_round
        case rel => exact ⟨k + 1, hlt, by go_num, fun j hj => by
          by_cases e : j = k
          · subst e; exact .inl HX.out
          · exact HA.out j (by omega)⟩
        case measure => simp [intOf]; omega
      by_cases h9 : x = 49
      · subst h9
        go_wp2_with fail
        go_round
        case rel => exact ⟨k + 1, hlt, by go_num, fun j hj => by
          by_cases e : j = k
          · subst e; exact .inr HX.out
          · exact HA.out j (by omega)⟩
        case measure => simp [intOf]; omega
      · have q2 : ((x : Int) != 48) = true := by simp; omega
        have q3 : ((x : Int) != 49) = true := by simp; omega
        have HN := Lib.hid (isBit_no k (by rw [hlen.out]; exact hlt) (by rw [HX.out]; exact h8) (by rw [HX.out]; exact h9))
        clear h8 h9
        go_wp2_with fail
        go_ret
        exact ⟨by rw [HN.out]; rfl, rfl⟩
    · obtain rfl : k = s.size := by omega
      have q1 : decide ((s.size : Int) < (s.size : Int)) = false := decide_eq_false (by omega)
      have HN := Lib.hid (isBit_all (fun i hi => HA.out i (by rw [hlen.out] at hi; exact hi)))
      clear HA
      go_wp2_with fail
      go_ret
      exact ⟨by rw [HN.out]; rfl, rfl⟩
/-- the numbers of bits -/
def bitN (l : List Nat) : List Nat := l.map fun c => c - 48
theorem bitN_length (l : List Nat) : (bitN l).length = l.length := List.length_map ..
theorem bitN_at (l : List Nat) (i : Nat) : (bitN l).getD i 0 = l.getD i 0 - 48 := by
  unfold bitN
  rw [List.getD_eq_getElem?_getD, List.getD_eq_getElem?_getD, List.getElem?_map]
  cases l[i]? <;> rfl
theorem enters_bit : Enters Tryz.prog 44 := enters_of Tryz.func44 (by kernel_rfl) rfl
def RelU (w1 : World) (b : Nat) (B : List Bool) (k : Nat) (l : List Nat) (i : Value) (wr : World) : Prop := ∃ j : Nat, j ≤ l.length ∧ i = .int .i64 j ∧ WrAt wr b (B ++ ubits k (l.take j)) ∧ Only b w1 wr
theorem relU_next {w1 w2 : World} {b : Nat} {B : List Bool} {k j v : Nat} {l : List Nat} (hj : j < l.length) (hv : l.getD j 0 = v) (h : WrAt w2 b (B ++ ubits k (l.take j) ++ nb v k)) (ho : Only b w1 w2) : RelU w1 b B k l (.int .i64 ((j : Int) + 1)) w2 :=
  ⟨j + 1, hj, by go_num, by rw [ubits_take_succ k l j hj, hv, ← List.append_assoc]; exact h, ho⟩
theorem ubits_take_le (k : Nat) (l : List Nat) (j : Nat) (hj : j ≤ l.length) : (ubits k (l.take j)).length ≤ l.length * k := by
  rw [ubits_length, List.length_take]
  exact Nat.mul_le_mul_right k (Nat.min_le_right _ _)
set_option maxHeartbeats 1000000 in
theorem units_bit (w : World) (b : Nat) (s : ByteArray) (l : List Nat) (g1 g2 : Nat) (hc1 : Cel w g1 46 (.pointer (some ⟨b, 0, none⟩))) (hc2 : Cel w g2 9 (.string s)) (hl : cods s = l) (hb : isBit l = true)
    (h1 : g1 ≠ b) (h2 : g2 ≠ b) (hs : s.size ≤ 1000000) : Units 44 #[] #[.pointer (some ⟨g1, 0, none⟩), .pointer (some ⟨g2, 0, none⟩)] b s.size (ubits 1 (bitN l)) w := by
  intro w1 B ho hw hB
  have hlen := cods_length s
  rw [hl] at hlen
  have hat := cods_at s
  rw [hl] at hat
  have hbl := bitN_length l
  have HC1 := Lib.hid (hc1.only ho h1)
  have HC2 := Lib.hid (hc2.only ho h2)
  have HB := Lib.hid (fun i hi => isBit_at hb i hi)
  have HW := Lib.hid hw
  have HAT := Lib.hid hat
  have HL := Lib.hid hlen
  have HBL := Lib.hid hbl
  clear hc1 hc2 hb hw hat ho hl hlen hbl
  go_enter Tryz.func44, Tryz.ntmps44
  go_wp2_with fail
  go_loopw [7] (fun i wr => RelU w1 b B 1 (bitN l) i wr) (fun i _ => s.size - (intOf i).toNat)
  case atStart => exact ⟨0, Nat.zero_le _, rfl, by simpa [ubits] using HW.out, Only.refl _ _⟩
  case round =>
    obtain ⟨j, hj, rfl, hwr, hor⟩ := hrel
    have c1 := (HC1.out.only hor h1).cell
    have c2 := (HC2.out.only hor h2).cell
    have hle := ubits_take_le 1 (bitN l) j hj
    rw [HBL.out, HL.out] at hj hle
    have HR0 := Lib.hid hwr
    have HO0 := Lib.hid hor
    have HR := Lib.hid (hwr.below ((Below.refl _ _).drew))
    have HO := Lib.hid hor.drew
    clear hwr hor
    by_cases hlt : j < s.size
    · have q1 : decide ((j : Int) < (s.size : Int)) = true := decide_eq_true (by omega)
      obtain ⟨x, hx⟩ : ∃ x, l.getD j 0 = x := ⟨_, rfl⟩
      have e : (s[j]'hlt).toNat = x := (HAT.out j hlt).trans hx
      have h89 := HB.out j (by rw [HL.out]; exact hlt)
      rw [hx] at h89
      have HX := Lib.hid (show (bitN l).getD j 0 = x - 48 by rw [bitN_at, hx])
      have q5 : (j : Int) < (s.size : Int) := by omega
      have q6 : (0 : Int) ≤ (j : Int) := by omega
      clear hx
      obtain ⟨v, rfl, hv⟩ : ∃ v, x = v + 48 ∧ v < 2 := ⟨x - 48, by omega, by omega⟩
      clear h89
      go_wp2_with fail
      go_still_tail 6, (by kernel_rfl)
      change wpList _ _ _ _ _ wr.drew
      go_wp2_with fail
      refine (put_ok wr.drew b _ v 1 HR.out (by omega) hv (by rw [List.length_append]; omega)).mono ?_
      rintro e w2 ⟨rfl, h3, h4⟩
      have H3 := Lib.hid h3
      have H4 := Lib.hid (HO.out.trans h4)
      clear h3 h4 HR HO c1 c2
      go_wp2_with fail
      go_roundw
      case rel => exact relU_next (by rw [HBL.out, HL.out]; exact hlt) (by rw [HX.out, Nat.add_sub_cancel]) H3.out H4.out
      case measure => simp [intOf]; omega
    · obtain rfl : j = s.size := by omega
      have q1 : decide ((s.size : Int) < (s.size : Int)) = false := decide_eq_false (by omega)
      clear HR HO c1 c2
      have HF := Lib.hid (show ubits 1 ((bitN l).take s.size) = ubits 1 (bitN l) by rw [List.take_of_length_le (by rw [HBL.out, HL.out]; exact Nat.le_refl _)])
      go_wp2_with fail
      go_ret
      exact ⟨rfl, HF.out ▸ HR0.out, HO0.out⟩
theorem Sb.below {w w' : World} {b : Nat} {v : Value} {l : List Nat} (h : Sb w b v l) (ho : Below w.heap.size w w') : Sb w' b v l := by
  obtain ⟨a, cap, rfl, hc, h0 | ⟨g, o, rfl, hd, hg⟩⟩ := h
  · exact ⟨_, _, rfl, hc, .inl h0⟩
  · exact ⟨_, _, rfl, hc, .inr ⟨g, o, rfl, hd.below ho, hg⟩⟩
theorem box3 (w : World) (t1 t2 : TypeId) (v1 v2 : Value) (al : Bool) (lo hi k : Int) (tx : Bool) : ∃ W, W = ((w.alloc (.cells #[v1] t1)).alloc (.cells #[v2] t2)).alloc (.cells #[.bool al, .int .i64 lo, .int .i64 hi, .int .i64 k, .bool tx] 64) ∧ Below w.heap.size w W ∧ Cel W w.heap.size t1 v1 ∧ Cel W (w.heap.size + 1) t2 v2 ∧ LayAt W (w.heap.size + 1 + 1) al lo hi k tx := by
  refine ⟨_, rfl, (((Below.refl w.heap.size w).alloc (Nat.le_refl _) _).alloc (by simp) _).alloc (by simp; omega) _, ((Cel.new w t1 v1).alloc _).alloc _, ?_, ?_⟩
  · have := (Cel.new (w.alloc (.cells #[v1] t1)) t2 v2).alloc (.cells #[.bool al, .int .i64 lo, .int .i64 hi, .int .i64 k, .bool tx] 64)
    simpa using this
  · have := LayAt.new ((w.alloc (.cells #[v1] t1)).alloc (.cells #[v2] t2)) al lo hi k tx
    simpa using this
set_option maxHeartbeats 1000000 in
theorem sputOctets_ok (w : World) (b : Nat) (B : List Bool) (al : Bool) (lo hi : Int) (s : Value) (l : List Nat) (h : WrAt w b B) (hs : Sb w b s l) (hl : l.length < 16384)
    (b2 : -9223372036854775808 ≤ lo ∧ lo ≤ 9223372036854775807) (b3 : -9223372036854775808 ≤ hi ∧ hi ≤ 9223372036854775807) (hB : B.length ≤ 700000) :
    Calls Tryz.prog 18 #[.pointer (some ⟨b, 0, none⟩), .bool al, s, .int .i64 lo, .int .i64 hi] w fun e w' =>
      e = .returned (.int .i64 (sE l.length lo hi)) ∧ WrAt w' b (stB al false 8 B lo hi l) ∧ Only b w w' := by
  obtain ⟨a, n, cp, rfl⟩ := hs.shape
  have hm := hs.len
  have hbw := h.lt
  have hmf : ∀ (fn : Fn) (first cap : Array Value) (w : World), (Instr.makeFunc fn first cap).run Tryz.prog w = .ok (.func fn first cap) w := fun _ _ _ _ => rfl
  obtain ⟨W, hW, hbel, hC1, hC2, hLA⟩ := box3 w 46 22 (.pointer (some ⟨b, 0, none⟩)) (.slice a n cp) al lo hi 8 false
  have hwW := h.below hbel
  have hsW := hs.below hbel
  have h0 : Only b w W := Only.of_below hbel
  by_cases hv : lBad lo hi
  · have hV := svalid_ok al lo hi 8 false W false (by rw [eq_comm, decide_eq_false_iff_not]; exact fun h => h hv)
    unfold stB
    rw [sE_bad hv, if_neg (by decide)]
    rw [hW] at hV h0 hwW
    have HV := Lib.hid hV
    have H0 := Lib.hid h0
    have HW := Lib.hid hwW
    clear hV h0 hwW hsW hbel hC1 hC2 hLA hW hs h hv
    go_enter Tryz.func18, Tryz.ntmps18
    go_wp2_with fail
    refine HV.out.mono ?_
    rintro e w1 ⟨rfl, hb1⟩
    have H1 := Lib.hid (H0.out.trans (Only.of_below hb1))
    have HW1 := Lib.hid (HW.out.below hb1)
    clear hb1 H0 HW
    go_wp2_with fail
    go_ret
    exact ⟨rfl, HW1.out, H1.out⟩
  · have hV := svalid_ok al lo hi 8 false W true (by rw [eq_comm, decide_eq_true_eq]; exact hv)
    have HP := Lib.hid (fun (w1 : World) (g1 g2 : Nat) (hw : WrAt w1 b B) (c1 : Cel w1 g1 46 (.pointer (some ⟨b, 0, none⟩))) (c2 : Cel w1 g2 22 (.slice a n cp)) (hs : Sb w1 b (.slice a n cp) l) (h1 : g1 ≠ b) (h2 : g2 ≠ b) =>
      sput_ok w1 b B al lo hi 8 false n _ _ (bitsOf l) enters_oct hw (units_oct w1 b a n cp l g1 g2 c1 c2 hs h1 h2 (by omega)) hv (by omega) (by omega) b2 b3 (by omega))
    have hst : stB al false 8 B lo hi l = if sE n lo hi = 0 then stP al false 8 B n lo hi ++ bitsOf l else B := by unfold stB; rw [hm.1, ubits_8]
    rw [hst, hm.1]
    rw [hW] at hV h0 hwW hC1 hC2 hLA hsW
    have HV := Lib.hid hV
    have H0 := Lib.hid h0
    have HW := Lib.hid hwW
    have HC1 := Lib.hid hC1
    have HC2 := Lib.hid hC2
    have HLA := Lib.hid hLA
    have HS := Lib.hid hsW
    generalize (if sE n lo hi = 0 then stP al false 8 B n lo hi ++ bitsOf l else B) = T at *
    generalize sE n lo hi = er at *
    clear hV h0 hwW hsW hbel hC1 hC2 hLA hW hs h hv hst
    go_enter Tryz.func18, Tryz.ntmps18
    go_wp2_with fail
    refine HV.out.mono ?_
    rintro e w1 ⟨rfl, hb1⟩
    have H1 := Lib.hid (H0.out.trans (Only.of_below hb1))
    have HW1 := Lib.hid (HW.out.below hb1)
    have c1 := (HC1.out.below hb1)
    have c2 := (HC2.out.below hb1)
    have HS1 := Lib.hid (HS.out.below hb1)
    obtain ⟨d0, d1, d2, d3, d4⟩ := (HLA.out.below hb1).cells
    have HC3 := Lib.hid c1
    have HC4 := Lib.hid c2
    replace c1 := c1.cell
    replace c2 := c2.cell
    clear hb1 H0 HW HC1 HC2 HLA HS HV
    go_wp2_with fail
    refine (HP.out w1 _ _ HW1.out HC3.out HC4.out HS1.out (by omega) (by omega)).mono ?_
    rintro e w2 ⟨rfl, h1, h2⟩
    have H2 := Lib.hid h1
    have H3 := Lib.hid (H1.out.trans h2)
    clear h1 h2 c1 c2 d0 d1 d2 d3 d4 HP
    go_wp2_with fail
    go_ret
    exact ⟨rfl, H2.out, H3.out⟩
end Go.Proofs.YtbpfggkpfaobhaaGreat
