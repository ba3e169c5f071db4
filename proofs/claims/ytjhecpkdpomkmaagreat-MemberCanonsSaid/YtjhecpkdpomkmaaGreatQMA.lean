/-
  A bundle of texts, one behind the other: MbA7, MbR3.
-/
import Derived.Test.YtjhecpkdpomkmaaGreatQM
import Derived.Test.YtjhecpkdpomkmaaGreatShelf2
import Derived.Test.YtjhecpkdpomkmaaGreatQC
namespace Go.Proofs.YtjhecpkdpomkmaaGreat
open Go.RowKit
set_option linter.unusedVariables false
set_option linter.unusedSimpArgs false
set_option maxRecDepth 100000

theorem idx_iff (l : List UInt8) (u : UInt8) : decide (0 ≤ Lib.indexByte l u) = l.any (fun b => b == u) := by
  induction l with
  | nil => rfl
  | cons b l ih =>
    unfold Lib.indexByte
    rw [List.any_cons]
    cases hb : (b == u) with
    | true => rfl
    | false =>
      simp only [Bool.false_eq_true, if_false, Bool.false_or]
      rw [← ih]
      by_cases h : Lib.indexByte l u = -1
      · rw [h]; rfl
      · have := Lib.indexByte_ge l u
        rw [if_neg (by simpa using h)]
        exact decide_eq_decide.2 (by omega)
theorem idx_octet (s : ByteArray) (c : Nat) (hc : c < 256) : decide (0 ≤ Lib.indexByte s.data.toList ((c : Int).toNat.toUInt8)) = hasOctet s c := by
  rw [idx_iff]
  unfold hasOctet
  congr 1
  funext b
  rw [Int.toNat_natCast, Bool.eq_iff_iff, beq_iff_eq, beq_iff_eq]
  constructor
  · rintro rfl
    show (UInt8.ofNat c).toNat = c
    rw [UInt8.toNat_ofNat']
    omega
  · intro h
    subst h
    exact UInt8.toNat_inj.1 (by show b.toNat = (UInt8.ofNat b.toNat).toNat; rw [UInt8.ofNat_toNat])
set_option maxHeartbeats 8000000 in
theorem hasChr_ok (B : Nat) (w : World) (g x o : Nat) (d : TB) (i c : Nat) (hR : RAt B w g x o d i) (hB : B ≤ w.heap.size) (hc : c < 256) :
    Calls Tryz.prog 117 #[rV g x o d.n d.cap, .int .u8 (c : Nat)] w fun e w' => e = .returned (.bool ((d.f i).chr c)) ∧ Below w.heap.size w w' := by
  unfold rV
  have hb0 := (Below.refl w.heap.size w).alloc (Nat.le_refl _) (.cells #[.pointer (some ⟨g, x, none⟩), .slice (some ⟨g, o, none⟩) d.n d.cap] 72)
  obtain ⟨p0, p1⟩ := rbox w g x o d.n d.cap
  have hcl := hR.cells (w := w.alloc (.cells #[.pointer (some ⟨g, x, none⟩), .slice (some ⟨g, o, none⟩) d.n d.cap] 72)) (hb0.block g (Nat.lt_of_lt_of_le hR.lt hB))
  have c0 := hcl.1
  have c5 := hcl.2.2.2.2.2.1
  have HB := Lib.hid hb0
  have HL := Lib.hid (show (d.f i).chr c = if (d.f i).kind = 5 then (c == 48 || c == 49) else if (d.f i).kind = 6 then true else if (d.f i).fr.size = 0 then decide (c < 128) else hasOctet (d.f i).fr c from rfl)
  have HI := Lib.hid (fun W => Any.strings_IndexByte Tryz.idxByte (d.f i).fr (c : Nat) W)
  change Hid (∀ W, Calls Tryz.prog 165 _ _ _) at HI
  have HIX := Lib.hid (idx_octet (d.f i).fr c hc)
  generalize (d.f i).chr c = res at *
  generalize (d.f i).kind = kd at *
  generalize (d.f i).fr = s at *
  generalize Lib.indexByte s.data.toList ((c : Int).toNat.toUInt8) = z at *
  generalize hasOctet s c = hz at *
  clear hb0 hcl hR hB
  by_cases h5 : kd = 5
  · subst h5
    by_cases h48 : c = 48
    · subst h48
      have HZ := Lib.hid (show res = true from by rw [HL.out]; rfl)
      go_enter Tryz.func117, Tryz.ntmps117
      go_wp2_with fail
      go_ret
      exact ⟨by rw [HZ.out]; first | rfl | simp, HB.out⟩
    · have q1 : ((c : Int) == 48) = false := beq_eq_false_iff_ne.2 (by omega)
      have q1n : (c == 48) = false := beq_eq_false_iff_ne.2 h48
      obtain ⟨b, hb⟩ : ∃ b, ((c : Int) == 49) = b := ⟨_, rfl⟩
      have HZ := Lib.hid (show res = b from by
        rw [HL.out, if_pos rfl, q1n, ← hb]
        simp only [Bool.false_or]
        by_cases h : c = 49
        · subst h; rfl
        · rw [beq_eq_false_iff_ne.2 h, beq_eq_false_iff_ne.2 (show (c : Int) ≠ 49 by omega)])
      clear h48
      go_enter Tryz.func117, Tryz.ntmps117
      go_wp2_with fail
      go_ret
      exact ⟨by rw [HZ.out]; first | rfl | simp, HB.out⟩
  · have q5 : (kd == 5) = false := beq_eq_false_iff_ne.2 h5
    by_cases h6 : kd = 6
    · subst h6
      have HZ := Lib.hid (show res = true from by rw [HL.out]; rfl)
      go_enter Tryz.func117, Tryz.ntmps117
      go_wp2_with fail
      go_ret
      exact ⟨by rw [HZ.out]; first | rfl | simp, HB.out⟩
    · have q6 : (kd == 6) = false := beq_eq_false_iff_ne.2 h6
      have e0 : (s.toList == ([] : List UInt8)) = decide (s.size = 0) := by
        rw [Bool.eq_iff_iff, decide_eq_true_iff, beq_iff_eq, ByteArray.toList_eq]
        constructor
        · intro h
          have := congrArg List.length h
          rw [Array.length_toList] at this
          exact this
        · intro h
          exact List.eq_nil_of_length_eq_zero (by rw [Array.length_toList]; exact h)
      have e1 : s.toList.isEmpty = decide (s.size = 0) := by rw [← e0]; cases s.toList <;> rfl
      by_cases h0 : s.size = 0
      · rw [decide_eq_true h0] at e0 e1
        obtain ⟨b, hb⟩ : ∃ b, decide ((c : Int) < 128) = b := ⟨_, rfl⟩
        obtain ⟨bn, hbn⟩ : ∃ bn, decide (c < 128) = bn := ⟨_, rfl⟩
        have HZ := Lib.hid (show res = bn from by rw [HL.out, if_neg h5, if_neg h6, if_pos h0, hbn])
        have HQ := Lib.hid (show b = bn from by rw [← hb, ← hbn]; exact decide_eq_decide.2 (by omega))
        clear h5 h6 h0
        go_enter Tryz.func117, Tryz.ntmps117
        go_wp2_with fail
        go_ret
        exact ⟨by rw [HZ.out]; first | rfl | (rw [← HQ.out]; rfl) | (simp; exact HQ.out), HB.out⟩
      · rw [decide_eq_false h0] at e0 e1
        have HZ := Lib.hid (show res = hz from by rw [HL.out, if_neg h5, if_neg h6, if_neg h0])
        obtain ⟨b, hb⟩ : ∃ b, decide (0 ≤ z) = b := ⟨_, rfl⟩
        have HQ := Lib.hid (show b = hz from by rw [← hb]; exact HIX.out)
        clear h5 h6 h0 HIX
        go_enter Tryz.func117, Tryz.ntmps117
        go_wp2_with fail
        refine (HI.out _).mono ?_
        rintro e w2 ⟨rfl, rfl⟩
        go_wp2_with fail
        go_ret
        exact ⟨by rw [HZ.out, ← HQ.out]; first | rfl | simp, HB.out⟩
def RelHc (w : World) (n : Nat) (p : Nat → Bool) (iv : Value) (wr : World) : Prop := ∃ i : Nat, i ≤ n ∧ iv = .int .i64 (i : Nat) ∧ allN p i = true ∧ Below w.heap.size w wr
set_option maxHeartbeats 8000000 in
theorem hasChrs_ok (B : Nat) (w : World) (g x o : Nat) (d : TB) (i : Nat) (s : ByteArray) (hR : RAt B w g x o d i) (hB : B ≤ w.heap.size) (hs : s.size ≤ 140737488355328) :
    Calls Tryz.prog 73 #[rV g x o d.n d.cap, .string s] w fun e w' => e = .returned (.bool ((d.f i).chars s)) ∧ Below w.heap.size w w' := by
  have hb0 := (Below.refl w.heap.size w).alloc (Nat.le_refl _) (.cells #[.pointer (some ⟨g, x, none⟩), .slice (some ⟨g, o, none⟩) d.n d.cap] 72)
  have HC := Lib.hid (fun (W : World) (c : Nat) (hW : Below w.heap.size w W) (hc : c < 256) => hasChr_ok w.heap.size W g x o d i c ((hR.below (Below.refl _ _) hB).below hW (Nat.le_refl _)) hW.size hc)
  unfold rV at HC ⊢
  have HX := Lib.hid (Bx.new w #[.pointer (some ⟨g, x, none⟩), .slice (some ⟨g, o, none⟩) d.n d.cap] 72)
  have HB := Lib.hid hb0
  obtain ⟨p, hp⟩ : ∃ p, (fun k => (d.f i).chr (byteAt s k)) = p := ⟨_, rfl⟩
  have HP := Lib.hid (show ∀ k, (d.f i).chr (byteAt s k) = p k from fun k => by rw [← hp])
  obtain ⟨res, hr⟩ : ∃ r, (d.f i).chars s = r := ⟨_, rfl⟩
  have HL := Lib.hid (show res = allN p s.size from by rw [← hr, ← hp]; rfl)
  rw [hr]
  have HSZ := Lib.hid hs
  clear hb0 hR hB hp hr
  go_enter Tryz.func73, Tryz.ntmps73
  go_wp2_with fail
  generalize w.alloc (.cells #[.pointer (some ⟨g, x, none⟩), .slice (some ⟨g, o, none⟩) d.n d.cap] 72) = W1 at *
  obtain ⟨b, hb⟩ : ∃ b, w.heap.size = b := ⟨_, rfl⟩
  have HBE := Lib.hid hb
  rw [hb] at HX ⊢
  clear hb
  go_loopw [8] (fun iv wr => RelHc W1 s.size p iv wr) (fun iv _ => s.size - (Lib.intOf iv).toNat)
  case atStart => exact ⟨0, Nat.zero_le _, rfl, rfl, Below.refl _ _⟩
  case round =>
    obtain ⟨k, hk, rfl, hall, hbel⟩ := hrel
    have HA := Lib.hid hall
    have HB2 := Lib.hid hbel
    clear hall hbel
    by_cases hlt : k < s.size
    · have q1 : decide ((k : Int) < (s.size : Int)) = true := decide_eq_true (by omega)
      have q1n : decide (k < s.size) = true := decide_eq_true hlt
      have q3 : (k : Int) < (s.size : Int) := by omega
      have q4 : (0 : Int) ≤ (k : Int) := by omega
      have q5 : IntKind.i64.wrap ((k : Int) + 1) = ((k + 1 : Nat) : Int) := wrap_succ hlt (by omega)
      obtain ⟨y, hy⟩ : ∃ y, byteAt s k = y := ⟨_, rfl⟩
      have e1 : (s[k]'hlt).toNat = y := (byteAt_eq hlt).trans hy
      have hy2 : y < 256 := by rw [← e1]; exact (s[k]'hlt).toNat_lt
      have hck := fun (W : World) (hW : Below wr.heap.size wr W) => HC.out W y (HB.out.trans ((HB2.out.trans (hW.mono HB2.out.size)).mono HB.out.size)) hy2
      have hpk := HP.out k
      rw [hy] at hpk
      rw [hpk] at hck
      have HCK := Lib.hid hck
      have HS := Lib.hid (show ∀ W, Below wr.heap.size wr W → (W.cell? ⟨b, 0, none⟩ = some (.pointer (some ⟨g, x, none⟩)) ∧ W.cell? ⟨b, 1, none⟩ = some (.slice (some ⟨g, o, none⟩) d.n d.cap)) from fun W hW =>
        have h := (HX.out.below HB2.out HX.out.lt).below hW (HX.out.below HB2.out HX.out.lt).lt
        ⟨h.cell 0 rfl, h.cell 1 rfl⟩)
      have HBX0 := Lib.hid (Below.drew (Below.refl wr.heap.size wr))
      have HS0 := Lib.hid (HS.out _ HBX0.out)
      have HSU := Lib.hid (fun h => allN_succ (f := p) (n := k) HA.out h)
      have HFA := Lib.hid (fun h => allN_no (f := p) hlt h)
      obtain ⟨pk, hpk2⟩ : ∃ pk, p k = pk := ⟨_, rfl⟩
      rw [hpk2] at HCK HSU HFA
      clear hck hpk hpk2 hy hy2
      go_wp2_with fail
      go_region_held3 (fun W => W.cell? ⟨b, 0, none⟩ = some (.pointer (some ⟨g, x, none⟩)) ∧ W.cell? ⟨b, 1, none⟩ = some (.slice (some ⟨g, o, none⟩) d.n d.cap)) (first | with_reducible exact HS1.out | with_reducible exact HS0.out) (first
        | (go_at_call 117; (with_reducible refine (HCK.out _ HBX0.out).mono ?_); rintro e w3 ⟨rfl, h3⟩; have HBX1 := Lib.hid (HBX0.out.trans (h3.mono HBX0.out.size)); have HS1 := Lib.hid (HS.out _ HBX1.out); clear h3))
      cases pk with
      | true =>
        have HN := Lib.hid (HSU.out (by first | rfl | trivial))
        go_wp2_with fail
        go_roundw
        case rel => exact ⟨k + 1, hlt, rfl, HN.out, HB2.out.trans (HBX1.out.mono HB2.out.size)⟩
        case measure => simp only [Lib.intOf]; omega
      | false =>
        have HN := Lib.hid (show res = false from by rw [HL.out]; exact HFA.out (by first | rfl | trivial))
        go_wp2_with fail
        go_ret
        exact ⟨by rw [HN.out]; rfl, HB.out.trans ((HB2.out.trans (HBX1.out.mono HB2.out.size)).mono HB.out.size)⟩
    · have q1 : decide ((k : Int) < (s.size : Int)) = false := decide_eq_false (by omega)
      have q1n : decide (k < s.size) = false := decide_eq_false hlt
      obtain rfl : k = s.size := by omega
      have HN := Lib.hid (show res = true from by rw [HL.out, HA.out])
      go_wp2_with fail
      go_ret
      exact ⟨by rw [HN.out]; rfl, HB.out.trans (HB2.out.mono HB.out.size)⟩
end Go.Proofs.YtjhecpkdpomkmaaGreat

namespace Go.Proofs.YtjhecpkdpomkmaaGreat
open Go.RowKit
set_option linter.unusedVariables false
set_option linter.unusedSimpArgs false
set_option maxRecDepth 100000

theorem results_cell_tmp {P : Program} {fn : Func} {p q : Tmp} {ty : TypeId} (h : fn.results = #[.cell p ty, .tmp q]) (tmps : Array Value) (w : World) (g : Nat) (t : TypeId) (cs : Array Value) (fr : Nat × Nat) (d : TypeDesc)
    (hp : tmps.getD p undef = .pointer (some ⟨g, 0, none⟩)) (hg : w.heap[g]? = some (.cells cs t fr))
    (hu : P.underlying ty = some d) (hd : (match d with | .struct _ | .array _ _ => true | _ => false) = true) (hi : (P.info? ty).map (·.size) = some cs.size) :
    (results fn tmps).run P w = .ok (.tuple #[.agg cs, tmps.getD q undef]) w := by
  have hp' : tmps[p]?.getD undef = .pointer (some ⟨g, 0, none⟩) := by simpa using hp
  simp [results, h, hp', asAddr, run_loadVar_row w g t ty cs fr d hg hu hd hi]
def zF : List Value := [.string ⟨#[]⟩, .int .i64 0, .bool false, .slice none 0 0]
def DT.fld (r : DT) (s : ByteArray) : List Value := if r.fnd s < r.count then (r.part (r.fnd s)).cells else zF
theorem relIx_nextM {p : Nat → Bool} {i : Nat} (h : ∀ j, j < i → p j = false) (hi : p i = false) : ∀ j, j < i + 1 → p j = false := fun j hj => by
  rcases Nat.lt_or_ge j i with h2 | h2
  · exact h j h2
  · obtain rfl : j = i := by omega
    exact hi
def RelNm (W1 : World) (p : Nat → Bool) (N : Nat) (iv : Value) (wr : World) : Prop := ∃ j : Nat, j ≤ N ∧ iv = .int .i64 (j : Nat) ∧ (∀ k, k < j → p k = false) ∧ Below W1.heap.size W1 wr
set_option maxHeartbeats 16000000 in
theorem named_ok (B : Nat) (w : World) (g x o : Nat) (d : TB) (i : Nat) (s : ByteArray) (hR : RAt B w g x o d i) (hB : B ≤ w.heap.size) :
    Calls Tryz.prog 53 #[rV g x o d.n d.cap, .string s] w fun e w' => e = .returned (.tuple #[.agg ((d.f i).fld s).toArray, .bool (decide ((d.f i).fnd s < (d.f i).count))]) ∧ Below w.heap.size w w' := by
  have hb0 := (Below.refl w.heap.size w).alloc (Nat.le_refl _) (.cells #[.pointer (some ⟨g, x, none⟩), .slice (some ⟨g, o, none⟩) d.n d.cap] 72)
  have hb1 := hb0.alloc hb0.size (.cells #[.string ⟨#[]⟩, .int .i64 0, .bool false, .slice none 0 0] 48)
  have hx0 := (Bx.new w #[.pointer (some ⟨g, x, none⟩), .slice (some ⟨g, o, none⟩) d.n d.cap] 72).alloc (.cells #[.string ⟨#[]⟩, .int .i64 0, .bool false, .slice none 0 0] 48)
  have hz1 := Bx.new (w.alloc (.cells #[.pointer (some ⟨g, x, none⟩), .slice (some ⟨g, o, none⟩) d.n d.cap] 72)) #[.string ⟨#[]⟩, .int .i64 0, .bool false, .slice none 0 0] 48
  simp only [World.size_alloc] at hz1
  have HCT := Lib.hid (fun (W : World) (hb : Below w.heap.size w W) => countM_ok w.heap.size W g x o d i ((hR.below (Below.refl _ _) hB).below hb (Nat.le_refl _)) hb.size)
  have HPT := Lib.hid (fun (W : World) (k : Nat) (hk : k < (d.f i).count) (hb : Below w.heap.size w W) => part_ok w.heap.size W g x o d i k ((hR.below (Below.refl _ _) hB).below hb (Nat.le_refl _)) hb.size hk)
  have hcnt : (d.f i).count ≤ 9223372036854775806 := by
    have h1 := hR.row.2.2.2.2.1.1.1
    have h2 := hR.row.2.2.2.2.1.1.2.1
    have h3 := hR.row.2.2.2.2.2.1.1.1
    have h4 := hR.row.2.2.2.2.2.1.1.2.1
    unfold DT.count
    omega
  unfold rV at HCT HPT ⊢
  have p0 := hx0.cell 0 (v := .pointer (some ⟨g, x, none⟩)) rfl
  have p1 := hx0.cell 1 (v := .slice (some ⟨g, o, none⟩) d.n d.cap) rfl
  have HX1 := Lib.hid hx0
  have HZ1 := Lib.hid hz1
  have HB1 := Lib.hid hb1
  have HFD := Lib.hid (show ∀ j, j < (d.f i).count → (∀ k, k < j → sEq ((d.f i).part k).name s = false) → sEq ((d.f i).part j).name s = true → (d.f i).fld s = ((d.f i).part j).cells ∧ decide ((d.f i).fnd s < (d.f i).count) = true from fun j hj h1 h2 => by
    have : (d.f i).fnd s = j := fst_eq hj h1 h2
    unfold DT.fld
    rw [this, if_pos hj]
    exact ⟨rfl, decide_eq_true hj⟩)
  have HFN := Lib.hid (show (∀ k, k < (d.f i).count → sEq ((d.f i).part k).name s = false) → (d.f i).fld s = zF ∧ decide ((d.f i).fnd s < (d.f i).count) = false from fun h1 => by
    have : (d.f i).fnd s = (d.f i).count := fst_end h1
    unfold DT.fld
    rw [this, if_neg (Nat.lt_irrefl _)]
    exact ⟨rfl, decide_eq_false (Nat.lt_irrefl _)⟩)
  generalize (d.f i).fld s = FV at *
  generalize decide ((d.f i).fnd s < (d.f i).count) = FB at *
  generalize (d.f i).count = N at *
  have HPN := Lib.hid (fun k => (rfl : sEq ((d.f i).part k).name s = (fun k => sEq ((d.f i).part k).name s) k))
  clear hx0 hz1 hb0 hR hB
  go_enter Tryz.func53, Tryz.ntmps53
  go_wp2_with fail
  refine (HCT.out _ hb1).mono ?_
  clear hb1
  generalize (w.alloc (.cells #[.pointer (some ⟨g, x, none⟩), .slice (some ⟨g, o, none⟩) d.n d.cap] 72)).alloc (.cells #[.string ⟨#[]⟩, .int .i64 0, .bool false, .slice none 0 0] 48) = W1 at *
  rintro e w2 ⟨rfl, h2⟩
  have HW2 := Lib.hid h2
  clear h2
  obtain ⟨b, hb⟩ : ∃ b, w.heap.size = b := ⟨_, rfl⟩
  have HBE := Lib.hid hb
  rw [hb] at HX1 HZ1
  clear p0 p1
  rw [hb]
  clear hb
  go_wp2_with fail
  go_loopw [10] (fun iv wr => RelNm W1 (fun k => sEq ((d.f i).part k).name s) N iv wr) (fun iv _ => N - (Lib.intOf iv).toNat)
  case atStart => exact ⟨0, Nat.zero_le _, rfl, fun k hk => absurd hk (Nat.not_lt_zero _), HW2.out⟩
  case round =>
    obtain ⟨j, hj, rfl, hall, hbel⟩ := hrel
    have HA := Lib.hid hall
    have HB := Lib.hid hbel
    clear hall hbel
    by_cases hlt : j < N
    · have q1 : decide ((j : Int) < (N : Int)) = true := decide_eq_true (by omega)
      have q1n : decide (j < N) = true := decide_eq_true hlt
      have q3 : IntKind.i64.wrap ((j : Int) + 1) = ((j + 1 : Nat) : Int) := wrap_succ hlt (by omega)
      have hX := HX1.out.below HB.out HX1.out.lt
      have hZ := HZ1.out.below HB.out HZ1.out.lt
      have p0 := hX.cell 0 (v := .pointer (some ⟨g, x, none⟩)) rfl
      have p1 := hX.cell 1 (v := .slice (some ⟨g, o, none⟩) d.n d.cap) rfl
      have HP := Lib.hid (HPT.out wr j hlt (HB1.out.trans (HB.out.mono HB1.out.size)))
      have HFJ := Lib.hid (HFD.out j hlt HA.out)
      have HAN := Lib.hid (fun (h : sEq ((d.f i).part j).name s = false) => relIx_nextM (p := fun k => sEq ((d.f i).part k).name s) HA.out h)
      have HZr := Lib.hid hZ
      rw [list4] at HP HFJ
      generalize (d.f i).part j = pj at *
      obtain ⟨nm, t, op, ⟨da, dn, dc, df⟩⟩ := pj
      simp only at HP HFJ HAN
      clear hX hZ
      go_wp2_with fail
      refine HP.out.mono ?_
      rintro e w3 ⟨rfl, h3⟩
      have n0 := (Bx.new w3 #[.string nm, .int .i64 t, .bool op, .slice da dn dc] 48).cell 0 (v := .string nm) rfl
      have HB3 := Lib.hid ((HB.out.trans (h3.mono HB.out.size)).alloc (Nat.le_trans HB.out.size h3.size) (.cells #[.string nm, .int .i64 t, .bool op, .slice da dn dc] 48))
      have HZ3 := Lib.hid ((HZr.out.below h3 HZr.out.lt).alloc (.cells #[.string nm, .int .i64 t, .bool op, .slice da dn dc] 48))
      have HN3 := Lib.hid (Bx.new w3 #[.string nm, .int .i64 t, .bool op, .slice da dn dc] 48)
      clear h3 HP p0 p1 HZr
      cases hs : sEq nm s with
      | true =>
        obtain ⟨e1, e2⟩ := HFJ.out hs
        have q5 : (nm.toList == s.toList) = true := hs
        have HE := Lib.hid (And.intro e1 e2)
        clear e1 e2 hs HFJ HAN
        have n1 := HN3.out.cell 1 (v := .int .i64 t) rfl
        have n2 := HN3.out.cell 2 (v := .bool op) rfl
        have n3 := HN3.out.cell 3 (v := .slice da dn dc) rfl
        go_wp2_with (first
          | (refine wpList_store_new rfl 48 (.tmp 7) (.tmp 15) rfl 4 _ [.string nm, .int .i64 t, .bool op, .slice da dn dc] rfl rfl (by kernel_rfl) (by simp [Value.oneCell']) rfl rfl ?_)
          | (refine wpList_store_bx rfl 48 (.tmp 4) (.tmp 20) rfl 4 (b + 1) _ [.string nm, .int .i64 t, .bool op, .slice da dn dc] HZ3.out rfl rfl (by kernel_rfl) (by simp [Value.oneCell']) rfl rfl ?_; intro w5 hz5 hx5 hb5 ho5; have HX5 := Lib.hid hx5; have HB5 := Lib.hid ((HB1.out.trans (HB3.out.mono HB1.out.size)).trans (hb5.mono (by rw [HBE.out]; omega))); clear hz5 hx5 hb5 ho5))
        refine bodyPost_ret (v := .tuple #[.agg #[.string nm, .int .i64 t, .bool op, .slice da dn dc], .bool true]) ?_ rfl ⟨by rw [HE.out.1, HE.out.2], HB5.out⟩
        exact results_cell_tmp (p := 4) (q := 5) rfl _ _ (b + 1) 48 _ (0, 0) _ rfl HX5.out Tryz.underlying48 rfl (by kernel_rfl)
      | false =>
        have q5 : (nm.toList == s.toList) = false := hs
        have HNX := Lib.hid (HAN.out hs)
        clear hs HFJ HAN
        go_wp2_with (first
          | (refine wpList_store_new rfl 48 (.tmp 7) (.tmp 15) rfl 4 _ [.string nm, .int .i64 t, .bool op, .slice da dn dc] rfl rfl (by kernel_rfl) (by simp [Value.oneCell']) rfl rfl ?_))
        go_roundw
        case rel => exact ⟨j + 1, hlt, rfl, HNX.out, HB3.out⟩
        case measure => simp only [Lib.intOf]; omega
    · have q1 : decide ((j : Int) < (N : Int)) = false := decide_eq_false (by omega)
      have q1n : decide (j < N) = false := decide_eq_false hlt
      obtain rfl : j = N := by omega
      have HE := Lib.hid (HFN.out HA.out)
      have HZr := Lib.hid (HZ1.out.below HB.out HZ1.out.lt)
      go_wp2_with (refine wpList_store_bx rfl 48 (.tmp 4) (.tmp 22) rfl 4 (b + 1) _ [.string ⟨#[]⟩, .int .i64 0, .bool false, .slice none 0 0] HZr.out rfl rfl (by kernel_rfl) (by simp [Value.oneCell']) rfl rfl ?_; intro w5 hz5 hx5 hb5 ho5; have HX5 := Lib.hid hx5; have HB5 := Lib.hid ((HB1.out.trans (HB.out.mono HB1.out.size)).trans (hb5.mono (by rw [HBE.out]; omega))); clear hz5 hx5 hb5 ho5)
      refine bodyPost_ret (v := .tuple #[.agg #[.string ⟨#[]⟩, .int .i64 0, .bool false, .slice none 0 0], .bool false]) ?_ rfl ⟨by rw [HE.out.1, HE.out.2]; rfl, HB5.out⟩
      exact results_cell_tmp (p := 4) (q := 5) rfl _ _ (b + 1) 48 _ (0, 0) _ rfl HX5.out Tryz.underlying48 rfl (by kernel_rfl)
end Go.Proofs.YtjhecpkdpomkmaaGreat
