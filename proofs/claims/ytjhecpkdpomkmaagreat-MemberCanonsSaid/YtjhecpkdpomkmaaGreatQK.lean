/-
  A bundle of texts, one behind the other: MbW, MbW2, MbX.
-/
import Derived.Test.YtjhecpkdpomkmaaGreatQJ
import Derived.Test.YtjhecpkdpomkmaaGreatShelf
import Derived.Test.YtjhecpkdpomkmaaGreatQC
import Derived.Test.YtjhecpkdpomkmaaGreatQG
import Derived.Maps.AppendAt
namespace Go.Proofs.YtjhecpkdpomkmaaGreat
open Go.RowKit Go.Sort Go.Shelf
set_option linter.unusedVariables false
set_option linter.unusedSimpArgs false
set_option maxRecDepth 100000

theorem sorted_nodup {ts : List (List UInt8)} (hs : ts.Pairwise (fun x y => x ≤ y)) : (Lib.compact ts).length = ts.length ↔ ts.Nodup := by
  constructor
  · intro h
    have hall : ∀ j, j < ts.length → Lib.keeps ts.toArray j = true := by
      have h2 : ((List.range ts.length).filter (Lib.keeps ts.toArray)).length = (List.range ts.length).length := by
        unfold Lib.compact Lib.compactUpTo at h
        rw [List.length_map] at h
        rw [h, List.length_range]
      intro j hj
      exact List.length_filter_eq_length_iff.1 h2 j (List.mem_range.2 hj)
    rw [List.Nodup, List.pairwise_iff_getElem]
    intro i j hi hj hij e
    rw [List.pairwise_iff_getElem] at hs
    have hk := hall (i + 1) (by omega)
    simp only [Lib.keeps, decide_eq_true_eq] at hk
    rcases hk with hk | hk
    · omega
    · rw [Nat.add_sub_cancel, getElem!_pos ts.toArray (i + 1) (by simpa using (by omega : i + 1 < ts.length)), getElem!_pos ts.toArray i (by simpa using hi)] at hk
      simp only [List.getElem_toArray] at hk
      refine hk (List.le_antisymm ?_ (hs i (i + 1) hi (by omega) (by omega)))
      rcases Nat.lt_or_ge (i + 1) j with h3 | h3
      · have := hs (i + 1) j (by omega) hj h3
        rw [← e] at this
        exact this
      · obtain rfl : j = i + 1 := by omega
        rw [← e]
        exact List.le_refl _
  · intro h
    rw [Lib.compact_all ts fun j hj => ?_]
    simp only [Lib.keeps, decide_eq_true_eq]
    rcases Nat.eq_zero_or_pos j with h0 | h0
    · exact .inl h0
    · refine .inr fun e => ?_
      rw [getElem!_pos ts.toArray j (by simpa using hj), getElem!_pos ts.toArray (j - 1) (by simpa using (by omega : j - 1 < ts.length))] at e
      simp only [List.getElem_toArray] at e
      rw [List.Nodup, List.pairwise_iff_getElem] at h
      exact h (j - 1) j (by omega) hj (by omega) e.symm
theorem compact_nodup (ss : List (List UInt8)) : decide ((Lib.compact (ss.mergeSort fun x y => decide (x ≤ y))).length = ss.length) = decide ss.Nodup := by
  have hp := List.mergeSort_perm ss (fun x y => decide (x ≤ y))
  have hs : (ss.mergeSort fun x y => decide (x ≤ y)).Pairwise (fun x y => x ≤ y) := by
    have := List.pairwise_mergeSort (le := fun x y : List UInt8 => decide (x ≤ y)) (fun a b c h1 h2 => by simp only [decide_eq_true_eq] at *; exact List.le_trans h1 h2) (fun a b => by simp only [Bool.or_eq_true, decide_eq_true_eq]; exact List.le_total a b) ss
    exact this.imp (fun h => by simpa using h)
  refine decide_eq_decide.2 ?_
  rw [← hp.length_eq, sorted_nodup hs]
  exact hp.nodup_iff
set_option maxHeartbeats 4000000 in
theorem areDistinct_ok (w : World) (base : Nat) (v : Value) (ss : List (List UInt8)) (h : w.ownsRow base 9 1 v ss.length (ss.map encStr)) (hsz : ss.length ≤ 1000000) (hB : base ≤ w.heap.size) :
    Calls Tryz.prog 199 #[v] w fun e w' => e = .returned (.bool (decide ss.Nodup)) ∧ Below base w w' := by
  have HND := Lib.hid (compact_nodup ss)
  obtain ⟨res, hres⟩ : ∃ res, decide ss.Nodup = res := ⟨_, rfl⟩
  have hB0 : Below base w w := Below.refl base w
  rcases h.2 with ⟨rfl, hz⟩ | ⟨g, cap, cur, rfl, hbase, hg, r1, r2, r3, r4⟩
  · have hss : ss = [] := List.eq_nil_of_length_eq_zero hz
    subst hss
    obtain rfl : res = true := by rw [← hres]; rfl
    rw [hres]
    have HB := Lib.hid hB0
    have HS := Lib.hid (fun W => AnyM.slices_Sort_string_none Tryz.sortS none 0 W)
    have HC := Lib.hid (fun W => AnyG.slices_Compact_string_empty Tryz.compactS none 0 W)
    change Hid (∀ W, Calls Tryz.prog 237 _ _ _) at HS
    change Hid (∀ W, Calls Tryz.prog 238 _ _ _) at HC
    clear h hz hsz hres hB hB0 HND
    go_enter Tryz.func199, Tryz.ntmps199
    go_wp2_with fail
    refine (HS.out _).mono ?_
    rintro e w1 ⟨rfl, rfl⟩
    go_wp2_with fail
    refine (HC.out _).mono ?_
    rintro e w2 ⟨rfl, rfl⟩
    go_wp2_with fail
    go_ret
    exact ⟨rfl, HB.out⟩
  · have hlt : g < w.heap.size := (Array.getElem?_eq_some_iff.1 hg).1
    have hH := holds_of_block hg (by rw [← r4, Nat.mul_one])
    have hS := AnyM.slices_Sort_string Tryz.sortS g 0 cap ss w hH hlt (by omega)
    have HS := Lib.hid hS
    change Hid (Calls Tryz.prog 237 _ _ _) at HS
    have hp := List.mergeSort_perm ss (fun x y => decide (x ≤ y))
    obtain ⟨ts, hts⟩ : ∃ ts, (ss.mergeSort fun x y => decide (x ≤ y)) = ts := ⟨_, rfl⟩
    rw [hts] at HS hp HND
    have hl := hp.length_eq
    obtain ⟨n, hn⟩ : ∃ n, ss.length = n := ⟨_, rfl⟩
    have HN := Lib.hid hn
    have HTN := Lib.hid (hl.trans hn)
    have HSO := Lib.hid (fun (m : Nat) (os : Array Obj) => ownsRow_sorted (w := w) (n := m) (os := os) (ts := ts) hl hbase hg r1 r2 r3)
    have HGR := Lib.hid (fun (m : Nat) (os : Array Obj) => hB0.grown (grownBy_sorted (w := w) (g := g) (n := m) (os := os) ts.toArray) hB (fun k hk => by cases hk; exact hbase))
    have HCP := Lib.hid (fun (W : World) (hH : Holds encStr W g 0 ts.toArray) => AnyG.slices_Compact_string Tryz.compactS g 0 cap ts W hH (by omega) (by omega))
    change Hid (∀ (W : World) (_ : Holds encStr W g 0 ts.toArray), Calls Tryz.prog 238 _ _ _) at HCP
    rw [hn] at HS HND
    simp only [hl.trans hn] at HCP
    rw [hres] at HND
    rw [hn, hres]
    have HG := Lib.hid hbase
    have HBB := Lib.hid hB
    have hnz : n ≤ 1000000 := by omega
    clear h hsz hres hB0 hg r1 r2 r3 r4 hlt hH hS hp hts hl hn hbase
    go_enter Tryz.func199, Tryz.ntmps199
    go_wp2_with fail
    refine HS.out.mono ?_
    rintro e w1 ⟨rfl, m, os, rfl⟩
    have ho := HSO.out m os
    have HB1 := Lib.hid (HGR.out m os)
    generalize grow (putRow encStr (Sort.ahead w m) g 0 ts.toArray) os = w1 at *
    rcases ho.2 with ⟨hv, _⟩ | ⟨g2, cap2, cur2, hv, _, hg2, _, _, _, q4⟩
    · cases hv
    · simp only [Value.slice.injEq, Option.some.injEq, Addr.mk.injEq] at hv
      obtain ⟨⟨rfl, _⟩, hn2, rfl⟩ := hv
      have hH2 : Holds encStr w1 g 0 ts.toArray := holds_of_block hg2 (by have := HTN.out; have h3 := HN.out; rw [← q4, Nat.mul_one, this, h3])
      have HC := Lib.hid (HCP.out w1 hH2)
      have HB2 := Lib.hid (fun (q : Nat) (d : Array (List UInt8)) => HB1.out.trans ((Below.refl base w1).grown (w' := putRow encStr (Sort.ahead w1 q) g 0 d) (by simpa using grownBy_sorted (w := w1) (g := g) (n := q) (os := #[]) d) (Nat.le_trans HBB.out HB1.out.size) (fun k hk => by cases hk; exact HG.out)))
      clear ho hg2 q4 hH2 HS HSO HGR HCP
      go_wp2_with fail
      refine HC.out.mono ?_
      rintro e w2 ⟨rfl, q, hq⟩
      have HB3 : Hid (Go.RowKit.Below base w w2) := Lib.hid (by rw [hq]; exact HB2.out q _)
      clear hq
      obtain ⟨c, hc⟩ : ∃ c, (Lib.compact ts).length = c := ⟨_, rfl⟩
      rw [hc] at HND ⊢
      have HZ := Lib.hid (show ((c : Int) == (n : Int)) = res from by
        rw [← HND.out]
        by_cases h : c = n
        · subst h; simp
        · rw [decide_eq_false h]; exact beq_eq_false_iff_ne.2 (by omega))
      clear HC hc HB2
      go_wp2_with fail
      go_ret
      exact ⟨by first | rfl | (rw [HZ.out]; rfl), HB3.out⟩
end Go.Proofs.YtjhecpkdpomkmaaGreat

namespace Go.Proofs.YtjhecpkdpomkmaaGreat
open Go.RowKit Go.Sort Go.Shelf
set_option linter.unusedVariables false
set_option linter.unusedSimpArgs false
set_option maxRecDepth 100000

def octL (l : List ByteArray) : List (List UInt8) := l.map fun s => s.data.toList
theorem octL_len (l : List ByteArray) : (octL l).length = l.length := List.length_map _
theorem octL_nodup (l : List ByteArray) : decide (octL l).Nodup = decide l.Nodup := by
  refine decide_eq_decide.2 ?_
  unfold octL List.Nodup
  rw [List.pairwise_map]
  constructor
  · intro h
    exact h.imp fun hne e => hne (by rw [e])
  · intro h
    exact h.imp fun hne e => hne (ByteArray.ext (Array.toList_inj.1 e))
theorem octL_enc (l : List ByteArray) : (octL l).map encStr = l.map Value.string := by
  unfold octL
  rw [List.map_map]
  refine List.map_congr_left fun s _ => ?_
  show Value.string ⟨s.data.toList.toArray⟩ = Value.string s
  rw [Array.toArray_toList]
theorem flat_str (f : Nat → ByteArray) : ∀ n, flat (fun i => [.string (f i)]) n = ((List.range n).map f).map Value.string
  | 0 => rfl
  | n + 1 => by
    show flat (fun i => [.string (f i)]) n ++ [.string (f n)] = _
    rw [flat_str f n, List.range_succ, List.map_append, List.map_append]
    rfl
set_option maxHeartbeats 16000000 in
theorem areNamesRight_ok (B : Nat) (w : World) (r : DT) (hr : DTIn B w r) (hB : B ≤ w.heap.size) :
    Calls Tryz.prog 143 #[.agg r.cells.toArray] w fun e w' => e = .returned (.bool r.namesOk) ∧ Below w.heap.size w w' := by
  have hx := Bx.new w r.cells.toArray 46
  have hb := (Below.refl w.heap.size w).alloc (Nat.le_refl _) (.cells r.cells.toArray 46)
  have c0 := hx.cell 0 (v := .int .i64 r.kind) rfl
  have c6 := hx.cell 6 (v := .slice r.nm.a r.nm.n r.nm.cap) rfl
  have c7 := hx.cell 7 (v := .slice r.mo.a r.mo.n r.mo.cap) rfl
  have HB0 := Lib.hid hb
  have HL := Lib.hid (show r.namesOk = if r.kind = 3 then decide (0 < r.nm.n) && decide (r.nm.n ≤ 256) && decide (r.mo.n ≤ 256) && decide ((r.nm.texts ++ r.mo.texts).Nodup) else decide (r.nm.n = 0) && decide (r.mo.n = 0) from rfl)
  have HCC := Lib.hid (fun (W : World) (hb : Below w.heap.size w W) (h1 : r.nm.n ≤ 10000) (h2 : r.mo.n ≤ 10000) =>
    have hW : Below w.heap.size w (W.alloc (.cells #[.slice r.nm.a r.nm.n r.nm.cap, .slice r.mo.a r.mo.n r.mo.cap] 23)) := hb.alloc hb.size _
    have hbx := Bx.new W #[.slice r.nm.a r.nm.n r.nm.cap, .slice r.mo.a r.mo.n r.mo.cap] 23
    concatS_ok (W.alloc (.cells #[.slice r.nm.a r.nm.n r.nm.cap, .slice r.mo.a r.mo.n r.mo.cap] 23)) w.heap.size W.heap.size r.nm.a r.nm.n r.nm.cap (fun i => [.string (r.nm.f i)]) r.mo.a r.mo.n r.mo.cap (fun i => [.string (r.mo.f i)])
      hW.size hbx.lt (hbx.cell 0 rfl) (hbx.cell 1 rfl) ((hr.2.2.1.below (Below.refl _ _) hB).below hW (Nat.le_refl _)).1 ((hr.2.2.2.1.below (Below.refl _ _) hB).below hW (Nat.le_refl _)).1
      (fun i hi => rfl) (fun i hi => rfl) (fun i hi u hu => by simp at hu; subst hu; rfl) (fun i hi u hu => by simp at hu; subst hu; rfl) h1 h2)
  have HAD := Lib.hid (fun (W : World) (base : Nat) (v : Value) (h : W.ownsRow base 9 1 v (r.nm.n + r.mo.n) (flat (fun i => [.string (r.nm.f i)]) r.nm.n ++ flat (fun i => [.string (r.mo.f i)]) r.mo.n)) (hbs : base ≤ W.heap.size) (hs : r.nm.n + r.mo.n ≤ 1000000) =>
    show Calls Tryz.prog 199 #[v] W fun e w' => e = .returned (.bool (decide (r.nm.texts ++ r.mo.texts).Nodup)) ∧ Below base W w' by
      have hlen : (octL (r.nm.texts ++ r.mo.texts)).length = r.nm.n + r.mo.n := by rw [octL_len]; simp [SL.texts]
      have h2 := areDistinct_ok W base v (octL (r.nm.texts ++ r.mo.texts)) (by
        rw [hlen, octL_enc, List.map_append]
        rw [flat_str, flat_str] at h
        exact h) (by rw [hlen]; exact hs) hbs
      rw [octL_nodup] at h2
      exact h2)
  generalize r.namesOk = res at *
  generalize decide (r.nm.texts ++ r.mo.texts).Nodup = nd at *
  generalize flat (fun i => [.string (r.nm.f i)]) r.nm.n ++ flat (fun i => [.string (r.mo.f i)]) r.mo.n = FF at *
  generalize r.kind = kd at *
  generalize r.nm.a = na at *
  generalize r.nm.n = nn at *
  generalize r.nm.cap = nc at *
  generalize r.mo.a = ma at *
  generalize r.mo.n = mn at *
  generalize r.mo.cap = mc at *
  clear hx hb hr hB
  by_cases h3 : kd = 3
  · subst h3
    by_cases h0 : 0 < nn
    · have q0 : decide ((0 : Int) < (nn : Int)) = true := decide_eq_true (by omega)
      have q0n : decide (0 < nn) = true := decide_eq_true h0
      have HF1 := Lib.hid (fun W => areFewS_ok W na nn nc)
      have HF2 := Lib.hid (fun W => areFewS_ok W ma mn mc)
      by_cases h1 : nn ≤ 256
      · by_cases h2 : mn ≤ 256
        · have HZ := Lib.hid (show res = nd from by rw [HL.out, if_pos rfl, q0n, decide_eq_true h1, decide_eq_true h2]; rfl)
          simp only [decide_eq_true h1] at HF1
          simp only [decide_eq_true h2] at HF2
          have hc2 := HCC.out _ HB0.out (by omega) (by omega)
          rw [show (w.alloc (.cells r.cells.toArray 46)).heap.size = w.heap.size + 1 by simp] at hc2
          have HC2 := Lib.hid hc2
          clear hc2
          have HA2 := Lib.hid (fun W base v h hbs => HAD.out W base v h hbs (by omega))
          clear h1 h2 HL h0 HCC HAD
          go_enter Tryz.func143, Tryz.ntmps143
          go_wp2_with fail
          refine (HF1.out _).mono ?_
          rintro e w1 ⟨rfl, rfl⟩
          go_wp2_with fail
          refine (HF2.out _).mono ?_
          rintro e w1 ⟨rfl, rfl⟩
          go_wp2_with fail
          refine HC2.out.mono ?_
          rintro e w2 ⟨v, rfl, ho, h2⟩
          have HB2 := Lib.hid ((HB0.out.alloc HB0.out.size (.cells #[.slice na nn nc, .slice ma mn mc] 23)).trans (h2.mono (by simp; omega)))
          have HD := Lib.hid (HA2.out w2 _ v ho h2.size)
          have HSZ := Lib.hid h2.size
          clear ho h2 c0 c6 c7
          go_wp2_with fail
          refine HD.out.mono ?_
          rintro e w3 ⟨rfl, h3⟩
          have HB3 := Lib.hid (HB2.out.trans (h3.mono (by simp; omega)))
          clear h3 HD
          go_wp2_with fail
          go_ret
          exact ⟨by rw [HZ.out]; first | rfl | simp, HB3.out⟩
        · have HZ := Lib.hid (show res = false from by rw [HL.out, if_pos rfl, q0n, decide_eq_true h1, decide_eq_false h2]; rfl)
          simp only [decide_eq_true h1] at HF1
          simp only [decide_eq_false h2] at HF2
          clear h1 h2 HL h0 HCC HAD
          go_enter Tryz.func143, Tryz.ntmps143
          go_wp2_with fail
          refine (HF1.out _).mono ?_
          rintro e w1 ⟨rfl, rfl⟩
          go_wp2_with fail
          refine (HF2.out _).mono ?_
          rintro e w1 ⟨rfl, rfl⟩
          go_wp2_with fail
          go_ret
          exact ⟨by rw [HZ.out]; first | rfl | simp, HB0.out⟩
      · have HZ := Lib.hid (show res = false from by rw [HL.out, if_pos rfl, q0n, decide_eq_false h1]; rfl)
        simp only [decide_eq_false h1] at HF1
        clear h1 HL h0 HCC HAD
        go_enter Tryz.func143, Tryz.ntmps143
        go_wp2_with fail
        refine (HF1.out _).mono ?_
        rintro e w1 ⟨rfl, rfl⟩
        go_wp2_with fail
        go_ret
        exact ⟨by rw [HZ.out]; first | rfl | simp, HB0.out⟩
    · have q0 : decide ((0 : Int) < (nn : Int)) = false := decide_eq_false (by omega)
      have q0n : decide (0 < nn) = false := decide_eq_false h0
      have HZ := Lib.hid (show res = false from by rw [HL.out, if_pos rfl, q0n]; rfl)
      clear h0 HL HCC HAD
      go_enter Tryz.func143, Tryz.ntmps143
      go_wp2_with fail
      go_ret
      exact ⟨by rw [HZ.out]; first | rfl | simp, HB0.out⟩
  · have q3 : (kd != 3) = true := bne_iff_ne.2 h3
    clear HCC HAD
    by_cases h1 : nn = 0
    · subst h1
      obtain ⟨b, hb⟩ : ∃ b, ((mn : Int) == 0) = b := ⟨_, rfl⟩
      have HZ := Lib.hid (show res = b from by
        rw [HL.out, if_neg h3, ← hb]
        simp only [decide_true, Bool.true_and]
        by_cases h : mn = 0
        · subst h; rfl
        · rw [beq_eq_false_iff_ne.2 (show (mn : Int) ≠ 0 by omega), decide_eq_false h])
      clear h3 HL
      go_enter Tryz.func143, Tryz.ntmps143
      go_wp2_with fail
      go_ret
      exact ⟨by rw [HZ.out]; first | rfl | simp, HB0.out⟩
    · have q1 : ((nn : Int) == 0) = false := beq_eq_false_iff_ne.2 (by omega)
      have q1n : (nn == 0) = false := beq_eq_false_iff_ne.2 h1
      have HZ := Lib.hid (show res = false from by rw [HL.out, if_neg h3, decide_eq_false h1]; rfl)
      clear h1 h3 HL
      go_enter Tryz.func143, Tryz.ntmps143
      go_wp2_with fail
      go_ret
      exact ⟨by rw [HZ.out]; rfl, HB0.out⟩
end Go.Proofs.YtjhecpkdpomkmaaGreat

namespace Go.Proofs.YtjhecpkdpomkmaaGreat
open Go.RowKit Go.Sort Go.Shelf Go.Maps
set_option linter.unusedVariables false
set_option linter.unusedSimpArgs false
set_option maxRecDepth 100000

theorem own_under {base s n : Nat} {W W' : World} {v : Value} {e : TypeId} {xs : List Value} (h : W.ownsRow base e s v n xs) (hb : Below W.heap.size W W') : W'.ownsRow base e s v n xs := by
  rcases h with ⟨h1, h2⟩
  refine ⟨h1, ?_⟩
  rcases h2 with h2 | ⟨g, cap, cur, e1, e2, e3, e4⟩
  · exact .inl h2
  · exact .inr ⟨g, cap, cur, e1, e2, (hb.block g (Array.getElem?_eq_some_iff.1 e3).1).trans e3, e4⟩
def nmsV (r : DT) (i : Nat) : List Value := (List.range i).map fun k => .string (r.part k).name
theorem nmsV_succ (r : DT) (i : Nat) : nmsV r (i + 1) = nmsV r i ++ [.string (r.part i).name] := by
  unfold nmsV
  rw [List.range_succ, List.map_append]
  rfl
def RelPa (W2 : World) (r : DT) (rows N : Nat) (nv iv : Value) (wr : World) : Prop :=
  ∃ i : Nat, i ≤ N ∧ iv = .int .i64 (i : Nat) ∧ wr.ownsRow W2.heap.size 9 1 nv i (nmsV r i) ∧ allN (fun k => (r.part k).ok r.kind rows) i = true ∧ Below W2.heap.size W2 wr
theorem info_s1 : (Tryz.prog.info? 9).map (fun i => (i.zero, i.size, i.bytes)) = some (some (.string ⟨#[]⟩), 1, 16) := by kernel_rfl
set_option maxHeartbeats 16000000 in
theorem arePartsRight_ok (B : Nat) (w : World) (r : DT) (rows : Nat) (hr : DTIn B w r) (hB : B ≤ w.heap.size) :
    Calls Tryz.prog 144 #[.agg r.cells.toArray, .int .i64 (rows : Int)] w fun e w' => e = .returned (.bool (r.partsOk rows)) ∧ Below w.heap.size w w' := by
  obtain ⟨i0, hi0, hz0, hz1, hz2⟩ := info_parts info_s1
  have hx := Bx.new w r.cells.toArray 46
  have hb := (Below.refl w.heap.size w).alloc (Nat.le_refl _) (.cells r.cells.toArray 46)
  have c0 := hx.cell 0 (v := .int .i64 r.kind) rfl
  have c8 := hx.cell 8 (v := .slice r.pa.a r.pa.n r.pa.cap) rfl
  have c9 := hx.cell 9 (v := .slice r.ad.a r.ad.n r.ad.cap) rfl
  have HX0 := Lib.hid hx
  have HB0 := Lib.hid hb
  have HL := Lib.hid (show r.partsOk rows = if r.kind = 8 ∨ r.kind = 10 then decide (r.pa.n ≤ 256) && decide (r.ad.n ≤ 256) && allN (fun k => (r.part k).ok r.kind rows) (r.pa.n + r.ad.n) && decide (((List.range (r.pa.n + r.ad.n)).map fun k => (r.part k).name).Nodup)
    else decide (r.pa.n = 0) && decide (r.ad.n = 0) from rfl)
  have HXR := Lib.hid (show ∀ (g : Nat) (W : World), Bx W g r.cells.toArray 46 → W.cell? ⟨g, 0, none⟩ = some (.int .i64 r.kind) from fun g W h => h.cell 0 rfl)
  have hcc := (fun (h1 : r.pa.n ≤ 10000) (h2 : r.ad.n ≤ 10000) =>
    have hW : Below w.heap.size w ((w.alloc (.cells r.cells.toArray 46)).alloc (.cells #[.slice r.pa.a r.pa.n r.pa.cap, .slice r.ad.a r.ad.n r.ad.cap] 43)) := hb.alloc hb.size _
    have hbx := Bx.new (w.alloc (.cells r.cells.toArray 46)) #[.slice r.pa.a r.pa.n r.pa.cap, .slice r.ad.a r.ad.n r.ad.cap] 43
    concatF_ok ((w.alloc (.cells r.cells.toArray 46)).alloc (.cells #[.slice r.pa.a r.pa.n r.pa.cap, .slice r.ad.a r.ad.n r.ad.cap] 43)) w.heap.size (w.alloc (.cells r.cells.toArray 46)).heap.size r.pa.a r.pa.n r.pa.cap (fun i => (r.pa.f i).cells) r.ad.a r.ad.n r.ad.cap (fun i => (r.ad.f i).cells)
      hW.size hbx.lt (hbx.cell 0 rfl) (hbx.cell 1 rfl) ((hr.2.2.2.2.1.below (Below.refl _ _) hB).below hW (Nat.le_refl _)).1 ((hr.2.2.2.2.2.1.below (Below.refl _ _) hB).below hW (Nat.le_refl _)).1
      (fun i hi => rfl) (fun i hi => rfl) (fun i hi u hu => (one_fcells _).2 u hu) (fun i hi u hu => (one_fcells _).2 u hu) h1 h2)
  rw [show (w.alloc (.cells r.cells.toArray 46)).heap.size = w.heap.size + 1 by simp] at hcc
  have HCC := Lib.hid hcc
  have HAD := Lib.hid (fun (N : Nat) (W : World) (base : Nat) (v : Value) (h : W.ownsRow base 9 1 v N (nmsV r N)) (hbs : base ≤ W.heap.size) (hs : N ≤ 1000000) =>
    show Calls Tryz.prog 199 #[v] W fun e w' => e = .returned (.bool (decide ((List.range N).map fun k => (r.part k).name).Nodup)) ∧ Below base W w' by
      have hlen : (octL ((List.range N).map fun k => (r.part k).name)).length = N := by rw [octL_len]; simp
      have h2 := areDistinct_ok W base v (octL ((List.range N).map fun k => (r.part k).name)) (by
        rw [hlen, octL_enc, List.map_map]
        exact h) (by rw [hlen]; exact hs) hbs
      rw [octL_nodup] at h2
      exact h2)
  have HPC := Lib.hid (show ∀ i, (if i < r.pa.n then (r.pa.f i).cells else (r.ad.f (i - r.pa.n)).cells) = (r.part i).cells from fun i => by unfold DT.part; split <;> rfl)
  clear hcc hx hb hr hB
  by_cases hk : r.kind = 8 ∨ r.kind = 10
  · have HL2 := Lib.hid (show r.partsOk rows = (decide (r.pa.n ≤ 256) && decide (r.ad.n ≤ 256) && allN (fun k => (r.part k).ok r.kind rows) (r.pa.n + r.ad.n) && decide (((List.range (r.pa.n + r.ad.n)).map fun k => (r.part k).name).Nodup)) from by rw [HL.out, if_pos hk])
    have hq : (r.kind != 8) = false ∨ ((r.kind != 8) = true ∧ (r.kind != 10) = false) := by
      rcases hk with hk | hk
      · rw [hk]; exact .inl rfl
      · rw [hk]; exact .inr ⟨rfl, rfl⟩
    have HFA := Lib.hid (fun W => areFewF_ok W r.pa.a r.pa.n r.pa.cap)
    have HFB := Lib.hid (fun W => areFewF_ok W r.ad.a r.ad.n r.ad.cap)
    generalize r.partsOk rows = res at *
    by_cases h1 : r.pa.n ≤ 256
    · by_cases h2 : r.ad.n ≤ 256
      · rcases hq with q8 | ⟨q8, q10⟩
        · have HZ0 := Lib.hid (show res = (allN (fun k => (r.part k).ok r.kind rows) (r.pa.n + r.ad.n) && decide (((List.range (r.pa.n + r.ad.n)).map fun k => (r.part k).name).Nodup)) from by rw [HL2.out, decide_eq_true h1, decide_eq_true h2]; rfl)
          simp only [decide_eq_true h1] at HFA
          simp only [decide_eq_true h2] at HFB
          have hcon := HCC.out (by omega) (by omega)
          have hadn := fun W base v h hbs => HAD.out (r.pa.n + r.ad.n) W base v h hbs (by omega)
          have HNN := Lib.hid (show r.pa.n + r.ad.n ≤ 512 by omega)
          obtain ⟨N, hN⟩ : ∃ N, r.pa.n + r.ad.n = N := ⟨_, rfl⟩
          rw [hN] at hcon hadn HZ0 HNN
          have HC2 := Lib.hid hcon
          have HA2 := Lib.hid hadn
          clear h1 h2 HL HL2 HCC HAD hcon hadn hN
          go_enter Tryz.func144, Tryz.ntmps144
          go_wp2_with fail
          refine (HFA.out _).mono ?_
          rintro e w1 ⟨rfl, rfl⟩
          go_wp2_with fail
          refine (HFB.out _).mono ?_
          rintro e w1 ⟨rfl, rfl⟩
          go_wp2_with fail
          refine HC2.out.mono ?_
          rintro e w2 ⟨v, rfl, hrow, h2⟩
          have hw1 := HB0.out.alloc HB0.out.size (.cells #[.slice r.pa.a r.pa.n r.pa.cap, .slice r.ad.a r.ad.n r.ad.cap] 43)
          have HB2 := Lib.hid (hw1.trans (h2.mono hw1.size))
          have HX2 := Lib.hid ((HX0.out.alloc (.cells #[.slice r.pa.a r.pa.n r.pa.cap, .slice r.ad.a r.ad.n r.ad.cap] 43)).below h2 (HX0.out.alloc _).lt)
          obtain ⟨va, vc, rfl, hvc, hel⟩ := hrow
          have HEL := Lib.hid hel
          have HVC := Lib.hid hvc
          obtain ⟨g, hg⟩ : ∃ g, w.heap.size = g := ⟨_, rfl⟩
          have HG := Lib.hid hg
          rw [hg] at HX2 ⊢
          clear hw1 h2 hel hvc hg c0 c8 c9 HC2 HX0 HB0 q8
          go_wp2_with fail
          go_loopw [5, 43] (fun nv iv wr => RelPa w2 r rows N nv iv wr) (fun _ iv _ => N - (Lib.intOf iv).toNat)
          case atStart => exact ⟨0, Nat.zero_le _, rfl, World.ownsRow_nil _ _ _ _, rfl, Below.refl _ _⟩
          case round =>
            obtain ⟨i, hi, rfl, hown, hall, hbel⟩ := hrel
            have HO := Lib.hid hown
            have HA := Lib.hid hall
            have HB := Lib.hid hbel
            clear hown hall hbel
            by_cases hlt : i < N
            · have q1 : decide ((i : Int) < (N : Int)) = true := decide_eq_true (by omega)
              have q1n : decide (i < N) = true := decide_eq_true hlt
              have q3 : IntKind.i64.wrap ((i : Int) + 1) = ((i + 1 : Nat) : Int) := wrap_succ hlt (by have := HNN.out; omega)
              obtain ⟨gx, ox, hix, _, hgx, hrd⟩ := HEL.out i hlt
              have hrd2 : wr.rangeAt gx ox (r.part i).cells := by
                rw [← HPC.out i]
                exact fun j u hj => (World.cell?_of_block (w := w2) (a := ⟨gx, ox + j, none⟩) (HB.out.block gx hgx)).trans (hrd j u hj)
              have HPA := Lib.hid (fun (W : World) => isPartRight_ok W (r.part i) r.kind rows)
              have HNX := Lib.hid (nmsV_succ r i)
              have HAS := Lib.hid (fun (h : (r.part i).ok r.kind rows = true) => allN_succ (f := fun k => (r.part k).ok r.kind rows) HA.out h)
              have HAF := Lib.hid (fun (h : (r.part i).ok r.kind rows = false) => allN_no (f := fun k => (r.part k).ok r.kind rows) hlt h)
              have HRD := Lib.hid hrd2
              rw [list4] at HPA HRD
              generalize (r.part i).ok r.kind rows = pok at *
              obtain ⟨nm, hnm⟩ : ∃ x, (r.part i).name = x := ⟨_, rfl⟩
              obtain ⟨pt, hpt⟩ : ∃ x, (r.part i).t = x := ⟨_, rfl⟩
              obtain ⟨po, hpo⟩ : ∃ x, (r.part i).opt = x := ⟨_, rfl⟩
              obtain ⟨da, hda⟩ : ∃ x, (r.part i).d.a = x := ⟨_, rfl⟩
              obtain ⟨dn, hdn⟩ : ∃ x, (r.part i).d.n = x := ⟨_, rfl⟩
              obtain ⟨dc, hdc⟩ : ∃ x, (r.part i).d.cap = x := ⟨_, rfl⟩
              rw [hnm, hpt, hpo, hda, hdn, hdc] at HPA HRD
              rw [hnm] at HNX
              have HN3 := Lib.hid (Bx.new wr #[.string nm, .int .i64 pt, .bool po, .slice da dn dc] 48)
              have n0 := HN3.out.cell 0 (v := .string nm) rfl
              have n1 := HN3.out.cell 1 (v := .int .i64 pt) rfl
              have n2 := HN3.out.cell 2 (v := .bool po) rfl
              have n3 := HN3.out.cell 3 (v := .slice da dn dc) rfl
              have HXw := Lib.hid ((HX2.out.below HB.out HX2.out.lt).alloc (.cells #[.string nm, .int .i64 pt, .bool po, .slice da dn dc] 48))
              have k0 := HXR.out g _ HXw.out
              have HB3 := Lib.hid (HB.out.alloc HB.out.size (.cells #[.string nm, .int .i64 pt, .bool po, .slice da dn dc] 48))
              have HO3 := Lib.hid (World.ownsRow.alloc HO.out (.cells #[.string nm, .int .i64 pt, .bool po, .slice da dn dc] 48))
              clear hrd hrd2 hgx hnm hpt hpo hda hdn hdc
              go_wp2_with (first
                | (refine wpList_load_mid rfl 48 (.tmp 45) rfl gx ox rfl [.string nm, .int .i64 pt, .bool po, .slice da dn dc] _ HRD.out Tryz.underlying48 rfl (by kernel_rfl) ?_)
                | (refine wpList_store_new rfl 48 (.tmp 7) (.tmp 46) rfl 4 _ [.string nm, .int .i64 pt, .bool po, .slice da dn dc] rfl rfl (by kernel_rfl) (by simp [Value.oneCell']) rfl rfl ?_))
              refine (HPA.out _).mono ?_
              rintro e w4 ⟨rfl, h4⟩
              have m0 := (HN3.out.below h4 HN3.out.lt).cell 0 (v := .string nm) rfl
              have HO4 := Lib.hid (own_under HO3.out h4)
              have HB4 := Lib.hid (HB3.out.trans (h4.mono HB3.out.size))
              clear h4 n0 n1 n2 n3 k0 HPA HRD HXw HN3 HO3
              cases pok with
              | false =>
                have HZ := Lib.hid (show res = false from by rw [HZ0.out, HAF.out rfl]; rfl)
                go_wp2_with fail
                go_ret
                exact ⟨by rw [HZ.out]; first | rfl | simp, by first | exact HB2.out.trans (HB4.out.mono HB2.out.size) | (rw [← HG.out]; exact HB2.out.trans (HB4.out.mono HB2.out.size))⟩
              | true =>
                have HA4 := Lib.hid (HAS.out rfl)
                go_wp2_with (at_builtin; (refine wpList_append_own _ rfl (.tmp 53) (.tmp 56) 23 rfl w2.heap.size 9 i0 (.string ⟨#[]⟩) 1 16 Tryz.underlying23 hi0 hz0 hz1 hz2 rfl (by decide) _ i (nmsV r i) rfl (World.ownsRow.alloc HO4.out _) ⟨w4.heap.size, 0, none⟩ 1 1 [.string nm] rfl rfl (cell_one_new _ _ _) (by intro u hu; simp at hu; subst hu; rfl) (by have := HNN.out; unfold maxLen; omega) (by have := HNN.out; omega) (by have := HB4.out.size; first | omega | (simp; omega)) ?_; intro v5 w5 hown5 hgr5 _; have HO5 := Lib.hid hown5; have HG5 := Lib.hid hgr5; clear hown5 hgr5))
                go_roundw
                case rel => exact ⟨i + 1, hlt, rfl, by rw [HNX.out]; exact HO5.out, HA4.out, grown_below (HB4.out.alloc HB4.out.size _) (World.ownsRow.alloc HO4.out _) (by have := HB4.out.size; first | omega | (simp; omega)) HG5.out⟩
                case measure => simp only [Lib.intOf]; omega
            · have q1 : decide ((i : Int) < (N : Int)) = false := decide_eq_false (by omega)
              have q1n : decide (i < N) = false := decide_eq_false hlt
              obtain rfl : i = N := by omega
              have HD := Lib.hid (HA2.out wr _ _ HO.out HB.out.size)
              have HZ := Lib.hid (show res = decide (((List.range i).map fun k => (r.part k).name).Nodup) from by rw [HZ0.out, HA.out]; rfl)
              rw [← HZ.out] at HD
              go_wp2_with fail
              refine HD.out.mono ?_
              rintro e w5 ⟨rfl, h5⟩
              have HB5 := Lib.hid (HB2.out.trans ((HB.out.trans h5).mono HB2.out.size))
              go_wp2_with fail
              go_ret
              exact ⟨rfl, by first | exact HB5.out | (rw [← HG.out]; exact HB5.out)⟩
        · have HZ0 := Lib.hid (show res = (allN (fun k => (r.part k).ok r.kind rows) (r.pa.n + r.ad.n) && decide (((List.range (r.pa.n + r.ad.n)).map fun k => (r.part k).name).Nodup)) from by rw [HL2.out, decide_eq_true h1, decide_eq_true h2]; rfl)
          simp only [decide_eq_true h1] at HFA
          simp only [decide_eq_true h2] at HFB
          have hcon := HCC.out (by omega) (by omega)
          have hadn := fun W base v h hbs => HAD.out (r.pa.n + r.ad.n) W base v h hbs (by omega)
          have HNN := Lib.hid (show r.pa.n + r.ad.n ≤ 512 by omega)
          obtain ⟨N, hN⟩ : ∃ N, r.pa.n + r.ad.n = N := ⟨_, rfl⟩
          rw [hN] at hcon hadn HZ0 HNN
          have HC2 := Lib.hid hcon
          have HA2 := Lib.hid hadn
          clear h1 h2 HL HL2 HCC HAD hcon hadn hN
          go_enter Tryz.func144, Tryz.ntmps144
          go_wp2_with fail
          refine (HFA.out _).mono ?_
          rintro e w1 ⟨rfl, rfl⟩
          go_wp2_with fail
          refine (HFB.out _).mono ?_
          rintro e w1 ⟨rfl, rfl⟩
          go_wp2_with fail
          refine HC2.out.mono ?_
          rintro e w2 ⟨v, rfl, hrow, h2⟩
          have hw1 := HB0.out.alloc HB0.out.size (.cells #[.slice r.pa.a r.pa.n r.pa.cap, .slice r.ad.a r.ad.n r.ad.cap] 43)
          have HB2 := Lib.hid (hw1.trans (h2.mono hw1.size))
          have HX2 := Lib.hid ((HX0.out.alloc (.cells #[.slice r.pa.a r.pa.n r.pa.cap, .slice r.ad.a r.ad.n r.ad.cap] 43)).below h2 (HX0.out.alloc _).lt)
          obtain ⟨va, vc, rfl, hvc, hel⟩ := hrow
          have HEL := Lib.hid hel
          have HVC := Lib.hid hvc
          obtain ⟨g, hg⟩ : ∃ g, w.heap.size = g := ⟨_, rfl⟩
          have HG := Lib.hid hg
          rw [hg] at HX2 ⊢
          clear hw1 h2 hel hvc hg c0 c8 c9 HC2 HX0 HB0 q8
          go_wp2_with fail
          go_loopw [5, 43] (fun nv iv wr => RelPa w2 r rows N nv iv wr) (fun _ iv _ => N - (Lib.intOf iv).toNat)
          case atStart => exact ⟨0, Nat.zero_le _, rfl, World.ownsRow_nil _ _ _ _, rfl, Below.refl _ _⟩
          case round =>
            obtain ⟨i, hi, rfl, hown, hall, hbel⟩ := hrel
            have HO := Lib.hid hown
            have HA := Lib.hid hall
            have HB := Lib.hid hbel
            clear hown hall hbel
            by_cases hlt : i < N
            · have q1 : decide ((i : Int) < (N : Int)) = true := decide_eq_true (by omega)
              have q1n : decide (i < N) = true := decide_eq_true hlt
              have q3 : IntKind.i64.wrap ((i : Int) + 1) = ((i + 1 : Nat) : Int) := wrap_succ hlt (by have := HNN.out; omega)
              obtain ⟨gx, ox, hix, _, hgx, hrd⟩ := HEL.out i hlt
              have hrd2 : wr.rangeAt gx ox (r.part i).cells := by
                rw [← HPC.out i]
                exact fun j u hj => (World.cell?_of_block (w := w2) (a := ⟨gx, ox + j, none⟩) (HB.out.block gx hgx)).trans (hrd j u hj)
              have HPA := Lib.hid (fun (W : World) => isPartRight_ok W (r.part i) r.kind rows)
              have HNX := Lib.hid (nmsV_succ r i)
              have HAS := Lib.hid (fun (h : (r.part i).ok r.kind rows = true) => allN_succ (f := fun k => (r.part k).ok r.kind rows) HA.out h)
              have HAF := Lib.hid (fun (h : (r.part i).ok r.kind rows = false) => allN_no (f := fun k => (r.part k).ok r.kind rows) hlt h)
              have HRD := Lib.hid hrd2
              rw [list4] at HPA HRD
              generalize (r.part i).ok r.kind rows = pok at *
              obtain ⟨nm, hnm⟩ : ∃ x, (r.part i).name = x := ⟨_, rfl⟩
              obtain ⟨pt, hpt⟩ : ∃ x, (r.part i).t = x := ⟨_, rfl⟩
              obtain ⟨po, hpo⟩ : ∃ x, (r.part i).opt = x := ⟨_, rfl⟩
              obtain ⟨da, hda⟩ : ∃ x, (r.part i).d.a = x := ⟨_, rfl⟩
              obtain ⟨dn, hdn⟩ : ∃ x, (r.part i).d.n = x := ⟨_, rfl⟩
              obtain ⟨dc, hdc⟩ : ∃ x, (r.part i).d.cap = x := ⟨_, rfl⟩
              rw [hnm, hpt, hpo, hda, hdn, hdc] at HPA HRD
              rw [hnm] at HNX
              have HN3 := Lib.hid (Bx.new wr #[.string nm, .int .i64 pt, .bool po, .slice da dn dc] 48)
              have n0 := HN3.out.cell 0 (v := .string nm) rfl
              have n1 := HN3.out.cell 1 (v := .int .i64 pt) rfl
              have n2 := HN3.out.cell 2 (v := .bool po) rfl
              have n3 := HN3.out.cell 3 (v := .slice da dn dc) rfl
              have HXw := Lib.hid ((HX2.out.below HB.out HX2.out.lt).alloc (.cells #[.string nm, .int .i64 pt, .bool po, .slice da dn dc] 48))
              have k0 := HXR.out g _ HXw.out
              have HB3 := Lib.hid (HB.out.alloc HB.out.size (.cells #[.string nm, .int .i64 pt, .bool po, .slice da dn dc] 48))
              have HO3 := Lib.hid (World.ownsRow.alloc HO.out (.cells #[.string nm, .int .i64 pt, .bool po, .slice da dn dc] 48))
              clear hrd hrd2 hgx hnm hpt hpo hda hdn hdc
              go_wp2_with (first
                | (refine wpList_load_mid rfl 48 (.tmp 45) rfl gx ox rfl [.string nm, .int .i64 pt, .bool po, .slice da dn dc] _ HRD.out Tryz.underlying48 rfl (by kernel_rfl) ?_)
                | (refine wpList_store_new rfl 48 (.tmp 7) (.tmp 46) rfl 4 _ [.string nm, .int .i64 pt, .bool po, .slice da dn dc] rfl rfl (by kernel_rfl) (by simp [Value.oneCell']) rfl rfl ?_))
              refine (HPA.out _).mono ?_
              rintro e w4 ⟨rfl, h4⟩
              have m0 := (HN3.out.below h4 HN3.out.lt).cell 0 (v := .string nm) rfl
              have HO4 := Lib.hid (own_under HO3.out h4)
              have HB4 := Lib.hid (HB3.out.trans (h4.mono HB3.out.size))
              clear h4 n0 n1 n2 n3 k0 HPA HRD HXw HN3 HO3
              cases pok with
              | false =>
                have HZ := Lib.hid (show res = false from by rw [HZ0.out, HAF.out rfl]; rfl)
                go_wp2_with fail
                go_ret
                exact ⟨by rw [HZ.out]; first | rfl | simp, by first | exact HB2.out.trans (HB4.out.mono HB2.out.size) | (rw [← HG.out]; exact HB2.out.trans (HB4.out.mono HB2.out.size))⟩
              | true =>
                have HA4 := Lib.hid (HAS.out rfl)
                go_wp2_with (at_builtin; (refine wpList_append_own _ rfl (.tmp 53) (.tmp 56) 23 rfl w2.heap.size 9 i0 (.string ⟨#[]⟩) 1 16 Tryz.underlying23 hi0 hz0 hz1 hz2 rfl (by decide) _ i (nmsV r i) rfl (World.ownsRow.alloc HO4.out _) ⟨w4.heap.size, 0, none⟩ 1 1 [.string nm] rfl rfl (cell_one_new _ _ _) (by intro u hu; simp at hu; subst hu; rfl) (by have := HNN.out; unfold maxLen; omega) (by have := HNN.out; omega) (by have := HB4.out.size; first | omega | (simp; omega)) ?_; intro v5 w5 hown5 hgr5 _; have HO5 := Lib.hid hown5; have HG5 := Lib.hid hgr5; clear hown5 hgr5))
                go_roundw
                case rel => exact ⟨i + 1, hlt, rfl, by rw [HNX.out]; exact HO5.out, HA4.out, grown_below (HB4.out.alloc HB4.out.size _) (World.ownsRow.alloc HO4.out _) (by have := HB4.out.size; first | omega | (simp; omega)) HG5.out⟩
                case measure => simp only [Lib.intOf]; omega
            · have q1 : decide ((i : Int) < (N : Int)) = false := decide_eq_false (by omega)
              have q1n : decide (i < N) = false := decide_eq_false hlt
              obtain rfl : i = N := by omega
              have HD := Lib.hid (HA2.out wr _ _ HO.out HB.out.size)
              have HZ := Lib.hid (show res = decide (((List.range i).map fun k => (r.part k).name).Nodup) from by rw [HZ0.out, HA.out]; rfl)
              rw [← HZ.out] at HD
              go_wp2_with fail
              refine HD.out.mono ?_
              rintro e w5 ⟨rfl, h5⟩
              have HB5 := Lib.hid (HB2.out.trans ((HB.out.trans h5).mono HB2.out.size))
              go_wp2_with fail
              go_ret
              exact ⟨rfl, by first | exact HB5.out | (rw [← HG.out]; exact HB5.out)⟩
      · rcases hq with q8 | ⟨q8, q10⟩
        · have HZ := Lib.hid (show res = false from by rw [HL2.out, decide_eq_true h1, decide_eq_false h2]; rfl)
          simp only [decide_eq_true h1] at HFA
          simp only [decide_eq_false h2] at HFB
          clear h1 h2 HL HCC HAD HPC
          go_enter Tryz.func144, Tryz.ntmps144
          go_wp2_with fail
          refine (HFA.out _).mono ?_
          rintro e w1 ⟨rfl, rfl⟩
          go_wp2_with fail
          refine (HFB.out _).mono ?_
          rintro e w1 ⟨rfl, rfl⟩
          go_wp2_with fail
          go_ret
          exact ⟨by rw [HZ.out]; first | rfl | simp, HB0.out⟩
        · have HZ := Lib.hid (show res = false from by rw [HL2.out, decide_eq_true h1, decide_eq_false h2]; rfl)
          simp only [decide_eq_true h1] at HFA
          simp only [decide_eq_false h2] at HFB
          clear h1 h2 HL HCC HAD HPC
          go_enter Tryz.func144, Tryz.ntmps144
          go_wp2_with fail
          refine (HFA.out _).mono ?_
          rintro e w1 ⟨rfl, rfl⟩
          go_wp2_with fail
          refine (HFB.out _).mono ?_
          rintro e w1 ⟨rfl, rfl⟩
          go_wp2_with fail
          go_ret
          exact ⟨by rw [HZ.out]; first | rfl | simp, HB0.out⟩
    · rcases hq with q8 | ⟨q8, q10⟩
      · have HZ := Lib.hid (show res = false from by rw [HL2.out, decide_eq_false h1]; rfl)
        simp only [decide_eq_false h1] at HFA
        clear h1 HL HCC HAD HPC
        go_enter Tryz.func144, Tryz.ntmps144
        go_wp2_with fail
        refine (HFA.out _).mono ?_
        rintro e w1 ⟨rfl, rfl⟩
        go_wp2_with fail
        go_ret
        exact ⟨by rw [HZ.out]; first | rfl | simp, HB0.out⟩
      · have HZ := Lib.hid (show res = false from by rw [HL2.out, decide_eq_false h1]; rfl)
        simp only [decide_eq_false h1] at HFA
        clear h1 HL HCC HAD HPC
        go_enter Tryz.func144, Tryz.ntmps144
        go_wp2_with fail
        refine (HFA.out _).mono ?_
        rintro e w1 ⟨rfl, rfl⟩
        go_wp2_with fail
        go_ret
        exact ⟨by rw [HZ.out]; first | rfl | simp, HB0.out⟩
  · have HL2 := Lib.hid (show r.partsOk rows = (decide (r.pa.n = 0) && decide (r.ad.n = 0)) from by rw [HL.out, if_neg hk])
    generalize r.partsOk rows = res at *
    generalize r.kind = kd at *
    generalize r.pa.n = pn at *
    generalize r.ad.n = an at *
    have q8 : (kd != 8) = true := bne_iff_ne.2 fun h => hk (.inl h)
    have q10 : (kd != 10) = true := bne_iff_ne.2 fun h => hk (.inr h)
    clear hk HL HCC HAD HPC HXR hi0 hz0 hz1 hz2
    by_cases h1 : pn = 0
    · subst h1
      obtain ⟨b, hb⟩ : ∃ b, ((an : Int) == 0) = b := ⟨_, rfl⟩
      have HZ := Lib.hid (show res = b from by
        rw [HL2.out, ← hb]
        simp only [decide_true, Bool.true_and]
        by_cases h : an = 0
        · subst h; rfl
        · rw [beq_eq_false_iff_ne.2 (show (an : Int) ≠ 0 by omega), decide_eq_false h])
      go_enter Tryz.func144, Tryz.ntmps144
      go_wp2_with fail
      go_ret
      exact ⟨by rw [HZ.out]; first | rfl | simp, HB0.out⟩
    · have q1 : ((pn : Int) == 0) = false := beq_eq_false_iff_ne.2 (by omega)
      have q1n : (pn == 0) = false := beq_eq_false_iff_ne.2 h1
      have HZ := Lib.hid (show res = false from by rw [HL2.out, decide_eq_false h1]; rfl)
      clear h1
      go_enter Tryz.func144, Tryz.ntmps144
      go_wp2_with fail
      go_ret
      exact ⟨by rw [HZ.out]; rfl, HB0.out⟩
end Go.Proofs.YtjhecpkdpomkmaaGreat
