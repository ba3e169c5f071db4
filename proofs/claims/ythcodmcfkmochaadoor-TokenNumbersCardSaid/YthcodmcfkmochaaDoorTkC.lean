/-
  Package token: Scan.
-/
import Derived.Test.YthcodmcfkmochaaDoorTkK
import Derived.Laws.BytesArg
import Derived.Deep.QuietTactic
namespace Go.Proofs.YthcodmcfkmochaaDoor
open Go.RowKit
set_option linter.unusedVariables false
set_option linter.unusedSimpArgs false
set_option maxRecDepth 100000

/-! ### slices of octets -/
def Sl (w : World) (v : Value) (l : List Nat) : Prop := (∃ g o cap, v = .slice (some ⟨g, o, none⟩) l.length cap ∧ ∀ i, i < l.length → w.cell? ⟨g, o + i, none⟩ = some (.int .u8 (l.getD i 0 : Nat))) ∨ (l = [] ∧ ∃ a cap, v = .slice a 0 cap)
theorem Sl.below {w w' : World} {v : Value} {l : List Nat} (h : Sl w v l) (hb : Below w.heap.size w w') : Sl w' v l := by
  rcases h with ⟨g, o, cap, e, hd⟩ | h
  · refine .inl ⟨g, o, cap, e, fun i hi => ?_⟩
    rw [← hd i hi]
    exact World.cell?_of_block (w := w) (hb.block g (World.block_lt_of_cell? w _ (hd i hi)))
  · exact .inr h
theorem bstr_nums (l : List Nat) : strOfNums (l.map fun n : Nat => (n : Int)) = bstr l := by
  unfold strOfNums bstr
  congr 2
  rw [List.map_map]
  rfl
theorem conv_to (w : World) (v : Value) (l : List Nat) (h : Sl w v l) (t : TypeId) (ht : Tryd.prog.underlying t = some .string) : (convert 24 t v).run Tryd.prog w = .ok (.string (bstr l)) w := by
  rcases h with ⟨g, o, cap, rfl, hd⟩ | ⟨rfl, a, cap, rfl⟩
  · rw [← bstr_nums]
    refine run_convert_bytes_arg w 24 5 Tryd.underlying24 Tryd.underlying5 g o l.length cap _ (by simp) (fun i hi => ?_) t ht
    rw [hd i hi]
    simp [List.getD_eq_getElem?_getD, hi]
  · cases a with
    | none => exact run_convert_bytes_nil w 24 5 Tryd.underlying24 Tryd.underlying5 0 cap t ht
    | some x =>
      rw [run_convert_bytes_string w 24 t 5 _ _ _ Tryd.underlying24 Tryd.underlying5 ht]
      exact run_bytesToString w x 0 cap [] rfl
theorem Sl.shape {w : World} {v : Value} {l : List Nat} (h : Sl w v l) : ∃ a cap, v = .slice a l.length cap := by
  rcases h with ⟨g, o, cap, e, _⟩ | ⟨rfl, a, cap, e⟩
  · exact ⟨_, _, e⟩
  · exact ⟨_, _, e⟩

/-! ### slices of tokens -/
def tcells (toks : List Tk) : List Value := toks.flatMap fun t => [.int .i64 (t.k : Nat), .string t.t, .int .i64 t.n, .int .i64 (t.a : Nat)]
theorem tcells_snoc (toks : List Tk) (t : Tk) : tcells (toks ++ [t]) = tcells toks ++ [.int .i64 (t.k : Nat), .string t.t, .int .i64 t.n, .int .i64 (t.a : Nat)] := by simp [tcells]
theorem tcells_length (toks : List Tk) : (tcells toks).length = toks.length * 4 := by
  induction toks with
  | nil => rfl
  | cons t r ih =>
    have e : tcells (t :: r) = [.int .i64 (t.k : Nat), .string t.t, .int .i64 t.n, .int .i64 (t.a : Nat)] ++ tcells r := rfl
    rw [e, List.length_append, ih, List.length_cons]
    simp
    omega
def OwnT (base : Nat) (w : World) (v : Value) (toks : List Tk) : Prop := w.ownsRow base 30 4 v toks.length (tcells toks)
theorem OwnT.nil (base : Nat) (w : World) : OwnT base w (.slice none 0 0) [] := World.ownsRow_nil _ _ _ _
theorem OwnT.keep {base : Nat} {w w' : World} {v : Value} {toks : List Tk} (h : OwnT base w v toks) (hk : ∀ k, base ≤ k → k < w.heap.size → w'.heap[k]? = w.heap[k]?) : OwnT base w' v toks := by
  obtain ⟨h1, h2⟩ := h
  refine ⟨h1, ?_⟩
  rcases h2 with h2 | ⟨g, cap, cur, hv, hg, hh, r⟩
  · exact .inl h2
  · exact .inr ⟨g, cap, cur, hv, hg, (hk g hg (Array.getElem?_eq_some_iff.1 hh).1).trans hh, r⟩
theorem OwnT.below {base : Nat} {w w' : World} {v : Value} {toks : List Tk} (h : OwnT base w v toks) (hb : Below w.heap.size w w') : OwnT base w' v toks := h.keep fun k _ hk => hb.block k hk
theorem OwnT.only {base b : Nat} {w w' : World} {v : Value} {toks : List Tk} (h : OwnT base w v toks) (ho : Only b w w') (hb : b < base) : OwnT base w' v toks := h.keep fun k hk1 hk => ho.block k hk (by omega)
theorem OwnT.base {base b2 : Nat} {w : World} {v : Value} {toks : List Tk} (h : OwnT base w v toks) (hb : b2 ≤ base) : OwnT b2 w v toks := by
  obtain ⟨h1, h2⟩ := h
  refine ⟨h1, ?_⟩
  rcases h2 with h2 | ⟨g, cap, cur, hv, hg, r⟩
  · exact .inl h2
  · exact .inr ⟨g, cap, cur, hv, by omega, r⟩
def tkZero : Value := .agg #[.int .i64 0, .string ⟨#[]⟩, .int .i64 0, .int .i64 0]
theorem info_tok : (Tryd.prog.info? 30).map (fun i => (i.zero, i.size, i.bytes)) = some (some tkZero, 4, 40) := by kernel_rfl
theorem new_tok (w : World) (t : Tk) : ∀ j u, [Value.int .i64 (t.k : Nat), .string t.t, .int .i64 t.n, .int .i64 (t.a : Nat)][j]? = some u → (w.alloc (.cells #[.int .i64 (t.k : Nat), .string t.t, .int .i64 t.n, .int .i64 (t.a : Nat)] 30)).cell? ((⟨w.heap.size, 0, none⟩ : Addr).add j) = some u := by
  intro j u hj
  rw [Addr.add_mid, Nat.zero_add, cell_of_row _ _ _ _ _ _ (heap_alloc_new w _)]
  simpa using hj
theorem one_tok (t : Tk) : ∀ u ∈ [Value.int .i64 (t.k : Nat), .string t.t, .int .i64 t.n, .int .i64 (t.a : Nat)], u.oneCell' = true := by
  intro u hu
  simp at hu
  rcases hu with rfl | rfl | rfl | rfl <;> rfl
theorem scGo_end {s : ByteArray} {n p : Nat} {acc : List Tk} (h : ¬ p < s.size) : scGo s (n + 1) p acc = ⟨acc, p, 0⟩ := if_neg h
theorem scGo_err {s : ByteArray} {n p : Nat} {acc : List Tk} (h : p < s.size) (h2 : (tkEnd (cods s) p).2 = p) : scGo s (n + 1) p acc = ⟨[], p, 6⟩ := (if_pos h).trans (if_pos h2)
theorem scGo_step {s : ByteArray} {n p : Nat} {acc : List Tk} (h : p < s.size) (h2 : ¬ (tkEnd (cods s) p).2 = p) : scGo s (n + 1) p acc = scGo s n (skp (cods s) (tkEnd (cods s) p).2) (acc ++ [tkOf s (tkEnd (cods s) p).1 p (tkEnd (cods s) p).2]) := (if_pos h).trans (if_neg h2)
theorem sc_grown {w3 w4 : World} {g q : Nat} {s : ByteArray} {v : Value} {acc : List Tk} {C : Obj} (hs : ScAt w3 g s q) (ho : OwnT (g + 1) w3 v acc) (hg : (w3.alloc C).grownBy w4 v.ownBlock) : ScAt w4 g s q := by
  have h1 : (w3.alloc C).heap[g]? = w3.heap[g]? := heap_alloc_old w3 C hs.lt
  have h2 : g < (w3.alloc C).heap.size := by have := hs.lt; simp; omega
  refine (hg.block g h2 (fun e => ?_)).trans (h1.trans hs)
  have := (ho.lt g e.symm).1
  omega
theorem ownT_snoc {base : Nat} {w : World} {v : Value} {acc : List Tk} {t : Tk} (h : w.ownsRow base 30 4 v (acc.length + 1) (tcells acc ++ [.int .i64 (t.k : Nat), .string t.t, .int .i64 t.n, .int .i64 (t.a : Nat)])) : OwnT base w v (acc ++ [t]) := by
  unfold OwnT
  rw [tcells_snoc, List.length_append, List.length_singleton]
  exact h
def RelSc (w : World) (g : Nat) (s : ByteArray) (R : Sc) (tv : Value) (wr : World) : Prop :=
  ∃ (acc : List Tk) (q n : Nat), q ≤ s.size ∧ acc.length ≤ q ∧ s.size + 1 ≤ n + q ∧ scGo s n q acc = R ∧ ScAt wr g s q ∧ OwnT (g + 1) wr tv acc ∧ Below w.heap.size w wr
set_option maxHeartbeats 8000000 in
theorem scan_ok (w : World) (v : Value) (l : List Nat) (hv : Sl w v l) (hl8 : ∀ x ∈ l, x < 256) (hl : l.length ≤ 65536) (hgl : Gl w) :
    Calls Tryd.prog 12 #[v] w fun e w' => ∃ tv, e = .returned (.tuple #[tv, .int .i64 ((scF (bstr l)).p : Nat), .int .i64 (scF (bstr l)).e]) ∧ OwnT w.heap.size w' tv (scF (bstr l)).l ∧ Below w.heap.size w w' := by
  obtain ⟨a, cap, rfl⟩ := hv.shape
  obtain ⟨i0, hi0, hz0, hz1, hz2⟩ := info_parts info_tok
  have cv := conv_to w _ l hv 36 Tryd.underlying36
  have hs : (bstr l).size ≤ 100000 := by rw [bstr_size]; omega
  generalize bstr l = s at *
  obtain ⟨R, hR⟩ : ∃ R, scF s = R := ⟨_, rfl⟩
  rw [hR]
  have HR := Lib.hid (show scGo s (s.size + 1) (skp (cods s) 0) [] = R from hR)
  have HGL := Lib.hid hgl
  have hlen := cods_length s
  have HSK := Lib.hid (show ∀ p, p ≤ s.size → p ≤ skp (cods s) p ∧ skp (cods s) p ≤ s.size from fun p hp => by have := skp_le (l := cods s) (p := p) (by omega); omega)
  have HTE := Lib.hid (show ∀ p, p < s.size → (tkEnd (cods s) p).2 = p ∨ (p + 1 ≤ (tkEnd (cods s) p).2 ∧ (tkEnd (cods s) p).2 ≤ s.size) from fun p hp => by have := tkEnd_le (l := cods s) (p := p) (by omega); omega)
  obtain ⟨n0, hn0⟩ : ∃ n0, l.length = n0 := ⟨_, rfl⟩
  rw [hn0] at cv ⊢
  have q0 : decide ((65536 : Int) < (n0 : Int)) = false := decide_eq_false (by omega)
  clear hv hl8 hl hgl hR hlen hn0
  go_enter Tryd.func12, Tryd.ntmps12
  go_wp2_with fail
  have hb0 : Below w.heap.size w (w.alloc (.cells #[.string s, .int .i64 0] 38)) := (Below.refl _ _).alloc (Nat.le_refl _) _
  have hsc0 : ScAt (w.alloc (.cells #[.string s, .int .i64 0] 38)) w.heap.size s 0 := heap_alloc_new w _
  have HB0 := Lib.hid hb0
  have HS0 := Lib.hid hsc0
  clear hb0 hsc0 cv
  generalize w.alloc (.cells #[.string s, .int .i64 0] 38) = W at *
  obtain ⟨g, hg⟩ : ∃ g, w.heap.size = g := ⟨_, rfl⟩
  have HG := Lib.hid hg
  rw [hg] at HS0 ⊢
  clear hg
  refine (skip_ok W g s 0 HS0.out (Nat.zero_le _) hs).mono ?_
  rintro e w1 ⟨rfl, h1, h2⟩
  have HS1 := Lib.hid h1
  have HB1 := Lib.hid (HB0.out.trans (h2.below (Nat.le_of_eq HG.out) HB0.out.size))
  clear h1 h2 HS0
  go_wp2_with fail
  go_loopw [6] (fun tv wr => RelSc w g s R tv wr) (fun _ wr => s.size - posAt wr g)
  case atStart => exact ⟨[], skp (cods s) 0, s.size + 1, (HSK.out 0 (Nat.zero_le _)).2, Nat.zero_le _, by omega, HR.out, HS1.out, OwnT.nil _ _, HB1.out⟩
  case round =>
    clear HR HS1 HB1
    obtain ⟨acc, q, n, hq, hacc, hn, hgo, hsc, hown, hbel⟩ := hrel
    obtain ⟨m, rfl⟩ : ∃ m, n = m + 1 := ⟨n - 1, by omega⟩
    have HGO := Lib.hid hgo
    have HPO := Lib.hid hsc.pos
    have HS := Lib.hid hsc
    have HO := Lib.hid hown
    have HB := Lib.hid hbel
    have k0 := hsc.cells.1
    have k1 := hsc.cells.2.1
    have hgw : g < wr.heap.size := hsc.lt
    have HGW := Lib.hid (show Gl wr from HGL.out.below hbel)
    clear hgo hsc hown hbel
    by_cases hlt : q < s.size
    · have q1 : decide ((q : Int) < (s.size : Int)) = true := decide_eq_true (by omega)
      have q1n : decide (q < s.size) = true := decide_eq_true hlt
      have HE := Lib.hid (end_ok s q wr HGW.out hq hs)
      obtain ⟨k, e, hke⟩ : ∃ k e, tkEnd (cods s) q = (k, e) := ⟨_, _, rfl⟩
      have hte := HTE.out q hlt
      rw [hke] at hte
      rw [hke] at HE
      simp only at hte HE
      by_cases heq : e = q
      · subst heq
        have HN := Lib.hid ((scGo_err hlt (by rw [hke])).symm.trans HGO.out)
        have q2 : ((e : Int) == (e : Int)) = true := by simp
        clear hke hte
        go_wp2_with fail
        refine HE.out.mono ?_
        rintro r w2 ⟨rfl, hb⟩
        have HS2 := Lib.hid (HS.out.below hb)
        have HB2 := Lib.hid (HB.out.trans (hb.mono HB.out.size))
        clear hb k0 k1 HS HB HO
        have k0 := HS2.out.cells.1
        have k1 := HS2.out.cells.2.1
        go_wp2_with fail
        go_region
        go_wp2_with fail
        go_ret3
        rw [← HN.out]
        exact ⟨_, rfl, OwnT.nil _ _, HB2.out.drew⟩
      · have hke2 := hte.resolve_left heq
        have HT := Lib.hid (fun w h => token_ok s q k e w h hlt hs hke heq)
        have hN := (scGo_step hlt (by rw [hke]; exact heq)).symm.trans HGO.out
        rw [hke] at hN
        have HN := Lib.hid hN
        have q2 : ((e : Int) == (q : Int)) = false := beq_false_of_ne (by omega)
        have q2n : decide (e = q) = false := decide_eq_false heq
        clear hke hte hN heq HGO HTE
        go_wp2_with fail
        refine HE.out.mono ?_
        rintro r w2 ⟨rfl, hb⟩
        have HS2 := Lib.hid (HS.out.below hb)
        have HO2 := Lib.hid (HO.out.below hb)
        have HG2 := Lib.hid (HGW.out.below hb)
        have HB2 := Lib.hid (HB.out.trans (hb.mono HB.out.size))
        have hgw2 : g < w2.heap.size := HS2.out.lt
        clear hb k0 k1 HS HB HO HE HGW
        have k0 := HS2.out.cells.1
        have k1 := HS2.out.cells.2.1
        go_wp2_with fail
        refine (HT.out _ HG2.out).mono ?_
        rintro r w3 ⟨rfl, hb⟩
        have HS3 := Lib.hid (HS2.out.below hb)
        have HO3 := Lib.hid (HO2.out.below hb)
        have HB3 := Lib.hid (HB2.out.trans (hb.mono HB2.out.size))
        have hgw3 : g < w3.heap.size := HS3.out.lt
        clear hb k0 k1 HS2 HB2 HO2 HT HG2
        obtain ⟨t, ht⟩ : ∃ t, tkOf s k q e = t := ⟨_, rfl⟩
        rw [ht] at HN ⊢
        clear ht
        unfold tkVal
        go_wp2_with (at_builtin; refine wpList_append_own _ rfl (.tmp 34) (.tmp 39) 25 rfl (g + 1) 30 i0 tkZero 4 40 Tryd.underlying25 hi0 hz0 hz1 hz2 rfl (by decide) _ acc.length (tcells acc) rfl (World.ownsRow.alloc HO3.out _) ⟨w3.heap.size, 0, none⟩ 1 1 [.int .i64 (t.k : Nat), .string t.t, .int .i64 t.n, .int .i64 (t.a : Nat)] rfl rfl (new_tok _ _) (one_tok t) (by unfold maxLen; omega) (by omega) (by simp; omega) ?_; intro v' w4 hown4 hgr4 _; have HO4 := Lib.hid hown4; have HG4 := Lib.hid hgr4; have HS4 := Lib.hid (sc_grown HS3.out HO3.out hgr4); have k1 := HS4.out.cells.2.1; have f1 := HS4.out.cells.2.2; clear hown4 hgr4)
        have h2 := World.ownsRow.alloc HO3.out (.cells #[.int .i64 (t.k : Nat), .string t.t, .int .i64 t.n, .int .i64 (t.a : Nat)] 30)
        have hgg := HG.out
        have HB4 := Lib.hid ((HB3.out.alloc HB3.out.size (.cells #[.int .i64 (t.k : Nat), .string t.t, .int .i64 t.n, .int .i64 (t.a : Nat)] 30)).grown HG4.out (by have := HB3.out.size; simp; omega) (fun k hk => by have := (h2.lt k hk).1; omega))
        have HO5 := Lib.hid (ownT_snoc HO4.out)
        have HON := Lib.hid ((Only.refl g w4).set 1 (.int .i64 (e : Nat)))
        have HSe := HSK.out e hke2.2
        clear h2 hgg HO4 HG4 HS3 HO3 HB3 k1 f1
        refine (skip_ok _ g s e (HS4.out.set e _ rfl) hke2.2 hs).mono ?_
        rintro r w5 ⟨rfl, h1, h2⟩
        have HS6 := Lib.hid h1
        have HO6 := Lib.hid ((HO5.out.only HON.out (Nat.lt_succ_self g)).only h2 (Nat.lt_succ_self g))
        have HB6 := Lib.hid (HB4.out.trans ((HON.out.trans h2).below (Nat.le_of_eq HG.out) HB4.out.size))
        clear h1 h2 HS4 HO5 HB4 HON
        go_wp2_with fail
        go_roundw
        case rel => exact ⟨acc ++ [t], skp (cods s) e, m, HSe.2, by rw [List.length_append, List.length_singleton]; omega, by omega, HN.out, HS6.out, HO6.out, HB6.out⟩
        case measure =>
          rw [HS6.out.pos, HPO.out]
          omega
    · have q1 : decide ((q : Int) < (s.size : Int)) = false := decide_eq_false (by omega)
      have q1n : decide (q < s.size) = false := decide_eq_false hlt
      have HN := Lib.hid ((scGo_end hlt).symm.trans HGO.out)
      go_wp2_with fail
      go_region
      go_wp2_with fail
      go_ret3
      rw [← HN.out]
      have ho := (HO.out.below ((Below.refl _ _).drew)).base (Nat.le_succ g)
      exact ⟨_, rfl, ho.base (Nat.le_of_eq HG.out), HB.out.drew⟩
end Go.Proofs.YthcodmcfkmochaaDoor
