/-
  Package open: integers, written and read.
-/
import Derived.Test.YtinggfelgcdkfaaOpM
import Derived.Test.YtinggfelgcdkfaaOpMem
import Derived.Test.YtinggfelgcdkfaaLen
import Derived.Test.YtinggfelgcdkfaaLGet
import Derived.Test.YtinggfelgcdkfaaWRef
namespace Go.Proofs.Ytinggfelgcdkfaa
open Go.RowKit
set_option linter.unusedVariables false
set_option linter.unusedSimpArgs false
set_option maxRecDepth 100000

theorem putCounted_ok (w : World) (b : Nat) (B : List Bool) (al : Bool) (s : Value) (l : List Nat) (h : WrAt w b B) (hs : Sb w b s l) (hl : l.length < 128) (hn : B.length ≤ 9000000) :
    Calls Try.prog 35 #[.pointer (some ⟨b, 0, none⟩), .bool al, s] w fun e w' => e = .returned (.int .i64 0) ∧ WrAt w' b (itemB al B l) ∧ Only b w w' := by
  obtain ⟨a, n, cap, rfl⟩ := hs.shape
  have hm := hs.len
  have HP := lput_any w b B al n 0 (-1) h (by omega) (by decide) (by decide) (by omega)
  obtain ⟨p1, p2, p3, p4⟩ := lPut_open n (by omega) al B
  rw [p1, p2, p3, p4] at HP
  have HPH := Lib.hid HP
  have hle := putF_le al B n
  have HO := Lib.hid (fun (w' : World) (h1 : WrAt w' b (putF al B n)) (ho : Only b w w') => woctets_sl w' b (putF al B n) _ l h1 (hs.only ho).sl hs.apart (by omega) (by omega))
  have e : putF al B n ++ bitsOf l = itemB al B l := by unfold itemB; rw [hm.1]
  rw [e] at HO
  clear h hs HP p1 p2 p3 p4 hle e hm
  go_enter Try.func35, Try.ntmps35
  go_wp2_with fail
  refine HPH.out.mono ?_
  rintro e' w1 ⟨rfl, h1, h2⟩
  have H1 := Lib.hid h1
  have H2 := Lib.hid h2
  clear h1 h2 
  go_wp2_with fail
  refine (HO.out w1 H1.out H2.out).mono ?_
  rintro e' w2 ⟨rfl, h1, h2⟩
  have H3 := Lib.hid h1
  have H4 := Lib.hid (H2.out.trans h2)
  clear h1 h2 HO
  go_wp2_with fail
  go_ret
  exact ⟨rfl, H3.out, H4.out⟩
theorem New.sb {w w' : World} {v : Value} {l : List Nat} (h : New w w' v l) {b : Nat} (hb : b < w.heap.size) : Sb w' b v l := by
  obtain ⟨g, cap, rfl, hg, hc, hd⟩ := h
  exact ⟨_, _, rfl, hc, .inr ⟨g, 0, rfl, hd, by omega⟩⟩
theorem oput_semi (w : World) (b : Nat) (B : List Bool) (al : Bool) (n lo : Int) (h : WrAt w b B) (b1 : -9223372036854775808 ≤ lo) (b2 : lo ≤ n) (b3 : n ≤ 9223372036854775807) (hn : B.length ≤ 1000000) :
    Calls Try.prog 12 #[.pointer (some ⟨b, 0, none⟩), .bool al, .int .i64 n, .int .i64 lo] w fun e w' => e = .returned (.int .i64 0) ∧ WrAt w' b (itemB al B (low (n - lo).toNat (cnt (n - lo).toNat))) ∧ Only b w w' := by
  have hv : (n - lo).toNat < 2 ^ 64 := by omega
  have hc8 := cnt_le _ hv
  have hsub := roff_num n lo b1 b2 b3
  have q1 : decide (n < lo) = false := decide_eq_false (by omega)
  generalize (n - lo).toNat = v at *
  have HU := Lib.hid (unsigned_ok v w hv)
  have hblt := h.lt
  have HP := Lib.hid (fun (s : Value) (w' : World) (hN : New w w' s (low v (cnt v))) (hB : Below w.heap.size w w') => putCounted_ok w' b B al s (low v (cnt v)) (h.below hB) (hN.sb hblt) (by rw [low_length]; omega) (by omega))
  generalize itemB al B (low v (cnt v)) = B2 at *
  generalize low v (cnt v) = l at *
  clear h hv hc8 b1 b2 b3
  go_enter Try.func12, Try.ntmps12
  go_wp2_with fail
  refine HU.out.mono ?_
  rintro e' w1 ⟨s, rfl, h1, h2⟩
  have H1 := Lib.hid h1
  have H2 := Lib.hid h2
  clear h1 h2
  go_wp2_with fail
  refine (HP.out s w1 H1.out H2.out).mono ?_
  rintro e' w2 ⟨rfl, h1, h2⟩
  have H3 := Lib.hid h1
  have H4 := Lib.hid ((Only.of_below H2.out).trans h2)
  clear h1 h2 HP
  go_wp2_with fail
  go_ret
  exact ⟨rfl, H3.out, H4.out⟩
theorem oput_semi_low (w : World) (b : Nat) (al : Bool) (n lo : Int) (hl : n < lo) :
    Calls Try.prog 12 #[.pointer (some ⟨b, 0, none⟩), .bool al, .int .i64 n, .int .i64 lo] w fun e w' => e = .returned (.int .i64 4) ∧ w = w' := by
  have q1 : decide (n < lo) = true := decide_eq_true (by omega)
  clear hl
  go_enter Try.func12, Try.ntmps12
  go_wp2_with fail
  go_ret
  exact ⟨rfl, rfl⟩
theorem oput_semi_nil (w : World) (al : Bool) (n lo : Value) :
    Calls Try.prog 12 #[.pointer none, .bool al, n, lo] w fun e w' => e = .returned (.int .i64 1) ∧ w = w' := by
  go_enter Try.func12, Try.ntmps12
  go_wp2_with fail
  go_ret
  exact ⟨rfl, rfl⟩
theorem oput_any_int (w : World) (b : Nat) (B : List Bool) (al : Bool) (n : Int) (h : WrAt w b B) (b1 : -9223372036854775808 ≤ n) (b3 : n ≤ 9223372036854775807) (hn : B.length ≤ 1000000) :
    Calls Try.prog 18 #[.pointer (some ⟨b, 0, none⟩), .bool al, .int .i64 n] w fun e w' => e = .returned (.int .i64 0) ∧ WrAt w' b (itemB al B (low (u64n n) (scnt n))) ∧ Only b w w' := by
  have hmg := mag_lt n b1 b3
  have hc8 := scnt_le n hmg
  have HU := Lib.hid (signed_ok n w hmg)
  have hblt := h.lt
  have HP := Lib.hid (fun (s : Value) (w' : World) (hN : New w w' s (low (u64n n) (scnt n))) (hB : Below w.heap.size w w') => putCounted_ok w' b B al s (low (u64n n) (scnt n)) (h.below hB) (hN.sb hblt) (by rw [low_length]; omega) (by omega))
  generalize itemB al B (low (u64n n) (scnt n)) = B2 at *
  generalize low (u64n n) (scnt n) = l at *
  clear h hmg hc8 b1 b3
  go_enter Try.func18, Try.ntmps18
  go_wp2_with fail
  refine HU.out.mono ?_
  rintro e' w1 ⟨s, rfl, h1, h2⟩
  have H1 := Lib.hid h1
  have H2 := Lib.hid h2
  clear h1 h2
  go_wp2_with fail
  refine (HP.out s w1 H1.out H2.out).mono ?_
  rintro e' w2 ⟨rfl, h1, h2⟩
  have H3 := Lib.hid h1
  have H4 := Lib.hid ((Only.of_below H2.out).trans h2)
  clear h1 h2 HP
  go_wp2_with fail
  go_ret
  exact ⟨rfl, H3.out, H4.out⟩
theorem oput_any_nil (w : World) (al : Bool) (n : Value) :
    Calls Try.prog 18 #[.pointer none, .bool al, n] w fun e w' => e = .returned (.int .i64 1) ∧ w = w' := by
  go_enter Try.func18, Try.ntmps18
  go_wp2_with fail
  go_ret
  exact ⟨rfl, rfl⟩

/-! ### reading -/
def TkC (w : World) (b : Nat) (s : Value) (L : List Nat) (o : Ro) (e' : Ending) (w' : World) : Prop := ∃ v, e' = .returned (.tuple #[v, .int .i64 o.e]) ∧ SlAt w' v o.l ∧ RdAt w' b s L o.p ∧ Only b w w'
def RsI (w : World) (b : Nat) (s : Value) (L : List Nat) (o : Rs) (e' : Ending) (w' : World) : Prop := e' = .returned (.tuple #[.int .i64 o.v, .int .i64 o.e]) ∧ RdAt w' b s L o.p ∧ Only b w w'
theorem getCounted_ok (w : World) (b : Nat) {s : Value} (L : List Nat) (p : Nat) (al : Bool) (h : RdAt w b s L p) (hL : L.length ≤ 1000000000) :
    Calls Try.prog 50 #[.pointer (some ⟨b, 0, none⟩), .bool al] w fun e' w' => TkC w b s L (rdTak L (rlF al L p)) e' w' := by
  have HG := Lib.hid (lget_open w b L p al h hL)
  have hv := rlF_v al L p
  clear h
  generalize rlF al L p = o at *
  obtain ⟨e, v, m, q⟩ := o
  have hv : v < 65537 := hv
  unfold rdTak
  by_cases he : e = 0
  · subst he
    rw [if_pos (show (Rl.mk 0 v m q).e = 0 from rfl)]
    cases m with
    | true =>
      rw [if_pos (show (Rl.mk 0 v true q).m = true from rfl)]
      go_enter Try.func50, Try.ntmps50
      go_wp2_with fail
      refine HG.out.mono ?_
      rintro e' w1 ⟨rfl, h1, h2⟩
      have H1 := Lib.hid h1
      have H2 := Lib.hid h2
      clear h1 h2 
      go_wp2_with fail
      go_ret2
      exact ⟨_, rfl, .inr ⟨rfl, _, _, rfl⟩, H1.out, H2.out⟩
    | false =>
      rw [if_neg (show ¬ (Rl.mk 0 v false q).m = true by simp)]
      have HO := Lib.hid (fun w h => roctets_any w b (s := s) L q v h (by omega))
      show Calls _ _ _ _ fun e' w' => TkC w b s L ⟨oerr L q v, olst L q v, opos L q v⟩ e' w'
      generalize opos L q v = q3 at *
      generalize olst L q v = l at *
      generalize oerr L q v = oe at *
      clear hv
      go_enter Try.func50, Try.ntmps50
      go_wp2_with fail
      refine HG.out.mono ?_
      rintro e' w1 ⟨rfl, h1, h2⟩
      have H1 := Lib.hid h1
      have H2 := Lib.hid h2
      clear h1 h2 
      go_wp2_with fail
      refine (HO.out w1 H1.out).mono ?_
      rintro e' w3 ⟨sv, rfl, hs, h1, h2⟩
      have H5 := Lib.hid h1
      have H6 := Lib.hid (H2.out.trans h2)
      have HS := Lib.hid hs
      clear h1 h2 H1 H2 hs HO
      go_wp2_with fail
      go_ret2
      exact ⟨_, rfl, HS.out, H5.out, H6.out⟩
  · rw [if_neg (show ¬ (Rl.mk e v m q).e = 0 from he)]
    obtain ⟨n1, n2⟩ := ne_facts he
    clear he hv
    go_enter Try.func50, Try.ntmps50
    go_wp2_with fail
    refine HG.out.mono ?_
    rintro e' w1 ⟨rfl, h1, h2⟩
    have H1 := Lib.hid h1
    have H2 := Lib.hid h2
    clear h1 h2 
    go_wp2_with fail
    go_ret2
    exact ⟨_, rfl, .inr ⟨rfl, _, _, rfl⟩, H1.out, H2.out⟩
theorem getCounted_nil (w : World) (al : Bool) :
    Calls Try.prog 50 #[.pointer none, .bool al] w fun e' w' => e' = .returned (.tuple #[.slice none 0 0, .int .i64 1]) ∧ w = w' := by
  go_enter Try.func50, Try.ntmps50
  go_wp2_with fail
  go_ret2
  exact ⟨rfl, rfl⟩
theorem oget_semi_nil (w : World) (al : Bool) (lo : Value) :
    Calls Try.prog 26 #[.pointer none, .bool al, lo] w fun e' w' => e' = .returned (.tuple #[.int .i64 0, .int .i64 1]) ∧ w = w' := by
  have HG := Lib.hid (getCounted_nil w al)
  go_enter Try.func26, Try.ntmps26
  go_wp2_with fail
  refine HG.out.mono ?_
  rintro e' w1 ⟨rfl, rfl⟩
  go_wp2_with fail
  go_ret2
  exact ⟨rfl, rfl⟩
theorem oget_any_nil (w : World) (al : Bool) :
    Calls Try.prog 29 #[.pointer none, .bool al] w fun e' w' => e' = .returned (.tuple #[.int .i64 0, .int .i64 1]) ∧ w = w' := by
  have HG := Lib.hid (getCounted_nil w al)
  go_enter Try.func29, Try.ntmps29
  go_wp2_with fail
  refine HG.out.mono ?_
  rintro e' w1 ⟨rfl, rfl⟩
  go_wp2_with fail
  go_ret2
  exact ⟨rfl, rfl⟩
theorem max_sub (lo : Int) (b1 : -9223372036854775808 ≤ lo) (b2 : lo ≤ 9223372036854775807) : IntKind.u64.wrap (9223372036854775807 - IntKind.u64.wrap lo) = 9223372036854775807 - lo := by
  rw [IntKind.wrap_u64, IntKind.wrap_u64]
  omega
theorem add_back (lo : Int) (v : Nat) (b1 : -9223372036854775808 ≤ lo) (b2 : lo ≤ 9223372036854775807) (h : (v : Int) ≤ 9223372036854775807 - lo) : wrap64 (IntKind.u64.wrap (IntKind.u64.wrap lo + v)) = lo + v := by
  rw [IntKind.wrap_u64, IntKind.wrap_u64]
  unfold wrap64
  omega
theorem oget_semi (w : World) (b : Nat) {s : Value} (L : List Nat) (p : Nat) (al : Bool) (lo : Int) (h : RdAt w b s L p) (hL : L.length ≤ 1000000000) (b1 : -9223372036854775808 ≤ lo) (b2 : lo ≤ 9223372036854775807) :
    Calls Try.prog 26 #[.pointer (some ⟨b, 0, none⟩), .bool al, .int .i64 lo] w fun e' w' => RsI w b s L (semiR (rdTak L (rlF al L p)) lo) e' w' := by
  have HG := Lib.hid (getCounted_ok w b L p al h hL)
  have hv := Nat.le_trans (rdTak_len L (rlF al L p)) (Nat.le_of_lt (rlF_v al L p))
  clear h
  generalize rdTak L (rlF al L p) = o at *
  obtain ⟨e, l, q⟩ := o
  have hv : l.length ≤ 65537 := hv
  unfold semiR
  by_cases he : e = 0
  · subst he
    rw [if_pos (show (Ro.mk 0 l q).e = 0 from rfl)]
    have HF := Lib.hid (fun w s h => fromU_ok w s l h (by omega))
    show Calls _ _ _ _ fun e' w' => RsI w b s L (if uerr l = 0 then (if 9223372036854775807 - lo < (uval l : Int) then ⟨11, 0, q⟩ else ⟨0, lo + uval l, q⟩) else ⟨uerr l, 0, q⟩) e' w'
    by_cases hu : uerr l = 0
    · rw [hu] at HF
      rw [if_pos hu]
      generalize uval l = uv at *
      clear hu hv
      have hms := max_sub lo b1 b2
      by_cases h2 : 9223372036854775807 - lo < (uv : Int)
      · rw [if_pos h2]
        have q2 : decide (9223372036854775807 - lo < (uv : Int)) = true := decide_eq_true h2
        clear h2
        go_enter Try.func26, Try.ntmps26
        go_wp2_with fail
        refine HG.out.mono ?_
        rintro e' w1 ⟨sv, rfl, hs, h1, h2⟩
        have H1 := Lib.hid h1
        have H2 := Lib.hid h2
        have HS := Lib.hid hs
        clear h1 h2 hs
        go_wp2_with fail
        refine (HF.out w1 sv HS.out).mono ?_
        rintro e' w2 ⟨rfl, rfl⟩
        go_wp2_with fail
        go_ret2
        exact ⟨rfl, H1.out, H2.out⟩
      · rw [if_neg h2]
        have q2 : decide (9223372036854775807 - lo < (uv : Int)) = false := decide_eq_false h2
        have HAB := Lib.hid (add_back lo uv b1 b2 (by omega))
        clear h2
        go_enter Try.func26, Try.ntmps26
        go_wp2_with fail
        refine HG.out.mono ?_
        rintro e' w1 ⟨sv, rfl, hs, h1, h2⟩
        have H1 := Lib.hid h1
        have H2 := Lib.hid h2
        have HS := Lib.hid hs
        clear h1 h2 hs
        go_wp2_with fail
        refine (HF.out w1 sv HS.out).mono ?_
        rintro e' w2 ⟨rfl, rfl⟩
        go_wp2_with fail
        go_ret2
        refine ⟨?_, H1.out, H2.out⟩
        show Ending.returned (.tuple #[.int .i64 (wrap64 (IntKind.u64.wrap (IntKind.u64.wrap lo + (uv : Int)))), .int .i64 0]) = _
        rw [HAB.out]
    · rw [if_neg hu]
      obtain ⟨n1, n2⟩ := ne_facts hu
      clear hu
      generalize uerr l = ue at *
      generalize uval l = uv at *
      clear hv
      go_enter Try.func26, Try.ntmps26
      go_wp2_with fail
      refine HG.out.mono ?_
      rintro e' w1 ⟨sv, rfl, hs, h1, h2⟩
      have H1 := Lib.hid h1
      have H2 := Lib.hid h2
      have HS := Lib.hid hs
      clear h1 h2 hs
      go_wp2_with fail
      refine (HF.out w1 sv HS.out).mono ?_
      rintro e' w2 ⟨rfl, rfl⟩
      go_wp2_with fail
      go_ret2
      exact ⟨rfl, H1.out, H2.out⟩
  · rw [if_neg (show ¬ (Ro.mk e l q).e = 0 from he)]
    obtain ⟨n1, n2⟩ := ne_facts he
    clear he
    go_enter Try.func26, Try.ntmps26
    go_wp2_with fail
    refine HG.out.mono ?_
    rintro e' w1 ⟨sv, rfl, hs, h1, h2⟩
    have H1 := Lib.hid h1
    have H2 := Lib.hid h2
    have HS := Lib.hid hs
    clear h1 h2 hs
    go_wp2_with fail
    go_ret2
    exact ⟨rfl, H1.out, H2.out⟩
theorem oget_any (w : World) (b : Nat) {s : Value} (L : List Nat) (p : Nat) (al : Bool) (h : RdAt w b s L p) (hL : L.length ≤ 1000000000) :
    Calls Try.prog 29 #[.pointer (some ⟨b, 0, none⟩), .bool al] w fun e' w' => RsI w b s L (anyR (rdTak L (rlF al L p))) e' w' := by
  have HG := Lib.hid (getCounted_ok w b L p al h hL)
  have hv := Nat.le_trans (rdTak_len L (rlF al L p)) (Nat.le_of_lt (rlF_v al L p))
  clear h
  generalize rdTak L (rlF al L p) = o at *
  obtain ⟨e, l, q⟩ := o
  have hv : l.length ≤ 65537 := hv
  unfold anyR
  by_cases he : e = 0
  · subst he
    rw [if_pos (show (Ro.mk 0 l q).e = 0 from rfl)]
    have HF := Lib.hid (fun w s h => fromS_ok w s l h (by omega))
    show Calls _ _ _ _ fun e' w' => RsI w b s L ⟨serr l, sval l, q⟩ e' w'
    generalize serr l = se at *
    generalize sval l = sv' at *
    clear hv
    go_enter Try.func29, Try.ntmps29
    go_wp2_with fail
    refine HG.out.mono ?_
    rintro e' w1 ⟨sv, rfl, hs, h1, h2⟩
    have H1 := Lib.hid h1
    have H2 := Lib.hid h2
    have HS := Lib.hid hs
    clear h1 h2 hs
    go_wp2_with fail
    refine (HF.out w1 sv HS.out).mono ?_
    rintro e' w2 ⟨rfl, h1⟩
    have H3 := Lib.hid (H1.out.below h1)
    have H4 := Lib.hid (H2.out.trans (Only.of_below h1))
    clear h1 H1 H2 HS
    go_wp2_with fail
    go_ret2
    exact ⟨rfl, H3.out, H4.out⟩
  · rw [if_neg (show ¬ (Ro.mk e l q).e = 0 from he)]
    obtain ⟨n1, n2⟩ := ne_facts he
    clear he
    go_enter Try.func29, Try.ntmps29
    go_wp2_with fail
    refine HG.out.mono ?_
    rintro e' w1 ⟨sv, rfl, hs, h1, h2⟩
    have H1 := Lib.hid h1
    have H2 := Lib.hid h2
    have HS := Lib.hid hs
    clear h1 h2 hs
    go_wp2_with fail
    go_ret2
    exact ⟨rfl, H1.out, H2.out⟩
end Go.Proofs.Ytinggfelgcdkfaa
