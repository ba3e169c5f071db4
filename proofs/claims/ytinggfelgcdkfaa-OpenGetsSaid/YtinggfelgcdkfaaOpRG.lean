/-
  The document's answer for package open: what is read.
-/
import Derived.Test.YtinggfelgcdkfaaOpN
import Derived.Test.YtinggfelgcdkfaaLRGet
import Derived.Test.YtinggfelgcdkfaaOref2
import Derived.Test.YtinggfelgcdkfaaOref3
import Derived.RangeFuncBox
namespace Go.Proofs.Ytinggfelgcdkfaa
open Go.RowKit
set_option linter.unusedVariables false
set_option linter.unusedSimpArgs false
set_option maxRecDepth 100000

def QtC (w : World) (b : Nat) (L : List Nat) (o : Ro) (e' : Ending) (w' : World) : Prop := ∃ v, e' = .returned (.tuple #[v, .int .i64 o.e]) ∧ SlAt w' v o.l ∧ QAt w' b (bitsOf L) o.p ∧ Only b w w'
def QsI (w : World) (b : Nat) (L : List Nat) (o : Rs) (e' : Ending) (w' : World) : Prop := e' = .returned (.tuple #[.int .i64 o.v, .int .i64 o.e]) ∧ QAt w' b (bitsOf L) o.p ∧ Only b w w'
theorem rtaken_ok (w : World) (b : Nat) (L : List Nat) (p : Nat) (al : Bool) (h : QAt w b (bitsOf L) p) (hL : L.length ≤ 1000000) :
    Calls Try.prog 52 #[.pointer (some ⟨b, 0, none⟩), .bool al] w fun e' w' => QtC w b L (rdTak L (rlF al L p)) e' w' := by
  have HG := Lib.hid (rlget_open w b L p al h hL)
  have hv := rlF_v al L p
  clear h
  generalize rlF al L p = o at *
  obtain ⟨e, v, m, q⟩ := o
  have hv : v < 65537 := hv
  unfold rdTak
  by_cases he : e = 0
  · subst he
    rw [if_pos (show (Rl.mk 0 v m q).e = 0 from rfl)]
    cases m with
    | true =>
      rw [if_pos (show (Rl.mk 0 v true q).m = true from rfl)]
      go_enter Try.func52, Try.ntmps52
      go_wp2_with fail
      refine HG.out.mono ?_
      rintro e' w1 ⟨rfl, h1, h2⟩
      have H1 := Lib.hid h1
      have H2 := Lib.hid h2
      clear h1 h2 
      go_wp2_with fail
      go_ret2
      exact ⟨_, rfl, .inr ⟨rfl, _, _, rfl⟩, H1.out, H2.out⟩
    | false =>
      rw [if_neg (show ¬ (Rl.mk 0 v false q).m = true by simp)]
      have HO := Lib.hid (fun w h => rroct_any w b L q v h (by omega))
      show Calls _ _ _ _ fun e' w' => QtC w b L ⟨oerr L q v, olst L q v, opos L q v⟩ e' w'
      generalize opos L q v = q3 at *
      generalize olst L q v = l at *
      generalize oerr L q v = oe at *
      clear hv
      go_enter Try.func52, Try.ntmps52
      go_wp2_with fail
      refine HG.out.mono ?_
      rintro e' w1 ⟨rfl, h1, h2⟩
      have H1 := Lib.hid h1
      have H2 := Lib.hid h2
      clear h1 h2 
      go_wp2_with fail
      refine (HO.out w1 H1.out).mono ?_
      rintro e' w3 ⟨sv, rfl, hs, h1, h2⟩
      have H5 := Lib.hid h1
      have H6 := Lib.hid (H2.out.trans h2)
      have HS := Lib.hid hs
      clear h1 h2 H1 H2 hs HO
      go_wp2_with fail
      go_ret2
      exact ⟨_, rfl, HS.out, H5.out, H6.out⟩
  · rw [if_neg (show ¬ (Rl.mk e v m q).e = 0 from he)]
    obtain ⟨n1, n2⟩ := ne_facts he
    clear he hv
    go_enter Try.func52, Try.ntmps52
    go_wp2_with fail
    refine HG.out.mono ?_
    rintro e' w1 ⟨rfl, h1, h2⟩
    have H1 := Lib.hid h1
    have H2 := Lib.hid h2
    clear h1 h2 
    go_wp2_with fail
    go_ret2
    exact ⟨_, rfl, .inr ⟨rfl, _, _, rfl⟩, H1.out, H2.out⟩
theorem rget_semi (w : World) (b : Nat) (L : List Nat) (p : Nat) (al : Bool) (lo : Int) (h : QAt w b (bitsOf L) p) (hL : L.length ≤ 1000000) (b1 : -9223372036854775808 ≤ lo) (b2 : lo ≤ 9223372036854775807) :
    Calls Try.prog 27 #[.pointer (some ⟨b, 0, none⟩), .bool al, .int .i64 lo] w fun e' w' => QsI w b L (semiR (rdTak L (rlF al L p)) lo) e' w' := by
  have HG := Lib.hid (rtaken_ok w b L p al h hL)
  have hv := Nat.le_trans (rdTak_len L (rlF al L p)) (Nat.le_of_lt (rlF_v al L p))
  clear h
  generalize rdTak L (rlF al L p) = o at *
  obtain ⟨e, l, q⟩ := o
  have hv : l.length ≤ 65537 := hv
  unfold semiR
  by_cases he : e = 0
  · subst he
    rw [if_pos (show (Ro.mk 0 l q).e = 0 from rfl)]
    have HF := Lib.hid (fun w s h => rfromU_ok w s l h (by omega))
    show Calls _ _ _ _ fun e' w' => QsI w b L (if uerr l = 0 then (if 9223372036854775807 - lo < (uval l : Int) then ⟨11, 0, q⟩ else ⟨0, lo + uval l, q⟩) else ⟨uerr l, 0, q⟩) e' w'
    by_cases hu : uerr l = 0
    · rw [hu] at HF
      rw [if_pos hu]
      generalize uval l = uv at *
      clear hu hv
      have hms := max_sub lo b1 b2
      by_cases h2 : 9223372036854775807 - lo < (uv : Int)
      · rw [if_pos h2]
        have q2 : decide (9223372036854775807 - lo < (uv : Int)) = true := decide_eq_true h2
        clear h2
        go_enter Try.func27, Try.ntmps27
        go_wp2_with fail
        refine HG.out.mono ?_
        rintro e' w1 ⟨sv, rfl, hs, h1, h2⟩
        have H1 := Lib.hid h1
        have H2 := Lib.hid h2
        have HS := Lib.hid hs
        clear h1 h2 hs
        go_wp2_with fail
        refine (HF.out w1 sv HS.out).mono ?_
        rintro e' w2 ⟨rfl, rfl⟩
        go_wp2_with fail
        go_ret2
        exact ⟨rfl, H1.out, H2.out⟩
      · rw [if_neg h2]
        have q2 : decide (9223372036854775807 - lo < (uv : Int)) = false := decide_eq_false h2
        have HAB := Lib.hid (add_back lo uv b1 b2 (by omega))
        clear h2
        go_enter Try.func27, Try.ntmps27
        go_wp2_with fail
        refine HG.out.mono ?_
        rintro e' w1 ⟨sv, rfl, hs, h1, h2⟩
        have H1 := Lib.hid h1
        have H2 := Lib.hid h2
        have HS := Lib.hid hs
        clear h1 h2 hs
        go_wp2_with fail
        refine (HF.out w1 sv HS.out).mono ?_
        rintro e' w2 ⟨rfl, rfl⟩
        go_wp2_with fail
        go_ret2
        refine ⟨?_, H1.out, H2.out⟩
        show Ending.returned (.tuple #[.int .i64 (wrap64 (IntKind.u64.wrap (IntKind.u64.wrap lo + (uv : Int)))), .int .i64 0]) = _
        rw [HAB.out]
    · rw [if_neg hu]
      obtain ⟨n1, n2⟩ := ne_facts hu
      clear hu
      generalize uerr l = ue at *
      generalize uval l = uv at *
      clear hv
      go_enter Try.func27, Try.ntmps27
      go_wp2_with fail
      refine HG.out.mono ?_
      rintro e' w1 ⟨sv, rfl, hs, h1, h2⟩
      have H1 := Lib.hid h1
      have H2 := Lib.hid h2
      have HS := Lib.hid hs
      clear h1 h2 hs
      go_wp2_with fail
      refine (HF.out w1 sv HS.out).mono ?_
      rintro e' w2 ⟨rfl, rfl⟩
      go_wp2_with fail
      go_ret2
      exact ⟨rfl, H1.out, H2.out⟩
  · rw [if_neg (show ¬ (Ro.mk e l q).e = 0 from he)]
    obtain ⟨n1, n2⟩ := ne_facts he
    clear he
    go_enter Try.func27, Try.ntmps27
    go_wp2_with fail
    refine HG.out.mono ?_
    rintro e' w1 ⟨sv, rfl, hs, h1, h2⟩
    have H1 := Lib.hid h1
    have H2 := Lib.hid h2
    have HS := Lib.hid hs
    clear h1 h2 hs
    go_wp2_with fail
    go_ret2
    exact ⟨rfl, H1.out, H2.out⟩
theorem rget_any_int (w : World) (b : Nat) (L : List Nat) (p : Nat) (al : Bool) (h : QAt w b (bitsOf L) p) (hL : L.length ≤ 1000000) :
    Calls Try.prog 30 #[.pointer (some ⟨b, 0, none⟩), .bool al] w fun e' w' => QsI w b L (anyR (rdTak L (rlF al L p))) e' w' := by
  have HG := Lib.hid (rtaken_ok w b L p al h hL)
  have hv := Nat.le_trans (rdTak_len L (rlF al L p)) (Nat.le_of_lt (rlF_v al L p))
  clear h
  generalize rdTak L (rlF al L p) = o at *
  obtain ⟨e, l, q⟩ := o
  have hv : l.length ≤ 65537 := hv
  unfold anyR
  by_cases he : e = 0
  · subst he
    rw [if_pos (show (Ro.mk 0 l q).e = 0 from rfl)]
    have HF := Lib.hid (fun w s h => rfromS_ok w s l h (by omega))
    show Calls _ _ _ _ fun e' w' => QsI w b L ⟨serr l, sval l, q⟩ e' w'
    generalize serr l = se at *
    generalize sval l = sv' at *
    clear hv
    go_enter Try.func30, Try.ntmps30
    go_wp2_with fail
    refine HG.out.mono ?_
    rintro e' w1 ⟨sv, rfl, hs, h1, h2⟩
    have H1 := Lib.hid h1
    have H2 := Lib.hid h2
    have HS := Lib.hid hs
    clear h1 h2 hs
    go_wp2_with fail
    refine (HF.out w1 sv HS.out).mono ?_
    rintro e' w2 ⟨rfl, rfl⟩
    go_wp2_with fail
    go_ret2
    exact ⟨rfl, H1.out, H2.out⟩
  · rw [if_neg (show ¬ (Ro.mk e l q).e = 0 from he)]
    obtain ⟨n1, n2⟩ := ne_facts he
    clear he
    go_enter Try.func30, Try.ntmps30
    go_wp2_with fail
    refine HG.out.mono ?_
    rintro e' w1 ⟨sv, rfl, hs, h1, h2⟩
    have H1 := Lib.hid h1
    have H2 := Lib.hid h2
    have HS := Lib.hid hs
    clear h1 h2 hs
    go_wp2_with fail
    go_ret2
    exact ⟨rfl, H1.out, H2.out⟩
theorem rdOpen_small (al : Bool) (L : List Nat) (p : Nat) (hL : L.length ≤ 2000) : rdOpen al L p =
    if (rlF al L p).e ≠ 0 then ⟨(rlF al L p).e, [], (rlF al L p).p⟩
    else if oerr L (rlF al L p).p (rlF al L p).v ≠ 0 then ⟨oerr L (rlF al L p).p (rlF al L p).v, [], opos L (rlF al L p).p (rlF al L p).v⟩
    else ⟨0, olst L (rlF al L p).p (rlF al L p).v, opos L (rlF al L p).p (rlF al L p).v⟩ := by
  unfold rdOpen roGo
  have hv := rlF_v al L p
  have hm := rlF_m al L p
  split
  · rfl
  · rw [if_neg (by omega), if_neg (by simp; omega)]
    split
    · rfl
    · rename_i h2
      rw [if_neg, List.nil_append]
      intro h3
      have h4 := hm h3
      apply h2
      unfold oerr
      rw [if_neg (by omega), if_pos (by omega)]
      decide
theorem big_short {L : List Nat} {q v : Nat} (hL : L.length ≤ 2000) (h : oerr L q v = 0) : v ≤ 2000 := by
  unfold oerr at h
  rw [if_neg (by omega)] at h
  split at h
  · cases h
  · omega
set_option maxHeartbeats 2000000 in
theorem rget_open (w : World) (b : Nat) (L : List Nat) (p : Nat) (al : Bool) (h : QAt w b (bitsOf L) p) (hL : L.length ≤ 2000) :
    Calls Try.prog 32 #[.pointer (some ⟨b, 0, none⟩), .bool al] w fun e' w' => QtC w b L (rdOpen al L p) e' w' := by
  rw [rdOpen_small al L p hL]
  obtain ⟨i0, hi, hz0, hz1, hz2⟩ := info_parts info_u8
  have hown0 := World.ownsRow_nil w w.heap.size 5 1
  have HG := Lib.hid (rlget_open w b L p al h (by omega))
  have hv := rlF_v al L p
  have hom := rlF_m al L p
  clear h
  generalize rlF al L p = o at *
  obtain ⟨e, v, m, q⟩ := o
  have hv : v < 65537 := hv
  have hom : m = true → 16384 ≤ v := hom
  by_cases he : e = 0
  · subst he
    rw [if_neg (show ¬ ((Rl.mk 0 v m q).e ≠ 0) from fun h => h rfl)]
    show Calls _ _ _ _ fun e' w' => QtC w b L (if oerr L q v ≠ 0 then ⟨oerr L q v, [], opos L q v⟩ else ⟨0, olst L q v, opos L q v⟩) e' w'
    have q1 : decide ((1048576 : Int) < (v : Int)) = false := decide_eq_false (by omega)
    by_cases ho : oerr L q v = 0
    · rw [if_neg (fun h => h ho)]
      have hv2 := big_short hL ho
      obtain rfl : m = false := by cases m with
        | false => rfl
        | true => have h9 : 16384 ≤ v := hom rfl; omega
      have hol := olst_len0 L q v ho
      have hob := olst_lt L q v
      have HO := Lib.hid (fun w h => rroct_any w b L q v h (by omega))
      rw [ho] at HO
      clear hom ho
      generalize opos L q v = q3 at *
      generalize olst L q v = ls at *
      have HOB := Lib.hid hob
      have HOL := Lib.hid hol
      clear hob hv hol
      go_enter Try.func32, Try.ntmps32
      go_wp2_with fail
      go_loopw [6, 7] (fun ov lv wr => ov = .slice none 0 0 ∧ lv = .int .i64 65536 ∧ wr = w) (fun _ _ _ => 0)
      case atStart => exact ⟨rfl, rfl, rfl⟩
      case round =>
        obtain ⟨rfl, rfl, rfl⟩ := hrel
        go_wp2_with fail
        refine HG.out.mono ?_
        rintro e' w1 ⟨rfl, h1, h2⟩
        have H1 := Lib.hid h1
        have H2 := Lib.hid h2
        clear h1 h2
        go_wp2_with fail
        refine (HO.out w1 H1.out).mono ?_
        rintro e' w3 ⟨sv, rfl, hs, h1, h2⟩
        have H5 := Lib.hid h1
        have H6 := Lib.hid (H2.out.trans h2)
        have HS := Lib.hid hs
        clear h1 h2 H1 H2 hs HO
        rcases HS.out with ⟨g, o, cap, rfl, hd⟩ | ⟨hz, a, cap, rfl⟩
        · have HCL := Lib.hid (data_cells hd)
          have hsz := H6.out.size
          clear hd HS
          go_wp2_with (at_builtin; refine wpList_append_own _ rfl (.tmp 42) (.tmp 43) 22 rfl wr.heap.size 5 i0 (.int .u8 0) 1 1 Try.underlying22 hi hz0 hz1 hz2 rfl (by decide) _ 0 [] rfl (World.ownsRow_nil _ _ _ _) ⟨g, o, none⟩ ls.length cap (u8s ls) rfl (by simp [u8s]) HCL.out (u8s_one ls) (by have := HOL.out; unfold maxLen; omega) (by have := HOL.out; omega) hsz ?_; intro v' w4 hown4 hgr4 _; have hbl4 := (Below.refl w3.heap.size w3).grown hgr4 (Nat.le_refl _) (fun k hk => by cases hk); have HOW := Lib.hid hown4; have HBL := Lib.hid hbl4; clear hown4 hgr4 hbl4)
          have hown := HOW.out
          rw [Nat.zero_add, List.nil_append] at hown
          go_ret2
          refine ⟨v', rfl, ?_, H5.out.below HBL.out, H6.out.trans (Only.of_below HBL.out)⟩
          by_cases h0 : ls = []
          · subst h0
            rcases hown.2 with ⟨rfl, _⟩ | ⟨g, cap, cur, rfl, _⟩
            · exact .inr ⟨rfl, _, _, rfl⟩
            · exact .inr ⟨rfl, _, _, rfl⟩
          · have hl : 0 < ls.length := by cases ls <;> simp_all
            obtain ⟨g, cap, rfl, hd⟩ := own_data hown hl HOB.out
            exact .inl ⟨g, 0, cap, rfl, hd⟩
        · subst hz
          have hsz := H6.out.size
          cases a with
          | none =>
            clear HS
            go_wp2_with fail
            go_ret2
            exact ⟨_, rfl, .inr ⟨rfl, _, _, rfl⟩, H5.out, H6.out⟩
          | some x =>
            clear HS
            go_wp2_with (at_builtin; refine wpList_append_own _ rfl (.tmp 42) (.tmp 43) 22 rfl wr.heap.size 5 i0 (.int .u8 0) 1 1 Try.underlying22 hi hz0 hz1 hz2 rfl (by decide) _ 0 [] rfl (World.ownsRow_nil _ _ _ _) x 0 cap [] rfl rfl (fun j u h => by simp at h) (by simp) (by unfold maxLen; omega) (by omega) hsz ?_; intro v' w4 hown4 hgr4 _; have hbl4 := (Below.refl w3.heap.size w3).grown hgr4 (Nat.le_refl _) (fun k hk => by cases hk); have HOW := Lib.hid hown4; have HBL := Lib.hid hbl4; clear hown4 hgr4 hbl4)
            have hown := HOW.out
            go_ret2
            refine ⟨v', rfl, ?_, H5.out.below HBL.out, H6.out.trans (Only.of_below HBL.out)⟩
            rcases hown.2 with ⟨rfl, _⟩ | ⟨g, cap, cur, rfl, _⟩
            · exact .inr ⟨rfl, _, _, rfl⟩
            · exact .inr ⟨rfl, _, _, rfl⟩
    · rw [if_pos ho]
      obtain ⟨n1, n2⟩ := ne_facts ho
      have HO := Lib.hid (fun w h => rroct_any w b L q v h (by omega))
      clear ho hom hv
      generalize opos L q v = q3 at *
      generalize olst L q v = ls at *
      generalize oerr L q v = oe at *
      cases m
      all_goals
        go_enter Try.func32, Try.ntmps32
        go_wp2_with fail
        go_loopw [6, 7] (fun ov lv wr => ov = .slice none 0 0 ∧ lv = .int .i64 65536 ∧ wr = w) (fun _ _ _ => 0)
        case atStart => exact ⟨rfl, rfl, rfl⟩
        case round =>
          obtain ⟨rfl, rfl, rfl⟩ := hrel
          go_wp2_with fail
          refine HG.out.mono ?_
          rintro e' w1 ⟨rfl, h1, h2⟩
          have H1 := Lib.hid h1
          have H2 := Lib.hid h2
          clear h1 h2
          go_wp2_with fail
          refine (HO.out w1 H1.out).mono ?_
          rintro e' w3 ⟨sv, rfl, hs, h1, h2⟩
          have H5 := Lib.hid h1
          have H6 := Lib.hid (H2.out.trans h2)
          have HS := Lib.hid hs
          clear h1 h2 H1 H2 hs HO
          go_wp2_with fail
          go_ret2
          exact ⟨_, rfl, .inr ⟨rfl, _, _, rfl⟩, H5.out, H6.out⟩
  · rw [if_pos (show (Rl.mk e v m q).e ≠ 0 from he)]
    obtain ⟨n1, n2⟩ := ne_facts he
    clear he hv hom
    go_enter Try.func32, Try.ntmps32
    go_wp2_with fail
    go_loopw [6, 7] (fun ov lv wr => ov = .slice none 0 0 ∧ lv = .int .i64 65536 ∧ wr = w) (fun _ _ _ => 0)
    case atStart => exact ⟨rfl, rfl, rfl⟩
    case round =>
      obtain ⟨rfl, rfl, rfl⟩ := hrel
      go_wp2_with fail
      refine HG.out.mono ?_
      rintro e' w1 ⟨rfl, h1, h2⟩
      have H1 := Lib.hid h1
      have H2 := Lib.hid h2
      clear h1 h2
      go_wp2_with fail
      go_ret2
      exact ⟨_, rfl, .inr ⟨rfl, _, _, rfl⟩, H1.out, H2.out⟩
end Go.Proofs.Ytinggfelgcdkfaa
