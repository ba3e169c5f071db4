/-
  Package bounds: 'combined' over several constraints, by halves.
-/
import Derived.Test.YtfnpjdglfaaegaaBdB
namespace Go.Proofs.Ytfnpjdglfaaegaa
open Go.RowKit Go.Shelf
set_option linter.unusedVariables false
set_option linter.unusedSimpArgs false
set_option maxRecDepth 100000

theorem con_elem : Try.prog.elem 22 = 24 := by kernel_rfl
theorem con_under : Try.prog.underlying 22 = some (.slice (Try.prog.elem 22)) := by rw [con_elem]; exact Try.underlying22
theorem conSlice_h (g o n cap h : Nat) (hc : h ≤ cap) (w : World) : (Instr.slice 22 (.slice (some ⟨g, o, none⟩) n cap) none (some (.int .i64 (h : Nat))) none).run Try.prog w = .ok (.slice (some ⟨g, o, none⟩) h cap) w := by
  rw [run_slice_h (ht := con_under) (h0 := by omega) (h2 := by omega), con_elem, Try.sizeOf24]
  simp [Result.andThen, sliced, Addr.add_mid]
theorem conSlice_l (g o n cap h m cm : Nat) (hn : h ≤ n) (hc : ¬ cap = h) (hm : n - h = m) (hcm : cap - h = cm) (w : World) : (Instr.slice 22 (.slice (some ⟨g, o, none⟩) n cap) (some (.int .i64 (h : Nat))) none none).run Try.prog w = .ok (.slice (some ⟨g, o + h * 6, none⟩) m cm) w := by
  subst hm
  subst hcm
  rw [run_slice_l (ht := con_under) (h0 := by omega) (h1 := by omega), con_elem, Try.sizeOf24]
  simp [Result.andThen, sliced, Addr.add_mid, hc]
def CombOK (u : Bool) (fn : FuncId) (k : Nat) (vs : Option Addr) (vn vc : Nat) (a : Option Addr) (n cap : Nat) (ch : Nat → CT) (w : World) : Prop :=
  Calls Try.prog 62 #[.slice a n cap, .int .i64 (k : Nat), .slice vs vn vc, .func (.func fn) #[] #[]] w fun e w' => ∃ v r, e = .returned v ∧ OwnA w.heap.size w' v (fun x => foldU u (fun i => adm (ch i) k x) n = true) (2 * sumN (fun i => (ch i).sz) n) r ∧ Below w.heap.size w w'
set_option maxHeartbeats 16000000 in
theorem combined_two (u : Bool) (fn : FuncId) (hop : OpOK u fn) (hen0 : Enters Try.prog fn) (k : Nat) (vs : Option Addr) (vn vc : Nat) (n : Nat) (hn2 : 2 ≤ n) (B : Nat) (w : World) (a : Option Addr) (cap : Nat) (ch : Nat → CT)
    (hin : LIn B w a n cap ch) (hB : B ≤ w.heap.size) (hK : 2 * sumN (fun i => (ch i).sz) n ≤ 1000)
    (hrec : ∀ n', 1 ≤ n' → n' < n → ∀ (B : Nat) (w' : World) (a' : Option Addr) (cap' : Nat) (ch' : Nat → CT), LIn B w' a' n' cap' ch' → B ≤ w'.heap.size → 2 * sumN (fun i => (ch' i).sz) n' ≤ 1000 → (∀ i, i < n' → ∃ j, j < n ∧ ch' i = ch j) → CombOK u fn k vs vn vc a' n' cap' ch' w') :
    CombOK u fn k vs vn vc a n cap ch w := by
  have hen : ∀ (args : Array Value) (w : World), (callFunc fn args).run Try.prog w = .ok (.enter fn args) w := hen0
  obtain ⟨g, o, rfl, hg, _⟩ := hin.1.2.2.2 (by omega)
  have hcap := hin.1.1
  have hcap2 := hin.1.2.1
  obtain ⟨h, hh⟩ : ∃ h, n / 2 = h := ⟨_, rfl⟩
  have qh : (n : Int).tdiv 2 = (h : Int) := by rw [Int.tdiv_eq_ediv_of_nonneg (by omega)]; omega
  have hh1 : 1 ≤ h := by omega
  have hh2 : h < n := by omega
  obtain ⟨m, hm⟩ : ∃ m, n - h = m := ⟨_, rfl⟩
  obtain ⟨cm, hcm⟩ : ∃ cm, cap - h = cm := ⟨_, rfl⟩
  have hcut := sumN_cut (fun i => (ch i).sz) h n (by omega)
  rw [hm] at hcut
  have HL := Lib.hid (fun (w1 : World) (hb : Below w.heap.size w w1) => hrec h hh1 hh2 w.heap.size w1 (some ⟨g, o, none⟩) cap ch (((hin.take (Nat.le_of_lt hh2)).below (Below.refl _ _) hB).below hb (Nat.le_refl _)) hb.size (by omega) (fun i hi => ⟨i, by omega, rfl⟩))
  have HR := Lib.hid (fun (w1 : World) (hb : Below w.heap.size w w1) => hrec m (by omega) (by omega) w.heap.size w1 (some ⟨g, o + h * 6, none⟩) cm (fun i => ch (h + i)) (by
    have := (hin.drop (k := h) (Nat.le_of_lt hh2) (o + h * 6) (fun _ => rfl)).below (Below.refl _ _) hB
    rw [hm, hcm] at this
    exact this.below hb (Nat.le_refl _)) hb.size (by omega) (fun i hi => ⟨h + i, by omega, rfl⟩))
  unfold CombOK at HL HR ⊢
  have QW2 := Lib.hid (show wrap64 (h : Int) = (h : Int) by unfold wrap64; omega)
  have QW := Lib.hid (show IntKind.i64.wrap (h : Int) = (h : Int) from wrap_ok (by unfold I64; omega))
  have x1 : (0 : Int) ≤ (h : Int) := by omega
  have x2 : (h : Int) ≤ (n : Int) := by omega
  have x3 : (n : Int) ≤ (cap : Int) := by omega
  have x4 : (h : Int) ≤ (cap : Int) := by omega
  have x5 : ¬ cap = h := by omega
  have hs1 := conSlice_h g o n cap h (by omega)
  have hs2 := conSlice_l g o n cap h m cm (by omega) x5 hm hcm
  have qe0 : ((n : Int) == 0) = false := beq_false_of_ne (by omega)
  have qe1 : ((n : Int) == 1) = false := beq_false_of_ne (by omega)
  have qn0 : (n == 0) = false := beq_false_of_ne (by omega)
  have qn1 : (n == 1) = false := beq_false_of_ne (by omega)
  have HOP := Lib.hid (hop w.heap.size)
  have HBd := Lib.hid (Below.drew (Below.refl w.heap.size w))
  have HFIN := Lib.hid (show ∀ (w3 : World) (v : Value) (ra rb r : List Rg), Bd ra → Bd rb → (∀ x, I64 x → (mem ra x ↔ foldU u (fun i => adm (ch i) k x) h = true)) → (∀ x, I64 x → (mem rb x ↔ foldU u (fun i => adm (ch (h + i)) k x) m = true)) → ra.length ≤ 2 * sumN (fun i => (ch i).sz) h → rb.length ≤ 2 * sumN (fun i => (ch (h + i)).sz) m →
      OwnA w.heap.size w3 v (fun x => comb u (mem ra x) (mem rb x)) (ra.length + rb.length) r → OwnA w.heap.size w3 v (fun x => foldU u (fun i => adm (ch i) k x) n = true) (2 * sumN (fun i => (ch i).sz) n) r from fun w3 v ra rb r _ _ h1 h2 h3 h4 h5 => h5.cast (fun x hx => (comb_congr u (h1 x hx) (h2 x hx)).trans (by rw [← hm]; exact (foldU_split u (fun i => adm (ch i) k x) h n (by omega)).symm)) (by omega))
  have HK := Lib.hid (show 2 * sumN (fun i => (ch i).sz) h ≤ 1000 ∧ 2 * sumN (fun i => (ch (h + i)).sz) m ≤ 1000 by omega)
  generalize o + h * 6 = o2 at *
  generalize (fun i => (ch i).sz) = s1 at *
  generalize (fun i => (ch (h + i)).sz) = s2 at *
  generalize hp0 : (fun x => foldU u (fun i => adm (ch i) k x) n = true) = p0 at *
  clear hop hrec hin hB hK hg hcap2 hh hcut hp0 hn2 hh1 hh2 hcap hm hcm x1 x2 x3 x4 x5
  have qw := QW.out
  have qw2 := QW2.out
  go_enter Try.func62, Try.ntmps62
  go_wp2_with fail
  go_region_held3 (fun _ => True) (trivial) (first
    | (have z := HC; clear z; refine HC.out.mono ?_; rintro e w3 ⟨v, r, rfl, h1, h2⟩; have HF := Lib.hid (HFIN.out w3 v ra rb r HA3.out.2.1 HA2.out.2.1 HA3.out.2.2.1 HA2.out.2.2.1 HA3.out.2.2.2 HA2.out.2.2.2 h1); have HB3 := Lib.hid (HB2.out.trans (h2.mono (Nat.le_refl _))); clear h1 h2)
    | (go_at_call 62; (with_reducible refine (HL.out _ HBd.out).mono ?_); rintro e w1 ⟨va, ra, rfl, h1, h2⟩; have HA1 := Lib.hid h1; have HB1 := Lib.hid (HBd.out.trans (h2.mono HBd.out.size)); clear h1 h2)
    | (have z := HB1; clear z; go_at_call 62; (with_reducible refine (HR.out _ HB1.out).mono ?_); rintro e w2 ⟨vb, rb, rfl, h1, h2⟩; have HB2 := Lib.hid (HB1.out.trans (h2.mono HB1.out.size)); have HA2 := Lib.hid h1; have HA3 := Lib.hid (HA1.out.below h2); have HC := Lib.hid (HOP.out w2 va vb ra rb HB2.out.size HA3.out.1 (h1.1.base HB1.out.size) HA3.out.2.1 h1.2.1 (Nat.le_trans HA3.out.2.2.2 HK.out.1) (Nat.le_trans h1.2.2.2 HK.out.2)); clear h1 h2))
  all_goals go_wp2_with fail
  all_goals go_ret
  all_goals exact ⟨_, r, rfl, HF.out, HB3.out⟩
end Go.Proofs.Ytfnpjdglfaaegaa
