/-
  Proved: the statement OctetsOnly (octets that are read without an error, without a sign and with one, are just those that are written of what is read), for every input; no further condition.
-/
import Derived.Test.YtngflbknddbniaaRows
import Derived.Test.YtngflbknddbniaaOLaw
import Derived.ProofKit
import Derived.OpenShut
import Derived.ShutString
import Derived.ChangeOld
namespace Go.Proofs.Ytngflbknddbniaa.octetsOnly
open Go.ChangeShapes Go.WideShapes Go.ChangeAt Go.RowKit
open Go.ChangeMaps (open_string shut_string)
set_option linter.unusedVariables false
set_option linter.unusedSimpArgs false

theorem own : ownKnob Try.prog.godebug = none := by kernel_rfl
theorem laidOut : laidOutB Try.prog = true := by kernel_rfl

theorem uerr_good {l : List Nat} (h : uerr l = 0) : umin l ∧ l.length ≤ 8 := by
  unfold uerr at h
  split at h
  · cases h
  · rename_i h1
    split at h
    · cases h
    · refine ⟨⟨fun e => h1 (.inl e), ?_⟩, by omega⟩
      by_cases h2 : l.length = 1
      · exact .inl h2
      · exact .inr fun e => h1 (.inr ⟨h2, e⟩)
theorem serr_good {l : List Nat} (h : serr l = 0) : smin l ∧ l.length ≤ 8 := by
  unfold serr at h
  split at h
  · cases h
  · rename_i h1
    split at h
    · cases h
    · refine ⟨⟨fun e => h1 (.inl e), ?_⟩, by omega⟩
      by_cases h2 : l.length = 1
      · exact .inl h2
      · exact .inr fun e => h1 (.inr ⟨h2, e⟩)
theorem sl_byte {w : World} {s : Value} {l : List Nat} (h : SlAt w s l) (i : Nat) : l.getD i 0 < 256 := by
  rcases h with ⟨g, o, cap, e, hd⟩ | ⟨rfl, _⟩
  · exact hd.byte i
  · simp
theorem pick_zero (z : Int) : z = 0 ∨ ((z == 0) = false) := by
  by_cases h : z = 0
  · exact .inl h
  · exact .inr (by rw [beq_eq_false_iff_ne]; exact h)
set_option maxHeartbeats 2000000 in
theorem walk (w : World) (a0 : Option Addr) (len0 cap0 : Nat) (z0 : List Int) (w0 : IsRow .u8 w a0 len0 cap0 z0) :
    Calls Try.prog 12 #[.slice a0 len0 cap0] w fun e w' => e = .returned (.bool true) ∧ Below w.heap.size w w' := by
  obtain ⟨l, hsl, hl⟩ := sl_of_isRow w0
  have hlen : l.length ≤ 9223372036854775807 := by
    rcases w0 with ⟨_, h, _⟩ | ⟨x, _, h1, h2, _⟩
    · omega
    · unfold maxLen at h2; omega
  have hbyte := sl_byte hsl
  have HSL := Lib.hid hsl
  have HBY := Lib.hid hbyte
  have hU := fun h => uerr_good (l := l) h
  have hS := fun h => serr_good (l := l) h
  have hu0 : uerr l ≠ 0 → uval l = 0 := uval_bad
  have hs0 : serr l ≠ 0 → sval l = 0 := sval_bad
  have hu1 : uerr l = 0 → uval l = unum l := uval_good
  have hs1 : serr l = 0 → sval l = snum l := sval_good
  have hmag : serr l = 0 → mag (sval l) < 2 ^ 63 ∧ low (u64n (sval l)) (scnt (sval l)) = l := by
    intro h
    obtain ⟨g1, g2⟩ := hS h
    rw [hs1 h]
    refine ⟨?_, by rw [smin_scnt l (mem_lt hbyte) g1 g2, low_snum l (mem_lt hbyte) g1.1 g2]⟩
    cases l with
    | nil => exact absurd rfl g1.1
    | cons a r => exact (smin_facts a r (mem_lt hbyte) g2).2.1
  have hcnt : uerr l = 0 → uval l < 2 ^ 64 ∧ low (uval l) (cnt (uval l)) = l := by
    intro h
    obtain ⟨g1, g2⟩ := hU h
    rw [hu1 h]
    have h3 := unum_lt l (mem_lt hbyte)
    have h4 : 2 ^ (8 * l.length) ≤ 2 ^ 64 := pow_le (by omega)
    exact ⟨by omega, by rw [umin_cnt l (mem_lt hbyte) g1 g2, low_unum l (mem_lt hbyte)]⟩
  have HU := Lib.hid hcnt
  have HS := Lib.hid hmag
  have HU0 := Lib.hid hu0
  have HS0 := Lib.hid hs0
  clear hU hS hu0 hs0 hu1 hs1 hmag hcnt hbyte hsl w0 hl
  go_enter Try.func12, Try.ntmps12
  go_wp2_with fail
  refine (oawake _).mono ?_
  rintro e w1 ⟨rfl, hb⟩
  have HB1 := Lib.hid hb
  have HSL1 := Lib.hid (HSL.out.below hb)
  clear hb HSL
  go_wp2_with fail
  refine (fromU_ok w1 _ l HSL1.out hlen).mono ?_
  rintro e w2 ⟨rfl, rfl⟩
  go_wp2_with fail
  refine (fromS_ok w1 _ l HSL1.out hlen).mono ?_
  rintro e w2 ⟨rfl, hb⟩
  have HB2 := Lib.hid (HB1.out.trans (hb.mono HB1.out.size))
  have HSL2 := Lib.hid (HSL1.out.below hb)
  clear hb HSL1 HB1 hlen
  revert HU HS HU0 HS0
  generalize uerr l = e1
  generalize serr l = e2
  generalize uval l = v
  generalize sval l = n
  intro HU HS HU0 HS0
  rcases pick_zero e1 with h1 | h1
  · subst h1
    obtain ⟨k1, k2⟩ := HU.out rfl
    have HK := Lib.hid k2
    clear HU HU0 k2
    go_wp2_with fail
    refine (unsigned_ok v w2 k1).mono ?_
    rintro e w3 ⟨s, rfl, hn, hb⟩
    rw [HK.out] at hn
    have HN := Lib.hid hn.sl
    have HSL3 := Lib.hid (HSL2.out.below hb)
    have HB3 := Lib.hid (HB2.out.trans (hb.mono HB2.out.size))
    clear hb hn HSL2 HB2 HK k1
    go_wp2_with fail
    refine (osame_yes w3 _ _ l HN.out HSL3.out).mono ?_
    rintro e w4 ⟨rfl, rfl⟩
    clear HN
    rcases pick_zero e2 with h2 | h2
    · subst h2
      obtain ⟨k1, k2⟩ := HS.out rfl
      have HK := Lib.hid k2
      clear HS HS0 k2
      go_wp2_with fail
      refine (signed_ok n w3 k1).mono ?_
      rintro e w5 ⟨s, rfl, hn, hb⟩
      rw [HK.out] at hn
      have HN := Lib.hid hn.sl
      have HSL5 := Lib.hid (HSL3.out.below hb)
      have HB5 := Lib.hid (HB3.out.trans (hb.mono HB3.out.size))
      clear hb hn HSL3 HB3
      go_wp2_with fail
      refine (osame_yes w5 _ _ l HN.out HSL5.out).mono ?_
      rintro e w6 ⟨rfl, rfl⟩
      clear HN
      go_wp2_with fail
      go_ret
      exact ⟨rfl, HB5.out⟩
    · have h3 : n = 0 := HS0.out (by rw [beq_eq_false_iff_ne] at h2; exact h2)
      subst h3
      have h2n : (e2 != 0) = true := by rw [bne, h2]; rfl
      clear HS HS0
      go_wp2_with fail
      go_ret
      exact ⟨rfl, HB3.out⟩
  · have h0 : v = 0 := HU0.out (by rw [beq_eq_false_iff_ne] at h1; exact h1)
    subst h0
    have h1n : (e1 != 0) = true := by rw [bne, h1]; rfl
    clear HU HU0
    rcases pick_zero e2 with h2 | h2
    · subst h2
      obtain ⟨k1, k2⟩ := HS.out rfl
      have HK := Lib.hid k2
      clear HS HS0 k2
      go_wp2_with fail
      refine (signed_ok n w2 k1).mono ?_
      rintro e w5 ⟨s, rfl, hn, hb⟩
      rw [HK.out] at hn
      have HN := Lib.hid hn.sl
      have HSL5 := Lib.hid (HSL2.out.below hb)
      have HB5 := Lib.hid (HB2.out.trans (hb.mono HB2.out.size))
      clear hb hn HSL2 HB2
      go_wp2_with fail
      refine (osame_yes w5 _ _ l HN.out HSL5.out).mono ?_
      rintro e w6 ⟨rfl, rfl⟩
      clear HN
      go_wp2_with fail
      go_ret
      exact ⟨rfl, HB5.out⟩
    · have h3 : n = 0 := HS0.out (by rw [beq_eq_false_iff_ne] at h2; exact h2)
      subst h3
      have h2n : (e2 != 0) = true := by rw [bne, h2]; rfl
      clear HS HS0
      go_wp2_with fail
      go_ret
      exact ⟨rfl, HB2.out⟩

set_option maxRecDepth 100000 in
theorem lifted (os : Os) (started : os.Started) (H : Type) (enc : TypeId × Value → H) :
    ReturnsInHanded {} Try.checked os 12 .any (Rows.octetsOnlySpec.pre6 enc Try.prog Try.f12 Rows.octetsOnlyRow.domain false) (Rows.octetsOnlySpec.post enc Try.prog Try.f12 false true false false) := by
  refine returnsInHanded_of_change (C := Try.checked) own started (by kernel_rfl) Try.func12
    (ChangeSpec.witness6 (enc := enc) (C := Try.checked) false ⟨#[], #[.slice none 0 0], []⟩ 8 (by kernel_rfl) (by kernel_rfl) (by kernel_rfl) (by kernel_rfl)) ?_
  intro W base args ds gs before hval0 hW hcnd _
  have hval : ∀ (j : Nat) t v, Try.f12.params[j]? = some t → args[j]? = some v → Value.okWide Try.prog W .any base t v := hval0
  have hW' := hW
  obtain ⟨p, q, hA0, hV, rfl, hfz, hnd⟩ := hW
  have hA : DataW.TrodAll enc Try.prog W 0 (fun _ => true) true Try.f12.params.toList args.toList ds p := hA0
  rw [Try.params12] at hA hval
  obtain ⟨v0, vs0, d0, ds0, p0, q0, hargs, rfl, rfl, h0, r0⟩ := trodAll_cons hA
  obtain ⟨rfl, rfl, rfl⟩ := trodAll_nil r0
  obtain rfl : args = #[v0] := by cases args; simp_all
  obtain ⟨rfl, rfl⟩ := trodVars_none hV
  obtain ⟨a0, len0, cap0, rfl⟩ := okWide_slice Try.underlying30 (hval 0 30 v0 rfl rfl)
  have k0 := h0
  have lt0 : ∀ x ∈ p0, x.block < W.heap.size := by obtain ⟨m, hm⟩ := k0; exact DataW.trod_lt m _ _ _ hm
  obtain ⟨z0, w0⟩ : ∃ zs, IsRow .u8 W a0 len0 cap0 zs := by
    obtain ⟨fuel, hf⟩ := h0
    rcases open_ints Try.underlying30 Try.underlying5 (by kernel_rfl) hf with ⟨hcs, _⟩ | ⟨x, l, c, zs, hcs, _, hl, hm, hz, _, hcell, hwz⟩
    · simp [Value.cells] at hcs
      obtain ⟨rfl, rfl, rfl⟩ := hcs
      exact ⟨[], .inl ⟨rfl, rfl, rfl, rfl⟩⟩
    · simp [Value.cells] at hcs
      obtain ⟨rfl, rfl, rfl⟩ := hcs
      exact ⟨zs, .inr ⟨_, rfl, hl, hm, by simpa using hz, hcell, hwz⟩⟩
  clear hA0 hval0
  refine (walk W a0 len0 cap0 z0 w0).mono fun e W' ⟨he, bel⟩ => ?_
  subst he
  exact ⟨_, rfl, _, _, _, [], _, [], hW', trodAll_mk1 (shut_bool Try.underlying4 _), (trodAll_cons_mk (Below.trod laidOut (by kernel_rfl) (of_decide_eq_true (by kernel_rfl)) k0 bel lt0) trodAll_mk0), rfl, bel.frame _, fun h => by cases h⟩

theorem over : Rows.octetsOnlyRow.holds Try.pinned (OpenSpec.ofChange Rows.octetsOnlySpec) :=
  OpenClaim.holds_of_wide 12 Try.f12 rfl rfl rfl rfl rfl rfl rfl ⟨rfl, rfl, rfl, rfl, rfl⟩ rfl rfl rfl rfl rfl (by kernel_rfl) Try.func12 (by kernel_rfl)
    (of_decide_eq_true (by kernel_rfl)) (by unfold Func.isWrapper; first | (rw [if_pos (by decide +kernel)]; kernel_rfl) | (rw [if_neg (by decide +kernel)]; exact ⟨rfl, rfl⟩))
    (fun os started H enc _ => lifted os started H enc)

theorem proved : Rows.OctetsOnlySaid := over
end Go.Proofs.Ytngflbknddbniaa.octetsOnly
