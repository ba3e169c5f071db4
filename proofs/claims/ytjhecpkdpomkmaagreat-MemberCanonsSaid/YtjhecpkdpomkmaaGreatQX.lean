/-
  A bundle of texts, one behind the other: MbL9, MbLA.
-/
import Derived.Test.YtjhecpkdpomkmaaGreatQW
import Derived.Deep.RegionLaw
namespace Go.Proofs.YtjhecpkdpomkmaaGreat
open Go.RowKit
set_option linter.unusedVariables false
set_option linter.unusedSimpArgs false
set_option maxRecDepth 100000

/-- the cells of a row of names and of values, at its first place -/
theorem row_head {B K : Nat} {W : World} {a : Option Addr} {n cap : Nat} {cells : Nat → List Value} (h : RowAt B W a n cap K cells) (h0 : 0 < n) : ∃ g o, a = some ⟨g, o, none⟩ ∧ g < B ∧ ∀ j u, (cells 0)[j]? = some u → W.cell? ⟨g, o + j, none⟩ = some u := by
  obtain ⟨g, o, ha, hg, hc⟩ := h.2.2.2 h0
  exact ⟨g, o, ha, hg, fun j u hj => by
    have := hc 0 h0 j u hj
    rwa [Nat.zero_mul, Nat.add_zero] at this⟩
theorem same_self {B : Nat} {W : World} : ∀ {c : VT}, VIn B W c → c.same c = true
  | .nil, h => h.elim
  | .mk k m s nm a n cap ch, h => VT.same_mk (SL.same_of rfl fun _ _ => rfl) rfl fun j hj => same_self (h.2.2 j hj)
theorem cell_of_heap {W W' : World} {g o : Nat} (h : W'.heap[g]? = W.heap[g]?) : W'.cell? ⟨g, o, none⟩ = W.cell? ⟨g, o, none⟩ := by
  simp only [World.cell?, h]
set_option maxHeartbeats 64000000 in
theorem awake15_ok (w : World) : Calls Tryz.prog 10 #[] w fun e w' => e = .returned (.bool true) ∧ Below w.heap.size w w' := by
  have x0 := (((((Bx.new w #[.int .i64 1, .int .i64 1, .string ⟨#[]⟩, .slice none 0 0, .slice none 0 0] 26).alloc (.cells #[.string ⟨#[97]⟩, .int .i64 1, .bool false, .slice (some ⟨w.heap.size, 0, none⟩) 1 1, .string ⟨#[98]⟩, .int .i64 2, .bool false, .slice none 0 0] 48)).alloc (.cells #[.int .i64 8, .bool false, .slice none 0 0, .int .i64 0, .int .i64 0, .string ⟨#[]⟩, .slice none 0 0, .slice none 0 0, .slice (some ⟨w.heap.size + 1, 0, none⟩) 2 2, .slice none 0 0, .slice none 0 0, .int .i64 0, .int .i64 1, .bool false, .slice none 0 0, .int .i64 0, .int .i64 0, .string ⟨#[]⟩, .slice none 0 0, .slice none 0 0, .slice none 0 0, .slice none 0 0, .slice none 0 0, .int .i64 0, .int .i64 4, .bool false, .slice none 0 0, .int .i64 0, .int .i64 0, .string ⟨#[]⟩, .slice none 0 0, .slice none 0 0, .slice none 0 0, .slice none 0 0, .slice none 0 0, .int .i64 0] 46)).alloc (.cells #[.string ⟨#[98]⟩] 9)).alloc (.cells #[.int .i64 4, .int .i64 0, .string ⟨#[]⟩, .slice none 0 0, .slice none 0 0] 26)).alloc (.cells #[.int .i64 8, .int .i64 0, .string ⟨#[]⟩, .slice (some ⟨w.heap.size + 1 + 1 + 1, 0, none⟩) 1 1, .slice (some ⟨w.heap.size + 1 + 1 + 1 + 1, 0, none⟩) 1 1] 26)
  have x1 := ((((Bx.new (w.alloc (.cells #[.int .i64 1, .int .i64 1, .string ⟨#[]⟩, .slice none 0 0, .slice none 0 0] 26)) #[.string ⟨#[97]⟩, .int .i64 1, .bool false, .slice (some ⟨w.heap.size, 0, none⟩) 1 1, .string ⟨#[98]⟩, .int .i64 2, .bool false, .slice none 0 0] 48).alloc (.cells #[.int .i64 8, .bool false, .slice none 0 0, .int .i64 0, .int .i64 0, .string ⟨#[]⟩, .slice none 0 0, .slice none 0 0, .slice (some ⟨w.heap.size + 1, 0, none⟩) 2 2, .slice none 0 0, .slice none 0 0, .int .i64 0, .int .i64 1, .bool false, .slice none 0 0, .int .i64 0, .int .i64 0, .string ⟨#[]⟩, .slice none 0 0, .slice none 0 0, .slice none 0 0, .slice none 0 0, .slice none 0 0, .int .i64 0, .int .i64 4, .bool false, .slice none 0 0, .int .i64 0, .int .i64 0, .string ⟨#[]⟩, .slice none 0 0, .slice none 0 0, .slice none 0 0, .slice none 0 0, .slice none 0 0, .int .i64 0] 46)).alloc (.cells #[.string ⟨#[98]⟩] 9)).alloc (.cells #[.int .i64 4, .int .i64 0, .string ⟨#[]⟩, .slice none 0 0, .slice none 0 0] 26)).alloc (.cells #[.int .i64 8, .int .i64 0, .string ⟨#[]⟩, .slice (some ⟨w.heap.size + 1 + 1 + 1, 0, none⟩) 1 1, .slice (some ⟨w.heap.size + 1 + 1 + 1 + 1, 0, none⟩) 1 1] 26)
  have x2 := (((Bx.new ((w.alloc (.cells #[.int .i64 1, .int .i64 1, .string ⟨#[]⟩, .slice none 0 0, .slice none 0 0] 26)).alloc (.cells #[.string ⟨#[97]⟩, .int .i64 1, .bool false, .slice (some ⟨w.heap.size, 0, none⟩) 1 1, .string ⟨#[98]⟩, .int .i64 2, .bool false, .slice none 0 0] 48)) #[.int .i64 8, .bool false, .slice none 0 0, .int .i64 0, .int .i64 0, .string ⟨#[]⟩, .slice none 0 0, .slice none 0 0, .slice (some ⟨w.heap.size + 1, 0, none⟩) 2 2, .slice none 0 0, .slice none 0 0, .int .i64 0, .int .i64 1, .bool false, .slice none 0 0, .int .i64 0, .int .i64 0, .string ⟨#[]⟩, .slice none 0 0, .slice none 0 0, .slice none 0 0, .slice none 0 0, .slice none 0 0, .int .i64 0, .int .i64 4, .bool false, .slice none 0 0, .int .i64 0, .int .i64 0, .string ⟨#[]⟩, .slice none 0 0, .slice none 0 0, .slice none 0 0, .slice none 0 0, .slice none 0 0, .int .i64 0] 46).alloc (.cells #[.string ⟨#[98]⟩] 9)).alloc (.cells #[.int .i64 4, .int .i64 0, .string ⟨#[]⟩, .slice none 0 0, .slice none 0 0] 26)).alloc (.cells #[.int .i64 8, .int .i64 0, .string ⟨#[]⟩, .slice (some ⟨w.heap.size + 1 + 1 + 1, 0, none⟩) 1 1, .slice (some ⟨w.heap.size + 1 + 1 + 1 + 1, 0, none⟩) 1 1] 26)
  have x3 := ((Bx.new (((w.alloc (.cells #[.int .i64 1, .int .i64 1, .string ⟨#[]⟩, .slice none 0 0, .slice none 0 0] 26)).alloc (.cells #[.string ⟨#[97]⟩, .int .i64 1, .bool false, .slice (some ⟨w.heap.size, 0, none⟩) 1 1, .string ⟨#[98]⟩, .int .i64 2, .bool false, .slice none 0 0] 48)).alloc (.cells #[.int .i64 8, .bool false, .slice none 0 0, .int .i64 0, .int .i64 0, .string ⟨#[]⟩, .slice none 0 0, .slice none 0 0, .slice (some ⟨w.heap.size + 1, 0, none⟩) 2 2, .slice none 0 0, .slice none 0 0, .int .i64 0, .int .i64 1, .bool false, .slice none 0 0, .int .i64 0, .int .i64 0, .string ⟨#[]⟩, .slice none 0 0, .slice none 0 0, .slice none 0 0, .slice none 0 0, .slice none 0 0, .int .i64 0, .int .i64 4, .bool false, .slice none 0 0, .int .i64 0, .int .i64 0, .string ⟨#[]⟩, .slice none 0 0, .slice none 0 0, .slice none 0 0, .slice none 0 0, .slice none 0 0, .int .i64 0] 46)) #[.string ⟨#[98]⟩] 9).alloc (.cells #[.int .i64 4, .int .i64 0, .string ⟨#[]⟩, .slice none 0 0, .slice none 0 0] 26)).alloc (.cells #[.int .i64 8, .int .i64 0, .string ⟨#[]⟩, .slice (some ⟨w.heap.size + 1 + 1 + 1, 0, none⟩) 1 1, .slice (some ⟨w.heap.size + 1 + 1 + 1 + 1, 0, none⟩) 1 1] 26)
  have x4 := (Bx.new ((((w.alloc (.cells #[.int .i64 1, .int .i64 1, .string ⟨#[]⟩, .slice none 0 0, .slice none 0 0] 26)).alloc (.cells #[.string ⟨#[97]⟩, .int .i64 1, .bool false, .slice (some ⟨w.heap.size, 0, none⟩) 1 1, .string ⟨#[98]⟩, .int .i64 2, .bool false, .slice none 0 0] 48)).alloc (.cells #[.int .i64 8, .bool false, .slice none 0 0, .int .i64 0, .int .i64 0, .string ⟨#[]⟩, .slice none 0 0, .slice none 0 0, .slice (some ⟨w.heap.size + 1, 0, none⟩) 2 2, .slice none 0 0, .slice none 0 0, .int .i64 0, .int .i64 1, .bool false, .slice none 0 0, .int .i64 0, .int .i64 0, .string ⟨#[]⟩, .slice none 0 0, .slice none 0 0, .slice none 0 0, .slice none 0 0, .slice none 0 0, .int .i64 0, .int .i64 4, .bool false, .slice none 0 0, .int .i64 0, .int .i64 0, .string ⟨#[]⟩, .slice none 0 0, .slice none 0 0, .slice none 0 0, .slice none 0 0, .slice none 0 0, .int .i64 0] 46)).alloc (.cells #[.string ⟨#[98]⟩] 9)) #[.int .i64 4, .int .i64 0, .string ⟨#[]⟩, .slice none 0 0, .slice none 0 0] 26).alloc (.cells #[.int .i64 8, .int .i64 0, .string ⟨#[]⟩, .slice (some ⟨w.heap.size + 1 + 1 + 1, 0, none⟩) 1 1, .slice (some ⟨w.heap.size + 1 + 1 + 1 + 1, 0, none⟩) 1 1] 26)
  have x5 := Bx.new (((((w.alloc (.cells #[.int .i64 1, .int .i64 1, .string ⟨#[]⟩, .slice none 0 0, .slice none 0 0] 26)).alloc (.cells #[.string ⟨#[97]⟩, .int .i64 1, .bool false, .slice (some ⟨w.heap.size, 0, none⟩) 1 1, .string ⟨#[98]⟩, .int .i64 2, .bool false, .slice none 0 0] 48)).alloc (.cells #[.int .i64 8, .bool false, .slice none 0 0, .int .i64 0, .int .i64 0, .string ⟨#[]⟩, .slice none 0 0, .slice none 0 0, .slice (some ⟨w.heap.size + 1, 0, none⟩) 2 2, .slice none 0 0, .slice none 0 0, .int .i64 0, .int .i64 1, .bool false, .slice none 0 0, .int .i64 0, .int .i64 0, .string ⟨#[]⟩, .slice none 0 0, .slice none 0 0, .slice none 0 0, .slice none 0 0, .slice none 0 0, .int .i64 0, .int .i64 4, .bool false, .slice none 0 0, .int .i64 0, .int .i64 0, .string ⟨#[]⟩, .slice none 0 0, .slice none 0 0, .slice none 0 0, .slice none 0 0, .slice none 0 0, .int .i64 0] 46)).alloc (.cells #[.string ⟨#[98]⟩] 9)).alloc (.cells #[.int .i64 4, .int .i64 0, .string ⟨#[]⟩, .slice none 0 0, .slice none 0 0] 26)) #[.int .i64 8, .int .i64 0, .string ⟨#[]⟩, .slice (some ⟨w.heap.size + 1 + 1 + 1, 0, none⟩) 1 1, .slice (some ⟨w.heap.size + 1 + 1 + 1 + 1, 0, none⟩) 1 1] 26
  simp only [World.size_alloc] at x1 x2 x3 x4 x5
  have hb0 := Below.refl w.heap.size w
  have hb1 := hb0.alloc hb0.size (.cells #[.int .i64 1, .int .i64 1, .string ⟨#[]⟩, .slice none 0 0, .slice none 0 0] 26)
  have hb2 := hb1.alloc hb1.size (.cells #[.string ⟨#[97]⟩, .int .i64 1, .bool false, .slice (some ⟨w.heap.size, 0, none⟩) 1 1, .string ⟨#[98]⟩, .int .i64 2, .bool false, .slice none 0 0] 48)
  have hb3 := hb2.alloc hb2.size (.cells #[.int .i64 8, .bool false, .slice none 0 0, .int .i64 0, .int .i64 0, .string ⟨#[]⟩, .slice none 0 0, .slice none 0 0, .slice (some ⟨w.heap.size + 1, 0, none⟩) 2 2, .slice none 0 0, .slice none 0 0, .int .i64 0, .int .i64 1, .bool false, .slice none 0 0, .int .i64 0, .int .i64 0, .string ⟨#[]⟩, .slice none 0 0, .slice none 0 0, .slice none 0 0, .slice none 0 0, .slice none 0 0, .int .i64 0, .int .i64 4, .bool false, .slice none 0 0, .int .i64 0, .int .i64 0, .string ⟨#[]⟩, .slice none 0 0, .slice none 0 0, .slice none 0 0, .slice none 0 0, .slice none 0 0, .int .i64 0] 46)
  have hb4 := hb3.alloc hb3.size (.cells #[.string ⟨#[98]⟩] 9)
  have hb5 := hb4.alloc hb4.size (.cells #[.int .i64 4, .int .i64 0, .string ⟨#[]⟩, .slice none 0 0, .slice none 0 0] 26)
  have hb6 := hb5.alloc hb5.size (.cells #[.int .i64 8, .int .i64 0, .string ⟨#[]⟩, .slice (some ⟨w.heap.size + 1 + 1 + 1, 0, none⟩) 1 1, .slice (some ⟨w.heap.size + 1 + 1 + 1 + 1, 0, none⟩) 1 1] 26)
  have HSZ := Lib.hid (show ((((((w.alloc (.cells #[.int .i64 1, .int .i64 1, .string ⟨#[]⟩, .slice none 0 0, .slice none 0 0] 26)).alloc (.cells #[.string ⟨#[97]⟩, .int .i64 1, .bool false, .slice (some ⟨w.heap.size, 0, none⟩) 1 1, .string ⟨#[98]⟩, .int .i64 2, .bool false, .slice none 0 0] 48)).alloc (.cells #[.int .i64 8, .bool false, .slice none 0 0, .int .i64 0, .int .i64 0, .string ⟨#[]⟩, .slice none 0 0, .slice none 0 0, .slice (some ⟨w.heap.size + 1, 0, none⟩) 2 2, .slice none 0 0, .slice none 0 0, .int .i64 0, .int .i64 1, .bool false, .slice none 0 0, .int .i64 0, .int .i64 0, .string ⟨#[]⟩, .slice none 0 0, .slice none 0 0, .slice none 0 0, .slice none 0 0, .slice none 0 0, .int .i64 0, .int .i64 4, .bool false, .slice none 0 0, .int .i64 0, .int .i64 0, .string ⟨#[]⟩, .slice none 0 0, .slice none 0 0, .slice none 0 0, .slice none 0 0, .slice none 0 0, .int .i64 0] 46)).alloc (.cells #[.string ⟨#[98]⟩] 9)).alloc (.cells #[.int .i64 4, .int .i64 0, .string ⟨#[]⟩, .slice none 0 0, .slice none 0 0] 26)).alloc (.cells #[.int .i64 8, .int .i64 0, .string ⟨#[]⟩, .slice (some ⟨w.heap.size + 1 + 1 + 1, 0, none⟩) 1 1, .slice (some ⟨w.heap.size + 1 + 1 + 1 + 1, 0, none⟩) 1 1] 26)).heap.size = w.heap.size + 6 from by simp only [World.size_alloc])
  have HT := Lib.hid (show TBIn ((((((w.alloc (.cells #[.int .i64 1, .int .i64 1, .string ⟨#[]⟩, .slice none 0 0, .slice none 0 0] 26)).alloc (.cells #[.string ⟨#[97]⟩, .int .i64 1, .bool false, .slice (some ⟨w.heap.size, 0, none⟩) 1 1, .string ⟨#[98]⟩, .int .i64 2, .bool false, .slice none 0 0] 48)).alloc (.cells #[.int .i64 8, .bool false, .slice none 0 0, .int .i64 0, .int .i64 0, .string ⟨#[]⟩, .slice none 0 0, .slice none 0 0, .slice (some ⟨w.heap.size + 1, 0, none⟩) 2 2, .slice none 0 0, .slice none 0 0, .int .i64 0, .int .i64 1, .bool false, .slice none 0 0, .int .i64 0, .int .i64 0, .string ⟨#[]⟩, .slice none 0 0, .slice none 0 0, .slice none 0 0, .slice none 0 0, .slice none 0 0, .int .i64 0, .int .i64 4, .bool false, .slice none 0 0, .int .i64 0, .int .i64 0, .string ⟨#[]⟩, .slice none 0 0, .slice none 0 0, .slice none 0 0, .slice none 0 0, .slice none 0 0, .int .i64 0] 46)).alloc (.cells #[.string ⟨#[98]⟩] 9)).alloc (.cells #[.int .i64 4, .int .i64 0, .string ⟨#[]⟩, .slice none 0 0, .slice none 0 0] 26)).alloc (.cells #[.int .i64 8, .int .i64 0, .string ⟨#[]⟩, .slice (some ⟨w.heap.size + 1 + 1 + 1, 0, none⟩) 1 1, .slice (some ⟨w.heap.size + 1 + 1 + 1 + 1, 0, none⟩) 1 1] 26)).heap.size ((((((w.alloc (.cells #[.int .i64 1, .int .i64 1, .string ⟨#[]⟩, .slice none 0 0, .slice none 0 0] 26)).alloc (.cells #[.string ⟨#[97]⟩, .int .i64 1, .bool false, .slice (some ⟨w.heap.size, 0, none⟩) 1 1, .string ⟨#[98]⟩, .int .i64 2, .bool false, .slice none 0 0] 48)).alloc (.cells #[.int .i64 8, .bool false, .slice none 0 0, .int .i64 0, .int .i64 0, .string ⟨#[]⟩, .slice none 0 0, .slice none 0 0, .slice (some ⟨w.heap.size + 1, 0, none⟩) 2 2, .slice none 0 0, .slice none 0 0, .int .i64 0, .int .i64 1, .bool false, .slice none 0 0, .int .i64 0, .int .i64 0, .string ⟨#[]⟩, .slice none 0 0, .slice none 0 0, .slice none 0 0, .slice none 0 0, .slice none 0 0, .int .i64 0, .int .i64 4, .bool false, .slice none 0 0, .int .i64 0, .int .i64 0, .string ⟨#[]⟩, .slice none 0 0, .slice none 0 0, .slice none 0 0, .slice none 0 0, .slice none 0 0, .int .i64 0] 46)).alloc (.cells #[.string ⟨#[98]⟩] 9)).alloc (.cells #[.int .i64 4, .int .i64 0, .string ⟨#[]⟩, .slice none 0 0, .slice none 0 0] 26)).alloc (.cells #[.int .i64 8, .int .i64 0, .string ⟨#[]⟩, .slice (some ⟨w.heap.size + 1 + 1 + 1, 0, none⟩) 1 1, .slice (some ⟨w.heap.size + 1 + 1 + 1 + 1, 0, none⟩) 1 1] 26)) (awT w.heap.size) from aw_tb x0 x1 x2)
  have HV := Lib.hid (show VIn ((((((w.alloc (.cells #[.int .i64 1, .int .i64 1, .string ⟨#[]⟩, .slice none 0 0, .slice none 0 0] 26)).alloc (.cells #[.string ⟨#[97]⟩, .int .i64 1, .bool false, .slice (some ⟨w.heap.size, 0, none⟩) 1 1, .string ⟨#[98]⟩, .int .i64 2, .bool false, .slice none 0 0] 48)).alloc (.cells #[.int .i64 8, .bool false, .slice none 0 0, .int .i64 0, .int .i64 0, .string ⟨#[]⟩, .slice none 0 0, .slice none 0 0, .slice (some ⟨w.heap.size + 1, 0, none⟩) 2 2, .slice none 0 0, .slice none 0 0, .int .i64 0, .int .i64 1, .bool false, .slice none 0 0, .int .i64 0, .int .i64 0, .string ⟨#[]⟩, .slice none 0 0, .slice none 0 0, .slice none 0 0, .slice none 0 0, .slice none 0 0, .int .i64 0, .int .i64 4, .bool false, .slice none 0 0, .int .i64 0, .int .i64 0, .string ⟨#[]⟩, .slice none 0 0, .slice none 0 0, .slice none 0 0, .slice none 0 0, .slice none 0 0, .int .i64 0] 46)).alloc (.cells #[.string ⟨#[98]⟩] 9)).alloc (.cells #[.int .i64 4, .int .i64 0, .string ⟨#[]⟩, .slice none 0 0, .slice none 0 0] 26)).alloc (.cells #[.int .i64 8, .int .i64 0, .string ⟨#[]⟩, .slice (some ⟨w.heap.size + 1 + 1 + 1, 0, none⟩) 1 1, .slice (some ⟨w.heap.size + 1 + 1 + 1 + 1, 0, none⟩) 1 1] 26)).heap.size ((((((w.alloc (.cells #[.int .i64 1, .int .i64 1, .string ⟨#[]⟩, .slice none 0 0, .slice none 0 0] 26)).alloc (.cells #[.string ⟨#[97]⟩, .int .i64 1, .bool false, .slice (some ⟨w.heap.size, 0, none⟩) 1 1, .string ⟨#[98]⟩, .int .i64 2, .bool false, .slice none 0 0] 48)).alloc (.cells #[.int .i64 8, .bool false, .slice none 0 0, .int .i64 0, .int .i64 0, .string ⟨#[]⟩, .slice none 0 0, .slice none 0 0, .slice (some ⟨w.heap.size + 1, 0, none⟩) 2 2, .slice none 0 0, .slice none 0 0, .int .i64 0, .int .i64 1, .bool false, .slice none 0 0, .int .i64 0, .int .i64 0, .string ⟨#[]⟩, .slice none 0 0, .slice none 0 0, .slice none 0 0, .slice none 0 0, .slice none 0 0, .int .i64 0, .int .i64 4, .bool false, .slice none 0 0, .int .i64 0, .int .i64 0, .string ⟨#[]⟩, .slice none 0 0, .slice none 0 0, .slice none 0 0, .slice none 0 0, .slice none 0 0, .int .i64 0] 46)).alloc (.cells #[.string ⟨#[98]⟩] 9)).alloc (.cells #[.int .i64 4, .int .i64 0, .string ⟨#[]⟩, .slice none 0 0, .slice none 0 0] 26)).alloc (.cells #[.int .i64 8, .int .i64 0, .string ⟨#[]⟩, .slice (some ⟨w.heap.size + 1 + 1 + 1, 0, none⟩) 1 1, .slice (some ⟨w.heap.size + 1 + 1 + 1 + 1, 0, none⟩) 1 1] 26)) (awV w.heap.size ⟨#[98]⟩) from aw_val (by decide) x3 x4)
  have HX0 := Lib.hid x0
  have HX1 := Lib.hid x1
  have HX2 := Lib.hid x2
  have HX3 := Lib.hid x3
  have HX4 := Lib.hid x4
  have HX5 := Lib.hid x5
  have HB := Lib.hid hb6
  clear x0 x1 x2 x3 x4 x5 hb0 hb1 hb2 hb3 hb4 hb5 hb6
  go_enter Tryz.func10, Tryz.ntmps10
  go_wp2_with fail
  generalize ((((((w.alloc (.cells #[.int .i64 1, .int .i64 1, .string ⟨#[]⟩, .slice none 0 0, .slice none 0 0] 26)).alloc (.cells #[.string ⟨#[97]⟩, .int .i64 1, .bool false, .slice (some ⟨w.heap.size, 0, none⟩) 1 1, .string ⟨#[98]⟩, .int .i64 2, .bool false, .slice none 0 0] 48)).alloc (.cells #[.int .i64 8, .bool false, .slice none 0 0, .int .i64 0, .int .i64 0, .string ⟨#[]⟩, .slice none 0 0, .slice none 0 0, .slice (some ⟨w.heap.size + 1, 0, none⟩) 2 2, .slice none 0 0, .slice none 0 0, .int .i64 0, .int .i64 1, .bool false, .slice none 0 0, .int .i64 0, .int .i64 0, .string ⟨#[]⟩, .slice none 0 0, .slice none 0 0, .slice none 0 0, .slice none 0 0, .slice none 0 0, .int .i64 0, .int .i64 4, .bool false, .slice none 0 0, .int .i64 0, .int .i64 0, .string ⟨#[]⟩, .slice none 0 0, .slice none 0 0, .slice none 0 0, .slice none 0 0, .slice none 0 0, .int .i64 0] 46)).alloc (.cells #[.string ⟨#[98]⟩] 9)).alloc (.cells #[.int .i64 4, .int .i64 0, .string ⟨#[]⟩, .slice none 0 0, .slice none 0 0] 26)).alloc (.cells #[.int .i64 8, .int .i64 0, .string ⟨#[]⟩, .slice (some ⟨w.heap.size + 1 + 1 + 1, 0, none⟩) 1 1, .slice (some ⟨w.heap.size + 1 + 1 + 1 + 1, 0, none⟩) 1 1] 26)) = W5 at *
  have hsn : ∀ i, i < (awT w.heap.size).n → ((awT w.heap.size).f i).set.n ≤ 1000 := fun i hi => by
    have hi' : i < 3 := hi
    rcases (by omega : i = 0 ∨ i = 1 ∨ i = 2) with rfl | rfl | rfl <;> exact Nat.zero_le _
  have HSN := Lib.hid hsn
  have HCN := Lib.hid (show Calls Tryz.prog 13 #[.slice (some ⟨w.heap.size + 1 + 1, 0, none⟩) 3 3, .agg #[.int .i64 8, .int .i64 0, .string ⟨#[]⟩, .slice (some ⟨w.heap.size + 1 + 1 + 1, 0, none⟩) 1 1, .slice (some ⟨w.heap.size + 1 + 1 + 1 + 1, 0, none⟩) 1 1]] W5 (CanonOut W5 (awT w.heap.size) (awV w.heap.size ⟨#[98]⟩)) from canon_ok W5.heap.size W5 (awT w.heap.size) (awV w.heap.size ⟨#[98]⟩) HT.out HV.out (Nat.le_refl _) hsn)
  clear hsn
  refine HCN.out.mono ?_
  rintro e wD ⟨h2, ⟨_, v2, rfl, hvi, hvb, hfu⟩ | ⟨h0, _⟩⟩
  case inr => exact absurd (aw_chk w.heap.size) h0
  obtain ⟨nm, a, cap, ch, k0, rfl, hnn, hn0, s1, nm1, a1, n1, cap1, ch1, hch⟩ := aw_full w.heap.size v2 hfu
  obtain ⟨gn, on, hna, hgn, hcn⟩ := row_head hvi.1.2.2.2.1 (by omega)
  obtain ⟨gl, ol, rfl, hgl, hcl⟩ := row_head hvi.2.1 (by omega)
  have hgn5 : W5.heap.size ≤ gn := hvb.1 (by omega) gn on hna
  have hgl5 : W5.heap.size ≤ gl := hvb.2.1 (by omega) gl ol rfl
  have hcn0 := hcn 0 (.string ⟨#[97]⟩) (by simp [hn0])
  have hcl1 := hcl 1 (.int .i64 1) (by simp [hch, VT.cells])
  rw [Nat.add_zero] at hcn0
  have HXD := Lib.hid (fun (g : Nat) (c : Array Value) (T : TypeId) (hx : Bx W5 g c T) => hx.below h2 hx.lt)
  have hsz := h2.size
  have HBD := Lib.hid (HB.out.trans (h2.mono HB.out.size))
  have HVI := Lib.hid hvi
  have HVB := Lib.hid hvb
  have HSZD := Lib.hid hsz
  rw [list5, hnn, hna]
  obtain ⟨nc, hnc⟩ : ∃ x, nm.cap = x := ⟨_, rfl⟩
  rw [hnc]
  have HCC := Lib.hid (show (VT.mk 8 0 ⟨#[]⟩ nm (some ⟨gl, ol, none⟩) 2 cap ch).cells = [.int .i64 8, .int .i64 0, .string ⟨#[]⟩, .slice (some ⟨gn, on, none⟩) 2 nc, .slice (some ⟨gl, ol, none⟩) 2 cap] from by rw [list5, hnn, hna, hnc])
  have HGN := Lib.hid hgn5
  have HGL := Lib.hid hgl5
  have HCN0 := Lib.hid hcn0
  have HCL1 := Lib.hid hcl1
  clear h2 hvi hvb hfu hcn hcl hcn0 hcl1 hgn5 hgl5 hsz hnn hna hnc hn0 hch HCN HV HT
  go_upto_region 4 with (refine wpList_store_new rfl 26 (.tmp 3) (.tmp 22) rfl 5 _ [.int .i64 8, .int .i64 0, .string ⟨#[]⟩, .slice (some ⟨gn, on, none⟩) 2 nc, .slice (some ⟨gl, ol, none⟩) 2 cap] rfl (by rfl) info_V (by simp [Value.oneCell']) rfl rfl ?_)
  have hbE := (Below.refl wD.heap.size wD).alloc (Nat.le_refl _) (.cells #[.int .i64 8, .int .i64 0, .string ⟨#[]⟩, .slice (some ⟨gn, on, none⟩) 2 nc, .slice (some ⟨gl, ol, none⟩) 2 cap] 26)
  have HXC := Lib.hid (Bx.new wD #[.int .i64 8, .int .i64 0, .string ⟨#[]⟩, .slice (some ⟨gn, on, none⟩) 2 nc, .slice (some ⟨gl, ol, none⟩) 2 cap] 26)
  have HSZE := Lib.hid (show (wD.alloc (.cells #[.int .i64 8, .int .i64 0, .string ⟨#[]⟩, .slice (some ⟨gn, on, none⟩) 2 nc, .slice (some ⟨gl, ol, none⟩) 2 cap] 26)).heap.size = wD.heap.size + 1 from by rw [World.size_alloc])
  generalize wD.alloc (.cells #[.int .i64 8, .int .i64 0, .string ⟨#[]⟩, .slice (some ⟨gn, on, none⟩) 2 nc, .slice (some ⟨gl, ol, none⟩) 2 cap] 26) = wE at *
  have HBE := Lib.hid hbE
  have HXE := Lib.hid (fun (g : Nat) (c : Array Value) (T : TypeId) (hx : Bx W5 g c T) => (HXD.out g c T hx).below hbE (HXD.out g c T hx).lt)
  have HVE := Lib.hid (HVI.out.below hbE (Nat.le_refl _))
  obtain ⟨q0, q1, q2, q3, q4⟩ := fiveX (HXE.out _ _ _ HX5.out)
  have y0 := (HXE.out _ _ _ HX3.out).cell 0 (v := .string ⟨#[98]⟩) rfl
  have z0 := frozenM (HXE.out _ _ _ HX3.out) 0
  have r1 : decide ((0 : Int) < (1 : Int)) = true := by decide
  obtain ⟨g, hg⟩ : ∃ g, wD.heap.size = g := ⟨_, rfl⟩
  rw [hg] at HXC HSZE HSZD ⊢
  have HGD := Lib.hid hg
  clear hbE hg
  -- v.Names[0] = "a"
  have hlt : w.heap.size + 1 + 1 + 1 < g := by have h1 := HSZ.out; have h2 := HSZD.out; omega
  have X0 := Lib.hid (bx_farM (j := 0) (v := .string ⟨#[97]⟩) (HXE.out _ _ _ HX0.out) (show w.heap.size ≠ w.heap.size + 1 + 1 + 1 by omega))
  have X1 := Lib.hid (bx_farM (j := 0) (v := .string ⟨#[97]⟩) (HXE.out _ _ _ HX1.out) (show w.heap.size + 1 ≠ w.heap.size + 1 + 1 + 1 by omega))
  have X2 := Lib.hid (bx_farM (j := 0) (v := .string ⟨#[97]⟩) (HXE.out _ _ _ HX2.out) (show w.heap.size + 1 + 1 ≠ w.heap.size + 1 + 1 + 1 by omega))
  have X3 := Lib.hid (bx_fieldM (HXE.out _ _ _ HX3.out) 0 (.string ⟨#[97]⟩))
  have X4 := Lib.hid (bx_farM (j := 0) (v := .string ⟨#[97]⟩) (HXE.out _ _ _ HX4.out) (show w.heap.size + 1 + 1 + 1 + 1 ≠ w.heap.size + 1 + 1 + 1 by omega))
  have X5 := Lib.hid (bx_farM (j := 0) (v := .string ⟨#[97]⟩) (HXE.out _ _ _ HX5.out) (show w.heap.size + 1 + 1 + 1 + 1 + 1 ≠ w.heap.size + 1 + 1 + 1 by omega))
  have XC := Lib.hid (bx_farM (b := w.heap.size + 1 + 1 + 1) (j := 0) (v := .string ⟨#[97]⟩) HXC.out (by omega))
  have HBF := Lib.hid (below_fieldM (j := 0) (v := .string ⟨#[97]⟩) (HBD.out.trans (HBE.out.mono HBD.out.size)) (show w.heap.size ≤ w.heap.size + 1 + 1 + 1 by omega))
  have HVF := Lib.hid (VIn.frame (P := (W5.heap.size ≤ ·)) (W' := wE.setCell ⟨w.heap.size + 1 + 1 + 1, 0, none⟩ (.string ⟨#[97]⟩)) (B' := (wE.setCell ⟨w.heap.size + 1 + 1 + 1, 0, none⟩ (.string ⟨#[97]⟩)).heap.size) (fun q _ hp => heap_fieldM (by have h1 := HSZ.out; have h2 : W5.heap.size ≤ q := hp; omega)) (by have h1 := HSZE.out; have h2 := HGD.out; simp; omega) HVE.out HVB.out)
  have f0 : (wE.setCell ⟨w.heap.size + 1 + 1 + 1, 0, none⟩ (.string ⟨#[97]⟩)).cell? ⟨gn, on, none⟩ = some (.string ⟨#[97]⟩) := by
    have h1 : wE.cell? ⟨gn, on, none⟩ = some (.string ⟨#[97]⟩) := (HBE.out.cell (p := ⟨gn, on, none⟩) hgn).trans HCN0.out
    rw [← h1]
    refine cell_of_heap (heap_fieldM ?_)
    show gn ≠ _
    have h1 := HSZ.out
    have h2 := HGN.out
    omega
  have f1 : (wE.setCell ⟨w.heap.size + 1 + 1 + 1, 0, none⟩ (.string ⟨#[97]⟩)).cell? ⟨gl, ol + 1, none⟩ = some (.int .i64 1) := by
    have h1 : wE.cell? ⟨gl, ol + 1, none⟩ = some (.int .i64 1) := (HBE.out.cell (p := ⟨gl, ol + 1, none⟩) hgl).trans HCL1.out
    rw [← h1]
    refine cell_of_heap (heap_fieldM ?_)
    show gl ≠ _
    have h1 := HSZ.out
    have h2 := HGL.out
    omega
  have F0 := Lib.hid f0
  have F1 := Lib.hid f1
  clear f0 f1 hgn hgl
  go_upto_region 5 with fail
  generalize wE.setCell ⟨w.heap.size + 1 + 1 + 1, 0, none⟩ (.string ⟨#[97]⟩) = wF at *
  clear q0 q1 q2 q3 q4 y0 z0 r1
  have HTF := Lib.hid (show TBIn wF.heap.size wF (awT w.heap.size) from aw_tb X0.out X1.out X2.out)
  have HVA := Lib.hid (show VIn wF.heap.size wF (awV w.heap.size ⟨#[97]⟩) from aw_val (by decide) X3.out X4.out)
  have HCK := Lib.hid (show Calls Tryz.prog 23 #[.slice (some ⟨w.heap.size + 1 + 1, 0, none⟩) 3 3, .agg #[.int .i64 8, .int .i64 0, .string ⟨#[]⟩, .slice (some ⟨w.heap.size + 1 + 1 + 1, 0, none⟩) 1 1, .slice (some ⟨w.heap.size + 1 + 1 + 1 + 1, 0, none⟩) 1 1]] wF fun e w' => e = .returned (.int .i64 4) ∧ Below wF.heap.size wF w' from by
    have h := check_ok wF.heap.size wF (awT w.heap.size) (awV w.heap.size ⟨#[97]⟩) HTF.out HVA.out (Nat.le_refl _) HSN.out
    rw [aw_chk4] at h
    exact h)
  have HRT := Lib.hid (fun (W : World) (hb : Below wF.heap.size wF W) => show Calls Tryz.prog 32 #[.slice (some ⟨w.heap.size + 1 + 1, 0, none⟩) 3 3] W fun e w' => e = .returned (.bool true) ∧ Below W.heap.size W w' from by
    have h := mRight_ok W.heap.size W (awT w.heap.size) ((HTF.out.below hb (Nat.le_refl _)).below (Below.refl _ _) hb.size) (Nat.le_refl _) HSN.out
    rw [awT_good] at h
    exact h)
  have HSM := Lib.hid (fun (W : World) (hb : Below wF.heap.size wF W) => show Calls Tryz.prog 16 #[.agg #[.int .i64 8, .int .i64 0, .string ⟨#[]⟩, .slice (some ⟨gn, on, none⟩) 2 nc, .slice (some ⟨gl, ol, none⟩) 2 cap], .agg #[.int .i64 8, .int .i64 0, .string ⟨#[]⟩, .slice (some ⟨gn, on, none⟩) 2 nc, .slice (some ⟨gl, ol, none⟩) 2 cap]] W fun e w' => e = .returned (.bool true) ∧ Below W.heap.size W w' from by
    have hv := (HVF.out.below hb (Nat.le_refl _)).below (Below.refl _ _) hb.size
    have h := mSame_ok _ _ W.heap.size W hv hv (Nat.le_refl _)
    rw [same_self hv, HCC.out] at h
    exact h)
  obtain ⟨c0, c1, c2, c3, c4⟩ := fiveX XC.out
  obtain ⟨d0, d1, d2, d3, d4⟩ := fiveX X5.out
  have f0 := F0.out
  have f1 := F1.out
  have r1 : decide ((0 : Int) < (2 : Int)) = true := by decide
  go_wp2_with fail
  refine HCK.out.mono ?_
  rintro e wG ⟨rfl, h2⟩
  have HBG := Lib.hid h2
  clear h2 c0 c1 c2 c3 c4 d0 d1 d2 d3 d4 f0 f1 r1
  go_wp2_with fail
  refine (HRT.out _ HBG.out).mono ?_
  rintro e wH ⟨rfl, h2⟩
  have HBH := Lib.hid (HBG.out.trans (h2.mono HBG.out.size))
  clear h2
  obtain ⟨c0, c1, c2, c3, c4⟩ := fiveX (XC.out.below HBH.out XC.out.lt)
  go_wp2_with fail
  refine (HSM.out _ HBH.out).mono ?_
  rintro e wI ⟨rfl, h2⟩
  have HBI := Lib.hid (HBF.out.trans ((HBH.out.trans (h2.mono HBH.out.size)).mono HBF.out.size))
  clear h2 c0 c1 c2 c3 c4
  go_wp2_with fail
  go_ret
  exact ⟨rfl, HBI.out⟩
end Go.Proofs.YtjhecpkdpomkmaaGreat

namespace Go.Proofs.YtjhecpkdpomkmaaGreat
open Go.RowKit
set_option linter.unusedVariables false
set_option linter.unusedSimpArgs false
set_option maxRecDepth 100000

/-- where the copy's field has become a row without one element -/
def CutA (wE : World) (bD : Nat) (c1 : Value → Array Value) (mm K : Nat) (f : Nat → List Value) (wx : World) : Prop :=
  (Below bD wE wx ∧ ∀ q, q < wE.heap.size → q ≠ bD → wx.heap[q]? = wE.heap[q]?) ∧
  ∃ an cn, Bx wx bD (c1 (.slice an mm cn)) 26 ∧ RowAt wx.heap.size wx an mm cn K f ∧ rowP (wE.heap.size ≤ ·) an mm
def RelMu (w : World) (r : DT) (s : ByteArray) (pn : Nat) (mv iv : Value) (wr : World) : Prop := ∃ j : Nat, j ≤ pn ∧ iv = .int .i64 (j : Nat) ∧ mv = .bool (mustN r s j) ∧ Below w.heap.size w wr
theorem info_F4 : (Tryz.prog.info? 48).map (·.size) = some 4 := by kernel_rfl
end Go.Proofs.YtjhecpkdpomkmaaGreat
