/-
  A bundle of texts, one behind the other: MbM, MbK, MbH, MbP, MbT.
-/
import Derived.Test.YtjhecpkdpomkmaaGreatQA
namespace Go.Proofs.YtjhecpkdpomkmaaGreat
open Go.RowKit
set_option linter.unusedVariables false
set_option linter.unusedSimpArgs false
set_option maxRecDepth 100000

/-- a field -/
structure FT where
  name : ByteArray
  t : Int
  opt : Bool
  d : DL
def FT.cells (p : FT) : List Value := [.string p.name, .int .i64 p.t, .bool p.opt, p.d.v]
def FT.v (p : FT) : Value := .agg p.cells.toArray
def FTIn (B : Nat) (W : World) (p : FT) : Prop := p.name.size ≤ 140737488355328 ∧ I64 p.t ∧ DLIn B W p.d
theorem FTIn.below {B B' : Nat} {W W' : World} {p : FT} (h : FTIn B W p) (hb : Below B' W W') (hB : B ≤ B') : FTIn B' W' p := ⟨h.1, h.2.1, h.2.2.below hb hB⟩
/-- a list of fields -/
structure FL where
  a : Option Addr
  n : Nat
  cap : Nat
  f : Nat → FT
def FL.v (s : FL) : Value := .slice s.a s.n s.cap
def FLIn (B : Nat) (W : World) (s : FL) : Prop := RowAt B W s.a s.n s.cap 4 (fun i => (s.f i).cells) ∧ ∀ i, i < s.n → FTIn B W (s.f i)
theorem FLIn.below {B B' : Nat} {W W' : World} {s : FL} (h : FLIn B W s) (hb : Below B' W W') (hB : B ≤ B') : FLIn B' W' s := ⟨h.1.below hb hB, fun i hi => (h.2 i hi).below hb hB⟩
/-- a list of ranges -/
structure RS where
  a : Option Addr
  n : Nat
  cap : Nat
  f : Nat → Rg
def RS.v (s : RS) : Value := .slice s.a s.n s.cap
def RS.l (s : RS) : List Rg := (List.range s.n).map s.f
def rgc (r : Rg) : List Value := [.int .i64 r.1, .int .i64 r.2]
def RSIn (B : Nat) (W : World) (s : RS) : Prop := RowAt B W s.a s.n s.cap 2 (fun i => rgc (s.f i)) ∧ ∀ i, i < s.n → I64 (s.f i).1 ∧ I64 (s.f i).2
theorem RSIn.below {B B' : Nat} {W W' : World} {s : RS} (h : RSIn B W s) (hb : Below B' W W') (hB : B ≤ B') : RSIn B' W' s := ⟨h.1.below hb hB, h.2⟩
theorem RS.len (s : RS) : s.l.length = s.n := by simp [RS.l]
theorem RS.get {s : RS} {i : Nat} (hi : i < s.n) : s.l[i]! = s.f i := by
  rw [getElem!_pos s.l i (by rw [RS.len]; exact hi)]
  simp [RS.l]
theorem RSIn.rsl {B : Nat} {W : World} {s : RS} (h : RSIn B W s) : RSl W s.v s.l := by
  refine ⟨?_, ?_⟩
  · intro r hr
    unfold RS.l at hr
    obtain ⟨i, hi, rfl⟩ := List.mem_map.1 hr
    exact h.2 i (List.mem_range.1 hi)
  · rcases Nat.eq_zero_or_pos s.n with h0 | h0
    · refine .inr ⟨List.length_eq_zero_iff.1 (by rw [RS.len]; exact h0), s.a, s.cap, ?_⟩
      unfold RS.v
      rw [h0]
    · obtain ⟨g, o, ha, hg, hc⟩ := h.1.2.2.2 h0
      refine .inl ⟨g, o, s.cap, ?_, ?_, fun i hi => ?_⟩
      · unfold RS.v
        rw [ha, RS.len]
      · rw [RS.len]; exact h.1.1
      · rw [RS.len] at hi
        rw [RS.get hi]
        exact ⟨hc i hi 0 _ rfl, hc i hi 1 _ rfl⟩
/-- a list of numbers -/
structure NL where
  a : Option Addr
  n : Nat
  cap : Nat
  f : Nat → Int
def NL.v (s : NL) : Value := .slice s.a s.n s.cap
def NL.l (s : NL) : List Int := (List.range s.n).map s.f
def NLIn (B : Nat) (W : World) (s : NL) : Prop := RowAt B W s.a s.n s.cap 1 (fun i => [.int .i64 (s.f i)]) ∧ ∀ i, i < s.n → I64 (s.f i)
theorem NLIn.below {B B' : Nat} {W W' : World} {s : NL} (h : NLIn B W s) (hb : Below B' W W') (hB : B ≤ B') : NLIn B' W' s := ⟨h.1.below hb hB, h.2⟩
/-- a row of a table -/
structure DT where
  kind : Int
  ext : Bool
  set : RS
  lo : Int
  hi : Int
  fr : ByteArray
  nm : SL
  mo : SL
  pa : FL
  ad : FL
  ord : NL
  elem : Int
def DT.cells (r : DT) : List Value := [.int .i64 r.kind, .bool r.ext, r.set.v, .int .i64 r.lo, .int .i64 r.hi, .string r.fr, r.nm.v, r.mo.v, r.pa.v, r.ad.v, r.ord.v, .int .i64 r.elem]
def DT.v (r : DT) : Value := .agg r.cells.toArray
def DTIn (B : Nat) (W : World) (r : DT) : Prop :=
  (I64 r.kind ∧ I64 r.lo ∧ I64 r.hi ∧ I64 r.elem ∧ r.fr.size ≤ 140737488355328) ∧ RSIn B W r.set ∧ SLIn B W r.nm ∧ SLIn B W r.mo ∧ FLIn B W r.pa ∧ FLIn B W r.ad ∧ NLIn B W r.ord
theorem DTIn.below {B B' : Nat} {W W' : World} {r : DT} (h : DTIn B W r) (hb : Below B' W W') (hB : B ≤ B') : DTIn B' W' r :=
  ⟨h.1, h.2.1.below hb hB, h.2.2.1.below hb hB, h.2.2.2.1.below hb hB, h.2.2.2.2.1.below hb hB, h.2.2.2.2.2.1.below hb hB, h.2.2.2.2.2.2.below hb hB⟩
/-- a table -/
structure TB where
  a : Option Addr
  n : Nat
  cap : Nat
  f : Nat → DT
def TB.v (s : TB) : Value := .slice s.a s.n s.cap
def TBIn (B : Nat) (W : World) (s : TB) : Prop := RowAt B W s.a s.n s.cap 12 (fun i => (s.f i).cells) ∧ ∀ i, i < s.n → DTIn B W (s.f i)
theorem TBIn.below {B B' : Nat} {W W' : World} {s : TB} (h : TBIn B W s) (hb : Below B' W W') (hB : B ≤ B') : TBIn B' W' s := ⟨h.1.below hb hB, fun i hi => (h.2 i hi).below hb hB⟩
/-- a table's first row lies there -/
def TAt (B : Nat) (W : World) (g o : Nat) (d : TB) : Prop := d.a = some ⟨g, o, none⟩ ∧ g < B ∧ TBIn B W d
theorem TAt.below {B B' : Nat} {W W' : World} {g o : Nat} {d : TB} (h : TAt B W g o d) (hb : Below B' W W') (hB : B ≤ B') : TAt B' W' g o d := ⟨h.1, Nat.lt_of_lt_of_le h.2.1 hB, h.2.2.below hb hB⟩
theorem TBIn.at {B : Nat} {W : World} {d : TB} (h : TBIn B W d) (h0 : 0 < d.n) : ∃ g o, TAt B W g o d := by
  obtain ⟨g, o, ha, hg, _⟩ := h.1.2.2.2 h0
  exact ⟨g, o, ha, hg, h⟩

/-! ### parts -/
def DT.count (r : DT) : Nat := r.pa.n + r.ad.n
def DT.part (r : DT) (k : Nat) : FT := if k < r.pa.n then r.pa.f k else r.ad.f (k - r.pa.n)
theorem DTIn.part {B : Nat} {W : World} {r : DT} (h : DTIn B W r) {k : Nat} (hk : k < r.count) : FTIn B W (r.part k) := by
  unfold DT.count at hk
  unfold DT.part
  split
  · next h1 => exact h.2.2.2.2.1.2 k h1
  · next h1 => exact h.2.2.2.2.2.1.2 _ (by omega)
/-- the first of n numbers for which something is so, or n -/
def fst (p : Nat → Bool) : Nat → Nat
  | 0 => 0
  | n + 1 => if fst p n < n then fst p n else if p n then n else n + 1
theorem fst_le (p : Nat → Bool) : ∀ n, fst p n ≤ n
  | 0 => Nat.le_refl _
  | n + 1 => by
    have := fst_le p n
    unfold fst
    split
    · omega
    · split <;> omega
theorem fst_no (p : Nat → Bool) : ∀ n j, j < fst p n → p j = false
  | 0, j, h => by simp [fst] at h
  | n + 1, j, h => by
    have h1 := fst_le p n
    have h2 := fst_no p n
    unfold fst at h
    split at h
    · exact h2 j h
    · next hn =>
      have e : fst p n = n := by omega
      split at h
      · exact h2 j (by omega)
      · next hp =>
        rcases Nat.lt_or_ge j n with h3 | h3
        · exact h2 j (by omega)
        · obtain rfl : j = n := by omega
          simpa using hp
theorem fst_yes (p : Nat → Bool) : ∀ n, fst p n < n → p (fst p n) = true
  | 0, h => by simp [fst] at h
  | n + 1, h => by
    have h1 := fst_yes p n
    unfold fst at h ⊢
    split
    · next hn => exact h1 hn
    · next hn =>
      rw [if_neg hn] at h
      split
      · next hp => exact hp
      · next hp => rw [if_neg hp] at h; omega
theorem fst_eq {p : Nat → Bool} {n k : Nat} (hk : k < n) (h : ∀ j, j < k → p j = false) (hp : p k = true) : fst p n = k := by
  have h1 := fst_le p n
  rcases Nat.lt_trichotomy (fst p n) k with h2 | h2 | h2
  · have := fst_yes p n (by omega)
    rw [h _ h2] at this
    cases this
  · exact h2
  · have := fst_no p n k h2
    rw [hp] at this
    cases this
theorem fst_end {p : Nat → Bool} {n : Nat} (h : ∀ j, j < n → p j = false) : fst p n = n := by
  have h1 := fst_le p n
  rcases Nat.lt_or_ge (fst p n) n with h2 | h2
  · have := fst_yes p n h2
    rw [h _ h2] at this
    cases this
  · omega

/-! ### which tables are right -/
def SL.texts (s : SL) : List ByteArray := (List.range s.n).map s.f
def FL.names (s : FL) : List ByteArray := (List.range s.n).map fun i => (s.f i).name
def isKd (k : Int) : Bool := decide (1 ≤ k) && decide (k ≤ 10)
def DT.extOk (r : DT) : Bool := if r.ext then (r.kind != 1) && (r.kind != 4) else decide (r.mo.n = 0) && decide (r.ad.n = 0)
def hasSet (k : Int) : Bool := k == 2 || isSz k


open Classical in
noncomputable def DT.setOk (r : DT) : Bool := (decide (0 < r.set.n) == hasSet r.kind) && (r.lo == eLo r.set.l) && (r.hi == eHi r.set.l) && decide (rgt r.set.l) && ((r.kind == 2) || decide (0 ≤ eLo r.set.l))
def byteAt (s : ByteArray) (k : Nat) : Nat := (s.data[k]!).toNat
def rises (s : ByteArray) (k : Nat) : Bool := decide (byteAt s k < 128) && (decide (k = 0) || decide (byteAt s (k - 1) < byteAt s k))
def DT.fromOk (r : DT) : Bool := if r.kind = 7 then allN (rises r.fr) r.fr.size else decide (r.fr.size = 0)
def DT.namesOk (r : DT) : Bool :=
  if r.kind = 3 then decide (0 < r.nm.n) && decide (r.nm.n ≤ 256) && decide (r.mo.n ≤ 256) && decide ((r.nm.texts ++ r.mo.texts).Nodup) else decide (r.nm.n = 0) && decide (r.mo.n = 0)
def FT.ok (p : FT) (kind : Int) (rows : Nat) : Bool :=
  !(kind == 10 && (p.opt || decide (0 < p.d.n))) && (decide (0 ≤ p.t) && decide (p.t < rows)) && (decide (p.d.n = 0) || (decide (p.d.n = 1) && !p.opt))
def DT.partsOk (r : DT) (rows : Nat) : Bool :=
  if r.kind = 8 ∨ r.kind = 10 then decide (r.pa.n ≤ 256) && decide (r.ad.n ≤ 256) && allN (fun k => (r.part k).ok r.kind rows) r.count && decide (((List.range r.count).map fun k => (r.part k).name).Nodup)
  else decide (r.pa.n = 0) && decide (r.ad.n = 0)
def DT.orderOk (r : DT) : Bool :=
  if r.kind = 10 then decide (0 < r.pa.n) && decide (r.ord.n = r.pa.n) && decide (r.ord.l.Perm ((List.range r.pa.n).map Int.ofNat)) else decide (r.ord.n = 0)
def DT.elemOk (r : DT) (rows : Nat) : Bool := if r.kind = 9 then decide (0 ≤ r.elem) && decide (r.elem < rows) else decide (r.elem = 0)
noncomputable def DT.right (r : DT) (rows : Nat) : Bool := isKd r.kind && r.extOk && r.setOk && r.fromOk && r.namesOk && r.partsOk rows && r.orderOk && r.elemOk rows
noncomputable def TB.right (d : TB) : Bool := decide (0 < d.n) && decide (d.n ≤ 4096) && allN (fun i => (d.f i).right d.n) d.n
end Go.Proofs.YtjhecpkdpomkmaaGreat

namespace Go.Proofs.YtjhecpkdpomkmaaGreat
open Go.RowKit
set_option linter.unusedVariables false
set_option linter.unusedSimpArgs false
set_option maxRecDepth 100000

theorem isKind_ok (w : World) (k : Int) :
    Calls Tryz.prog 139 #[.int .i64 k] w fun e w' => e = .returned (.bool (isKd k)) ∧ w' = w := by
  have HK := Lib.hid (show isKd k = (decide (1 ≤ k) && decide (k ≤ 10)) from rfl)
  obtain ⟨z, hz⟩ : ∃ z, isKd k = z := ⟨_, rfl⟩
  rw [hz] at HK ⊢
  clear hz
  cases h1 : decide (1 ≤ k) with
  | false =>
    rw [h1] at HK
    go_enter Tryz.func139, Tryz.ntmps139
    go_wp2_with fail
    go_ret
    exact ⟨by rw [HK.out]; rfl, rfl⟩
  | true =>
    obtain ⟨b, hb⟩ : ∃ b, decide (k ≤ 10) = b := ⟨_, rfl⟩
    rw [h1, hb] at HK
    go_enter Tryz.func139, Tryz.ntmps139
    go_wp2_with fail
    go_ret
    exact ⟨by rw [HK.out]; simp, rfl⟩
def isRw (n rows : Int) : Bool := decide (0 ≤ n) && decide (n < rows)
theorem isRow_ok (w : World) (n rows : Int) :
    Calls Tryz.prog 206 #[.int .i64 n, .int .i64 rows] w fun e w' => e = .returned (.bool (isRw n rows)) ∧ w' = w := by
  have HK := Lib.hid (show isRw n rows = (decide (0 ≤ n) && decide (n < rows)) from rfl)
  obtain ⟨z, hz⟩ : ∃ z, isRw n rows = z := ⟨_, rfl⟩
  rw [hz] at HK ⊢
  clear hz
  cases h1 : decide (0 ≤ n) with
  | false =>
    rw [h1] at HK
    go_enter Tryz.func206, Tryz.ntmps206
    go_wp2_with fail
    go_ret
    exact ⟨by rw [HK.out]; rfl, rfl⟩
  | true =>
    obtain ⟨b, hb⟩ : ∃ b, decide (n < rows) = b := ⟨_, rfl⟩
    rw [h1, hb] at HK
    go_enter Tryz.func206, Tryz.ntmps206
    go_wp2_with fail
    go_ret
    exact ⟨by rw [HK.out]; simp, rfl⟩
theorem areFewS_ok (w : World) (a : Option Addr) (n c : Nat) :
    Calls Tryz.prog 198 #[.slice a n c] w fun e w' => e = .returned (.bool (decide (n ≤ 256))) ∧ w' = w := by
  obtain ⟨b, hb⟩ : ∃ b, decide ((n : Int) ≤ 256) = b := ⟨_, rfl⟩
  have HB := Lib.hid (show b = decide (n ≤ 256) from by rw [← hb]; exact decide_eq_decide.2 (by omega))
  rw [← HB.out]
  go_enter Tryz.func198, Tryz.ntmps198
  go_wp2_with fail
  go_ret
  exact ⟨rfl, rfl⟩
theorem areFewF_ok (w : World) (a : Option Addr) (n c : Nat) :
    Calls Tryz.prog 201 #[.slice a n c] w fun e w' => e = .returned (.bool (decide (n ≤ 256))) ∧ w' = w := by
  obtain ⟨b, hb⟩ : ∃ b, decide ((n : Int) ≤ 256) = b := ⟨_, rfl⟩
  have HB := Lib.hid (show b = decide (n ≤ 256) from by rw [← hb]; exact decide_eq_decide.2 (by omega))
  rw [← HB.out]
  go_enter Tryz.func201, Tryz.ntmps201
  go_wp2_with fail
  go_ret
  exact ⟨rfl, rfl⟩
end Go.Proofs.YtjhecpkdpomkmaaGreat

namespace Go.Proofs.YtjhecpkdpomkmaaGreat
open Go.RowKit
set_option linter.unusedVariables false
set_option linter.unusedSimpArgs false
set_option maxRecDepth 100000

/-! ### values that are the same -/
def sEq (a b : ByteArray) : Bool := a.toList == b.toList
theorem sEq_refl (a : ByteArray) : sEq a a = true := by simp [sEq]
theorem sEq_comm (a b : ByteArray) : sEq a b = sEq b a := Bool.beq_comm
theorem sEq_eq (a b : ByteArray) : sEq a b = decide (a = b) := by
  unfold sEq
  by_cases h : a = b
  · subst h; simp
  · rw [decide_eq_false h]
    refine beq_eq_false_iff_ne.2 fun h2 => h ?_
    rw [ByteArray.toList_eq, ByteArray.toList_eq] at h2
    exact ByteArray.ext (Array.toList_inj.1 h2)
theorem allN_congr {f g : Nat → Bool} {n : Nat} (h : ∀ i, i < n → f i = g i) : allN f n = allN g n := by
  induction n with
  | zero => rfl
  | succ n ih => simp only [allN, ih (fun i hi => h i (by omega)), h n (by omega)]
theorem allN_true {f : Nat → Bool} {n : Nat} (h : ∀ i, i < n → f i = true) : allN f n = true := allN_iff.2 h
def SL.same (s t : SL) : Bool := decide (s.n = t.n) && allN (fun i => sEq (s.f i) (t.f i)) s.n
def VT.same : VT → VT → Bool
  | .nil, _ => false
  | .mk .., .nil => false
  | .mk k m s nm _ n _ ch, .mk k' m' s' nm' _ n' _ ch' => (k == k') && ((m == m') && (sEq s s' && (nm.same nm' && (decide (n = n') && allN (fun i => (ch i).same (ch' i)) n))))

/-! ### which values belong to a row -/
def inL (s : SL) (x : ByteArray) : Bool := anyN (fun i => sEq (s.f i) x) s.n
def bare (k m : Int) (sz nn n : Nat) : Bool :=
  (decide (m = 0) || (k == 1 || k == 2)) && (decide (sz = 0) || (k == 3 || k == 5 || k == 6 || k == 7 || k == 10)) && (decide (nn = 0) || k == 8) && (decide (n = 0) || (k == 9 || k == 10 || k == 8))
def DT.admits (r : DT) (m : Int) : Bool := r.ext || hasB r.set.l m
def DT.isSize (r : DT) (n : Nat) : Bool := decide (n ≤ 1048576) && r.admits n
def hasOctet (s : ByteArray) (c : Nat) : Bool := s.data.toList.any fun b => b.toNat == c
def DT.chr (r : DT) (c : Nat) : Bool := if r.kind = 5 then (c == 48 || c == 49) else if r.kind = 6 then true else if r.fr.size = 0 then decide (c < 128) else hasOctet r.fr c
def DT.chars (r : DT) (s : ByteArray) : Bool := allN (fun k => r.chr (byteAt s k)) s.size
/-- the first part with a name, or how many there are -/
def DT.fnd (r : DT) (s : ByteArray) : Nat := fst (fun k => sEq (r.part k).name s) r.count
/-- how many parts of a value are taken by the first so many of a row; nothing: it is refused -/
def seqGo (r : DT) (nm : SL) (h : Nat → Nat → Bool) : Nat → Option Nat
  | 0 => some 0
  | k + 1 =>
    match seqGo r nm h k with
    | none => none
    | some x =>
      if x < nm.n ∧ sEq (nm.f x) (r.part k).name = true then (if h x (r.part k).t.toNat = true then some (x + 1) else none)
      else if k < r.pa.n ∧ (r.part k).opt = false ∧ (r.part k).d.n = 0 then none else some x
def VT.has (d : TB) : VT → Nat → Bool
  | .nil, _ => false
  | .mk k m s nm _ n _ ch, i =>
    (k == (d.f i).kind) && bare k m s.size nm.n n &&
    (if (d.f i).kind = 1 then decide (m = 0) || decide (m = 1)
     else if (d.f i).kind = 2 then (d.f i).admits m
     else if (d.f i).kind = 3 then inL (d.f i).nm s || inL (d.f i).mo s
     else if (d.f i).kind = 5 ∨ (d.f i).kind = 6 ∨ (d.f i).kind = 7 then (d.f i).isSize s.size && (d.f i).chars s
     else if (d.f i).kind = 9 then (d.f i).isSize n && allN (fun j => (ch j).has d (d.f i).elem.toNat) n
     else if (d.f i).kind = 10 then decide ((d.f i).fnd s < (d.f i).count) && (decide (n = 1) && (ch 0).has d ((d.f i).part ((d.f i).fnd s)).t.toNat)
     else if (d.f i).kind = 8 then decide (n = nm.n) && decide (seqGo (d.f i) nm (fun j x => (ch j).has d x) (d.f i).count = some nm.n)
     else true)
def VT.k : VT → Int
  | .nil => 0
  | .mk k .. => k
def isParted (k : Int) : Bool := k == 8 || k == 9 || k == 10
def VT.deeper : VT → Nat → Bool
  | .nil, _ => false
  | .mk k _ _ _ _ n _ ch, m => isParted k && (decide (m = 0) || anyN (fun j => (ch j).deeper (m - 1)) n)
/-- a Kind whose values may be defaults -/
def isDfl (k : Int) : Bool := k == 1 || k == 2 || k == 3 || k == 7
def DT.defsOk (d : TB) (r : DT) : Bool := allN (fun k => allN (fun j => isDfl ((r.part k).d.f j).k && ((r.part k).d.f j).has d (r.part k).t.toNat) (r.part k).d.n) r.count
noncomputable def TB.good (d : TB) : Bool := d.right && allN (fun i => (d.f i).defsOk d) d.n
/-- the error of a value that is not of the first row -/
noncomputable def chk (d : TB) (v : VT) : Int := if d.good = false then 1 else if v.deeper 40 = true then 9 else if v.has d 0 = true then 0 else 4
end Go.Proofs.YtjhecpkdpomkmaaGreat

namespace Go.Proofs.YtjhecpkdpomkmaaGreat
open Go.RowKit
set_option linter.unusedVariables false
set_option linter.unusedSimpArgs false
set_option maxRecDepth 100000

theorem sEq_iff {a b : ByteArray} : sEq a b = true ↔ a = b := by rw [sEq_eq]; exact decide_eq_true_iff
structure RightRow (r : DT) (rows : Nat) : Prop where
  kd : 1 ≤ r.kind ∧ r.kind ≤ 10
  ext : r.extOk = true
  set : r.setOk = true
  fr : r.fromOk = true
  names : r.namesOk = true
  parts : r.partsOk rows = true
  order : r.orderOk = true
  elem : r.elemOk rows = true
theorem right_row {r : DT} {rows : Nat} (h : r.right rows = true) : RightRow r rows := by
  simp only [DT.right, isKd, Bool.and_eq_true, decide_eq_true_eq] at h
  obtain ⟨⟨⟨⟨⟨⟨⟨h1, h2⟩, h3⟩, h4⟩, h5⟩, h6⟩, h7⟩, h8⟩ := h
  exact ⟨h1, h2, h3, h4, h5, h6, h7, h8⟩
theorem TB.right_n {d : TB} (h : d.right = true) : 0 < d.n ∧ d.n ≤ 4096 := by
  simp only [TB.right, Bool.and_eq_true, decide_eq_true_eq] at h
  exact h.1
theorem TB.right_row {d : TB} (h : d.right = true) {i : Nat} (hi : i < d.n) : RightRow (d.f i) d.n := by
  simp only [TB.right, Bool.and_eq_true, decide_eq_true_eq] at h
  exact Go.Proofs.YtjhecpkdpomkmaaGreat.right_row (allN_iff.1 h.2 i hi)
theorem FT.ok_t {p : FT} {kind : Int} {rows : Nat} (h : p.ok kind rows = true) : 0 ≤ p.t ∧ p.t.toNat < rows := by
  simp only [FT.ok, Bool.and_eq_true, decide_eq_true_eq] at h
  obtain ⟨⟨_, h1, h2⟩, _⟩ := h
  exact ⟨h1, by omega⟩
theorem FT.ok_d {p : FT} {kind : Int} {rows : Nat} (h : p.ok kind rows = true) : p.d.n ≤ 1 := by
  simp only [FT.ok, Bool.and_eq_true, Bool.or_eq_true, decide_eq_true_eq] at h
  obtain ⟨_, h2⟩ := h
  rcases h2 with h | h
  · omega
  · omega
theorem RightRow.few {r : DT} {rows : Nat} (h : RightRow r rows) : r.pa.n ≤ 256 ∧ r.ad.n ≤ 256 := by
  have hp := h.parts
  unfold DT.partsOk at hp
  split at hp
  · simp only [Bool.and_eq_true, decide_eq_true_eq] at hp
    exact hp.1.1
  · simp only [Bool.and_eq_true, decide_eq_true_eq] at hp
    omega
theorem RightRow.part {r : DT} {rows k : Nat} (h : RightRow r rows) (hk : k < r.count) : (r.kind = 8 ∨ r.kind = 10) ∧ (r.part k).ok r.kind rows = true := by
  have hp := h.parts
  unfold DT.partsOk at hp
  split at hp
  · next hkd =>
    simp only [Bool.and_eq_true, decide_eq_true_eq] at hp
    exact ⟨hkd, allN_iff.1 hp.1.2 k hk⟩
  · simp only [Bool.and_eq_true, decide_eq_true_eq] at hp
    unfold DT.count at hk
    omega
theorem RightRow.apart {r : DT} {rows j k : Nat} (h : RightRow r rows) (hj : j < r.count) (hk : k < r.count) (he : (r.part j).name = (r.part k).name) : j = k := by
  have hp := h.parts
  unfold DT.partsOk at hp
  split at hp
  · simp only [Bool.and_eq_true, decide_eq_true_eq] at hp
    have hn := hp.2
    have hl : ((List.range r.count).map fun k => (r.part k).name).length = r.count := by simp
    have := List.getElem_inj (i := j) (j := k) (h₀ := by rw [hl]; exact hj) (h₁ := by rw [hl]; exact hk) hn
    refine this.1 ?_
    simpa using he
  · simp only [Bool.and_eq_true, decide_eq_true_eq] at hp
    unfold DT.count at hk
    omega
theorem RightRow.elem_t {r : DT} {rows : Nat} (h : RightRow r rows) (hk : r.kind = 9) : 0 ≤ r.elem ∧ r.elem.toNat < rows := by
  have he := h.elem
  simp only [DT.elemOk, if_pos hk, Bool.and_eq_true, decide_eq_true_eq] at he
  omega
theorem RightRow.rgt {r : DT} {rows : Nat} (h : RightRow r rows) : rgt r.set.l := by
  have hs := h.set
  simp only [DT.setOk, Bool.and_eq_true, decide_eq_true_eq] at hs
  exact hs.1.2
theorem TB.good_right {d : TB} (h : d.good = true) : d.right = true := by
  simp only [TB.good, Bool.and_eq_true] at h
  exact h.1
theorem TB.good_def {d : TB} (h : d.good = true) {i k j : Nat} (hi : i < d.n) (hk : k < (d.f i).count) (hj : j < ((d.f i).part k).d.n) :
    isDfl (((d.f i).part k).d.f j).k = true ∧ (((d.f i).part k).d.f j).has d ((d.f i).part k).t.toNat = true := by
  simp only [TB.good, Bool.and_eq_true] at h
  have := allN_iff.1 (allN_iff.1 (allN_iff.1 h.2 i hi) k hk) j hj
  simpa only [Bool.and_eq_true] using this
theorem chk_zero {d : TB} {v : VT} : chk d v = 0 ↔ d.good = true ∧ v.deeper 40 = false ∧ v.has d 0 = true := by
  unfold chk
  split
  · next h => simp [h]
  · next h =>
    split
    · next h2 => simp [h2]
    · next h2 =>
      split
      · next h3 => simp at h h2; simp [h, h2, h3]
      · next h3 => simp [h3]
theorem VT.has_kind {d : TB} : ∀ {v : VT} {i : Nat}, v.has d i = true → v.k = (d.f i).kind
  | .nil, _, h => by simp [VT.has] at h
  | .mk k m s nm a n cap ch, i, h => by
    simp only [VT.has, Bool.and_eq_true] at h
    simpa [VT.k] using h.1.1
theorem hasB_ext {r : DT} {m : Int} (h : r.admits m = true) (e : Bool) (he : r.ext = true → e = true) : ({ r with ext := e } : DT).admits m = true := by
  unfold DT.admits at h ⊢
  cases hx : r.ext with
  | false => rw [hx] at h; simp only [Bool.false_or] at h; simp only [h, Bool.or_true]
  | true => simp only [he hx, Bool.true_or]
/-- a table in which more rows may be extended -/
def More (d d' : TB) : Prop := d'.n = d.n ∧ ∀ i, ∃ e, d'.f i = { d.f i with ext := e } ∧ ((d.f i).ext = true → e = true)
theorem seqGo_mono {r : DT} {nm : SL} {h h' : Nat → Nat → Bool} (hh : ∀ x t, h x t = true → h' x t = true) : ∀ {k x : Nat}, seqGo r nm h k = some x → seqGo r nm h' k = some x
  | 0, x, e => e
  | k + 1, x, e => by
    unfold seqGo at e ⊢
    cases hk : seqGo r nm h k with
    | none => rw [hk] at e; cases e
    | some y =>
      rw [hk] at e
      rw [seqGo_mono hh hk]
      simp only at e ⊢
      split
      · next hc =>
        rw [if_pos hc] at e
        split at e
        · next hx => rw [if_pos (hh _ _ hx)]; exact e
        · cases e
      · next hc => rwa [if_neg hc] at e
theorem seqGo_congr {r r' : DT} {nm : SL} {h : Nat → Nat → Bool} (hp : r'.pa.n = r.pa.n) (hr : ∀ k, r'.part k = r.part k) : ∀ k, seqGo r' nm h k = seqGo r nm h k
  | 0 => rfl
  | k + 1 => by unfold seqGo; rw [seqGo_congr hp hr k, hr k, hp]
theorem More.has {d d' : TB} (hd : More d d') : ∀ {v : VT} {i : Nat}, v.has d i = true → v.has d' i = true
  | .nil, _, h => by simp [VT.has] at h
  | .mk k m s nm a n cap ch, i, h => by
    obtain ⟨e, he, hx⟩ := hd.2 i
    have hch : ∀ j x, (ch j).has d x = true → (ch j).has d' x = true := fun j x => More.has hd
    have hcount : (d'.f i).count = (d.f i).count := by rw [he]; rfl
    have hpart : ∀ k, (d'.f i).part k = (d.f i).part k := fun k => by rw [he]; rfl
    have hfnd : (d'.f i).fnd s = (d.f i).fnd s := by rw [he]; rfl
    have hchars : (d'.f i).chars s = (d.f i).chars s := by rw [he]; rfl
    have hpn : (d'.f i).pa.n = (d.f i).pa.n := by rw [he]
    have hk : (d'.f i).kind = (d.f i).kind := by rw [he]
    have hnm : (d'.f i).nm = (d.f i).nm := by rw [he]
    have hmo : (d'.f i).mo = (d.f i).mo := by rw [he]
    have hel : (d'.f i).elem = (d.f i).elem := by rw [he]
    have had : ∀ m, (d.f i).admits m = true → (d'.f i).admits m = true := fun m h => by rw [he]; exact hasB_ext h e hx
    have hsz : ∀ m, (d.f i).isSize m = true → (d'.f i).isSize m = true := fun m h => by
      unfold DT.isSize at h ⊢
      simp only [Bool.and_eq_true] at h ⊢
      exact ⟨h.1, had _ h.2⟩
    simp only [VT.has, Bool.and_eq_true] at h ⊢
    rw [hk, hcount, hfnd, hnm, hmo, hel, hchars, hpart]
    refine ⟨h.1, ?_⟩
    have h2 := h.2
    split
    · next c => rw [if_pos c] at h2; exact h2
    · next c =>
      rw [if_neg c] at h2
      split
      · next c => rw [if_pos c] at h2; exact had _ h2
      · next c =>
        rw [if_neg c] at h2
        split
        · next c => rw [if_pos c] at h2; exact h2
        · next c =>
          rw [if_neg c] at h2
          split
          · next c =>
            rw [if_pos c] at h2
            simp only [Bool.and_eq_true] at h2 ⊢
            exact ⟨hsz _ h2.1, h2.2⟩
          · next c =>
            rw [if_neg c] at h2
            split
            · next c =>
              rw [if_pos c] at h2
              simp only [Bool.and_eq_true] at h2 ⊢
              exact ⟨hsz _ h2.1, allN_iff.2 fun j hj => hch j _ (allN_iff.1 h2.2 j hj)⟩
            · next c =>
              rw [if_neg c] at h2
              split
              · next c =>
                rw [if_pos c] at h2
                simp only [Bool.and_eq_true] at h2 ⊢
                exact ⟨h2.1, h2.2.1, hch 0 _ h2.2.2⟩
              · next c =>
                rw [if_neg c] at h2
                split
                · next c =>
                  rw [if_pos c] at h2
                  simp only [Bool.and_eq_true, decide_eq_true_eq] at h2 ⊢
                  exact ⟨h2.1, by rw [seqGo_congr hpn hpart]; exact seqGo_mono (fun x t => hch x t) h2.2⟩
                · rfl
theorem More.right {d d' : TB} (hd : More d d') (h : d.right = true) (hk : ∀ i, i < d.n → (d'.f i).ext = true → (d.f i).ext = true ∨ ((d.f i).kind ≠ 1 ∧ (d.f i).kind ≠ 4)) : d'.right = true := by
  simp only [TB.right, Bool.and_eq_true, decide_eq_true_eq] at h ⊢
  rw [hd.1]
  refine ⟨h.1, allN_iff.2 fun i hi => ?_⟩
  have hr := allN_iff.1 h.2 i hi
  obtain ⟨e, he, hx⟩ := hd.2 i
  have hk2 := hk i hi
  rw [he] at hk2 ⊢
  simp only [DT.right, Bool.and_eq_true] at hr ⊢
  refine ⟨⟨⟨⟨⟨⟨⟨hr.1.1.1.1.1.1.1, ?_⟩, hr.1.1.1.1.1.2⟩, hr.1.1.1.1.2⟩, hr.1.1.1.2⟩, hr.1.1.2⟩, hr.1.2⟩, hr.2⟩
  have h2 := hr.1.1.1.1.1.1.2
  unfold DT.extOk at h2 ⊢
  cases e with
  | false =>
    cases hex : (d.f i).ext with
    | true => exact absurd (hx hex) (by decide)
    | false => rw [hex] at h2; exact h2
  | true =>
    rcases hk2 rfl with h3 | ⟨h3, h4⟩
    · rw [h3] at h2; exact h2
    · simp [bne_iff_ne.2 h3, bne_iff_ne.2 h4]
theorem More.good {d d' : TB} (hd : More d d') (h : d.good = true) (hr : d'.right = true) : d'.good = true := by
  simp only [TB.good, Bool.and_eq_true] at h ⊢
  refine ⟨hr, allN_iff.2 fun i hi => allN_iff.2 fun k hk => allN_iff.2 fun j hj => ?_⟩
  obtain ⟨e, he, hx⟩ := hd.2 i
  have hpart : (d'.f i).part k = (d.f i).part k := by rw [he]; rfl
  have hcount : (d'.f i).count = (d.f i).count := by rw [he]; rfl
  rw [hpart] at hj ⊢
  rw [hcount] at hk
  rw [hd.1] at hi
  have := allN_iff.1 (allN_iff.1 (allN_iff.1 h.2 i hi) k hk) j hj
  simp only [Bool.and_eq_true] at this ⊢
  exact ⟨this.1, hd.has this.2⟩

/-! ### a value with one thing changed -/
/-! ### a sequence's parts, one after the other -/
theorem seq_step {r : DT} {nm : SL} {h : Nat → Nat → Bool} {k y : Nat} (e : seqGo r nm h (k + 1) = some y) :
    ∃ x, seqGo r nm h k = some x ∧ (((x < nm.n ∧ sEq (nm.f x) (r.part k).name = true) ∧ h x (r.part k).t.toNat = true ∧ y = x + 1) ∨ (¬ (x < nm.n ∧ sEq (nm.f x) (r.part k).name = true) ∧ ¬ (k < r.pa.n ∧ (r.part k).opt = false ∧ (r.part k).d.n = 0) ∧ y = x)) := by
  unfold seqGo at e
  cases hk : seqGo r nm h k with
  | none => rw [hk] at e; cases e
  | some x =>
    rw [hk] at e
    simp only at e
    refine ⟨x, rfl, ?_⟩
    split at e
    · next c =>
      split at e
      · next c2 => exact .inl ⟨c, c2, by injection e with e; exact e.symm⟩
      · cases e
    · next c =>
      split at e
      · cases e
      · next c2 => exact .inr ⟨c, c2, by injection e with e; exact e.symm⟩
theorem seq_take {r : DT} {nm : SL} {h : Nat → Nat → Bool} {k x : Nat} (e : seqGo r nm h k = some x) (c : x < nm.n ∧ sEq (nm.f x) (r.part k).name = true) (c2 : h x (r.part k).t.toNat = true) : seqGo r nm h (k + 1) = some (x + 1) := by
  unfold seqGo
  rw [e]
  simp only
  rw [if_pos c, if_pos c2]
theorem seq_skip {r : DT} {nm : SL} {h : Nat → Nat → Bool} {k x : Nat} (e : seqGo r nm h k = some x) (c : ¬ (x < nm.n ∧ sEq (nm.f x) (r.part k).name = true)) (c2 : ¬ (k < r.pa.n ∧ (r.part k).opt = false ∧ (r.part k).d.n = 0)) : seqGo r nm h (k + 1) = some x := by
  unfold seqGo
  rw [e]
  simp only
  rw [if_neg c, if_neg c2]
theorem seq_bad {r : DT} {nm : SL} {h : Nat → Nat → Bool} {k x : Nat} (e : seqGo r nm h k = some x) (c : ¬ (x < nm.n ∧ sEq (nm.f x) (r.part k).name = true)) (c2 : k < r.pa.n ∧ (r.part k).opt = false ∧ (r.part k).d.n = 0) : seqGo r nm h (k + 1) = none := by
  unfold seqGo
  rw [e]
  simp only
  rw [if_neg c, if_pos c2]
theorem seq_none {r : DT} {nm : SL} {h : Nat → Nat → Bool} {k : Nat} : ∀ {K : Nat}, k ≤ K → seqGo r nm h k = none → seqGo r nm h K = none
  | 0, hk, e => by obtain rfl : k = 0 := by omega
                   exact e
  | K + 1, hk, e => by
    rcases Nat.lt_or_ge k (K + 1) with h1 | h1
    · unfold seqGo
      rw [seq_none (by omega) e]
    · obtain rfl : k = K + 1 := by omega
      exact e
theorem seq_some {r : DT} {nm : SL} {h : Nat → Nat → Bool} {k K X : Nat} (hk : k ≤ K) (e : seqGo r nm h K = some X) : ∃ x, seqGo r nm h k = some x ∧ x ≤ X := by
  induction K generalizing X with
  | zero => obtain rfl : k = 0 := by omega
            exact ⟨X, e, Nat.le_refl _⟩
  | succ K ih =>
    rcases Nat.lt_or_ge k (K + 1) with h1 | h1
    · obtain ⟨x, hx, h2⟩ := seq_step e
      obtain ⟨y, hy, hle⟩ := ih (by omega) hx
      exact ⟨y, hy, by rcases h2 with ⟨_, _, rfl⟩ | ⟨_, _, rfl⟩ <;> omega⟩
    · obtain rfl : k = K + 1 := by omega
      exact ⟨X, e, Nat.le_refl _⟩
/-- where a name is taken -/
theorem seq_taken {r : DT} {nm : SL} {h : Nat → Nat → Bool} {k x K X j : Nat} (hk : k ≤ K) (e : seqGo r nm h k = some x) (e2 : seqGo r nm h K = some X) (hj : x ≤ j) (hj2 : j < X) :
    ∃ k1, k ≤ k1 ∧ k1 < K ∧ seqGo r nm h k1 = some j ∧ (j < nm.n ∧ sEq (nm.f j) (r.part k1).name = true) ∧ h j (r.part k1).t.toNat = true ∧ seqGo r nm h (k1 + 1) = some (j + 1) := by
  induction K generalizing X with
  | zero =>
    obtain rfl : k = 0 := by omega
    rw [e] at e2
    injection e2 with e2
    omega
  | succ K ih =>
    rcases Nat.lt_or_ge k (K + 1) with h1 | h1
    · obtain ⟨y, hy, h2⟩ := seq_step e2
      rcases h2 with ⟨c, c2, rfl⟩ | ⟨_, _, rfl⟩
      · rcases Nat.lt_or_ge j y with h3 | h3
        · obtain ⟨k1, a1, a2, a3⟩ := ih (by omega) hy h3
          exact ⟨k1, a1, by omega, a3⟩
        · obtain rfl : j = y := by omega
          exact ⟨K, by omega, by omega, hy, c, c2, e2⟩
      · obtain ⟨k1, a1, a2, a3⟩ := ih (by omega) hy hj2
        exact ⟨k1, a1, by omega, a3⟩
    · obtain rfl : k = K + 1 := by omega
      rw [e] at e2
      injection e2 with e2
      omega
def shift (i x : Nat) : Nat := if x < i then x else x + 1
end Go.Proofs.YtjhecpkdpomkmaaGreat

namespace Go.Proofs.YtjhecpkdpomkmaaGreat
open Go.RowKit
set_option linter.unusedVariables false
set_option linter.unusedSimpArgs false
set_option maxRecDepth 100000

theorem info_D : (Tryz.prog.info? 46).map (·.size) = some 12 := by kernel_rfl
theorem info_F : (Tryz.prog.info? 48).map (·.size) = some 4 := by kernel_rfl
theorem one_dcells (r : DT) : r.cells.length = 12 ∧ ∀ v ∈ r.cells, v.oneCell' = true := by
  refine ⟨rfl, fun v hv => ?_⟩
  simp only [DT.cells, SL.v, RS.v, NL.v, FL.v, List.mem_cons, List.not_mem_nil, or_false] at hv
  rcases hv with rfl | rfl | rfl | rfl | rfl | rfl | rfl | rfl | rfl | rfl | rfl | rfl <;> rfl
theorem one_fcells (r : FT) : r.cells.length = 4 ∧ ∀ v ∈ r.cells, v.oneCell' = true := by
  refine ⟨rfl, fun v hv => ?_⟩
  simp only [FT.cells, DL.v, List.mem_cons, List.not_mem_nil, or_false] at hv
  rcases hv with rfl | rfl | rfl | rfl <;> rfl
theorem list4 (p : FT) : p.cells = [.string p.name, .int .i64 p.t, .bool p.opt, .slice p.d.a p.d.n p.d.cap] := rfl
theorem one_vcells {B : Nat} {W : World} {x : VT} (h : VIn B W x) : x.cells.length = 5 ∧ ∀ v ∈ x.cells, v.oneCell' = true := by
  cases x with
  | nil => exact h.elim
  | mk k m s nm a n cap ch =>
    refine ⟨rfl, fun v hv => ?_⟩
    simp only [VT.cells, SL.v, List.mem_cons, List.not_mem_nil, or_false] at hv
    rcases hv with rfl | rfl | rfl | rfl | rfl <;> rfl
/-- the cells of a row of a table, at an address -/
def DAt (w : World) (g x : Nat) (r : DT) : Prop :=
  w.cell? ⟨g, x, none⟩ = some (.int .i64 r.kind) ∧ w.cell? ⟨g, x + 1, none⟩ = some (.bool r.ext) ∧ w.cell? ⟨g, x + 2, none⟩ = some (.slice r.set.a r.set.n r.set.cap) ∧
  w.cell? ⟨g, x + 3, none⟩ = some (.int .i64 r.lo) ∧ w.cell? ⟨g, x + 4, none⟩ = some (.int .i64 r.hi) ∧ w.cell? ⟨g, x + 5, none⟩ = some (.string r.fr) ∧
  w.cell? ⟨g, x + 6, none⟩ = some (.slice r.nm.a r.nm.n r.nm.cap) ∧ w.cell? ⟨g, x + 7, none⟩ = some (.slice r.mo.a r.mo.n r.mo.cap) ∧
  w.cell? ⟨g, x + 8, none⟩ = some (.slice r.pa.a r.pa.n r.pa.cap) ∧ w.cell? ⟨g, x + 9, none⟩ = some (.slice r.ad.a r.ad.n r.ad.cap) ∧
  w.cell? ⟨g, x + 10, none⟩ = some (.slice r.ord.a r.ord.n r.ord.cap) ∧ w.cell? ⟨g, x + 11, none⟩ = some (.int .i64 r.elem)
theorem dAt_of {w : World} {g x : Nat} {r : DT} (h : ∀ j u, r.cells[j]? = some u → w.cell? ⟨g, x + j, none⟩ = some u) : DAt w g x r :=
  ⟨h 0 _ rfl, h 1 _ rfl, h 2 _ rfl, h 3 _ rfl, h 4 _ rfl, h 5 _ rfl, h 6 _ rfl, h 7 _ rfl, h 8 _ rfl, h 9 _ rfl, h 10 _ rfl, h 11 _ rfl⟩
/-- a field in a row -/
theorem fRow_read {B : Nat} {W : World} {a : Option Addr} {n cap : Nat} {pf : Nat → FT} (h : RowAt B W a n cap 4 (fun i => (pf i).cells)) {i : Nat} (hi : i < n) :
    ∃ gx ox : Nat, (∀ w, (Instr.indexAt 43 (.slice a n cap) (.int .i64 (i : Nat))).run Tryz.prog w = .ok (.pointer (some ⟨gx, ox, none⟩)) w) ∧ gx < B ∧ ∀ w : World, w.heap[gx]? = W.heap[gx]? → w.rangeAt gx ox (pf i).cells :=
  h.read 43 48 Tryz.underlying43 (by kernel_rfl) Tryz.sizeOf48 hi
theorem dRow_read {B : Nat} {W : World} {a : Option Addr} {n cap : Nat} {pf : Nat → DT} (h : RowAt B W a n cap 12 (fun i => (pf i).cells)) {i : Nat} (hi : i < n) :
    ∃ gx ox : Nat, (∀ w, (Instr.indexAt 22 (.slice a n cap) (.int .i64 (i : Nat))).run Tryz.prog w = .ok (.pointer (some ⟨gx, ox, none⟩)) w) ∧ gx < B ∧ ∀ w : World, w.heap[gx]? = W.heap[gx]? → w.rangeAt gx ox (pf i).cells :=
  h.read 22 46 Tryz.underlying22 (by kernel_rfl) Tryz.sizeOf46 hi

set_option maxHeartbeats 4000000 in
theorem isExtRight_ok (w : World) (r : DT) :
    Calls Tryz.prog 140 #[.agg r.cells.toArray] w fun e w' => e = .returned (.bool r.extOk) ∧ Below w.heap.size w w' := by
  have hx := Bx.new w r.cells.toArray 46
  have c0 := hx.cell 0 (v := .int .i64 r.kind) rfl
  have c1 := hx.cell 1 (v := .bool r.ext) rfl
  have c7 := hx.cell 7 (v := .slice r.mo.a r.mo.n r.mo.cap) rfl
  have c9 := hx.cell 9 (v := .slice r.ad.a r.ad.n r.ad.cap) rfl
  have HB := Lib.hid ((Below.refl w.heap.size w).alloc (Nat.le_refl _) (.cells r.cells.toArray 46))
  have HL := Lib.hid (show r.extOk = if r.ext then (r.kind != 1) && (r.kind != 4) else decide (r.mo.n = 0) && decide (r.ad.n = 0) from rfl)
  obtain ⟨z, hz⟩ : ∃ z, r.extOk = z := ⟨_, rfl⟩
  obtain ⟨kd, hkd⟩ : ∃ kd, r.kind = kd := ⟨_, rfl⟩
  obtain ⟨ex, hex⟩ : ∃ ex, r.ext = ex := ⟨_, rfl⟩
  obtain ⟨mn, hmn⟩ : ∃ mn, r.mo.n = mn := ⟨_, rfl⟩
  obtain ⟨an, han⟩ : ∃ an, r.ad.n = an := ⟨_, rfl⟩
  rw [hz] at HL ⊢
  rw [hkd] at c0 HL
  rw [hex] at c1 HL
  rw [hmn] at c7 HL
  rw [han] at c9 HL
  clear hz hkd hex hmn han hx
  cases ex with
  | true =>
    by_cases h1 : kd = 1
    · subst h1
      have HZ := Lib.hid (show z = false from HL.out)
      go_enter Tryz.func140, Tryz.ntmps140
      go_wp2_with fail
      go_ret
      exact ⟨by rw [HZ.out]; rfl, HB.out⟩
    · have q1 : (kd != 1) = true := bne_iff_ne.2 h1
      obtain ⟨b, hb⟩ : ∃ b, (kd != 4) = b := ⟨_, rfl⟩
      have HZ := Lib.hid (show z = b from by rw [HL.out, if_pos rfl, q1, hb]; rfl)
      clear h1
      go_enter Tryz.func140, Tryz.ntmps140
      go_wp2_with fail
      go_ret
      exact ⟨by rw [HZ.out]; first | rfl | simp, HB.out⟩
  | false =>
    by_cases h1 : mn = 0
    · subst h1
      obtain ⟨b, hb⟩ : ∃ b, ((an : Int) == 0) = b := ⟨_, rfl⟩
      have HZ := Lib.hid (show z = b from by
        rw [HL.out, ← hb]
        simp only [if_neg (show ¬ (false = true) by decide), decide_true, Bool.true_and]
        by_cases h : an = 0
        · subst h; rfl
        · rw [beq_eq_false_iff_ne.2 (show (an : Int) ≠ 0 by omega), decide_eq_false h])
      go_enter Tryz.func140, Tryz.ntmps140
      go_wp2_with fail
      go_ret
      exact ⟨by rw [HZ.out]; first | rfl | simp, HB.out⟩
    · have q1 : ((mn : Int) == 0) = false := beq_eq_false_iff_ne.2 (by omega)
      have q1n : (mn == 0) = false := beq_eq_false_iff_ne.2 h1
      have HZ := Lib.hid (show z = false from by rw [HL.out, decide_eq_false h1]; rfl)
      clear h1
      go_enter Tryz.func140, Tryz.ntmps140
      go_wp2_with fail
      go_ret
      exact ⟨by rw [HZ.out]; rfl, HB.out⟩
set_option maxHeartbeats 4000000 in
theorem isElemRight_ok (w : World) (r : DT) (rows : Nat) :
    Calls Tryz.prog 146 #[.agg r.cells.toArray, .int .i64 (rows : Int)] w fun e w' => e = .returned (.bool (r.elemOk rows)) ∧ Below w.heap.size w w' := by
  have hx := Bx.new w r.cells.toArray 46
  have c0 := hx.cell 0 (v := .int .i64 r.kind) rfl
  have c11 := hx.cell 11 (v := .int .i64 r.elem) rfl
  have HB := Lib.hid ((Below.refl w.heap.size w).alloc (Nat.le_refl _) (.cells r.cells.toArray 46))
  have HL := Lib.hid (show r.elemOk rows = if r.kind = 9 then decide (0 ≤ r.elem) && decide (r.elem < rows) else decide (r.elem = 0) from rfl)
  obtain ⟨z, hz⟩ : ∃ z, r.elemOk rows = z := ⟨_, rfl⟩
  obtain ⟨kd, hkd⟩ : ∃ kd, r.kind = kd := ⟨_, rfl⟩
  obtain ⟨el, hel⟩ : ∃ el, r.elem = el := ⟨_, rfl⟩
  rw [hz] at HL ⊢
  rw [hkd] at c0 HL
  rw [hel] at c11 HL
  clear hz hkd hel hx
  by_cases h9 : kd = 9
  · subst h9
    have HC := Lib.hid (isRow_ok (w.alloc (.cells r.cells.toArray 46)) el rows)
    have HZ := Lib.hid (show isRw el rows = z from by rw [HL.out]; rfl)
    go_enter Tryz.func146, Tryz.ntmps146
    go_wp2_with fail
    refine HC.out.mono ?_
    rintro e w1 ⟨rfl, rfl⟩
    rw [HZ.out]
    go_wp2_with fail
    go_ret
    exact ⟨rfl, HB.out⟩
  · have q9 : (kd != 9) = true := bne_iff_ne.2 h9
    obtain ⟨b, hb⟩ : ∃ b, (el == 0) = b := ⟨_, rfl⟩
    have HZ := Lib.hid (show z = b from by rw [HL.out, if_neg h9, ← hb]; by_cases h : el = 0 <;> simp [h])
    clear h9
    go_enter Tryz.func146, Tryz.ntmps146
    go_wp2_with fail
    go_ret
    exact ⟨by rw [HZ.out]; first | rfl | simp, HB.out⟩
end Go.Proofs.YtjhecpkdpomkmaaGreat
