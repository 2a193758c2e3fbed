/-
  The bytes of a state's lists.
  Bits and bytes: what Vector, List, ReadVector and the reference answer (of the texts of layer 4, what others stand on).
  The bytes of a state.
  Whether a state is right.
-/
import Derived.Test.YtenhgoclfljjlaaDoorSQ
import Derived.Test.YtenhgoclfljjlaaDoorZQ
import Derived.Test.YtenhgoclfljjlaaDoorShelf
namespace Go.Proofs.YtenhgoclfljjlaaDoor

open Go.RowKit

set_option linter.unusedVariables false

set_option linter.unusedSimpArgs false

set_option maxRecDepth 20000

attribute [local go_sem ↓] sv24_eq lv24_eq ix22_eq sv8_eq

/-- The place of an element of the type Eth1 in a slice; such an element. -/
def ixEth1 (x i : Value) : Sem Value := Instr.indexAt 35 x i

theorem ixEth1_eq (x i : Value) : Instr.indexAt 35 x i = ixEth1 x i := rfl

attribute [local go_sem ↓] lvEth1_eq svEth1_eq ixEth1_eq

/-- The place of an element of the type Validator in a slice; such an element. -/
def ixValidator (x i : Value) : Sem Value := Instr.indexAt 36 x i

theorem ixValidator_eq (x i : Value) : Instr.indexAt 36 x i = ixValidator x i := rfl

theorem sizeValidator (w : World) : (sizeOf 63).run Tryd.prog w = .ok 86 w := by
  have hi : (Tryd.prog.info? 63).map (·.size) = some 86 := by kernel_rfl
  cases hq : Tryd.prog.info? 63 with
  | none => simp [hq] at hi
  | some i => simp [hq] at hi; simp [sizeOf, typeInfo, hq, hi]

theorem ixValidator_run (w : World) (b off len cap i : Nat) (h : i < len) : (ixValidator (.slice (some ⟨b, off, none⟩) len cap) (.int .i64 i)).run Tryd.prog w = .ok (.pointer (some ⟨b, off + 86 * i, none⟩)) w := by
  unfold ixValidator Instr.indexAt
  have h1 : (0 : Int) ≤ (i : Int) ∧ (i : Int) < (len : Int) := by omega
  simp only [asIntOf, Sem.run_bind, Sem.run_pure, Result.andThen_ok, run_underlying Tryd.underlying36, if_pos h1, sizeValidator, Addr.add_mid, Int.toNat_natCast]
  rw [Nat.mul_comm]

theorem lvValidator_at {w : World} {g o : Nat} {x : VValidator} (h : w.rangeAt g o (celL (sValidator x))) : (lvValidator ⟨g, o, none⟩).run Tryd.prog w = .ok (.agg (cel (sValidator x))) w :=
  loadAt_var (run_loadAt_mid w g o 63 _ _ h Tryd.underlying63 rfl (by rw [celL_len, show slen (sValidator x) = 86 from rfl]; kernel_rfl))

attribute [local go_sem ↓] lvValidator_eq svValidator_eq ixValidator_eq

end Go.Proofs.YtenhgoclfljjlaaDoor

namespace Go.Proofs.YtenhgoclfljjlaaDoor.Z

open Go.RowKit

set_option linter.unusedVariables false

set_option linter.unusedSimpArgs false

/-- The number whose lowest n bits are g's. -/
def bo (g : Nat → Bool) : Nat → Nat
  | 0 => 0
  | k + 1 => bo g k + (if g k = true then 2 ^ k else 0)

theorem bo_lt (g : Nat → Bool) (k : Nat) : bo g k < 2 ^ k := by
  induction k with
  | zero => simp [bo]
  | succ k ih =>
    unfold bo
    rw [Nat.pow_succ]
    split <;> omega

theorem bo_bit (g : Nat → Bool) (n k : Nat) : (bo g n).testBit k = (decide (k < n) && g k) := by
  induction n with
  | zero => simp [bo]
  | succ n ih =>
    have hl := bo_lt g n
    unfold bo
    by_cases hg : g n = true
    · rw [if_pos hg, Nat.add_comm]
      by_cases h : k < n
      · rw [Nat.testBit_two_pow_add_gt h, ih]
        simp [h, Nat.lt_succ_of_lt h]
      · by_cases e : k = n
        · subst e
          rw [Nat.testBit_two_pow_add_eq, Nat.testBit_lt_two_pow hl]
          simp [hg]
        · rw [Nat.testBit_lt_two_pow]
          · simp [show ¬ k < n + 1 by omega]
          · have : 2 ^ (n + 1) ≤ 2 ^ k := Nat.pow_le_pow_right (by omega) (by omega)
            rw [Nat.pow_succ] at this
            omega
    · rw [if_neg hg, Nat.add_zero, ih]
      by_cases e : k = n
      · subst e
        simp at hg
        simp [hg]
      · have : k < n + 1 ↔ k < n := by omega
        simp [this]

/-- The byte q of the bytes of the first n bits of f. -/
def byt (f : Nat → Bool) (n q : Nat) : Nat := bo (fun k => decide (8 * q + k < n) && f (8 * q + k)) 8

theorem byt_bit (f : Nat → Bool) (n q k : Nat) : (byt f n q).testBit k = (decide (k < 8) && (decide (8 * q + k < n) && f (8 * q + k))) := bo_bit _ 8 k

theorem byt_zero (f : Nat → Bool) (q : Nat) : byt f 0 q = 0 := by
  apply Nat.eq_of_testBit_eq
  intro k
  rw [byt_bit]
  simp

end Go.Proofs.YtenhgoclfljjlaaDoor.Z

namespace Go.Proofs.YtenhgoclfljjlaaDoor.Z

open Go.RowKit

set_option linter.unusedVariables false

set_option linter.unusedSimpArgs false

/-- The bits of a slice, whatever it is. -/
def Bls (w : World) (a : Option Addr) (len cap : Nat) (f : Nat → Bool) : Prop :=
  (a = none ∧ len = 0 ∧ cap = 0) ∨ (∃ x, a = some x ∧ len = 0) ∨ ∃ b off, a = some ⟨b, off, none⟩ ∧ len ≤ cap ∧ cap ≤ 9223372036854775807 ∧ b < w.heap.size ∧ ∀ j, j < len → w.cell? ⟨b, off + j, none⟩ = some (.bool (f j))

theorem Bls.below {w w' : World} {a : Option Addr} {len cap : Nat} {f : Nat → Bool} (h : Bls w a len cap f) (hb : Below w.heap.size w w') : Bls w' a len cap f := by
  rcases h with h | h | ⟨b, off, h1, h2, h3, h4, h5⟩
  · exact .inl h
  · exact .inr (.inl h)
  · exact .inr (.inr ⟨b, off, h1, h2, h3, Nat.lt_of_lt_of_le h4 hb.size, fun j hj => (below_cell hb h4).trans (h5 j hj)⟩)

theorem bls_at {w : World} {a : Option Addr} {len cap : Nat} {f : Nat → Bool} (h : Bls w a len cap f) (j : Nat) (hj : j < len) : ∃ b off, a = some ⟨b, off, none⟩ ∧ b < w.heap.size ∧ w.cell? ⟨b, off + j, none⟩ = some (.bool (f j)) := by
  rcases h with ⟨_, h, _⟩ | ⟨_, _, h⟩ | ⟨b, off, h1, h2, h3, h4, h5⟩
  · omega
  · omega
  · exact ⟨b, off, h1, h4, h5 j hj⟩

end Go.Proofs.YtenhgoclfljjlaaDoor.Z

namespace Go.Proofs.YtenhgoclfljjlaaDoor.Z

open Go.RowKit

set_option linter.unusedVariables false

set_option linter.unusedSimpArgs false

theorem infoB : (Tryd.prog.info? 4).map (fun i => (i.zero, i.size, i.bytes)) = some (some (.bool false), 1, 1) := by kernel_rfl

end Go.Proofs.YtenhgoclfljjlaaDoor.Z

namespace Go.Proofs.YtenhgoclfljjlaaDoor.Z

open Go.RowKit

set_option linter.unusedVariables false

set_option linter.unusedSimpArgs false

theorem vs0 (f : Nat → Bool) (N : Nat) : vs .u8 N (fun _ => 0) = vs .u8 N (fun q => (byt f 0 q : Int)) := vs_congr fun q _ => by rw [byt_zero]; rfl

/-- The bits, and one that is set behind them. -/
def ext (f : Nat → Bool) (n : Nat) (j : Nat) : Bool := decide (j = n) || f j

theorem ext_congr (f : Nat → Bool) (n j : Nat) (h : j < n) : ext f n j = f j := by
  unfold ext
  simp [show ¬ j = n by omega]

theorem ext_at (f : Nat → Bool) (n : Nat) : ext f n n = true := by simp [ext]

end Go.Proofs.YtenhgoclfljjlaaDoor.Z

namespace Go.Proofs.YtenhgoclfljjlaaDoor.Z

open Go.RowKit

set_option linter.unusedVariables false

set_option linter.unusedSimpArgs false

def bbl (f : Nat → Bool) (n : Nat) : List Value := (List.range n).map fun i => Value.bool (f i)

theorem bbl_len (f : Nat → Bool) (n : Nat) : (bbl f n).length = n := by simp [bbl]

theorem bbl_one (f : Nat → Bool) (n : Nat) : ∀ u ∈ bbl f n, u.oneCell' = true := by
  intro u hu
  obtain ⟨i, _, rfl⟩ := List.mem_map.1 hu
  rfl

theorem bbl_get (f : Nat → Bool) (n j : Nat) (u : Value) (h : (bbl f n)[j]? = some u) : j < n ∧ u = .bool (f j) := by
  have hj := (List.getElem?_eq_some_iff.1 h).1
  rw [bbl_len] at hj
  refine ⟨hj, ?_⟩
  unfold bbl at h
  rw [List.getElem?_map, List.getElem?_range hj] at h
  simpa using h.symm

theorem bbl_at (f : Nat → Bool) (n j : Nat) (hj : j < n) : (bbl f n)[j]? = some (.bool (f j)) := by
  unfold bbl
  rw [List.getElem?_map, List.getElem?_range hj]
  rfl

theorem bbl_snoc (f : Nat → Bool) (n : Nat) (v : Bool) (hv : v = f n) : bbl f n ++ [.bool v] = bbl f (n + 1) := by
  unfold bbl
  rw [List.range_succ, List.map_append, hv]
  rfl

theorem bbl_congr {f g : Nat → Bool} {n : Nat} (h : ∀ i, i < n → f i = g i) : bbl f n = bbl g n := by
  unfold bbl
  refine List.map_congr_left fun i hi => ?_
  rw [h i (List.mem_range.1 hi)]

/-- append of bits onto a slice of the call's own. -/
theorem wpList_append_bls (w : World) {ops : Array Oper} {rest : List Oper} {o : Oper} {a : Act} {Q : Exit → Act → World → Prop} (hgd : o.guard = none) (s x : Operand)
    (ho : o.op = .call { callee := .builtin .append, args := #[s, x], argTypes := #[50, 50] })
    (base : Nat) (v : Value) (n : Nat) (xs : List Value) (hs : a.eval s = v) (hown : w.ownsRow base 4 1 v n xs)
    (ao : Option Addr) (len cap : Nat) (f : Nat → Bool) (hx : a.eval x = .slice ao len cap) (hb : Bls w ao len cap f) (hbd : n + len ≤ 140737488355328) (hbase : base ≤ w.heap.size)
    (h : ∀ v' w', w'.ownsRow base 4 1 v' (n + len) (xs ++ bbl f len) → w.grownBy w' v.ownBlock → wpList Tryd.prog ops Q rest (a.put o.dst v') w') :
    wpList Tryd.prog ops Q (o :: rest) a w := by
  obtain ⟨i, hi, hz0, hz1, hz2⟩ := info_parts infoB
  rcases hb with ⟨rfl, rfl, rfl⟩ | ⟨x0, rfl, rfl⟩ | ⟨b, off, rfl, hlc, hcm, hbl, hc⟩
  · refine wpList_append_own_none hgd s x 50 ho base 4 i 1 Tryd.underlying50 hi v n xs hs hown hx (h v w ?_ ⟨rfl, rfl, rfl, Nat.le_refl _, fun _ _ _ => rfl⟩)
    simpa [bbl] using hown
  · exact wpList_append_own w hgd s x 50 ho base 4 i (.bool false) 1 1 Tryd.underlying50 hi hz0 hz1 hz2 rfl (by decide) v n xs hs hown x0 0 cap (bbl f 0) hx (by rw [bbl_len])
      (fun j u hj => by
        have := (bbl_get f 0 j u hj).1
        omega) (bbl_one f 0) (by unfold maxLen; omega) (by omega) hbase (fun v' w' h1 h2 _ => h v' w' h1 h2)
  · exact wpList_append_own w hgd s x 50 ho base 4 i (.bool false) 1 1 Tryd.underlying50 hi hz0 hz1 hz2 rfl (by decide) v n xs hs hown ⟨b, off, none⟩ len cap (bbl f len) hx (by rw [bbl_len]; omega)
      (fun j u hj => by
        obtain ⟨h1, rfl⟩ := bbl_get f len j u hj
        rw [addr_add]
        exact hc j h1) (bbl_one f len) (by unfold maxLen; omega) (by omega) hbase (fun v' w' h1 h2 _ => h v' w' h1 h2)

/-- append of one bit. -/
theorem wpList_append_bit (w : World) {ops : Array Oper} {rest : List Oper} {o : Oper} {a : Act} {Q : Exit → Act → World → Prop} (hgd : o.guard = none) (s x : Operand)
    (ho : o.op = .call { callee := .builtin .append, args := #[s, x], argTypes := #[50, 50] })
    (base : Nat) (v : Value) (n : Nat) (f : Nat → Bool) (z : Bool) (hs : a.eval s = v) (hown : w.ownsRow base 4 1 v n (bbl f n))
    (hx : a.eval x = .slice (some ⟨w.heap.size, 0, none⟩) 1 1) (hz : z = f n) (hbd : n + 1 ≤ 140737488355328) (hbase : base ≤ w.heap.size)
    (h : ∀ g C w', w'.ownsRow base 4 1 (.slice (some ⟨g, 0, none⟩) (n + 1) C) (n + 1) (bbl f (n + 1)) → w.grownBy w' v.ownBlock → wpList Tryd.prog ops Q rest (a.put o.dst (.slice (some ⟨g, 0, none⟩) (n + 1) C)) w') :
    wpList Tryd.prog ops Q (o :: rest) a (w.alloc (.cells #[.bool z] 4)) := by
  obtain ⟨i, hi, hz0, hz1, hz2⟩ := info_parts infoB
  refine wpList_append_own _ hgd s x 50 ho base 4 i (.bool false) 1 1 Tryd.underlying50 hi hz0 hz1 hz2 rfl (by decide) v n (bbl f n) hs (hown.alloc _) ⟨w.heap.size, 0, none⟩ 1 1 [.bool z] hx rfl (cell_one_new _ _ _)
    (fun u hu => by simp at hu; subst hu; rfl) (by unfold maxLen; omega) (by omega) (by simp; omega) (fun v' w' h1 h2 _ => ?_)
  rw [bbl_snoc f n z hz] at h1
  obtain ⟨g, C, rfl⟩ := owns_pos h1 (by omega)
  refine h g C w' h1 ⟨h2.os, h2.tape, h2.output, ?_, fun k hk hne => ?_⟩
  · have := h2.size
    simp at this
    omega
  · exact (h2.block k (by simp; omega) hne).trans (heap_old hk)

/-- The bits of a slice of the call's own. -/
theorem owns_bls {w : World} {B : Nat} {v : Value} {n : Nat} {f : Nat → Bool} (h : w.ownsRow B 4 1 v n (bbl f n)) : ∃ a C, v = .slice a n C ∧ n ≤ C ∧ C ≤ 9223372036854775807 ∧ Bls w a n C f ∧ ∀ x, a = some x → B ≤ x.block := by
  rcases h.2 with ⟨h1, h0⟩ | ⟨g, cap, cur, h1, h2, h3, h4, h5, h6, h7⟩
  · subst h0
    exact ⟨none, 0, h1, Nat.le_refl _, by omega, .inl ⟨rfl, rfl, rfl⟩, fun x hx => by cases hx⟩
  · unfold maxLen at h5
    refine ⟨_, cap, h1, h4, by omega, .inr (.inr ⟨g, 0, rfl, h4, by omega, (Array.getElem?_eq_some_iff.1 h3).1, fun j hj => ?_⟩), fun x hx => by cases hx; exact h2⟩
    subst h1
    have := h.cells (g := g) rfl j _ (bbl_at f n j hj)
    rw [addr_add] at this
    exact this

/-- A slice of bits, whole. -/
def slB (x : Value) (lo hi : Option Value) : Sem Value := Instr.sliceAt 50 x lo hi none

theorem slB_eq (x : Value) (lo hi : Option Value) : Instr.sliceAt 50 x lo hi none = slB x lo hi := rfl

theorem slB_run (W : World) (ao : Option Addr) (len cap hi : Nat) (h2 : hi ≤ cap) :
    (slB (.slice ao len cap) none (some (.int .i64 hi))).run Tryd.prog W = .ok (.slice ao hi cap) W := by
  have hi8 : ∃ i, Tryd.prog.info? 4 = some i ∧ i.size = 1 := by
    obtain ⟨i, hi, _, hz, _⟩ := info_parts infoB
    exact ⟨i, hi, hz⟩
  obtain ⟨i, hi8, hz⟩ := hi8
  have b1 : ∀ (k n : Nat) (c : BoundsCode), k ≤ n → (Instr.sliceBound (.int .i64 (k : Int)) n c).run Tryd.prog W = .ok k W := by
    intro k n c hk
    have h0 : (k : Int) ≤ (n : Int) := by omega
    simp [Instr.sliceBound, asIntOf, h0]
  have c2 := fun c => b1 hi cap c h2
  have am : ∀ y : Addr, y.add 0 = y := fun y => rfl
  unfold slB Instr.sliceAt
  cases ao <;> simp [run_underlying Tryd.underlying50, Instr.slice, Instr.sliceBounds, c2, sizeOf, typeInfo, hi8, hz, am]

end Go.Proofs.YtenhgoclfljjlaaDoor.Z

namespace Go.Proofs.YtenhgoclfljjlaaDoor.Z

open Go.RowKit

set_option linter.unusedVariables false

set_option linter.unusedSimpArgs false

/-- What a copy of bits, and one more, is. -/
theorem copy_owns {w w1 : World} {v : Value} {n : Nat} {f g : Nat → Bool} {B : Nat} (h : w1.ownsRow B 4 1 v (0 + n) ([] ++ bbl f n)) (he : ∀ i, i < n → f i = g i) : w1.ownsRow B 4 1 v n (bbl g n) := by
  rw [Nat.zero_add, List.nil_append, bbl_congr he] at h
  exact h

theorem empty_owns (w : World) : (w.alloc (.cells #[] 4)).ownsRow w.heap.size 4 1 (.slice (some ⟨w.heap.size, 0, none⟩) 0 0) 0 [] :=
  World.ownsRow_made w #[] 0 (Nat.le_refl _) (Nat.zero_le _) rfl

theorem ext_of (f : Nat → Bool) (n : Nat) : ∀ i, i < n → f i = ext f n i := fun i hi => (ext_congr f n i hi).symm

end Go.Proofs.YtenhgoclfljjlaaDoor.Z

namespace Go.Proofs.YtenhgoclfljjlaaDoor.Z

open Go.RowKit

set_option linter.unusedVariables false

set_option linter.unusedSimpArgs false

end Go.Proofs.YtenhgoclfljjlaaDoor.Z

namespace Go.Proofs.YtenhgoclfljjlaaDoor.Z

open Go.RowKit

set_option linter.unusedVariables false

set_option linter.unusedSimpArgs false

attribute [local go_sem ↓] slB_eq

end Go.Proofs.YtenhgoclfljjlaaDoor.Z

namespace Go.Proofs.YtenhgoclfljjlaaDoor

open Go.RowKit

set_option linter.unusedVariables false

set_option linter.unusedSimpArgs false

set_option maxRecDepth 20000

attribute [local go_sem ↓] bsI_eq

/-- The numbers and bits of a field in memory. -/
theorem seg_na {w : World} {g : Nat} {t : TypeId} {x : VState} (h : w.heap[g]? = some (.cells (cel (sState x)) t)) : Z.Nms .u64 w (some ⟨g, 979, none⟩) 8 x.f14 :=
  .inr ⟨g, 979, rfl, (Array.getElem?_eq_some_iff.1 h).1, fun j hj => by
    rcases (by omega : j = 0 ∨ j = 1 ∨ j = 2 ∨ j = 3 ∨ j = 4 ∨ j = 5 ∨ j = 6 ∨ j = 7) with rfl | rfl | rfl | rfl | rfl | rfl | rfl | rfl
    · exact cS14_0 h
    · exact cS14_1 h
    · exact cS14_2 h
    · exact cS14_3 h
    · exact cS14_4 h
    · exact cS14_5 h
    · exact cS14_6 h
    · exact cS14_7 h⟩

attribute [local go_sem ↓] bsI_eq lvState_eq svState_eq lvFork_eq lvHeader_eq lvEth1_eq lvCheckpoint_eq lvCommittee_eq

end Go.Proofs.YtenhgoclfljjlaaDoor

namespace Go.Proofs.YtenhgoclfljjlaaDoor

open Go.RowKit

set_option linter.unusedVariables false

set_option linter.unusedSimpArgs false

set_option maxRecDepth 20000

attribute [local go_sem ↓] lvState_eq svState_eq bdState_eq lvValidator_eq svValidator_eq ixValidator_eq

def vldB (v : VValidator) : Bool := decide (v.f2 % 1000000000 = 0) && (decide (v.f2 ≤ 32000000000) && (epB v.f4 && (epB v.f5 && (epB v.f6 && epB v.f7))))

def valsB (z : Nat → VValidator) (n : Nat) : Bool := (List.range n).all fun i => vldB (z i)

/-- What Right looks at. -/
structure OkR (x : VState) : Prop where
  o2 : 0 ≤ x.f2 ∧ x.f2 < 18446744073709551616
  o11 : ∀ j, j < x.f11.n → OkValidator (x.f11.z j)
  o12 : ∀ j, j < x.f12.n → 0 ≤ x.f12.z j ∧ x.f12.z j < 18446744073709551616
  o14 : ∀ j, j < 8 → 0 ≤ x.f14 j ∧ x.f14 j < 18446744073709551616
  o21 : ∀ j, j < x.f21.n → 0 ≤ x.f21.z j ∧ x.f21.z j < 18446744073709551616

structure InR (w : World) (x : VState) : Prop where
  i11 : Els w x.f11.a x.f11.n 86 (fun i => celL (sValidator (x.f11.z i)))
  i12 : Z.Nms .u64 w x.f12.a x.f12.n x.f12.z
  i21 : Z.Nms .u64 w x.f21.a x.f21.n x.f21.z

theorem InR.below {w w' : World} {x : VState} (h : InR w x) (hb : Below w.heap.size w w') : InR w' x := ⟨h.i11.below hb, h.i12.below hb, h.i21.below hb⟩

theorem InW.r {w : World} {x : VState} (h : InW w x) : InR w x := ⟨h.i11, h.i12, h.i21⟩

theorem OkState.r {x : VState} (h : OkState x) : OkR x := ⟨h.o2, h.o11, h.o12, h.o14, h.o21⟩

/-- Whether a state is right. -/
def rightB (x : VState) : Bool := fitB x && (lensB x && (timB x && (decide (x.f10 < 1099511627776) && (valsB x.f11.z x.f11.n && (scoB x.f21.z x.f21.n && (togB x.f12.z x.f12.n 144115188075855872 && togB x.f14 8 144115188075855872))))))

end Go.Proofs.YtenhgoclfljjlaaDoor
