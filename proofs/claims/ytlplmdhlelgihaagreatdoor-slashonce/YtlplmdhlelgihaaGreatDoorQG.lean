/-
  The fields of a state whose bytes may be refused, read.
  Validators looked at: who is active, sums; lists of numbers that grow.
  What the document's Active, CanSlash, Epoch, Actives, Total, All and Churn answer.
  What the document's All and Churn answer.
  What LookActives answers, by what the program's functions answer.
  The state of the statements' own awake.
-/
import Derived.Test.YtlplmdhlelgihaaGreatDoorQD
import Derived.Test.YtlplmdhlelgihaaGreatDoorStD
import Derived.Test.YtlplmdhlelgihaaGreatDoorStY
import Derived.Laws.AppendOwnNone

import Derived.BigQuiet

import Derived.Deep.QuietTactic

import Derived.Deep.RegionHeld3

namespace Go.Proofs.YtlplmdhlelgihaaGreatDoor

open Go.RowKit

set_option linter.unusedVariables false

set_option linter.unusedSimpArgs false

set_option maxRecDepth 20000

/-- The state of nothing but zeros. -/
def oState : VState := ⟨0, fun _ => 0, 0, oFork, oHeader, fun _ => 0, fun _ => 0, ⟨none, 0, 0, fun _ => 0⟩, oEth1, ⟨none, 0, 0, fun _ => oEth1⟩, 0, ⟨none, 0, 0, fun _ => oValidator⟩, ⟨none, 0, 0, fun _ => 0⟩, fun _ => 0, fun _ => 0, ⟨none, 0, 0, fun _ => 0⟩, ⟨none, 0, 0, fun _ => 0⟩, fun _ => false, oCheckpoint, oCheckpoint, oCheckpoint, ⟨none, 0, 0, fun _ => 0⟩, oCommittee, oCommittee⟩

theorem zeroState (W : World) : (zeroValue 49).run Tryz.prog W = .ok (.agg (cel (sState oState))) W := by kernel_rfl

theorem bdState_0 (W : World) : (bdState #[]).run Tryz.prog W = .ok (.agg (cel (sState oState))) W := by kernel_rfl

theorem some_lt {X : World} {r : Nat} {o : Obj} (h : X.heap[r]? = some o) : r < X.heap.size := (Array.getElem?_eq_some_iff.1 h).1

theorem some_cell {X : World} {y i : Nat} {x : VState} (h : X.heap[y]? = some (.cells (cel (sState x)) 49)) (hi : i < 1957) : ∃ v, X.cell? ⟨y, i, none⟩ = some v := ⟨_, (row_cell h i).trans (Array.getElem?_eq_getElem (by rw [cel_size, slState]; exact hi))⟩

attribute [local go_sem ↓] lvState_eq svState_eq bdState_eq ixP_eq

end Go.Proofs.YtlplmdhlelgihaaGreatDoor

namespace Go.Proofs.YtlplmdhlelgihaaGreatDoor

open Go.RowKit

set_option linter.unusedVariables false

set_option linter.unusedSimpArgs false

set_option maxRecDepth 20000

/-- Is a validator active? May it be slashed? -/
def actB (v : VValidator) (e : Int) : Bool := decide (v.f5 ≤ e) && decide (e < v.f6)

def slaB (v : VValidator) (e : Int) : Bool := !v.f3 && (decide (v.f5 ≤ e) && decide (e < v.f7))

/-- The actives below k. -/
def acL (z : Nat → VValidator) (e : Int) : Nat → List Int
  | 0 => []
  | k + 1 => if actB (z k) e = true then acL z e k ++ [(k : Int)] else acL z e k

theorem acL_len (z : Nat → VValidator) (e : Int) (k : Nat) : (acL z e k).length ≤ k := by
  induction k with
  | zero => exact Nat.le_refl _
  | succ k ih =>
    unfold acL
    split
    · simp; omega
    · omega

theorem acL_bd (z : Nat → VValidator) (e : Int) (k : Nat) : ∀ v ∈ acL z e k, 0 ≤ v ∧ v < (k : Int) := by
  induction k with
  | zero => intro v hv; cases hv
  | succ k ih =>
    intro v hv
    unfold acL at hv
    split at hv
    · rcases List.mem_append.1 hv with h | h
      · have := ih v h; omega
      · simp at h; omega
    · have := ih v hv; omega

/-- Numbers, as values. -/
def iv6 (l : List Int) : List Value := l.map (Value.int .u64)

theorem info64 : (Tryz.prog.info? 22).map (fun i => (i.zero, i.size, i.bytes)) = some (some (.int .u64 0), 1, 8) := by kernel_rfl

/-- append of one number onto a slice of the call's own. -/
theorem wpList_append_one (w : World) {ops : Array Oper} {rest : List Oper} {o : Oper} {a : Act} {Q : Exit → Act → World → Prop} (hgd : o.guard = none) (s x : Operand)
    (ho : o.op = .call { callee := .builtin .append, args := #[s, x], argTypes := #[37, 37] })
    (base : Nat) (v : Value) (l : List Int) (z : Int) (hs : a.eval s = v) (hown : w.ownsRow base 22 1 v l.length (iv6 l))
    (hx : a.eval x = .slice (some ⟨w.heap.size, 0, none⟩) 1 1) (hbd : l.length + 1 ≤ 17592186044416) (hbase : base ≤ w.heap.size)
    (h : ∀ v' w', w'.ownsRow base 22 1 v' (l ++ [z]).length (iv6 (l ++ [z])) → w.grownBy w' v.ownBlock → wpList Tryz.prog ops Q rest (a.put o.dst v') w') :
    wpList Tryz.prog ops Q (o :: rest) a (w.alloc (.cells #[.int .u64 z] 22)) := by
  obtain ⟨i, hi, hz0, hz1, hz2⟩ := info_parts info64
  refine wpList_append_own _ hgd s x 37 ho base 22 i (.int .u64 0) 1 8 Tryz.underlying37 hi hz0 hz1 hz2 rfl (by decide) v l.length (iv6 l) hs (hown.alloc _) ⟨w.heap.size, 0, none⟩ 1 1 [.int .u64 z] hx rfl (cell_one_new _ _ _)
    (fun u hu => by simp at hu; subst hu; rfl) (by unfold maxLen; omega) (by omega) (by simp; omega) (fun v' w' h1 h2 _ => ?_)
  have e : iv6 l ++ [.int .u64 z] = iv6 (l ++ [z]) := by simp [iv6]
  rw [e] at h1
  refine h v' w' (by rw [List.length_append]; exact h1) ⟨h2.os, h2.tape, h2.output, ?_, fun k hk hne => ?_⟩
  · have := h2.size
    simp at this
    omega
  · exact (h2.block k (by simp; omega) hne).trans (heap_old hk)

/-- The numbers of a list, in memory. -/
def Nml (w : World) (a : Option Addr) (l : List Int) : Prop := Z.Nms .u64 w a l.length (fun j => l.getD j 0)

theorem own_nml {w : World} {B : Nat} {v : Value} {l : List Int} (h : w.ownsRow B 22 1 v l.length (iv6 l)) : ∃ a C, v = .slice a l.length C ∧ Nml w a l := by
  rcases h.2 with ⟨h1, h2⟩ | ⟨g, cap, cur, h1, _, _, h2, h3, _⟩
  · subst h1
    exact ⟨none, 0, by rw [h2], .inl h2⟩
  · subst h1
    refine ⟨some ⟨g, 0, none⟩, cap, rfl, .inr ⟨g, 0, rfl, (h.lt g rfl).2, fun j hj => ?_⟩⟩
    have hj' : (iv6 l)[j]? = some (.int .u64 (l.getD j 0)) := by
      unfold iv6
      rw [List.getElem?_map, List.getElem?_eq_getElem hj, List.getD_eq_getElem?_getD, List.getElem?_eq_getElem hj]
      rfl
    have := h.cells (g := g) rfl j _ hj'
    rw [addr_add] at this
    exact this

theorem own_below {w w' : World} {B : Nat} {e : TypeId} {v : Value} {n : Nat} {xs : List Value} (h : w.ownsRow B e 1 v n xs) (hb : Below w.heap.size w w') : w'.ownsRow B e 1 v n xs := by
  refine ⟨h.1, ?_⟩
  rcases h.2 with h | ⟨g, cap, cur, e1, e2, e3, e4⟩
  · exact .inl h
  · exact .inr ⟨g, cap, cur, e1, e2, (hb.block _ (Array.getElem?_eq_some_iff.1 e3).1).trans e3, e4⟩

theorem ret_int {k : IntKind} {a b : Int} (h : a = b) : Ending.returned (.int k a) = .returned (.int k b) := by rw [h]

theorem ret_bool {a b : Bool} (h : a = b) : Ending.returned (.bool a) = .returned (.bool b) := by rw [h]

theorem val_eff {w : World} {b o : Nat} {v : VValidator} (h : w.rangeAt b o (celL (sValidator v))) : w.cell? ⟨b, o + 80, none⟩ = some (.int .u64 v.f2) := h 80 _ rfl

end Go.Proofs.YtlplmdhlelgihaaGreatDoor

namespace Go.Proofs.YtlplmdhlelgihaaGreatDoor

open Go.RowKit

set_option linter.unusedVariables false

set_option linter.unusedSimpArgs false

set_option maxRecDepth 20000

/-- What is looked at of a state. -/
structure Lk (w : World) (x : VState) : Prop where
  el : Els w x.f11.a x.f11.n 86 (fun i => celL (sValidator (x.f11.z i)))
  nb : x.f11.n ≤ 65536
  ef : ∀ j, j < x.f11.n → 0 ≤ (x.f11.z j).f2 ∧ (x.f11.z j).f2 ≤ 32000000000
  sl : 0 ≤ x.f2 ∧ x.f2 < 1099511627776

theorem Lk.below {w w' : World} {x : VState} (h : Lk w x) (hb : Below w.heap.size w w') : Lk w' x := ⟨h.el.below hb, h.nb, h.ef, h.sl⟩

attribute [local go_sem ↓] lvState_eq svState_eq bdState_eq lvValidator_eq svValidator_eq ixValidator_eq

theorem ixValidator_u (w : World) (b off len cap i : Nat) (h : i < len) : (ixValidator (.slice (some ⟨b, off, none⟩) len cap) (.int .u64 i)).run Tryz.prog w = .ok (.pointer (some ⟨b, off + 86 * i, none⟩)) w := by
  unfold ixValidator Instr.indexAt
  have h1 : (0 : Int) ≤ (i : Int) ∧ (i : Int) < (len : Int) := by omega
  simp only [asIntOf, Sem.run_bind, Sem.run_pure, Result.andThen_ok, run_underlying Tryz.underlying36, if_pos h1, sizeValidator, Addr.add_mid, Int.toNat_natCast]
  rw [Nat.mul_comm]

set_option maxHeartbeats 1000000 in
theorem rslash_any (v : VValidator) (e : Int) (w : World) :
    Calls Tryz.prog 7 #[.agg (cel (sValidator v)), .int .u64 e] w fun e' w' => e' = .returned (.bool (slaB v e)) ∧ Below w.heap.size w w' := by
  obtain ⟨W0, hW0⟩ : ∃ W, w.alloc (.cells (cel (sValidator v)) 62) = W := ⟨_, rfl⟩
  have r0 : W0.heap[w.heap.size]? = some (.cells (cel (sValidator v)) 62) := by rw [← hW0]; exact heap_new rfl
  have hB0 : Below w.heap.size w W0 := by rw [← hW0]; exact (Below.refl _ _).alloc (Nat.le_refl _) _
  have l3 := seg_bo r0 3 v.f3 rfl 81 rfl
  have l5 := seg_nu r0 5 v.f5 rfl 83 rfl
  have l7 := seg_nu r0 7 v.f7 rfl 85 rfl
  have hE : slaB v e = (!v.f3 && (decide (v.f5 ≤ e) && decide (e < v.f7))) := rfl
  generalize v.f3 = s at *
  generalize v.f5 = p at *
  generalize v.f7 = q at *
  have HB := hid hB0
  have HW := hid hW0
  have HE := hid hE
  clear hB0 hW0 r0 hE
  cases s
  · by_cases h : p ≤ e
    · have d1 : decide (p ≤ e) = true := by simp [h]
      go_enter Tryz.func7, Tryz.ntmps7
      go_upto_region 1 with fail
      rw [HW.out]
      clear HW
      go_wp2
      go_ret
      exact ⟨ret_bool (by rw [HE.out, d1]; rfl), HB.out⟩
    · have d1 : decide (p ≤ e) = false := by simp [h]
      go_enter Tryz.func7, Tryz.ntmps7
      go_upto_region 1 with fail
      rw [HW.out]
      clear HW
      go_wp2
      go_ret
      exact ⟨ret_bool (by rw [HE.out, d1]; rfl), HB.out⟩
  · go_enter Tryz.func7, Tryz.ntmps7
    go_upto_region 1 with fail
    rw [HW.out]
    clear HW
    go_wp2
    go_ret
    exact ⟨ret_bool (by rw [HE.out]; rfl), HB.out⟩

theorem own_down {w : World} {B B' : Nat} {e : TypeId} {s n : Nat} {v : Value} {xs : List Value} (h : w.ownsRow B e s v n xs) (hB : B' ≤ B) : w.ownsRow B' e s v n xs := by
  refine ⟨h.1, ?_⟩
  rcases h.2 with h | ⟨g, cap, cur, e1, e2, e3⟩
  · exact .inl h
  · exact .inr ⟨g, cap, cur, e1, Nat.le_trans hB e2, e3⟩

end Go.Proofs.YtlplmdhlelgihaaGreatDoor

namespace Go.Proofs.YtlplmdhlelgihaaGreatDoor

open Go.RowKit

set_option linter.unusedVariables false

set_option linter.unusedSimpArgs false

set_option maxRecDepth 20000

attribute [local go_sem ↓] lvState_eq svState_eq bdState_eq lvValidator_eq svValidator_eq ixValidator_eq

/-- The actives of a state's epoch; their sum; how many may come. -/
def acS (x : VState) : List Int := acL x.f11.z (x.f2 / 4) x.f11.n

def chuS (x : VState) : Int := if ((acS x).length : Int) / 32 < 2 then 2 else ((acS x).length : Int) / 32

end Go.Proofs.YtlplmdhlelgihaaGreatDoor

namespace Go.Proofs.YtlplmdhlelgihaaGreatDoor

open Go.RowKit

set_option linter.unusedVariables false

set_option linter.unusedSimpArgs false

set_option maxRecDepth 20000

attribute [local go_sem ↓] lvState_eq svState_eq bdState_eq lvValidator_eq svValidator_eq ixValidator_eq

theorem RtO.lk {x : VState} (h : RtO x) {w : World} (hx : OkState x) (hw : InW w x) : Lk w x := by
  refine ⟨hw.i11, h.c0, fun j hj => ?_, hx.o2.1, h.c7⟩
  have hv := h.cv j hj
  have ho := (hx.o11 j hj).2.2.1
  unfold vldB at hv
  simp only [Bool.and_eq_true, decide_eq_true_eq] at hv
  exact ⟨ho.1, hv.2.1⟩

theorem lvValidator_row {w : World} {b : Nat} {x : VValidator} {t : TypeId} (h : w.heap[b]? = some (.cells (cel (sValidator x)) t)) : (lvValidator ⟨b, 0, none⟩).run Tryz.prog w = .ok (.agg (cel (sValidator x))) w :=
  loadAt_var (load_row h 62 _ Tryz.underlying62 rfl (by rw [cel_size, slValidator]; kernel_rfl))

theorem OkState.r' {x : VState} (h : OkState x) : OkR x := ⟨h.o2, h.o11, h.o12, h.o14, h.o21⟩

theorem InW.r' {w : World} {x : VState} (h : InW w x) : InR w x := ⟨h.i11, h.i12, h.i21⟩

end Go.Proofs.YtlplmdhlelgihaaGreatDoor

namespace Go.Proofs.YtlplmdhlelgihaaGreatDoor

open Go.RowKit

set_option linter.unusedVariables false

set_option linter.unusedSimpArgs false

set_option maxRecDepth 100000

def bvV (ps : Array (Nat × Value)) : Sem Value := Instr.build 62 ps

theorem bvV_eq (ps : Array (Nat × Value)) : Instr.build 62 ps = bvV ps := rfl

def bsV (n : Nat) (ps : Array (Nat × Value)) : Sem Value := Instr.buildSlice 36 n ps

theorem bsV_eq (n : Nat) (ps : Array (Nat × Value)) : Instr.buildSlice 36 n ps = bsV n ps := rfl

/-- One validator that is active up to the epoch 9. -/
def oV1 : VValidator := ⟨fun _ => 0, fun _ => 0, 32000000000, false, 0, 0, 9, 0⟩

def X0 (g1 g2 g3 g4 g5 : Nat) : VState := { oState with f11 := ⟨some ⟨g1, 0, none⟩, 1, 1, fun _ => oV1⟩, f12 := ⟨some ⟨g2, 0, none⟩, 1, 1, fun _ => 0⟩, f15 := ⟨some ⟨g3, 0, none⟩, 1, 1, fun _ => 0⟩, f16 := ⟨some ⟨g4, 0, none⟩, 1, 1, fun _ => 0⟩, f21 := ⟨some ⟨g5, 0, none⟩, 1, 1, fun _ => 0⟩ }

end Go.Proofs.YtlplmdhlelgihaaGreatDoor
