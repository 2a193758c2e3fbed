/-
  Places in a region that several orders share.
  What the reference's Vote answers.
  What the reference's Number and Randao answer.
  What the reference's Told answers; what the program's functions of layer 17 have to answer; the statements' own awake.
  What slices.Clone answers for the lists of a state.
  A state copied list by list.
  What the program's Vote answers, and its Header of another slot's block.
-/
import Derived.Test.YtlplmdhlelgihaaGreatDoorHaA
import Derived.Test.YtlplmdhlelgihaaGreatDoorQJ
import Derived.Test.YtlplmdhlelgihaaGreatDoorQE
import Derived.Test.YtlplmdhlelgihaaGreatDoorQL
import Derived.Test.YtlplmdhlelgihaaGreatDoorPkB
import Derived.Test.YtlplmdhlelgihaaGreatDoorLkR
import Derived.Test.YtlplmdhlelgihaaGreatDoorVfC
import Derived.Test.YtlplmdhlelgihaaGreatDoorQG
import Derived.Test.YtlplmdhlelgihaaGreatDoorQH
import Derived.Test.YtlplmdhlelgihaaGreatDoorPkP
import Derived.BigRegion

namespace Go.Proofs.YtlplmdhlelgihaaGreatDoor

open Go.RowKit

set_option linter.unusedVariables false

/-- All that stood in W stands in V. -/
abbrev Up (W V : World) : Prop := Below W.heap.size W V

theorem upT {W V X : World} (h : Up W V) (k : Up V X) : Up W X := h.trans (k.mono h.size)

theorem upR {V X : World} {y : Nat} {o : Obj} (k : Up V X) (r : V.heap[y]? = some o) : X.heap[y]? = some o := (k.block _ (Array.getElem?_eq_some_iff.1 r).1).trans r

theorem upN2 {W V : World} (h : Up W V) (o : Obj) : ∃ X y, V.alloc o = X ∧ V.heap.size = y ∧ X.heap[y]? = some o ∧ Up V X ∧ W.heap.size ≤ y := ⟨_, _, rfl, rfl, heap_new rfl, (Below.refl _ _).alloc (Nat.le_refl _) _, h.size⟩

/-- What may come up next: one, two, three. -/
theorem rd1 {P : Program} {ops : Array Oper} {Q : Exit → Act → World → Prop} {md : Region.Mode} {S : World → Prop} {fuel : Nat} {listed : Array Bool} {a : Act} {w : World} (i : Nat) {o : Oper} (h : ∀ K' : Act → World → Prop, Shut (∀ a w, S w → (S w → wpAnyH P md ops Q S fuel (listed.setIfInBounds i true) a w) → K' a w) → if Region.wanted o (yielded ops a.tmps) = true then Oper.wp P o a w K' Q else K' (a.put o.dst undef) w) (ho : ops[i]? = some o := by rfl) (hr : Region.ready md ops listed = [i] := by kernel_rfl) : wpAnyH P md ops Q S (fuel + 1) listed a w :=
  wpAnyH_ready hr (by simp) (AllReadyH.cons ho h AllReadyH.nil)

end Go.Proofs.YtlplmdhlelgihaaGreatDoor

namespace Go.Proofs.YtlplmdhlelgihaaGreatDoor

open Go.RowKit

set_option linter.unusedVariables false

set_option linter.unusedSimpArgs false

set_option maxRecDepth 20000

/-- A state given back. -/
theorem BF.give {w V : World} {y b : Nat} {Y : VState} {C : Array Value} (h : BF w y V Y) (r : V.heap[b]? = some (.cells C 49)) (c : Array Value) : Res w.heap.size (V.setRow b c) Y Y := by
  have hk : Kept b V (V.setRow b c) := (Kept.refl b V).setRow c
  have cp : CpdF w.heap.size (V.setRow b c) Y := ⟨own_keptB h.cpd.o7 hk (own_ne h.cpd.o7 r (by decide)), own_keptB h.cpd.o9 hk (own_ne h.cpd.o9 r (by decide)), own_keptB h.cpd.o11 hk (own_ne h.cpd.o11 r (by decide)), own_keptB h.cpd.o12 hk (own_ne h.cpd.o12 r (by decide)), own_keptB h.cpd.o15 hk (own_ne h.cpd.o15 r (by decide)), own_keptB h.cpd.o16 hk (own_ne h.cpd.o16 r (by decide)), own_keptB h.cpd.o21 hk (own_ne h.cpd.o21 r (by decide)), h.cpd.d15, h.cpd.d12⟩
  exact ⟨.refl _, ⟨own_rtF cp.o7, own_els cp.o9 (fun i => by rw [celL_len]; rfl), own_els cp.o11 (fun i => by rw [celL_len]; rfl), own_nms cp.o12, own_byF cp.o15, own_byF cp.o16, own_nms cp.o21⟩, cp.nil, cp.nw⟩

def bsE (n : Nat) (ps : Array (Nat × Value)) : Sem Value := Instr.buildSlice 35 n ps

theorem bsE_eq (n : Nat) (ps : Array (Nat × Value)) : Instr.buildSlice 35 n ps = bsE n ps := rfl

def svE (a : Addr) (v : Value) : Sem Unit := storeVar 34 a v

theorem svE_eq (a : Addr) (v : Value) : storeVar 34 a v = svE a v := rfl

theorem right_small {x : VState} (h : rightB x = true) : x.f7.n ≤ 65536 ∧ x.f9.n ≤ 8 ∧ x.f11.n ≤ 65536 ∧ x.f12.n ≤ 65536 ∧ x.f15.n ≤ 65536 ∧ x.f16.n ≤ 65536 ∧ x.f21.n ≤ 65536 := by
  unfold rightB at h
  rw [Bool.and_eq_true] at h
  have := h.1
  unfold fitB at this
  simp only [Bool.and_eq_true, decide_eq_true_eq] at this
  omega

theorem small_rch {x : VState} (h : rightB x = true) : Rch x := by
  have := right_small h
  unfold Rch
  omega

attribute [local go_sem ↓] lvState_eq svState_eq bdState_eq lvEth1_eq ixEth1_eq bsE_eq svE_eq eqoE_eq

end Go.Proofs.YtlplmdhlelgihaaGreatDoor

namespace Go.Proofs.YtlplmdhlelgihaaGreatDoor

open Go.RowKit

set_option linter.unusedVariables false

set_option linter.unusedSimpArgs false

set_option maxRecDepth 20000

/-- A list of one key, built. -/
def bsK (n : Nat) (ps : Array (Nat × Value)) : Sem Value := Instr.buildSlice 91 n ps

theorem bsK_eq (n : Nat) (ps : Array (Nat × Value)) : Instr.buildSlice 91 n ps = bsK n ps := rfl

theorem retState3 {fn : Func} {R : Ending → World → Prop} {a : Act} {w' : World} (t s s2 : Tmp) (b : Nat) (c : VState) (ty : TypeId) (v v2 : Value) (h : fn.results = #[.cell t 49, .tmp s, .tmp s2]) (hd : a.defers = []) (ht : a.tmps.getD t undef = .pointer (some ⟨b, 0, none⟩)) (hs : a.tmps.getD s undef = v) (hs2 : a.tmps.getD s2 undef = v2) (hr : w'.heap[b]? = some (.cells (cel (sState c)) ty))
    (hR : R (.returned (.tuple #[.agg (cel (sState c)), v, v2])) w') : bodyPost Tryz.prog fn R .ret a w' := by
  refine bodyPost_ret ?_ hd hR
  have hl := loadAt_var (load_row (P := Tryz.prog) hr 49 _ Tryz.underlying49 rfl (by rw [cel_size, slState]; kernel_rfl))
  rw [Array.getD_eq_getD_getElem?] at ht hs hs2
  simp [results, h, ht, hs, hs2, hl, asAddr]

theorem rows_ne {w : World} {a b : Nat} {C D : Array Value} {t u : TypeId} (h : w.heap[a]? = some (.cells C t)) (k : w.heap[b]? = some (.cells D u)) (hne : t ≠ u) : a ≠ b := fun e => by
  subst e
  rw [h] at k
  exact hne (Obj.cells.inj (Option.some.inj k)).2.1

attribute [local go_sem ↓] lvState_eq svState_eq bdState_eq sv24_eq lv24_eq sv8_eq ix22_eq bs22_eq bsK_eq lvSg_eq lvKy_eq ixValidator_eq

end Go.Proofs.YtlplmdhlelgihaaGreatDoor

namespace Go.Proofs.YtlplmdhlelgihaaGreatDoor

open Go.RowKit

set_option linter.unusedVariables false

set_option linter.unusedSimpArgs false

set_option maxRecDepth 20000

attribute [local go_sem ↓] lvState_eq svState_eq bdState_eq

/-- How long a state's lists may be. -/
def Lns (x : VState) : Prop := x.f11.n ≤ 9223372036854775807 ∧ x.f21.n ≤ 9223372036854775807 ∧ x.f12.n ≤ 9223372036854775807

def bdE (ps : Array (Nat × Value)) : Sem Value := Instr.build 34 ps

theorem bdE_eq (ps : Array (Nat × Value)) : Instr.build 34 ps = bdE ps := rfl

def bdSg (ps : Array (Nat × Value)) : Sem Value := Instr.build 51 ps

theorem bdSg_eq (ps : Array (Nat × Value)) : Instr.build 51 ps = bdSg ps := rfl

attribute [local go_sem ↓] bdE_eq bdSg_eq

end Go.Proofs.YtlplmdhlelgihaaGreatDoor

namespace Go.Proofs.YtlplmdhlelgihaaGreatDoor

open Go.RowKit

set_option linter.unusedVariables false

set_option linter.unusedSimpArgs false

set_option maxRecDepth 20000

theorem eqnilR2 (w : World) (a : Option Addr) (l c : Nat) : (binOp .eql 32 (.slice a l c) (.slice none 0 0)).run Tryz.prog w = .ok (.bool a.isNone) w := by
  simp only [binOp]
  simp [run_equal_slice_nil w 32 24 a l c Tryz.underlying32]

set_option maxHeartbeats 1000000 in
theorem clR (a : Option Addr) (n c : Nat) (news : List Value) (w : World) (hs : Src w 32 a n c news) (hb : n * 32 ≤ 140737488351232) :
    Calls Tryz.prog 36 #[.slice a n c] w fun e w' => ∃ a' c', e = .returned (.slice a' n c') ∧ w'.ownsRow w.heap.size 24 32 (.slice a' n c') n news ∧ Below w.heap.size w w' := by
  cases a with
  | none =>
    obtain ⟨rfl, rfl⟩ := hs.1 rfl
    obtain rfl : news = [] := List.length_eq_zero_iff.1 (by rw [hs.2.1, Nat.zero_mul])
    have q := eqnilR2 w none 0 0
    go_enter Tryz.func36, Tryz.ntmps36
    go_wp2
    go_ret
    exact ⟨none, 0, rfl, World.ownsRow_nil _ _ _ _, Below.refl _ _⟩
  | some x =>
    obtain ⟨i, hi, hz0, hz1, hz2⟩ := info_out (P := Tryz.prog) (t := 24) (z := .agg (vs .u8 32 fun _ => 0)) (s := 32) (b := 32) (by kernel_rfl)
    have II := hid (And.intro hi (And.intro hz0 (And.intro hz1 hz2)))
    have HS := hid (hs.below ((Below.refl w.heap.size w).alloc (Nat.le_refl _) (.cells #[] 24)))
    have q := eqnilR2 w (some x) n c
    clear hs hi hz0 hz1 hz2
    go_enter Tryz.func36, Tryz.ntmps36
    go_wp2_with (at_builtin; refine app_src _ rfl _ _ 32 rfl w.heap.size 24 i (.agg (vs .u8 32 fun _ => 0)) 32 32 Tryz.underlying32 II.out.1 II.out.2.1 II.out.2.2.1 II.out.2.2.2 (by simp [Value.cells, vs_size]) (by omega) _ 0 [] rfl (World.ownsRow_made _ #[] 0 (Nat.le_refl _) (Nat.zero_le _) rfl) _ _ _ news rfl HS.out (by unfold maxLen; omega) (by omega) (by simp) ?_; intro v6 w6 ho hg; obtain ⟨a6, c6, rfl⟩ := owns_form ho)
    go_ret
    rw [Nat.zero_add, List.nil_append] at ho
    exact ⟨a6, c6, rfl, ho, below_grownS ((Below.refl _ _).alloc (Nat.le_refl _) _) (World.ownsRow_made (e := 24) (size := 32) _ #[] 0 (Nat.le_refl _) (Nat.zero_le _) rfl) (by simp) hg⟩

theorem eqnilE (w : World) (a : Option Addr) (l c : Nat) : (binOp .eql 35 (.slice a l c) (.slice none 0 0)).run Tryz.prog w = .ok (.bool a.isNone) w := by
  simp only [binOp]
  simp [run_equal_slice_nil w 35 34 a l c Tryz.underlying35]

set_option maxHeartbeats 1000000 in
theorem clE (a : Option Addr) (n c : Nat) (news : List Value) (w : World) (hs : Src w 65 a n c news) (hb : n * 72 ≤ 140737488351232) :
    Calls Tryz.prog 37 #[.slice a n c] w fun e w' => ∃ a' c', e = .returned (.slice a' n c') ∧ w'.ownsRow w.heap.size 34 65 (.slice a' n c') n news ∧ Below w.heap.size w w' := by
  cases a with
  | none =>
    obtain ⟨rfl, rfl⟩ := hs.1 rfl
    obtain rfl : news = [] := List.length_eq_zero_iff.1 (by rw [hs.2.1, Nat.zero_mul])
    have q := eqnilE w none 0 0
    go_enter Tryz.func37, Tryz.ntmps37
    go_wp2
    go_ret
    exact ⟨none, 0, rfl, World.ownsRow_nil _ _ _ _, Below.refl _ _⟩
  | some x =>
    obtain ⟨i, hi, hz0, hz1, hz2⟩ := info_out (P := Tryz.prog) (t := 34) (z := .agg (cel (sEth1 oEth1))) (s := 65) (b := 72) (by kernel_rfl)
    have II := hid (And.intro hi (And.intro hz0 (And.intro hz1 hz2)))
    have HS := hid (hs.below ((Below.refl w.heap.size w).alloc (Nat.le_refl _) (.cells #[] 34)))
    have q := eqnilE w (some x) n c
    clear hs hi hz0 hz1 hz2
    go_enter Tryz.func37, Tryz.ntmps37
    go_wp2_with (at_builtin; refine app_src _ rfl _ _ 35 rfl w.heap.size 34 i (.agg (cel (sEth1 oEth1))) 65 72 Tryz.underlying35 II.out.1 II.out.2.1 II.out.2.2.1 II.out.2.2.2 (by show (cel _).size = _; rw [cel_size]; rfl) (by omega) _ 0 [] rfl (World.ownsRow_made _ #[] 0 (Nat.le_refl _) (Nat.zero_le _) rfl) _ _ _ news rfl HS.out (by unfold maxLen; omega) (by omega) (by simp) ?_; intro v6 w6 ho hg; obtain ⟨a6, c6, rfl⟩ := owns_form ho)
    go_ret
    rw [Nat.zero_add, List.nil_append] at ho
    exact ⟨a6, c6, rfl, ho, below_grownS ((Below.refl _ _).alloc (Nat.le_refl _) _) (World.ownsRow_made (e := 34) (size := 65) _ #[] 0 (Nat.le_refl _) (Nat.zero_le _) rfl) (by simp) hg⟩

theorem eqnilV (w : World) (a : Option Addr) (l c : Nat) : (binOp .eql 36 (.slice a l c) (.slice none 0 0)).run Tryz.prog w = .ok (.bool a.isNone) w := by
  simp only [binOp]
  simp [run_equal_slice_nil w 36 62 a l c Tryz.underlying36]

set_option maxHeartbeats 1000000 in
theorem clV (a : Option Addr) (n c : Nat) (news : List Value) (w : World) (hs : Src w 86 a n c news) (hb : n * 128 ≤ 140737488351232) :
    Calls Tryz.prog 38 #[.slice a n c] w fun e w' => ∃ a' c', e = .returned (.slice a' n c') ∧ w'.ownsRow w.heap.size 62 86 (.slice a' n c') n news ∧ Below w.heap.size w w' := by
  cases a with
  | none =>
    obtain ⟨rfl, rfl⟩ := hs.1 rfl
    obtain rfl : news = [] := List.length_eq_zero_iff.1 (by rw [hs.2.1, Nat.zero_mul])
    have q := eqnilV w none 0 0
    go_enter Tryz.func38, Tryz.ntmps38
    go_wp2
    go_ret
    exact ⟨none, 0, rfl, World.ownsRow_nil _ _ _ _, Below.refl _ _⟩
  | some x =>
    obtain ⟨i, hi, hz0, hz1, hz2⟩ := info_out (P := Tryz.prog) (t := 62) (z := .agg (cel (sValidator oValidator))) (s := 86) (b := 128) (by kernel_rfl)
    have II := hid (And.intro hi (And.intro hz0 (And.intro hz1 hz2)))
    have HS := hid (hs.below ((Below.refl w.heap.size w).alloc (Nat.le_refl _) (.cells #[] 62)))
    have q := eqnilV w (some x) n c
    clear hs hi hz0 hz1 hz2
    go_enter Tryz.func38, Tryz.ntmps38
    go_wp2_with (at_builtin; refine app_src _ rfl _ _ 36 rfl w.heap.size 62 i (.agg (cel (sValidator oValidator))) 86 128 Tryz.underlying36 II.out.1 II.out.2.1 II.out.2.2.1 II.out.2.2.2 (by show (cel _).size = _; rw [cel_size]; rfl) (by omega) _ 0 [] rfl (World.ownsRow_made _ #[] 0 (Nat.le_refl _) (Nat.zero_le _) rfl) _ _ _ news rfl HS.out (by unfold maxLen; omega) (by omega) (by simp) ?_; intro v6 w6 ho hg; obtain ⟨a6, c6, rfl⟩ := owns_form ho)
    go_ret
    rw [Nat.zero_add, List.nil_append] at ho
    exact ⟨a6, c6, rfl, ho, below_grownS ((Below.refl _ _).alloc (Nat.le_refl _) _) (World.ownsRow_made (e := 62) (size := 86) _ #[] 0 (Nat.le_refl _) (Nat.zero_le _) rfl) (by simp) hg⟩

theorem eqnilU (w : World) (a : Option Addr) (l c : Nat) : (binOp .eql 37 (.slice a l c) (.slice none 0 0)).run Tryz.prog w = .ok (.bool a.isNone) w := by
  simp only [binOp]
  simp [run_equal_slice_nil w 37 22 a l c Tryz.underlying37]

set_option maxHeartbeats 1000000 in
theorem clU (a : Option Addr) (n c : Nat) (news : List Value) (w : World) (hs : Src w 1 a n c news) (hb : n * 8 ≤ 140737488351232) :
    Calls Tryz.prog 39 #[.slice a n c] w fun e w' => ∃ a' c', e = .returned (.slice a' n c') ∧ w'.ownsRow w.heap.size 22 1 (.slice a' n c') n news ∧ Below w.heap.size w w' := by
  cases a with
  | none =>
    obtain ⟨rfl, rfl⟩ := hs.1 rfl
    obtain rfl : news = [] := List.length_eq_zero_iff.1 (by rw [hs.2.1, Nat.zero_mul])
    have q := eqnilU w none 0 0
    go_enter Tryz.func39, Tryz.ntmps39
    go_wp2
    go_ret
    exact ⟨none, 0, rfl, World.ownsRow_nil _ _ _ _, Below.refl _ _⟩
  | some x =>
    obtain ⟨i, hi, hz0, hz1, hz2⟩ := info_out (P := Tryz.prog) (t := 22) (z := .int .u64 0) (s := 1) (b := 8) (by kernel_rfl)
    have II := hid (And.intro hi (And.intro hz0 (And.intro hz1 hz2)))
    have HS := hid (hs.below ((Below.refl w.heap.size w).alloc (Nat.le_refl _) (.cells #[] 22)))
    have q := eqnilU w (some x) n c
    clear hs hi hz0 hz1 hz2
    go_enter Tryz.func39, Tryz.ntmps39
    go_wp2_with (at_builtin; refine app_src _ rfl _ _ 37 rfl w.heap.size 22 i (.int .u64 0) 1 8 Tryz.underlying37 II.out.1 II.out.2.1 II.out.2.2.1 II.out.2.2.2 (by rfl) (by omega) _ 0 [] rfl (World.ownsRow_made _ #[] 0 (Nat.le_refl _) (Nat.zero_le _) rfl) _ _ _ news rfl HS.out (by unfold maxLen; omega) (by omega) (by simp) ?_; intro v6 w6 ho hg; obtain ⟨a6, c6, rfl⟩ := owns_form ho)
    go_ret
    rw [Nat.zero_add, List.nil_append] at ho
    exact ⟨a6, c6, rfl, ho, below_grownS ((Below.refl _ _).alloc (Nat.le_refl _) _) (World.ownsRow_made (e := 22) (size := 1) _ #[] 0 (Nat.le_refl _) (Nat.zero_le _) rfl) (by simp) hg⟩

theorem eqnilB (w : World) (a : Option Addr) (l c : Nat) : (binOp .eql 39 (.slice a l c) (.slice none 0 0)).run Tryz.prog w = .ok (.bool a.isNone) w := by
  simp only [binOp]
  simp [run_equal_slice_nil w 39 5 a l c Tryz.underlying39]

set_option maxHeartbeats 1000000 in
theorem clB (a : Option Addr) (n c : Nat) (news : List Value) (w : World) (hs : Src w 1 a n c news) (hb : n * 1 ≤ 140737488351232) :
    Calls Tryz.prog 40 #[.slice a n c] w fun e w' => ∃ a' c', e = .returned (.slice a' n c') ∧ w'.ownsRow w.heap.size 5 1 (.slice a' n c') n news ∧ Below w.heap.size w w' := by
  cases a with
  | none =>
    obtain ⟨rfl, rfl⟩ := hs.1 rfl
    obtain rfl : news = [] := List.length_eq_zero_iff.1 (by rw [hs.2.1, Nat.zero_mul])
    have q := eqnilB w none 0 0
    go_enter Tryz.func40, Tryz.ntmps40
    go_wp2
    go_ret
    exact ⟨none, 0, rfl, World.ownsRow_nil _ _ _ _, Below.refl _ _⟩
  | some x =>
    obtain ⟨i, hi, hz0, hz1, hz2⟩ := info_out (P := Tryz.prog) (t := 5) (z := .int .u8 0) (s := 1) (b := 1) (by kernel_rfl)
    have II := hid (And.intro hi (And.intro hz0 (And.intro hz1 hz2)))
    have HS := hid (hs.below ((Below.refl w.heap.size w).alloc (Nat.le_refl _) (.cells #[] 5)))
    have q := eqnilB w (some x) n c
    clear hs hi hz0 hz1 hz2
    go_enter Tryz.func40, Tryz.ntmps40
    go_wp2_with (at_builtin; refine app_src _ rfl _ _ 39 rfl w.heap.size 5 i (.int .u8 0) 1 1 Tryz.underlying39 II.out.1 II.out.2.1 II.out.2.2.1 II.out.2.2.2 (by rfl) (by omega) _ 0 [] rfl (World.ownsRow_made _ #[] 0 (Nat.le_refl _) (Nat.zero_le _) rfl) _ _ _ news rfl HS.out (by unfold maxLen; omega) (by omega) (by simp) ?_; intro v6 w6 ho hg; obtain ⟨a6, c6, rfl⟩ := owns_form ho)
    go_ret
    rw [Nat.zero_add, List.nil_append] at ho
    exact ⟨a6, c6, rfl, ho, below_grownS ((Below.refl _ _).alloc (Nat.le_refl _) _) (World.ownsRow_made (e := 5) (size := 1) _ #[] 0 (Nat.le_refl _) (Nat.zero_le _) rfl) (by simp) hg⟩

end Go.Proofs.YtlplmdhlelgihaaGreatDoor

namespace Go.Proofs.YtlplmdhlelgihaaGreatDoor

open Go.RowKit

set_option linter.unusedVariables false

set_option linter.unusedSimpArgs false

set_option maxRecDepth 20000

theorem own_ge {w : World} {B k n c : Nat} {t : TypeId} {ad : Addr} {xs : List Value} (h : w.ownsRow B t k (.slice (some ad) n c) n xs) : B ≤ ad.block ∧ ad.block < w.heap.size := h.lt ad.block rfl

attribute [local go_sem ↓] lvState_eq svState_eq

end Go.Proofs.YtlplmdhlelgihaaGreatDoor

namespace Go.Proofs.YtlplmdhlelgihaaGreatDoor

open Go.RowKit

set_option linter.unusedVariables false

set_option linter.unusedSimpArgs false

set_option maxRecDepth 20000

theorem CpdF.down {B C : Nat} {w : World} {X : VState} (h : CpdF B w X) (hC : C ≤ B) : CpdF C w X := ⟨own_down h.o7 hC, own_down h.o9 hC, own_down h.o11 hC, own_down h.o12 hC, own_down h.o15 hC, own_down h.o16 hC, own_down h.o21 hC, h.d15, h.d12⟩

/-- A state's copy laid into the state's own block. -/
theorem BF.own {w w1 w2 : World} {y : Nat} {C : Array Value} {X : VState} (hy : w.heap.size ≤ y) (h1 : Up w w1) (h2 : Up w1 w2) (r : w2.heap[y]? = some (.cells C 49)) (hc : CpdF w1.heap.size w2 X) (hz : C.size = (cel (sState X)).size) : BF w y (w2.setRow y (cel (sState X))) X ∧ CpdF w1.heap.size (w2.setRow y (cel (sState X))) X := by
  have hk : Kept y w2 (w2.setRow y (cel (sState X))) := (Kept.refl y w2).setRow _
  have hc2 : CpdF w1.heap.size (w2.setRow y (cel (sState X))) X := ⟨own_keptB hc.o7 hk (own_ne hc.o7 r (by decide)), own_keptB hc.o9 hk (own_ne hc.o9 r (by decide)), own_keptB hc.o11 hk (own_ne hc.o11 r (by decide)), own_keptB hc.o12 hk (own_ne hc.o12 r (by decide)), own_keptB hc.o15 hk (own_ne hc.o15 r (by decide)), own_keptB hc.o16 hk (own_ne hc.o16 r (by decide)), own_keptB hc.o21 hk (own_ne hc.o21 r (by decide)), hc.d15, hc.d12⟩
  exact ⟨⟨below_row (upT h1 h2) hy _, setRow_at r, hc2.down h1.size⟩, hc2⟩

attribute [local go_sem ↓] lvState_eq svState_eq bdState_eq lvEth1_eq ixEth1_eq bsE_eq svE_eq eqoE_eq

end Go.Proofs.YtlplmdhlelgihaaGreatDoor
