/-
  What the reference's Told answers; what the program's functions of layer 17 have to answer; the statements' own awake.
  A validator stored whole; who proposes does not hang on who leaves; what Leave and Slash answer.
  What slices.Clone answers for the lists of a state.
  A state copied list by list.
  What the program's Vote answers, and its Header of another slot's block.
-/
import Derived.Test.YtficlakgameglaaDoorQM
import Derived.Test.YtficlakgameglaaDoorQJ
import Derived.Test.YtficlakgameglaaDoorQD
import Derived.Test.YtficlakgameglaaDoorQR
import Derived.Test.YtficlakgameglaaDoorQK
import Derived.Test.YtficlakgameglaaDoorQG
import Derived.Test.YtficlakgameglaaDoorPkP
namespace Go.Proofs.YtficlakgameglaaDoor

open Go.RowKit

set_option linter.unusedVariables false

set_option linter.unusedSimpArgs false

set_option maxRecDepth 20000

attribute [local go_sem ↓] lvState_eq svState_eq bdState_eq

/-- How long a state's lists may be. -/
def Lns (x : VState) : Prop := x.f11.n ≤ 9223372036854775807 ∧ x.f21.n ≤ 9223372036854775807 ∧ x.f12.n ≤ 9223372036854775807

def bdE (ps : Array (Nat × Value)) : Sem Value := Instr.build 34 ps

theorem bdE_eq (ps : Array (Nat × Value)) : Instr.build 34 ps = bdE ps := rfl

def bdSg (ps : Array (Nat × Value)) : Sem Value := Instr.build 55 ps

theorem bdSg_eq (ps : Array (Nat × Value)) : Instr.build 55 ps = bdSg ps := rfl

theorem right_z : rightB oState = true := by kernel_rfl

theorem lns_z : Lns oState := ⟨Nat.zero_le _, Nat.zero_le _, Nat.zero_le _⟩

attribute [local go_sem ↓] bdE_eq bdSg_eq

end Go.Proofs.YtficlakgameglaaDoor

namespace Go.Proofs.YtficlakgameglaaDoor

open Go.RowKit

set_option linter.unusedVariables false

set_option linter.unusedSimpArgs false

set_option maxRecDepth 20000

theorem valS_at (X : VState) (i : Nat) (f : VValidator → VValidator) : (valS X i f).f11.z i = f (X.f11.z i) := if_pos rfl

theorem valS_off (X : VState) (i j : Nat) (f : VValidator → VValidator) (h : j ≠ i) : (valS X i f).f11.z j = X.f11.z j := if_neg h

/-- What a state has to be, that somebody leaves it. -/
structure Rg (x : VState) : Prop where
  ok : OkState x
  nb : x.f11.n ≤ 65536
  ln : x.f12.n = x.f11.n
  ef : ∀ j, j < x.f11.n → 0 ≤ (x.f11.z j).f2 ∧ (x.f11.z j).f2 ≤ 32000000000
  sl : x.f2 < 1099511627776

theorem Rg.lk {x : VState} {w : World} (h : Rg x) (hw : InW w x) : Lk w x := ⟨hw.i11, h.nb, h.ef, h.ok.o2.1, h.sl⟩

theorem RtO.rg {x : VState} (h : RtO x) (ho : OkState x) : Rg x := by
  refine ⟨ho, h.c0, h.c1, fun j hj => ?_, h.c7⟩
  have := h.cv j hj
  unfold vldB at this
  simp only [Bool.and_eq_true, decide_eq_true_eq] at this
  exact ⟨(ho.o11 j hj).2.2.1.1, this.2.1⟩

theorem Rg.sim {x X : VState} (h : Rg x) (s : SimF x X) : Rg X := ⟨okF_sim s h.ok, by rw [s.l11]; exact h.nb, by rw [s.l12, s.l11]; exact h.ln, by rw [s.l11, s.z11]; exact h.ef, by rw [s.e2]; exact h.sl⟩

theorem eff_valS (X : VState) (i : Nat) (f : VValidator → VValidator) (hf : (f (X.f11.z i)).f2 = (X.f11.z i).f2) (j : Nat) : ((valS X i f).f11.z j).f2 = (X.f11.z j).f2 := by
  by_cases h : j = i
  · subst h; rw [valS_at]; exact hf
  · rw [valS_off _ _ _ _ h]

theorem eff_lvS (X : VState) (i j : Nat) : ((lvS X i).f11.z j).f2 = (X.f11.z j).f2 := by
  unfold lvS
  split
  · exact eff_valS X i (lvV (lvX X)) rfl j
  · rfl

theorem eff_slA (X : VState) (i j : Nat) : ((slA X i).f11.z j).f2 = (X.f11.z j).f2 := by
  unfold slA
  rw [eff_valS _ _ _ rfl, eff_lvS]

theorem lvS_o (X : VState) (i : Nat) : (lvS X i).f2 = X.f2 ∧ (lvS X i).f13 = X.f13 ∧ (lvS X i).f11.n = X.f11.n ∧ (lvS X i).f12 = X.f12 ∧ (lvS X i).f14 = X.f14 ∧ (lvS X i).f11.a = X.f11.a ∧ (lvS X i).f11.c = X.f11.c := by
  unfold lvS
  split <;> exact ⟨rfl, rfl, rfl, rfl, rfl, rfl, rfl⟩

theorem slA_o (X : VState) (i : Nat) : (slA X i).f2 = X.f2 ∧ (slA X i).f13 = X.f13 ∧ (slA X i).f11.n = X.f11.n ∧ (slA X i).f12 = X.f12 ∧ (slA X i).f14 = X.f14 ∧ (slA X i).f11.a = X.f11.a ∧ (slA X i).f11.c = X.f11.c := lvS_o X i

theorem Rg.lv {X : VState} (h : Rg X) (i : Nat) : Rg (lvS X i) := by
  obtain ⟨a, b, c, d, e, f, g⟩ := lvS_o X i
  exact ⟨ok_lv h.ok h.sl i, by rw [c]; exact h.nb, by rw [c, d]; exact h.ln, fun j hj => by rw [eff_lvS]; exact h.ef j (by rw [← c]; exact hj), by rw [a]; exact h.sl⟩

theorem Rg.a {X : VState} (h : Rg X) (i : Nat) : Rg (slA X i) := by
  obtain ⟨a, b, c, d, e, f, g⟩ := slA_o X i
  exact ⟨ok_slA h.ok h.sl i, by rw [c]; exact h.nb, by rw [c, d]; exact h.ln, fun j hj => by rw [eff_slA]; exact h.ef j (by rw [← c]; exact hj), by rw [a]; exact h.sl⟩

theorem Rg.b {X : VState} (h : Rg X) (i : Nat) : Rg (slB X i) := ⟨ok_14 (h.a i).ok _ _ (w64_bd _), (h.a i).nb, (h.a i).ln, (h.a i).ef, (h.a i).sl⟩

theorem Rg.bal {X : VState} (h : Rg X) (i : Nat) (v : Int) (hv : 0 ≤ v ∧ v < 18446744073709551616) : Rg (balS X i v) := ⟨ok_bal h.ok i v hv, h.nb, h.ln, h.ef, h.sl⟩

theorem Rg.c {X : VState} (h : Rg X) (i : Nat) (hi : i < X.f11.n) : Rg (slC X i) := by
  have hb := h.b i
  have hi2 : i < (slB X i).f12.n := by
    have e1 := hb.ln
    have e2 : (slB X i).f11.n = X.f11.n := (slA_o X i).2.2.1
    omega
  have e := h.ef i hi
  exact hb.bal i _ (les_bd (hb.ok.o12 i hi2).1 (hb.ok.o12 i hi2).2 (by unfold effS; omega))

theorem pr_in {X : VState} (h0 : prE X = 0) : ∃ p : Nat, prV X = (p : Int) ∧ p < X.f11.n := by
  rcases dw_one X.f11.z (acE X (X.f2 / 4)) (prS X) 1 with ⟨a, b, c⟩ | ⟨a, b⟩
  · have h6 := c _ (getD_mem _ 0 (by rw [b]; omega))
    obtain ⟨q0, q1, _⟩ := (acL_mem _ _ _ _).1 h6
    refine ⟨(prV X).toNat, ?_, ?_⟩
    · have : 0 ≤ prV X := q0
      omega
    · have : prV X < (X.f11.n : Int) := q1
      have : 0 ≤ prV X := q0
      omega
  · exfalso
    have : prE X = 7 := a
    omega

/-- What is slashed, with a proposer that is told. -/
def sloS (X : VState) (i p : Nat) : VState := balS (slC X i) p (w64 ((slC X i).f12.z p + effS X i / 512))

theorem Rg.o {X : VState} (h : Rg X) (i p : Nat) (hi : i < X.f11.n) : Rg (sloS X i p) := (h.c i hi).bal p _ (w64_bd _)

theorem Rg.s {X : VState} (h : Rg X) (i : Nat) (hi : i < X.f11.n) : Rg (slS X i) := by
  unfold slS
  split
  · exact (h.c i hi).bal _ _ (w64_bd _)
  · exact h.c i hi

/-- How long a state's lists are that is right. -/
theorem right_lns {x : VState} (h : rightB x = true) : Lns x := by
  have := right_small h
  unfold Lns
  omega

end Go.Proofs.YtficlakgameglaaDoor

namespace Go.Proofs.YtficlakgameglaaDoor

open Go.RowKit

set_option linter.unusedVariables false

set_option linter.unusedSimpArgs false

set_option maxRecDepth 20000

theorem eqnilR2 (w : World) (a : Option Addr) (l c : Nat) : (binOp .eql 32 (.slice a l c) (.slice none 0 0)).run Tryd.prog w = .ok (.bool a.isNone) w := by
  simp only [binOp]
  simp [run_equal_slice_nil w 32 24 a l c Tryd.underlying32]

set_option maxHeartbeats 1000000 in
theorem clR (a : Option Addr) (n c : Nat) (news : List Value) (w : World) (hs : Src w 32 a n c news) (hb : n * 32 ≤ 140737488351232) :
    Calls Tryd.prog 69 #[.slice a n c] w fun e w' => ∃ a' c', e = .returned (.slice a' n c') ∧ w'.ownsRow w.heap.size 24 32 (.slice a' n c') n news ∧ Below w.heap.size w w' := by
  cases a with
  | none =>
    obtain ⟨rfl, rfl⟩ := hs.1 rfl
    obtain rfl : news = [] := List.length_eq_zero_iff.1 (by rw [hs.2.1, Nat.zero_mul])
    have q := eqnilR2 w none 0 0
    go_enter Tryd.func69, Tryd.ntmps69
    go_wp2
    go_ret
    exact ⟨none, 0, rfl, World.ownsRow_nil _ _ _ _, Below.refl _ _⟩
  | some x =>
    obtain ⟨i, hi, hz0, hz1, hz2⟩ := info_out (P := Tryd.prog) (t := 24) (z := .agg (vs .u8 32 fun _ => 0)) (s := 32) (b := 32) (by kernel_rfl)
    have II := hid (And.intro hi (And.intro hz0 (And.intro hz1 hz2)))
    have HS := hid (hs.below ((Below.refl w.heap.size w).alloc (Nat.le_refl _) (.cells #[] 24)))
    have q := eqnilR2 w (some x) n c
    clear hs hi hz0 hz1 hz2
    go_enter Tryd.func69, Tryd.ntmps69
    go_wp2_with (at_builtin; refine app_src _ rfl _ _ 32 rfl w.heap.size 24 i (.agg (vs .u8 32 fun _ => 0)) 32 32 Tryd.underlying32 II.out.1 II.out.2.1 II.out.2.2.1 II.out.2.2.2 (by simp [Value.cells, vs_size]) (by omega) _ 0 [] rfl (World.ownsRow_made _ #[] 0 (Nat.le_refl _) (Nat.zero_le _) rfl) _ _ _ news rfl HS.out (by unfold maxLen; omega) (by omega) (by simp) ?_; intro v6 w6 ho hg; obtain ⟨a6, c6, rfl⟩ := owns_form ho)
    go_ret
    rw [Nat.zero_add, List.nil_append] at ho
    exact ⟨a6, c6, rfl, ho, below_grownS ((Below.refl _ _).alloc (Nat.le_refl _) _) (World.ownsRow_made (e := 24) (size := 32) _ #[] 0 (Nat.le_refl _) (Nat.zero_le _) rfl) (by simp) hg⟩

theorem eqnilE (w : World) (a : Option Addr) (l c : Nat) : (binOp .eql 35 (.slice a l c) (.slice none 0 0)).run Tryd.prog w = .ok (.bool a.isNone) w := by
  simp only [binOp]
  simp [run_equal_slice_nil w 35 34 a l c Tryd.underlying35]

set_option maxHeartbeats 1000000 in
theorem clE (a : Option Addr) (n c : Nat) (news : List Value) (w : World) (hs : Src w 65 a n c news) (hb : n * 72 ≤ 140737488351232) :
    Calls Tryd.prog 70 #[.slice a n c] w fun e w' => ∃ a' c', e = .returned (.slice a' n c') ∧ w'.ownsRow w.heap.size 34 65 (.slice a' n c') n news ∧ Below w.heap.size w w' := by
  cases a with
  | none =>
    obtain ⟨rfl, rfl⟩ := hs.1 rfl
    obtain rfl : news = [] := List.length_eq_zero_iff.1 (by rw [hs.2.1, Nat.zero_mul])
    have q := eqnilE w none 0 0
    go_enter Tryd.func70, Tryd.ntmps70
    go_wp2
    go_ret
    exact ⟨none, 0, rfl, World.ownsRow_nil _ _ _ _, Below.refl _ _⟩
  | some x =>
    obtain ⟨i, hi, hz0, hz1, hz2⟩ := info_out (P := Tryd.prog) (t := 34) (z := .agg (cel (sEth1 oEth1))) (s := 65) (b := 72) (by kernel_rfl)
    have II := hid (And.intro hi (And.intro hz0 (And.intro hz1 hz2)))
    have HS := hid (hs.below ((Below.refl w.heap.size w).alloc (Nat.le_refl _) (.cells #[] 34)))
    have q := eqnilE w (some x) n c
    clear hs hi hz0 hz1 hz2
    go_enter Tryd.func70, Tryd.ntmps70
    go_wp2_with (at_builtin; refine app_src _ rfl _ _ 35 rfl w.heap.size 34 i (.agg (cel (sEth1 oEth1))) 65 72 Tryd.underlying35 II.out.1 II.out.2.1 II.out.2.2.1 II.out.2.2.2 (by show (cel _).size = _; rw [cel_size]; rfl) (by omega) _ 0 [] rfl (World.ownsRow_made _ #[] 0 (Nat.le_refl _) (Nat.zero_le _) rfl) _ _ _ news rfl HS.out (by unfold maxLen; omega) (by omega) (by simp) ?_; intro v6 w6 ho hg; obtain ⟨a6, c6, rfl⟩ := owns_form ho)
    go_ret
    rw [Nat.zero_add, List.nil_append] at ho
    exact ⟨a6, c6, rfl, ho, below_grownS ((Below.refl _ _).alloc (Nat.le_refl _) _) (World.ownsRow_made (e := 34) (size := 65) _ #[] 0 (Nat.le_refl _) (Nat.zero_le _) rfl) (by simp) hg⟩

theorem eqnilV (w : World) (a : Option Addr) (l c : Nat) : (binOp .eql 36 (.slice a l c) (.slice none 0 0)).run Tryd.prog w = .ok (.bool a.isNone) w := by
  simp only [binOp]
  simp [run_equal_slice_nil w 36 82 a l c Tryd.underlying36]

set_option maxHeartbeats 1000000 in
theorem clV (a : Option Addr) (n c : Nat) (news : List Value) (w : World) (hs : Src w 86 a n c news) (hb : n * 128 ≤ 140737488351232) :
    Calls Tryd.prog 71 #[.slice a n c] w fun e w' => ∃ a' c', e = .returned (.slice a' n c') ∧ w'.ownsRow w.heap.size 82 86 (.slice a' n c') n news ∧ Below w.heap.size w w' := by
  cases a with
  | none =>
    obtain ⟨rfl, rfl⟩ := hs.1 rfl
    obtain rfl : news = [] := List.length_eq_zero_iff.1 (by rw [hs.2.1, Nat.zero_mul])
    have q := eqnilV w none 0 0
    go_enter Tryd.func71, Tryd.ntmps71
    go_wp2
    go_ret
    exact ⟨none, 0, rfl, World.ownsRow_nil _ _ _ _, Below.refl _ _⟩
  | some x =>
    obtain ⟨i, hi, hz0, hz1, hz2⟩ := info_out (P := Tryd.prog) (t := 82) (z := .agg (cel (sValidator oValidator))) (s := 86) (b := 128) (by kernel_rfl)
    have II := hid (And.intro hi (And.intro hz0 (And.intro hz1 hz2)))
    have HS := hid (hs.below ((Below.refl w.heap.size w).alloc (Nat.le_refl _) (.cells #[] 82)))
    have q := eqnilV w (some x) n c
    clear hs hi hz0 hz1 hz2
    go_enter Tryd.func71, Tryd.ntmps71
    go_wp2_with (at_builtin; refine app_src _ rfl _ _ 36 rfl w.heap.size 82 i (.agg (cel (sValidator oValidator))) 86 128 Tryd.underlying36 II.out.1 II.out.2.1 II.out.2.2.1 II.out.2.2.2 (by show (cel _).size = _; rw [cel_size]; rfl) (by omega) _ 0 [] rfl (World.ownsRow_made _ #[] 0 (Nat.le_refl _) (Nat.zero_le _) rfl) _ _ _ news rfl HS.out (by unfold maxLen; omega) (by omega) (by simp) ?_; intro v6 w6 ho hg; obtain ⟨a6, c6, rfl⟩ := owns_form ho)
    go_ret
    rw [Nat.zero_add, List.nil_append] at ho
    exact ⟨a6, c6, rfl, ho, below_grownS ((Below.refl _ _).alloc (Nat.le_refl _) _) (World.ownsRow_made (e := 82) (size := 86) _ #[] 0 (Nat.le_refl _) (Nat.zero_le _) rfl) (by simp) hg⟩

theorem eqnilU (w : World) (a : Option Addr) (l c : Nat) : (binOp .eql 37 (.slice a l c) (.slice none 0 0)).run Tryd.prog w = .ok (.bool a.isNone) w := by
  simp only [binOp]
  simp [run_equal_slice_nil w 37 22 a l c Tryd.underlying37]

set_option maxHeartbeats 1000000 in
theorem clU (a : Option Addr) (n c : Nat) (news : List Value) (w : World) (hs : Src w 1 a n c news) (hb : n * 8 ≤ 140737488351232) :
    Calls Tryd.prog 72 #[.slice a n c] w fun e w' => ∃ a' c', e = .returned (.slice a' n c') ∧ w'.ownsRow w.heap.size 22 1 (.slice a' n c') n news ∧ Below w.heap.size w w' := by
  cases a with
  | none =>
    obtain ⟨rfl, rfl⟩ := hs.1 rfl
    obtain rfl : news = [] := List.length_eq_zero_iff.1 (by rw [hs.2.1, Nat.zero_mul])
    have q := eqnilU w none 0 0
    go_enter Tryd.func72, Tryd.ntmps72
    go_wp2
    go_ret
    exact ⟨none, 0, rfl, World.ownsRow_nil _ _ _ _, Below.refl _ _⟩
  | some x =>
    obtain ⟨i, hi, hz0, hz1, hz2⟩ := info_out (P := Tryd.prog) (t := 22) (z := .int .u64 0) (s := 1) (b := 8) (by kernel_rfl)
    have II := hid (And.intro hi (And.intro hz0 (And.intro hz1 hz2)))
    have HS := hid (hs.below ((Below.refl w.heap.size w).alloc (Nat.le_refl _) (.cells #[] 22)))
    have q := eqnilU w (some x) n c
    clear hs hi hz0 hz1 hz2
    go_enter Tryd.func72, Tryd.ntmps72
    go_wp2_with (at_builtin; refine app_src _ rfl _ _ 37 rfl w.heap.size 22 i (.int .u64 0) 1 8 Tryd.underlying37 II.out.1 II.out.2.1 II.out.2.2.1 II.out.2.2.2 (by rfl) (by omega) _ 0 [] rfl (World.ownsRow_made _ #[] 0 (Nat.le_refl _) (Nat.zero_le _) rfl) _ _ _ news rfl HS.out (by unfold maxLen; omega) (by omega) (by simp) ?_; intro v6 w6 ho hg; obtain ⟨a6, c6, rfl⟩ := owns_form ho)
    go_ret
    rw [Nat.zero_add, List.nil_append] at ho
    exact ⟨a6, c6, rfl, ho, below_grownS ((Below.refl _ _).alloc (Nat.le_refl _) _) (World.ownsRow_made (e := 22) (size := 1) _ #[] 0 (Nat.le_refl _) (Nat.zero_le _) rfl) (by simp) hg⟩

theorem eqnilB (w : World) (a : Option Addr) (l c : Nat) : (binOp .eql 39 (.slice a l c) (.slice none 0 0)).run Tryd.prog w = .ok (.bool a.isNone) w := by
  simp only [binOp]
  simp [run_equal_slice_nil w 39 5 a l c Tryd.underlying39]

set_option maxHeartbeats 1000000 in
theorem clB (a : Option Addr) (n c : Nat) (news : List Value) (w : World) (hs : Src w 1 a n c news) (hb : n * 1 ≤ 140737488351232) :
    Calls Tryd.prog 73 #[.slice a n c] w fun e w' => ∃ a' c', e = .returned (.slice a' n c') ∧ w'.ownsRow w.heap.size 5 1 (.slice a' n c') n news ∧ Below w.heap.size w w' := by
  cases a with
  | none =>
    obtain ⟨rfl, rfl⟩ := hs.1 rfl
    obtain rfl : news = [] := List.length_eq_zero_iff.1 (by rw [hs.2.1, Nat.zero_mul])
    have q := eqnilB w none 0 0
    go_enter Tryd.func73, Tryd.ntmps73
    go_wp2
    go_ret
    exact ⟨none, 0, rfl, World.ownsRow_nil _ _ _ _, Below.refl _ _⟩
  | some x =>
    obtain ⟨i, hi, hz0, hz1, hz2⟩ := info_out (P := Tryd.prog) (t := 5) (z := .int .u8 0) (s := 1) (b := 1) (by kernel_rfl)
    have II := hid (And.intro hi (And.intro hz0 (And.intro hz1 hz2)))
    have HS := hid (hs.below ((Below.refl w.heap.size w).alloc (Nat.le_refl _) (.cells #[] 5)))
    have q := eqnilB w (some x) n c
    clear hs hi hz0 hz1 hz2
    go_enter Tryd.func73, Tryd.ntmps73
    go_wp2_with (at_builtin; refine app_src _ rfl _ _ 39 rfl w.heap.size 5 i (.int .u8 0) 1 1 Tryd.underlying39 II.out.1 II.out.2.1 II.out.2.2.1 II.out.2.2.2 (by rfl) (by omega) _ 0 [] rfl (World.ownsRow_made _ #[] 0 (Nat.le_refl _) (Nat.zero_le _) rfl) _ _ _ news rfl HS.out (by unfold maxLen; omega) (by omega) (by simp) ?_; intro v6 w6 ho hg; obtain ⟨a6, c6, rfl⟩ := owns_form ho)
    go_ret
    rw [Nat.zero_add, List.nil_append] at ho
    exact ⟨a6, c6, rfl, ho, below_grownS ((Below.refl _ _).alloc (Nat.le_refl _) _) (World.ownsRow_made (e := 5) (size := 1) _ #[] 0 (Nat.le_refl _) (Nat.zero_le _) rfl) (by simp) hg⟩

end Go.Proofs.YtficlakgameglaaDoor

namespace Go.Proofs.YtficlakgameglaaDoor

open Go.RowKit

set_option linter.unusedVariables false

set_option linter.unusedSimpArgs false

set_option maxRecDepth 20000

theorem own_ge {w : World} {B k n c : Nat} {t : TypeId} {ad : Addr} {xs : List Value} (h : w.ownsRow B t k (.slice (some ad) n c) n xs) : B ≤ ad.block ∧ ad.block < w.heap.size := h.lt ad.block rfl

attribute [local go_sem ↓] lvState_eq svState_eq

end Go.Proofs.YtficlakgameglaaDoor

namespace Go.Proofs.YtficlakgameglaaDoor

open Go.RowKit

set_option linter.unusedVariables false

set_option linter.unusedSimpArgs false

set_option maxRecDepth 20000

theorem CpdF.down {B C : Nat} {w : World} {X : VState} (h : CpdF B w X) (hC : C ≤ B) : CpdF C w X := ⟨own_down h.o7 hC, own_down h.o9 hC, own_down h.o11 hC, own_down h.o12 hC, own_down h.o15 hC, own_down h.o16 hC, own_down h.o21 hC, h.d15, h.d12⟩

/-- A state's copy laid into the state's own block. -/
theorem BF.own {w w1 w2 : World} {y : Nat} {C : Array Value} {X : VState} (hy : w.heap.size ≤ y) (h1 : Up w w1) (h2 : Up w1 w2) (r : w2.heap[y]? = some (.cells C 49)) (hc : CpdF w1.heap.size w2 X) (hz : C.size = (cel (sState X)).size) : BF w y (w2.setRow y (cel (sState X))) X ∧ CpdF w1.heap.size (w2.setRow y (cel (sState X))) X := by
  have hk : Kept y w2 (w2.setRow y (cel (sState X))) := (Kept.refl y w2).setRow _
  have hc2 : CpdF w1.heap.size (w2.setRow y (cel (sState X))) X := ⟨own_keptB hc.o7 hk (own_ne hc.o7 r (by decide)), own_keptB hc.o9 hk (own_ne hc.o9 r (by decide)), own_keptB hc.o11 hk (own_ne hc.o11 r (by decide)), own_keptB hc.o12 hk (own_ne hc.o12 r (by decide)), own_keptB hc.o15 hk (own_ne hc.o15 r (by decide)), own_keptB hc.o16 hk (own_ne hc.o16 r (by decide)), own_keptB hc.o21 hk (own_ne hc.o21 r (by decide)), hc.d15, hc.d12⟩
  exact ⟨⟨below_row (upT h1 h2) hy _, setRow_at r, hc2.down h1.size⟩, hc2⟩

attribute [local go_sem ↓] lvState_eq svState_eq bdState_eq lvEth1_eq ixEth1_eq bsE_eq svE_eq eqoE_eq

end Go.Proofs.YtficlakgameglaaDoor
