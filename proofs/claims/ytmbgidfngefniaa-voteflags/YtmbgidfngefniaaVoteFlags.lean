/-
  Proved: VoteFlags answers true at every input. No condition, and leaves its arguments as they were.
-/
import Derived.Test.YtmbgidfngefniaaRows
import Derived.Test.YtmbgidfngefniaaVtE
import Derived.Test.YtmbgidfngefniaaStP
import Derived.Test.YtmbgidfngefniaaTyData
import Derived.Test.YtmbgidfngefniaaStI
import Derived.WalkKit
import Derived.ProofKit
import Derived.OpenShut
import Derived.ShutString
import Derived.ChangeOld
import Derived.Below
import Derived.SizedLaws
namespace Go.Proofs.Ytmbgidfngefniaa.voteFlags
open Go.ChangeShapes Go.WideShapes Go.ChangeAt Go.RowKit
set_option linter.unusedVariables false

theorem own : ownKnob Try.prog.godebug = none := by kernel_rfl
theorem laidOut : laidOutB Try.prog = true := by kernel_rfl

theorem walk (w : World) (a0 : VState) (w0 : OkState a0 ∧ InW w a0 ∧ NilW a0 ∧ (a0.f11.n ≤ 9223372036854775807 ∧ a0.f21.n ≤ 9223372036854775807 ∧ a0.f12.n ≤ 9223372036854775807)) (a1 : VData) (w1 : OkData a1) :
    Calls Try.prog 3 #[.agg (cel (sState a0)), .agg (cel (sData a1))] w fun e w' => e = .returned (.bool true) ∧ Below w.heap.size w w' := by
  exact voteFlags_law flags_prog a0 a1 w w0.1 w0.2.1 w0.2.2.2 w1

set_option maxRecDepth 100000 in
theorem contract (H : Type) (enc : TypeId × Value → H) (W : World) (base : Nat) (args : Array Value) (ds gs : List (DataW H)) (before : List MemPlace)
    (hval : ∀ (j : Nat) t v, Try.f3.params[j]? = some t → args[j]? = some v → Value.okWide Try.prog W .any base t v)
    (hW : DataW.Whole enc Try.prog Try.f3.params.toList Rows.voteFlagsSpec.vars false W args.toList ds gs before)
    (hsz : (DataW.weightsEach Try.prog (Try.f3.params.toList ++ Rows.voteFlagsSpec.plain.varTypes Try.prog) (ds ++ gs)).all (· ≤ reachBytes) = true) :
    Calls Try.prog 3 args W fun e W' => ∃ v, e = .returned v ∧ Rows.voteFlagsSpec.post enc Try.prog Try.f3 false true false false W args v W' := by
  have hW' := hW
  obtain ⟨p, q, hA0, hV, rfl, hfz, hnd⟩ := hW
  have hA : DataW.TrodAll enc Try.prog W 0 (fun _ => true) true Try.f3.params.toList args.toList ds p := hA0
  rw [Try.params3] at hA hval hsz
  obtain ⟨v0, vs0, d0, ds0, p0, q0, hargs, rfl, rfl, h0, r0⟩ := trodAll_cons hA
  obtain ⟨v1, vs1, d1, ds1, p1, q1, rfl, rfl, rfl, h1, r1⟩ := trodAll_cons r0
  obtain ⟨rfl, rfl, rfl⟩ := trodAll_nil r1
  obtain rfl : args = #[v0, v1] := by cases args; simp_all
  obtain ⟨rfl, rfl⟩ := trodVars_none hV
  have k0 := h0
  have lt0 : ∀ x ∈ p0, x.block < W.heap.size := by obtain ⟨m, hm⟩ := k0; exact DataW.trod_lt m _ _ _ hm
  obtain ⟨a0, rfl, w0⟩ := open_State (hval 0 49 v0 rfl rfl) h0
  have k1 := h1
  have lt1 : ∀ x ∈ p1, x.block < W.heap.size := by obtain ⟨m, hm⟩ := k1; exact DataW.trod_lt m _ _ _ hm
  obtain ⟨a1, rfl, w1⟩ := open_Data (hval 1 51 v1 rfl rfl) h1
  clear hA0
  refine (walk W a0 w0 a1 w1).mono fun e W' ⟨he, bel⟩ => ?_
  subst he
  exact ⟨_, rfl, _, _, _, [], _, [], hW', trodAll_mk1 (shut_bool Try.underlying4 _), (trodAll_cons_mk (Below.trod laidOut (by kernel_rfl) (of_decide_eq_true (by kernel_rfl)) k0 bel lt0) (trodAll_cons_mk (Below.trod laidOut (by kernel_rfl) (of_decide_eq_true (by kernel_rfl)) k1 bel lt1) trodAll_mk0)), rfl, bel.frame _, fun h => by cases h⟩

/-- A row of cells beside a row of types. -/
def rowB (P : Program) (w : World) : List TypeId → List Value → Bool
  | [], [] => true
  | u :: us, v :: vs => Cell.okWideB P w u v && rowB P w us vs
  | _, _ => false

theorem rowB_ok {P : Program} {w : World} {base : Nat} : ∀ (us : List TypeId) (vs : List Value), rowB P w us vs = true → vs.length = us.length ∧ ∀ (i : Nat) v, vs[i]? = some v → ∃ u, us[i]? = some u ∧ Cell.okWide P w .any base u v
  | [], [], _ => ⟨rfl, fun i v h => by simp at h⟩
  | [], _ :: _, h => by cases h
  | _ :: _, [], h => by cases h
  | u :: us, v :: vs, h => by
    unfold rowB at h
    rw [Bool.and_eq_true] at h
    obtain ⟨h1, h2⟩ := rowB_ok us vs h.2
    refine ⟨by simp [h1], fun i x hx => ?_⟩
    cases i with
    | zero => simp at hx; subst hx; exact ⟨u, rfl, Cell.okWide_of_okWideB h.1⟩
    | succ i => simp at hx; simpa using h2 i x hx

theorem wide_struct {P : Program} {w : World} {base : Nat} {t : TypeId} {fs : Array Field} {cs : Array Value} (hu : P.underlying t = some (.struct fs)) (hs : cs.size = P.cellsOf t)
    (h : (match P.cellTypes P.depth t with | some ts => rowB P w ts cs.toList | none => false) = true) : Value.okWide P w .any base t (.agg cs) := by
  unfold Value.okWide
  rw [hu]
  refine ⟨cs, rfl, hs, ?_⟩
  split at h
  · rename_i ts hts
    obtain ⟨h1, h2⟩ := rowB_ok (base := base) _ _ h
    rw [Array.length_toList] at h1
    refine ⟨ts, hts, ⟨1, by rw [h1, Nat.one_mul]⟩, fun i v hv => ?_⟩
    have hi : i < cs.size := (Array.getElem?_eq_some_iff.1 hv).1
    rw [Nat.mod_eq_of_lt (by omega)]
    exact h2 i v (by rw [Array.getElem?_toList]; exact hv)
  · cases h

def witA : Array Value := #[.agg (cel (sState oState)), .agg #[.int .u64 0, .int .u64 0, .int .u8 0, .int .u8 0, .int .u8 0, .int .u8 0, .int .u8 0, .int .u8 0, .int .u8 0, .int .u8 0, .int .u8 0, .int .u8 0, .int .u8 0, .int .u8 0, .int .u8 0, .int .u8 0, .int .u8 0, .int .u8 0, .int .u8 0, .int .u8 0, .int .u8 0, .int .u8 0, .int .u8 0, .int .u8 0, .int .u8 0, .int .u8 0, .int .u8 0, .int .u8 0, .int .u8 0, .int .u8 0, .int .u8 0, .int .u8 0, .int .u8 0, .int .u8 0, .int .u64 0, .int .u8 0, .int .u8 0, .int .u8 0, .int .u8 0, .int .u8 0, .int .u8 0, .int .u8 0, .int .u8 0, .int .u8 0, .int .u8 0, .int .u8 0, .int .u8 0, .int .u8 0, .int .u8 0, .int .u8 0, .int .u8 0, .int .u8 0, .int .u8 0, .int .u8 0, .int .u8 0, .int .u8 0, .int .u8 0, .int .u8 0, .int .u8 0, .int .u8 0, .int .u8 0, .int .u8 0, .int .u8 0, .int .u8 0, .int .u8 0, .int .u8 0, .int .u8 0, .int .u64 0, .int .u8 0, .int .u8 0, .int .u8 0, .int .u8 0, .int .u8 0, .int .u8 0, .int .u8 0, .int .u8 0, .int .u8 0, .int .u8 0, .int .u8 0, .int .u8 0, .int .u8 0, .int .u8 0, .int .u8 0, .int .u8 0, .int .u8 0, .int .u8 0, .int .u8 0, .int .u8 0, .int .u8 0, .int .u8 0, .int .u8 0, .int .u8 0, .int .u8 0, .int .u8 0, .int .u8 0, .int .u8 0, .int .u8 0, .int .u8 0, .int .u8 0, .int .u8 0]]

set_option maxRecDepth 100000 in
theorem witIn (os : Os) (base : Nat) : Input.okWide Try.prog (World.plainHolding Try.prog os ⟨#[], witA, []⟩) .any base 3 ⟨#[], witA, []⟩ := by
  refine ⟨fun o ho => by simp at ho, fun o ho => by simp at ho, by kernel_rfl, Try.f3, Try.func3, by kernel_rfl, by kernel_rfl, by kernel_rfl, by kernel_rfl, fun j t v hj hv => ?_⟩
  rw [Try.params3] at hj
  match j with
  | 0 =>
    cases hj
    cases hv
    exact wide_struct Try.underlying49 (by kernel_rfl) (by kernel_rfl)
  | 1 =>
    cases hj
    cases hv
    exact wide_struct Try.underlying51 (by kernel_rfl) (by kernel_rfl)
  | j + 2 => cases hj

set_option maxRecDepth 100000 in
theorem wit (os : Os) (H : Type) (enc : TypeId × Value → H) : ∃ (w : World) (tape : Tape) (i : Input), w.os = os ∧ (w.forCall tape i).Shaped Try.prog ∧ i.vars = [] ∧ Input.okWide Try.prog (w.forCall tape i) .any w.heap.size 3 i ∧
      Rows.voteFlagsSpec.pre6 enc Try.prog Try.f3 Rows.voteFlagsRow.domain false (w.forCall tape i).memory i.args ∧ ({ modest := false } : Assume).holds Try.prog (lone (Frame.enter Try.prog 3 i.args .normal) [] (w.forCall tape i)) :=
  ⟨World.holding Try.prog os ⟨#[], witA, []⟩, fun _ _ => 0, ⟨#[], witA, []⟩, rfl, World.shaped_of_B (by kernel_rfl) (by kernel_rfl), rfl, witIn os _, ⟨ChangeSpec.pre_of_preB (fuel := 8) (by kernel_rfl), sizedMet_of_sizedB (fuel := 8) (by kernel_rfl)⟩, by
    simp only [Assume.holds]
    exact ⟨by simp, by simp, fun _ => Modest.zero, by simp, by simp⟩⟩

set_option maxRecDepth 100000 in
theorem lifted (os : Os) (started : os.Started) (H : Type) (enc : TypeId × Value → H) :
    ReturnsInHanded {} Try.checked os 3 .any (Rows.voteFlagsSpec.pre6 enc Try.prog Try.f3 Rows.voteFlagsRow.domain false) (Rows.voteFlagsSpec.post enc Try.prog Try.f3 false true false false) := by
  refine returnsInHanded_of_change_sized (C := Try.checked) own started (by kernel_rfl) Try.func3
    (wit os H enc) ?_
  intro W base args ds gs before hval hW _ hsz _
  exact contract H enc W base args ds gs before hval hW hsz

theorem proved : Rows.VoteFlagsSaid :=
  OpenClaim.holds_of_wide 3 Try.f3 rfl rfl rfl rfl rfl rfl rfl ⟨rfl, rfl, rfl, rfl, rfl⟩ rfl rfl rfl rfl rfl (by kernel_rfl) Try.func3 (by kernel_rfl)
    (of_decide_eq_true (by kernel_rfl)) (by unfold Func.isWrapper; first | (rw [if_pos (by decide +kernel)]; kernel_rfl) | (rw [if_neg (by decide +kernel)]; exact ⟨rfl, rfl⟩))
    (fun os started H enc _ => lifted os started H enc)
#print axioms proved
end Go.Proofs.Ytmbgidfngefniaa.voteFlags
namespace Go.Proofs.Ytmbgidfngefniaa
theorem voteFlags_holds : Rows.VoteFlagsSaid := voteFlags.proved
end Go.Proofs.Ytmbgidfngefniaa
