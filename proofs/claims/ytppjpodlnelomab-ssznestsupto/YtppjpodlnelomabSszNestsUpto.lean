/-
  Proved: SszNests answers true at every input of at most 1048576 values (the statement's own second form), and leaves its arguments as they were.
-/
import Derived.Test.YtppjpodlnelomabRows
import Derived.Test.YtppjpodlnelomabSyJ
import Derived.Test.YtppjpodlnelomabOpo
import Derived.WalkKit
import Derived.ProofKit
import Derived.OpenShut
import Derived.ShutString
import Derived.ChangeOld
import Derived.Below
import Derived.SizedLaws
import Derived.JoinedCond
import Derived.Deep.CondSized
namespace Go.Proofs.Ytppjpodlnelomab.sszNests
open Go.ChangeShapes Go.WideShapes Go.ChangeAt Go.RowKit
set_option linter.unusedVariables false

theorem own : ownKnob Try.prog.godebug = none := by kernel_rfl
theorem laidOut : laidOutB Try.prog = true := by kernel_rfl

theorem walk (w : World) (a0 : Option Addr) (len0 cap0 : Nat) (A0 : Nat → Option Addr) (L0 C0 : Nat → Nat) (f0 : Nat → Nat → Int) (w0 : Parts w a0 len0 A0 L0 C0 f0) (b0 : ∀ r, r < len0 → ∀ q, q < L0 r → 0 ≤ f0 r q ∧ f0 r q < 256) (c0 : ∀ r, r < len0 → L0 r ≤ 9223372036854775807) (l0 : len0 ≤ cap0) (r0 : cap0 * Try.prog.bytesOf 24 ≤ 140737488351232) (a1 : Option Addr) (len1 cap1 : Nat) (f1 : Nat → Int) (w1 : Nms .i64 w a1 len1 f1) (b1 : ∀ q, -9223372036854775808 ≤ f1 q ∧ f1 q ≤ 9223372036854775807) (l1 : len1 ≤ cap1) (r1 : cap1 * Try.prog.bytesOf 3 ≤ 140737488351232) (a2 : Option Addr) (len2 cap2 : Nat) (f2 : Nat → Nat) (w2 : Bys w a2 len2 cap2 (fun q => (f2 q : Int))) (b2 : ∀ q, f2 q < 256) (l2 : len2 ≤ cap2) (r2 : cap2 * Try.prog.bytesOf 5 ≤ 140737488351232) (hk : (sumL L0 len0 + len0) + cap1 + cap2 ≤ 1048576) :
    Calls Try.prog 3 #[.slice a0 len0 cap0, .slice a1 len1 cap1, .slice a2 len2 cap2] w fun e w' => e = .returned (.bool true) ∧ Below w.heap.size w w' := by
  exact nests_law f1 a0 len0 cap0 A0 L0 C0 f0 a1 len1 cap1 a2 len2 cap2 (fun q => (f2 q : Int)) w w0 b0 w1 c0 (by omega) (by omega) w2 (fun j => by have := b2 j; omega) (by omega) l2

theorem contract (H : Type) (enc : TypeId × Value → H) (W : World) (base : Nat) (args : Array Value) (ds gs : List (DataW H)) (before : List MemPlace)
    (hval : ∀ (j : Nat) t v, Try.f3.params[j]? = some t → args[j]? = some v → Value.okWide Try.prog W .any base t v)
    (hW : DataW.Whole enc Try.prog Try.f3.params.toList Rows.sszNestsSpec.vars false W args.toList ds gs before)
    (hsz : (DataW.weightsEach Try.prog (Try.f3.params.toList ++ Rows.sszNestsSpec.plain.varTypes Try.prog) (ds ++ gs)).all (· ≤ reachBytes) = true) (hk : Rows.uptoSmall H (ds ++ gs) = true) :
    Calls Try.prog 3 args W fun e W' => ∃ v, e = .returned v ∧ Rows.sszNestsSpec.post enc Try.prog Try.f3 false true false false W args v W' := by
  have hW' := hW
  obtain ⟨p, q, hA0, hV, rfl, hfz, hnd⟩ := hW
  have hA : DataW.TrodAll enc Try.prog W 0 (fun _ => true) true Try.f3.params.toList args.toList ds p := hA0
  rw [Try.params3] at hA hval hsz
  obtain ⟨v0, vs0, d0, ds0, p0, q0, hargs, rfl, rfl, h0, r0⟩ := trodAll_cons hA
  obtain ⟨v1, vs1, d1, ds1, p1, q1, rfl, rfl, rfl, h1, r1⟩ := trodAll_cons r0
  obtain ⟨v2, vs2, d2, ds2, p2, q2, rfl, rfl, rfl, h2, r2⟩ := trodAll_cons r1
  obtain ⟨rfl, rfl, rfl⟩ := trodAll_nil r2
  obtain rfl : args = #[v0, v1, v2] := by cases args; simp_all
  obtain ⟨rfl, rfl⟩ := trodVars_none hV
  obtain ⟨a0, len0, cap0, rfl⟩ := okWide_slice Try.underlying22 (hval 0 22 v0 rfl rfl)
  have k0 := h0
  have lt0 : ∀ x ∈ p0, x.block < W.heap.size := by obtain ⟨m, hm⟩ := k0; exact DataW.trod_lt m _ _ _ hm
  obtain ⟨A0, L0, C0, f0, w0, b0, c0, s0, l0, e0⟩ := open_rows h0
  obtain ⟨a1, len1, cap1, rfl⟩ := okWide_slice Try.underlying23 (hval 1 23 v1 rfl rfl)
  have k1 := h1
  have lt1 : ∀ x ∈ p1, x.block < W.heap.size := by obtain ⟨m, hm⟩ := k1; exact DataW.trod_lt m _ _ _ hm
  obtain ⟨f1, w1, b1, l1, e1⟩ := open_i64s h1
  obtain ⟨a2, len2, cap2, rfl⟩ := okWide_slice Try.underlying24 (hval 2 24 v2 rfl rfl)
  have k2 := h2
  have lt2 : ∀ x ∈ p2, x.block < W.heap.size := by obtain ⟨m, hm⟩ := k2; exact DataW.trod_lt m _ _ _ hm
  obtain ⟨f2, w2, b2, l2, e2⟩ := open_u8s h2
  clear hA0
  refine (walk W a0 len0 cap0 A0 L0 C0 f0 w0 b0 c0 l0 (holds_sized hsz (j := 0) rfl rfl Try.underlying22 e0) a1 len1 cap1 f1 w1 b1 l1 (holds_sized hsz (j := 1) rfl rfl Try.underlying23 e1) a2 len2 cap2 f2 w2 b2 l2 (holds_sized hsz (j := 2) rfl rfl Try.underlying24 e2) (by have := small_bulk hk; simp only [List.append_nil, Rows.uptoBulkAll] at this; have := s0; have := holds_bulk e1; have := holds_bulk e2; omega)).mono fun e W' ⟨he, bel⟩ => ?_
  subst he
  exact ⟨_, rfl, _, _, _, [], _, [], hW', trodAll_mk1 (shut_bool Try.underlying4 _), (trodAll_cons_mk (Below.trod laidOut (by kernel_rfl) (of_decide_eq_true (by kernel_rfl)) k0 bel lt0) (trodAll_cons_mk (Below.trod laidOut (by kernel_rfl) (of_decide_eq_true (by kernel_rfl)) k1 bel lt1) (trodAll_cons_mk (Below.trod laidOut (by kernel_rfl) (of_decide_eq_true (by kernel_rfl)) k2 bel lt2) trodAll_mk0))), rfl, bel.frame _, fun h => by cases h⟩

set_option maxRecDepth 100000 in
theorem lifted (os : Os) (started : os.Started) (H : Type) (enc : TypeId × Value → H) (F : Stop.Interp) :
    ReturnsInHanded {} Try.checked os 3 .any ((Rows.OpenSpec.upto Rows.sszNestsSpec).pre6 enc Try.prog Try.f3 Rows.sszNestsUptoRow.domain false) (((Rows.OpenSpec.upto Rows.sszNestsSpec).at F).post enc Try.prog Try.f3 false true false false) := by
  refine returnsInHanded_of_cond_sized (C := Try.checked) (s := Rows.OpenSpec.upto Rows.sszNestsSpec) (k := Rows.uptoSmall) rfl own started (by kernel_rfl) Try.func3
    (OpenSpec.witness (enc := enc) (C := Try.checked) (s := Rows.OpenSpec.upto Rows.sszNestsSpec) (k := Rows.uptoSmall) rfl false ⟨#[], #[.slice none 0 0, .slice none 0 0, .slice none 0 0], []⟩ 8 (by kernel_rfl) (by kernel_rfl) (by kernel_rfl)
      (x := ([.nil, .nil, .nil], [], [])) (by kernel_rfl) rfl (by kernel_rfl)) ?_
  intro W base args ds gs before hval hW _ hk hsz _
  exact contract H enc W base args ds gs before hval hW hsz hk

theorem proved : Rows.SszNestsUptoSaid :=
  OpenClaim.holds_of_cond 3 Try.f3 rfl rfl rfl rfl rfl rfl rfl ⟨rfl, rfl, rfl, rfl, rfl⟩ rfl rfl rfl rfl rfl (by kernel_rfl) Try.func3 (by kernel_rfl)
    (of_decide_eq_true (by kernel_rfl)) (by unfold Func.isWrapper; first | (rw [if_pos (by decide +kernel)]; kernel_rfl) | (rw [if_neg (by decide +kernel)]; exact ⟨rfl, rfl⟩))
    (fun os started H enc _ F => lifted os started H enc F)
#print axioms proved
end Go.Proofs.Ytppjpodlnelomab.sszNests
namespace Go.Proofs.Ytppjpodlnelomab
theorem sszNests_holds : Rows.SszNestsUptoSaid := sszNests.proved
end Go.Proofs.Ytppjpodlnelomab
