/-
  Proved: WordRoots answers true at every input, and leaves its arguments as they were. No condition.
-/
import Derived.Test.YtbilbiehgagfkaaRows
import Derived.WalkKit
import Derived.ProofKit
import Derived.OpenShut
import Derived.Test.YtbilbiehgagfkaaWalkJ
import Derived.ShutString
namespace Go.Proofs.Ytbilbiehgagfkaa.wordRoots
open Go.ChangeShapes Go.WideShapes Go.ChangeAt Go.RowKit
open Go.ChangeMaps (open_string shut_string)
set_option linter.unusedVariables false

theorem own : ownKnob Try.prog.godebug = none := by kernel_rfl

theorem walk (a0 : Int) (w0 : (Lit.int .u64 a0).wf = true) (w : World) :
    Calls Try.prog 5 #[.int .u64 a0] w fun e w' => e = .returned (.bool true) ∧ Grown w w' := by
  obtain ⟨n1', n2'⟩ := u64_bd w0
  obtain ⟨n, rfl⟩ := Int.eq_ofNat_of_zero_le n1'
  obtain ⟨r, hr⟩ := root_exists n
  generalize hN : (n : Int) = N at *
  clear hN n
  have rb := root_bd N r n2' hr
  have rs := root_sq r hr.1
  obtain ⟨r0, r1, r2⟩ := id hr
  have e1 : (r + 1) * (r + 1) = r * r + 2 * r + 1 := by rw [Int.add_mul, Int.mul_add]; omega
  have s0 : 0 ≤ r * r := Int.mul_nonneg r0 r0
  have rl := root_sq_less r
  have sm : r < 4294967295 → (r + 1) * (r + 1) ≤ 4294967295 * 4294967295 := fun h => Int.mul_le_mul (by omega) (by omega) (by omega) (by omega)
  rw [e1] at r2 sm
  obtain ⟨S, hS⟩ : ∃ S, r * r = S := ⟨_, rfl⟩
  rw [hS] at rs r1 r2 e1 s0 rl sm
  by_cases h1 : r = 4294967295
  · have h1' : (r == 4294967295) = true := by simpa using h1
    clear h1 rl sm e1
    go_enter Try.func5, Try.ntmps5
    go_wp2_with (first
      | (go_at_call 9; refine (awake_any _).mono ?_; rintro e w' ⟨rfl, n, rfl⟩)
      | (go_at_call 20; refine (root_val _ _ _ (by omega) (by omega) (by assumption)).mono ?_; rintro e w' ⟨rfl, rfl⟩))
    go_ret
    exact ⟨rfl, grown_drewN _ _⟩
  · have h1' : (r == 4294967295) = false := by simpa using h1
    have sm := sm (by omega)
    by_cases h2 : r = 0
    · have h2' : (r == 0) = true := by simpa using h2
      clear h1 h2 rl
      go_enter Try.func5, Try.ntmps5
      go_wp2_with (first
        | (go_at_call 9; refine (awake_any _).mono ?_; rintro e w' ⟨rfl, n, rfl⟩)
        | (go_at_call 20; refine (root_val _ _ _ (by omega) (by omega) (by assumption)).mono ?_; rintro e w' ⟨rfl, rfl⟩))
      go_ret
      exact ⟨rfl, grown_drewN _ _⟩
    · have h2' : (r == 0) = false := by simpa using h2
      have rl := rl (by omega)
      have s1 : 1 ≤ S := by rw [← hS]; exact Int.mul_pos (by omega) (by omega)
      have r3 : 1 ≤ r := by omega
      go_enter Try.func5, Try.ntmps5
      go_wp2_with (first
        | (go_at_call 9; refine (awake_any _).mono ?_; rintro e w' ⟨rfl, n, rfl⟩)
        | (go_at_call 20; refine (root_val _ _ _ (by omega) (by omega) (by assumption)).mono ?_; rintro e w' ⟨rfl, rfl⟩))
      go_ret
      exact ⟨rfl, grown_drewN _ _⟩

set_option maxRecDepth 100000 in
theorem lifted (os : Os) (started : os.Started) (H : Type) (enc : TypeId × Value → H) :
    ReturnsInHanded {} Try.checked os 5 .any (Rows.wordRootsSpec.pre6 enc Try.prog Try.f5 Rows.wordRootsRow.domain false) (Rows.wordRootsSpec.post enc Try.prog Try.f5 false true false false) := by
  refine returnsInHanded_of_change (C := Try.checked) own started (by kernel_rfl) Try.func5
    (ChangeSpec.witness6 (enc := enc) (C := Try.checked) false ⟨#[], #[.int .u64 0], []⟩ 8 (by kernel_rfl) (by kernel_rfl) (by kernel_rfl) (by kernel_rfl)) ?_
  intro W base args ds gs before hval0 hW hcnd _
  have hval : ∀ (j : Nat) t v, Try.f5.params[j]? = some t → args[j]? = some v → Value.okWide Try.prog W .any base t v := hval0
  have hW' := hW
  obtain ⟨p, q, hA0, hV, rfl, hfz, hnd⟩ := hW
  have hA : DataW.TrodAll enc Try.prog W 0 (fun _ => true) true Try.f5.params.toList args.toList ds p := hA0
  rw [Try.params5] at hA hval
  obtain ⟨v0, vs0, d0, ds0, p0, q0, hargs, rfl, rfl, h0, r0⟩ := trodAll_cons hA
  obtain ⟨rfl, rfl, rfl⟩ := trodAll_nil r0
  obtain rfl : args = #[v0] := by cases args; simp_all
  obtain ⟨rfl, rfl⟩ := trodVars_none hV
  obtain ⟨a0, rfl, rfl, rfl, w0⟩ := open_int Try.underlying22 (hval 0 22 v0 rfl rfl) h0
  clear hA0 hval0
  simp only [List.append_nil] at hW'
  refine (walk a0 w0 W).mono fun e W' ⟨he, hg⟩ => ?_
  subst he
  exact ⟨_, rfl, post_of_same (pa := []) (pv := []) hW' (fun _ _ _ => (trodAll_cons_mk (shut_bool Try.underlying4 _) trodAll_mk0)) (fun sp _ => (trodAll_cons_mk (shut_int Try.underlying22 w0) trodAll_mk0)) (fun _ _ => rfl) rfl
    (hg.frame _) hg.2.1 (ok_one (by kernel_rfl) rfl (okWide_bool_mk Try.underlying4 _))⟩

theorem over : Rows.wordRootsRow.holds Try.pinned (OpenSpec.ofChange Rows.wordRootsSpec) :=
  OpenClaim.holds_of_wide 5 Try.f5 rfl rfl rfl rfl rfl rfl rfl ⟨rfl, rfl, rfl, rfl, rfl⟩ rfl rfl rfl rfl rfl (by kernel_rfl) Try.func5 (by kernel_rfl)
    (of_decide_eq_true (by kernel_rfl)) (by unfold Func.isWrapper; first | (rw [if_pos (by decide +kernel)]; kernel_rfl) | (rw [if_neg (by decide +kernel)]; exact ⟨rfl, rfl⟩))
    (fun os started H enc _ => lifted os started H enc)

theorem proved : Rows.WordRootsSaid :=
  over
#print axioms proved
end Go.Proofs.Ytbilbiehgagfkaa.wordRoots
namespace Go.Proofs.Ytbilbiehgagfkaa
theorem wordRoots_holds : Rows.WordRootsSaid := wordRoots.proved
end Go.Proofs.Ytbilbiehgagfkaa
