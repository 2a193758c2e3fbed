/-
  Proved: WordBack answers true at every input, and leaves its arguments as they were. No condition.
-/
import Derived.Test.YtbilbiehgagfkabRows
import Derived.WalkKit
import Derived.ProofKit
import Derived.OpenShut
import Derived.Test.YtbilbiehgagfkabWalkJ
import Derived.ShutString
namespace Go.Proofs.Ytbilbiehgagfkab.wordBack
open Go.ChangeShapes Go.WideShapes Go.ChangeAt Go.RowKit
open Go.ChangeMaps (open_string shut_string)
set_option linter.unusedVariables false

theorem own : ownKnob Try.prog.godebug = none := by kernel_rfl

theorem walk (a0 : Int) (a1 : Int) (w0 : (Lit.int .u64 a0).wf = true) (w1 : (Lit.int .u64 a1).wf = true) (w : World) :
    Calls Try.prog 3 #[.int .u64 a0, .int .u64 a1] w fun e w' => e = .returned (.bool true) ∧ Grown w w' := by
  obtain ⟨a1', a2'⟩ := u64_bd w0
  obtain ⟨b1', b2'⟩ := u64_bd w1
  have hp : 0 ≤ a0 * a1 := Int.mul_nonneg a1' b1'
  have m1 : mdV a0 a1 1 = mulV a0 a1 := by unfold mdV mulV; rw [if_neg (by decide), Int.ediv_one]
  have m2 : mdE a0 a1 1 = mulE a0 a1 := by unfold mdE mulE; rw [if_neg (by decide), Int.ediv_one]
  by_cases hm : a0 * a1 < 18446744073709551616
  · have u1 : mulV a0 a1 = a0 * a1 := by unfold mulV; rw [if_pos hm]
    have u2 : mulE a0 a1 = 0 := by unfold mulE; rw [if_pos hm]
    rw [u1] at m1
    rw [u2] at m2
    obtain ⟨p, hpp⟩ : ∃ p, a0 * a1 = p := ⟨_, rfl⟩
    by_cases ha : a0 = 0
    · have ha' : (a0 == 0) = true := by simpa using ha
      rw [hpp] at m1 u1 hm hp
      clear ha hpp
      by_cases hs : a0 + a1 < 18446744073709551616
      · have v1 : addV a0 a1 = a0 + a1 := by unfold addV; rw [if_pos hs]
        have v2 : addE a0 a1 = 0 := by unfold addE; rw [if_pos hs]
        have v3 : subV (a0 + a1) a1 = a0 := by unfold subV; rw [if_neg (by omega)]; omega
        have v4 : subE (a0 + a1) a1 = 0 := by unfold subE; rw [if_neg (by omega)]
        have v5 : subV (a0 + a1) a0 = a1 := by unfold subV; rw [if_neg (by omega)]; omega
        go_enter Try.func3, Try.ntmps3
        go_wp2_with (first
          | (go_at_call 4; refine (awake_any _).mono ?_; rintro e w' ⟨rfl, n, rfl⟩)
          | (go_at_call 5; refine (add_any _ _ _  (by omega) (by omega) (by omega) (by omega)).mono ?_; rintro e w' ⟨rfl, rfl⟩)
          | (go_at_call 6; refine (sub_any _ _ _  (by omega) (by omega) (by omega) (by omega)).mono ?_; rintro e w' ⟨rfl, rfl⟩)
          | (go_at_call 7; refine (less_any _ _ _  (by omega) (by omega) (by omega) (by omega)).mono ?_; rintro e w' ⟨rfl, rfl⟩)
          | (go_at_call 8; refine (mul_any _ _ _  (by omega) (by omega) (by omega) (by omega)).mono ?_; rintro e w' ⟨rfl, rfl⟩)
          | (go_at_call 9; refine (mulDiv_any _ _ _ _  (by omega) (by omega) (by omega) (by omega) (by omega) (by omega)).mono ?_; rintro e w' ⟨rfl, n, rfl⟩))
        go_ret
        exact ⟨rfl, grown_drewN _ _⟩
      · have v2 : addE a0 a1 = 2 := by unfold addE; rw [if_neg hs]
        go_enter Try.func3, Try.ntmps3
        go_wp2_with (first
          | (go_at_call 4; refine (awake_any _).mono ?_; rintro e w' ⟨rfl, n, rfl⟩)
          | (go_at_call 5; refine (add_any _ _ _  (by omega) (by omega) (by omega) (by omega)).mono ?_; rintro e w' ⟨rfl, rfl⟩)
          | (go_at_call 6; refine (sub_any _ _ _  (by omega) (by omega) (by omega) (by omega)).mono ?_; rintro e w' ⟨rfl, rfl⟩)
          | (go_at_call 7; refine (less_any _ _ _  (by omega) (by omega) (by omega) (by omega)).mono ?_; rintro e w' ⟨rfl, rfl⟩)
          | (go_at_call 8; refine (mul_any _ _ _  (by omega) (by omega) (by omega) (by omega)).mono ?_; rintro e w' ⟨rfl, rfl⟩)
          | (go_at_call 9; refine (mulDiv_any _ _ _ _  (by omega) (by omega) (by omega) (by omega) (by omega) (by omega)).mono ?_; rintro e w' ⟨rfl, n, rfl⟩))
        go_ret
        exact ⟨rfl, grown_drewN _ _⟩
    · have ha' : (a0 == 0) = false := by simpa using ha
      by_cases hb : a1 = 0
      · have hb' : (a1 == 0) = true := by simpa using hb
        rw [hpp] at m1 u1 hm hp
        clear hb hpp
        by_cases hs : a0 + a1 < 18446744073709551616
        · have v1 : addV a0 a1 = a0 + a1 := by unfold addV; rw [if_pos hs]
          have v2 : addE a0 a1 = 0 := by unfold addE; rw [if_pos hs]
          have v3 : subV (a0 + a1) a1 = a0 := by unfold subV; rw [if_neg (by omega)]; omega
          have v4 : subE (a0 + a1) a1 = 0 := by unfold subE; rw [if_neg (by omega)]
          have v5 : subV (a0 + a1) a0 = a1 := by unfold subV; rw [if_neg (by omega)]; omega
          go_enter Try.func3, Try.ntmps3
          go_wp2_with (first
            | (go_at_call 4; refine (awake_any _).mono ?_; rintro e w' ⟨rfl, n, rfl⟩)
            | (go_at_call 5; refine (add_any _ _ _  (by omega) (by omega) (by omega) (by omega)).mono ?_; rintro e w' ⟨rfl, rfl⟩)
            | (go_at_call 6; refine (sub_any _ _ _  (by omega) (by omega) (by omega) (by omega)).mono ?_; rintro e w' ⟨rfl, rfl⟩)
            | (go_at_call 7; refine (less_any _ _ _  (by omega) (by omega) (by omega) (by omega)).mono ?_; rintro e w' ⟨rfl, rfl⟩)
            | (go_at_call 8; refine (mul_any _ _ _  (by omega) (by omega) (by omega) (by omega)).mono ?_; rintro e w' ⟨rfl, rfl⟩)
            | (go_at_call 9; refine (mulDiv_any _ _ _ _  (by omega) (by omega) (by omega) (by omega) (by omega) (by omega)).mono ?_; rintro e w' ⟨rfl, n, rfl⟩))
          go_ret
          exact ⟨rfl, grown_drewN _ _⟩
        · have v2 : addE a0 a1 = 2 := by unfold addE; rw [if_neg hs]
          go_enter Try.func3, Try.ntmps3
          go_wp2_with (first
            | (go_at_call 4; refine (awake_any _).mono ?_; rintro e w' ⟨rfl, n, rfl⟩)
            | (go_at_call 5; refine (add_any _ _ _  (by omega) (by omega) (by omega) (by omega)).mono ?_; rintro e w' ⟨rfl, rfl⟩)
            | (go_at_call 6; refine (sub_any _ _ _  (by omega) (by omega) (by omega) (by omega)).mono ?_; rintro e w' ⟨rfl, rfl⟩)
            | (go_at_call 7; refine (less_any _ _ _  (by omega) (by omega) (by omega) (by omega)).mono ?_; rintro e w' ⟨rfl, rfl⟩)
            | (go_at_call 8; refine (mul_any _ _ _  (by omega) (by omega) (by omega) (by omega)).mono ?_; rintro e w' ⟨rfl, rfl⟩)
            | (go_at_call 9; refine (mulDiv_any _ _ _ _  (by omega) (by omega) (by omega) (by omega) (by omega) (by omega)).mono ?_; rintro e w' ⟨rfl, n, rfl⟩))
          go_ret
          exact ⟨rfl, grown_drewN _ _⟩
      · have hb' : (a1 == 0) = false := by simpa using hb
        have q1 : p * 1 / a0 = a1 := by rw [Int.mul_one, ← hpp]; exact Int.mul_ediv_cancel_left _ ha
        have q2 : p * 1 / a1 = a0 := by rw [Int.mul_one, ← hpp]; exact Int.mul_ediv_cancel _ hb
        have x1 : mdV p 1 a0 = a1 := by unfold mdV; rw [if_neg ha, q1, if_pos b2']
        have x2 : mdE p 1 a0 = 0 := by unfold mdE; rw [if_neg ha, q1, if_pos b2']
        have y1 : mdV p 1 a1 = a0 := by unfold mdV; rw [if_neg hb, q2, if_pos a2']
        have y2 : mdE p 1 a1 = 0 := by unfold mdE; rw [if_neg hb, q2, if_pos a2']
        rw [hpp] at m1 u1 hm hp
        clear hpp q1 q2
        by_cases hs : a0 + a1 < 18446744073709551616
        · have v1 : addV a0 a1 = a0 + a1 := by unfold addV; rw [if_pos hs]
          have v2 : addE a0 a1 = 0 := by unfold addE; rw [if_pos hs]
          have v3 : subV (a0 + a1) a1 = a0 := by unfold subV; rw [if_neg (by omega)]; omega
          have v4 : subE (a0 + a1) a1 = 0 := by unfold subE; rw [if_neg (by omega)]
          have v5 : subV (a0 + a1) a0 = a1 := by unfold subV; rw [if_neg (by omega)]; omega
          go_enter Try.func3, Try.ntmps3
          go_wp2_with (first
            | (go_at_call 4; refine (awake_any _).mono ?_; rintro e w' ⟨rfl, n, rfl⟩)
            | (go_at_call 5; refine (add_any _ _ _  (by omega) (by omega) (by omega) (by omega)).mono ?_; rintro e w' ⟨rfl, rfl⟩)
            | (go_at_call 6; refine (sub_any _ _ _  (by omega) (by omega) (by omega) (by omega)).mono ?_; rintro e w' ⟨rfl, rfl⟩)
            | (go_at_call 7; refine (less_any _ _ _  (by omega) (by omega) (by omega) (by omega)).mono ?_; rintro e w' ⟨rfl, rfl⟩)
            | (go_at_call 8; refine (mul_any _ _ _  (by omega) (by omega) (by omega) (by omega)).mono ?_; rintro e w' ⟨rfl, rfl⟩)
            | (go_at_call 9; refine (mulDiv_any _ _ _ _  (by omega) (by omega) (by omega) (by omega) (by omega) (by omega)).mono ?_; rintro e w' ⟨rfl, n, rfl⟩))
          go_ret
          exact ⟨rfl, grown_drewN _ _⟩
        · have v2 : addE a0 a1 = 2 := by unfold addE; rw [if_neg hs]
          go_enter Try.func3, Try.ntmps3
          go_wp2_with (first
            | (go_at_call 4; refine (awake_any _).mono ?_; rintro e w' ⟨rfl, n, rfl⟩)
            | (go_at_call 5; refine (add_any _ _ _  (by omega) (by omega) (by omega) (by omega)).mono ?_; rintro e w' ⟨rfl, rfl⟩)
            | (go_at_call 6; refine (sub_any _ _ _  (by omega) (by omega) (by omega) (by omega)).mono ?_; rintro e w' ⟨rfl, rfl⟩)
            | (go_at_call 7; refine (less_any _ _ _  (by omega) (by omega) (by omega) (by omega)).mono ?_; rintro e w' ⟨rfl, rfl⟩)
            | (go_at_call 8; refine (mul_any _ _ _  (by omega) (by omega) (by omega) (by omega)).mono ?_; rintro e w' ⟨rfl, rfl⟩)
            | (go_at_call 9; refine (mulDiv_any _ _ _ _  (by omega) (by omega) (by omega) (by omega) (by omega) (by omega)).mono ?_; rintro e w' ⟨rfl, n, rfl⟩))
          go_ret
          exact ⟨rfl, grown_drewN _ _⟩
  · have u1 : mulV a0 a1 = 0 := by unfold mulV; rw [if_neg hm]
    have u2 : mulE a0 a1 = 2 := by unfold mulE; rw [if_neg hm]
    rw [u1] at m1
    rw [u2] at m2
    have ga : 1 < a0 := by
      by_cases h : 1 < a0
      · exact h
      · have : a0 = 0 ∨ a0 = 1 := by omega
        rcases this with rfl | rfl <;> omega
    have gb : 1 < a1 := by
      by_cases h : 1 < a1
      · exact h
      · have : a1 = 0 ∨ a1 = 1 := by omega
        rcases this with rfl | rfl <;> omega
    clear hm hp
    by_cases hs : a0 + a1 < 18446744073709551616
    · have v1 : addV a0 a1 = a0 + a1 := by unfold addV; rw [if_pos hs]
      have v2 : addE a0 a1 = 0 := by unfold addE; rw [if_pos hs]
      have v3 : subV (a0 + a1) a1 = a0 := by unfold subV; rw [if_neg (by omega)]; omega
      have v4 : subE (a0 + a1) a1 = 0 := by unfold subE; rw [if_neg (by omega)]
      have v5 : subV (a0 + a1) a0 = a1 := by unfold subV; rw [if_neg (by omega)]; omega
      go_enter Try.func3, Try.ntmps3
      go_wp2_with (first
        | (go_at_call 4; refine (awake_any _).mono ?_; rintro e w' ⟨rfl, n, rfl⟩)
        | (go_at_call 5; refine (add_any _ _ _  (by omega) (by omega) (by omega) (by omega)).mono ?_; rintro e w' ⟨rfl, rfl⟩)
        | (go_at_call 6; refine (sub_any _ _ _  (by omega) (by omega) (by omega) (by omega)).mono ?_; rintro e w' ⟨rfl, rfl⟩)
        | (go_at_call 7; refine (less_any _ _ _  (by omega) (by omega) (by omega) (by omega)).mono ?_; rintro e w' ⟨rfl, rfl⟩)
        | (go_at_call 8; refine (mul_any _ _ _  (by omega) (by omega) (by omega) (by omega)).mono ?_; rintro e w' ⟨rfl, rfl⟩)
        | (go_at_call 9; refine (mulDiv_any _ _ _ _  (by omega) (by omega) (by omega) (by omega) (by omega) (by omega)).mono ?_; rintro e w' ⟨rfl, n, rfl⟩))
      go_ret
      exact ⟨rfl, grown_drewN _ _⟩
    · have v2 : addE a0 a1 = 2 := by unfold addE; rw [if_neg hs]
      go_enter Try.func3, Try.ntmps3
      go_wp2_with (first
        | (go_at_call 4; refine (awake_any _).mono ?_; rintro e w' ⟨rfl, n, rfl⟩)
        | (go_at_call 5; refine (add_any _ _ _  (by omega) (by omega) (by omega) (by omega)).mono ?_; rintro e w' ⟨rfl, rfl⟩)
        | (go_at_call 6; refine (sub_any _ _ _  (by omega) (by omega) (by omega) (by omega)).mono ?_; rintro e w' ⟨rfl, rfl⟩)
        | (go_at_call 7; refine (less_any _ _ _  (by omega) (by omega) (by omega) (by omega)).mono ?_; rintro e w' ⟨rfl, rfl⟩)
        | (go_at_call 8; refine (mul_any _ _ _  (by omega) (by omega) (by omega) (by omega)).mono ?_; rintro e w' ⟨rfl, rfl⟩)
        | (go_at_call 9; refine (mulDiv_any _ _ _ _  (by omega) (by omega) (by omega) (by omega) (by omega) (by omega)).mono ?_; rintro e w' ⟨rfl, n, rfl⟩))
      go_ret
      exact ⟨rfl, grown_drewN _ _⟩

set_option maxRecDepth 100000 in
theorem lifted (os : Os) (started : os.Started) (H : Type) (enc : TypeId × Value → H) :
    ReturnsInHanded {} Try.checked os 3 .any (Rows.wordBackSpec.pre6 enc Try.prog Try.f3 Rows.wordBackRow.domain false) (Rows.wordBackSpec.post enc Try.prog Try.f3 false true false false) := by
  refine returnsInHanded_of_change (C := Try.checked) own started (by kernel_rfl) Try.func3
    (ChangeSpec.witness6 (enc := enc) (C := Try.checked) false ⟨#[], #[.int .u64 0, .int .u64 0], []⟩ 8 (by kernel_rfl) (by kernel_rfl) (by kernel_rfl) (by kernel_rfl)) ?_
  intro W base args ds gs before hval0 hW hcnd _
  have hval : ∀ (j : Nat) t v, Try.f3.params[j]? = some t → args[j]? = some v → Value.okWide Try.prog W .any base t v := hval0
  have hW' := hW
  obtain ⟨p, q, hA0, hV, rfl, hfz, hnd⟩ := hW
  have hA : DataW.TrodAll enc Try.prog W 0 (fun _ => true) true Try.f3.params.toList args.toList ds p := hA0
  rw [Try.params3] at hA hval
  obtain ⟨v0, vs0, d0, ds0, p0, q0, hargs, rfl, rfl, h0, r0⟩ := trodAll_cons hA
  obtain ⟨v1, vs1, d1, ds1, p1, q1, rfl, rfl, rfl, h1, r1⟩ := trodAll_cons r0
  obtain ⟨rfl, rfl, rfl⟩ := trodAll_nil r1
  obtain rfl : args = #[v0, v1] := by cases args; simp_all
  obtain ⟨rfl, rfl⟩ := trodVars_none hV
  obtain ⟨a0, rfl, rfl, rfl, w0⟩ := open_int Try.underlying22 (hval 0 22 v0 rfl rfl) h0
  obtain ⟨a1, rfl, rfl, rfl, w1⟩ := open_int Try.underlying22 (hval 1 22 v1 rfl rfl) h1
  clear hA0 hval0
  simp only [List.append_nil] at hW'
  refine (walk a0 a1 w0 w1 W).mono fun e W' ⟨he, hg⟩ => ?_
  subst he
  exact ⟨_, rfl, post_of_same (pa := []) (pv := []) hW' (fun _ _ _ => (trodAll_cons_mk (shut_bool Try.underlying4 _) trodAll_mk0)) (fun sp _ => (trodAll_cons_mk (shut_int Try.underlying22 w0) (trodAll_cons_mk (shut_int Try.underlying22 w1) trodAll_mk0))) (fun _ _ => rfl) rfl
    (hg.frame _) hg.2.1 (ok_one (by kernel_rfl) rfl (okWide_bool_mk Try.underlying4 _))⟩

theorem over : Rows.wordBackRow.holds Try.pinned (OpenSpec.ofChange Rows.wordBackSpec) :=
  OpenClaim.holds_of_wide 3 Try.f3 rfl rfl rfl rfl rfl rfl rfl ⟨rfl, rfl, rfl, rfl, rfl⟩ rfl rfl rfl rfl rfl (by kernel_rfl) Try.func3 (by kernel_rfl)
    (of_decide_eq_true (by kernel_rfl)) (by unfold Func.isWrapper; first | (rw [if_pos (by decide +kernel)]; kernel_rfl) | (rw [if_neg (by decide +kernel)]; exact ⟨rfl, rfl⟩))
    (fun os started H enc _ => lifted os started H enc)

theorem proved : Rows.WordBackSaid :=
  over
#print axioms proved
end Go.Proofs.Ytbilbiehgagfkab.wordBack
namespace Go.Proofs.Ytbilbiehgagfkab
theorem wordBack_holds : Rows.WordBackSaid := wordBack.proved
end Go.Proofs.Ytbilbiehgagfkab
