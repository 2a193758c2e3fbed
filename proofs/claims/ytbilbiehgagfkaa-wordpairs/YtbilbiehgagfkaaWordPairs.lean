/-
  Proved: WordPairs answers true at every input, and leaves its arguments as they were. No condition.
-/
import Derived.Test.YtbilbiehgagfkaaRows
import Derived.WalkKit
import Derived.ProofKit
import Derived.OpenShut
import Derived.Test.YtbilbiehgagfkaaWalkP
import Derived.ShutString
namespace Go.Proofs.Ytbilbiehgagfkaa.wordPairs
open Go.ChangeShapes Go.WideShapes Go.ChangeAt Go.RowKit
open Go.ChangeMaps (open_string shut_string)
set_option linter.unusedVariables false

theorem own : ownKnob Try.prog.godebug = none := by kernel_rfl

theorem walk (a0 : Int) (a1 : Int) (a2 : Int) (a3 : Int) (w0 : (Lit.int .u64 a0).wf = true) (w1 : (Lit.int .u64 a1).wf = true) (w2 : (Lit.int .u64 a2).wf = true) (w3 : (Lit.int .u64 a3).wf = true) (w : World) :
    Calls Try.prog 7 #[.int .u64 a0, .int .u64 a1, .int .u64 a2, .int .u64 a3] w fun e w' => e = .returned (.bool true) ∧ Grown w w' := by
  obtain ⟨x1, x2⟩ := u64_bd w0
  obtain ⟨y1, y2⟩ := u64_bd w1
  obtain ⟨z1, z2⟩ := u64_bd w2
  obtain ⟨t1, t2⟩ := u64_bd w3
  have z0 := zero_eq
  by_cases ha : a0 ≤ 9007199254740992
  · have ha' : ¬ 9007199254740992 < a0 := by omega
    by_cases hb : a1 ≤ 9007199254740992
    · have hb' : ¬ 9007199254740992 < a1 := by omega
      obtain ⟨F0, f0, g0, v0, o0, e0⟩ := num_word a0 x1 ha
      obtain ⟨F1, f1, g1, v1, o1, e1⟩ := num_word a1 y1 hb
      obtain ⟨p1, p2, p3⟩ := pt_good g0 g1
      obtain ⟨j1, j2, j3⟩ := jn_yes ha hb
      rw [v0] at p2
      rw [v1] at p3
      rw [f0] at j1
      rw [f1] at j2
      clear g0 v0 g1 v1
      by_cases hcd : a2 ≤ 9007199254740992 ∧ a3 ≤ 9007199254740992
      · obtain ⟨hc, hd⟩ := hcd
        obtain ⟨F2, f2, g2, v2, o2, e2⟩ := num_word a2 z1 hc
        obtain ⟨F3, f3, g3, v3, o3, e3⟩ := num_word a3 t1 hd
        obtain ⟨k1, k2, k3⟩ := jn_yes hc hd
        rw [f2] at k1
        rw [f3] at k2
        clear g2 v2 g3 v3 o2 o3
        by_cases hs : a0 + a2 ≤ 9007199254740992
        · have hs' : ¬ 9007199254740992 < a0 + a2 := by omega
          by_cases ht : a1 + a3 ≤ 9007199254740992
          · have ht' : ¬ 9007199254740992 < a1 + a3 := by omega
            obtain ⟨G0, u0, g0, v0, _, c0⟩ := num_word (a0 + a2) (by omega) hs
            obtain ⟨G1, u1, g1, v1, _, c1⟩ := num_word (a1 + a3) (by omega) ht
            obtain ⟨q1, q2, q3⟩ := pt_good g0 g1
            rw [v0] at q2
            rw [v1] at q3
            have sw := sum_words a0 a1 a2 a3 x1 y1 z1 t1 hs ht
            rw [← e0, ← e1, ← e2, ← e3, ← c0, ← c1] at sw
            have rs := fun w t => run_complex_sum (P := Try.prog) w .add (Or.inl rfl) t .f64 F0 F1 F2 F3 G0 G1 sw
            clear sw e0 e1 e2 e3 c0 c1 g0 g1 v0 v1 u0 u1
            go_enter Try.func7, Try.ntmps7
            go_wp2_with (first
              | (go_at_call 9; refine (awake_any _).mono ?_; rintro e w' ⟨rfl, n, rfl⟩)
              | (go_at_call 25; refine (join_any _ _ _).mono ?_; rintro e w' ⟨rfl, rfl⟩)
              | (go_at_call 26; refine (parts_any _ _ _).mono ?_; rintro e w' ⟨rfl, rfl⟩))
            go_ret
            exact ⟨rfl, grown_drewN _ _⟩
          · have ht' : 9007199254740992 < a1 + a3 := by omega
            clear e0 e1 e2 e3
            go_enter Try.func7, Try.ntmps7
            go_wp2_with (first
              | (go_at_call 9; refine (awake_any _).mono ?_; rintro e w' ⟨rfl, n, rfl⟩)
              | (go_at_call 25; refine (join_any _ _ _).mono ?_; rintro e w' ⟨rfl, rfl⟩)
              | (go_at_call 26; refine (parts_any _ _ _).mono ?_; rintro e w' ⟨rfl, rfl⟩))
            go_ret
            exact ⟨rfl, grown_drewN _ _⟩
        · have hs' : 9007199254740992 < a0 + a2 := by omega
          clear e0 e1 e2 e3
          go_enter Try.func7, Try.ntmps7
          go_wp2_with (first
            | (go_at_call 9; refine (awake_any _).mono ?_; rintro e w' ⟨rfl, n, rfl⟩)
            | (go_at_call 25; refine (join_any _ _ _).mono ?_; rintro e w' ⟨rfl, rfl⟩)
            | (go_at_call 26; refine (parts_any _ _ _).mono ?_; rintro e w' ⟨rfl, rfl⟩))
          go_ret
          exact ⟨rfl, grown_drewN _ _⟩
      · obtain ⟨k1, k2, k3⟩ := jn_no (a := a2) (b := a3) (by omega)
        clear e0 e1
        by_cases hc : 9007199254740992 < a2
        · clear hcd
          go_enter Try.func7, Try.ntmps7
          go_wp2_with (first
            | (go_at_call 9; refine (awake_any _).mono ?_; rintro e w' ⟨rfl, n, rfl⟩)
            | (go_at_call 25; refine (join_any _ _ _).mono ?_; rintro e w' ⟨rfl, rfl⟩)
            | (go_at_call 26; refine (parts_any _ _ _).mono ?_; rintro e w' ⟨rfl, rfl⟩))
          go_ret
          exact ⟨rfl, grown_drewN _ _⟩
        · have hd : 9007199254740992 < a3 := by omega
          clear hcd
          go_enter Try.func7, Try.ntmps7
          go_wp2_with (first
            | (go_at_call 9; refine (awake_any _).mono ?_; rintro e w' ⟨rfl, n, rfl⟩)
            | (go_at_call 25; refine (join_any _ _ _).mono ?_; rintro e w' ⟨rfl, rfl⟩)
            | (go_at_call 26; refine (parts_any _ _ _).mono ?_; rintro e w' ⟨rfl, rfl⟩))
          go_ret
          exact ⟨rfl, grown_drewN _ _⟩
    · have hb' : 9007199254740992 < a1 := by omega
      obtain ⟨j1, j2, j3⟩ := jn_no (a := a0) (b := a1) (by omega)
      go_enter Try.func7, Try.ntmps7
      go_wp2_with (first
        | (go_at_call 9; refine (awake_any _).mono ?_; rintro e w' ⟨rfl, n, rfl⟩)
        | (go_at_call 25; refine (join_any _ _ _).mono ?_; rintro e w' ⟨rfl, rfl⟩)
        | (go_at_call 26; refine (parts_any _ _ _).mono ?_; rintro e w' ⟨rfl, rfl⟩))
      go_ret
      exact ⟨rfl, grown_drewN _ _⟩
  · have ha' : 9007199254740992 < a0 := by omega
    obtain ⟨j1, j2, j3⟩ := jn_no (a := a0) (b := a1) (by omega)
    go_enter Try.func7, Try.ntmps7
    go_wp2_with (first
      | (go_at_call 9; refine (awake_any _).mono ?_; rintro e w' ⟨rfl, n, rfl⟩)
      | (go_at_call 25; refine (join_any _ _ _).mono ?_; rintro e w' ⟨rfl, rfl⟩)
      | (go_at_call 26; refine (parts_any _ _ _).mono ?_; rintro e w' ⟨rfl, rfl⟩))
    go_ret
    exact ⟨rfl, grown_drewN _ _⟩

set_option maxRecDepth 100000 in
theorem lifted (os : Os) (started : os.Started) (H : Type) (enc : TypeId × Value → H) :
    ReturnsInHanded {} Try.checked os 7 .any (Rows.wordPairsSpec.pre6 enc Try.prog Try.f7 Rows.wordPairsRow.domain false) (Rows.wordPairsSpec.post enc Try.prog Try.f7 false true false false) := by
  refine returnsInHanded_of_change (C := Try.checked) own started (by kernel_rfl) Try.func7
    (ChangeSpec.witness6 (enc := enc) (C := Try.checked) false ⟨#[], #[.int .u64 0, .int .u64 0, .int .u64 0, .int .u64 0], []⟩ 8 (by kernel_rfl) (by kernel_rfl) (by kernel_rfl) (by kernel_rfl)) ?_
  intro W base args ds gs before hval0 hW hcnd _
  have hval : ∀ (j : Nat) t v, Try.f7.params[j]? = some t → args[j]? = some v → Value.okWide Try.prog W .any base t v := hval0
  have hW' := hW
  obtain ⟨p, q, hA0, hV, rfl, hfz, hnd⟩ := hW
  have hA : DataW.TrodAll enc Try.prog W 0 (fun _ => true) true Try.f7.params.toList args.toList ds p := hA0
  rw [Try.params7] at hA hval
  obtain ⟨v0, vs0, d0, ds0, p0, q0, hargs, rfl, rfl, h0, r0⟩ := trodAll_cons hA
  obtain ⟨v1, vs1, d1, ds1, p1, q1, rfl, rfl, rfl, h1, r1⟩ := trodAll_cons r0
  obtain ⟨v2, vs2, d2, ds2, p2, q2, rfl, rfl, rfl, h2, r2⟩ := trodAll_cons r1
  obtain ⟨v3, vs3, d3, ds3, p3, q3, rfl, rfl, rfl, h3, r3⟩ := trodAll_cons r2
  obtain ⟨rfl, rfl, rfl⟩ := trodAll_nil r3
  obtain rfl : args = #[v0, v1, v2, v3] := by cases args; simp_all
  obtain ⟨rfl, rfl⟩ := trodVars_none hV
  obtain ⟨a0, rfl, rfl, rfl, w0⟩ := open_int Try.underlying22 (hval 0 22 v0 rfl rfl) h0
  obtain ⟨a1, rfl, rfl, rfl, w1⟩ := open_int Try.underlying22 (hval 1 22 v1 rfl rfl) h1
  obtain ⟨a2, rfl, rfl, rfl, w2⟩ := open_int Try.underlying22 (hval 2 22 v2 rfl rfl) h2
  obtain ⟨a3, rfl, rfl, rfl, w3⟩ := open_int Try.underlying22 (hval 3 22 v3 rfl rfl) h3
  clear hA0 hval0
  simp only [List.append_nil] at hW'
  refine (walk a0 a1 a2 a3 w0 w1 w2 w3 W).mono fun e W' ⟨he, hg⟩ => ?_
  subst he
  exact ⟨_, rfl, post_of_same (pa := []) (pv := []) hW' (fun _ _ _ => (trodAll_cons_mk (shut_bool Try.underlying4 _) trodAll_mk0)) (fun sp _ => (trodAll_cons_mk (shut_int Try.underlying22 w0) (trodAll_cons_mk (shut_int Try.underlying22 w1) (trodAll_cons_mk (shut_int Try.underlying22 w2) (trodAll_cons_mk (shut_int Try.underlying22 w3) trodAll_mk0))))) (fun _ _ => rfl) rfl
    (hg.frame _) hg.2.1 (ok_one (by kernel_rfl) rfl (okWide_bool_mk Try.underlying4 _))⟩

theorem over : Rows.wordPairsRow.holds Try.pinned (OpenSpec.ofChange Rows.wordPairsSpec) :=
  OpenClaim.holds_of_wide 7 Try.f7 rfl rfl rfl rfl rfl rfl rfl ⟨rfl, rfl, rfl, rfl, rfl⟩ rfl rfl rfl rfl rfl (by kernel_rfl) Try.func7 (by kernel_rfl)
    (of_decide_eq_true (by kernel_rfl)) (by unfold Func.isWrapper; first | (rw [if_pos (by decide +kernel)]; kernel_rfl) | (rw [if_neg (by decide +kernel)]; exact ⟨rfl, rfl⟩))
    (fun os started H enc _ => lifted os started H enc)

theorem proved : Rows.WordPairsSaid :=
  over
#print axioms proved
end Go.Proofs.Ytbilbiehgagfkaa.wordPairs
namespace Go.Proofs.Ytbilbiehgagfkaa
theorem wordPairs_holds : Rows.WordPairsSaid := wordPairs.proved
end Go.Proofs.Ytbilbiehgagfkaa
