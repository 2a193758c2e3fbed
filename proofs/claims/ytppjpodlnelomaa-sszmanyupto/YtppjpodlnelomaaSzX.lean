/-
  What SszMany answers.
-/
import Derived.Test.YtppjpodlnelomaaSzW
namespace Go.Proofs.Ytppjpodlnelomaa
open Go.RowKit
set_option linter.unusedVariables false
set_option linter.unusedSimpArgs false

theorem mmE_at (n : Nat) (most : Int) : (most < 0 → mmE n most = 1) ∧ (¬ most < 0 → most < n → mmE n most = 6) ∧ ((n : Int) ≤ most → mmE n most = 0) := by
  unfold mmE
  refine ⟨fun h => by rw [if_pos h], fun h1 h2 => by rw [if_neg h1, if_pos h2], fun h => by rw [if_neg (by omega), if_neg (by omega)]⟩

set_option maxRecDepth 20000 in
set_option maxHeartbeats 2000000 in
theorem many_law (a : Option Addr) (n c : Nat) (A : Nat → Option Addr) (L C : Nat → Nat) (f : Nat → Nat → Int) (most : Int) (w : World) (h : Parts w a n A L C f) (hf : ∀ r, r < n → ∀ q, q < L r → 0 ≤ f r q ∧ f r q < 256) (hL : ∀ r, r < n → L r ≤ 9223372036854775807) (ht : 4 * n + sumL L n < 4294967296) (hm0 : -9223372036854775808 ≤ most) (hm1 : most ≤ 9223372036854775807) :
    Calls Try.prog 6 #[.slice a n c, .int .i64 most] w fun e w' => e = .returned (.bool true) ∧ Below w.heap.size w w' := by
  have H : Hid (∀ W, Below w.heap.size w W → Parts W a n A L C f) := fun W hW => h.below hW
  have HLM : Hid (∀ W, Below w.heap.size w W → Calls Try.prog 20 #[.slice a n c] W fun e w' => ∃ v, e = .returned (.tuple #[v, .int .i64 0]) ∧ w'.ownsRow W.heap.size 5 1 v (4 * n + sumL L n) (iv (layM f L n)) ∧ Below W.heap.size W w') := fun W hW => laymany_ok a n c A L C f W (h.below hW) hL ht
  have HMM : Hid (∀ most' W ao cap, Bys W ao (4 * n + sumL L n) cap (fun j => (layM f L n).getD j 0) → 4 * n + sumL L n ≤ cap → cap ≤ 9223372036854775807 → most' ≤ 9223372036854775807 → Calls Try.prog 18 #[.slice ao (4 * n + sumL L n) cap, .int .i64 most'] W fun e w' => ∃ a' N' c' A' L' f', e = .returned (.tuple #[.slice a' N' c', .int .i64 (mmE n most')]) ∧ Below W.heap.size W w' ∧ N' ≤ 9223372036854775807 ∧ Parts w' a' N' A' L' L' f' ∧ ((n : Int) ≤ most' → samB N' L' f' n L f = true)) := fun most' W ao cap h1 h2 h3 h4 => many_laid f L n most' ao cap W hf ht h1 h2 h3 h4
  have hn : n ≤ 9223372036854775807 := by omega
  have hlen := layM_len f L n
  obtain ⟨s, es⟩ : ∃ s, strF (fun j => (layM f L n).getD j 0) (4 * n + sumL L n) = s := ⟨_, rfl⟩
  obtain ⟨T, eT⟩ : ∃ T, 4 * n + sumL L n = T := ⟨_, rfl⟩
  rw [eT] at HLM HMM es
  have ET := hid eT
  have ES := hid es
  have HT := hid ht
  clear h hf hL es eT hlen
  go_enter Try.func6, Try.ntmps6
  go_upto_region 4 with (first
    | (go_at_call 9; refine (awake_any _).mono ?_; rintro r w1 ⟨rfl, hb1⟩; have HB1 := hid hb1; clear hb1)
    | (go_at_call 20; refine (HLM.out _ HB1.out).mono ?_; rintro r w2 ⟨v2, rfl, ho2, hb2⟩; have HB2 := hid (HB1.out.trans (hb2.mono HB1.out.size)); obtain ⟨a2, C2, rfl, hC1, hC2, hy2⟩ := (owns_bys ho2).2; have HY2 := hid hy2; clear ho2 hb2 hy2))
  have cv2 : ∀ W, Below w2.heap.size w2 W → (convert 22 9 (.slice a2 T C2)).run Try.prog W = .ok (.string s) W := fun W hW => by have := conv_bys W _ _ _ _ (HY2.out.below hW); rw [ES.out] at this; exact this
  clear HB1 HLM
  refine wp_region_noPanic ?_
  refine wp_region_held_drew (S := fun w' => Below w2.heap.size w2 w') (by kernel_rfl) ((Below.refl _ _).drew) (fun hHeld => ?_)
  refine wpAnyH_take (i := 0) (v := ?v1) rfl (by kernel_rfl) (by kernel_rfl) (by kernel_rfl) (fun _ _ _ h => h) (Or.inl ⟨by rfl, ?hy1⟩) hHeld ?rest1
  case hy1 =>
    intro w hSw
    go_simp
    try with_reducible rfl
  try simp only [Act.put, List.setIfInBounds_toArray, List.set_cons_zero, List.set_cons_succ, Array.toArray_toList, List.getElem_toArray, List.getElem_cons_zero, List.getElem_cons_succ]
  refine wpAnyH_take (i := 1) (v := ?v2) rfl (by kernel_rfl) (by kernel_rfl) (by kernel_rfl) (fun _ _ _ h => h) (Or.inl ⟨by rfl, ?hy2⟩) hHeld ?rest2
  case hy2 =>
    intro w hSw
    go_simp
    try with_reducible rfl
  try simp only [Act.put, List.setIfInBounds_toArray, List.set_cons_zero, List.set_cons_succ, Array.toArray_toList, List.getElem_toArray, List.getElem_cons_zero, List.getElem_cons_succ]
  refine wpAnyH_take (i := 2) (v := ?v3) rfl (by kernel_rfl) (by kernel_rfl) (by kernel_rfl) (fun _ _ _ h => h) (Or.inl ⟨by rfl, ?hy3⟩) hHeld ?rest3
  case hy3 =>
    intro w hSw
    go_simp
    try with_reducible rfl
  try simp only [Act.put, List.setIfInBounds_toArray, List.set_cons_zero, List.set_cons_succ, Array.toArray_toList, List.getElem_toArray, List.getElem_cons_zero, List.getElem_cons_succ]
  refine wpAnyH_take (i := 3) (v := ?v4) rfl (by kernel_rfl) (by kernel_rfl) (by kernel_rfl) (fun _ _ _ h => h) (Or.inl ⟨by rfl, ?hy4⟩) hHeld ?rest4
  case hy4 =>
    intro w hSw
    go_simp
    try with_reducible rfl
  try simp only [Act.put, List.setIfInBounds_toArray, List.set_cons_zero, List.set_cons_succ, Array.toArray_toList, List.getElem_toArray, List.getElem_cons_zero, List.getElem_cons_succ]
  refine wpAnyH_take (i := 4) (v := ?v5) rfl (by kernel_rfl) (by kernel_rfl) (by kernel_rfl) (fun _ _ _ h => h) (Or.inl ⟨by rfl, ?hy5⟩) hHeld ?rest5
  case hy5 =>
    intro w hSw
    go_simp
    try with_reducible rfl
  try simp only [Act.put, List.setIfInBounds_toArray, List.set_cons_zero, List.set_cons_succ, Array.toArray_toList, List.getElem_toArray, List.getElem_cons_zero, List.getElem_cons_succ]
  refine wpAnyH_take (i := 5) (v := ?v6) rfl (by kernel_rfl) (by kernel_rfl) (by kernel_rfl) (fun _ _ _ h => h) (Or.inl ⟨by rfl, ?hy6⟩) hHeld ?rest6
  case hy6 =>
    intro w hSw
    go_simp
    try with_reducible rfl
  try simp only [Act.put, List.setIfInBounds_toArray, List.set_cons_zero, List.set_cons_succ, Array.toArray_toList, List.getElem_toArray, List.getElem_cons_zero, List.getElem_cons_succ]
  refine wpAnyH_ready (rs := [6]) (by kernel_rfl) (by simp) ?_
  refine AllReadyH.cons rfl (fun K hK => ?_) AllReadyH.nil
  go_simp
  refine (rlaymany_any a n c A L C f _ (H.out _ (HB2.out.trans (hHeld.mono HB2.out.size))) ht).mono ?_
  rintro r w3 ⟨v3, rfl, ho3, hb3⟩
  dsimp only
  obtain ⟨a3, C3, rfl, _, _, hy3⟩ := (owns_bys ho3).2
  have cv3 : ∀ W, Below w3.heap.size w3 W → (convert 22 9 (.slice a3 T C3)).run Try.prog W = .ok (.string s) W := fun W hW => by have := conv_bys W _ _ _ _ (hy3.below hW); rw [ET.out, ES.out] at this; exact this
  rw [ET.out]
  refine hK.out _ _ (hHeld.trans (hb3.mono hHeld.size)) (fun hHeld => ?_)
  clear hK K
  try simp only [Act.put, List.setIfInBounds_toArray, List.set_cons_zero, List.set_cons_succ, Array.toArray_toList, List.getElem_toArray, List.getElem_cons_zero, List.getElem_cons_succ]
  have H23 := hid hHeld
  clear hHeld ho3 hy3
  refine wpAnyH_mono (S' := fun w' => Below w2.heap.size w2 w' ∧ Below w3.heap.size w3 w') (fun _ h => h.1) _ _ _ _ ?_
  have hHeld : Below w2.heap.size w2 w3 ∧ Below w3.heap.size w3 w3 := ⟨H23.out, Below.refl _ _⟩
  clear hb3
  refine wpAnyH_take (i := 7) (v := ?v7) rfl (by kernel_rfl) (by kernel_rfl) (by kernel_rfl) (fun _ _ _ h => h) (Or.inl ⟨by rfl, ?hy7⟩) hHeld ?rest7
  case hy7 =>
    intro w hSw
    have hS2 := hSw.2
    go_simp
    try with_reducible rfl
  try simp only [Act.put, List.setIfInBounds_toArray, List.set_cons_zero, List.set_cons_succ, Array.toArray_toList, List.getElem_toArray, List.getElem_cons_zero, List.getElem_cons_succ]
  refine wpAnyH_take (i := 8) (v := ?v8) rfl (by kernel_rfl) (by kernel_rfl) (by kernel_rfl) (fun _ _ _ h => h) (Or.inl ⟨by rfl, ?hy8⟩) hHeld ?rest8
  case hy8 =>
    intro w hSw
    go_simp
    try with_reducible rfl
  try simp only [Act.put, List.setIfInBounds_toArray, List.set_cons_zero, List.set_cons_succ, Array.toArray_toList, List.getElem_toArray, List.getElem_cons_zero, List.getElem_cons_succ]
  refine wpAnyH_take (i := 9) (v := ?v9) rfl (by kernel_rfl) (by kernel_rfl) (by kernel_rfl) (fun _ _ _ h => h) (Or.inl ⟨by rfl, ?hy9⟩) hHeld ?rest9
  case hy9 =>
    intro w hSw
    go_simp
    try with_reducible rfl
  try simp only [Act.put, List.setIfInBounds_toArray, List.set_cons_zero, List.set_cons_succ, Array.toArray_toList, List.getElem_toArray, List.getElem_cons_zero, List.getElem_cons_succ]
  refine wpAnyH_done (by kernel_rfl) ?_ _
  refine NoPanic.normal ?_
  clear hHeld cv2 cv3
  have HB3 := hid (HB2.out.trans (H23.out.mono HB2.out.size))
  have HM1 := hid (HMM.out n w3 a2 C2 (HY2.out.below H23.out) hC1 hC2 (by omega))
  have HM2 : Hid (∀ W, Below w2.heap.size w2 W → _) := fun W hW => HMM.out most W a2 C2 (HY2.out.below hW) hC1 hC2 hm1
  obtain ⟨m1, m2, m3⟩ := mmE_at n most
  have mm := (mmE_at n n).2.2 (Int.le_refl _)
  rw [mm] at HM1
  have MM := hid (And.intro m1 (And.intro m2 m3))
  clear mm m1 m2 m3 HMM
  go_upto_region 10 with (first
    | (go_at_call 18; have mk := MK; refine (HM2.out _ H25.out).mono ?_; rintro r w6 ⟨a6, N6, c6, A6, L6, f6, rfl, hb6, _, _, _⟩; have HB6 := hid (HB5.out.trans (hb6.mono HB5.out.size)); clear hb6)
    | (go_at_call 18; refine HM1.out.mono ?_; rintro r w4 ⟨a4, N4, c4, A4, L4, f4, rfl, hb4, hN4, hp4, hs4⟩; have HB4 := hid (HB3.out.trans (hb4.mono HB3.out.size)); have H24 := hid (H23.out.trans (hb4.mono H23.out.size)); have HS4 := hid (hs4 (Int.le_refl _)); have HP4 := hid hp4; have HN4 := hid hN4; clear hb4 hp4 hs4 hN4)
    | (go_at_call 12; refine (same_any a4 N4 c4 A4 L4 L4 f4 a n c A L C f _ HP4.out (H.out _ HB4.out) HN4.out).mono ?_; rintro r w5 ⟨rfl, hb5⟩; rw [HS4.out]; have HB5 := hid (HB4.out.trans (hb5.mono HB4.out.size)); have H25 := hid (H24.out.trans (hb5.mono H24.out.size)); have MK := True.intro; clear hb5))
  by_cases h1 : most < 0
  · rw [MM.out.1 h1]
    go_wp2
    go_ret
    exact ⟨rfl, HB6.out⟩
  · by_cases h2 : most < n
    · rw [MM.out.2.1 (by omega) (by omega)]
      have g1 : ¬ (n : Int) ≤ most := by omega
      go_wp2
      go_ret
      exact ⟨rfl, HB6.out⟩
    · rw [MM.out.2.2 (by omega)]
      have g1 : (n : Int) ≤ most := by omega
      go_wp2
      go_ret
      exact ⟨rfl, HB6.out⟩

end Go.Proofs.Ytppjpodlnelomaa
