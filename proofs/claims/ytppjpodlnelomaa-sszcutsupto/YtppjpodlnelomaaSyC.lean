/-
  What SszLays answers.
-/
import Derived.Test.YtppjpodlnelomaaSyB
namespace Go.Proofs.Ytppjpodlnelomaa
open Go.RowKit
set_option linter.unusedVariables false
set_option linter.unusedSimpArgs false

theorem loL_le (zs : Nat → Int) (L : Nat → Nat) (k : Nat) : loL zs L k ≤ sumL L k := by
  induction k with
  | zero => exact Nat.le_refl _
  | succ k ih =>
    show loL zs L k + (if zs k = 0 then L k else 0) ≤ sumL L k + L k
    by_cases h : zs k = 0
    · rw [if_pos h]; omega
    · rw [if_neg h]; omega
theorem conv_nil (W : World) : (convert 22 9 (.slice none 0 0)).run Try.prog W = .ok (.string (strF (fun _ => 0) 0)) W := conv_bys W none 0 0 _ (.inl ⟨rfl, rfl, rfl⟩)

set_option maxRecDepth 20000 in
set_option maxHeartbeats 1000000 in
theorem lays_err (E : Int) (hE : E = 1 ∨ E = 4) (a : Option Addr) (n c : Nat) (sa : Option Addr) (m sc : Nat) (w : World)
    (h1 : ∀ W, Below w.heap.size w W → Calls Try.prog 13 #[.slice a n c, .slice sa m sc] W fun e w' => e = .returned (.tuple #[.slice none 0 0, .int .i64 E]) ∧ Below W.heap.size W w')
    (h2 : ∀ W, Below w.heap.size w W → Calls Try.prog 15 #[.slice a n c, .slice sa m sc] W fun e w' => e = .returned (.tuple #[.slice none 0 0, .int .i64 E]) ∧ Below W.heap.size W w') :
    Calls Try.prog 4 #[.slice a n c, .slice sa m sc] w fun e w' => e = .returned (.bool true) ∧ Below w.heap.size w w' := by
  have H1 := hid h1
  have H2 := hid h2
  have cn := conv_nil
  obtain ⟨s, es⟩ : ∃ s, strF (fun _ => 0) 0 = s := ⟨_, rfl⟩
  rw [es] at cn
  have e0 : (E != 0) = true := by rw [bne_iff_ne]; omega
  clear h1 h2 es hE
  go_enter Try.func4, Try.ntmps4
  go_wp2_with (first
    | (go_at_call 9; refine (awake_any _).mono ?_; rintro r w1 ⟨rfl, hb1⟩; have HB1 := hid hb1; clear hb1)
    | (go_at_call 13; refine (H1.out _ HB1.out).mono ?_; rintro r w2 ⟨rfl, hb2⟩; have HB2 := hid (HB1.out.trans (hb2.mono HB1.out.size)); clear hb2)
    | (go_at_call 15; refine (H2.out _ HB2.out).mono ?_; rintro r w3 ⟨rfl, hb3⟩; have HB3 := hid (HB2.out.trans (hb3.mono HB2.out.size)); clear hb3))
  go_ret
  exact ⟨rfl, HB3.out⟩

set_option maxRecDepth 20000 in
set_option maxHeartbeats 1000000 in
theorem lays_ok (zs : Nat → Int) (a : Option Addr) (n c : Nat) (A : Nat → Option Addr) (L C : Nat → Nat) (f : Nat → Nat → Int) (sa : Option Addr) (sc : Nat) (w : World) (h : Parts w a n A L C f) (hf : ∀ r, r < n → ∀ q, q < L r → 0 ≤ f r q ∧ f r q < 256) (hn : Nms .i64 w sa n zs) (hsz : szB zs n = true) (hLb : ∀ r, r < n → L r ≤ 9223372036854775807) (hfit : Fits zs L n) (ht : hdL zs n + loL zs L n < 4294967296) :
    Calls Try.prog 4 #[.slice a n c, .slice sa n sc] w fun e w' => e = .returned (.bool true) ∧ Below w.heap.size w w' := by
  have HP : Hid (∀ W, Below w.heap.size w W → Parts W a n A L C f) := fun W hW => h.below hW
  have H1 : Hid (∀ W, Below w.heap.size w W → _) := fun W hW => lay_ok zs a n c A L C f sa sc W (h.below hW) (hn.below hW) hsz hLb hfit ht
  have H2 : Hid (∀ W, Below w.heap.size w W → _) := fun W hW => rlay_ok zs a n c A L C f sa sc W (h.below hW) (hn.below hW) hsz hLb ht hfit
  have H3 : Hid (∀ W ao cap, Below w.heap.size w W → Bys W ao (hdL zs n + loL zs L n) cap (fun j => (layC zs f L n).getD j 0) → hdL zs n + loL zs L n ≤ cap → cap ≤ 9223372036854775807 → _) := fun W ao cap hW hy h1 h2 => cut_laid zs f L n ao cap sa sc W hf hfit ht hy h1 h2 (hn.below hW) hsz
  obtain ⟨hn1, hnb, hok⟩ := szB_out hsz
  obtain ⟨T, eT⟩ : ∃ T, hdL zs n + loL zs L n = T := ⟨_, rfl⟩
  rw [eT] at H1 H2 H3
  obtain ⟨s, es⟩ : ∃ s, strF (fun j => (layC zs f L n).getD j 0) T = s := ⟨_, rfl⟩
  have ES := hid es
  clear h hf hn hsz hLb hfit ht eT es hok
  go_enter Try.func4, Try.ntmps4
  go_upto_region 5 with (first
    | (go_at_call 9; refine (awake_any _).mono ?_; rintro r w1 ⟨rfl, hb1⟩; have HB1 := hid hb1; clear hb1)
    | (go_at_call 13; refine (H1.out _ HB1.out).mono ?_; rintro r w2 ⟨v2, rfl, ho2, hb2⟩; have HB2 := hid (HB1.out.trans (hb2.mono HB1.out.size)); obtain ⟨a2, C2, rfl, hC1, hC2, hy2⟩ := (owns_bys ho2).2; have HY2 := hid hy2; clear ho2 hb2 hy2)
    | (go_at_call 15; refine (H2.out _ HB2.out).mono ?_; rintro r w3 ⟨v3, rfl, ho3, hb3⟩; have HB3 := hid (HB2.out.trans (hb3.mono HB2.out.size)); have H23 := hid hb3; obtain ⟨a3, C3, rfl, hC3, hC4, hy3⟩ := (owns_bys ho3).2; have HY3 := hid hy3; clear ho3 hb3 hy3))
  have v2 := conv_bys w3 _ _ _ _ (HY2.out.below H23.out)
  have v3 := conv_bys w3 _ _ _ _ HY3.out
  rw [ES.out] at v2 v3
  have HC := hid (H3.out w3 a2 C2 HB3.out (HY2.out.below H23.out) hC1 hC2)
  clear H1 H2 H3 HB1
  go_wp2_with (first
    | (go_at_call 10; refine HC.out.mono ?_; rintro r w4 ⟨gp, A4, f4, rfl, hp4, hs4, hb4⟩; have HP4 := hid hp4; have HS4 := hid hs4; have HB4 := hid (HB3.out.trans (hb4.mono HB3.out.size)); clear hp4 hs4 hb4)
    | (go_at_call 12; refine (same_any _ n n A4 L L f4 a n c A L C f _ HP4.out (HP.out _ HB4.out) (by omega)).mono ?_; rintro r w5 ⟨rfl, hb5⟩; rw [HS4.out]; have HB5 := hid (HB4.out.trans (hb5.mono HB4.out.size)); clear hb5))
  go_ret
  exact ⟨rfl, HB5.out⟩

theorem lays_law (zs : Nat → Int) (a : Option Addr) (n c : Nat) (A : Nat → Option Addr) (L C : Nat → Nat) (f : Nat → Nat → Int) (sa : Option Addr) (m sc : Nat) (w : World) (h : Parts w a n A L C f) (hf : ∀ r, r < n → ∀ q, q < L r → 0 ≤ f r q ∧ f r q < 256) (hn : Nms .i64 w sa m zs) (hLb : ∀ r, r < n → L r ≤ 9223372036854775807) (hm : m ≤ 1048576) (hs : sumL L n ≤ 1048576) :
    Calls Try.prog 4 #[.slice a n c, .slice sa m sc] w fun e w' => e = .returned (.bool true) ∧ Below w.heap.size w w' := by
  cases hsz : szB zs m
  · exact lays_err 1 (.inl rfl) a n c sa m sc w (fun W hW => lay_arg zs a n c A L C f sa m sc W (hn.below hW) (by omega) hsz) (fun W hW => rlay_arg zs a n c A L C f sa m sc W (hn.below hW) (by omega) hsz)
  · by_cases hnm : n = m
    · subst hnm
      obtain ⟨hn1, hnb, hok⟩ := szB_out hsz
      have hH := hdL_bd n hok
      have hlo := loL_le zs L n
      by_cases hfit : Fits zs L n
      · exact lays_ok zs a n c A L C f sa sc w h hf hn hsz hLb hfit (by omega)
      · exact lays_err 4 (.inr rfl) a n c sa n sc w (fun W hW => lay_size zs a n c A L C f sa sc W (h.below hW) (hn.below hW) hsz hLb hfit) (fun W hW => rlay_size zs a n c A L C f sa sc W (h.below hW) (hn.below hW) hsz hLb (by omega) hfit)
    · exact lays_err 1 (.inl rfl) a n c sa m sc w (fun W hW => lay_count zs a n c A L C f sa m sc W (hn.below hW) (by omega) hsz hnm) (fun W hW => rlay_count zs a n c A L C f sa m sc W (hn.below hW) (by omega) hsz hnm)

end Go.Proofs.Ytppjpodlnelomaa
