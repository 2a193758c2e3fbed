/-
  SszLists answers true.
-/
import Derived.Test.YtfhplpcbaoefeaaSyS
import Derived.Test.YtfhplpcbaoefeaaSyK
import Derived.Test.YtfhplpcbaoefeaaSyF
import Derived.Test.YtfhplpcbaoefeaaSzX
namespace Go.Proofs.Ytfhplpcbaoefeaa
open Go.RowKit
set_option linter.unusedVariables false
set_option linter.unusedSimpArgs false

theorem own_open {w : World} {B n : Nat} {v : Value} {m : Nat → Int} (h : w.ownsRow B 5 1 v n (bl m n)) : ∃ a C, v = .slice a n C ∧ n ≤ C ∧ C ≤ 9223372036854775807 ∧ Bys w a n C m := by
  obtain ⟨a, C, rfl⟩ := owns_form h
  refine ⟨a, C, rfl, ?_, ?_, own_bys h⟩
  · rcases h.2 with ⟨h1, h0⟩ | ⟨g, cap, cur, h1, _, _, h4, h5, _⟩
    · omega
    · cases h1; exact h4
  · rcases h.2 with ⟨h1, h0⟩ | ⟨g, cap, cur, h1, _, _, h4, h5, _⟩
    · cases h1; omega
    · cases h1; unfold maxLen at h5; omega
theorem iv_range (m : Nat → Int) (n : Nat) : iv ((List.range n).map m) = bl m n := by
  unfold iv bl
  rw [List.map_map]
  rfl

set_option maxRecDepth 20000 in
set_option maxHeartbeats 16000000 in
theorem lists_law (m : Nat → Int) (ao : Option Addr) (len cap : Nat) (size most : Int) (w : World) (hb : Bys w ao len cap m) (hm : ∀ j, 0 ≤ m j ∧ m j < 256) (hlen : len ≤ 1048576) (hlc : len ≤ cap) (hs : size ≤ 9223372036854775807) (hm1 : most ≤ 9223372036854775807) :
    Calls Try.prog 3 #[.slice ao len cap, .int .i64 size, .int .i64 most] w fun e w' => e = .returned (.bool true) ∧ Below w.heap.size w w' := by
  have HBY : Hid (∀ W, Below w.heap.size w W → Bys W ao len cap m) := fun W hW => hb.below hW
  obtain ⟨N1, E1, L1, f1, hN1, hx1, hy1⟩ := each_full m len size most hlen hs hm1
  obtain ⟨N2, E2, L2, f2, hN2, hx2, hy2, hz2⟩ := many_full m hm len most hlen hm1
  have X1 := hid hx1
  have Y1 := hid hy1
  have X2 := hid hx2
  have Y2 := hid hy2
  have Z2 := hid hz2
  obtain ⟨s, es⟩ : ∃ s, strF m len = s := ⟨_, rfl⟩
  have ES := hid es
  have HLC := hid hlc
  clear hb hm es hx1 hy1 hx2 hy2 hz2 hs hm1
  go_enter Try.func3, Try.ntmps3
  go_upto_region 8 with (first
    | (go_at_call 4; refine (awake_any _).mono ?_; rintro r w1 ⟨rfl, hb1⟩; have HB1 := hid hb1; clear hb1)
    | (at_builtin; refine wpList_append_bys _ rfl _ _ rfl w1.heap.size _ 0 [] rfl (empty_bytes w1 (Nat.le_refl _)) ao len cap m rfl (HBY.out _ (HB1.out.alloc HB1.out.size _)) (by omega) (by simp) ?_; intro v2 w2 ho2 hg2; obtain ⟨a2, C2, rfl, hC1, hC2, hy2⟩ := own_open (copy_bl ho2); have HY2 := hid hy2; have HC1 := hid hC1; have HC2 := hid hC2; have HB2 := hid (HB1.out.trans ((below_new hg2).mono HB1.out.size)); clear ho2 hg2 hy2 hC1 hC2)
    | (go_at_call 5; refine (X1.out w2 a2 C2 HY2.out HC1.out).mono ?_; rintro r w3 ⟨a3, c3, A3, C3, rfl, hp3, hb3, hw3⟩; have H23 := hid hb3; have HB3 := hid (HB2.out.trans (hb3.mono HB2.out.size)); have HP3 := hid hp3; have HW3 := hid hw3; clear hb3 hp3 hw3)
    | (go_at_call 6; refine (Y1.out w3 ao cap (HBY.out _ HB3.out) HLC.out).mono ?_; rintro r w4 ⟨a4, c4, A4, C4, rfl, hp4, hb4⟩; have H34 := hid hb4; have HB4 := hid (HB3.out.trans (hb4.mono HB3.out.size)); have HP4 := hid hp4; clear hb4 hp4)
    | (go_at_call 7; refine (same_any a3 N1 c3 A3 L1 C3 f1 a4 N1 c4 A4 L1 C4 f1 _ (HP3.out.below H34.out) HP4.out (by omega)).mono ?_; rintro r w5 ⟨rfl, hb5⟩; rw [samB_true (fun _ _ => rfl)]; have HB5 := hid (HB4.out.trans (hb5.mono HB4.out.size)); have H35 := hid (H34.out.trans (hb5.mono H34.out.size)); have H25 := hid (H23.out.trans (H35.out.mono H23.out.size)); clear hb5))
  clear X1 Y1 HP3 HP4
  go_upto_region 12 with (first
    | (go_at_call 8; refine (X2.out w5 a2 C2 (HY2.out.below H25.out) HC1.out HC2.out).mono ?_; rintro r w6 ⟨a6, c6, A6, C6, rfl, hp6, hb6, hw6⟩; have H56 := hid hb6; have HB6 := hid (HB5.out.trans (hb6.mono HB5.out.size)); have HP6 := hid hp6; have HW6 := hid hw6; clear hb6 hp6 hw6)
    | (go_at_call 9; refine (Y2.out w6 ao cap (HBY.out _ HB6.out) HLC.out).mono ?_; rintro r w7 ⟨a7, c7, A7, C7, rfl, hp7, hb7⟩; have H67 := hid hb7; have HB7 := hid (HB6.out.trans (hb7.mono HB6.out.size)); have HP7 := hid hp7; clear hb7 hp7)
    | (go_at_call 7; refine (same_any a6 N2 c6 A6 L2 C6 f2 a7 N2 c7 A7 L2 C7 f2 _ (HP6.out.below H67.out) HP7.out (by omega)).mono ?_; rintro r w8 ⟨rfl, hb8⟩; rw [samB_true (fun _ _ => rfl)]; have HB8 := hid (HB7.out.trans (hb8.mono HB7.out.size)); have H68 := hid (H67.out.trans (hb8.mono H67.out.size)); clear hb8))
  have HFIN : Hid (∀ W W' W'', Below w8.heap.size w8 W → KI w2.heap.size w3.heap.size W W' → KI w5.heap.size w6.heap.size W' W'' → Bys W'' a2 len C2 m ∧ Below w.heap.size w W'') := by
    intro W W' W'' h1 h2 h3
    have s2 := HB2.out.size
    have s3 := H23.out.size
    have s5 := H35.out.size
    have s6 := H56.out.size
    have s8 := H68.out.size
    have sW := h1.size
    have sV := h2.size
    have a1 : Below w2.heap.size w2 W'' := (((H25.out.trans (H56.out.mono H25.out.size)).trans (H68.out.mono (by omega))).trans (h1.mono (by omega))).trans ((h2.below (Nat.le_refl _) (by omega)).trans (h3.below (by omega) (by omega)))
    exact ⟨HY2.out.below a1, HB2.out.trans (a1.mono HB2.out.size)⟩
  have HWA : Hid (∀ W, Below w8.heap.size w8 W → Calls Try.prog 11 #[.slice a3 N1 c3] W fun e W' => e = .returned (.tuple #[]) ∧ KI w2.heap.size w3.heap.size W W') := by
    intro W h1
    have s3 := H23.out.size
    have s5 := H35.out.size
    have s6 := H56.out.size
    have s8 := H68.out.size
    have sW := h1.size
    have a1 : Below w3.heap.size w3 W := ((H35.out.trans (H56.out.mono H35.out.size)).trans (H68.out.mono (by omega))).trans (h1.mono (by omega))
    exact HW3.out W (by omega) (fun k _ hk => a1.block k hk)
  have HWB : Hid (∀ W W', Below w8.heap.size w8 W → KI w2.heap.size w3.heap.size W W' → Calls Try.prog 11 #[.slice a6 N2 c6] W' fun e W'' => e = .returned (.tuple #[]) ∧ KI w5.heap.size w6.heap.size W' W'') := by
    intro W W' h1 h2
    have s5 := H35.out.size
    have s6 := H56.out.size
    have s8 := H68.out.size
    have sW := h1.size
    have sV := h2.size
    have a1 : Below w6.heap.size w6 W := H68.out.trans (h1.mono (by omega))
    exact HW6.out W' (by omega) (fun k hk1 hk => (h2.block k (by omega) (.inr (by omega))).trans (a1.block k hk))
  clear HP7 X2 Y2 HW3 HW6 HY2
  by_cases hE : E2 = 0
  · subst hE
    obtain ⟨z1, z2, z3⟩ := Z2.out rfl
    have hl := laymany_ok a6 N2 c6 A6 L2 C6 f2 w8 (HP6.out.below H68.out) z3 (by rw [z1]; omega)
    rw [z1, z2, iv_range] at hl
    have HLY := hid hl
    clear hl z1 z2 z3 Z2 HP6
    go_upto_region 17 with (first
      | (go_at_call 10; refine HLY.out.mono ?_; rintro r w9 ⟨v9, rfl, ho9, hb9⟩; obtain ⟨a9, C9, rfl, _, _, hy9⟩ := own_open ho9; have H89 := hid hb9; have HB9 := hid (HB8.out.trans (hb9.mono HB8.out.size)); have cv3 := conv_bys w9 _ _ _ _ hy9; have cv4 := conv_bys w9 _ _ _ _ (HBY.out _ HB9.out); rw [ES.out] at cv3 cv4; clear ho9 hb9 hy9)
      | (go_at_call 11; refine (HWA.out w9 H89.out).mono ?_; rintro r w10 ⟨rfl, hk10⟩; have HK10 := hid hk10; clear hk10))
    clear HWA HLY
    go_wp2_with (first
      | (go_at_call 11; refine (HWB.out w9 w10 H89.out HK10.out).mono ?_; rintro r w11 ⟨rfl, hk11⟩; have HF := hid (HFIN.out _ _ _ H89.out HK10.out hk11); have cv5 := conv_bys w11 _ _ _ _ HF.out.1; have cv6 := conv_bys w11 _ _ _ _ (HBY.out _ HF.out.2); rw [ES.out] at cv5 cv6; clear hk11))
    go_ret
    exact ⟨rfl, HF.out.2⟩
  · have e0 : (E2 != 0) = true := by rw [bne_iff_ne]; exact hE
    have e1 : (E2 == 0) = false := by rw [beq_eq_false_iff_ne]; exact hE
    have H88 := hid (Below.refl w8.heap.size w8)
    clear Z2 HP6
    go_upto_region 17 with (first
      | (go_at_call 11; refine (HWA.out w8 H88.out).mono ?_; rintro r w10 ⟨rfl, hk10⟩; have HK10 := hid hk10; clear hk10))
    clear HWA
    go_wp2_with (first
      | (go_at_call 11; refine (HWB.out w8 w10 H88.out HK10.out).mono ?_; rintro r w11 ⟨rfl, hk11⟩; have HF := hid (HFIN.out _ _ _ H88.out HK10.out hk11); have cv5 := conv_bys w11 _ _ _ _ HF.out.1; have cv6 := conv_bys w11 _ _ _ _ (HBY.out _ HF.out.2); rw [ES.out] at cv5 cv6; clear hk11))
    go_ret
    exact ⟨rfl, HF.out.2⟩

end Go.Proofs.Ytfhplpcbaoefeaa
