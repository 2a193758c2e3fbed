/-
  StateApart, walked.
-/

import Derived.Test.YtehpfemlcjcabaaStS
import Derived.BigRegion

import Derived.Laws.BitsAllLaws

namespace Go.Proofs.Ytehpfemlcjcabaa

open Go.RowKit

set_option linter.unusedVariables false

set_option linter.unusedSimpArgs false

set_option maxRecDepth 20000

theorem fitn {x : VState} (h : fitB x = true) : x.f7.n ≤ 1024 ∧ x.f9.n ≤ 8 ∧ x.f11.n ≤ 65536 ∧ x.f12.n ≤ 65536 ∧ x.f15.n ≤ 65536 ∧ x.f16.n ≤ 65536 ∧ x.f21.n ≤ 65536 := by
  unfold fitB at h
  simp only [Bool.and_eq_true, decide_eq_true_eq] at h
  omega

theorem tL_lt {x : VState} (h : fitB x = true) : tL x < 4294967296 := by
  have := fitn h
  rw [tL_is]
  omega

theorem bytes_sim {x X : VState} (h : SimF x X) : mS X = mS x ∧ tL X = tL x := by
  have e := mS_sim h
  have e1 : pL X = pL x := funext fun r => by unfold pL; rw [e]
  have e2 : pF X = pF x := funext fun r => by unfold pF; rw [e]
  refine ⟨funext fun j => ?_, ?_⟩
  · unfold mS
    rw [e1, e2]
  · unfold tL
    rw [e1]

/-- The bytes of a state, as they are answered. -/
theorem encB (x : VState) (w : World) (hx : OkState x) (hw : InW w x) (hf : fitB x = true) (s : ByteArray) (hs : Z.strF (mS x) (tL x) = s) (n : Nat) (hn : tL x = n) :
    Calls Try.prog 11 #[.agg (cel (sState x))] w fun e w' => ∃ a c, e = .returned (.tuple #[.slice a n c, .int .i64 0]) ∧ (∀ X, Below w'.heap.size w' X → (convert 39 9 (.slice a n c)).run Try.prog X = .ok (.string s) X) ∧ Below w.heap.size w w' := by
  refine (encState_ok x w hx hw hf (fitn hf)).mono ?_
  rintro e w' ⟨v, rfl, ho, hb⟩
  rw [mS_bl] at ho
  obtain ⟨a, c, rfl, hy⟩ := own_at ho
  rw [hn] at hy ⊢
  refine ⟨a, c, rfl, fun X hX => ?_, hb⟩
  rw [Z.conv_bys X a n c _ (hy.below hX), ← hs, hn]

theorem src_root {w : World} {g : Nat} {t : TypeId} (h : w.heap[g]? = some (.cells (vs .u8 32 fun _ => 0) t)) : Src w 32 (some ⟨g, 0, none⟩) 1 1 (bl (fun _ => 0) 32) :=
  ⟨(fun h => by cases h), by rw [bl_len], (fun u hu => by obtain ⟨j, _, rfl⟩ := List.mem_map.1 hu; rfl), .inr ⟨g, 0, rfl, some_lt h, (fun j u hj => by
    have hlt := (List.getElem?_eq_some_iff.1 hj).1
    rw [bl_len] at hlt
    rw [bl_at _ _ _ hlt] at hj
    cases hj
    rw [Nat.zero_add]
    exact row_int h j hlt)⟩⟩

theorem src_byte {w : World} {g : Nat} {t : TypeId} (h : w.heap[g]? = some (.cells #[.int .u8 0] t)) : Src w 1 (some ⟨g, 0, none⟩) 1 1 (bl (fun _ => 0) 1) :=
  ⟨(fun h => by cases h), by rw [bl_len], (fun u hu => by obtain ⟨j, _, rfl⟩ := List.mem_map.1 hu; rfl), .inr ⟨g, 0, rfl, some_lt h, (fun j u hj => by
    have hlt := (List.getElem?_eq_some_iff.1 hj).1
    rw [bl_len] at hlt
    rw [bl_at _ _ _ hlt] at hj
    cases hj
    obtain rfl : j = 0 := by omega
    rw [row_cell h]
    rfl)⟩⟩

theorem xo_same {B x : Nat} (h : B ^^^ x = B) : x = 0 := by
  have : B ^^^ (B ^^^ x) = B ^^^ B := by rw [h]
  rw [← Nat.xor_assoc, Nat.xor_self, Nat.zero_xor] at this
  exact this

theorem xo_lt {B x : Nat} (h1 : B < 256) (h2 : x < 256) : B ^^^ x < 256 := Nat.xor_lt_two_pow (n := 8) h1 h2

theorem bs_z (W : World) : (bs22 1 #[(0, .agg (vs .u8 32 fun _ => 0))]).run Try.prog W = .ok (.slice (some ⟨W.heap.size, 0, none⟩) 1 1) (W.alloc (.cells (vs .u8 32 fun _ => 0) 24)) := by kernel_rfl

theorem bd27_z (W : World) : (bd27 #[]).run Try.prog W = .ok (.agg (vs .u8 32 fun _ => 0)) W := by kernel_rfl

theorem wrap_bd (v : Int) : 0 ≤ IntKind.u64.wrap v ∧ IntKind.u64.wrap v < 18446744073709551616 := by
  rw [IntKind.wrap_u64]
  omega

theorem place8 (i : Int) : ∃ K : Nat, K < 8 ∧ (i.tmod 8 + 8).tmod 8 = (K : Int) ∧ (i.tmod 8 + 8) % 8 = (K : Int) ∧ -8 < i.tmod 8 ∧ i.tmod 8 < 8 := by
  obtain ⟨K, h1, h2, h3, h4⟩ := place i 8 (by omega)
  have h3' : -8 < i.tmod 8 := h3
  refine ⟨K, h1, h2, ?_, h3, h4⟩
  refine Eq.trans ?_ h2
  exact (Int.tmod_eq_emod_of_nonneg (by omega)).symm

attribute [local go_sem ↓] lvState_eq svState_eq bd27_eq bs22_eq

set_option maxHeartbeats 16000000 in
theorem apart_law (x : VState) (i less : Int) (w : World) (hx : OkState x) (hw : InW w x) (hn : NilW x) (hi0 : -9223372036854775808 ≤ i) (hi1 : i ≤ 9223372036854775807) (hs0 : 0 ≤ less) (hs1 : less < 18446744073709551616) :
    Calls Try.prog 4 #[.agg (cel (sState x)), .int .i64 i, .int .u64 less] w fun e w' => e = .returned (.bool true) ∧ Below w.heap.size w w' := by
  obtain ⟨W0, hW0⟩ : ∃ W, w.alloc (.cells (cel (sState x)) 49) = W := ⟨_, rfl⟩
  have hB0 : Below w.heap.size w W0 := by rw [← hW0]; exact (Below.refl _ _).alloc (Nat.le_refl _) _
  have r0 : W0.heap[w.heap.size]? = some (.cells (cel (sState x)) 49) := by rw [← hW0]; exact heap_new rfl
  have z0 : w.heap.size < W0.heap.size := by rw [← hW0]; simp
  obtain ⟨b0, eb⟩ : ∃ y, w.heap.size = y := ⟨_, rfl⟩
  have HLV : Hid (∀ X, Below W0.heap.size W0 X → (lvState ⟨b0, 0, none⟩).run Try.prog X = .ok (.agg (cel (sState x))) X) := fun X h => lvState_run (by rw [← eb]; exact (h.block _ z0).trans r0)
  have HIN : Hid (∀ X, Below W0.heap.size W0 X → InW X x) := fun X h => hw.below (hB0.trans (h.mono hB0.size))
  have HB0w := hid hB0
  have HX := hid hx
  have HNW := hid hn
  have z := zeroState
  clear hB0 r0 hx hw hn
  go_enter Try.func4, Try.ntmps4
  go_upto_region 1 with fail
  clear hW0 eb z0
  go_upto_region 3 with (go_at_call 6; refine (awake10 _).mono ?_; rintro e w1 ⟨rfl, hb⟩; have S1 := hid hb; have lv1 := HLV.out _ S1.out; clear hb)
  cases hB : fitB x
  · have HE := hid (encState_long x w1 hB)
    clear hB
    go_wp2_with (go_at_call 11; refine HE.out.mono ?_; rintro e w2 ⟨rfl, hb⟩; have HB2 := hid (S1.out.trans (hb.mono S1.out.size)); clear hb)
    go_ret
    exact ⟨rfl, HB0w.out.trans (HB2.out.mono HB0w.out.size)⟩
  have HBT := hid hB
  obtain ⟨SX, eSX⟩ : ∃ S, Z.strF (mS x) (tL x) = S := ⟨_, rfl⟩
  obtain ⟨TX, eTX⟩ : ∃ n, tL x = n := ⟨_, rfl⟩
  have HE := hid (encB x w1 HX.out (HIN.out _ S1.out) hB SX eSX TX eTX)
  have ESX := hid eSX
  clear hB eSX eTX
  by_cases hb0 : less = 0
  · subst hb0
    go_wp2_with (go_at_call 11; refine HE.out.mono ?_; rintro e w2 ⟨a2, c2, rfl, hcv, hb⟩; have HB2 := hid (S1.out.trans (hb.mono S1.out.size)); clear hb hcv)
    go_ret
    exact ⟨rfl, HB0w.out.trans (HB2.out.mono HB0w.out.size)⟩
  have nb : (less == 0) = false := by simp; exact hb0
  have HB00 := hid (show 0 < less ∧ less < 18446744073709551616 by omega)
  clear hb0
  go_upto_region 6 with (go_at_call 11; refine HE.out.mono ?_; rintro e w2 ⟨a2, c2, rfl, hcv, hb⟩; have S2 := hid (S1.out.trans (hb.mono S1.out.size)); have lv2 := HLV.out _ S2.out; have CV := hid hcv; clear hb hcv)
  clear lv1 HE nb
  have HCP := hid (copy_full x w2 (HIN.out _ S2.out) HNW.out (by have := fitn HBT.out; omega))
  go_upto_region 7 with (go_at_call 7; refine HCP.out.mono ?_; rintro e w3 ⟨X, rfl, hsim, hcp, hb⟩; have sv := svState_newv w3 oState X; have HSM := hid hsim; have HCD := hid hcp; have HB3 := hid hb; clear hb hsim hcp)
  clear lv2 HCP z
  obtain ⟨y, ey⟩ : ∃ y, w3.heap.size = y := ⟨_, rfl⟩
  obtain ⟨V0, hV⟩ : ∃ V, w3.alloc (.cells (cel (sState X)) 49) = V := ⟨_, rfl⟩
  have HBF : Hid (BF w2 y V0 X) := by
    have hbv : Below w3.heap.size w3 V0 := by rw [← hV]; exact (Below.refl _ _).alloc (Nat.le_refl _) _
    refine ⟨HB3.out.trans (hbv.mono HB3.out.size), ?_, HCD.out.below hbv⟩
    rw [← hV, ← ey]
    exact heap_new rfl
  have HY := hid (show w2.heap.size ≤ y by have := HB3.out.size; omega)
  have HOX := hid (okF_sim HSM.out HX.out)
  have HFX := hid ((fit_sim HSM.out).trans HBT.out)
  have HSX : Hid (Z.strF (mS X) (tL X) = SX) := by
    have h := bytes_sim HSM.out
    rw [show Z.strF (mS X) (tL X) = Z.strF (mS x) (tL x) by rw [h.1, h.2]]
    exact ESX.out
  rw [hV, ey]
  clear hV ey sv HCD HB3 HSM HBT ESX HX
  obtain ⟨K, hK, eK, eK2, t1, t2⟩ := place8 i
  obtain ⟨R, eR⟩ : ∃ R, i.tmod 8 = R := ⟨_, rfl⟩
  rw [eR] at eK eK2 t1 t2
  rcases (by omega : K = 0 ∨ K = 1 ∨ K = 2 ∨ K = 3 ∨ K = 4 ∨ K = 5 ∨ K = 6 ∨ K = 7) with rfl | rfl | rfl | rfl | rfl | rfl | rfl | rfl
  · replace eK : (R + 8).tmod 8 = 0 := eK
    replace eK2 : (R + 8) % 8 = 0 := eK2
    have l2 : V0.cell? ⟨y, 33, none⟩ = some (.int .u64 X.f2) := cS2 HBF.out.row
    have fz := row_frozen HBF.out.row 33
    have hv : 0 ≤ X.f2 ∧ X.f2 < 18446744073709551616 := HOX.out.o2
    have hne := add_ne hv HB00.out
    have hwb := wrap_bd (X.f2 + less)
    obtain ⟨v, ev⟩ : ∃ v, X.f2 = v := ⟨_, rfl⟩
    rw [ev] at l2 hv hne hwb
    obtain ⟨N, eN⟩ : ∃ N, IntKind.u64.wrap (v + less) = N := ⟨_, rfl⟩
    rw [eN] at hne hwb
    have EV := hid ev
    have HV := hid hv
    have HWB := hid hwb
    have HNV := hid hne
    clear ev hv hwb hne
    go_upto_region 23 with fail
    obtain ⟨V, hV⟩ : ∃ V, V0.setCell ⟨y, 33, none⟩ (.int .u64 N) = V := ⟨_, rfl⟩
    obtain ⟨Y, eY⟩ : ∃ Y, { X with f2 := N } = Y := ⟨_, rfl⟩
    have HBY : Hid (BF w2 y V Y) := by
      rw [← hV, ← eY]
      exact HBF.out.setY HY.out 33 _ (st_2 X N) rfl rfl rfl rfl rfl rfl rfl
    have HOY : Hid (OkState Y) := by
      rw [← eY]
      exact { HOX.out with o2 := HWB.out }
    have HNE : Hid (fitB Y = true → (SX.toList == (Z.strF (mS Y) (tL Y)).toList) = false) := fun hF => by
      rw [← HSX.out]
      obtain ⟨j, hj, hd⟩ := nmB_ne HV.out HWB.out HNV.out
      rw [← EV.out] at hd
      rw [← eY] at hF ⊢
      refine apart_fix HOX.out (by rw [eY]; exact HOY.out) (tL_lt HFX.out) (tL_lt hF) 2 j (by omega) (by decide) (show j < 8 from hj) (show j < 8 from hj) ?_
      exact hd
    rw [hV]
    clear hV eY EV HV HWB HNV l2 fz eN
    have HRW := hid HBY.out.row
    have HIW := hid HBY.out.inW
    have HBV := hid HBY.out.bel
    clear HBY HBF
    have lvy := lvState_run HRW.out
    cases hF : fitB Y
    · have HEY := hid (encState_long Y V hF)
      clear hF
      go_wp2_with (go_at_call 11; refine HEY.out.mono ?_; rintro e w5 ⟨rfl, hb⟩; have HB5 := hid (HBV.out.trans (hb.mono HBV.out.size)); clear hb)
      go_ret
      have q1 := HB0w.out.size
      have q2 := S2.out.size
      exact ⟨rfl, HB0w.out.trans ((S2.out.mono (by omega)).trans (HB5.out.mono (by omega)))⟩
    obtain ⟨SY, eSY⟩ : ∃ S, Z.strF (mS Y) (tL Y) = S := ⟨_, rfl⟩
    obtain ⟨TY, eTY⟩ : ∃ n, tL Y = n := ⟨_, rfl⟩
    have HEY := hid (encB Y V HOY.out HIW.out hF SY eSY TY eTY)
    have hne := HNE.out hF
    rw [eSY] at hne
    clear hF eSY eTY
    go_upto_region 24 with (go_at_call 11; refine HEY.out.mono ?_; rintro e w5 ⟨a5, c5, rfl, hcv, hb⟩; have HB5 := hid (HBV.out.trans (hb.mono HBV.out.size)); have cv5 := hcv w5 (Below.refl _ _); have cv2 := CV.out w5 HB5.out; clear hcv hb)
    clear lvy HEY
    go_wp2
    go_ret
    have q1 := HB0w.out.size
    have q2 := S2.out.size
    exact ⟨rfl, HB0w.out.trans ((S2.out.mono (by omega)).trans (HB5.out.mono (by omega)))⟩
  · replace eK : (R + 8).tmod 8 = 1 := eK
    replace eK2 : (R + 8) % 8 = 1 := eK2
    obtain ⟨J, hJ, eJ⟩ : ∃ J : Nat, J < 4 ∧ less % 4 = (J : Int) := ⟨(less % 4).toNat, by omega, by omega⟩
    have l2 := bit_at HBF.out.row J hJ
    have fz := row_frozen HBF.out.row (989 + J)
    obtain ⟨v, ev⟩ : ∃ v, X.f17 J = v := ⟨_, rfl⟩
    rw [ev] at l2
    have EV := hid ev
    have j1 : (J : Int) < 4 := by omega
    have j0 : (0 : Int) ≤ (J : Int) := by omega
    clear ev
    go_upto_region 23 with fail
    obtain ⟨V, hV⟩ : ∃ V, V0.setCell ⟨y, 989 + J, none⟩ (.bool !v) = V := ⟨_, rfl⟩
    obtain ⟨Y, eY⟩ : ∃ Y, { X with f17 := fun j => if j = J then !v else X.f17 j } = Y := ⟨_, rfl⟩
    have HBY : Hid (BF w2 y V Y) := by
      rw [← hV, ← eY]
      exact HBF.out.setY HY.out (989 + J) _ (st_17 X J hJ (!v)) rfl rfl rfl rfl rfl rfl rfl
    have HOY : Hid (OkState Y) := by
      rw [← eY]
      exact { HOX.out with }
    have HNE : Hid (fitB Y = true → (SX.toList == (Z.strF (mS Y) (tL Y)).toList) = false) := fun hF => by
      rw [← HSX.out]
      rw [← eY] at hF ⊢
      refine apart_fix HOX.out (by rw [eY]; exact HOY.out) (tL_lt HFX.out) (tL_lt hF) 17 0 (by omega) (by decide) (show 0 < 1 by omega) (show 0 < 1 by omega) ?_
      refine byt4_ne X.f17 (fun j => if j = J then !v else X.f17 j) J hJ ?_
      rw [EV.out]
      simp
    rw [hV]
    clear hV eY EV l2 fz eJ j0 j1
    have HRW := hid HBY.out.row
    have HIW := hid HBY.out.inW
    have HBV := hid HBY.out.bel
    clear HBY HBF
    have lvy := lvState_run HRW.out
    cases hF : fitB Y
    · have HEY := hid (encState_long Y V hF)
      clear hF
      go_wp2_with (go_at_call 11; refine HEY.out.mono ?_; rintro e w5 ⟨rfl, hb⟩; have HB5 := hid (HBV.out.trans (hb.mono HBV.out.size)); clear hb)
      go_ret
      have q1 := HB0w.out.size
      have q2 := S2.out.size
      exact ⟨rfl, HB0w.out.trans ((S2.out.mono (by omega)).trans (HB5.out.mono (by omega)))⟩
    obtain ⟨SY, eSY⟩ : ∃ S, Z.strF (mS Y) (tL Y) = S := ⟨_, rfl⟩
    obtain ⟨TY, eTY⟩ : ∃ n, tL Y = n := ⟨_, rfl⟩
    have HEY := hid (encB Y V HOY.out HIW.out hF SY eSY TY eTY)
    have hne := HNE.out hF
    rw [eSY] at hne
    clear hF eSY eTY
    go_upto_region 24 with (go_at_call 11; refine HEY.out.mono ?_; rintro e w5 ⟨a5, c5, rfl, hcv, hb⟩; have HB5 := hid (HBV.out.trans (hb.mono HBV.out.size)); have cv5 := hcv w5 (Below.refl _ _); have cv2 := CV.out w5 HB5.out; clear hcv hb)
    clear lvy HEY
    go_wp2
    go_ret
    have q1 := HB0w.out.size
    have q2 := S2.out.size
    exact ⟨rfl, HB0w.out.trans ((S2.out.mono (by omega)).trans (HB5.out.mono (by omega)))⟩
  · replace eK : (R + 8).tmod 8 = 2 := eK
    replace eK2 : (R + 8) % 8 = 2 := eK2
    obtain ⟨J, hJ, eJ⟩ : ∃ J : Nat, J < 8 ∧ less % 8 = (J : Int) := ⟨(less % 8).toNat, by omega, by omega⟩
    obtain ⟨p, ep⟩ : ∃ p : Nat, p = 32 * J + 31 := ⟨_, rfl⟩
    have hp : p < 256 := by omega
    have l2 := mix_at HBF.out.row p hp
    have hvb := HOX.out.o13 p hp
    obtain ⟨v, ev⟩ : ∃ v : Nat, X.f13 p = (v : Int) := ⟨(X.f13 p).toNat, by omega⟩
    have hv : v < 256 := by omega
    rw [ev] at l2
    have exo : bits .xor .u8 (v : Int) 1 = ((v ^^^ 1 : Nat) : Int) := u8_xor_nat v 1 hv (by omega)
    have hxo := xo_lt hv (show 1 < 256 by omega)
    have hxn : (v : Int) ≠ ((v ^^^ 1 : Nat) : Int) := fun e => absurd (xo_same (Int.ofNat_inj.1 e.symm)) (by omega)
    obtain ⟨u, eu⟩ : ∃ u, v ^^^ 1 = u := ⟨_, rfl⟩
    rw [eu] at exo hxo hxn
    obtain ⟨q, eq⟩ : ∃ q, 723 + p = q := ⟨_, rfl⟩
    have eq2 : 723 + 32 * J + 31 = q := by omega
    have eq3 : 723 + J * 32 + 31 = q := by omega
    rw [eq] at l2
    have fz := row_frozen HBF.out.row q
    have EV := hid ev
    have HXO := hid (And.intro hxo hxn)
    have EQ := hid eq
    have HP := hid hp
    have j1 : (J : Int) < 8 := by omega
    have j0 : (0 : Int) ≤ (J : Int) := by omega
    clear ev hxo hxn eu hvb eq hp
    go_upto_region 14 with fail
    go_region
    obtain ⟨V, hV⟩ : ∃ V, (V0.setCell ⟨y, q, none⟩ (.int .u8 u)).drew = V := ⟨_, rfl⟩
    obtain ⟨Y, eY⟩ : ∃ Y, { X with f13 := fun j => if j = p then (u : Int) else X.f13 j } = Y := ⟨_, rfl⟩
    have HBY : Hid (BF w2 y V Y) := by
      rw [← hV, ← eY, ← EQ.out]
      exact (HBF.out.setY HY.out (723 + p) _ (st_13 X p HP.out u) rfl rfl rfl rfl rfl rfl rfl).drew
    have HOY : Hid (OkState Y) := by
      rw [← eY]
      refine { HOX.out with o13 := fun j hj => ?_ }
      show 0 ≤ (if j = p then (u : Int) else X.f13 j) ∧ (if j = p then (u : Int) else X.f13 j) < 256
      by_cases e : j = p
      · rw [if_pos e]
        have := HXO.out.1
        omega
      · rw [if_neg e]
        exact HOX.out.o13 j hj
    have HNE : Hid (fitB Y = true → (SX.toList == (Z.strF (mS Y) (tL Y)).toList) = false) := fun hF => by
      rw [← HSX.out]
      rw [← eY] at hF ⊢
      refine apart_fix HOX.out (by rw [eY]; exact HOY.out) (tL_lt HFX.out) (tL_lt hF) 13 p (by omega) (by decide) (show p < 256 from HP.out) (show p < 256 from HP.out) ?_
      show X.f13 p ≠ (if p = p then (u : Int) else X.f13 p)
      rw [if_pos rfl, EV.out]
      exact HXO.out.2
    rw [hV]
    clear hV eY EV HXO EQ HP l2 fz eJ j0 j1 exo eq2 eq3
    have HRW := hid HBY.out.row
    have HIW := hid HBY.out.inW
    have HBV := hid HBY.out.bel
    clear HBY HBF
    have lvy := lvState_run HRW.out
    cases hF : fitB Y
    · have HEY := hid (encState_long Y V hF)
      clear hF
      go_wp2_with (go_at_call 11; refine HEY.out.mono ?_; rintro e w5 ⟨rfl, hb⟩; have HB5 := hid (HBV.out.trans (hb.mono HBV.out.size)); clear hb)
      go_ret
      have q1 := HB0w.out.size
      have q2 := S2.out.size
      exact ⟨rfl, HB0w.out.trans ((S2.out.mono (by omega)).trans (HB5.out.mono (by omega)))⟩
    obtain ⟨SY, eSY⟩ : ∃ S, Z.strF (mS Y) (tL Y) = S := ⟨_, rfl⟩
    obtain ⟨TY, eTY⟩ : ∃ n, tL Y = n := ⟨_, rfl⟩
    have HEY := hid (encB Y V HOY.out HIW.out hF SY eSY TY eTY)
    have hne := HNE.out hF
    rw [eSY] at hne
    clear hF eSY eTY
    go_upto_region 24 with (go_at_call 11; refine HEY.out.mono ?_; rintro e w5 ⟨a5, c5, rfl, hcv, hb⟩; have HB5 := hid (HBV.out.trans (hb.mono HBV.out.size)); have cv5 := hcv w5 (Below.refl _ _); have cv2 := CV.out w5 HB5.out; clear hcv hb)
    clear lvy HEY
    go_wp2
    go_ret
    have q1 := HB0w.out.size
    have q2 := S2.out.size
    exact ⟨rfl, HB0w.out.trans ((S2.out.mono (by omega)).trans (HB5.out.mono (by omega)))⟩
  · replace eK : (R + 8).tmod 8 = 3 := eK
    replace eK2 : (R + 8) % 8 = 3 := eK2
    obtain ⟨W5, hW5⟩ : ∃ W, V0.alloc (.cells (vs .u8 32 fun _ => 0) 24) = W := ⟨_, rfl⟩
    have hb5 : Below V0.heap.size V0 W5 := by rw [← hW5]; exact (Below.refl _ _).alloc (Nat.le_refl _) _
    have HBE := hid (HBF.out.below hb5)
    have r5 : W5.heap[V0.heap.size]? = some (.cells (vs .u8 32 fun _ => 0) 24) := by rw [← hW5]; exact heap_new rfl
    have SS := hid (src_root r5)
    have l12 := cS7 HBF.out.row
    obtain ⟨ii, hi, hz0, hz1, hz2⟩ := info_out (P := Try.prog) (t := 24) (z := .agg (vs .u8 32 fun _ => 0)) (s := 32) (b := 32) (by kernel_rfl)
    have II := hid (And.intro hi (And.intro hz0 (And.intro hz1 hz2)))
    have HL : Hid (X.f7.n ≤ 65536) := by have := fitn HFX.out; unfold Hid; omega
    have bd0 := fun W => bd27_z W
    have bs1 := fun W => bs_z W
    clear hb5 r5 hi hz0 hz1 hz2
    go_upto_region 16 with fail
    go_upto_region 23 with (at_builtin; refine app_src _ rfl _ _ 32 rfl w2.heap.size 24 ii (.agg (vs .u8 32 fun _ => 0)) 32 32 Try.underlying32 II.out.1 II.out.2.1 II.out.2.2.1 II.out.2.2.2 (by simp [Value.cells, vs_size]) (by omega) _ X.f7.n _ rfl HBE.out.cpd.o7 _ _ _ _ rfl SS.out (by unfold maxLen; have := HL.out; omega) (by have := HL.out; omega) HBE.out.bel.size ?_; intro v6 w6 ho hg; obtain ⟨a6, c6, rfl⟩ := owns_form ho; obtain ⟨m1, m2, m3, ⟨cd, m4⟩, m5⟩ := HBE.out.app7 HY.out ho hg; have M1 := hid m1; have M2 := hid m2; have M3 := hid m3; clear m1 m2 m3 ho hg)
    clear l12 hW5 m4 m5
    obtain ⟨V, hV⟩ : ∃ V, w6.setCell ⟨y, 653, none⟩ (.slice a6 (X.f7.n + 1) c6) = V := ⟨_, rfl⟩
    obtain ⟨Y, eY⟩ : ∃ Y, mor7 X a6 c6 = Y := ⟨_, rfl⟩
    rw [hV, eY] at M2 M3
    rw [hV] at M1
    have HOY : Hid (OkState Y) := by
      rw [← eY]
      refine { HOX.out with o7 := fun j hj => ?_ }
      show 0 ≤ (if j < 32 * X.f7.n then X.f7.z j else 0) ∧ (if j < 32 * X.f7.n then X.f7.z j else 0) < 256
      by_cases e : j < 32 * X.f7.n
      · rw [if_pos e]
        exact HOX.out.o7 j e
      · rw [if_neg e]
        exact s256
    have HNE : Hid (fitB Y = true → (SX.toList == (Z.strF (mS Y) (tL Y)).toList) = false) := fun hF => by
      rw [← HSX.out]
      refine apart_len HOX.out HOY.out ?_
      rw [← eY, tL_is, tL_is]
      show _ ≠ 2101 + 32 * (X.f7.n + 1) + 72 * X.f9.n + 121 * X.f11.n + 8 * X.f12.n + X.f15.n + X.f16.n + 8 * X.f21.n
      omega
    rw [hV]
    clear hV eY HBE SS II HL
    have HRW := M2
    have HIW := M3
    have HBV := M1
    clear HBF
    have lvy := lvState_run HRW.out
    cases hF : fitB Y
    · have HEY := hid (encState_long Y V hF)
      clear hF
      go_wp2_with (go_at_call 11; refine HEY.out.mono ?_; rintro e w5 ⟨rfl, hb⟩; have HB5 := hid (HBV.out.trans (hb.mono HBV.out.size)); clear hb)
      go_ret
      have q1 := HB0w.out.size
      have q2 := S2.out.size
      exact ⟨rfl, HB0w.out.trans ((S2.out.mono (by omega)).trans (HB5.out.mono (by omega)))⟩
    obtain ⟨SY, eSY⟩ : ∃ S, Z.strF (mS Y) (tL Y) = S := ⟨_, rfl⟩
    obtain ⟨TY, eTY⟩ : ∃ n, tL Y = n := ⟨_, rfl⟩
    have HEY := hid (encB Y V HOY.out HIW.out hF SY eSY TY eTY)
    have hne := HNE.out hF
    rw [eSY] at hne
    clear hF eSY eTY
    go_upto_region 24 with (go_at_call 11; refine HEY.out.mono ?_; rintro e w5 ⟨a5, c5, rfl, hcv, hb⟩; have HB5 := hid (HBV.out.trans (hb.mono HBV.out.size)); have cv5 := hcv w5 (Below.refl _ _); have cv2 := CV.out w5 HB5.out; clear hcv hb)
    clear lvy HEY
    go_wp2
    go_ret
    have q1 := HB0w.out.size
    have q2 := S2.out.size
    exact ⟨rfl, HB0w.out.trans ((S2.out.mono (by omega)).trans (HB5.out.mono (by omega)))⟩
  · replace eK : (R + 8).tmod 8 = 4 := eK
    replace eK2 : (R + 8) % 8 = 4 := eK2
    obtain ⟨W5, hW5⟩ : ∃ W, V0.alloc (.cells #[.int .u64 0] 22) = W := ⟨_, rfl⟩
    have hb5 : Below V0.heap.size V0 W5 := by rw [← hW5]; exact (Below.refl _ _).alloc (Nat.le_refl _) _
    have HBE := hid (HBF.out.below hb5)
    have r5 : W5.heap[V0.heap.size]? = some (.cells #[.int .u64 0] 22) := by rw [← hW5]; exact heap_new rfl
    have SS := hid (src_zero r5)
    have l12 := cS12 HBF.out.row
    obtain ⟨ii, hi, hz0, hz1, hz2⟩ := info_out (P := Try.prog) (t := 22) (z := .int .u64 0) (s := 1) (b := 8) (by kernel_rfl)
    have II := hid (And.intro hi (And.intro hz0 (And.intro hz1 hz2)))
    have HL : Hid (X.f12.n ≤ 65536) := by have := fitn HFX.out; unfold Hid; omega
    clear hb5 r5 hi hz0 hz1 hz2
    go_upto_region 18 with fail
    go_upto_region 23 with (at_builtin; refine app_src _ rfl _ _ 37 rfl w2.heap.size 22 ii (.int .u64 0) 1 8 Try.underlying37 II.out.1 II.out.2.1 II.out.2.2.1 II.out.2.2.2 (by rfl) (by omega) _ X.f12.n _ rfl HBE.out.cpd.o12 _ _ _ _ rfl SS.out (by unfold maxLen; have := HL.out; omega) (by have := HL.out; omega) HBE.out.bel.size ?_; intro v6 w6 ho hg; obtain ⟨a6, c6, rfl⟩ := owns_form ho; obtain ⟨m1, m2, m3, ⟨cd, m4⟩, m5⟩ := HBE.out.app12 HY.out ho hg; have M1 := hid m1; have M2 := hid m2; have M3 := hid m3; clear m1 m2 m3 ho hg)
    clear l12 hW5 m4 m5
    obtain ⟨V, hV⟩ : ∃ V, w6.setCell ⟨y, 722, none⟩ (.slice a6 (X.f12.n + 1) c6) = V := ⟨_, rfl⟩
    obtain ⟨Y, eY⟩ : ∃ Y, mor12 X a6 c6 = Y := ⟨_, rfl⟩
    rw [hV, eY] at M2 M3
    rw [hV] at M1
    have HOY : Hid (OkState Y) := by
      rw [← eY]
      refine { HOX.out with o12 := fun j hj => ?_ }
      show 0 ≤ (if j < X.f12.n then X.f12.z j else 0) ∧ (if j < X.f12.n then X.f12.z j else 0) < 18446744073709551616
      by_cases e : j < X.f12.n
      · rw [if_pos e]
        exact HOX.out.o12 j e
      · rw [if_neg e]
        exact s64
    have HNE : Hid (fitB Y = true → (SX.toList == (Z.strF (mS Y) (tL Y)).toList) = false) := fun hF => by
      rw [← HSX.out]
      refine apart_len HOX.out HOY.out ?_
      rw [← eY, tL_is, tL_is]
      show _ ≠ 2101 + 32 * X.f7.n + 72 * X.f9.n + 121 * X.f11.n + 8 * (X.f12.n + 1) + X.f15.n + X.f16.n + 8 * X.f21.n
      omega
    rw [hV]
    clear hV eY HBE SS II HL
    have HRW := M2
    have HIW := M3
    have HBV := M1
    clear HBF
    have lvy := lvState_run HRW.out
    cases hF : fitB Y
    · have HEY := hid (encState_long Y V hF)
      clear hF
      go_wp2_with (go_at_call 11; refine HEY.out.mono ?_; rintro e w5 ⟨rfl, hb⟩; have HB5 := hid (HBV.out.trans (hb.mono HBV.out.size)); clear hb)
      go_ret
      have q1 := HB0w.out.size
      have q2 := S2.out.size
      exact ⟨rfl, HB0w.out.trans ((S2.out.mono (by omega)).trans (HB5.out.mono (by omega)))⟩
    obtain ⟨SY, eSY⟩ : ∃ S, Z.strF (mS Y) (tL Y) = S := ⟨_, rfl⟩
    obtain ⟨TY, eTY⟩ : ∃ n, tL Y = n := ⟨_, rfl⟩
    have HEY := hid (encB Y V HOY.out HIW.out hF SY eSY TY eTY)
    have hne := HNE.out hF
    rw [eSY] at hne
    clear hF eSY eTY
    go_upto_region 24 with (go_at_call 11; refine HEY.out.mono ?_; rintro e w5 ⟨a5, c5, rfl, hcv, hb⟩; have HB5 := hid (HBV.out.trans (hb.mono HBV.out.size)); have cv5 := hcv w5 (Below.refl _ _); have cv2 := CV.out w5 HB5.out; clear hcv hb)
    clear lvy HEY
    go_wp2
    go_ret
    have q1 := HB0w.out.size
    have q2 := S2.out.size
    exact ⟨rfl, HB0w.out.trans ((S2.out.mono (by omega)).trans (HB5.out.mono (by omega)))⟩
  · replace eK : (R + 8).tmod 8 = 5 := eK
    replace eK2 : (R + 8) % 8 = 5 := eK2
    have l2 := sum_at HBF.out.row 47 (by omega)
    have hvb := HOX.out.o23.2 47 (by omega)
    obtain ⟨v, ev⟩ : ∃ v : Nat, X.f23.f1 47 = (v : Int) := ⟨(X.f23.f1 47).toNat, by omega⟩
    have hv : v < 256 := by omega
    rw [ev] at l2
    have exo : bits .xor .u8 (v : Int) 1 = ((v ^^^ 1 : Nat) : Int) := u8_xor_nat v 1 hv (by omega)
    have hxo := xo_lt hv (show 1 < 256 by omega)
    have hxn : (v : Int) ≠ ((v ^^^ 1 : Nat) : Int) := fun e => absurd (xo_same (Int.ofNat_inj.1 e.symm)) (by omega)
    obtain ⟨u, eu⟩ : ∃ u, v ^^^ 1 = u := ⟨_, rfl⟩
    rw [eu] at exo hxo hxn
    have fz := row_frozen HBF.out.row 1956
    have EV := hid ev
    have HXO := hid (And.intro hxo hxn)
    clear ev hxo hxn eu hvb
    go_upto_region 23 with fail
    obtain ⟨V, hV⟩ : ∃ V, V0.setCell ⟨y, 1956, none⟩ (.int .u8 u) = V := ⟨_, rfl⟩
    obtain ⟨Y, eY⟩ : ∃ Y, { X with f23 := { X.f23 with f1 := fun j => if j = 47 then (u : Int) else X.f23.f1 j } } = Y := ⟨_, rfl⟩
    have HBY : Hid (BF w2 y V Y) := by
      rw [← hV, ← eY]
      exact HBF.out.setY HY.out 1956 _ (st_23 X 47 (by omega) u) rfl rfl rfl rfl rfl rfl rfl
    have HOY : Hid (OkState Y) := by
      rw [← eY]
      refine { HOX.out with o23 := ⟨HOX.out.o23.1, fun j hj => ?_⟩ }
      show 0 ≤ (if j = 47 then (u : Int) else X.f23.f1 j) ∧ (if j = 47 then (u : Int) else X.f23.f1 j) < 256
      by_cases e : j = 47
      · rw [if_pos e]
        have := HXO.out.1
        omega
      · rw [if_neg e]
        exact HOX.out.o23.2 j hj
    have HNE : Hid (fitB Y = true → (SX.toList == (Z.strF (mS Y) (tL Y)).toList) = false) := fun hF => by
      rw [← HSX.out]
      rw [← eY] at hF ⊢
      refine apart_fix HOX.out (by rw [eY]; exact HOY.out) (tL_lt HFX.out) (tL_lt hF) 23 431 (by omega) (by decide) (show 431 < 432 by omega) (show 431 < 432 by omega) ?_
      have e : ∀ c : VCommittee, ct7 (eCommittee c) 431 = c.f1 47 := fun c => rfl
      show ct7 (eCommittee X.f23) 431 ≠ ct7 (eCommittee { X.f23 with f1 := fun j => if j = 47 then (u : Int) else X.f23.f1 j }) 431
      rw [e, e]
      show X.f23.f1 47 ≠ (if 47 = 47 then (u : Int) else X.f23.f1 47)
      rw [if_pos rfl, EV.out]
      exact HXO.out.2
    rw [hV]
    clear hV eY EV HXO l2 fz exo
    have HRW := hid HBY.out.row
    have HIW := hid HBY.out.inW
    have HBV := hid HBY.out.bel
    clear HBY HBF
    have lvy := lvState_run HRW.out
    cases hF : fitB Y
    · have HEY := hid (encState_long Y V hF)
      clear hF
      go_wp2_with (go_at_call 11; refine HEY.out.mono ?_; rintro e w5 ⟨rfl, hb⟩; have HB5 := hid (HBV.out.trans (hb.mono HBV.out.size)); clear hb)
      go_ret
      have q1 := HB0w.out.size
      have q2 := S2.out.size
      exact ⟨rfl, HB0w.out.trans ((S2.out.mono (by omega)).trans (HB5.out.mono (by omega)))⟩
    obtain ⟨SY, eSY⟩ : ∃ S, Z.strF (mS Y) (tL Y) = S := ⟨_, rfl⟩
    obtain ⟨TY, eTY⟩ : ∃ n, tL Y = n := ⟨_, rfl⟩
    have HEY := hid (encB Y V HOY.out HIW.out hF SY eSY TY eTY)
    have hne := HNE.out hF
    rw [eSY] at hne
    clear hF eSY eTY
    go_upto_region 24 with (go_at_call 11; refine HEY.out.mono ?_; rintro e w5 ⟨a5, c5, rfl, hcv, hb⟩; have HB5 := hid (HBV.out.trans (hb.mono HBV.out.size)); have cv5 := hcv w5 (Below.refl _ _); have cv2 := CV.out w5 HB5.out; clear hcv hb)
    clear lvy HEY
    go_wp2
    go_ret
    have q1 := HB0w.out.size
    have q2 := S2.out.size
    exact ⟨rfl, HB0w.out.trans ((S2.out.mono (by omega)).trans (HB5.out.mono (by omega)))⟩
  · replace eK : (R + 8).tmod 8 = 6 := eK
    replace eK2 : (R + 8) % 8 = 6 := eK2
    obtain ⟨W5, hW5⟩ : ∃ W, V0.alloc (.cells #[.int .u8 0] 5) = W := ⟨_, rfl⟩
    have hb5 : Below V0.heap.size V0 W5 := by rw [← hW5]; exact (Below.refl _ _).alloc (Nat.le_refl _) _
    have HBE := hid (HBF.out.below hb5)
    have r5 : W5.heap[V0.heap.size]? = some (.cells #[.int .u8 0] 5) := by rw [← hW5]; exact heap_new rfl
    have SS := hid (src_byte r5)
    have l12 := cS16 HBF.out.row
    obtain ⟨ii, hi, hz0, hz1, hz2⟩ := info_out (P := Try.prog) (t := 5) (z := .int .u8 0) (s := 1) (b := 1) (by kernel_rfl)
    have II := hid (And.intro hi (And.intro hz0 (And.intro hz1 hz2)))
    have HL : Hid (X.f16.n ≤ 65536) := by have := fitn HFX.out; unfold Hid; omega
    clear hb5 r5 hi hz0 hz1 hz2
    go_upto_region 22 with fail
    go_upto_region 23 with (at_builtin; refine app_src _ rfl _ _ 39 rfl w2.heap.size 5 ii (.int .u8 0) 1 1 Try.underlying39 II.out.1 II.out.2.1 II.out.2.2.1 II.out.2.2.2 (by rfl) (by omega) _ X.f16.n _ rfl HBE.out.cpd.o16 _ _ _ _ rfl SS.out (by unfold maxLen; have := HL.out; omega) (by have := HL.out; omega) HBE.out.bel.size ?_; intro v6 w6 ho hg; obtain ⟨a6, c6, rfl⟩ := owns_form ho; obtain ⟨m1, m2, m3, ⟨cd, m4⟩, m5⟩ := HBE.out.app16 HY.out ho hg; have M1 := hid m1; have M2 := hid m2; have M3 := hid m3; clear m1 m2 m3 ho hg)
    clear l12 hW5 m4 m5
    obtain ⟨V, hV⟩ : ∃ V, w6.setCell ⟨y, 988, none⟩ (.slice a6 (X.f16.n + 1) c6) = V := ⟨_, rfl⟩
    obtain ⟨Y, eY⟩ : ∃ Y, mor16 X a6 c6 = Y := ⟨_, rfl⟩
    rw [hV, eY] at M2 M3
    rw [hV] at M1
    have HOY : Hid (OkState Y) := by
      rw [← eY]
      refine { HOX.out with o16 := fun j hj => ?_ }
      show 0 ≤ (if j < X.f16.n then X.f16.z j else 0) ∧ (if j < X.f16.n then X.f16.z j else 0) < 256
      by_cases e : j < X.f16.n
      · rw [if_pos e]
        exact HOX.out.o16 j e
      · rw [if_neg e]
        exact s256
    have HNE : Hid (fitB Y = true → (SX.toList == (Z.strF (mS Y) (tL Y)).toList) = false) := fun hF => by
      rw [← HSX.out]
      refine apart_len HOX.out HOY.out ?_
      rw [← eY, tL_is, tL_is]
      show _ ≠ 2101 + 32 * X.f7.n + 72 * X.f9.n + 121 * X.f11.n + 8 * X.f12.n + X.f15.n + (X.f16.n + 1) + 8 * X.f21.n
      omega
    rw [hV]
    clear hV eY HBE SS II HL
    have HRW := M2
    have HIW := M3
    have HBV := M1
    clear HBF
    have lvy := lvState_run HRW.out
    cases hF : fitB Y
    · have HEY := hid (encState_long Y V hF)
      clear hF
      go_wp2_with (go_at_call 11; refine HEY.out.mono ?_; rintro e w5 ⟨rfl, hb⟩; have HB5 := hid (HBV.out.trans (hb.mono HBV.out.size)); clear hb)
      go_ret
      have q1 := HB0w.out.size
      have q2 := S2.out.size
      exact ⟨rfl, HB0w.out.trans ((S2.out.mono (by omega)).trans (HB5.out.mono (by omega)))⟩
    obtain ⟨SY, eSY⟩ : ∃ S, Z.strF (mS Y) (tL Y) = S := ⟨_, rfl⟩
    obtain ⟨TY, eTY⟩ : ∃ n, tL Y = n := ⟨_, rfl⟩
    have HEY := hid (encB Y V HOY.out HIW.out hF SY eSY TY eTY)
    have hne := HNE.out hF
    rw [eSY] at hne
    clear hF eSY eTY
    go_upto_region 24 with (go_at_call 11; refine HEY.out.mono ?_; rintro e w5 ⟨a5, c5, rfl, hcv, hb⟩; have HB5 := hid (HBV.out.trans (hb.mono HBV.out.size)); have cv5 := hcv w5 (Below.refl _ _); have cv2 := CV.out w5 HB5.out; clear hcv hb)
    clear lvy HEY
    go_wp2
    go_ret
    have q1 := HB0w.out.size
    have q2 := S2.out.size
    exact ⟨rfl, HB0w.out.trans ((S2.out.mono (by omega)).trans (HB5.out.mono (by omega)))⟩
  · replace eK : (R + 8).tmod 8 = 7 := eK
    replace eK2 : (R + 8) % 8 = 7 := eK2
    have l2 : V0.cell? ⟨y, 1059, none⟩ = some (.int .u64 X.f20.f0) := cS20 HBF.out.row
    have fz := row_frozen HBF.out.row 1059
    have hv : 0 ≤ X.f20.f0 ∧ X.f20.f0 < 18446744073709551616 := HOX.out.o20.1
    have hne := add_ne hv HB00.out
    have hwb := wrap_bd (X.f20.f0 + less)
    obtain ⟨v, ev⟩ : ∃ v, X.f20.f0 = v := ⟨_, rfl⟩
    rw [ev] at l2 hv hne hwb
    obtain ⟨N, eN⟩ : ∃ N, IntKind.u64.wrap (v + less) = N := ⟨_, rfl⟩
    rw [eN] at hne hwb
    have EV := hid ev
    have HV := hid hv
    have HWB := hid hwb
    have HNV := hid hne
    clear ev hv hwb hne
    go_upto_region 23 with fail
    obtain ⟨V, hV⟩ : ∃ V, V0.setCell ⟨y, 1059, none⟩ (.int .u64 N) = V := ⟨_, rfl⟩
    obtain ⟨Y, eY⟩ : ∃ Y, { X with f20 := { X.f20 with f0 := N } } = Y := ⟨_, rfl⟩
    have HBY : Hid (BF w2 y V Y) := by
      rw [← hV, ← eY]
      exact HBF.out.setY HY.out 1059 _ (st_20 X N) rfl rfl rfl rfl rfl rfl rfl
    have HOY : Hid (OkState Y) := by
      rw [← eY]
      exact { HOX.out with o20 := ⟨HWB.out, HOX.out.o20.2⟩ }
    have HNE : Hid (fitB Y = true → (SX.toList == (Z.strF (mS Y) (tL Y)).toList) = false) := fun hF => by
      rw [← HSX.out]
      obtain ⟨j, hj, hd⟩ := nmB_ne HV.out HWB.out HNV.out
      rw [← EV.out] at hd
      rw [← eY] at hF ⊢
      refine apart_fix HOX.out (by rw [eY]; exact HOY.out) (tL_lt HFX.out) (tL_lt hF) 20 j (by omega) (by decide) (show j < 40 by omega) (show j < 40 by omega) ?_
      show ct7 (eCheckpoint X.f20) j ≠ ct7 (eCheckpoint { X.f20 with f0 := N }) j
      have e : ∀ c : VCheckpoint, ct7 (eCheckpoint c) j = nmB c.f0 j := fun c => if_pos hj
      rw [e, e]
      exact hd
    rw [hV]
    clear hV eY EV HV HWB HNV l2 fz eN
    have HRW := hid HBY.out.row
    have HIW := hid HBY.out.inW
    have HBV := hid HBY.out.bel
    clear HBY HBF
    have lvy := lvState_run HRW.out
    cases hF : fitB Y
    · have HEY := hid (encState_long Y V hF)
      clear hF
      go_wp2_with (go_at_call 11; refine HEY.out.mono ?_; rintro e w5 ⟨rfl, hb⟩; have HB5 := hid (HBV.out.trans (hb.mono HBV.out.size)); clear hb)
      go_ret
      have q1 := HB0w.out.size
      have q2 := S2.out.size
      exact ⟨rfl, HB0w.out.trans ((S2.out.mono (by omega)).trans (HB5.out.mono (by omega)))⟩
    obtain ⟨SY, eSY⟩ : ∃ S, Z.strF (mS Y) (tL Y) = S := ⟨_, rfl⟩
    obtain ⟨TY, eTY⟩ : ∃ n, tL Y = n := ⟨_, rfl⟩
    have HEY := hid (encB Y V HOY.out HIW.out hF SY eSY TY eTY)
    have hne := HNE.out hF
    rw [eSY] at hne
    clear hF eSY eTY
    go_upto_region 24 with (go_at_call 11; refine HEY.out.mono ?_; rintro e w5 ⟨a5, c5, rfl, hcv, hb⟩; have HB5 := hid (HBV.out.trans (hb.mono HBV.out.size)); have cv5 := hcv w5 (Below.refl _ _); have cv2 := CV.out w5 HB5.out; clear hcv hb)
    clear lvy HEY
    go_wp2
    go_ret
    have q1 := HB0w.out.size
    have q2 := S2.out.size
    exact ⟨rfl, HB0w.out.trans ((S2.out.mono (by omega)).trans (HB5.out.mono (by omega)))⟩

end Go.Proofs.Ytehpfemlcjcabaa
