/-
  What CommSlots answers, by what the program's functions answer.
-/

import Derived.Test.YtenhgoclfljjlaaDoorCQ
import Derived.Test.YtenhgoclfljjlaaDoorCmF
import Derived.Test.YtenhgoclfljjlaaDoorStP
import Derived.BigQuiet

import Derived.Deep.QuietTactic

namespace Go.Proofs.YtenhgoclfljjlaaDoor

open Go.RowKit

set_option linter.unusedVariables false

set_option linter.unusedSimpArgs false

set_option maxRecDepth 20000

attribute [local go_sem ↓] lvState_eq svState_eq bdState_eq lvValidator_eq svValidator_eq ixValidator_eq

def PWho : Prop := ∀ (x : VState) (sl ix : Int) (a : Option Addr) (nb cap : Nat) (b : Nat → Bool) (w : World), OkState x → Lk w x → Sh w → Z.Bls w a nb cap b → 0 ≤ sl → sl < 18446744073709551616 → 0 ≤ ix → ix < 18446744073709551616 → Calls Tryd.prog 13 #[.agg (cel (sState x)), .int .u64 sl, .int .u64 ix, .slice a nb cap] w (WhA x sl ix b nb w)

theorem chB_congr {f : Nat → Int} {b b' : Nat → Bool} {m : Nat} (h : ∀ j, j < m → b j = b' j) : chB f b m = chB f b' m := by
  funext v
  rw [Bool.eq_iff_iff, chB_iff, chB_iff]
  exact ⟨fun ⟨j, h1, h2, h3⟩ => ⟨j, h1, by rw [← h j h1]; exact h2, h3⟩, fun ⟨j, h1, h2, h3⟩ => ⟨j, h1, by rw [h j h1]; exact h2, h3⟩⟩

theorem whS_congr {x : VState} {sl ix : Int} {b b' : Nat → Bool} {m : Nat} (h : ∀ j, j < m → b j = b' j) : whS x sl ix b m = whS x sl ix b' m := by
  unfold whS whL
  rw [chB_congr h]

theorem whL_le (L : List Int) (f : Nat → Int) (b : Nat → Bool) (m : Nat) : (whL L f b m).length ≤ L.length := List.length_filter_le _ _

theorem whS_le (x : VState) (sl ix : Int) (b : Nat → Bool) (m : Nat) : (whS x sl ix b m).length ≤ (acE x (sl / 4)).length := by
  unfold whS
  split
  · exact whL_le _ _ _ _
  · exact Nat.zero_le _

set_option maxHeartbeats 8000000 in
theorem commSlots_law (pC : PCount) (pO : POf) (pW : PWho) (x : VState) (sl ix : Int) (a : Option Addr) (nb cap : Nat) (b : Nat → Bool) (w : World) (hx : OkState x) (hw : InW w x) (hb : Z.Bls w a nb cap b) (hnb : nb + 1 ≤ 140737488355328) (s0 : 0 ≤ sl) (s1 : sl < 18446744073709551616) (i0 : 0 ≤ ix) (i1 : ix < 18446744073709551616) (hS : Sh w) (hC : Tab w 1 64 KW) :
    Calls Tryd.prog 3 #[.agg (cel (sState x)), .int .u64 sl, .int .u64 ix, .slice a nb cap] w fun e' w' => e' = .returned (.bool true) ∧ Below w.heap.size w w' := by
  obtain ⟨W0, hW0⟩ : ∃ W, w.alloc (.cells (cel (sState x)) 49) = W := ⟨_, rfl⟩
  have r0 : W0.heap[w.heap.size]? = some (.cells (cel (sState x)) 49) := by rw [← hW0]; exact heap_new rfl
  have hB0 : Below w.heap.size w W0 := by rw [← hW0]; exact (Below.refl _ _).alloc (Nat.le_refl _) _
  have z0 : w.heap.size < W0.heap.size := (Array.getElem?_eq_some_iff.1 r0).1
  have hld : ∀ W : World, Below W0.heap.size W0 W → (lvState ⟨w.heap.size, 0, none⟩).run Tryd.prog W = .ok (.agg (cel (sState x))) W := fun W h => lvState_run ((h.block _ z0).trans r0)
  have hw0 := hw.below hB0
  have hS0 := hS.below hB0
  have hC0 := hC.below hB0
  have hb0 := hb.below hB0
  have haw := awake14 pC pO W0 hS0
  have hri : ∀ W : World, Below W0.heap.size W0 W → Calls Tryd.prog 7 #[.agg (cel (sState x))] W fun e w' => e = .returned (.bool (rightB x)) ∧ Below W.heap.size W w' := fun W h => rright_any x W hx.r' (hw0.below h).r' ⟨hx.o10.1, hx.o4.1.1, hx.o18.1.1, hx.o19.1.1, hx.o20.1.1⟩
  have HB := hid hB0
  have HW0 := hid hW0
  have HLD := hid hld
  have HAW := hid haw
  cases hR : rightB x
  · rw [hR] at hri
    have HRI := hid hri
    clear hri hB0 hW0 hld hw0 hw hx r0 haw hS0 hS hC0 hC hb hb0 pC pO pW
    go_enter Tryd.func3, Tryd.ntmps3
    go_upto_region 1 with fail
    rw [HW0.out]
    clear HW0
    go_upto_region 3 with (go_at_call 6; refine HAW.out.mono ?_; rintro e' w1 ⟨rfl, hb1⟩)
    have l1 := HLD.out w1 hb1
    go_wp2_with (go_at_call 7; refine (HRI.out w1 hb1).mono ?_; rintro e' w2 ⟨rfl, hb2⟩)
    go_ret
    exact ⟨rfl, HB.out.trans ((hb1.trans (hb2.mono hb1.size)).mono HB.out.size)⟩
  rw [hR] at hri
  have hO := rightB_out hR
  have hk0 : Lk W0 x := hO.lk hx hw0
  have hlen := acE_len (e := sl / 4) hk0.nb
  have hmn := cmN_le (acE x (sl / 4)).length sl ix i0
  have hco : ∀ W : World, Below W0.heap.size W0 W → Calls Tryd.prog 8 #[.agg (cel (sState x)), .int .u64 (sl / 4)] W fun e' w' => e' = .returned (.int .u64 (cnt (acE x (sl / 4)).length : Nat)) ∧ Below W.heap.size W w' := fun W h => pC x (sl / 4) W hx (hk0.below h) (by omega) (by omega)
  have hrc : ∀ W : World, Below W0.heap.size W0 W → Calls Tryd.prog 9 #[.agg (cel (sState x)), .int .u64 (sl / 4)] W fun e' w' => e' = .returned (.int .u64 (cnt (acE x (sl / 4)).length : Nat)) ∧ Below W.heap.size W w' := fun W h => rcount_any x (sl / 4) W (hk0.below h)
  have hof : ∀ W : World, Below W0.heap.size W0 W → Calls Tryd.prog 10 #[.agg (cel (sState x)), .int .u64 sl, .int .u64 ix] W (OfA x sl ix W) := fun W h => pO x sl ix W hx (hk0.below h) (hS0.below h) s0 s1 i0 i1
  have hro : ∀ W : World, Below W0.heap.size W0 W → Calls Tryd.prog 11 #[.agg (cel (sState x)), .int .u64 sl, .int .u64 ix] W (OfA x sl ix W) := fun W h => rof_any x sl ix W hx (hk0.below h) i0 s0 s1 (hC0.below h)
  have hwh : ∀ (W : World) a' c', Below W0.heap.size W0 W → Z.Bls W a' nb c' (Z.ext b nb) → Calls Tryd.prog 13 #[.agg (cel (sState x)), .int .u64 sl, .int .u64 ix, .slice a' nb c'] W (WhA x sl ix b nb W) := fun W a' c' h hb' => by
    have := pW x sl ix a' nb c' (Z.ext b nb) W hx (hk0.below h) (hS0.below h) hb' s0 s1 i0 i1
    unfold WhA at this ⊢
    rw [whS_congr (b' := b) (fun j hj => Z.ext_congr b nb j hj)] at this
    exact this
  have hrw : ∀ W : World, Below W0.heap.size W0 W → Calls Tryd.prog 14 #[.agg (cel (sState x)), .int .u64 sl, .int .u64 ix, .slice a nb cap] W (WhA x sl ix b nb W) := fun W h => rwho_any x sl ix a nb cap b W hx (hk0.below h) (hb0.below h) i0 i1 s0 s1 (hC0.below h)
  have hwl := whS_le x sl ix b nb
  unfold OfA at hof hro
  unfold WhA at hwh hrw
  generalize (cnt (acE x (sl / 4)).length : Int) = CN at hco hrc
  generalize cmF (acE x (sl / 4)) (seedV x (sl / 4) 1) sl ix = F at hof hro
  generalize cmE (acE x (sl / 4)).length ix = E1 at hof hro
  generalize whE (acE x (sl / 4)).length sl ix nb = E2 at hwh hrw
  generalize whS x sl ix b nb = WS at hwh hrw hwl
  obtain ⟨M, eM⟩ : ∃ M, cmN (acE x (sl / 4)).length sl ix = M := ⟨_, rfl⟩
  rw [eM] at hof hro hmn
  obtain ⟨N2, eN2⟩ : ∃ n, WS.length = n := ⟨_, rfl⟩
  rw [eN2] at hwh hrw hwl
  have hsm1 : ∀ (W : World) a1 c1 a2 c2, N64 W a1 M F → N64 W a2 M F → Calls Tryd.prog 12 #[.slice a1 M c1, .slice a2 M c2] W fun e' w' => e' = .returned (.bool true) ∧ Below W.heap.size W w' := fun W a1 c1 a2 c2 h1 h2 => same_true a1 a2 M c1 c2 F W h1 h2 (by omega)
  have hsm2 : ∀ (W : World) a1 c1 a2 c2, Nml W a1 WS → Nml W a2 WS → Calls Tryd.prog 12 #[.slice a1 N2 c1, .slice a2 N2 c2] W fun e' w' => e' = .returned (.bool true) ∧ Below W.heap.size W w' := fun W a1 c1 a2 c2 h1 h2 => by
    have := same_true a1 a2 WS.length c1 c2 (fun j => WS.getD j 0) W h1 h2 (by omega)
    rw [eN2] at this
    exact this
  have nlb : ∀ (W W' : World) (a : Option Addr), Nml W a WS → Below W.heap.size W W' → Nml W' a WS := fun W W' a h hb => Z.Nms.below h hb
  obtain ⟨E, eE⟩ : ∃ E, sl / 4 = E := ⟨_, rfl⟩
  rw [eE, show E = IntKind.u64.wrap (sl.tdiv 4) by rw [Int.tdiv_eq_ediv_of_nonneg s0, IntKind.wrap_u64]; omega] at hco hrc
  have HCO := hid hco
  have HRC := hid hrc
  have HOF := hid hof
  have HRO := hid hro
  have HWH := hid hwh
  have HRW := hid hrw
  have HS1 := hid hsm1
  have HS2 := hid hsm2
  have HRI := hid hri
  have HBL := hid hb0
  have NLB := hid nlb
  clear hco hrc hof hro hwh hrw hsm1 hsm2 hri hb hb0 hB0 hW0 hld hw0 hw hx r0 haw hS0 hS hC0 hC pC pO pW hO hk0 hR eE eM eN2 hlen hmn hwl nlb
  go_enter Tryd.func3, Tryd.ntmps3
  go_upto_region 1 with fail
  rw [HW0.out]
  clear HW0
  go_upto_region 3 with (go_at_call 6; refine HAW.out.mono ?_; rintro e' w1 ⟨rfl, hb1⟩)
  have l1 := HLD.out w1 hb1
  go_upto_region 5 with (go_at_call 7; refine (HRI.out w1 hb1).mono ?_; rintro e' w2 ⟨rfl, hb2⟩)
  have hB2 := hb1.trans (hb2.mono hb1.size)
  have hBd : Below W0.heap.size W0 w2.drew := hB2.drew
  clear l1 hb1 hb2 hB2 HRI HAW
  refine wp_region_noPanic ?_
  refine wp_region_held_drew (S := fun W => Below W0.heap.size W0 W) (by kernel_rfl) (hBd) (fun hHeld => ?_)
  refine tk 0 (v := ?v1) ?y1 hHeld ?r1
  case y1 => intro w hSw; have ld := HLD.out _ hSw; go_simp; try with_reducible rfl
  refine tk 1 (v := ?v2) ?y2 hHeld ?r2
  case y2 => intro w hSw; go_simp; try with_reducible rfl
  refine tk 2 (v := ?v3) ?y3 hHeld ?r3
  case y3 => intro w hSw; go_simp; try with_reducible rfl
  refine tk 4 (v := ?v4) ?y4 hHeld ?r4
  case y4 => intro w hSw; have ld := HLD.out _ hSw; go_simp; try with_reducible rfl
  refine tk 5 (v := ?v5) ?y5 hHeld ?r5
  case y5 => intro w hSw; go_simp; try with_reducible rfl
  refine tk 6 (v := ?v6) ?y6 hHeld ?r6
  case y6 => intro w hSw; go_simp; try with_reducible rfl
  try simp only [Act.put, List.setIfInBounds_toArray, List.set_cons_zero, List.set_cons_succ, Array.toArray_toList, List.getElem_toArray, List.getElem_cons_zero, List.getElem_cons_succ]
  refine wpAnyH_ready (rs := [3]) (by kernel_rfl) (by simp) ?_
  refine AllReadyH.cons rfl (fun K hK => ?_) AllReadyH.nil
  go_simp
  refine (HCO.out _ hBd).mono ?_
  rintro e' w3 ⟨rfl, hb3⟩
  dsimp only
  have hB3 : Below W0.heap.size W0 w3 := hBd.trans (hb3.mono hBd.size)
  refine hK.out _ _ (hB3) (fun hHeld => ?_)
  clear hK K
  try simp only [Act.put, List.setIfInBounds_toArray, List.set_cons_zero, List.set_cons_succ, Array.toArray_toList, List.getElem_toArray, List.getElem_cons_zero, List.getElem_cons_succ]
  refine wpAnyH_ready (rs := [7]) (by kernel_rfl) (by simp) ?_
  refine AllReadyH.cons rfl (fun K hK => ?_) AllReadyH.nil
  go_simp
  refine (HRC.out _ hB3).mono ?_
  rintro e' w4 ⟨rfl, hb4⟩
  dsimp only
  have hB4 : Below W0.heap.size W0 w4 := hB3.trans (hb4.mono hB3.size)
  refine hK.out _ _ (hB4) (fun hHeld => ?_)
  clear hK K
  try simp only [Act.put, List.setIfInBounds_toArray, List.set_cons_zero, List.set_cons_succ, Array.toArray_toList, List.getElem_toArray, List.getElem_cons_zero, List.getElem_cons_succ]
  refine tk 8 (v := ?v7) ?y7 hHeld ?r7
  case y7 => intro w hSw; go_simp; try with_reducible rfl
  try simp only [Act.put, List.setIfInBounds_toArray, List.set_cons_zero, List.set_cons_succ, Array.toArray_toList, List.getElem_toArray, List.getElem_cons_zero, List.getElem_cons_succ]
  refine wpAnyH_done (by kernel_rfl) ?_ _
  refine NoPanic.normal ?_
  have l4 := HLD.out w4 hB4
  have HB4 := hid hB4
  clear hB3 hB4 hBd hb3 hb4 hHeld HCO HRC
  go_upto_region 8 with (go_at_call 10; refine (HOF.out w4 HB4.out).mono ?_; rintro e' w5 ⟨a5, c5, rfl, hn5, hb5⟩)
  have hB5 := HB4.out.trans (hb5.mono HB4.out.size)
  have l5 := HLD.out w5 hB5
  have HB5 := hid hB5
  have HN5 := hid hn5
  clear l4 hb5 hB5 hn5 HB4 HOF
  go_upto_region 9 with (go_at_call 11; refine (HRO.out w5 HB5.out).mono ?_; rintro e' w6 ⟨a6, c6, rfl, hn6, hb6⟩)
  have hB6 := HB5.out.trans (hb6.mono HB5.out.size)
  have hsm := HS1.out w6 a5 c5 a6 c6 (HN5.out.below hb6) hn6
  have HSM := hid hsm
  have HB6 := hid hB6
  clear l5 hb6 hB6 hn6 HB5 HN5 HRO hsm HS1
  go_upto_region 11 with (go_at_call 12; refine HSM.out.mono ?_; rintro e' w7 ⟨rfl, hb7⟩)
  have hB6' := HB6.out.trans (hb7.mono HB6.out.size)
  clear HB6 hb7
  have HB6 := hid hB6'
  clear hB6'
  have hb0 : Below w7.heap.size w7 (w7.alloc (.cells #[] 4)) := (Below.refl _ _).alloc (Nat.le_refl _) _
  have hbl := (HBL.out.below HB6.out).below hb0
  have HBL6 := hid hbl
  have H0 := hid hb0
  clear hb0 hbl HSM
  have slr := fun (W : World) (g C : Nat) (h : nb ≤ C) => Z.slB_run W (some ⟨g, 0, none⟩) (nb + 1) C nb h
  go_upto_region 12 with (first
    | (at_builtin; refine Z.wpList_append_bls _ rfl _ _ rfl w7.heap.size _ 0 [] rfl (Z.empty_owns w7) a nb cap b rfl HBL6.out (by omega) (by simp) ?_; intro v1 x1 ho1 hg1; have hb1 := below_grown H0.out (Z.empty_owns w7) (by simp) hg1; have HO1 := hid (Z.copy_owns (w := w7) ho1 (Z.ext_of b nb)); have HB1 := hid hb1; have hz1 := hb1.size; clear ho1 hg1 hb1)
    | (at_builtin; refine Z.wpList_append_bit x1 rfl _ _ rfl w7.heap.size v1 nb (Z.ext b nb) true rfl HO1.out rfl (Z.ext_at b nb).symm hnb hz1 ?_; intro g C x2 ho2 hg2; have hb2 := below_grown HB1.out HO1.out hz1 hg2; have HO2 := hid ho2; have HB2 := hid hb2; have hC : nb + 1 ≤ C := (by obtain ⟨_, _, he, hc, _⟩ := Z.owns_bls ho2; cases he; exact hc); have sr := slr x2 g C (by omega); clear ho2 hg2 hb2))
  clear sr slr
  obtain ⟨A, C', he, hc1, hc2, hbl, hge⟩ := Z.owns_bls HO2.out
  cases he
  have hB7 := HB6.out.trans (HB2.out.mono HB6.out.size)
  have l7 := HLD.out x2 hB7
  have hblm : Z.Bls x2 (some ⟨g, 0, none⟩) nb C (Z.ext b nb) := by
    rcases hbl with ⟨h1, _⟩ | ⟨_, _, h1⟩ | ⟨b', off, h1, h2, h3, h4, h5⟩
    · cases h1
    · omega
    · exact .inr (.inr ⟨b', off, h1, by omega, h3, h4, fun j hj => h5 j (by omega)⟩)
  have hlast : ∃ v, x2.cell? ⟨g, nb, none⟩ = some v ∧ v = .bool true := by
    obtain ⟨b', off, h1, h2, h3⟩ := Z.bls_at hbl nb (by omega)
    cases h1
    rw [Nat.zero_add] at h3
    exact ⟨_, h3, by rw [Z.ext_at]⟩
  obtain ⟨_, hlast, rfl⟩ := hlast
  have hgl : g < x2.heap.size := by
    obtain ⟨b', off, h1, h2, h3⟩ := Z.bls_at hbl nb (by omega)
    cases h1
    exact h2
  have HB7 := hid hB7
  have HBM := hid hblm
  have HLA := hid hlast
  clear hbl hge hblm hlast hB7 HO1 HB1 HO2 HB2 H0 HBL6 HB6
  go_upto_region 13 with (go_at_call 13; refine (HWH.out x2 _ _ HB7.out HBM.out).mono ?_; rintro e' w8 ⟨a8, c8, rfl, hn8, hb8⟩)
  have hB8 := HB7.out.trans (hb8.mono HB7.out.size)
  have l8 := HLD.out w8 hB8
  have HB8 := hid hB8
  have HN8 := hid hn8
  have HX8 := hid hb8
  clear l7 hb8 hB8 hn8 HWH
  go_upto_region 14 with (go_at_call 14; refine (HRW.out w8 HB8.out).mono ?_; rintro e' w9 ⟨a9, c9, rfl, hn9, hb9⟩)
  have hB9 := HB8.out.trans (hb9.mono HB8.out.size)
  have hx9 := HX8.out.trans (hb9.mono HX8.out.size)
  have hsm := HS2.out w9 a8 c8 a9 c9 (NLB.out _ _ _ HN8.out hb9) hn9
  have la9 := (below_cell hx9 hgl).trans HLA.out
  have sr9 := fun (W : World) => Z.slB_run W (some ⟨g, 0, none⟩) nb C (nb + 1) hC
  have cw : ((nb + 1 : Nat) : Int) = (nb : Int) + 1 := by omega
  simp only [cw] at sr9
  have nw : IntKind.i64.wrap ((nb : Int) + 1) = (nb : Int) + 1 := by rw [IntKind.wrap_i64]; omega
  have n1 : (nb : Int) < (nb : Int) + 1 := by omega
  have n0 : (0 : Int) ≤ (nb : Int) := by omega
  have HSM := hid hsm
  have HB9 := hid hB9
  have HX9 := hid hx9
  clear l8 hb9 hB9 hn9 HB8 HN8 HRW hsm HS2 hx9 HX8 cw
  go_upto_region 16 with (go_at_call 12; refine HSM.out.mono ?_; rintro e' w10 ⟨rfl, hb10⟩; have la10 := (below_cell hb10 (Nat.lt_of_lt_of_le hgl HX9.out.size)).trans la9)
  have hB10 := HB9.out.trans (hb10.mono HB9.out.size)
  have hb9a := HBL.out.below hB10
  have hb9m := (HBM.out.below HX9.out).below hb10
  clear HB9 la10 hb10
  have HB9 := hid hB10
  clear hB10
  have HBA := hid hb9a
  have HBX := hid hb9m
  clear hb9a hb9m sr9 la9 HSM
  go_wp2
  go_loopw [18] (fun c wr => ∃ k : Nat, k ≤ nb ∧ c = .int .i64 k ∧ Below w10.heap.size w10 wr) (fun c _ => nb - (intOf c).toNat)
  case atStart => exact ⟨0, by omega, rfl, Below.refl _ _⟩
  case round =>
    obtain ⟨k, hk, rfl, hw⟩ := hrel
    by_cases hkn : k < nb
    · have k1 : (k : Int) < (nb : Int) := by omega
      have k2 : (0 : Int) ≤ (k : Int) := by omega
      obtain ⟨b1, o1, ea1, hl1, hc1⟩ := Z.bls_at (HBX.out.below hw) k hkn
      obtain ⟨b2, o2, ea2, hl2, hc2⟩ := Z.bls_at (HBA.out.below hw) k hkn
      cases ea1
      subst ea2
      rw [Z.ext_congr b nb k hkn] at hc1
      obtain ⟨V, eV⟩ : ∃ V, b k = V := ⟨_, rfl⟩
      rw [eV] at hc1 hc2
      rw [Nat.zero_add] at hc1
      have HWW := hid hw
      clear hw eV hl1 hl2
      go_upto_region 19 with fail
      go_quiet (fail)
      go_wp2
      go_roundw
      case rel => exact ⟨k + 1, by omega, by go_num, below_drewN HWW.out _⟩
      case measure => simp [intOf]; omega
    · obtain rfl : k = nb := by omega
      have HWW := hid hw
      clear hw
      go_wp2
      go_ret
      exact ⟨rfl, HB.out.trans ((HB9.out.trans (HWW.out.mono HB9.out.size)).mono HB.out.size)⟩

end Go.Proofs.YtenhgoclfljjlaaDoor
