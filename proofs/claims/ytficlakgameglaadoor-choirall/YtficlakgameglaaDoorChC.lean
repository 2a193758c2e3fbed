/-
  The program's syncQuestion.
-/

import Derived.Test.YtficlakgameglaaDoorChB
import Derived.Test.YtficlakgameglaaDoorQP
import Derived.Test.YtficlakgameglaaDoorSgP
import Derived.Test.YtficlakgameglaaDoorQR
import Derived.Test.YtficlakgameglaaDoorQQ
import Derived.Test.YtficlakgameglaaDoorQM
import Derived.Test.YtficlakgameglaaDoorQN
import Derived.Test.YtficlakgameglaaDoorQK
import Derived.Test.YtficlakgameglaaDoorPkS
namespace Go.Proofs.YtficlakgameglaaDoor

open Go.RowKit

set_option linter.unusedVariables false

set_option linter.unusedSimpArgs false

set_option maxRecDepth 20000

/-- Keys of a committee, the signature of an aggregate, its bits, in memory. -/
theorem bys_range {w : World} {g o n : Nat} {f : Nat → Int} (h : Bys w (some ⟨g, o, none⟩) n n f) (hn : 0 < n) : w.rangeAt g o (bl f n) := by
  rcases h with ⟨h, _⟩ | ⟨_, _, h0⟩ | ⟨b, off, e, _, _, _, hc⟩
  · cases h
  · omega
  · cases e
    intro j v hj
    obtain ⟨h1, rfl⟩ := bl_get f n j v hj
    exact hc j h1

theorem st_keys {w : World} {g : Nat} {t : TypeId} {x : VState} (h : w.heap[g]? = some (.cells (cel (sState x)) t)) : (lvKeys ⟨g, 1093, none⟩).run Tryd.prog w = .ok (.agg (vs .u8 384 x.f22.f0.f0)) w :=
  loadAt_var (run_loadAt_mid w g 1093 45 _ _ (bys_range (seg_bys h 43 384 x.f22.f0.f0 (by kernel_rfl) 1093 (by kernel_rfl) (by omega)) (by omega)) Tryd.underlying45 rfl (by rw [List.length_map, List.length_range]; kernel_rfl))

theorem ag_sig {w : World} {g : Nat} {t : TypeId} {a : VSyncAggregate} (h : w.heap[g]? = some (.cells (cel (sSyncAggregate a)) t)) : (lvSg ⟨g, 8, none⟩).run Tryd.prog w = .ok (.agg (vs .u8 96 a.f1)) w :=
  loadAt_var (run_loadAt_mid w g 8 55 _ _ (bys_range (seg_bys h 8 96 a.f1 rfl 8 rfl (by omega)) (by omega)) Tryd.underlying55 rfl (by rw [List.length_map, List.length_range]; kernel_rfl))

theorem ag_bit {w : World} {g : Nat} {t : TypeId} {a : VSyncAggregate} (h : w.heap[g]? = some (.cells (cel (sSyncAggregate a)) t)) (k : Nat) (hk : k < 8) : w.cell? ⟨g, k, none⟩ = some (.bool (a.f0 k)) := by
  rw [row_cell h]
  rcases (by omega : k = 0 ∨ k = 1 ∨ k = 2 ∨ k = 3 ∨ k = 4 ∨ k = 5 ∨ k = 6 ∨ k = 7) with rfl | rfl | rfl | rfl | rfl | rfl | rfl | rfl
  all_goals rfl

/-- The keys, step by step. -/
theorem skF_one {b : Nat → Bool} {k : Nat} (x : VState) (h : b k = true) : (∀ q, q < 48 * skN b k → skF x b (k + 1) q = skF x b k q) ∧ ∀ q, q < 48 * 1 → skF x b (k + 1) (48 * skN b k + q) = skK x k q :=
  ⟨fun q hq => by rw [skF_yes x h, if_pos hq], fun q hq => by rw [skF_yes x h, if_neg (by omega), Nat.add_sub_cancel_left]⟩

theorem skF_off {b : Nat → Bool} {k : Nat} (x : VState) (h : b k = false) : bl (skF x b (k + 1)) (48 * skN b (k + 1)) = bl (skF x b k) (48 * skN b k) := by
  rw [skN_no h]
  exact List.map_congr_left fun q _ => congrArg (Value.int .u8) (skF_no x h q)

theorem ix_keys (x : VState) (k : Nat) (hk : k < 8) (W : World) : (ixK (.agg (vs .u8 384 x.f22.f0.f0)) (.int .i64 k)).run Tryd.prog W = .ok (.agg (vs .u8 48 (skK x k))) W := ixK_run W x.f22.f0.f0 k hk

attribute [local go_sem ↓] lvState_eq lv24_eq sv24_eq lvSg_eq lvKy_eq svKy_eq bsK_eq lvKeys_eq ixK_eq

set_option maxHeartbeats 8000000 in
theorem sque_any (x : VState) (a : VSyncAggregate) (w : World) (hx : OkState x) (hw : InW w x) (hR : Rg x) (h2 : 1 ≤ x.f2) (ha : ∀ j, j < 96 → 0 ≤ a.f1 j ∧ a.f1 j < 256) (hS : Sh w) :
    Calls Tryd.prog 17 #[.agg (cel (sState x)), .agg (cel (sSyncAggregate a))] w fun e' w' => e' = .returned (.agg (vs .u8 32 (cyQ x a))) ∧ Below w.heap.size w w' := by
  obtain ⟨W0, hW0⟩ : ∃ W, ((w.alloc (.cells (cel (sState x)) 49)).alloc (.cells (cel (sSyncAggregate a)) 58)).alloc (.cells (vs .u8 32 fun _ => 0) 24) = W := ⟨_, rfl⟩
  have r0 : W0.heap[w.heap.size]? = some (.cells (cel (sState x)) 49) := by rw [← hW0]; exact (heap_old (by simp <;> omega)).trans ((heap_old (by simp)).trans (heap_new rfl))
  have r1 : W0.heap[w.heap.size + 1]? = some (.cells (cel (sSyncAggregate a)) 58) := by rw [← hW0]; exact (heap_old (by simp)).trans (heap_new (by simp))
  have r2 : W0.heap[w.heap.size + 2]? = some (.cells (vs .u8 32 fun _ => 0) 24) := by rw [← hW0]; exact heap_new (by simp)
  have hB0 : Up w W0 := by rw [← hW0]; exact (((Below.refl _ _).alloc (Nat.le_refl _) _).alloc (by simp) _).alloc (by simp <;> omega) _
  have h0 := hx.o2.1
  have h1 := hR.sl
  have hlx : ∀ W, Up W0 W → (lvState ⟨w.heap.size, 0, none⟩).run Tryd.prog W = .ok (.agg (cel (sState x))) W := fun W h => lvState_run (upR h r0)
  have hks : ∀ W, Up W0 W → (lvKeys ⟨w.heap.size, 1093, none⟩).run Tryd.prog W = .ok (.agg (vs .u8 384 x.f22.f0.f0)) W := fun W h => st_keys (upR h r0)
  have hbi : ∀ W k, Up W0 W → k < 8 → W.cell? ⟨w.heap.size + 1, k, none⟩ = some (.bool (a.f0 k)) := fun W k h hk => ag_bit (upR h r1) k hk
  have hr1 : ∀ W, Kept (w.heap.size + 2) W0 W → W.heap[w.heap.size + 1]? = some (.cells (cel (sSyncAggregate a)) 58) := fun W h => (h.block _ (some_ltK r1) (by omega)).trans r1
  have hsg : ∀ W, Kept (w.heap.size + 2) W0 W → (lvSg ⟨w.heap.size + 1, 8, none⟩).run Tryd.prog W = .ok (.agg (vs .u8 96 a.f1)) W := fun W h => ag_sig (hr1 W h)
  have hrt := fun (W : World) (h : Up W0 W) => rootat_prog x (x.f2 - 1) W hx (hR.lk (hw.below (upT hB0 h))) (by omega) (by omega)
  have hep : ∀ W : World, Calls Tryd.prog 29 #[.int .u64 (x.f2 - 1)] W fun e' w' => e' = .returned (.int .u64 ((x.f2 - 1) / 4)) ∧ Below W.heap.size W w' := fun W => by
    refine (epoC_any (x.f2 - 1) W (by omega) (by omega)).mono ?_
    rintro e' w' ⟨h1, rfl⟩
    exact ⟨h1, Below.refl _ _⟩
  have hdo := fun (W : World) (h : Up W0 W) => dom_prog x 7 ((x.f2 - 1) / 4) W hx (by omega) (by omega) (by omega) (by omega) (hS.below (upT hB0 h))
  have hrb : ∀ j, j < 32 → 0 ≤ rtV x (x.f2 - 1) j ∧ rtV x (x.f2 - 1) j < 256 := fun j hj => by
    unfold rtV
    split
    · exact hx.o5 _ (by omega)
    · omega
  have hro := fun (W : World) (h : Up W0 W) => roo_prog (rtV x (x.f2 - 1)) (domV x 7 ((x.f2 - 1) / 4)) W hrb (fun j _ => domB ..) (hS.below (upT hB0 h))
  have hn8 := skN_le a.f0 8
  have hqu := fun (W : World) (ao : Option Addr) (c : Nat) (h : Up W0 W) (hk : Kys W ao (skN a.f0 8) c (skF x a.f0 8)) => que_prog ao (skN a.f0 8) c (skF x a.f0 8) (tw (rtV x (x.f2 - 1)) (domV x 7 ((x.f2 - 1) / 4))) a.f1 W hk (fun j hj => skF_bd hx a.f0 8 (Nat.le_refl _) j hj) (fun j _ => twB ..) ha (by omega) (hS.below (upT hB0 h))
  have ecq : qsV (skF x a.f0 8) (skN a.f0 8) (tw (rtV x (x.f2 - 1)) (domV x 7 ((x.f2 - 1) / 4))) a.f1 = cyQ x a := rfl
  rw [ecq] at hqu
  clear ecq
  have c2 := cS2 r0
  have hix := fun k (hk : k < 8) (W : World) => ix_keys x k hk W
  generalize cyQ x a = QV at hqu ⊢
  generalize tw (rtV x (x.f2 - 1)) (domV x 7 ((x.f2 - 1) / 4)) = TW at hro hqu
  generalize domV x 7 ((x.f2 - 1) / 4) = DM at hdo hro
  generalize rtV x (x.f2 - 1) = RT at hrt hro
  generalize rtE x (x.f2 - 1) = RE at hrt
  generalize x.f22.f0.f0 = KF at hks hix
  obtain ⟨b, eb⟩ : ∃ b, a.f0 = b := ⟨_, rfl⟩
  simp only [eb] at hbi hqu hn8
  have k2 : IntKind.u64.wrap (x.f2 - 1) = x.f2 - 1 := by rw [IntKind.wrap_u64]; omega
  obtain ⟨S, eS⟩ : ∃ s, x.f2 - 1 = s := ⟨_, rfl⟩
  rw [eS] at hrt
  replace k2 := k2.trans eS
  simp only [eS] at hep hdo
  obtain ⟨SG, eSG⟩ : ∃ s, a.f1 = s := ⟨_, rfl⟩
  rw [eSG] at hsg hqu
  have HLX0 := hid hlx
  have HKS := hid hks
  have HBI := hid hbi
  have HSG0 := hid hsg
  have HRT := hid hrt
  have HEP := hid hep
  have HDO0 := hid hdo
  have HRO0 := hid hro
  have HQU0 := hid hqu
  have HIX := hid hix
  have HN8 := hid hn8
  have HB := hid hB0
  have HW := hid hW0
  have RR := hid r2
  have z := zero_root
  have z4 := zero_48
  obtain ⟨XC, eXC⟩ : ∃ X, cel (sState x) = X := ⟨_, rfl⟩
  obtain ⟨AC, eAC⟩ : ∃ X, cel (sSyncAggregate a) = X := ⟨_, rfl⟩
  rw [eXC] at HLX0 HRT HDO0 HW ⊢
  rw [eAC] at HW ⊢
  have z0 : w.heap.size + 2 < W0.heap.size := some_ltK r2
  clear hlx hks hbi hsg hrt hep hdo hro hqu hix hn8 hB0 hW0 r0 r1 r2 hx hw hR ha hS hr1 hrb h0 h1 h2 eS eSG eb eXC eAC
  go_enter Tryd.func17, Tryd.ntmps17
  go_upto_region 1 with fail
  rw [HW.out]
  clear HW
  have lk0 := HKS.out _ (Below.refl _ _)
  go_wp2
  clear c2 k2 lk0
  go_loopw [6, 18] (fun v i wr => ∃ (k : Nat) (v' : Value), k ≤ 8 ∧ v = v' ∧ i = .int .i64 k ∧ wr.ownsRow W0.heap.size 44 48 v' (skN b k) (bl (skF x b k) (48 * skN b k)) ∧ Up W0 wr) (fun _ i _ => 8 - (intOf i).toNat)
  case atStart => exact ⟨0, _, by omega, rfl, rfl, World.ownsRow_nil _ _ _ _, Below.refl _ _⟩
  case round =>
    obtain ⟨k, v, hk, ev, rfl, ho, hu⟩ := hrel
    obtain rfl := ev.symm
    clear ev
    by_cases hk8 : k < 8
    · have k1 : (k : Int) < 8 := by omega
      have k0 : (0 : Int) ≤ (k : Int) := by omega
      have ix := fun W => HIX.out k hk8 W
      have hnk := skN_le b k
      obtain ⟨KK, eKK⟩ : ∃ K, skK x k = K := ⟨_, rfl⟩
      have sv := svKy_newv wr (fun _ => 0) KK
      simp only [eKK] at ix
      have HO := hid ho
      have HUU := hid hu
      have EK := hid eKK
      clear ho hu eKK
      go_upto_region 6 with fail
      obtain ⟨W5, y5, hW5, ey5, r5, hd5, _⟩ := upN2 (Below.refl _ wr) (.cells (vs .u8 48 KK) 44)
      rw [hW5, ey5]
      have ho5 := own_gen HO.out hd5
      have hu5 := upT HUU.out hd5
      have cb := HBI.out W5 k hu5 hk8
      have lk5 := lvKy_run r5
      have HO5 := hid ho5
      have HU5 := hid hu5
      clear hW5 ey5 hd5 ho5 hu5 HO HUU sv ix
      obtain ⟨B, hB⟩ : ∃ B, b k = B := ⟨_, rfl⟩
      rw [hB] at cb
      have EB := hid hB
      clear hB
      cases B
      · go_wp2
        go_roundw
        case rel => exact ⟨k + 1, _, by omega, rfl, by go_num, by rw [skF_off x EB.out, skN_no EB.out]; exact HO5.out, HU5.out⟩
        case measure => simp [intOf]; omega
      · have bz := bsK_1 W5 KK
        have hd6 : Up W5 (W5.alloc (.cells (vs .u8 48 KK) 44)) := (Below.refl _ _).alloc (Nat.le_refl _) _
        have HO6 := hid (own_gen HO5.out hd6)
        have HU6 := hid (upT HU5.out hd6)
        have hky : Kys (W5.alloc (.cells (vs .u8 48 KK) 44)) (some ⟨W5.heap.size, 0, none⟩) 1 1 KK := by
          have hr : (W5.alloc (.cells (vs .u8 48 KK) 44)).heap[W5.heap.size]? = some (.cells (vs .u8 48 KK) 44) := heap_new rfl
          exact .inr (.inr ⟨W5.heap.size, 0, rfl, Nat.le_refl _, some_ltK hr, fun j hj => by rw [Nat.zero_add]; exact row_int hr j (by omega)⟩)
        have HKY := hid hky
        have hst := skF_one x EB.out
        rw [EK.out] at hst
        have HST := hid hst
        clear hky hst hd6
        go_wp2_with (at_builtin; (refine wpList_append_kys _ rfl _ _ rfl W0.heap.size v (skN b k) (skF x b k) rfl HO6.out (some ⟨W5.heap.size, 0, none⟩) 1 1 KK rfl HKY.out (by omega) HU6.out.size (skF x b (k + 1)) HST.out.1 HST.out.2 ?_); intro v2 w2 ho2 hg2)
        have hb2 := below_grownK HU6.out HO6.out HU6.out.size hg2
        go_roundw
        case rel => exact ⟨k + 1, _, by omega, rfl, by go_num, by rw [skN_yes EB.out]; exact ho2, hb2⟩
        case measure => simp [intOf]; omega
    · obtain rfl : k = 8 := by omega
      obtain ⟨ka, kc, rfl, hky⟩ := own_kys ho
      have HKY0 := hid hky
      have HU8 := hid hu
      have hr8 := HRT.out wr hu
      have HR8 := hid hr8
      have lx8 := HLX0.out wr hu
      clear ho hu hky hr8 HRT HBI HIX HKS z4
      go_upto_region 10 with (go_at_call 37; refine HR8.out.mono ?_; rintro e' w9 ⟨rfl, hb9⟩; have sv := sv24_newv w9 (fun _ => 0) RT)
      obtain ⟨V9, y9, hV9, ey9, r9, hd9, hy9⟩ := upN2 hb9 (.cells (vs .u8 32 RT) 24)
      rw [hV9, ey9]
      have h89 := upT hb9 hd9
      have hU9 := upT HU8.out h89
      have HK9 := hid (HKY0.out.below h89)
      have HU9 := hid hU9
      have R90 := hid r9
      have HY90 := hid (show W0.heap.size ≤ y9 from Nat.le_trans HU8.out.size hy9)
      have HLX := hid (fun W (h : Up V9 W) => HLX0.out W (upT HU9.out h))
      have HDO := hid (fun W (h : Up V9 W) => HDO0.out W (upT HU9.out h))
      clear hV9 ey9 r9 hd9 hy9 hb9 h89 hU9 HR8 lx8 sv HLX0 HDO0 HKY0
      go_cut [11] from 37 (fun u wx => ∃ y, u = .pointer (some ⟨y, 0, none⟩) ∧ wx.heap[y]? = some (.cells (vs .u8 32 DM) 24) ∧ Up V9 wx ∧ V9.heap.size ≤ y)
      case first =>
        refine wp_region_noPanic ?_
        refine wp_region_held_drew (S := fun W => Up V9 W) (by kernel_rfl) ((Below.refl _ _).drew) (fun hHeld => ?_)
        generalize V9.drew = wd at hHeld ⊢
        refine tk 0 (v := ?v301) ?y301 hHeld ?r301
        case y301 => intro w hSw; have ld0 := HLX.out w hSw; go_simp; try with_reducible rfl
        refine tk 1 (v := ?v302) ?y302 hHeld ?r302
        case y302 => intro w hSw; go_simp; try with_reducible rfl
        try simp only [Act.put, List.setIfInBounds_toArray, List.set_cons_zero, List.set_cons_succ, Array.toArray_toList, List.getElem_toArray, List.getElem_cons_zero, List.getElem_cons_succ]
        refine sh1 (fuel' := ?f101) (listed' := ?l101) (act := ?a101) (fun (y11 : Nat) V => Up V9 V ∧ V.heap[y11]? = some (.cells (vs .u8 32 fun _ => 0) 24) ∧ V9.heap.size ≤ y11) (fun K101 => ?m101) ?t101
        case' m101 => skip
        refine sh1 (fuel' := ?f100) (listed' := ?l100) (act := ?a100) (fun (y11 : Nat) V => Up V9 V ∧ V.heap[y11]? = some (.cells (vs .u8 32 fun _ => 0) 24) ∧ V9.heap.size ≤ y11) (fun K100 => ?m100) ?t100
        case' m100 => skip
        refine rd2 2 4 (fun K hK => ?_) (fun K hK => ?_)
        · go_simp
          refine (HEP.out wd).mono ?_
          rintro e' x1 ⟨rfl, hd1⟩
          dsimp only
          have hc1 := upT hHeld hd1
          refine hK.out _ _ hc1 (fun hHeld => ?_)
          clear hK K
          try simp only [Act.put, List.setIfInBounds_toArray, List.set_cons_zero, List.set_cons_succ, Array.toArray_toList, List.getElem_toArray, List.getElem_cons_zero, List.getElem_cons_succ]
          refine rd2 3 4 (fun K hK => ?_) (fun K hK => ?_)
          · go_simp
            refine (HDO.out _ hc1).mono ?_
            rintro e' x2 ⟨rfl, hd2⟩
            dsimp only
            have hc2 := upT hc1 hd2
            refine hK.out _ _ hc2 (fun hHeld => ?_)
            clear hK K
            try simp only [Act.put, List.setIfInBounds_toArray, List.set_cons_zero, List.set_cons_succ, Array.toArray_toList, List.getElem_toArray, List.getElem_cons_zero, List.getElem_cons_succ]
            refine rd1 4 (fun K hK => ?_)
            have zr := zero_root
            go_simp
            obtain ⟨x3, y11, hx, ey, ry11, hd3, by11⟩ := upN2 hc2 (.cells (vs .u8 32 fun _ => 0) 24)
            rw [hx, ey]
            have l3 := Nat.le_of_eq ey
            clear hx ey zr
            have hc3 := upT hc2 hd3
            refine hK.out _ _ hc3 (fun hHeld => ?_)
            clear hK K
            try simp only [Act.put, List.setIfInBounds_toArray, List.set_cons_zero, List.set_cons_succ, Array.toArray_toList, List.getElem_toArray, List.getElem_cons_zero, List.getElem_cons_succ]
            exact K101.out y11 x3 ⟨hc3, ry11, by11⟩
          · have zr := zero_root
            go_simp
            obtain ⟨x4, y11, hx, ey, ry11, hd4, by11⟩ := upN2 hc1 (.cells (vs .u8 32 fun _ => 0) 24)
            rw [hx, ey]
            have l4 := Nat.le_of_eq ey
            clear hx ey zr
            have hc4 := upT hc1 hd4
            refine hK.out _ _ hc4 (fun hHeld => ?_)
            clear hK K
            try simp only [Act.put, List.setIfInBounds_toArray, List.set_cons_zero, List.set_cons_succ, Array.toArray_toList, List.getElem_toArray, List.getElem_cons_zero, List.getElem_cons_succ]
            exact K100.out y11 x4 ⟨hc4, ry11, by11⟩
        · have zr := zero_root
          go_simp
          obtain ⟨x5, y11, hx, ey, ry11, hd5, by11⟩ := upN2 hHeld (.cells (vs .u8 32 fun _ => 0) 24)
          rw [hx, ey]
          have l5 := Nat.le_of_eq ey
          clear hx ey zr
          have hc5 := upT hHeld hd5
          refine hK.out _ _ hc5 (fun hHeld => ?_)
          clear hK K
          try simp only [Act.put, List.setIfInBounds_toArray, List.set_cons_zero, List.set_cons_succ, Array.toArray_toList, List.getElem_toArray, List.getElem_cons_zero, List.getElem_cons_succ]
          refine rd1 2 (fun K hK => ?_)
          go_simp
          refine (HEP.out x5).mono ?_
          rintro e' x6 ⟨rfl, hd6⟩
          dsimp only
          have hc6 := upT hc5 hd6
          replace ry11 := upR hd6 ry11
          refine hK.out _ _ hc6 (fun hHeld => ?_)
          clear hK K
          try simp only [Act.put, List.setIfInBounds_toArray, List.set_cons_zero, List.set_cons_succ, Array.toArray_toList, List.getElem_toArray, List.getElem_cons_zero, List.getElem_cons_succ]
          exact K100.out y11 x6 ⟨hc6, ry11, by11⟩
        case t100 =>
          rintro y11 V ⟨hB, ry11, by11⟩
          have hHeld := hB
          refine rd1 3 (fun K hK => ?_)
          go_simp
          refine (HDO.out _ hB).mono ?_
          rintro e' x7 ⟨rfl, hd7⟩
          dsimp only
          have hc7 := upT hB hd7
          replace ry11 := upR hd7 ry11
          refine hK.out _ _ hc7 (fun hHeld => ?_)
          clear hK K
          try simp only [Act.put, List.setIfInBounds_toArray, List.set_cons_zero, List.set_cons_succ, Array.toArray_toList, List.getElem_toArray, List.getElem_cons_zero, List.getElem_cons_succ]
          exact K101.out y11 x7 ⟨hc7, ry11, by11⟩
        case t101 =>
          rintro y11 V ⟨hB, ry11, by11⟩
          have hHeld := hB
          refine rd1 5 (fun K hK => ?_)
          have v5 := sv24_run ry11 DM
          go_simp
          have hc5 : Up V9 _ := below_row hB by11 (vs .u8 32 DM)
          refine hK.out _ _ hc5 (fun hHeld => ?_)
          clear hK K
          try simp only [Act.put, List.setIfInBounds_toArray, List.set_cons_zero, List.set_cons_succ, Array.toArray_toList, List.getElem_toArray, List.getElem_cons_zero, List.getElem_cons_succ]
          refine wpAnyH_done (by kernel_rfl) ?_ _
          refine NoPanic.normal ?_
          go_wp2
          go_meet
          exact ⟨_, rfl, setRow_at ry11, hc5, by11⟩
      case rest =>
        obtain ⟨y11, rfl, r11, hcu, hy11⟩ := hcut
        obtain ⟨VC, rfl⟩ : ∃ V, V = wc := ⟨wc, rfl⟩
        have HUC := hid (upT HU9.out hcu)
        have HBW := hid HB.out
        have R9 := hid (upR hcu R90.out)
        have R11 := hid r11
        have HY9 := hid (show w.heap.size + 2 < y9 from Nat.lt_of_lt_of_le z0 HY90.out)
        have HY11 := hid (show w.heap.size + 2 < y11 from Nat.lt_of_lt_of_le z0 (Nat.le_trans HU9.out.size hy11))
        have HKY := hid (fun W (h : Up VC W) => (HK9.out.below hcu).below h)
        have HSG := hid (fun W (h : Kept (w.heap.size + 2) VC W) => HSG0.out W ((Kept.ofBelow HUC.out).trans h))
        have HRO := hid (fun W (h : Up W0 W) => HRO0.out W h)
        have HQU := hid (fun W ao c (h : Up W0 W) hk => HQU0.out W ao c h hk)
        clear r11 hcu hy11 HDO HEP HSG0 HRO0 HQU0 HK9 HU9 R90 HY90 HLX
        go_upto_region 11 with fail
        refine wp_region_noPanic ?_
        refine wp_region_held_drew (S := fun W => Kept (w.heap.size + 2) VC W) (by kernel_rfl) ((Kept.refl _ _).drew) (fun hHeld => ?_)
        have hUd : Up VC VC.drew := (Below.refl _ _).drew
        generalize VC.drew = wd at hHeld hUd ⊢
        refine tk 0 (v := ?v303) ?y303 hHeld ?r303
        case y303 => intro w hSw; go_simp; try with_reducible rfl
        refine tk 1 (v := ?v304) ?y304 hHeld ?r304
        case y304 => intro w hSw; have ld0 := lv24_run ((hSw.block y9 (some_ltK R9.out) (by have := HY9.out; omega)).trans R9.out); go_simp; try with_reducible rfl
        refine tk 2 (v := ?v305) ?y305 hHeld ?r305
        case y305 => intro w hSw; have ld0 := lv24_run ((hSw.block y11 (some_ltK R11.out) (by have := HY11.out; omega)).trans R11.out); go_simp; try with_reducible rfl
        refine tk 4 (v := ?v306) ?y306 hHeld ?r306
        case y306 => intro w hSw; go_simp; try with_reducible rfl
        refine tk 5 (v := ?v307) ?y307 hHeld ?r307
        case y307 => intro w hSw; have ld0 := HSG.out w hSw; go_simp; try with_reducible rfl
        try simp only [Act.put, List.setIfInBounds_toArray, List.set_cons_zero, List.set_cons_succ, Array.toArray_toList, List.getElem_toArray, List.getElem_cons_zero, List.getElem_cons_succ]
        refine rd1 3 (fun K hK => ?_)
        go_simp
        refine (HRO.out _ (upT HUC.out hUd)).mono ?_
        rintro e' x1 ⟨rfl, hd1⟩
        dsimp only
        have hc1 := upT hUd hd1
        refine hK.out _ _ (Kept.ofBelow hc1) (fun hHeld => ?_)
        clear hK K
        try simp only [Act.put, List.setIfInBounds_toArray, List.set_cons_zero, List.set_cons_succ, Array.toArray_toList, List.getElem_toArray, List.getElem_cons_zero, List.getElem_cons_succ]
        refine rd1 6 (fun K hK => ?_)
        go_simp
        refine (HQU.out _ _ _ (upT HUC.out hc1) (HKY.out _ hc1)).mono ?_
        rintro e' x2 ⟨rfl, hd2⟩
        dsimp only
        have hc2 := upT hc1 hd2
        refine hK.out _ _ (Kept.ofBelow hc2) (fun hHeld => ?_)
        clear hK K
        try simp only [Act.put, List.setIfInBounds_toArray, List.set_cons_zero, List.set_cons_succ, Array.toArray_toList, List.getElem_toArray, List.getElem_cons_zero, List.getElem_cons_succ]
        have r2 := upR (upT HUC.out hc2) RR.out
        refine rd1 7 (fun K hK => ?_)
        have v3 := sv24_run r2 QV
        go_simp
        have hc3 : Up w _ := below_row (upT HBW.out (upT HUC.out hc2)) (by omega : w.heap.size ≤ w.heap.size + 2) (vs .u8 32 QV)
        refine hK.out _ _ ((Kept.ofBelow hc2).setRow _) (fun hHeld => ?_)
        clear hK K
        try simp only [Act.put, List.setIfInBounds_toArray, List.set_cons_zero, List.set_cons_succ, Array.toArray_toList, List.getElem_toArray, List.getElem_cons_zero, List.getElem_cons_succ]
        refine wpAnyH_done (by kernel_rfl) ?_ _
        refine NoPanic.normal ?_
        go_wp2
        exact ret24 4 (w.heap.size + 2) QV 24 rfl rfl rfl (setRow_at r2) ⟨rfl, hc3⟩

end Go.Proofs.YtficlakgameglaaDoor
