/-
  What the program's draw answers.
-/

import Derived.Test.YtficlakgameglaaDoorQP
import Derived.Test.YtficlakgameglaaDoorQJ
import Derived.Test.YtficlakgameglaaDoorQI
import Derived.Test.YtficlakgameglaaDoorQO
import Derived.ScopeJumps

import Derived.WalkMore

import Derived.BigQuiet

import Derived.Deep.QuietTactic

namespace Go.Proofs.YtficlakgameglaaDoor

open Go.RowKit

set_option linter.unusedVariables false

set_option linter.unusedSimpArgs false

set_option maxRecDepth 20000

attribute [local go_sem ↓] lvState_eq svState_eq bdState_eq lvValidator_eq svValidator_eq ixValidator_eq sv24_eq lv24_eq sv8_eq

/-- Jumps back to a label: the way from the label is walked once. -/
theorem scope_jumps {P : Program} {a : Act} {w : World} {Q : Exit → Act → World → Prop} {c rest : Code} (l : Nat) (J : Act → World → Prop) (μ : Act → World → Nat) (hf : findLabel c l = some (Code.skip.seq rest))
    (pass : ∀ a w, J a w → rest.wp P (Exit.jump l (fun a' w' => J a' w' ∧ μ a' w' < μ a w) Q) a w)
    (first : (∀ a w, J a w → rest.wp P (Exit.jump l J Q) a w) → c.wp P (Exit.jump l J Q) a w) : (Code.scope c).wp P Q a w :=
  wp_scope_jumps l J μ hf (first fun a w h => Code.wp_mono (fun e a' w' hq => by
    cases e with
    | goto l' => exact ⟨hq.1, hq.2.1⟩
    | _ => exact hq) (pass a w h)) fun a w h => wp_seq (wp_skip (pass a w h))

theorem taken_any (E T : Int) (w : World) (e0 : 0 ≤ E) (e1 : E ≤ 32000000000) (t0 : 0 ≤ T) (t1 : T < 256) :
    Calls Tryd.prog 87 #[.int .u64 E, .int .u64 T] w fun e' w' => e' = .returned (.bool (decide (32000000000 * T ≤ E * 255))) ∧ w' = w := by
  have ww1 : IntKind.u64.wrap (E * 255) = E * 255 := by rw [IntKind.wrap_u64]; omega
  have ww2 : IntKind.u64.wrap (32000000000 * T) = 32000000000 * T := by rw [IntKind.wrap_u64]; omega
  go_enter Tryd.func87, Tryd.ntmps87
  go_wp2
  go_ret
  exact ⟨rfl, rfl⟩

set_option maxHeartbeats 1000000 in
theorem lot_any (s : Nat → Int) (i : Nat) (w : World) (hs : ∀ j, j < 32 → 0 ≤ s j ∧ s j < 256) (hi : i < 256) (hS : Sh w) :
    Calls Tryd.prog 88 #[.int .u64 (i : Int), .agg (vs .u8 32 s)] w fun e' w' => e' = .returned (.int .u64 (lotV s i)) ∧ Below w.heap.size w w' := by
  obtain ⟨W0, hW0⟩ : ∃ W, w.alloc (.cells (vs .u8 32 s) 24) = W := ⟨_, rfl⟩
  have r0 : W0.heap[w.heap.size]? = some (.cells (vs .u8 32 s) 24) := by rw [← hW0]; exact heap_new rfl
  have hB0 : Below w.heap.size w W0 := by rw [← hW0]; exact (Below.refl _ _).alloc (Nat.le_refl _) _
  have ld := lv24_run r0
  have hso := sumof_any s ((i : Int) / 32) W0 hs (by omega) (by omega) (hS.below hB0)
  have hlo : shaV KW HW (sd8 s ((i : Int) / 32)) 40 (i % 32) = lotV s i := rfl
  have hlb := lotV_bd s i
  have zr := zero_root
  obtain ⟨X, eX⟩ : ∃ X, shaV KW HW (sd8 s ((i : Int) / 32)) 40 = X := ⟨_, rfl⟩
  rw [eX] at hso hlo
  obtain ⟨T, eT⟩ : ∃ T, lotV s i = T := ⟨_, rfl⟩
  rw [eT] at hlo hlb ⊢
  have v24 := fun W => sv24_newv W (fun _ => 0) X
  have i2 : (0 : Int) ≤ (i : Int) := by omega
  have HSO := hid hso
  have HB0 := hid hB0
  have HW0 := hid hW0
  have HLO := hid hlo
  have HLB := hid hlb
  clear hso hB0 hW0 hlo hlb hs hS eX eT r0
  go_enter Tryd.func88, Tryd.ntmps88
  go_upto_region 1 with fail
  rw [HW0.out]
  go_upto_region 2 with (go_at_call 66; refine HSO.out.mono ?_; rintro e' w3 ⟨rfl, hb3⟩)
  obtain ⟨W4, hW4⟩ : ∃ W, w3.alloc (.cells (vs .u8 32 X) 24) = W := ⟨_, rfl⟩
  rw [hW4]
  have r4 : W4.heap[w3.heap.size]? = some (.cells (vs .u8 32 X) 24) := by rw [← hW4]; exact heap_new rfl
  have hE4 : Below w3.heap.size w3 W4 := by rw [← hW4]; exact (Below.refl _ _).alloc (Nat.le_refl _) _
  have hF4 : Below W0.heap.size W0 W4 := hb3.trans (hE4.mono hb3.size)
  have hB4 : Below w.heap.size w W4 := HB0.out.trans (hF4.mono HB0.out.size)
  obtain ⟨y4, ey4⟩ : ∃ y, w3.heap.size = y := ⟨_, rfl⟩
  rw [ey4] at r4 ⊢
  have hm32 := Nat.mod_lt i (show 0 < 32 by omega)
  have cx := row_int r4 (i % 32) hm32
  rw [HLO.out] at cx
  obtain ⟨j32, ej⟩ : ∃ j, i % 32 = j := ⟨_, rfl⟩
  rw [ej] at cx hm32
  have em : (i : Int) % 32 = (j32 : Int) := by omega
  have ej1 : (j32 : Int) < 32 := by omega
  have ej0 : (0 : Int) ≤ (j32 : Int) := by omega
  obtain ⟨t0, t1⟩ := HLB.out
  have tw : IntKind.u64.wrap T = T := by rw [IntKind.wrap_u64]; omega
  have HB4 := hid hB4
  clear hW4 ey4 hE4 hF4 hb3 zr v24 ld HSO hB4 r4 ej HLO HLB HW0
  go_wp2
  go_ret
  exact ⟨rfl, HB4.out⟩

set_option maxHeartbeats 1000000 in
theorem cand_any (a : Option Addr) (cap : Nat) (L : List Int) (s : Nat → Int) (i : Nat) (w : World) (hL : Nml w a L) (h0 : 0 < L.length) (hlen : L.length ≤ 65536) (hi : i < 256) (hs : ∀ j, j < 32 → 0 ≤ s j ∧ s j < 256) (hS : Sh w) :
    Calls Tryd.prog 86 #[.slice a L.length cap, .int .u64 (i : Int), .agg (vs .u8 32 s)] w fun e' w' => e' = .returned (.int .u64 (cdV L s i)) ∧ Below w.heap.size w w' := by
  obtain ⟨W0, hW0⟩ : ∃ W, w.alloc (.cells (vs .u8 32 s) 24) = W := ⟨_, rfl⟩
  have r0 : W0.heap[w.heap.size]? = some (.cells (vs .u8 32 s) 24) := by rw [← hW0]; exact heap_new rfl
  have hB0 : Below w.heap.size w W0 := by rw [← hW0]; exact (Below.refl _ _).alloc (Nat.le_refl _) _
  have z1 : w.heap.size < W0.heap.size := some_ltK r0
  have hS0 := hS.below hB0
  have hL0 : N64 W0 a L.length (fun j => L.getD j 0) := Z.Nms.below hL hB0
  have hlr : ∀ W : World, Below W0.heap.size W0 W → (lv24 ⟨w.heap.size, 0, none⟩).run Tryd.prog W = .ok (.agg (vs .u8 32 s)) W := fun W h => lv24_run ((h.block _ z1).trans r0)
  have hm := Nat.mod_lt i h0
  obtain ⟨p0, p1⟩ := plV_bd s (i := ((i % L.length : Nat) : Int)) (n := (L.length : Int)) (by omega) (by omega) 6
  have hp1 := place_ok s ((i % L.length : Nat) : Int) (L.length : Int) W0.drew hs (by omega) (by omega) (by omega) (hS0.below (Below.refl _ _).drew)
  have ec : cdV L s i = L.getD (plV s L.length 6 ((i % L.length : Nat) : Int)).toNat 0 := rfl
  obtain ⟨q, eq⟩ : ∃ q : Nat, plV s L.length 6 ((i % L.length : Nat) : Int) = (q : Int) := ⟨_, (Int.toNat_of_nonneg p0).symm⟩
  rw [eq] at p1 hp1 ec
  rw [Int.toNat_natCast] at ec
  rw [ec]
  have er : (i : Int).tmod (L.length : Int) = ((i % L.length : Nat) : Int) := by
    rw [Int.tmod_eq_emod_of_nonneg (by omega), ← Int.natCast_emod]
  rw [← er] at hp1
  obtain ⟨V, eV⟩ : ∃ V, L.getD q 0 = V := ⟨_, rfl⟩
  rw [eV]
  have hcl : ∀ W : World, Below W0.heap.size W0 W → ∃ b o, a = some ⟨b, o, none⟩ ∧ W.cell? ⟨b, o + q, none⟩ = some (.int .u64 V) := fun W h => by
    rcases Z.Nms.below hL0 h with e0 | ⟨b, o, e, _, hc⟩
    · omega
    · exact ⟨b, o, e, by rw [← eV]; exact hc q (by omega)⟩
  obtain ⟨n, hn⟩ : ∃ n, L.length = n := ⟨_, rfl⟩
  rw [hn] at hp1 p1 h0 hlen ⊢
  have nw : IntKind.u64.wrap (n : Int) = (n : Int) := by rw [IntKind.wrap_u64]; omega
  have np : (0 : Int) < (n : Int) := by omega
  have nz : ((n : Int) == 0) = false := by simp; omega
  have nz' : ¬ (n : Int) = 0 := by omega
  have nzn : ¬ n = 0 := by omega
  have i2 : (0 : Int) ≤ (i : Int) := by omega
  have q0 : (0 : Int) ≤ (q : Int) := by omega
  have hBd : Below W0.heap.size W0 W0.drew := (Below.refl _ _).drew
  have HB0 := hid hB0
  have HW0 := hid hW0
  have HLR := hid hlr
  have HP1 := hid hp1
  have HCL := hid hcl
  clear hlr hp1 hcl hW0 hB0 hL0 hS0 hS hs hL r0 hm p0 eq ec er eV hn
  go_enter Tryd.func86, Tryd.ntmps86
  go_upto_region 1 with fail
  rw [HW0.out]
  go_upto_region 2 with fail
  refine wp_region_noPanic ?_
  refine wp_region_held_drew (S := fun W => Below W0.heap.size W0 W) (by kernel_rfl) (hBd) (fun hHeld => ?_)
  refine tk 0 (v := ?v1) ?y1 hHeld ?r1
  case y1 => intro w hSw; go_simp; try with_reducible rfl
  refine tk 1 (v := ?v2) ?y2 hHeld ?r2
  case y2 => intro w hSw; go_simp; try with_reducible rfl
  refine tk 2 (v := ?v3) ?y3 hHeld ?r3
  case y3 => intro w hSw; go_simp; try with_reducible rfl
  refine tk 3 (v := ?v4) ?y4 hHeld ?r4
  case y4 => intro w hSw; go_simp; try with_reducible rfl
  refine tk 4 (v := ?v5) ?y5 hHeld ?r5
  case y5 => intro w hSw; have ld := HLR.out w hSw; go_simp; try with_reducible rfl
  try simp only [Act.put, List.setIfInBounds_toArray, List.set_cons_zero, List.set_cons_succ, Array.toArray_toList, List.getElem_toArray, List.getElem_cons_zero, List.getElem_cons_succ]
  refine wpAnyH_ready (rs := [5]) (by kernel_rfl) (by simp) ?_
  refine AllReadyH.cons rfl (fun K hK => ?_) AllReadyH.nil
  go_simp
  refine (HP1.out).mono ?_
  rintro e' w1 ⟨rfl, hb1⟩
  dsimp only
  have hB1 : Below W0.heap.size W0 w1 := hBd.trans (hb1.mono hBd.size)
  refine hK.out _ _ (hB1) (fun hHeld => ?_)
  clear hK K
  try simp only [Act.put, List.setIfInBounds_toArray, List.set_cons_zero, List.set_cons_succ, Array.toArray_toList, List.getElem_toArray, List.getElem_cons_zero, List.getElem_cons_succ]
  refine tk 6 (v := ?v6) ?y6 hHeld ?r6
  case y6 => intro w hSw; go_simp; try with_reducible rfl
  refine tk 7 (v := ?v7) ?y7 hHeld ?r7
  case y7 => intro w hSw; go_simp; try with_reducible rfl
  refine tk 8 (v := ?v8) ?y8 hHeld ?r8
  case y8 => intro w hSw; go_simp; try with_reducible rfl
  refine tk 9 (v := ?v9) ?y9 hHeld ?r9
  case y9 => intro w hSw; go_simp; try with_reducible rfl
  refine tk 10 (v := ?v10) ?y10 hHeld ?r10
  case y10 => intro w hSw; go_simp; try with_reducible rfl
  try simp only [Act.put, List.setIfInBounds_toArray, List.set_cons_zero, List.set_cons_succ, Array.toArray_toList, List.getElem_toArray, List.getElem_cons_zero, List.getElem_cons_succ]
  refine wpAnyH_done (by kernel_rfl) ?_ _
  refine NoPanic.normal ?_
  obtain ⟨b, o, ea, cl⟩ := HCL.out w1 hB1
  subst ea
  have HE := hid (HB0.out.trans (hB1.mono HB0.out.size))
  clear hB1 hb1 hBd hHeld HCL HP1 HLR HW0
  go_wp2
  go_ret
  exact ⟨rfl, HE.out⟩

/-- What stands where 'again' is jumped to. -/
def DwJ (Dr : Nat → List Int) (L : List Int) (want n b : Nat) (W0 : World) (a' : Act) (w' : World) : Prop :=
  ∃ (W1 : World) (a : Option Addr) (cap i : Nat) (v u0 u1 u2 u5 u7 u13 u14 u15 u16 u17 u18 u19 u20 u21 u22 u23 u24 u25 u26 u27 u28 u29 u30 u31 u32 u33 u34 u35 u36 u37 u38 u39 u40 u41 u42 u43 u44 u45 u46 u47 u48 u49 u50 u51 u52 : Value), a' = { tmps := #[u0, u1, u2, .int .i64 (want : Int), .pointer (some ⟨b, 0, none⟩), u5, .pointer (some ⟨b + 1, 0, none⟩), u7, .slice none 0 0, .int .i64 0, .slice a n cap, v, .int .u64 (i : Int), u13, u14, u15, u16, u17, u18, u19, u20, u21, u22, u23, u24, u25, u26, u27, u28, u29, u30, u31, u32, u33, u34, u35, u36, u37, u38, u39, u40, u41, u42, u43, u44, u45, u46, u47, u48, u49, u50, u51, u52], defers := [] } ∧ i < 256 ∧ Below W0.heap.size W0 W1 ∧ Nml W1 a L ∧ w'.ownsRow W1.heap.size 22 1 v (Dr i).length (iv6 (Dr i)) ∧ (Dr i).length < want ∧ Below W1.heap.size W1 w'

set_option maxHeartbeats 2000000 in
theorem draw_any (x : VState) (e : Int) (s : Nat → Int) (want : Nat) (w : World) (hx : Lk w x) (hs : ∀ j, j < 32 → 0 ≤ s j ∧ s j < 256) (k1 : 1 ≤ want) (k2 : want ≤ 1000) (hS : Sh w) :
    Calls Tryd.prog 68 #[.agg (cel (sState x)), .int .u64 e, .agg (vs .u8 32 s), .int .i64 (want : Int)] w (DwA x.f11.z (acE x e) s want w) := by
  obtain ⟨W0, hW0⟩ : ∃ W, (w.alloc (.cells (cel (sState x)) 49)).alloc (.cells (vs .u8 32 s) 24) = W := ⟨_, rfl⟩
  have r0 : W0.heap[w.heap.size]? = some (.cells (cel (sState x)) 49) := by rw [← hW0]; exact (heap_old (by simp)).trans (heap_new rfl)
  have r1 : W0.heap[w.heap.size + 1]? = some (.cells (vs .u8 32 s) 24) := by rw [← hW0]; exact heap_new (by simp)
  have hB0 : Below w.heap.size w W0 := by rw [← hW0]; exact ((Below.refl _ _).alloc (Nat.le_refl _) _).alloc (by simp) _
  have z1 : w.heap.size + 1 < W0.heap.size := some_ltK r1
  have hS0 := hS.below hB0
  have hx0 := hx.below hB0
  have l0 : (lvState ⟨w.heap.size, 0, none⟩).run Tryd.prog W0 = .ok (.agg (cel (sState x))) W0 := lvState_run r0
  have hlr : ∀ W : World, Below W0.heap.size W0 W → (lv24 ⟨w.heap.size + 1, 0, none⟩).run Tryd.prog W = .ok (.agg (vs .u8 32 s)) W := fun W h => lv24_run ((h.block _ z1).trans r1)
  have hcs : ∀ W : World, Below W0.heap.size W0 W → W.cell? ⟨w.heap.size, 721, none⟩ = some (.slice x.f11.a x.f11.n x.f11.c) := fun W h => cS11 ((h.block _ (by omega)).trans r0)
  have hel := hx0.el
  have hef := hx.ef
  have hac : Calls Tryd.prog 28 #[.agg (cel (sState x)), .int .u64 e] W0 fun e' w' => ∃ a c, e' = .returned (.slice a (acE x e).length c) ∧ Nml w' a (acE x e) ∧ Below W0.heap.size W0 w' := actives_any x e W0 hx0
  have hLb : ∀ v ∈ acE x e, 0 ≤ v ∧ v < (x.f11.n : Int) := fun v hv => acL_bd _ _ _ v hv
  have hlen : (acE x e).length ≤ 65536 := acE_len hx.nb
  generalize acE x e = L at hac hLb hlen ⊢
  have hlo : ∀ (i : Nat) (W : World), i < 256 → Below W0.heap.size W0 W → Calls Tryd.prog 88 #[.int .u64 (i : Int), .agg (vs .u8 32 s)] W fun e' w' => e' = .returned (.int .u64 (lotV s i)) ∧ Below W.heap.size W w' := fun i W hi h => lot_any s i W hs hi (hS0.below h)
  have hca : ∀ (a : Option Addr) (cap i : Nat) (W : World), 0 < L.length → i < 256 → Below W0.heap.size W0 W → Nml W a L → Calls Tryd.prog 86 #[.slice a L.length cap, .int .u64 (i : Int), .agg (vs .u8 32 s)] W fun e' w' => e' = .returned (.int .u64 (cdV L s i)) ∧ Below W.heap.size W w' := fun a cap i W h0 hi h hn => cand_any a cap L s i W hn h0 hlen hi hs (hS0.below h)
  have hcd : ∀ i, 0 < L.length → ∃ v : Nat, v < x.f11.n ∧ cdV L s i = (v : Int) := fun i h0 => by
    have hm := hLb _ (mbr_mem L s (Nat.mod_lt i h0))
    exact ⟨(cdV L s i).toNat, by have : cdV L s i = mbr L s (i % L.length) := rfl; omega, by have : cdV L s i = mbr L s (i % L.length) := rfl; omega⟩
  have nmb : ∀ (W W' : World) (a : Option Addr), Nml W a L → Below W.heap.size W W' → Nml W' a L := fun W W' a h hb => Z.Nms.below h hb
  obtain ⟨n, hn⟩ : ∃ n, L.length = n := ⟨_, rfl⟩
  rw [hn] at hac hca hcd hlen
  by_cases h0 : n = 0
  · obtain ⟨e1, e2⟩ := dw_none (z := x.f11.z) (s := s) (want := want) (.inl (List.length_eq_zero_iff.1 (hn.trans h0)))
    unfold DwA
    rw [e1, e2]
    subst h0
    have HB := hid hB0
    have HW := hid hW0
    have HAC := hid hac
    clear hcd hlo hca hel hef hcs hlr hS0 r0 r1 hB0 hW0 hx hx0 hS hLb hs e1 e2 hn hac nmb
    go_enter Tryd.func68, Tryd.ntmps68
    go_wp2
    rw [HW.out]
    clear HW
    go_step3
    go_wp2_with (go_at_call 28; refine HAC.out.mono ?_; rintro e' w1 ⟨a1, c1, rfl, hn1, hb1⟩)
    rw [Exit.noGoto_ret]
    go_ret2
    exact ⟨none, 0, rfl, .inl rfl, HB.out.trans (hb1.mono HB.out.size)⟩
  have hLn : L ≠ [] := fun e => by rw [e] at hn; exact h0 hn.symm
  have hhit : ∀ i, i ≤ 256 → (drL x.f11.z L s i).length = want → ∀ (W : World) a c, Nml W a (drL x.f11.z L s i) → Below w.heap.size w W → DwA x.f11.z L s want w (.returned (.tuple #[.slice a (drL x.f11.z L s i).length c, .int .i64 0])) W := fun i hi hq W a c h1 h2 => by
    obtain ⟨e1, e2⟩ := dw_hit (z := x.f11.z) hLn hi hq
    unfold DwA
    rw [e1, e2]
    exact ⟨a, c, rfl, h1, h2⟩
  have hmis : (drL x.f11.z L s 256).length < want → ∀ W : World, Below w.heap.size w W → DwA x.f11.z L s want w (.returned (.tuple #[.slice none 0 0, .int .i64 7])) W := fun hq W h2 => by
    obtain ⟨e1, e2⟩ := dw_none (z := x.f11.z) (L := L) (s := s) (want := want) (.inr hq)
    unfold DwA
    rw [e1, e2]
    exact ⟨none, 0, rfl, .inl rfl, h2⟩
  have htk : ∀ i, tkB x.f11.z L s i = decide (32000000000 * lotV s i ≤ (x.f11.z (cdV L s i).toNat).f2 * 255) := fun _ => rfl
  have hst : ∀ i, drL x.f11.z L s (i + 1) = if tkB x.f11.z L s i = true then drL x.f11.z L s i ++ [cdV L s i] else drL x.f11.z L s i := fun _ => rfl
  have hll := drL_len x.f11.z L s
  have hd0 : drL x.f11.z L s 0 = [] := rfl
  have hlb := lotV_bd s
  have hpd : 0 < n := by omega
  generalize x.f11.a = A at hcs hel
  generalize x.f11.n = nV at hcs hel hef hcd
  generalize x.f11.c = C at hcs
  generalize x.f11.z = z at hel hef hhit hmis htk hst hll hd0 ⊢
  generalize drL z L s = Dr at hhit hmis hst hll hd0
  have HB := hid hB0
  have HW := hid hW0
  have HLR := hid hlr
  have HCS := hid hcs
  have HEL := hid hel
  have HEF := hid hef
  have HAC := hid hac
  have HCA := hid hca
  have HCD := hid hcd
  have HLO := hid hlo
  have HHI := hid hhit
  have HMI := hid hmis
  have HTK := hid htk
  have HST := hid hst
  have HLL := hid hll
  have HLB := hid hlb
  have HD0 := hid hd0
  have NMB := hid nmb
  clear hcd hlo hca hel hef hcs hlr hS0 r0 r1 hB0 hW0 hx hx0 hS hLb hhit hmis htk hst hll hlb hd0 hn hLn hac nmb hs
  have nz : ((n : Int) == 0) = false := by simp; omega
  have nz' : ¬ (n : Int) = 0 := by omega
  go_enter Tryd.func68, Tryd.ntmps68
  go_wp2
  rw [HW.out]
  clear HW
  refine scope_jumps 0 (DwJ Dr L want n w.heap.size W0) (fun a' _ => 256 - (intOf (a'.tmps.getD 12 undef)).toNat) rfl ?pass ?first
  case first =>
    intro hr
    go_upto_region 2 with (go_at_call 28; refine HAC.out.mono ?_; rintro e' w1 ⟨a1, c1, rfl, hn1, hb1⟩)
    have HN1 := hid hn1
    have HB1 := hid hb1
    clear hn1 hb1 l0
    go_wp2
    go_step3
    rename_i hK
    refine hK _ _ ?_
    exact hr _ _ ⟨w1, a1, c1, 0, .slice none 0 0, _, _, _, _, _, _, _, _, _, _, _, _, _, _, _, _, _, _, _, _, _, _, _, _, _, _, _, _, _, _, _, _, _, _, _, _, _, _, _, _, _, _, _, _, _, rfl, by omega, HB1.out, HN1.out, by rw [HD0.out]; exact World.ownsRow_nil _ _ _ _, by rw [HD0.out]; exact k1, Below.refl _ _⟩
  case pass =>
    clear l0
    rintro a' wr ⟨W1, a, cap, i, v, u0, u1, u2, u5, u7, u13, u14, u15, u16, u17, u18, u19, u20, u21, u22, u23, u24, u25, u26, u27, u28, u29, u30, u31, u32, u33, u34, u35, u36, u37, u38, u39, u40, u41, u42, u43, u44, u45, u46, u47, u48, u49, u50, u51, u52, rfl, hik, hW1, hN1, ho, hlt, hw⟩
    have hwr : Below W0.heap.size W0 wr := hW1.trans (hw.mono hW1.size)
    have ld := HLR.out wr hwr
    have hca := HCA.out a cap i wr hpd hik hwr (NMB.out _ _ _ hN1 hw)
    obtain ⟨V, hV, eV⟩ := HCD.out i hpd
    have hst := HST.out i
    have htk := HTK.out i
    have hlb := HLB.out i
    rw [eV] at hca hst htk
    rw [Int.toNat_natCast] at htk
    have hll := HLL.out i
    have HCAA := hid hca
    have HO := hid ho
    have HLT := hid hlt
    have HSTT := hid hst
    have HTKK := hid htk
    have HW1 := hid hW1
    have HN1 := hid hN1
    have HWR := hid (And.intro hw hwr)
    clear hca ho hlt hst htk hW1 hN1 hw hwr eV
    go_upto_region 7 with (go_at_call 86; refine HCAA.out.mono ?_; rintro e' w2 ⟨rfl, hb2⟩)
    have hw2 : Below W1.heap.size W1 w2 := HWR.out.1.trans (hb2.mono HWR.out.1.size)
    have hwr2 : Below W0.heap.size W0 w2 := HW1.out.trans (hw2.mono HW1.out.size)
    have ho2 := own_below HO.out hb2
    rcases HEL.out.below hwr2 with e0 | ⟨bv, ov, ev, hbv, hcv⟩
    · omega
    subst ev
    have up : ∀ W : World, Below w2.heap.size w2 W → Below W0.heap.size W0 W := fun W h => hwr2.trans (h.mono hwr2.size)
    have hcs : ∀ W : World, Below w2.heap.size w2 W → W.cell? ⟨w.heap.size, 721, none⟩ = some (.slice (some ⟨bv, ov, none⟩) nV C) := fun W h => HCS.out W (up W h)
    have hix := fun W => ixValidator_u W bv ov nV C V hV
    have hce : ∀ W : World, Below w2.heap.size w2 W → W.cell? ⟨bv, ov + 86 * V + 80, none⟩ = some (.int .u64 (z V).f2) := fun W h => (below_cell h hbv).trans (val_eff (hcv V hV))
    have hlr2 : ∀ W : World, Below w2.heap.size w2 W → (lv24 ⟨w.heap.size + 1, 0, none⟩).run Tryd.prog W = .ok (.agg (vs .u8 32 s)) W := fun W h => HLR.out W (up W h)
    obtain ⟨hf1, hf2⟩ := HEF.out V hV
    have hlo2 : ∀ W : World, Below w2.heap.size w2 W → Calls Tryd.prog 88 #[.int .u64 (i : Int), .agg (vs .u8 32 s)] W fun e' w' => e' = .returned (.int .u64 (lotV s i)) ∧ Below W.heap.size W w' := fun W h => HLO.out i W hik (up W h)
    have htk := HTKK.out
    obtain ⟨O, eO⟩ : ∃ O, ov + 86 * V = O := ⟨_, rfl⟩
    simp only [eO] at hix hce
    obtain ⟨E, eE⟩ : ∃ E, (z V).f2 = E := ⟨_, rfl⟩
    rw [eE] at hf1 hf2 htk
    simp only [eE] at hce
    obtain ⟨T, eT⟩ : ∃ T, lotV s i = T := ⟨_, rfl⟩
    rw [eT] at hlb htk
    simp only [eT] at hlo2
    obtain ⟨t0, t1⟩ := hlb
    have hta := fun W => taken_any E T W hf1 hf2 t0 t1
    have vn : (V : Int) < (nV : Int) := by omega
    have v0 : (0 : Int) ≤ (V : Int) := by omega
    have hBd : Below w2.heap.size w2 w2.drew := (Below.refl _ _).drew
    have HCS := hid hcs
    have HIX := hid hix
    have HCE := hid hce
    have HLR2 := hid hlr2
    have HLO2 := hid hlo2
    have HTA := hid hta
    have HO2 := hid ho2
    have HW2 := hid (And.intro hw2 hwr2)
    have HTK2 := hid htk
    clear hcs hix hce hlr2 hlo2 hta ho2 hw2 hwr2 htk hcv hbv up eO eE eT hb2 ld HCAA HO HWR HTKK
    refine wp_region_noPanic ?_
    refine wp_region_held_drew (S := fun W => Below w2.heap.size w2 W) (by kernel_rfl) (hBd) (fun hHeld => ?_)
    refine tk 0 (v := ?v11) ?y11 hHeld ?r11
    case y11 => intro w hSw; go_simp; try with_reducible rfl
    refine tk 1 (v := ?v12) ?y12 hHeld ?r12
    case y12 => intro w hSw; have ld := HCS.out w hSw; go_simp; try with_reducible rfl
    refine tk 2 (v := ?v13) ?y13 hHeld ?r13
    case y13 => intro w hSw; go_simp; try with_reducible rfl
    refine tk 3 (v := ?v14) ?y14 hHeld ?r14
    case y14 => intro w hSw; have ix := HIX.out w; go_simp; try with_reducible rfl
    refine tk 4 (v := ?v15) ?y15 hHeld ?r15
    case y15 => intro w hSw; go_simp; try with_reducible rfl
    refine tk 5 (v := ?v16) ?y16 hHeld ?r16
    case y16 => intro w hSw; have ce := HCE.out w hSw; go_simp; try with_reducible rfl
    refine tk 6 (v := ?v17) ?y17 hHeld ?r17
    case y17 => intro w hSw; go_simp; try with_reducible rfl
    refine tk 7 (v := ?v18) ?y18 hHeld ?r18
    case y18 => intro w hSw; have ld := HLR2.out w hSw; go_simp; try with_reducible rfl
    try simp only [Act.put, List.setIfInBounds_toArray, List.set_cons_zero, List.set_cons_succ, Array.toArray_toList, List.getElem_toArray, List.getElem_cons_zero, List.getElem_cons_succ]
    refine wpAnyH_ready (rs := [8]) (by kernel_rfl) (by simp) ?_
    refine AllReadyH.cons rfl (fun K hK => ?_) AllReadyH.nil
    go_simp
    refine (HLO2.out _ hBd).mono ?_
    rintro e' w3 ⟨rfl, hb3⟩
    dsimp only
    have hB3 : Below w2.heap.size w2 w3 := hBd.trans (hb3.mono hBd.size)
    refine hK.out _ _ (hB3) (fun hHeld => ?_)
    clear hK K
    try simp only [Act.put, List.setIfInBounds_toArray, List.set_cons_zero, List.set_cons_succ, Array.toArray_toList, List.getElem_toArray, List.getElem_cons_zero, List.getElem_cons_succ]
    refine wpAnyH_ready (rs := [9]) (by kernel_rfl) (by simp) ?_
    refine AllReadyH.cons rfl (fun K hK => ?_) AllReadyH.nil
    go_simp
    refine (HTA.out w3).mono ?_
    rintro e' w4 ⟨rfl, rfl⟩
    dsimp only
    refine hK.out _ _ (hB3) (fun hHeld => ?_)
    clear hK K
    try simp only [Act.put, List.setIfInBounds_toArray, List.set_cons_zero, List.set_cons_succ, Array.toArray_toList, List.getElem_toArray, List.getElem_cons_zero, List.getElem_cons_succ]
    refine wpAnyH_done (by kernel_rfl) ?_ _
    refine NoPanic.normal ?_
    have hw3 : Below W1.heap.size W1 w4 := HW2.out.1.trans (hB3.mono HW2.out.1.size)
    have ho3 := own_below HO2.out hB3
    have hup : Below W0.heap.size W0 W1 := HW1.out
    have HO3 := hid ho3
    have HW3 := hid hw3
    clear ho3 hw3 hup hHeld hB3 hb3 hBd HO2 HW2 HTA HLO2 HLR2 HCE HIX HCS
    have hlt := HLT.out
    have iw : IntKind.u64.wrap ((i : Int) + 1) = (i : Int) + 1 := by rw [IntKind.wrap_u64]; omega
    by_cases hge : 32000000000 * T ≤ E * 255
    · have htt : tkB z L s i = true := by rw [HTK2.out]; exact decide_eq_true hge
      have hnx : Dr (i + 1) = Dr i ++ [(V : Int)] := by rw [HSTT.out, if_pos htt]
      have hnl : (Dr (i + 1)).length = (Dr i).length + 1 := by rw [hnx, List.length_append]; rfl
      have HNX := hid hnx
      have HNL := hid hnl
      clear hnx hnl htt
      go_upto_region 9 with (at_builtin; refine wpList_append_one _ rfl _ _ rfl W1.heap.size v (Dr i) (V : Int) rfl HO3.out rfl (by omega) HW3.out.size ?_; intro v5 w5 ho5 hg5)
      have hb5 := below_grown HW3.out HO3.out HW3.out.size hg5
      rw [← HNX.out] at ho5
      obtain ⟨a5, C5, e5, hn5⟩ := own_nml ho5
      subst e5
      have hnl := HNL.out
      by_cases hwt : (Dr (i + 1)).length = want
      · have hh := HHI.out (i + 1) (by omega) hwt w5 a5 C5 hn5 (HB.out.trans ((HW1.out.trans (hb5.mono HW1.out.size)).mono HB.out.size))
        obtain ⟨m, em5⟩ : ∃ m, (Dr (i + 1)).length = m := ⟨_, rfl⟩
        rw [em5] at hh hwt hnl ⊢
        subst hwt
        have HH := hid hh
        clear hh hnl em5 ho5 hn5 hb5 hlt
        go_wp2
        simp only [Exit.jump]
        go_ret2
        exact HH.out
      · obtain ⟨m, em5⟩ : ∃ m, (Dr (i + 1)).length = m := ⟨_, rfl⟩
        have hh := HMI.out
        rw [em5] at hwt hnl ho5 ⊢
        have hml : (m : Int) < (want : Int) := by omega
        have hml' : m < want := by omega
        have HO5 := hid ho5
        have HB5 := hid hb5
        have HEM := hid em5
        clear ho5 hb5 em5 hnl hwt hn5 hlt hh
        by_cases hi1 : i + 1 < 256
        · have hiz : (i : Int) + 1 < 256 := by omega
          go_wp2
          go_step3
          refine ⟨rfl, ⟨W1, a, cap, i + 1, _, _, _, _, _, _, _, _, _, _, _, _, _, _, _, _, _, _, _, _, _, _, _, _, _, _, _, _, _, _, _, _, _, _, _, _, _, _, _, _, _, _, _, _, _, _, rfl, hi1, HW1.out, HN1.out, by rw [HEM.out]; exact HO5.out, by rw [HEM.out]; exact hml', HB5.out⟩, ?_⟩
          simp [intOf]
          omega
        · obtain rfl : i = 255 := by omega
          have hm := HMI.out (by rw [show (256 : Nat) = 255 + 1 from rfl, HEM.out]; exact hml')
          have HM := hid hm
          clear hm
          go_wp2
          simp only [Exit.jump]
          go_ret2
          exact HM.out _ (HB.out.trans ((HW1.out.trans (HB5.out.mono HW1.out.size)).mono HB.out.size))
    · have htt : ¬ tkB z L s i = true := by rw [HTK2.out, decide_eq_true_eq]; exact hge
      have hnx : Dr (i + 1) = Dr i := by rw [HSTT.out, if_neg htt]
      have HNX := hid hnx
      have hlx : E * 255 < 32000000000 * T := by omega
      obtain ⟨a5, C5, e5, hn5⟩ := own_nml HO3.out
      subst e5
      obtain ⟨m, em5⟩ : ∃ m, (Dr i).length = m := ⟨_, rfl⟩
      rw [em5] at hlt ⊢
      have hml : (m : Int) < (want : Int) := by omega
      have hml' := hlt
      have HEM := hid em5
      clear hnx htt em5 hn5 hlt
      by_cases hi1 : i + 1 < 256
      · have hiz : (i : Int) + 1 < 256 := by omega
        go_wp2
        go_step3
        refine ⟨rfl, ⟨W1, a, cap, i + 1, _, _, _, _, _, _, _, _, _, _, _, _, _, _, _, _, _, _, _, _, _, _, _, _, _, _, _, _, _, _, _, _, _, _, _, _, _, _, _, _, _, _, _, _, _, _, rfl, hi1, HW1.out, HN1.out, by rw [HNX.out, HEM.out]; exact HEM.out ▸ HO3.out, by rw [HNX.out, HEM.out]; exact hml', HW3.out⟩, ?_⟩
        simp [intOf]
        omega
      · obtain rfl : i = 255 := by omega
        have hm := HMI.out (by rw [show (256 : Nat) = 255 + 1 from rfl, HNX.out, HEM.out]; exact hml')
        have HM := hid hm
        clear hm
        go_wp2
        simp only [Exit.jump]
        go_ret2
        exact HM.out _ (HB.out.trans ((HW1.out.trans (HW3.out.mono HW1.out.size)).mono HB.out.size))

end Go.Proofs.YtficlakgameglaaDoor
