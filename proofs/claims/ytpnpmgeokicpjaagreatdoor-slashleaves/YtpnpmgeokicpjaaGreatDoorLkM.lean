/-
  What the document's RootAt, Leak and Seed answer.
-/

import Derived.Test.YtpnpmgeokicpjaaGreatDoorQG
import Derived.Test.YtpnpmgeokicpjaaGreatDoorQB
import Derived.Test.YtpnpmgeokicpjaaGreatDoorHaE
import Derived.Deep.Onto

namespace Go.Proofs.YtpnpmgeokicpjaaGreatDoor

open Go.RowKit

set_option linter.unusedVariables false

set_option linter.unusedSimpArgs false

set_option maxRecDepth 20000

def ix31 (x i : Value) : Sem Value := Instr.indexAt 31 x i

theorem ix31_eq (x i : Value) : Instr.indexAt 31 x i = ix31 x i := rfl

theorem sizeRoot (w : World) : (sizeOf 24).run Tryz.prog w = .ok 32 w := by
  have hi : (Tryz.prog.info? 24).map (·.size) = some 32 := by kernel_rfl
  obtain ⟨i, h1, h2⟩ := Option.map_eq_some_iff.1 hi
  simp [sizeOf, typeInfo, h1, h2]

theorem ix31_run (w : World) (g o k : Nat) (h : k < 8) : (ix31 (.pointer (some ⟨g, o, none⟩)) (.int .u64 k)).run Tryz.prog w = .ok (.pointer (some ⟨g, o + 32 * k, none⟩)) w := by
  unfold ix31 Instr.indexAt
  have h1 : (0 : Int) ≤ (k : Int) ∧ (k : Int) < 8 := by omega
  simp only [asIntOf, Sem.run_bind, Sem.run_pure, Result.andThen_ok, run_underlying Tryz.underlying31]
  simp [h1.2, sizeRoot, Instr.sureAddr, asAddr, addr_add, Nat.mul_comm]

/-- Less; the epoch ahead; the leak. -/
def lesV (a b : Int) : Int := if a < b then 0 else a - b

attribute [local go_sem ↓] lvState_eq svState_eq bdState_eq lvValidator_eq svValidator_eq ixValidator_eq sv24_eq lv24_eq bd27_eq sv8_eq ix31_eq

theorem rless_any (a b : Int) (w : World) (a0 : 0 ≤ a) (a1 : a < 18446744073709551616) (b0 : 0 ≤ b) (b1 : b < 18446744073709551616) :
    Calls Tryz.prog 63 #[.int .u64 a, .int .u64 b] w fun e w' => e = .returned (.int .u64 (lesV a b)) ∧ w' = w := by
  have hE : lesV a b = if a < b then 0 else a - b := rfl
  have HE := hid hE
  clear hE
  by_cases h : a < b
  · go_enter Tryz.func63, Tryz.ntmps63
    go_wp2
    go_ret
    exact ⟨ret_int (by rw [HE.out, if_pos h]), rfl⟩
  · go_enter Tryz.func63, Tryz.ntmps63
    go_wp2
    go_ret
    exact ⟨ret_int (by rw [HE.out, if_neg (by omega)]), rfl⟩

/-- What a seed is the sum of. -/
def sdM (k e : Int) (m : Nat → Int) (j : Nat) : Int := if j < 4 then nmB k j else if j < 12 then nmB e (j - 4) else m (j - 12)

def mixP (e : Int) : Nat := ((e % 8 + 6) % 8).toNat

def mixV (x : VState) (e : Int) (j : Nat) : Int := x.f13 (32 * mixP e + j)

def seedV (x : VState) (e k : Int) : Nat → Int := shaV KW HW (sdM (k % 4294967296) e (mixV x e)) 44

theorem sdM_bd (k e : Int) (m : Nat → Int) (hm : ∀ j, j < 32 → 0 ≤ m j ∧ m j < 256) (j : Nat) (hj : j < 44) : 0 ≤ sdM k e m j ∧ sdM k e m j < 256 := by
  unfold sdM
  by_cases h1 : j < 4
  · rw [if_pos h1]; exact nmB_bd _ _
  · rw [if_neg h1]
    by_cases h2 : j < 12
    · rw [if_pos h2]; exact nmB_bd _ _
    · rw [if_neg h2]; exact hm _ (by omega)

theorem bl_add' (m c : Nat → Int) (n k : Nat) (hm : ∀ j, j < k → m (n + j) = c j) : bl m n ++ bl c k = bl m (n + k) := by
  unfold bl
  rw [List.range_add, List.map_append, List.map_map]
  congr 1
  refine List.map_congr_left fun j hj => ?_
  show Value.int .u8 (c j) = Value.int .u8 (m (n + j))
  rw [hm j (List.mem_range.1 hj)]

/-- Bytes at a block's head behind a row of one's own. -/
theorem ap_row (W : World) (B : Nat) (v : Value) (n k cp b : Nat) (m c : Nat → Int) (ho : W.ownsRow B 5 1 v n (bl m n)) (hb : ∀ j, j < k → W.cell? ⟨b, j, none⟩ = some (.int .u8 (c j))) (hm : ∀ j, j < k → m (n + j) = c j) (hB : B ≤ W.heap.size) (hn : n ≤ 64) (hk : k ≤ 64) (hk0 : 0 < k) (ty : TypeId) :
    ∃ g' C' w', (ap22 ty v (.slice (some ⟨b, 0, none⟩) k cp)).run Tryz.prog W = .ok (.slice (some ⟨g', 0, none⟩) (n + k) C') w' ∧ w'.ownsRow B 5 1 (.slice (some ⟨g', 0, none⟩) (n + k) C') (n + k) (bl m (n + k)) ∧ Below B W w' := by
  obtain ⟨i, hi, hz0, hz1, hz2⟩ := info_parts info8
  obtain ⟨v', w', hr, ho', hg, _⟩ := run_append_own_at (P := Tryz.prog) W B 39 ty 5 i (.int .u8 0) 1 1 Tryz.underlying39 hi hz0 hz1 hz2 rfl (by decide) v n (bl m n) ho ⟨b, 0, none⟩ k cp (bl c k) (by rw [bl_len, Nat.mul_one])
    (fun j u hj => by
      obtain ⟨h1, rfl⟩ := bl_get c k j u hj
      rw [addr_add, Nat.zero_add]
      exact hb j h1) (bl_one c k) (by unfold maxLen; omega) (by omega) hB
  rw [bl_add' m c n k hm] at ho'
  obtain ⟨g', C', rfl⟩ := owns_pos ho' (by omega)
  exact ⟨g', C', w', hr, ho', below_grown (Below.refl _ _) ho hB hg⟩

set_option maxHeartbeats 2000000 in
theorem rseed_any (x : VState) (e k : Int) (w : World) (hx : OkState x) (e0 : 0 ≤ e) (e1 : e < 18446744073709551616) (hC : Tab w 0 64 KW) :
    Calls Tryz.prog 64 #[.agg (cel (sState x)), .int .u64 e, .int .i64 k] w fun e' w' => e' = .returned (.agg (vs .u8 32 (seedV x e k))) ∧ Below w.heap.size w w' := by
  obtain ⟨W0, hW0⟩ : ∃ W, (w.alloc (.cells (cel (sState x)) 49)).alloc (.cells (vs .u8 32 fun _ => 0) 24) = W := ⟨_, rfl⟩
  have r0 : W0.heap[w.heap.size]? = some (.cells (cel (sState x)) 49) := by rw [← hW0]; exact (heap_old (by simp)).trans (heap_new rfl)
  have r1 : W0.heap[w.heap.size + 1]? = some (.cells (vs .u8 32 fun _ => 0) 24) := by rw [← hW0]; exact heap_new (by simp)
  have hB0 : Below w.heap.size w W0 := by rw [← hW0]; exact ((Below.refl _ _).alloc (Nat.le_refl _) _).alloc (by simp) _
  have z0 : w.heap.size + 1 < W0.heap.size := (Array.getElem?_eq_some_iff.1 r1).1
  have hC0 := hC.below hB0
  obtain ⟨Kk, hKk⟩ : ∃ K, k % 4294967296 = K := ⟨_, rfl⟩
  have kb : 0 ≤ Kk ∧ Kk < 4294967296 := by omega
  have kw : IntKind.u32.wrap k = Kk := by rw [IntKind.wrap_u32]; exact hKk
  have kw2 : IntKind.u64.wrap Kk = Kk := by rw [IntKind.wrap_u64]; omega
  have hk1 := fun W : World => rbytes_any Kk W (by omega) (by omega)
  have hk2 := fun W : World => rbytes_any e W e0 (by omega)
  obtain ⟨P, hP⟩ : ∃ P : Nat, (e % 8 + 8 - 1 - 1) % 8 = (P : Int) := ⟨((e % 8 + 8 - 1 - 1) % 8).toNat, by omega⟩
  have hP8 : P < 8 := by omega
  have hPm : mixP e = P := by unfold mixP; omega
  have hl : ∀ W : World, Below W0.heap.size W0 W → (lv24 ⟨w.heap.size, 723 + 32 * P, none⟩).run Tryz.prog W = .ok (.agg (vs .u8 32 (mixV x e))) W := fun W h => lv24_mid (fun j hj => by
    rcases cS13 ((h.block _ (by omega)).trans r0) with ⟨h, _⟩ | ⟨_, _, h⟩ | ⟨b, off, h1, _, _, _, h5⟩
    · cases h
    · cases h
    · cases h1
      rw [Nat.add_assoc, h5 (32 * P + j) (by omega)]
      unfold mixV
      rw [hPm])
  have hmb : ∀ j, j < 32 → 0 ≤ mixV x e j ∧ mixV x e j < 256 := fun j hj => hx.o13 _ (by rw [hPm]; omega)
  have ix := fun W => ix31_run W w.heap.size 723 P hP8
  obtain ⟨O, eO⟩ : ∃ O, 723 + 32 * P = O := ⟨_, rfl⟩
  rw [eO] at hl
  simp only [eO] at ix
  have hseed : seedV x e k = shaV KW HW (sdM Kk e (mixV x e)) 44 := by unfold seedV; rw [hKk]
  generalize mixV x e = mx at *
  obtain ⟨X, hX⟩ : ∃ X, shaV KW HW (sdM Kk e mx) 44 = X := ⟨_, rfl⟩
  rw [hX] at hseed
  rw [hseed]
  have hsum : ∀ (W : World) g C B, Below w.heap.size w W → W.ownsRow B 5 1 (.slice (some ⟨g, 0, none⟩) 44 C) 44 (bl (sdM Kk e mx) 44) → Calls Tryz.prog 67 #[.slice (some ⟨g, 0, none⟩) 44 C] W fun e w' => e = .returned (.agg (vs .u8 32 X)) ∧ Below W.heap.size W w' := fun W g C B h1 ho => by
    rw [← hX]
    obtain ⟨q1, q2, q3, q4, q5⟩ := own_cells ho
    exact refsum_any KW (sdM Kk e mx) (some ⟨g, 0, none⟩) 44 C W (hC.below h1) (.inr (.inr ⟨g, 0, rfl, q3, q4, q2, fun j hj => by rw [Nat.zero_add]; exact q5 j hj⟩)) (fun j hj => sdM_bd _ _ _ hmb j hj) (by omega)
  have v8a := fun W => sv8_newv W (fun _ => 0) (nmB Kk)
  have v8b := fun W => sv8_newv W (fun _ => 0) (nmB e)
  have v24 := fun W => sv24_newv W (fun _ => 0) mx
  have z8 := zero_8
  have zr := zero_root
  have HK1 := hid hk1
  have HK2 := hid hk2
  have HL := hid hl
  have HSUM0 := hid hsum
  have HB0 := hid hB0
  have HW0 := hid hW0
  have HR1 := hid r1
  clear hk1 hk2 hl hsum hB0 hW0 r0 r1 hx hC hC0 hseed hmb hPm hX eO hKk
  go_enter Tryz.func64, Tryz.ntmps64
  go_upto_region 1 with fail
  rw [HW0.out]
  clear HW0
  go_upto_region 2 with (go_at_call 65; refine (HK1.out W0).mono ?_; rintro e' w1 ⟨rfl, hb1⟩)
  obtain ⟨W2, hW2⟩ : ∃ W, w1.alloc (.cells (vs .u8 8 (nmB Kk)) 104) = W := ⟨_, rfl⟩
  rw [hW2]
  have hz1 := hb1.size
  have rk : W2.heap[w1.heap.size]? = some (.cells (vs .u8 8 (nmB Kk)) 104) := by rw [← hW2]; exact heap_new rfl
  have hD2 : Below W0.heap.size W0 W2 := by rw [← hW2]; exact hb1.alloc hz1 _
  obtain ⟨y1, ey1⟩ : ∃ y, w1.heap.size = y := ⟨_, rfl⟩
  rw [ey1] at rk ⊢
  have HRK := hid rk
  have HD2 := hid hD2
  clear rk hD2 hW2 hb1 hz1 ey1
  go_upto_region 3 with (go_at_call 65; refine (HK2.out W2).mono ?_; rintro e' w2 ⟨rfl, hb2⟩)
  obtain ⟨W3, hW3⟩ : ∃ W, w2.alloc (.cells (vs .u8 8 (nmB e)) 104) = W := ⟨_, rfl⟩
  rw [hW3]
  have hz2 := hb2.size
  have hz0 := HD2.out.size
  have re : W3.heap[w2.heap.size]? = some (.cells (vs .u8 8 (nmB e)) 104) := by rw [← hW3]; exact heap_new rfl
  have hE3 : Below W2.heap.size W2 W3 := by rw [← hW3]; exact hb2.alloc hz2 _
  have rk3 := (hE3.block _ (Array.getElem?_eq_some_iff.1 HRK.out).1).trans HRK.out
  have hD3 : Below W0.heap.size W0 W3 := HD2.out.trans (hE3.mono hz0)
  obtain ⟨y2, ey2⟩ : ∃ y, w2.heap.size = y := ⟨_, rfl⟩
  rw [ey2] at re ⊢
  have l3 := HL.out W3 hD3
  have HRE := hid re
  have HRK3 := hid rk3
  have HD3 := hid hD3
  clear re rk3 hD3 hE3 hW3 hb2 hz2 hz0 ey2 HRK HD2
  go_upto_region 4 with fail
  obtain ⟨W4, hW4⟩ : ∃ W, W3.alloc (.cells (vs .u8 32 mx) 24) = W := ⟨_, rfl⟩
  rw [hW4]
  have rm : W4.heap[W3.heap.size]? = some (.cells (vs .u8 32 mx) 24) := by rw [← hW4]; exact heap_new rfl
  have hE4 : Below W3.heap.size W3 W4 := by rw [← hW4]; exact (Below.refl _ _).alloc (Nat.le_refl _) _
  have rk4 := (hE4.block _ (Array.getElem?_eq_some_iff.1 HRK3.out).1).trans HRK3.out
  have re4 := (hE4.block _ (Array.getElem?_eq_some_iff.1 HRE.out).1).trans HRE.out
  have hD4 : Below W0.heap.size W0 W4 := HD3.out.trans (hE4.mono HD3.out.size)
  have hz4 := hD4.size
  have rr4 := (hD4.block _ z0).trans HR1.out
  obtain ⟨y3, ey3⟩ : ∃ y, W3.heap.size = y := ⟨_, rfl⟩
  rw [ey3] at rm ⊢
  have hB4 : Below w.heap.size w W4 := HB0.out.trans (hD4.mono (by omega))
  have hap1 : ∀ W, Below W4.heap.size W4 W → ∀ ty, ∃ g C w', (ap22 ty (.slice (some ⟨W.heap.size, 0, none⟩) 0 0) (.slice (some ⟨y1, 0, none⟩) 4 8)).run Tryz.prog (W.alloc (.cells #[] 5)) = .ok (.slice (some ⟨g, 0, none⟩) 4 C) w' ∧ w'.ownsRow W4.heap.size 5 1 (.slice (some ⟨g, 0, none⟩) 4 C) 4 (bl (sdM Kk e mx) 4) ∧ Below W4.heap.size W w' := fun W hW ty => by
    have hz := hW.size
    have hBn : Below W.heap.size W (W.alloc (.cells #[] 5)) := (Below.refl _ _).alloc (Nat.le_refl _) _
    obtain ⟨g, C, w', h1, h2, h3⟩ := ap_row (W.alloc (.cells #[] 5)) W4.heap.size _ 0 4 8 y1 (sdM Kk e mx) (nmB Kk) (World.ownsRow_made _ #[] 0 hz (Nat.zero_le _) rfl) (fun j hj => row_int ((hBn.block _ (Nat.lt_of_lt_of_le (Array.getElem?_eq_some_iff.1 rk4).1 hz)).trans ((hW.block _ (Array.getElem?_eq_some_iff.1 rk4).1).trans rk4)) j (by omega)) (fun j hj => by unfold sdM; rw [Nat.zero_add, if_pos hj]) (by simp; omega) (by omega) (by omega) (by omega) ty
    rw [Nat.zero_add] at h1 h2
    exact ⟨g, C, w', h1, h2, (hBn.mono hz).trans h3⟩
  have hap2 : ∀ (W : World) g C, Below W4.heap.size W4 W → W.ownsRow W4.heap.size 5 1 (.slice (some ⟨g, 0, none⟩) 4 C) 4 (bl (sdM Kk e mx) 4) → ∀ ty, ∃ g' C' w', (ap22 ty (.slice (some ⟨g, 0, none⟩) 4 C) (.slice (some ⟨y2, 0, none⟩) 8 8)).run Tryz.prog W = .ok (.slice (some ⟨g', 0, none⟩) 12 C') w' ∧ w'.ownsRow W4.heap.size 5 1 (.slice (some ⟨g', 0, none⟩) 12 C') 12 (bl (sdM Kk e mx) 12) ∧ Below W4.heap.size W w' := fun W g C hW ho ty =>
    ap_row W W4.heap.size _ 4 8 8 y2 (sdM Kk e mx) (nmB e) ho (fun j hj => row_int ((hW.block _ (Array.getElem?_eq_some_iff.1 re4).1).trans re4) j hj) (fun j hj => by unfold sdM; rw [if_neg (by omega), if_pos (by omega), show 4 + j - 4 = j by omega]) hW.size (by omega) (by omega) (by omega) ty
  have hap3 : ∀ (W : World) g C, Below W4.heap.size W4 W → W.ownsRow W4.heap.size 5 1 (.slice (some ⟨g, 0, none⟩) 12 C) 12 (bl (sdM Kk e mx) 12) → ∀ ty, ∃ g' C' w', (ap22 ty (.slice (some ⟨g, 0, none⟩) 12 C) (.slice (some ⟨y3, 0, none⟩) 32 32)).run Tryz.prog W = .ok (.slice (some ⟨g', 0, none⟩) 44 C') w' ∧ w'.ownsRow W4.heap.size 5 1 (.slice (some ⟨g', 0, none⟩) 44 C') 44 (bl (sdM Kk e mx) 44) ∧ Below W4.heap.size W w' := fun W g C hW ho ty =>
    ap_row W W4.heap.size _ 12 32 32 y3 (sdM Kk e mx) mx ho (fun j hj => row_int ((hW.block _ (Array.getElem?_eq_some_iff.1 rm).1).trans rm) j hj) (fun j hj => by unfold sdM; rw [if_neg (by omega), if_neg (by omega), show 12 + j - 12 = j by omega]) hW.size (by omega) (by omega) (by omega) ty
  have hsum : ∀ (W : World) g C, Below W4.heap.size W4 W → W.ownsRow W4.heap.size 5 1 (.slice (some ⟨g, 0, none⟩) 44 C) 44 (bl (sdM Kk e mx) 44) → Calls Tryz.prog 67 #[.slice (some ⟨g, 0, none⟩) 44 C] W fun e w' => e = .returned (.agg (vs .u8 32 X)) ∧ Below W.heap.size W w' := fun W g C h ho => HSUM0.out W g C _ (hB4.trans (h.mono hB4.size)) ho
  have hdr : Below W4.heap.size W4 W4.drew := (Below.refl _ _).drew
  have HAP1 := hid hap1
  have HAP2 := hid hap2
  have HAP3 := hid hap3
  have HSUM := hid hsum
  have HDR := hid hdr
  have HB4 := hid hB4
  have HRR := hid rr4
  have HZR := hid (show w.heap.size + 1 < W4.heap.size by omega)
  clear hap1 hap2 hap3 hsum hdr hB4 rr4 rm rk4 re4 hE4 hD4 hW4 ey3 hz4 HSUM0 HB0 HR1 HRE HRK3 HD3 HL l3 v24 v8a v8b z8 zr HK1 HK2 ix
  refine wp_region_noPanic ?_
  refine wp_region_held_drew (S := fun _ => True) (by kernel_rfl) (trivial) (fun hHeld => ?_)
  refine tk 1 (v := ?v17) ?y17 hHeld ?r17
  case y17 => intro w hSw; go_simp; try with_reducible rfl
  refine tk 3 (v := ?v18) ?y18 hHeld ?r18
  case y18 => intro w hSw; go_simp; try with_reducible rfl
  refine tk 5 (v := ?v19) ?y19 hHeld ?r19
  case y19 => intro w hSw; go_simp; try with_reducible rfl
  try simp only [Act.put, List.setIfInBounds_toArray, List.set_cons_zero, List.set_cons_succ, Array.toArray_toList, List.getElem_toArray, List.getElem_cons_zero, List.getElem_cons_succ]
  refine wpAnyH_ready (rs := [0]) (by kernel_rfl) (by simp) ?_
  refine AllReadyH.cons rfl (fun K hK => ?_) AllReadyH.nil
  go_simp
  refine hK.out _ _ (trivial) (fun hHeld => ?_)
  clear hK K
  try simp only [Act.put, List.setIfInBounds_toArray, List.set_cons_zero, List.set_cons_succ, Array.toArray_toList, List.getElem_toArray, List.getElem_cons_zero, List.getElem_cons_succ]
  refine wpAnyH_ready (rs := [2]) (by kernel_rfl) (by simp) ?_
  refine AllReadyH.cons rfl (fun K hK => ?_) AllReadyH.nil
  obtain ⟨g1, C1, w1, hap1, ho1, hb1⟩ := HAP1.out _ HDR.out 39
  refine wp_append_is _ _ rfl _ _ _ _ rfl rfl hap1 ?_
  replace hb1 : Below W4.heap.size W4 w1 := HDR.out.trans hb1
  refine hK.out _ _ (trivial) (fun hHeld => ?_)
  clear hK K
  try simp only [Act.put, List.setIfInBounds_toArray, List.set_cons_zero, List.set_cons_succ, Array.toArray_toList, List.getElem_toArray, List.getElem_cons_zero, List.getElem_cons_succ]
  refine wpAnyH_ready (rs := [4]) (by kernel_rfl) (by simp) ?_
  refine AllReadyH.cons rfl (fun K hK => ?_) AllReadyH.nil
  obtain ⟨g2, C2, w2, hap2, ho2, hb2⟩ := HAP2.out w1 g1 C1 hb1 ho1 39
  refine wp_append_is _ _ rfl _ _ _ _ rfl rfl hap2 ?_
  replace hb2 : Below W4.heap.size W4 w2 := hb1.trans hb2
  refine hK.out _ _ (trivial) (fun hHeld => ?_)
  clear hK K
  try simp only [Act.put, List.setIfInBounds_toArray, List.set_cons_zero, List.set_cons_succ, Array.toArray_toList, List.getElem_toArray, List.getElem_cons_zero, List.getElem_cons_succ]
  refine wpAnyH_ready (rs := [6]) (by kernel_rfl) (by simp) ?_
  refine AllReadyH.cons rfl (fun K hK => ?_) AllReadyH.nil
  obtain ⟨g3, C3, w3, hap3, ho3, hb3⟩ := HAP3.out w2 g2 C2 hb2 ho2 39
  refine wp_append_is _ _ rfl _ _ _ _ rfl rfl hap3 ?_
  replace hb3 : Below W4.heap.size W4 w3 := hb2.trans hb3
  refine hK.out _ _ (trivial) (fun hHeld => ?_)
  clear hK K
  try simp only [Act.put, List.setIfInBounds_toArray, List.set_cons_zero, List.set_cons_succ, Array.toArray_toList, List.getElem_toArray, List.getElem_cons_zero, List.getElem_cons_succ]
  refine wpAnyH_ready (rs := [7]) (by kernel_rfl) (by simp) ?_
  refine AllReadyH.cons rfl (fun K hK => ?_) AllReadyH.nil
  go_simp
  refine (HSUM.out w3 g3 C3 hb3 ho3).mono ?_
  rintro e' w5 ⟨rfl, hb5⟩
  dsimp only
  replace hb5 : Below W4.heap.size W4 w5 := hb3.trans (hb5.mono hb3.size)
  have r5 := (hb5.block _ HZR.out).trans HRR.out
  refine hK.out _ _ (trivial) (fun hHeld => ?_)
  clear hK K
  try simp only [Act.put, List.setIfInBounds_toArray, List.set_cons_zero, List.set_cons_succ, Array.toArray_toList, List.getElem_toArray, List.getElem_cons_zero, List.getElem_cons_succ]
  refine wpAnyH_ready (rs := [8]) (by kernel_rfl) (by simp) ?_
  refine AllReadyH.cons rfl (fun K hK => ?_) AllReadyH.nil
  have v5 := sv24_run r5 X
  go_simp
  refine hK.out _ _ (trivial) (fun hHeld => ?_)
  clear hK K
  try simp only [Act.put, List.setIfInBounds_toArray, List.set_cons_zero, List.set_cons_succ, Array.toArray_toList, List.getElem_toArray, List.getElem_cons_zero, List.getElem_cons_succ]
  refine wpAnyH_done (by kernel_rfl) ?_ _
  refine NoPanic.normal ?_
  go_wp2
  have hzz := HB4.out.size
  refine ret24 6 (w.heap.size + 1) X 24 rfl rfl rfl (setRow_at r5) ⟨rfl, ?_⟩
  exact below_row (HB4.out.trans (hb5.mono hzz)) (by omega) _

end Go.Proofs.YtpnpmgeokicpjaaGreatDoor
