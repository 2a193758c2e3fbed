/-
  What pivotOf, sourceOf and afterRound answer.
-/

import Derived.Test.YtficlakgameglaaDoorQH
import Derived.Deep.Onto

namespace Go.Proofs.YtficlakgameglaaDoor

open Go.RowKit

set_option linter.unusedVariables false

set_option linter.unusedSimpArgs false

theorem wpList_append_is {P : Program} {ops : Array Oper} {rest : List Oper} {o : Oper} {a : Act} {w : World} {Q : Exit → Act → World → Prop} (hgd : o.guard = none) (s x : Operand)
    (ho : o.op = .call { callee := .builtin .append, args := #[s, x], argTypes := #[39, 39] }) (ws wx v : Value) (w' : World) (hs : a.eval s = ws) (hx : a.eval x = wx)
    (hrun : (ap22 o.type ws wx).run P w = .ok v w') (h : wpList P ops Q rest (a.put o.dst v) w') : wpList P ops Q (o :: rest) a w :=
  wpList_plain hgd fun K hK => wp_append_is s x ho ws wx v w' hs hx hrun (hK _ _ h)

theorem sum_own {m : Nat → Int} {L g C B : Nat} {w : World} (hS : Sh w) (ho : w.ownsRow B 5 1 (.slice (some ⟨g, 0, none⟩) L C) L (bl m L)) (hr : ∀ j, j < L → 0 ≤ m j ∧ m j < 256) (hL : L < 1152921504606846976) :
    Calls Tryd.prog 85 #[.slice (some ⟨g, 0, none⟩) L C] w fun e w' => e = .returned (.agg (vs .u8 32 (shaV KW HW m L))) ∧ Below w.heap.size w w' := by
  obtain ⟨h1, h2, h3, h4, h5⟩ := own_cells ho
  exact sum_any KW HW m L C g 0 w hS.1 hS.2 HW_bd (fun j hj => by rw [Nat.zero_add]; exact h5 j hj) hr h2 hL h3 h4

theorem grown_below {B : Nat} {W w' : World} (hg : W.grownBy w' none) (hB : B ≤ W.heap.size) : Below B W w' :=
  ⟨hg.os, hg.tape, hg.output, hg.size, fun k hk => hg.block k (by omega) (fun e => by cases e)⟩

theorem bl_add (m c : Nat → Int) (n k : Nat) (hm : ∀ j, j < k → m (n + j) = c j) : bl m n ++ bl c k = bl m (n + k) := by
  unfold bl
  rw [List.range_add, List.map_append, List.map_map]
  congr 1
  refine List.map_congr_left fun j hj => ?_
  show Value.int .u8 (c j) = Value.int .u8 (m (n + j))
  rw [hm j (List.mem_range.1 hj)]

/-- The round behind the seed. -/
theorem ap_seed (W : World) (b : Nat) (s : Nat → Int) (r : Int) (hb : ∀ j, j < 32 → W.cell? ⟨b, j, none⟩ = some (.int .u8 (s j))) (hl : b < W.heap.size) (ty : TypeId) :
    ∃ g C w', (ap22 ty (.slice (some ⟨b, 0, none⟩) 32 32) (.slice (some ⟨W.heap.size, 0, none⟩) 1 1)).run Tryd.prog (W.alloc (.cells #[.int .u8 r] 5)) = .ok (.slice (some ⟨g, 0, none⟩) 33 C) w' ∧ w'.ownsRow W.heap.size 5 1 (.slice (some ⟨g, 0, none⟩) 33 C) 33 (bl (sd1 s r) 33) ∧ Below W.heap.size W w' := by
  obtain ⟨i, hi, hz0, hz1, hz2⟩ := info_parts info8
  have hB : Below W.heap.size W (W.alloc (.cells #[.int .u8 r] 5)) := (Below.refl _ _).alloc (Nat.le_refl _) _
  obtain ⟨v', w', hr, ho, hg⟩ := run_append_arg_grows (P := Tryd.prog) (W.alloc (.cells #[.int .u8 r] 5)) 39 ty 5 i (.int .u8 0) 1 1 Tryd.underlying39 hi hz0 hz1 hz2 rfl (by decide) ⟨b, 0, none⟩ 32 32 (bl s 32) (by rw [bl_len])
    (fun j u hj => by
      obtain ⟨h1, rfl⟩ := bl_get s 32 j u hj
      rw [addr_add, Nat.zero_add, below_cell hB hl]
      exact hb j h1) ⟨W.heap.size, 0, none⟩ 1 1 [.int .u8 r] rfl (cell_one_new _ _ _) (by omega) (by unfold maxLen; omega) (by omega)
  have e : bl s 32 ++ [.int .u8 r] = bl (sd1 s r) 33 := by
    rw [bl_congr (m := s) (m' := sd1 s r) (fun j hj => by unfold sd1; rw [if_pos hj])]
    exact bl_snoc (sd1 s r) 32 r (by unfold sd1; rw [if_neg (by omega)])
  rw [e] at ho
  obtain ⟨g, C, rfl⟩ := owns_pos ho (by omega)
  exact ⟨g, C, w', hr, ho.mono (by simp), hB.trans (grown_below hg (by simp))⟩

/-- Four bytes of a number behind a row of one's own. -/
theorem ap_four (W : World) (B g C n b : Nat) (m c : Nat → Int) (ho : W.ownsRow B 5 1 (.slice (some ⟨g, 0, none⟩) n C) n (bl m n)) (hb : ∀ j, j < 4 → W.cell? ⟨b, j, none⟩ = some (.int .u8 (c j))) (hm : ∀ j, j < 4 → m (n + j) = c j) (hB : B ≤ W.heap.size) (hn : n ≤ 64) (ty : TypeId) :
    ∃ g' C' w', (ap22 ty (.slice (some ⟨g, 0, none⟩) n C) (.slice (some ⟨b, 0, none⟩) 4 8)).run Tryd.prog W = .ok (.slice (some ⟨g', 0, none⟩) (n + 4) C') w' ∧ w'.ownsRow B 5 1 (.slice (some ⟨g', 0, none⟩) (n + 4) C') (n + 4) (bl m (n + 4)) ∧ Below B W w' := by
  obtain ⟨i, hi, hz0, hz1, hz2⟩ := info_parts info8
  obtain ⟨v', w', hr, ho', hg, _⟩ := run_append_own_at (P := Tryd.prog) W B 39 ty 5 i (.int .u8 0) 1 1 Tryd.underlying39 hi hz0 hz1 hz2 rfl (by decide) _ n (bl m n) ho ⟨b, 0, none⟩ 4 8 (bl c 4) (by rw [bl_len])
    (fun j u hj => by
      obtain ⟨h1, rfl⟩ := bl_get c 4 j u hj
      rw [addr_add, Nat.zero_add]
      exact hb j h1) (bl_one c 4) (by unfold maxLen; omega) (by omega) hB
  rw [bl_add m c n 4 hm] at ho'
  obtain ⟨g', C', rfl⟩ := owns_pos ho' (by omega)
  exact ⟨g', C', w', hr, ho', below_grown (Below.refl _ _) ho hB hg⟩

attribute [local go_sem ↓] sv24_eq lv24_eq sv8_eq

set_option maxRecDepth 20000 in
set_option maxHeartbeats 1000000 in
theorem pivot_any (s : Nat → Int) (r n : Int) (w : World) (hs : ∀ j, j < 32 → 0 ≤ s j ∧ s j < 256) (hr : 0 ≤ r ∧ r < 256) (hn : 0 < n) (hn2 : n < 18446744073709551616) (hS : Sh w) :
    Calls Tryd.prog 104 #[.int .u64 n, .agg (vs .u8 32 s), .int .u8 r] w fun e w' => e = .returned (.int .u64 (pv s r n)) ∧ Below w.heap.size w w' := by
  obtain ⟨W0, hW0⟩ : ∃ W, w.alloc (.cells (vs .u8 32 s) 24) = W := ⟨_, rfl⟩
  have r0 : W0.heap[w.heap.size]? = some (.cells (vs .u8 32 s) 24) := by rw [← hW0]; exact heap_new rfl
  have hB0 : Below w.heap.size w W0 := by rw [← hW0]; exact (Below.refl _ _).alloc (Nat.le_refl _) _
  have z0 : w.heap.size < W0.heap.size := (Array.getElem?_eq_some_iff.1 r0).1
  have hap := ap_seed W0 w.heap.size s r (fun j hj => row_int r0 j hj) z0
  obtain ⟨X, hX⟩ : ∃ X, shaV KW HW (sd1 s r) 33 = X := ⟨_, rfl⟩
  have hb := pvN_bd s r
  have e0 : pvN s r = num8 (X 0) (X 1) (X 2) (X 3) (X 4) (X 5) (X 6) (X 7) := by unfold pvN; rw [hX]
  have hXb : ∀ j, 0 ≤ X j ∧ X j ≤ 255 := fun j => by have := shaV_bd KW HW (sd1 s r) 33 j; rw [hX] at this; omega
  obtain ⟨P, hP⟩ : ∃ P, pvN s r = P := ⟨_, rfl⟩
  have hsum : ∀ (W : World) g C, Below w.heap.size w W → W.ownsRow W0.heap.size 5 1 (.slice (some ⟨g, 0, none⟩) 33 C) 33 (bl (sd1 s r) 33) → Calls Tryd.prog 85 #[.slice (some ⟨g, 0, none⟩) 33 C] W fun e w' => e = .returned (.agg (vs .u8 32 X)) ∧ Below W.heap.size W w' := fun W g C h1 h2 => by
    rw [← hX]
    exact sum_own (hS.below h1) h2 (fun j _ => sd1_bd hs hr j) (by omega)
  have hread : ∀ (W : World) b t, W.heap[b]? = some (.cells (vs .u8 32 X) t) → Calls Tryd.prog 107 #[.slice (some ⟨b, 0, none⟩) 8 32] W fun e w' => e = .returned (.tuple #[.int .u64 P, .int .i64 0]) ∧ w' = W := fun W b t h => by
    rw [← hP, e0]
    exact read8 b 0 32 _ _ _ _ _ _ _ _ W (row_int h 0 (by omega)) (hXb 0).1 (hXb 0).2 (row_int h 1 (by omega)) (hXb 1).1 (hXb 1).2 (row_int h 2 (by omega)) (hXb 2).1 (hXb 2).2 (row_int h 3 (by omega)) (hXb 3).1 (hXb 3).2 (row_int h 4 (by omega)) (hXb 4).1 (hXb 4).2 (row_int h 5 (by omega)) (hXb 5).1 (hXb 5).2 (row_int h 6 (by omega)) (hXb 6).1 (hXb 6).2 (row_int h 7 (by omega)) (hXb 7).1 (hXb 7).2
  have ev : pv s r n = P % n := by unfold pv; rw [hP]
  rw [hP] at hb
  obtain ⟨p0, p1⟩ := hb
  have v24 := fun W => sv24_newv W (fun _ => 0) X
  have z := zero_root
  have EV := hid ev
  have HAP := hid hap
  have HSUM := hid hsum
  have HREAD := hid hread
  have HB0 := hid hB0
  have HW0 := hid hW0
  clear ev hap hsum hread hB0 hW0 r0 e0 hXb hP hX hs hr hS
  go_enter Tryd.func104, Tryd.ntmps104
  go_upto_region 1 with fail
  rw [HW0.out]
  clear HW0
  go_upto_region 2 with (first
    | (at_builtin; obtain ⟨g1, C1, w1, hap1, ho1, hb1⟩ := HAP.out 39; refine wpList_append_is rfl _ _ rfl _ _ _ _ rfl rfl hap1 ?_)
    | (go_at_call 85; refine (HSUM.out w1 g1 C1 (HB0.out.trans (hb1.mono (by omega))) ho1).mono ?_; rintro e w2 ⟨rfl, hb2⟩))
  obtain ⟨W3, hW3⟩ : ∃ W, w2.alloc (.cells (vs .u8 32 X) 24) = W := ⟨_, rfl⟩
  have hz1 := hb1.size
  have r3 : W3.heap[w2.heap.size]? = some (.cells (vs .u8 32 X) 24) := by rw [← hW3]; exact heap_new rfl
  have hB3 : Below w.heap.size w W3 := by rw [← hW3]; exact (HB0.out.trans ((hb1.mono (by omega)).trans (hb2.mono (by omega)))).alloc (by have := hb2.size; omega) _
  rw [hW3]
  obtain ⟨y, ey⟩ : ∃ y, w2.heap.size = y := ⟨_, rfl⟩
  rw [ey] at r3 ⊢
  have HR3 := hid r3
  have HB3 := hid hB3
  clear r3 hB3 hW3 ey hb1 hb2 hz1 ho1 hap1 v24 z HAP HSUM HB0
  go_wp2_with (go_at_call 107; refine (HREAD.out _ _ _ HR3.out).mono ?_; rintro e w4 ⟨rfl, hw4⟩; obtain rfl := hw4.symm)
  go_ret
  exact ⟨ret_int EV.out.symm, HB3.out⟩

set_option maxRecDepth 20000 in
set_option maxHeartbeats 1000000 in
theorem source_any (s : Nat → Int) (r p : Int) (w : World) (hs : ∀ j, j < 32 → 0 ≤ s j ∧ s j < 256) (hr : 0 ≤ r ∧ r < 256) (h0 : 0 ≤ p) (h1 : p < 18446744073709551616) (hS : Sh w) :
    Calls Tryd.prog 106 #[.int .u64 p, .agg (vs .u8 32 s), .int .u8 r] w fun e w' => e = .returned (.agg (vs .u8 32 (srcV s r (p / 256)))) ∧ Below w.heap.size w w' := by
  obtain ⟨W0, hW0⟩ : ∃ W, (w.alloc (.cells (vs .u8 32 s) 24)).alloc (.cells (vs .u8 32 fun _ => 0) 24) = W := ⟨_, rfl⟩
  have r0 : W0.heap[w.heap.size]? = some (.cells (vs .u8 32 s) 24) := by rw [← hW0]; exact (heap_old (by simp)).trans (heap_new rfl)
  have r1 : W0.heap[w.heap.size + 1]? = some (.cells (vs .u8 32 fun _ => 0) 24) := by rw [← hW0]; exact heap_new (by simp)
  have hB0 : Below w.heap.size w W0 := by rw [← hW0]; exact ((Below.refl _ _).alloc (Nat.le_refl _) _).alloc (by simp) _
  have z0 : w.heap.size + 1 < W0.heap.size := (Array.getElem?_eq_some_iff.1 r1).1
  obtain ⟨Q, hQ⟩ : ∃ Q, p / 256 = Q := ⟨_, rfl⟩
  have q0 : 0 ≤ Q := by omega
  have q1 : Q < 18446744073709551616 := by omega
  have hbt := fun W : World => bytesU_any Q W q0 q1
  obtain ⟨X, hX⟩ : ∃ X, srcV s r Q = X := ⟨_, rfl⟩
  have hsum : ∀ (W : World) g C, Below w.heap.size w W → W.ownsRow W0.heap.size 5 1 (.slice (some ⟨g, 0, none⟩) 37 C) 37 (bl (sd2 s r Q) 37) → Calls Tryd.prog 85 #[.slice (some ⟨g, 0, none⟩) 37 C] W fun e w' => e = .returned (.agg (vs .u8 32 X)) ∧ Below W.heap.size W w' := fun W g C h1 h2 => by
    rw [← hX]
    exact sum_own (hS.below h1) h2 (fun j _ => sd2_bd hs hr Q j) (by omega)
  have v8 := fun W => sv8_newv W (fun _ => 0) (bt Q)
  have z := zero_8
  have zr := zero_root
  rw [hQ, hX]
  have HSUM := hid hsum
  have HBT := hid hbt
  have HB0 := hid hB0
  have HW0 := hid hW0
  have HR0 := hid (And.intro r0 r1)
  clear hsum hbt hB0 hW0 r0 r1 hs hr hS hX
  go_enter Tryd.func106, Tryd.ntmps106
  go_upto_region 1 with fail
  rw [HW0.out]
  clear HW0
  go_upto_region 2 with (go_at_call 80; refine (HBT.out W0).mono ?_; rintro e w1 ⟨rfl, hb1⟩)
  obtain ⟨W2, hW2⟩ : ∃ W, w1.alloc (.cells (vs .u8 8 (bt Q)) 128) = W := ⟨_, rfl⟩
  rw [hW2]
  have hz1 := hb1.size
  have rn : W2.heap[w1.heap.size]? = some (.cells (vs .u8 8 (bt Q)) 128) := by rw [← hW2]; exact heap_new rfl
  have hD2 : Below W0.heap.size W0 W2 := by rw [← hW2]; exact hb1.alloc hz1 _
  have hB2 : Below w.heap.size w W2 := HB0.out.trans (hD2.mono (by omega))
  have rs := (hD2.block w.heap.size (by omega)).trans HR0.out.1
  have rr := (hD2.block (w.heap.size + 1) (by omega)).trans HR0.out.2
  have zn : w1.heap.size < W2.heap.size := (Array.getElem?_eq_some_iff.1 rn).1
  obtain ⟨y, ey⟩ : ∃ y, w1.heap.size = y := ⟨_, rfl⟩
  rw [ey] at rn zn hz1 ⊢
  have zs : w.heap.size < W2.heap.size := by omega
  have zr2 : w.heap.size + 1 < W2.heap.size := by omega
  have hap1 : ∀ W, Below W2.heap.size W2 W → ∀ ty, ∃ g C w', (ap22 ty (.slice (some ⟨w.heap.size, 0, none⟩) 32 32) (.slice (some ⟨W.heap.size, 0, none⟩) 1 1)).run Tryd.prog (W.alloc (.cells #[.int .u8 r] 5)) = .ok (.slice (some ⟨g, 0, none⟩) 33 C) w' ∧ w'.ownsRow W2.heap.size 5 1 (.slice (some ⟨g, 0, none⟩) 33 C) 33 (bl (sd1 s r) 33) ∧ Below W2.heap.size W w' := fun W hW ty => by
    have hz := hW.size
    obtain ⟨g, C, w', h1, h2, h3⟩ := ap_seed W w.heap.size s r (fun j hj => row_int ((hW.block _ zs).trans rs) j hj) (by omega) ty
    exact ⟨g, C, w', h1, h2.mono hz, h3.mono hz⟩
  have hap2 : ∀ (W : World) g C, Below W2.heap.size W2 W → W.ownsRow W2.heap.size 5 1 (.slice (some ⟨g, 0, none⟩) 33 C) 33 (bl (sd1 s r) 33) → ∀ ty, ∃ g' C' w', (ap22 ty (.slice (some ⟨g, 0, none⟩) 33 C) (.slice (some ⟨y, 0, none⟩) 4 8)).run Tryd.prog W = .ok (.slice (some ⟨g', 0, none⟩) 37 C') w' ∧ w'.ownsRow W0.heap.size 5 1 (.slice (some ⟨g', 0, none⟩) 37 C') 37 (bl (sd2 s r Q) 37) ∧ Below W2.heap.size W w' := fun W g C hW ho ty => by
    rw [bl_congr (m := sd1 s r) (m' := sd2 s r Q) (fun j hj => by unfold sd2; rw [if_pos hj])] at ho
    obtain ⟨g', C', w', h1, h2, h3⟩ := ap_four W W2.heap.size g C 33 y (sd2 s r Q) (bt Q) ho (fun j hj => row_int ((hW.block _ zn).trans rn) j (by omega)) (fun j hj => by unfold sd2; rw [if_neg (by omega), show 33 + j - 33 = j by omega]) hW.size (by omega) ty
    exact ⟨g', C', w', h1, h2.mono (by omega), h3⟩
  have HAP1 := hid hap1
  have HAP2 := hid hap2
  have HB2 := hid hB2
  have HD2 := hid (Below.refl W2.heap.size W2)
  have hdr : Below W2.heap.size W2 W2.drew := (Below.refl _ _).drew
  have HDR := hid hdr
  have HZR := hid zr2
  clear HR0
  have HR0 := hid rr
  clear hap1 hap2 hB2 hdr zr2 rr rs rn zn zs hD2 hW2 ey hb1 hz1 HB0 HBT v8 z zr
  refine wp_region_noPanic ?_
  refine wp_region_held_drew (S := fun _ => True) (by kernel_rfl) (trivial) (fun hHeld => ?_)
  refine tk 0 (v := ?v1) ?y1 hHeld ?r1
  case y1 => intro w hSw; go_simp; try with_reducible rfl
  refine tk 1 (v := ?v2) ?y2 hHeld ?r2
  case y2 => intro w hSw; go_simp; try with_reducible rfl
  refine tk 4 (v := ?v3) ?y3 hHeld ?r3
  case y3 => intro w hSw; go_simp; try with_reducible rfl
  try simp only [Act.put, List.setIfInBounds_toArray, List.set_cons_zero, List.set_cons_succ, Array.toArray_toList, List.getElem_toArray, List.getElem_cons_zero, List.getElem_cons_succ]
  refine wpAnyH_ready (rs := [2]) (by kernel_rfl) (by simp) ?_
  refine AllReadyH.cons rfl (fun K hK => ?_) AllReadyH.nil
  go_simp
  refine hK.out _ _ (trivial) (fun hHeld => ?_)
  clear hK K
  try simp only [Act.put, List.setIfInBounds_toArray, List.set_cons_zero, List.set_cons_succ, Array.toArray_toList, List.getElem_toArray, List.getElem_cons_zero, List.getElem_cons_succ]
  refine wpAnyH_ready (rs := [3]) (by kernel_rfl) (by simp) ?_
  refine AllReadyH.cons rfl (fun K hK => ?_) AllReadyH.nil
  obtain ⟨g1, C1, w1, hap1, ho1, hb1⟩ := HAP1.out _ HD2.out.drew 39
  refine wp_append_is _ _ rfl _ _ _ _ rfl rfl hap1 ?_
  replace hb1 : Below W2.heap.size W2 w1 := HDR.out.trans hb1
  refine hK.out _ _ (trivial) (fun hHeld => ?_)
  clear hK K
  try simp only [Act.put, List.setIfInBounds_toArray, List.set_cons_zero, List.set_cons_succ, Array.toArray_toList, List.getElem_toArray, List.getElem_cons_zero, List.getElem_cons_succ]
  refine wpAnyH_ready (rs := [5]) (by kernel_rfl) (by simp) ?_
  refine AllReadyH.cons rfl (fun K hK => ?_) AllReadyH.nil
  obtain ⟨g3, C3, w3, hap3, ho3, hb3⟩ := HAP2.out w1 g1 C1 hb1 ho1 39
  refine wp_append_is _ _ rfl _ _ _ _ rfl rfl hap3 ?_
  replace hb3 : Below W2.heap.size W2 w3 := hb1.trans hb3
  refine hK.out _ _ (trivial) (fun hHeld => ?_)
  clear hK K
  try simp only [Act.put, List.setIfInBounds_toArray, List.set_cons_zero, List.set_cons_succ, Array.toArray_toList, List.getElem_toArray, List.getElem_cons_zero, List.getElem_cons_succ]
  refine wpAnyH_ready (rs := [6]) (by kernel_rfl) (by simp) ?_
  refine AllReadyH.cons rfl (fun K hK => ?_) AllReadyH.nil
  go_simp
  refine (HSUM.out w3 g3 C3 (HB2.out.trans (hb3.mono HB2.out.size)) ho3).mono ?_
  rintro e w4 ⟨rfl, hb4⟩
  dsimp only
  replace hb4 : Below W2.heap.size W2 w4 := hb3.trans (hb4.mono hb3.size)
  have r4 := (hb4.block _ HZR.out).trans HR0.out
  refine hK.out _ _ (trivial) (fun hHeld => ?_)
  clear hK K
  try simp only [Act.put, List.setIfInBounds_toArray, List.set_cons_zero, List.set_cons_succ, Array.toArray_toList, List.getElem_toArray, List.getElem_cons_zero, List.getElem_cons_succ]
  refine wpAnyH_ready (rs := [7]) (by kernel_rfl) (by simp) ?_
  refine AllReadyH.cons rfl (fun K hK => ?_) AllReadyH.nil
  have v4 := sv24_run r4 X
  go_simp
  refine hK.out _ _ (trivial) (fun hHeld => ?_)
  clear hK K
  try simp only [Act.put, List.setIfInBounds_toArray, List.set_cons_zero, List.set_cons_succ, Array.toArray_toList, List.getElem_toArray, List.getElem_cons_zero, List.getElem_cons_succ]
  refine wpAnyH_done (by kernel_rfl) ?_ _
  refine NoPanic.normal ?_
  go_wp2
  have hz4 := HB2.out.size
  refine ret24 6 (w.heap.size + 1) X 24 rfl rfl rfl (setRow_at r4) ⟨rfl, ?_⟩
  exact below_row (HB2.out.trans (hb4.mono hz4)) (by omega) _

set_option maxRecDepth 20000 in
set_option maxHeartbeats 1000000 in
theorem round_any (s : Nat → Int) (r n i : Int) (w : World) (hs : ∀ j, j < 32 → 0 ≤ s j ∧ s j < 256) (hr : 0 ≤ r ∧ r < 256) (h0 : 0 ≤ i) (h1 : i < n) (hn : n ≤ 4294967296) (hS : Sh w) :
    Calls Tryd.prog 97 #[.int .u64 i, .int .u64 n, .agg (vs .u8 32 s), .int .u8 r] w fun e w' => e = .returned (.int .u64 (rdV s r n i)) ∧ Below w.heap.size w w' := by
  obtain ⟨W0, hW0⟩ : ∃ W, w.alloc (.cells (vs .u8 32 s) 24) = W := ⟨_, rfl⟩
  have r0 : W0.heap[w.heap.size]? = some (.cells (vs .u8 32 s) 24) := by rw [← hW0]; exact heap_new rfl
  have hB0 : Below w.heap.size w W0 := by rw [← hW0]; exact (Below.refl _ _).alloc (Nat.le_refl _) _
  have z0 : w.heap.size < W0.heap.size := (Array.getElem?_eq_some_iff.1 r0).1
  have hpb := pv_bd s r (n := n) (by omega)
  have hp := pivot_any s r n W0 hs hr (by omega) (by omega) (hS.below hB0)
  have hev : rdV s r n i = rdX (rdB s r) (pv s r n) n i := rfl
  obtain ⟨P, hP⟩ : ∃ P, pv s r n = P := ⟨_, rfl⟩
  rw [hP] at hp hpb hev
  obtain ⟨p0, p1⟩ := hpb
  have hf := fun W : World => flip_any i n P W h0 h1 hn p0 p1
  obtain ⟨f0, f1⟩ := fl_bd h0 h1 p0 p1
  have hev2 : rdV s r n i = if rdB s r (mx i (fl i n P)) = true then fl i n P else i := hev
  obtain ⟨F, hF⟩ : ∃ F, fl i n P = F := ⟨_, rfl⟩
  rw [hF] at hf f0 f1 hev2
  obtain ⟨M, hM⟩ : ∃ M, mx i F = M := ⟨_, rfl⟩
  rw [hM] at hev2
  have m0 : 0 ≤ M ∧ M < 4294967296 := by rw [← hM]; unfold mx; split <;> omega
  obtain ⟨m0, m1⟩ := m0
  have hmx : (if i < F then F else i) = M := hM
  have hso : ∀ W : World, Below W0.heap.size W0 W → Calls Tryd.prog 106 #[.int .u64 M, .agg (vs .u8 32 s), .int .u8 r] W fun e w' => e = .returned (.agg (vs .u8 32 (srcV s r (M / 256)))) ∧ Below W.heap.size W w' := fun W h => source_any s r M W hs hr m0 (by omega) ((hS.below hB0).below h)
  have his := fun W : World => isset_any (srcV s r (M / 256)) M W (fun j _ => shaV_bd ..) m0 (by omega)
  obtain ⟨X, hX⟩ : ∃ X, srcV s r (M / 256) = X := ⟨_, rfl⟩
  have hbit : rdB s r M = bitB X M := by unfold rdB; rw [hX]
  rw [hX] at hso his
  rw [hbit] at hev2
  obtain ⟨b, hb⟩ : ∃ b, bitB X M = b := ⟨_, rfl⟩
  rw [hb] at his hev2
  have hl : ∀ W : World, Below W0.heap.size W0 W → (lv24 ⟨w.heap.size, 0, none⟩).run Tryd.prog W = .ok (.agg (vs .u8 32 s)) W := fun W h => lv24_run ((h.block _ z0).trans r0)
  have l0 := hl W0 (Below.refl _ _)
  have EV := hid hev2
  have HP := hid hp
  have HFL := hid hf
  have HSO := hid hso
  have HIS := hid his
  have HL := hid hl
  have HB0 := hid hB0
  have HW0 := hid hW0
  clear hp hf hso his hl hB0 hW0 r0 hs hr hS hP hF hM hX hbit hb hev hev2
  by_cases hlt : i < F
  · rw [if_pos hlt] at hmx
    subst hmx
    have hm2 : max i F = F := by omega
    go_enter Tryd.func97, Tryd.ntmps97
    go_upto_region 1 with fail
    rw [HW0.out]
    clear HW0
    go_upto_region 2 with (first
      | (go_at_call 104; refine HP.out.mono ?_; rintro e w1 ⟨rfl, hb1⟩)
      | (go_at_call 103; refine (HFL.out _).mono ?_; rintro e w2 ⟨rfl, hw2⟩; obtain rfl := hw2.symm))
    have l1 := HL.out w1 hb1
    have z1 := hb1.size
    clear l0
    cases b
    all_goals
      go_wp2_with (first
        | (go_at_call 106; refine (HSO.out w1 hb1).mono ?_; rintro e w3 ⟨rfl, hb3⟩)
        | (go_at_call 105; refine (HIS.out _).mono ?_; rintro e w4 ⟨rfl, hb4⟩))
      go_ret
      have z3 := hb3.size
      exact ⟨ret_int (by rw [EV.out]; simp), HB0.out.trans ((hb1.mono (by omega)).trans ((hb3.mono (by omega)).trans (hb4.mono (by omega))))⟩
  · rw [if_neg hlt] at hmx
    subst hmx
    have hm2 : max i F = i := by omega
    go_enter Tryd.func97, Tryd.ntmps97
    go_upto_region 1 with fail
    rw [HW0.out]
    clear HW0
    go_upto_region 2 with (first
      | (go_at_call 104; refine HP.out.mono ?_; rintro e w1 ⟨rfl, hb1⟩)
      | (go_at_call 103; refine (HFL.out _).mono ?_; rintro e w2 ⟨rfl, hw2⟩; obtain rfl := hw2.symm))
    have l1 := HL.out w1 hb1
    have z1 := hb1.size
    clear l0
    cases b
    all_goals
      go_wp2_with (first
        | (go_at_call 106; refine (HSO.out w1 hb1).mono ?_; rintro e w3 ⟨rfl, hb3⟩)
        | (go_at_call 105; refine (HIS.out _).mono ?_; rintro e w4 ⟨rfl, hb4⟩))
      go_ret
      have z3 := hb3.size
      exact ⟨ret_int (by rw [EV.out]; simp), HB0.out.trans ((hb1.mono (by omega)).trans ((hb3.mono (by omega)).trans (hb4.mono (by omega))))⟩

end Go.Proofs.YtficlakgameglaaDoor
