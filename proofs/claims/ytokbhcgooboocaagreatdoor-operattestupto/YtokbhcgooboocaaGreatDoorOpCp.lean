/-
  The value of an Indexed; what EncIndexed answers.
-/
import Derived.Test.YtokbhcgooboocaaGreatDoorOpAp
namespace Go.Proofs.YtokbhcgooboocaaGreatDoor
open Go.RowKit
set_option linter.unusedVariables false
set_option linter.unusedSimpArgs false

/-- An Indexed: where its numbers lie, how many, with what room, which; the rest. -/
structure VIndexed where
  a : Option Addr
  n : Nat
  c : Nat
  zs : Nat → Int
  f1 : VData
  f2 : Nat → Int
def sIndexed (x : VIndexed) : List Seg := [.sl x.a x.n x.c] ++ sData x.f1 ++ [.by 96 x.f2]
def OkIndexed (x : VIndexed) : Prop := (∀ j, j < x.n → 0 ≤ x.zs j ∧ x.zs j < 18446744073709551616) ∧ OkData x.f1 ∧ (∀ j, j < 96 → 0 ≤ x.f2 j ∧ x.f2 j < 256)
def eIndexed (x : VIndexed) : List (Nat × (Nat → Int)) := [(4, oI), (128, ct7 (eData x.f1)), (96, x.f2), (8 * x.n, nB x.zs)]

attribute [local go_sem ↓] bsP_eq bsI_eq lvData_eq

set_option maxRecDepth 20000 in
set_option maxHeartbeats 2000000 in
theorem encIndexed_long (x : VIndexed) (w : World) (hn : 64 < x.n) :
    Calls Tryz.prog 18 #[.agg (cel (sIndexed x))] w fun e w' => e = .returned (.tuple #[.slice none 0 0, .int .i64 6]) ∧ Below w.heap.size w w' := by
  obtain ⟨W0, hW0⟩ : ∃ W, w.alloc (.cells (cel (sIndexed x)) 46) = W := ⟨_, rfl⟩
  have hB0 : Below w.heap.size w W0 := by rw [← hW0]; exact (Below.refl _ _).alloc (Nat.le_refl _) _
  have r0 : W0.heap[w.heap.size]? = some (.cells (cel (sIndexed x)) 46) := by rw [← hW0]; exact heap_new rfl
  have z0 : w.heap.size < W0.heap.size := by rw [← hW0]; simp
  obtain ⟨y, ey⟩ : ∃ y, w.heap.size = y := ⟨_, rfl⟩
  have hry : ∀ X, Below W0.heap.size W0 X → X.heap[y]? = some (.cells (cel (sIndexed x)) 46) := fun X h => by rw [← ey]; exact (h.block _ z0).trans r0
  have HL0 : Hid (∀ X, Below W0.heap.size W0 X → X.cell? ⟨y, 0, none⟩ = some (.slice x.a x.n x.c)) := fun X h => seg_sl (hry X h) 0 x.a x.n x.c rfl 0 rfl
  have l0 := HL0.out _ (Below.refl _ _)
  have HB0w := hid hB0
  have n1 : (64 : Int) < (x.n : Int) := by omega
  obtain ⟨N, eN⟩ : ∃ N, x.n = N := ⟨_, rfl⟩
  rw [eN] at l0 n1
  clear hB0 r0 hry hn eN HL0
  go_enter Tryz.func18, Tryz.ntmps18
  go_upto_region 1 with fail
  clear hW0 ey z0
  go_wp2
  go_ret2
  exact ⟨rfl, HB0w.out⟩

set_option maxRecDepth 20000 in
set_option maxHeartbeats 2000000 in
theorem encIndexed_ok (x : VIndexed) (w : World) (hx : OkIndexed x) (hn : x.n ≤ 64) (hw : Z.Nms .u64 w x.a x.n x.zs) :
    Calls Tryz.prog 18 #[.agg (cel (sIndexed x))] w fun e w' => ∃ v, e = .returned (.tuple #[v, .int .i64 0]) ∧ w'.ownsRow w.heap.size 5 1 v (228 + 8 * x.n) (bl (ct7 (eIndexed x)) (228 + 8 * x.n)) ∧ Below w.heap.size w w' := by
  have HX := hid hx
  obtain ⟨W0, hW0⟩ : ∃ W, w.alloc (.cells (cel (sIndexed x)) 46) = W := ⟨_, rfl⟩
  have hB0 : Below w.heap.size w W0 := by rw [← hW0]; exact (Below.refl _ _).alloc (Nat.le_refl _) _
  have r0 : W0.heap[w.heap.size]? = some (.cells (cel (sIndexed x)) 46) := by rw [← hW0]; exact heap_new rfl
  have z0 : w.heap.size < W0.heap.size := by rw [← hW0]; simp
  obtain ⟨y, ey⟩ : ∃ y, w.heap.size = y := ⟨_, rfl⟩
  have hry : ∀ X, Below W0.heap.size W0 X → X.heap[y]? = some (.cells (cel (sIndexed x)) 46) := fun X h => by rw [← ey]; exact (h.block _ z0).trans r0
  have HL0 : Hid (∀ X, Below W0.heap.size W0 X → X.cell? ⟨y, 0, none⟩ = some (.slice x.a x.n x.c)) := fun X h => seg_sl (hry X h) 0 x.a x.n x.c rfl 0 rfl
  have HL1 : Hid (∀ X, Below W0.heap.size W0 X → (lvData ⟨y, 1, none⟩).run Tryz.prog X = .ok (.agg (cel (sData x.f1))) X) := fun X h => lvData_mid (hry X h) 1 rfl rfl
  have HB2 : Hid (∀ X, Below W0.heap.size W0 X → Bys X (some ⟨y, 101, none⟩) 96 96 x.f2) := fun X h => seg_bys (hry X h) 8 96 x.f2 rfl 101 rfl (by omega)
  have HNM : Hid (∀ X, Below W0.heap.size W0 X → Z.Nms .u64 X x.a x.n x.zs) := fun X h => hw.below (hB0.trans (h.mono hB0.size))
  have hdr : Below W0.heap.size W0 W0.drew := (Below.refl _ _).drew
  have S0 := hid hdr
  have HB0w := hid hB0
  have EY := hid ey
  have l0 := HL0.out _ (Below.refl _ _)
  have n1 : ¬ (64 : Int) < (x.n : Int) := by omega
  have HN := hid hn
  obtain ⟨V, eV⟩ : ∃ V, ct7 (eIndexed x) = V := ⟨_, rfl⟩
  have hFL : ∀ (P : World) gp gs a1 c1 a2 c2, P.heap[gp]? = some (.cells (([(a1, 8 * x.n, c1, nB x.zs), (a2, 128, c2, ct7 (eData x.f1)), (some ⟨y, 101, none⟩, 96, 96, x.f2)] : List Pt).map ptv).toArray 34) → P.heap[gs]? = some (.cells (vs .i64 3 zI) 3) → Bys P a1 (8 * x.n) c1 (nB x.zs) → Bys P a2 128 c2 (ct7 (eData x.f1)) → Bys P (some ⟨y, 101, none⟩) 96 96 x.f2 → Calls Tryz.prog 20 #[.slice (some ⟨gp, 0, none⟩) 3 3, .slice (some ⟨gs, 0, none⟩) 3 3] P fun e w' => ∃ v, e = .returned (.tuple #[v, .int .i64 0]) ∧ w'.ownsRow P.heap.size 5 1 v (228 + 8 * x.n) (bl V (228 + 8 * x.n)) ∧ Below P.heap.size P w' := fun P gp gs a1 c1 a2 c2 h1 h2 h3 h4 h5 => by
    rw [← eV]
    exact olayI (a1, 8 * x.n, c1, nB x.zs) (a2, 128, c2, ct7 (eData x.f1)) (some ⟨y, 101, none⟩, 96, 96, x.f2) gp gs P (by show 8 * x.n ≤ 512; omega) rfl rfl h1 h2 h3 h4 h5
  rw [eV]
  have HFL := hid hFL
  clear hdr hB0 r0 hry hx hw hFL eV hn
  go_enter Tryz.func18, Tryz.ntmps18
  go_upto_region 1 with fail
  clear hW0 ey z0
  go_upto_region 3 with fail
  clear l0 n1
  refine wp_region_noPanic ?_
  refine wp_region_held_drew (S := fun X => Below W0.heap.size W0 X) (by kernel_rfl) (S0.out) (fun hHeld => ?_)
  refine wpAnyH_take (i := 0) (v := ?v1) rfl (by kernel_rfl) (by kernel_rfl) (by kernel_rfl) (fun _ _ _ h => h) (Or.inl ⟨by rfl, ?hy1⟩) hHeld ?rest1
  case hy1 =>
    intro w hSw
    go_simp
    try with_reducible rfl
  try simp only [Act.put, List.setIfInBounds_toArray, List.set_cons_zero, List.set_cons_succ, Array.toArray_toList, List.getElem_toArray, List.getElem_cons_zero, List.getElem_cons_succ]
  refine wpAnyH_take (i := 1) (v := ?v2) rfl (by kernel_rfl) (by kernel_rfl) (by kernel_rfl) (fun _ _ _ h => h) (Or.inl ⟨by rfl, ?hy2⟩) hHeld ?rest2
  case hy2 =>
    intro w hSw
    have ld := HL0.out _ hSw
    go_simp
    try with_reducible rfl
  try simp only [Act.put, List.setIfInBounds_toArray, List.set_cons_zero, List.set_cons_succ, Array.toArray_toList, List.getElem_toArray, List.getElem_cons_zero, List.getElem_cons_succ]
  refine wpAnyH_take (i := 3) (v := ?v3) rfl (by kernel_rfl) (by kernel_rfl) (by kernel_rfl) (fun _ _ _ h => h) (Or.inl ⟨by rfl, ?hy3⟩) hHeld ?rest3
  case hy3 =>
    intro w hSw
    go_simp
    try with_reducible rfl
  try simp only [Act.put, List.setIfInBounds_toArray, List.set_cons_zero, List.set_cons_succ, Array.toArray_toList, List.getElem_toArray, List.getElem_cons_zero, List.getElem_cons_succ]
  refine wpAnyH_take (i := 4) (v := ?v4) rfl (by kernel_rfl) (by kernel_rfl) (by kernel_rfl) (fun _ _ _ h => h) (Or.inl ⟨by rfl, ?hy4⟩) hHeld ?rest4
  case hy4 =>
    intro w hSw
    have ld := HL1.out _ hSw
    go_simp
    try with_reducible rfl
  try simp only [Act.put, List.setIfInBounds_toArray, List.set_cons_zero, List.set_cons_succ, Array.toArray_toList, List.getElem_toArray, List.getElem_cons_zero, List.getElem_cons_succ]
  refine wpAnyH_take (i := 6) (v := ?v5) rfl (by kernel_rfl) (by kernel_rfl) (by kernel_rfl) (fun _ _ _ h => h) (Or.inl ⟨by rfl, ?hy5⟩) hHeld ?rest5
  case hy5 =>
    intro w hSw
    go_simp
    try with_reducible rfl
  try simp only [Act.put, List.setIfInBounds_toArray, List.set_cons_zero, List.set_cons_succ, Array.toArray_toList, List.getElem_toArray, List.getElem_cons_zero, List.getElem_cons_succ]
  refine wpAnyH_take (i := 7) (v := ?v6) rfl (by kernel_rfl) (by kernel_rfl) (by kernel_rfl) (fun _ _ _ h => h) (Or.inl ⟨by rfl, ?hy6⟩) hHeld ?rest6
  case hy6 =>
    intro w hSw
    go_simp
    try with_reducible rfl
  try simp only [Act.put, List.setIfInBounds_toArray, List.set_cons_zero, List.set_cons_succ, Array.toArray_toList, List.getElem_toArray, List.getElem_cons_zero, List.getElem_cons_succ]
  refine wpAnyH_ready (rs := [2]) (by kernel_rfl) (by simp) ?_
  refine AllReadyH.cons rfl (fun K hK => ?_) AllReadyH.nil
  go_simp
  refine (nums_any x.zs x.a x.n x.c _ (HNM.out _ S0.out) HX.out.1 HN.out).mono ?_
  rintro e X1 ⟨v1, rfl, ho1, hb1⟩
  dsimp only
  have S1 := hid (S0.out.trans (hb1.mono S0.out.size))
  obtain ⟨a1, c1, rfl, hr1⟩ := own_at ho1
  have R0 := hid (show ∀ X, Below X1.heap.size X1 X → Bys X a1 (8 * x.n) c1 (nB x.zs) from fun X h => hr1.below h)
  clear hb1 hr1 ho1
  refine hK.out _ _ (S1.out) (fun hHeld => ?_)
  clear hK K
  try simp only [Act.put, List.setIfInBounds_toArray, List.set_cons_zero, List.set_cons_succ, Array.toArray_toList, List.getElem_toArray, List.getElem_cons_zero, List.getElem_cons_succ]
  refine wpAnyH_ready (rs := [5]) (by kernel_rfl) (by simp) ?_
  refine AllReadyH.cons rfl (fun K hK => ?_) AllReadyH.nil
  go_simp
  refine (encData_any x.f1 _ HX.out.2.1).mono ?_
  rintro e X2 ⟨v2, rfl, ho2, hb2⟩
  dsimp only
  have S2 := hid (S1.out.trans (hb2.mono S1.out.size))
  have K1 := hid hb2
  obtain ⟨a2, c2, rfl, hr2⟩ := own_at ho2
  have R1 := hid (show ∀ X, Below X2.heap.size X2 X → Bys X a2 128 c2 (ct7 (eData x.f1)) from fun X h => hr2.below h)
  clear hb2 hr2 ho2
  refine hK.out _ _ (S2.out) (fun hHeld => ?_)
  clear hK K
  try simp only [Act.put, List.setIfInBounds_toArray, List.set_cons_zero, List.set_cons_succ, Array.toArray_toList, List.getElem_toArray, List.getElem_cons_zero, List.getElem_cons_succ]
  have hbs : ∀ P : World, (bsP 3 #[(0, Value.slice a1 (8 * x.n) c1), (1, Value.slice a2 128 c2), (2, Value.slice (some ⟨y, 101, none⟩) 96 96)]).run Tryz.prog P = .ok (.slice (some ⟨P.heap.size, 0, none⟩) 3 3) (P.alloc (.cells (([(a1, 8 * x.n, c1, nB x.zs), (a2, 128, c2, ct7 (eData x.f1)), (some ⟨y, 101, none⟩, 96, 96, x.f2)] : List Pt).map ptv).toArray 34)) := fun P => bsP_3 P (a1, 8 * x.n, c1, nB x.zs) (a2, 128, c2, ct7 (eData x.f1)) (some ⟨y, 101, none⟩, 96, 96, x.f2)
  obtain ⟨CP, eCP⟩ : ∃ CP, (([(a1, 8 * x.n, c1, nB x.zs), (a2, 128, c2, ct7 (eData x.f1)), (some ⟨y, 101, none⟩, 96, 96, x.f2)] : List Pt).map ptv).toArray = CP := ⟨_, rfl⟩
  have HFM : Hid (∀ (P : World) gp gs, Below X2.heap.size X2 P → P.heap[gp]? = some (.cells CP 34) → P.heap[gs]? = some (.cells (vs .i64 3 zI) 3) → Calls Tryz.prog 20 #[.slice (some ⟨gp, 0, none⟩) 3 3, .slice (some ⟨gs, 0, none⟩) 3 3] P fun e w' => ∃ v, e = .returned (.tuple #[v, .int .i64 0]) ∧ w'.ownsRow P.heap.size 5 1 v (228 + 8 * x.n) (bl V (228 + 8 * x.n)) ∧ Below P.heap.size P w') := fun P gp gs hP h1 h2 => HFL.out P gp gs a1 c1 a2 c2 (by rw [eCP]; exact h1) h2 (R0.out P (K1.out.trans (hP.mono K1.out.size))) (R1.out P hP) (HB2.out P (S2.out.trans (hP.mono S2.out.size)))
  rw [eCP] at hbs
  have HBS := hid hbs
  clear hbs eCP
  refine wpAnyH_ready (rs := [8, 9]) (by kernel_rfl) (by simp) ?_
  refine AllReadyH.cons rfl (fun K hK => ?_) (AllReadyH.cons rfl (fun K hK => ?_) AllReadyH.nil)
  · have bs := HBS.out X2
    go_simp
    have hQ : Below X2.heap.size X2 (X2.alloc (.cells CP 34)) := (Below.refl _ _).alloc (Nat.le_refl _) _
    have HQ := hid hQ
    clear hQ
    refine hK.out _ _ (S2.out.trans (HQ.out.mono S2.out.size)) (fun hHeld => ?_)
    clear hK K bs
    try simp only [Act.put, List.setIfInBounds_toArray, List.set_cons_zero, List.set_cons_succ, Array.toArray_toList, List.getElem_toArray, List.getElem_cons_zero, List.getElem_cons_succ]
    refine wpAnyH_ready (rs := [9]) (by kernel_rfl) (by simp) ?_
    refine AllReadyH.cons rfl (fun K hK => ?_) AllReadyH.nil
    go_simp
    refine (asz_any _).mono ?_
    rintro e P ⟨rfl, hP⟩
    dsimp only
    have HP : Hid (Below X2.heap.size X2 P) := by rw [hP]; exact HQ.out.alloc (by simp) _
    have FL := hid (HFM.out P X2.heap.size (X2.heap.size + 1) HP.out (by rw [hP]; exact (heap_old (by simp)).trans (heap_new rfl)) (by rw [hP]; exact heap_new (by simp)))
    rw [show (X2.alloc (.cells CP 34)).heap.size = X2.heap.size + 1 by simp]
    clear hP
    refine hK.out _ _ (S2.out.trans (HP.out.mono S2.out.size)) (fun hHeld => ?_)
    clear hK K
    try simp only [Act.put, List.setIfInBounds_toArray, List.set_cons_zero, List.set_cons_succ, Array.toArray_toList, List.getElem_toArray, List.getElem_cons_zero, List.getElem_cons_succ]
    refine wpAnyH_ready (rs := [10]) (by kernel_rfl) (by simp) ?_
    refine AllReadyH.cons rfl (fun K hK => ?_) AllReadyH.nil
    go_simp
    refine (FL.out).mono ?_
    rintro e Y ⟨v, rfl, ho, hbY⟩
    dsimp only
    refine hK.out _ _ (S2.out.trans ((HP.out.mono S2.out.size).trans (hbY.mono (by have := S2.out.size; have := HP.out.size; omega)))) (fun hHeld => ?_)
    clear hK K
    try simp only [Act.put, List.setIfInBounds_toArray, List.set_cons_zero, List.set_cons_succ, Array.toArray_toList, List.getElem_toArray, List.getElem_cons_zero, List.getElem_cons_succ]
    refine wpAnyH_take (i := 11) (v := ?v7) rfl (by kernel_rfl) (by kernel_rfl) (by kernel_rfl) (fun _ _ _ h => h) (Or.inl ⟨by rfl, ?hy7⟩) hHeld ?rest7
    case hy7 =>
      intro w hSw
      go_simp
      try with_reducible rfl
    try simp only [Act.put, List.setIfInBounds_toArray, List.set_cons_zero, List.set_cons_succ, Array.toArray_toList, List.getElem_toArray, List.getElem_cons_zero, List.getElem_cons_succ]
    refine wpAnyH_take (i := 12) (v := ?v8) rfl (by kernel_rfl) (by kernel_rfl) (by kernel_rfl) (fun _ _ _ h => h) (Or.inl ⟨by rfl, ?hy8⟩) hHeld ?rest8
    case hy8 =>
      intro w hSw
      go_simp
      try with_reducible rfl
    try simp only [Act.put, List.setIfInBounds_toArray, List.set_cons_zero, List.set_cons_succ, Array.toArray_toList, List.getElem_toArray, List.getElem_cons_zero, List.getElem_cons_succ]
    refine wpAnyH_take (i := 13) (v := ?v9) rfl (by kernel_rfl) (by kernel_rfl) (by kernel_rfl) (fun _ _ _ h => h) (Or.inl ⟨by rfl, ?hy9⟩) hHeld ?rest9
    case hy9 =>
      intro w hSw
      go_simp
      try with_reducible rfl
    try simp only [Act.put, List.setIfInBounds_toArray, List.set_cons_zero, List.set_cons_succ, Array.toArray_toList, List.getElem_toArray, List.getElem_cons_zero, List.getElem_cons_succ]
    refine wpAnyH_take (i := 14) (v := ?v10) rfl (by kernel_rfl) (by kernel_rfl) (by kernel_rfl) (fun _ _ _ h => h) (Or.inl ⟨by rfl, ?hy10⟩) hHeld ?rest10
    case hy10 =>
      intro w hSw
      go_simp
      try with_reducible rfl
    try simp only [Act.put, List.setIfInBounds_toArray, List.set_cons_zero, List.set_cons_succ, Array.toArray_toList, List.getElem_toArray, List.getElem_cons_zero, List.getElem_cons_succ]
    refine wpAnyH_done (by kernel_rfl) ?_ _
    refine NoPanic.normal ?_
    go_wp2
    go_ret2
    have e0 := EY.out
    have e1 := HB0w.out.size
    have e2 := S2.out.size
    have e3 := HP.out.size
    exact ⟨v, rfl, (ho.mono (by omega) : _), HB0w.out.trans ((S2.out.mono (by omega)).trans ((HP.out.mono (by omega)).trans (hbY.mono (by omega))))⟩
  · go_simp
    refine (asz_any _).mono ?_
    rintro e Q ⟨rfl, hQ⟩
    dsimp only
    have HQ : Hid (Below X2.heap.size X2 Q) := by rw [hQ]; exact (Below.refl _ _).alloc (Nat.le_refl _) _
    have sQ : Q.heap.size = X2.heap.size + 1 := by rw [hQ]; simp
    have rQ : Q.heap[X2.heap.size]? = some (.cells (vs .i64 3 zI) 3) := by rw [hQ]; exact heap_new rfl
    have SQ := hid sQ
    have RQ := hid rQ
    clear hQ sQ rQ
    refine hK.out _ _ (S2.out.trans (HQ.out.mono S2.out.size)) (fun hHeld => ?_)
    clear hK K
    try simp only [Act.put, List.setIfInBounds_toArray, List.set_cons_zero, List.set_cons_succ, Array.toArray_toList, List.getElem_toArray, List.getElem_cons_zero, List.getElem_cons_succ]
    refine wpAnyH_ready (rs := [8]) (by kernel_rfl) (by simp) ?_
    refine AllReadyH.cons rfl (fun K hK => ?_) AllReadyH.nil
    have bs := HBS.out Q
    go_simp
    obtain ⟨P, hP⟩ : ∃ P, Q.alloc (.cells CP 34) = P := ⟨_, rfl⟩
    rw [hP]
    have HP : Hid (Below X2.heap.size X2 P) := by rw [← hP]; exact HQ.out.alloc (by have := SQ.out; omega) _
    have FL := hid (HFM.out P Q.heap.size X2.heap.size HP.out (by rw [← hP]; exact heap_new rfl) (by rw [← hP]; exact (heap_old (by have := SQ.out; omega)).trans RQ.out))
    clear hP bs
    refine hK.out _ _ (S2.out.trans (HP.out.mono S2.out.size)) (fun hHeld => ?_)
    clear hK K
    try simp only [Act.put, List.setIfInBounds_toArray, List.set_cons_zero, List.set_cons_succ, Array.toArray_toList, List.getElem_toArray, List.getElem_cons_zero, List.getElem_cons_succ]
    refine wpAnyH_ready (rs := [10]) (by kernel_rfl) (by simp) ?_
    refine AllReadyH.cons rfl (fun K hK => ?_) AllReadyH.nil
    go_simp
    refine (FL.out).mono ?_
    rintro e Y ⟨v, rfl, ho, hbY⟩
    dsimp only
    refine hK.out _ _ (S2.out.trans ((HP.out.mono S2.out.size).trans (hbY.mono (by have := S2.out.size; have := HP.out.size; omega)))) (fun hHeld => ?_)
    clear hK K
    try simp only [Act.put, List.setIfInBounds_toArray, List.set_cons_zero, List.set_cons_succ, Array.toArray_toList, List.getElem_toArray, List.getElem_cons_zero, List.getElem_cons_succ]
    refine wpAnyH_take (i := 11) (v := ?v11) rfl (by kernel_rfl) (by kernel_rfl) (by kernel_rfl) (fun _ _ _ h => h) (Or.inl ⟨by rfl, ?hy11⟩) hHeld ?rest11
    case hy11 =>
      intro w hSw
      go_simp
      try with_reducible rfl
    try simp only [Act.put, List.setIfInBounds_toArray, List.set_cons_zero, List.set_cons_succ, Array.toArray_toList, List.getElem_toArray, List.getElem_cons_zero, List.getElem_cons_succ]
    refine wpAnyH_take (i := 12) (v := ?v12) rfl (by kernel_rfl) (by kernel_rfl) (by kernel_rfl) (fun _ _ _ h => h) (Or.inl ⟨by rfl, ?hy12⟩) hHeld ?rest12
    case hy12 =>
      intro w hSw
      go_simp
      try with_reducible rfl
    try simp only [Act.put, List.setIfInBounds_toArray, List.set_cons_zero, List.set_cons_succ, Array.toArray_toList, List.getElem_toArray, List.getElem_cons_zero, List.getElem_cons_succ]
    refine wpAnyH_take (i := 13) (v := ?v13) rfl (by kernel_rfl) (by kernel_rfl) (by kernel_rfl) (fun _ _ _ h => h) (Or.inl ⟨by rfl, ?hy13⟩) hHeld ?rest13
    case hy13 =>
      intro w hSw
      go_simp
      try with_reducible rfl
    try simp only [Act.put, List.setIfInBounds_toArray, List.set_cons_zero, List.set_cons_succ, Array.toArray_toList, List.getElem_toArray, List.getElem_cons_zero, List.getElem_cons_succ]
    refine wpAnyH_take (i := 14) (v := ?v14) rfl (by kernel_rfl) (by kernel_rfl) (by kernel_rfl) (fun _ _ _ h => h) (Or.inl ⟨by rfl, ?hy14⟩) hHeld ?rest14
    case hy14 =>
      intro w hSw
      go_simp
      try with_reducible rfl
    try simp only [Act.put, List.setIfInBounds_toArray, List.set_cons_zero, List.set_cons_succ, Array.toArray_toList, List.getElem_toArray, List.getElem_cons_zero, List.getElem_cons_succ]
    refine wpAnyH_done (by kernel_rfl) ?_ _
    refine NoPanic.normal ?_
    go_wp2
    go_ret2
    have e0 := EY.out
    have e1 := HB0w.out.size
    have e2 := S2.out.size
    have e3 := HP.out.size
    exact ⟨v, rfl, (ho.mono (by omega) : _), HB0w.out.trans ((S2.out.mono (by omega)).trans ((HP.out.mono (by omega)).trans (hbY.mono (by omega))))⟩

end Go.Proofs.YtokbhcgooboocaaGreatDoor
