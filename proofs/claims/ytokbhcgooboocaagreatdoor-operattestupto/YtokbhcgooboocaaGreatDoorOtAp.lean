/-
  Attest: its values; what EncAttest answers.
-/
import Derived.Test.YtokbhcgooboocaaGreatDoorOpDp
import Derived.Test.YtokbhcgooboocaaGreatDoorBzBp
import Derived.Test.YtokbhcgooboocaaGreatDoorOpCp
namespace Go.Proofs.YtokbhcgooboocaaGreatDoor
open Go.RowKit
set_option linter.unusedVariables false
set_option linter.unusedSimpArgs false
set_option maxRecDepth 20000

/-- The bytes of a list of bits. -/
def lB (f : Nat → Bool) (n q : Nat) : Int := (Z.byt (Z.ext f n) (n + 1) q : Int)
theorem lB_bd (f : Nat → Bool) (n q : Nat) : 0 ≤ lB f n q ∧ lB f n q < 256 := by
  have := Z.byt_lt (Z.ext f n) (n + 1) q
  unfold lB
  omega
theorem blist8 (f : Nat → Bool) (a : Option Addr) (n c : Nat) (w : World) (h : Z.Bls w a n c f) (hn : n ≤ 64) :
    Calls Tryz.prog 21 #[.slice a n c] w fun e w' => ∃ a1 c1, e = .returned (.slice a1 (n / 8 + 1) c1) ∧ Bys w' a1 (n / 8 + 1) c1 (lB f n) ∧ Below w.heap.size w w' := (Z.list_any f a n c w h (by omega)).mono (by
  rintro e w' ⟨rfl, hr, hb, _⟩
  exact ⟨_, _, rfl, bys_new hr (by omega), hb⟩)
/-- An Attest: where its bits lie, how many, with what room, which; the rest. -/
structure VAttest where
  a : Option Addr
  n : Nat
  c : Nat
  zs : Nat → Bool
  f1 : VData
  f2 : Nat → Int
def sAttest (x : VAttest) : List Seg := [.sl x.a x.n x.c] ++ sData x.f1 ++ [.by 96 x.f2]
def OkAttest (x : VAttest) : Prop := OkData x.f1 ∧ (∀ j, j < 96 → 0 ≤ x.f2 j ∧ x.f2 j < 256)
def eAttest (x : VAttest) : List (Nat × (Nat → Int)) := [(4, oI), (128, ct7 (eData x.f1)), (96, x.f2), (x.n / 8 + 1, lB x.zs x.n)]

attribute [local go_sem ↓] bsP_eq bsI_eq lvData_eq

set_option maxRecDepth 20000 in
set_option maxHeartbeats 2000000 in
theorem encAttest_long (x : VAttest) (w : World) (hn : 64 < x.n) :
    Calls Tryz.prog 6 #[.agg (cel (sAttest x))] w fun e w' => e = .returned (.tuple #[.slice none 0 0, .int .i64 6]) ∧ Below w.heap.size w w' := by
  obtain ⟨W0, hW0⟩ : ∃ W, w.alloc (.cells (cel (sAttest x)) 33) = W := ⟨_, rfl⟩
  have hB0 : Below w.heap.size w W0 := by rw [← hW0]; exact (Below.refl _ _).alloc (Nat.le_refl _) _
  have r0 : W0.heap[w.heap.size]? = some (.cells (cel (sAttest x)) 33) := by rw [← hW0]; exact heap_new rfl
  have z0 : w.heap.size < W0.heap.size := by rw [← hW0]; simp
  obtain ⟨y, ey⟩ : ∃ y, w.heap.size = y := ⟨_, rfl⟩
  have hry : ∀ X, Below W0.heap.size W0 X → X.heap[y]? = some (.cells (cel (sAttest x)) 33) := fun X h => by rw [← ey]; exact (h.block _ z0).trans r0
  have HL0 : Hid (∀ X, Below W0.heap.size W0 X → X.cell? ⟨y, 0, none⟩ = some (.slice x.a x.n x.c)) := fun X h => seg_sl (hry X h) 0 x.a x.n x.c rfl 0 rfl
  have l0 := HL0.out _ (Below.refl _ _)
  have HB0w := hid hB0
  have n1 : (64 : Int) < (x.n : Int) := by omega
  obtain ⟨N, eN⟩ : ∃ N, x.n = N := ⟨_, rfl⟩
  rw [eN] at l0 n1
  clear hB0 r0 hry hn eN HL0
  go_enter Tryz.func6, Tryz.ntmps6
  go_upto_region 1 with fail
  clear hW0 ey z0
  go_wp2
  go_ret2
  exact ⟨rfl, HB0w.out⟩

set_option maxRecDepth 20000 in
set_option maxHeartbeats 2000000 in
theorem encAttest_ok (x : VAttest) (w : World) (hx : OkAttest x) (hn : x.n ≤ 64) (hw : Z.Bls w x.a x.n x.c x.zs) :
    Calls Tryz.prog 6 #[.agg (cel (sAttest x))] w fun e w' => ∃ v, e = .returned (.tuple #[v, .int .i64 0]) ∧ w'.ownsRow w.heap.size 5 1 v (228 + (x.n / 8 + 1)) (bl (ct7 (eAttest x)) (228 + (x.n / 8 + 1))) ∧ Below w.heap.size w w' := by
  have HX := hid hx
  obtain ⟨W0, hW0⟩ : ∃ W, w.alloc (.cells (cel (sAttest x)) 33) = W := ⟨_, rfl⟩
  have hB0 : Below w.heap.size w W0 := by rw [← hW0]; exact (Below.refl _ _).alloc (Nat.le_refl _) _
  have r0 : W0.heap[w.heap.size]? = some (.cells (cel (sAttest x)) 33) := by rw [← hW0]; exact heap_new rfl
  have z0 : w.heap.size < W0.heap.size := by rw [← hW0]; simp
  obtain ⟨y, ey⟩ : ∃ y, w.heap.size = y := ⟨_, rfl⟩
  have hry : ∀ X, Below W0.heap.size W0 X → X.heap[y]? = some (.cells (cel (sAttest x)) 33) := fun X h => by rw [← ey]; exact (h.block _ z0).trans r0
  have HL0 : Hid (∀ X, Below W0.heap.size W0 X → X.cell? ⟨y, 0, none⟩ = some (.slice x.a x.n x.c)) := fun X h => seg_sl (hry X h) 0 x.a x.n x.c rfl 0 rfl
  have HL1 : Hid (∀ X, Below W0.heap.size W0 X → (lvData ⟨y, 1, none⟩).run Tryz.prog X = .ok (.agg (cel (sData x.f1))) X) := fun X h => lvData_mid (hry X h) 1 rfl rfl
  have HB2 : Hid (∀ X, Below W0.heap.size W0 X → Bys X (some ⟨y, 101, none⟩) 96 96 x.f2) := fun X h => seg_bys (hry X h) 8 96 x.f2 rfl 101 rfl (by omega)
  have HNM : Hid (∀ X, Below W0.heap.size W0 X → Z.Bls X x.a x.n x.c x.zs) := fun X h => hw.below (hB0.trans (h.mono hB0.size))
  have hdr : Below W0.heap.size W0 W0.drew := (Below.refl _ _).drew
  have S0 := hid hdr
  have HB0w := hid hB0
  have EY := hid ey
  have l0 := HL0.out _ (Below.refl _ _)
  have n1 : ¬ (64 : Int) < (x.n : Int) := by omega
  have HN := hid hn
  obtain ⟨V, eV⟩ : ∃ V, ct7 (eAttest x) = V := ⟨_, rfl⟩
  have hFL : ∀ (P : World) gp gs a1 c1 a2 c2, P.heap[gp]? = some (.cells (([(a1, (x.n / 8 + 1), c1, lB x.zs x.n), (a2, 128, c2, ct7 (eData x.f1)), (some ⟨y, 101, none⟩, 96, 96, x.f2)] : List Pt).map ptv).toArray 34) → P.heap[gs]? = some (.cells (vs .i64 3 zI) 3) → Bys P a1 ((x.n / 8 + 1)) c1 (lB x.zs x.n) → Bys P a2 128 c2 (ct7 (eData x.f1)) → Bys P (some ⟨y, 101, none⟩) 96 96 x.f2 → Calls Tryz.prog 20 #[.slice (some ⟨gp, 0, none⟩) 3 3, .slice (some ⟨gs, 0, none⟩) 3 3] P fun e w' => ∃ v, e = .returned (.tuple #[v, .int .i64 0]) ∧ w'.ownsRow P.heap.size 5 1 v (228 + (x.n / 8 + 1)) (bl V (228 + (x.n / 8 + 1))) ∧ Below P.heap.size P w' := fun P gp gs a1 c1 a2 c2 h1 h2 h3 h4 h5 => by
    rw [← eV]
    exact olayI (a1, (x.n / 8 + 1), c1, lB x.zs x.n) (a2, 128, c2, ct7 (eData x.f1)) (some ⟨y, 101, none⟩, 96, 96, x.f2) gp gs P (by show x.n / 8 + 1 ≤ 512; omega) rfl rfl h1 h2 h3 h4 h5
  rw [eV]
  have HFL := hid hFL
  clear hdr hB0 r0 hry hx hw hFL eV hn
  go_enter Tryz.func6, Tryz.ntmps6
  go_upto_region 1 with fail
  clear hW0 ey z0
  go_upto_region 3 with fail
  clear l0 n1
  refine wp_region_noPanic ?_
  refine wp_region_held_drew (S := fun X => Below W0.heap.size W0 X) (by kernel_rfl) (S0.out) (fun hHeld => ?_)
  refine wpAnyH_take (i := 0) (v := ?v1) rfl (by kernel_rfl) (by kernel_rfl) (by kernel_rfl) (fun _ _ _ h => h) (Or.inl ⟨by rfl, ?hy1⟩) hHeld ?rest1
  case hy1 =>
    intro w hSw
    go_simp
    try with_reducible rfl
  try simp only [Act.put, List.setIfInBounds_toArray, List.set_cons_zero, List.set_cons_succ, Array.toArray_toList, List.getElem_toArray, List.getElem_cons_zero, List.getElem_cons_succ]
  refine wpAnyH_take (i := 1) (v := ?v2) rfl (by kernel_rfl) (by kernel_rfl) (by kernel_rfl) (fun _ _ _ h => h) (Or.inl ⟨by rfl, ?hy2⟩) hHeld ?rest2
  case hy2 =>
    intro w hSw
    have ld := HL0.out _ hSw
    go_simp
    try with_reducible rfl
  try simp only [Act.put, List.setIfInBounds_toArray, List.set_cons_zero, List.set_cons_succ, Array.toArray_toList, List.getElem_toArray, List.getElem_cons_zero, List.getElem_cons_succ]
  refine wpAnyH_take (i := 3) (v := ?v3) rfl (by kernel_rfl) (by kernel_rfl) (by kernel_rfl) (fun _ _ _ h => h) (Or.inl ⟨by rfl, ?hy3⟩) hHeld ?rest3
  case hy3 =>
    intro w hSw
    go_simp
    try with_reducible rfl
  try simp only [Act.put, List.setIfInBounds_toArray, List.set_cons_zero, List.set_cons_succ, Array.toArray_toList, List.getElem_toArray, List.getElem_cons_zero, List.getElem_cons_succ]
  refine wpAnyH_take (i := 4) (v := ?v4) rfl (by kernel_rfl) (by kernel_rfl) (by kernel_rfl) (fun _ _ _ h => h) (Or.inl ⟨by rfl, ?hy4⟩) hHeld ?rest4
  case hy4 =>
    intro w hSw
    have ld := HL1.out _ hSw
    go_simp
    try with_reducible rfl
  try simp only [Act.put, List.setIfInBounds_toArray, List.set_cons_zero, List.set_cons_succ, Array.toArray_toList, List.getElem_toArray, List.getElem_cons_zero, List.getElem_cons_succ]
  refine wpAnyH_take (i := 6) (v := ?v5) rfl (by kernel_rfl) (by kernel_rfl) (by kernel_rfl) (fun _ _ _ h => h) (Or.inl ⟨by rfl, ?hy5⟩) hHeld ?rest5
  case hy5 =>
    intro w hSw
    go_simp
    try with_reducible rfl
  try simp only [Act.put, List.setIfInBounds_toArray, List.set_cons_zero, List.set_cons_succ, Array.toArray_toList, List.getElem_toArray, List.getElem_cons_zero, List.getElem_cons_succ]
  refine wpAnyH_take (i := 7) (v := ?v6) rfl (by kernel_rfl) (by kernel_rfl) (by kernel_rfl) (fun _ _ _ h => h) (Or.inl ⟨by rfl, ?hy6⟩) hHeld ?rest6
  case hy6 =>
    intro w hSw
    go_simp
    try with_reducible rfl
  try simp only [Act.put, List.setIfInBounds_toArray, List.set_cons_zero, List.set_cons_succ, Array.toArray_toList, List.getElem_toArray, List.getElem_cons_zero, List.getElem_cons_succ]
  refine wpAnyH_ready (rs := [2]) (by kernel_rfl) (by simp) ?_
  refine AllReadyH.cons rfl (fun K hK => ?_) AllReadyH.nil
  go_simp
  refine (blist8 x.zs x.a x.n x.c _ (HNM.out _ S0.out) HN.out).mono ?_
  rintro e X1 ⟨a1, c1, rfl, hr1, hb1⟩
  dsimp only
  have S1 := hid (S0.out.trans (hb1.mono S0.out.size))
  have R0 := hid (show ∀ X, Below X1.heap.size X1 X → Bys X a1 ((x.n / 8 + 1)) c1 (lB x.zs x.n) from fun X h => hr1.below h)
  clear hb1 hr1
  refine hK.out _ _ (S1.out) (fun hHeld => ?_)
  clear hK K
  try simp only [Act.put, List.setIfInBounds_toArray, List.set_cons_zero, List.set_cons_succ, Array.toArray_toList, List.getElem_toArray, List.getElem_cons_zero, List.getElem_cons_succ]
  refine wpAnyH_ready (rs := [5]) (by kernel_rfl) (by simp) ?_
  refine AllReadyH.cons rfl (fun K hK => ?_) AllReadyH.nil
  go_simp
  refine (encData_any x.f1 _ HX.out.1).mono ?_
  rintro e X2 ⟨v2, rfl, ho2, hb2⟩
  dsimp only
  have S2 := hid (S1.out.trans (hb2.mono S1.out.size))
  have K1 := hid hb2
  obtain ⟨a2, c2, rfl, hr2⟩ := own_at ho2
  have R1 := hid (show ∀ X, Below X2.heap.size X2 X → Bys X a2 128 c2 (ct7 (eData x.f1)) from fun X h => hr2.below h)
  clear hb2 hr2 ho2
  refine hK.out _ _ (S2.out) (fun hHeld => ?_)
  clear hK K
  try simp only [Act.put, List.setIfInBounds_toArray, List.set_cons_zero, List.set_cons_succ, Array.toArray_toList, List.getElem_toArray, List.getElem_cons_zero, List.getElem_cons_succ]
  have hbs : ∀ P : World, (bsP 3 #[(0, Value.slice a1 ((x.n / 8 + 1)) c1), (1, Value.slice a2 128 c2), (2, Value.slice (some ⟨y, 101, none⟩) 96 96)]).run Tryz.prog P = .ok (.slice (some ⟨P.heap.size, 0, none⟩) 3 3) (P.alloc (.cells (([(a1, (x.n / 8 + 1), c1, lB x.zs x.n), (a2, 128, c2, ct7 (eData x.f1)), (some ⟨y, 101, none⟩, 96, 96, x.f2)] : List Pt).map ptv).toArray 34)) := fun P => bsP_3 P (a1, (x.n / 8 + 1), c1, lB x.zs x.n) (a2, 128, c2, ct7 (eData x.f1)) (some ⟨y, 101, none⟩, 96, 96, x.f2)
  obtain ⟨CP, eCP⟩ : ∃ CP, (([(a1, (x.n / 8 + 1), c1, lB x.zs x.n), (a2, 128, c2, ct7 (eData x.f1)), (some ⟨y, 101, none⟩, 96, 96, x.f2)] : List Pt).map ptv).toArray = CP := ⟨_, rfl⟩
  have HFM : Hid (∀ (P : World) gp gs, Below X2.heap.size X2 P → P.heap[gp]? = some (.cells CP 34) → P.heap[gs]? = some (.cells (vs .i64 3 zI) 3) → Calls Tryz.prog 20 #[.slice (some ⟨gp, 0, none⟩) 3 3, .slice (some ⟨gs, 0, none⟩) 3 3] P fun e w' => ∃ v, e = .returned (.tuple #[v, .int .i64 0]) ∧ w'.ownsRow P.heap.size 5 1 v (228 + (x.n / 8 + 1)) (bl V (228 + (x.n / 8 + 1))) ∧ Below P.heap.size P w') := fun P gp gs hP h1 h2 => HFL.out P gp gs a1 c1 a2 c2 (by rw [eCP]; exact h1) h2 (R0.out P (K1.out.trans (hP.mono K1.out.size))) (R1.out P hP) (HB2.out P (S2.out.trans (hP.mono S2.out.size)))
  rw [eCP] at hbs
  have HBS := hid hbs
  clear hbs eCP
  refine wpAnyH_ready (rs := [8, 9]) (by kernel_rfl) (by simp) ?_
  refine AllReadyH.cons rfl (fun K hK => ?_) (AllReadyH.cons rfl (fun K hK => ?_) AllReadyH.nil)
  · have bs := HBS.out X2
    go_simp
    have hQ : Below X2.heap.size X2 (X2.alloc (.cells CP 34)) := (Below.refl _ _).alloc (Nat.le_refl _) _
    have HQ := hid hQ
    clear hQ
    refine hK.out _ _ (S2.out.trans (HQ.out.mono S2.out.size)) (fun hHeld => ?_)
    clear hK K bs
    try simp only [Act.put, List.setIfInBounds_toArray, List.set_cons_zero, List.set_cons_succ, Array.toArray_toList, List.getElem_toArray, List.getElem_cons_zero, List.getElem_cons_succ]
    refine wpAnyH_ready (rs := [9]) (by kernel_rfl) (by simp) ?_
    refine AllReadyH.cons rfl (fun K hK => ?_) AllReadyH.nil
    go_simp
    refine (asz_any _).mono ?_
    rintro e P ⟨rfl, hP⟩
    dsimp only
    have HP : Hid (Below X2.heap.size X2 P) := by rw [hP]; exact HQ.out.alloc (by simp) _
    have FL := hid (HFM.out P X2.heap.size (X2.heap.size + 1) HP.out (by rw [hP]; exact (heap_old (by simp)).trans (heap_new rfl)) (by rw [hP]; exact heap_new (by simp)))
    rw [show (X2.alloc (.cells CP 34)).heap.size = X2.heap.size + 1 by simp]
    clear hP
    refine hK.out _ _ (S2.out.trans (HP.out.mono S2.out.size)) (fun hHeld => ?_)
    clear hK K
    try simp only [Act.put, List.setIfInBounds_toArray, List.set_cons_zero, List.set_cons_succ, Array.toArray_toList, List.getElem_toArray, List.getElem_cons_zero, List.getElem_cons_succ]
    refine wpAnyH_ready (rs := [10]) (by kernel_rfl) (by simp) ?_
    refine AllReadyH.cons rfl (fun K hK => ?_) AllReadyH.nil
    go_simp
    refine (FL.out).mono ?_
    rintro e Y ⟨v, rfl, ho, hbY⟩
    dsimp only
    refine hK.out _ _ (S2.out.trans ((HP.out.mono S2.out.size).trans (hbY.mono (by have := S2.out.size; have := HP.out.size; omega)))) (fun hHeld => ?_)
    clear hK K
    try simp only [Act.put, List.setIfInBounds_toArray, List.set_cons_zero, List.set_cons_succ, Array.toArray_toList, List.getElem_toArray, List.getElem_cons_zero, List.getElem_cons_succ]
    refine wpAnyH_take (i := 11) (v := ?v7) rfl (by kernel_rfl) (by kernel_rfl) (by kernel_rfl) (fun _ _ _ h => h) (Or.inl ⟨by rfl, ?hy7⟩) hHeld ?rest7
    case hy7 =>
      intro w hSw
      go_simp
      try with_reducible rfl
    try simp only [Act.put, List.setIfInBounds_toArray, List.set_cons_zero, List.set_cons_succ, Array.toArray_toList, List.getElem_toArray, List.getElem_cons_zero, List.getElem_cons_succ]
    refine wpAnyH_take (i := 12) (v := ?v8) rfl (by kernel_rfl) (by kernel_rfl) (by kernel_rfl) (fun _ _ _ h => h) (Or.inl ⟨by rfl, ?hy8⟩) hHeld ?rest8
    case hy8 =>
      intro w hSw
      go_simp
      try with_reducible rfl
    try simp only [Act.put, List.setIfInBounds_toArray, List.set_cons_zero, List.set_cons_succ, Array.toArray_toList, List.getElem_toArray, List.getElem_cons_zero, List.getElem_cons_succ]
    refine wpAnyH_take (i := 13) (v := ?v9) rfl (by kernel_rfl) (by kernel_rfl) (by kernel_rfl) (fun _ _ _ h => h) (Or.inl ⟨by rfl, ?hy9⟩) hHeld ?rest9
    case hy9 =>
      intro w hSw
      go_simp
      try with_reducible rfl
    try simp only [Act.put, List.setIfInBounds_toArray, List.set_cons_zero, List.set_cons_succ, Array.toArray_toList, List.getElem_toArray, List.getElem_cons_zero, List.getElem_cons_succ]
    refine wpAnyH_take (i := 14) (v := ?v10) rfl (by kernel_rfl) (by kernel_rfl) (by kernel_rfl) (fun _ _ _ h => h) (Or.inl ⟨by rfl, ?hy10⟩) hHeld ?rest10
    case hy10 =>
      intro w hSw
      go_simp
      try with_reducible rfl
    try simp only [Act.put, List.setIfInBounds_toArray, List.set_cons_zero, List.set_cons_succ, Array.toArray_toList, List.getElem_toArray, List.getElem_cons_zero, List.getElem_cons_succ]
    refine wpAnyH_done (by kernel_rfl) ?_ _
    refine NoPanic.normal ?_
    go_wp2
    go_ret2
    have e0 := EY.out
    have e1 := HB0w.out.size
    have e2 := S2.out.size
    have e3 := HP.out.size
    exact ⟨v, rfl, (ho.mono (by omega) : _), HB0w.out.trans ((S2.out.mono (by omega)).trans ((HP.out.mono (by omega)).trans (hbY.mono (by omega))))⟩
  · go_simp
    refine (asz_any _).mono ?_
    rintro e Q ⟨rfl, hQ⟩
    dsimp only
    have HQ : Hid (Below X2.heap.size X2 Q) := by rw [hQ]; exact (Below.refl _ _).alloc (Nat.le_refl _) _
    have sQ : Q.heap.size = X2.heap.size + 1 := by rw [hQ]; simp
    have rQ : Q.heap[X2.heap.size]? = some (.cells (vs .i64 3 zI) 3) := by rw [hQ]; exact heap_new rfl
    have SQ := hid sQ
    have RQ := hid rQ
    clear hQ sQ rQ
    refine hK.out _ _ (S2.out.trans (HQ.out.mono S2.out.size)) (fun hHeld => ?_)
    clear hK K
    try simp only [Act.put, List.setIfInBounds_toArray, List.set_cons_zero, List.set_cons_succ, Array.toArray_toList, List.getElem_toArray, List.getElem_cons_zero, List.getElem_cons_succ]
    refine wpAnyH_ready (rs := [8]) (by kernel_rfl) (by simp) ?_
    refine AllReadyH.cons rfl (fun K hK => ?_) AllReadyH.nil
    have bs := HBS.out Q
    go_simp
    obtain ⟨P, hP⟩ : ∃ P, Q.alloc (.cells CP 34) = P := ⟨_, rfl⟩
    rw [hP]
    have HP : Hid (Below X2.heap.size X2 P) := by rw [← hP]; exact HQ.out.alloc (by have := SQ.out; omega) _
    have FL := hid (HFM.out P Q.heap.size X2.heap.size HP.out (by rw [← hP]; exact heap_new rfl) (by rw [← hP]; exact (heap_old (by have := SQ.out; omega)).trans RQ.out))
    clear hP bs
    refine hK.out _ _ (S2.out.trans (HP.out.mono S2.out.size)) (fun hHeld => ?_)
    clear hK K
    try simp only [Act.put, List.setIfInBounds_toArray, List.set_cons_zero, List.set_cons_succ, Array.toArray_toList, List.getElem_toArray, List.getElem_cons_zero, List.getElem_cons_succ]
    refine wpAnyH_ready (rs := [10]) (by kernel_rfl) (by simp) ?_
    refine AllReadyH.cons rfl (fun K hK => ?_) AllReadyH.nil
    go_simp
    refine (FL.out).mono ?_
    rintro e Y ⟨v, rfl, ho, hbY⟩
    dsimp only
    refine hK.out _ _ (S2.out.trans ((HP.out.mono S2.out.size).trans (hbY.mono (by have := S2.out.size; have := HP.out.size; omega)))) (fun hHeld => ?_)
    clear hK K
    try simp only [Act.put, List.setIfInBounds_toArray, List.set_cons_zero, List.set_cons_succ, Array.toArray_toList, List.getElem_toArray, List.getElem_cons_zero, List.getElem_cons_succ]
    refine wpAnyH_take (i := 11) (v := ?v11) rfl (by kernel_rfl) (by kernel_rfl) (by kernel_rfl) (fun _ _ _ h => h) (Or.inl ⟨by rfl, ?hy11⟩) hHeld ?rest11
    case hy11 =>
      intro w hSw
      go_simp
      try with_reducible rfl
    try simp only [Act.put, List.setIfInBounds_toArray, List.set_cons_zero, List.set_cons_succ, Array.toArray_toList, List.getElem_toArray, List.getElem_cons_zero, List.getElem_cons_succ]
    refine wpAnyH_take (i := 12) (v := ?v12) rfl (by kernel_rfl) (by kernel_rfl) (by kernel_rfl) (fun _ _ _ h => h) (Or.inl ⟨by rfl, ?hy12⟩) hHeld ?rest12
    case hy12 =>
      intro w hSw
      go_simp
      try with_reducible rfl
    try simp only [Act.put, List.setIfInBounds_toArray, List.set_cons_zero, List.set_cons_succ, Array.toArray_toList, List.getElem_toArray, List.getElem_cons_zero, List.getElem_cons_succ]
    refine wpAnyH_take (i := 13) (v := ?v13) rfl (by kernel_rfl) (by kernel_rfl) (by kernel_rfl) (fun _ _ _ h => h) (Or.inl ⟨by rfl, ?hy13⟩) hHeld ?rest13
    case hy13 =>
      intro w hSw
      go_simp
      try with_reducible rfl
    try simp only [Act.put, List.setIfInBounds_toArray, List.set_cons_zero, List.set_cons_succ, Array.toArray_toList, List.getElem_toArray, List.getElem_cons_zero, List.getElem_cons_succ]
    refine wpAnyH_take (i := 14) (v := ?v14) rfl (by kernel_rfl) (by kernel_rfl) (by kernel_rfl) (fun _ _ _ h => h) (Or.inl ⟨by rfl, ?hy14⟩) hHeld ?rest14
    case hy14 =>
      intro w hSw
      go_simp
      try with_reducible rfl
    try simp only [Act.put, List.setIfInBounds_toArray, List.set_cons_zero, List.set_cons_succ, Array.toArray_toList, List.getElem_toArray, List.getElem_cons_zero, List.getElem_cons_succ]
    refine wpAnyH_done (by kernel_rfl) ?_ _
    refine NoPanic.normal ?_
    go_wp2
    go_ret2
    have e0 := EY.out
    have e1 := HB0w.out.size
    have e2 := S2.out.size
    have e3 := HP.out.size
    exact ⟨v, rfl, (ho.mono (by omega) : _), HB0w.out.trans ((S2.out.mono (by omega)).trans ((HP.out.mono (by omega)).trans (hbY.mono (by omega))))⟩

/-- The value of nothing but zeros. -/
def oAttest : VAttest := ⟨none, 0, 0, fun _ => false, oData, fun _ => 0⟩
def svAttest (a : Addr) (v : Value) : Sem Unit := storeVar 33 a v
theorem svAttest_eq (a : Addr) (v : Value) : storeVar 33 a v = svAttest a v := rfl
def bdAttest (ps : Array (Nat × Value)) : Sem Value := Instr.build 33 ps
theorem bdAttest_eq (ps : Array (Nat × Value)) : Instr.build 33 ps = bdAttest ps := rfl
theorem bdAttest_0 (W : World) : (bdAttest #[]).run Tryz.prog W = .ok (.agg (cel (sAttest oAttest))) W := by kernel_rfl
theorem zeroAttest (W : World) : (zeroValue 33).run Tryz.prog W = .ok (.agg (cel (sAttest oAttest))) W := by kernel_rfl
theorem slAttest (x : VAttest) : slen (sAttest x) = 197 := rfl
theorem svAttest_run {w : World} {b : Nat} {o : VAttest} {t : TypeId} (h : w.heap[b]? = some (.cells (cel (sAttest o)) t)) (c : VAttest) : (svAttest ⟨b, 0, none⟩ (.agg (cel (sAttest c)))).run Tryz.prog w = .ok () (w.setRow b (cel (sAttest c))) :=
  run_storeVar_row w b t 33 _ _ h (by rw [cel_size, slAttest]; kernel_rfl) (by rw [cel_size, cel_size, slAttest, slAttest]) (cel_one _)
theorem svAttest_newv (W : World) (o c : VAttest) : (svAttest ⟨W.heap.size, 0, none⟩ (.agg (cel (sAttest c)))).run Tryz.prog (W.alloc (.cells (cel (sAttest o)) 33)) = .ok () (W.alloc (.cells (cel (sAttest c)) 33)) :=
  run_storeVar_new W 33 _ _ (by rw [cel_size, slAttest]; kernel_rfl) (by rw [cel_size, cel_size, slAttest, slAttest]) (cel_one _)
theorem retAttest {fn : Func} {R : Ending → World → Prop} {a : Act} {w' : World} (t s : Tmp) (b : Nat) (c : VAttest) (ty : TypeId) (v : Value) (h : fn.results = #[.cell t 33, .tmp s]) (hd : a.defers = []) (ht : a.tmps.getD t undef = .pointer (some ⟨b, 0, none⟩)) (hs : a.tmps.getD s undef = v) (hr : w'.heap[b]? = some (.cells (cel (sAttest c)) ty))
    (hR : R (.returned (.tuple #[.agg (cel (sAttest c)), v])) w') : bodyPost Tryz.prog fn R .ret a w' := by
  refine bodyPost_ret ?_ hd hR
  have hl := loadAt_var (load_row (P := Tryz.prog) hr 33 _ Tryz.underlying33 rfl (by rw [cel_size, slAttest]; kernel_rfl))
  rw [Array.getD_eq_getD_getElem?] at ht hs
  simp [results, h, ht, hs, hl, asAddr]
theorem bdAttest_1 (W : World) (a : Option Addr) (n c : Nat) (zs : Nat → Bool) : (bdAttest #[(0, .slice a n c)]).run Tryz.prog W = .ok (.agg (cel (sAttest ⟨a, n, c, zs, oData, fun _ => 0⟩))) W := by kernel_rfl
def lvAttest (a : Addr) : Sem Value := loadVar 33 a
theorem lvAttest_eq (a : Addr) : loadVar 33 a = lvAttest a := rfl
theorem lvAttest_mid {w : World} {g : Nat} {C : Array Value} {t : TypeId} {x : VAttest} (h : w.heap[g]? = some (.cells C t)) (o : Nat) (hl : (C.toList.drop o).take (celL (sAttest x)).length = celL (sAttest x)) (hs : slen (sAttest x) = 197) : (lvAttest ⟨g, o, none⟩).run Tryz.prog w = .ok (.agg (cel (sAttest x))) w :=
  loadAt_var (run_loadAt_mid w g o 33 _ _ (sub_range h hl) Tryz.underlying33 rfl (by rw [celL_len, hs]; kernel_rfl))

end Go.Proofs.YtokbhcgooboocaaGreatDoor
