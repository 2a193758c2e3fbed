/-
  What RootAttest answers.
-/
import Derived.Test.YtokbhcgooboocaaGreatDoorOtAp
import Derived.Test.YtokbhcgooboocaaGreatDoorOiAp
namespace Go.Proofs.YtokbhcgooboocaaGreatDoor
open Go.RowKit
set_option linter.unusedVariables false
set_option linter.unusedSimpArgs false
set_option maxRecDepth 20000

/-- The bytes of a vector of bits. -/
def vB (f : Nat → Bool) (n q : Nat) : Int := (Z.byt f n q : Int)
theorem vB_bd (f : Nat → Bool) (n q : Nat) : 0 ≤ vB f n q ∧ vB f n q < 256 := by
  have := Z.byt_lt f n q
  unfold vB
  omega
theorem bys_row0 {w : World} {g n : Nat} {f : Nat → Int} {t : TypeId} (h : w.heap[g]? = some (.cells (vs .u8 n f) t)) (hn : n ≤ 9223372036854775807) : Bys w (some ⟨g, 0, none⟩) n n f :=
  .inr (.inr ⟨g, 0, rfl, Nat.le_refl _, hn, (Array.getElem?_eq_some_iff.1 h).1, fun j hj => by rw [Nat.zero_add]; exact row_int h j hj⟩)
theorem bvec64 (f : Nat → Bool) (a : Option Addr) (n c : Nat) (w : World) (h : Z.Bls w a n c f) (hn : n ≤ 64) :
    Calls Tryz.prog 25 #[.slice a n c] w fun e w' => ∃ a1 c1, e = .returned (.slice a1 ((n + 7) / 8) c1) ∧ Bys w' a1 ((n + 7) / 8) c1 (vB f n) ∧ Below w.heap.size w w' := (Z.vector_any f a n c w h (by omega)).mono (by
  rintro e w' ⟨rfl, hr, hb, _⟩
  exact ⟨_, _, rfl, bys_row0 hr (by omega), hb⟩)
/-- The root of a value. -/
def hAttest (x : VAttest) : Nat → Int := treeV (fl7 [lR (vB x.zs x.n) ((x.n + 7) / 8) 1 x.n, hData x.f1, bR x.f2 96]) 3 (3 : Nat)

attribute [local go_sem ↓] sv24_eq lv24_eq ix22_eq slr_eq bd27_eq bs22_eq lvData_eq

set_option maxHeartbeats 2000000 in
theorem rootAttest_long (x : VAttest) (w : World) (hn : 64 < x.n) :
    Calls Tryz.prog 7 #[.agg (cel (sAttest x))] w fun e w' => e = .returned (.tuple #[.agg (vs .u8 32 fun _ => 0), .int .i64 6]) ∧ Below w.heap.size w w' := by
  have z := zero_root
  obtain ⟨W1, hW1⟩ : ∃ W, w.alloc (.cells (cel (sAttest x)) 33) = W := ⟨_, rfl⟩
  obtain ⟨W0, hW0⟩ : ∃ W, W1.alloc (.cells (vs .u8 32 fun _ => 0) 25) = W := ⟨_, rfl⟩
  have hB1 : Below w.heap.size w W1 := by rw [← hW1]; exact (Below.refl _ _).alloc (Nat.le_refl _) _
  have z1 : W1.heap.size = w.heap.size + 1 := by rw [← hW1]; simp
  have z0 : W0.heap.size = w.heap.size + 2 := by rw [← hW0]; simp [z1]
  have hB0 : Below w.heap.size w W0 := by rw [← hW0]; exact hB1.alloc (by omega) _
  have r1 : W1.heap[w.heap.size]? = some (.cells (cel (sAttest x)) 33) := by rw [← hW1]; exact heap_new rfl
  have r0 : W0.heap[w.heap.size]? = some (.cells (cel (sAttest x)) 33) := by rw [← hW0]; exact (heap_old (by omega)).trans r1
  have rr : W0.heap[w.heap.size + 1]? = some (.cells (vs .u8 32 fun _ => 0) 25) := by rw [← hW0]; exact heap_new (by omega)
  obtain ⟨y, ey⟩ : ∃ y, w.heap.size = y := ⟨_, rfl⟩
  have hy1 : y + 1 ≤ W0.heap.size := by omega
  have hry : ∀ X, Below (y + 1) W0 X → X.heap[y]? = some (.cells (cel (sAttest x)) 33) := fun X h => by rw [← ey]; exact (h.block _ (by omega)).trans r0
  have hrr : ∀ X, Below W0.heap.size W0 X → X.heap[y + 1]? = some (.cells (vs .u8 32 fun _ => 0) 25) := fun X h => by rw [← ey]; exact (h.block _ (by omega)).trans rr
  have l0 : W0.cell? ⟨y, 0, none⟩ = some (.slice x.a x.n x.c) := seg_sl (hry W0 (Below.refl _ _)) 0 x.a x.n x.c rfl 0 rfl
  have n1 : (64 : Int) < (x.n : Int) := by omega
  obtain ⟨N, eN⟩ : ∃ N, x.n = N := ⟨_, rfl⟩
  rw [eN] at l0 n1
  have rr0 := hrr W0 (Below.refl _ _)
  have sv := sv24_run rr0 (fun _ => 0)
  have bb := bd27_0
  have RR := hid rr0
  have HB0 := hid hB0
  have EY := hid ey
  clear hrr hry r1 r0 rr hB0 hB1 hn eN rr0 hy1 z0
  go_enter Tryz.func7, Tryz.ntmps7
  go_upto_region 1 with fail
  clear hW1 hW0 z1 ey z
  go_wp2
  refine ret24s _ _ (y + 1) _ 25 _ rfl rfl rfl rfl (setRow_at RR.out) ⟨rfl, ?_⟩
  have e0 := EY.out
  exact below_row HB0.out (by omega) _

set_option maxRecDepth 20000 in
set_option maxHeartbeats 2000000 in
theorem rootAttest_ok (x : VAttest) (w : World) (hx : OkAttest x) (hn : x.n ≤ 64) (hw : Z.Bls w x.a x.n x.c x.zs) (hS : Sh w) :
    Calls Tryz.prog 7 #[.agg (cel (sAttest x))] w fun e w' => e = .returned (.tuple #[.agg (vs .u8 32 (hAttest x)), .int .i64 0]) ∧ Below w.heap.size w w' := by
  have z := zero_root
  obtain ⟨W1, hW1⟩ : ∃ W, w.alloc (.cells (cel (sAttest x)) 33) = W := ⟨_, rfl⟩
  obtain ⟨W0, hW0⟩ : ∃ W, W1.alloc (.cells (vs .u8 32 fun _ => 0) 25) = W := ⟨_, rfl⟩
  have hB1 : Below w.heap.size w W1 := by rw [← hW1]; exact (Below.refl _ _).alloc (Nat.le_refl _) _
  have z1 : W1.heap.size = w.heap.size + 1 := by rw [← hW1]; simp
  have z0 : W0.heap.size = w.heap.size + 2 := by rw [← hW0]; simp [z1]
  have hB0 : Below w.heap.size w W0 := by rw [← hW0]; exact hB1.alloc (by omega) _
  have r1 : W1.heap[w.heap.size]? = some (.cells (cel (sAttest x)) 33) := by rw [← hW1]; exact heap_new rfl
  have r0 : W0.heap[w.heap.size]? = some (.cells (cel (sAttest x)) 33) := by rw [← hW0]; exact (heap_old (by omega)).trans r1
  have rr : W0.heap[w.heap.size + 1]? = some (.cells (vs .u8 32 fun _ => 0) 25) := by rw [← hW0]; exact heap_new (by omega)
  obtain ⟨y, ey⟩ : ∃ y, w.heap.size = y := ⟨_, rfl⟩
  have hy1 : y + 1 ≤ W0.heap.size := by omega
  have hry : ∀ X, Below (y + 1) W0 X → X.heap[y]? = some (.cells (cel (sAttest x)) 33) := fun X h => by rw [← ey]; exact (h.block _ (by omega)).trans r0
  have hrr : ∀ X, Below W0.heap.size W0 X → X.heap[y + 1]? = some (.cells (vs .u8 32 fun _ => 0) 25) := fun X h => by rw [← ey]; exact (h.block _ (by omega)).trans rr
  have hSh : ∀ X, Below W0.heap.size W0 X → Sh X := fun X h => (hS.below hB0).below h
  have HL0 : Hid (∀ X, Below (y + 1) W0 X → X.cell? ⟨y, 0, none⟩ = some (.slice x.a x.n x.c)) := fun X h => seg_sl (hry X h) 0 x.a x.n x.c rfl 0 rfl
  have HNM : Hid (∀ X, Below W0.heap.size W0 X → Calls Tryz.prog 25 #[.slice x.a x.n x.c] X fun e w' => ∃ a1 c1, e = .returned (.slice a1 ((x.n + 7) / 8) c1) ∧ Bys w' a1 ((x.n + 7) / 8) c1 (vB x.zs x.n) ∧ Below X.heap.size X w') := fun X h => bvec64 x.zs x.a x.n x.c X (hw.below (hB0.trans (h.mono hB0.size))) hn
  have hc0 : ∀ X a c, Below W0.heap.size W0 X → Bys X a ((x.n + 7) / 8) c (vB x.zs x.n) → Calls Tryz.prog 24 #[.slice a ((x.n + 7) / 8) c, .int .i64 1, .int .i64 x.n] X fun e w' => e = .returned (.agg (vs .u8 32 (lR (vB x.zs x.n) ((x.n + 7) / 8) 1 x.n))) ∧ Below X.heap.size X w' := fun X a c h hb => lroot_any a ((x.n + 7) / 8) c (vB x.zs x.n) 1 x.n X hb (by omega) (fun j _ => vB_bd _ _ j) (by omega) (by omega) (hSh X h)
  have hd0 : ∀ j, j < 32 → 0 ≤ (lR (vB x.zs x.n) ((x.n + 7) / 8) 1 x.n) j ∧ (lR (vB x.zs x.n) ((x.n + 7) / 8) 1 x.n) j < 256 := fun j hj => lR_bd _ _ (fun j _ => vB_bd _ _ j) j hj
  have hc1 : ∀ X, Below W0.heap.size W0 X → Calls Tryz.prog 27 #[.agg (cel (sData x.f1))] X fun e w' => e = .returned (.agg (vs .u8 32 (hData x.f1))) ∧ Below X.heap.size X w' := fun X h => rootData_any x.f1 X hx.1 (hSh X h)
  have hd1 : ∀ j, j < 32 → 0 ≤ (hData x.f1) j ∧ (hData x.f1) j < 256 := fun j hj => hData_bd hx.1 j hj
  have HL1 : Hid (∀ X, Below (y + 1) W0 X → (lvData ⟨y, 1, none⟩).run Tryz.prog X = .ok (.agg (cel (sData x.f1))) X) := fun X h => lvData_mid (hry X h) 1 rfl rfl
  have hc2 : ∀ X, Below W0.heap.size W0 X → Calls Tryz.prog 28 #[.slice (some ⟨y, 101, none⟩) 96 96] X fun e w' => e = .returned (.agg (vs .u8 32 (bR x.f2 96))) ∧ Below X.heap.size X w' := fun X h => obroot_any _ 96 96 x.f2 X (seg_bys (hry X (h.mono hy1)) 8 96 x.f2 rfl 101 rfl (by omega)) (by omega) hx.2 (hSh X h)
  have hd2 : ∀ j, j < 32 → 0 ≤ (bR x.f2 96) j ∧ (bR x.f2 96) j < 256 := fun j hj => treeV_bd (pk_bd hx.2 _) _ j hj
  have eh : hAttest x = treeV (fl7 [lR (vB x.zs x.n) ((x.n + 7) / 8) 1 x.n, hData x.f1, bR x.f2 96]) 3 (3 : Nat) := rfl
  obtain ⟨C0, eC0⟩ : ∃ C, lR (vB x.zs x.n) ((x.n + 7) / 8) 1 x.n = C := ⟨_, rfl⟩
  rw [eC0] at hc0 hd0 eh
  obtain ⟨C1, eC1⟩ : ∃ C, hData x.f1 = C := ⟨_, rfl⟩
  rw [eC1] at hc1 hd1 eh
  obtain ⟨C2, eC2⟩ : ∃ C, bR x.f2 96 = C := ⟨_, rfl⟩
  rw [eC2] at hc2 hd2 eh
  have hro : ∀ X g, Below W0.heap.size W0 X → X.heap[g]? = some (.cells (vs .u8 96 (fl7 [C0, C1, C2])) 25) → Calls Tryz.prog 26 #[.slice (some ⟨g, 0, none⟩) 3 3] X fun e w' => e = .returned (.agg (vs .u8 32 (hAttest x))) ∧ Below X.heap.size X w' := fun X g h h2 => by
    rw [eh]
    exact orootof_any (some ⟨g, 0, none⟩) 3 3 (fl7 [C0, C1, C2]) X (rts_row (n := 3) h2) (by omega) (fl7_bd (fun c hc => by
      simp only [List.mem_cons, List.not_mem_nil, or_false] at hc
      rcases hc with rfl | rfl | rfl
      · exact hd0
      · exact hd1
      · exact hd2
      ) _) (hSh X h)
  obtain ⟨D, eD⟩ : ∃ D, hAttest x = D := ⟨_, rfl⟩
  rw [eD] at hro ⊢
  have HC0 := hid hc0
  have HC1 := hid hc1
  have HC2 := hid hc2
  have HRO := hid hro
  have HRR := hid hrr
  have hdr : Below W0.heap.size W0 W0.drew := (Below.refl _ _).drew
  have S0 := hid hdr
  have HB0w := hid hB0
  have EY := hid ey
  have Z0 := hid z0
  have HY1 := hid hy1
  obtain ⟨n, en⟩ : ∃ n, x.n = n := ⟨_, rfl⟩
  have n1 : ¬ (64 : Int) < (n : Int) := by omega
  rw [en] at HL0 HNM HC0
  clear hy1 hdr hB0 r0 r1 rr hry hrr hx hro hSh hS hB1 hc0 hd0 eC0 hc1 hd1 eC1 hc2 hd2 eC2 eh eD hw hn en
  go_enter Tryz.func7, Tryz.ntmps7
  go_upto_region 1 with fail
  clear hW0 hW1 ey z0 z1
  have ld := HL0.out _ (Below.refl _ _)
  go_upto_region 3 with fail
  clear ld n1
  obtain ⟨wd, hwd⟩ : ∃ X, W0.drew = X := ⟨_, rfl⟩
  refine wp_region_noPanic ?_
  refine wp_region_held_drew (S := fun X => Below (y + 1) W0 X) (by kernel_rfl) (S0.out.mono HY1.out) (fun hHeld => ?_)
  rw [hwd] at hHeld S0 ⊢
  clear hwd
  refine wpAnyH_take (i := 0) (v := ?v8) rfl (by kernel_rfl) (by kernel_rfl) (by kernel_rfl) (fun _ _ _ h => h) (Or.inl ⟨by rfl, ?hy8⟩) hHeld ?rest8
  case hy8 =>
    intro w hSw
    go_simp
    try with_reducible rfl
  try simp only [Act.put, List.setIfInBounds_toArray, List.set_cons_zero, List.set_cons_succ, Array.toArray_toList, List.getElem_toArray, List.getElem_cons_zero, List.getElem_cons_succ]
  refine wpAnyH_take (i := 1) (v := ?v9) rfl (by kernel_rfl) (by kernel_rfl) (by kernel_rfl) (fun _ _ _ h => h) (Or.inl ⟨by rfl, ?hy9⟩) hHeld ?rest9
  case hy9 =>
    intro w hSw
    have ld := HL0.out _ hSw
    go_simp
    try with_reducible rfl
  try simp only [Act.put, List.setIfInBounds_toArray, List.set_cons_zero, List.set_cons_succ, Array.toArray_toList, List.getElem_toArray, List.getElem_cons_zero, List.getElem_cons_succ]
  refine wpAnyH_take (i := 3) (v := ?v10) rfl (by kernel_rfl) (by kernel_rfl) (by kernel_rfl) (fun _ _ _ h => h) (Or.inl ⟨by rfl, ?hy10⟩) hHeld ?rest10
  case hy10 =>
    intro w hSw
    go_simp
    try with_reducible rfl
  try simp only [Act.put, List.setIfInBounds_toArray, List.set_cons_zero, List.set_cons_succ, Array.toArray_toList, List.getElem_toArray, List.getElem_cons_zero, List.getElem_cons_succ]
  refine wpAnyH_take (i := 4) (v := ?v11) rfl (by kernel_rfl) (by kernel_rfl) (by kernel_rfl) (fun _ _ _ h => h) (Or.inl ⟨by rfl, ?hy11⟩) hHeld ?rest11
  case hy11 =>
    intro w hSw
    have ld := HL0.out _ hSw
    go_simp
    try with_reducible rfl
  try simp only [Act.put, List.setIfInBounds_toArray, List.set_cons_zero, List.set_cons_succ, Array.toArray_toList, List.getElem_toArray, List.getElem_cons_zero, List.getElem_cons_succ]
  refine wpAnyH_take (i := 5) (v := ?v12) rfl (by kernel_rfl) (by kernel_rfl) (by kernel_rfl) (fun _ _ _ h => h) (Or.inl ⟨by rfl, ?hy12⟩) hHeld ?rest12
  case hy12 =>
    intro w hSw
    go_simp
    try with_reducible rfl
  try simp only [Act.put, List.setIfInBounds_toArray, List.set_cons_zero, List.set_cons_succ, Array.toArray_toList, List.getElem_toArray, List.getElem_cons_zero, List.getElem_cons_succ]
  refine wpAnyH_ready (rs := [2, 7]) (by kernel_rfl) (by simp) ?_
  refine AllReadyH.cons rfl (fun K hK => ?_) (AllReadyH.cons rfl (fun K hK => ?_) AllReadyH.nil)
  · go_simp
    refine (HNM.out _ S0.out).mono ?_
    rintro e N1 ⟨a1, c1, rfl, hr1, hb1⟩
    dsimp only
    have SN1 := hid (S0.out.trans (hb1.mono S0.out.size))
    have hr1 := hr1
    have Q1 := hid (show ∀ X, Below N1.heap.size N1 X → Bys X a1 ((n + 7) / 8) c1 (vB x.zs n) from fun X h => hr1.below h)
    have KQ := hid (Below.refl N1.heap.size N1)
    clear hb1 hr1
    refine hK.out _ _ (SN1.out.mono HY1.out) (fun hHeld => ?_)
    clear hK K
    try simp only [Act.put, List.setIfInBounds_toArray, List.set_cons_zero, List.set_cons_succ, Array.toArray_toList, List.getElem_toArray, List.getElem_cons_zero, List.getElem_cons_succ]
    refine wpAnyH_ready (rs := [6, 7]) (by kernel_rfl) (by simp) ?_
    refine AllReadyH.cons rfl (fun K hK => ?_) (AllReadyH.cons rfl (fun K hK => ?_) AllReadyH.nil)
    · go_simp
      refine (HC0.out _ _ _ SN1.out (Q1.out _ KQ.out)).mono ?_
      rintro e N2 ⟨rfl, hb1⟩
      dsimp only
      have SN2 := hid (SN1.out.trans (hb1.mono SN1.out.size))
      clear hb1
      refine hK.out _ _ (SN2.out.mono HY1.out) (fun hHeld => ?_)
      clear hK K
      try simp only [Act.put, List.setIfInBounds_toArray, List.set_cons_zero, List.set_cons_succ, Array.toArray_toList, List.getElem_toArray, List.getElem_cons_zero, List.getElem_cons_succ]
      refine wpAnyH_ready (rs := [7]) (by kernel_rfl) (by simp) ?_
      refine AllReadyH.cons rfl (fun K hK => ?_) AllReadyH.nil
      go_simp
      obtain ⟨N3, hA⟩ : ∃ A, N2.alloc (.cells (vs .u8 32 fun _ => 0) 25) = A := ⟨_, rfl⟩
      rw [hA]
      have kN3 : Below N2.heap.size N2 N3 := by rw [← hA]; exact (Below.refl _ _).alloc (Nat.le_refl _) _
      have rN3 : N3.heap[N2.heap.size]? = some (.cells (vs .u8 32 fun _ => 0) 25) := by rw [← hA]; exact heap_new rfl
      have HBW : Hid (W0.heap.size ≤ N2.heap.size) := SN2.out.size
      obtain ⟨b, eb⟩ : ∃ b, N2.heap.size = b := ⟨_, rfl⟩
      rw [eb] at rN3 ⊢
      rw [eb] at HBW
      have RN3 := hid rN3
      have SN3 := hid (SN2.out.trans (kN3.mono SN2.out.size))
      clear hA kN3 rN3 eb
      refine hK.out _ _ (SN3.out.mono HY1.out) (fun hHeld => ?_)
      clear hK K
      try simp only [Act.put, List.setIfInBounds_toArray, List.set_cons_zero, List.set_cons_succ, Array.toArray_toList, List.getElem_toArray, List.getElem_cons_zero, List.getElem_cons_succ]
      refine wpAnyH_ready (rs := [8]) (by kernel_rfl) (by simp) ?_
      refine AllReadyH.cons rfl (fun K hK => ?_) AllReadyH.nil
      have s1 := sv24_run RN3.out C0
      go_simp
      obtain ⟨U, hU⟩ : ∃ U, N3.setRow b (vs .u8 32 C0) = U := ⟨_, rfl⟩
      rw [hU]
      have SU : Hid (Below W0.heap.size W0 U) := by rw [← hU]; exact below_row SN3.out HBW.out _
      have RU : Hid (U.heap[b]? = some (.cells (vs .u8 32 C0) 25)) := by rw [← hU]; exact setRow_at RN3.out
      clear hU s1
      refine hK.out _ _ (SU.out.mono HY1.out) (fun hHeld => ?_)
      clear hK K
      try simp only [Act.put, List.setIfInBounds_toArray, List.set_cons_zero, List.set_cons_succ, Array.toArray_toList, List.getElem_toArray, List.getElem_cons_zero, List.getElem_cons_succ]
      refine wpAnyH_done (by kernel_rfl) ?_ _
      refine NoPanic.normal ?_
      go_upto_region 4 with fail
      obtain ⟨ud, hud⟩ : ∃ X, U.drew = X := ⟨_, rfl⟩
      have SD : Hid (Below W0.heap.size W0 U.drew) := SU.out.drew
      have RD : Hid (U.drew.heap[b]? = some (.cells (vs .u8 32 C0) 25)) := RU.out
      have SB := hid (Array.getElem?_eq_some_iff.1 RD.out).1
      clear z
      refine wp_region_noPanic ?_
      refine wp_region_held_drew (S := fun X => Below (y + 1) W0 X ∧ X.heap[b]? = some (.cells (vs .u8 32 C0) 25)) (by kernel_rfl) (⟨SD.out.mono HY1.out, RD.out⟩) (fun hHeld => ?_)
      rw [hud] at hHeld SD RD SB ⊢
      clear hud
      refine wpAnyH_take (i := 0) (v := ?v13) rfl (by kernel_rfl) (by kernel_rfl) (by kernel_rfl) (fun _ _ _ h => h) (Or.inl ⟨by rfl, ?hy13⟩) hHeld ?rest13
      case hy13 =>
        intro w hSw
        have ld := lv24_run hSw.2
        go_simp
        try with_reducible rfl
      try simp only [Act.put, List.setIfInBounds_toArray, List.set_cons_zero, List.set_cons_succ, Array.toArray_toList, List.getElem_toArray, List.getElem_cons_zero, List.getElem_cons_succ]
      refine wpAnyH_take (i := 1) (v := ?v14) rfl (by kernel_rfl) (by kernel_rfl) (by kernel_rfl) (fun _ _ _ h => h) (Or.inl ⟨by rfl, ?hy14⟩) hHeld ?rest14
      case hy14 =>
        intro w hSw
        go_simp
        try with_reducible rfl
      try simp only [Act.put, List.setIfInBounds_toArray, List.set_cons_zero, List.set_cons_succ, Array.toArray_toList, List.getElem_toArray, List.getElem_cons_zero, List.getElem_cons_succ]
      refine wpAnyH_take (i := 2) (v := ?v15) rfl (by kernel_rfl) (by kernel_rfl) (by kernel_rfl) (fun _ _ _ h => h) (Or.inl ⟨by rfl, ?hy15⟩) hHeld ?rest15
      case hy15 =>
        intro w hSw
        have ld := HL1.out _ hSw.1
        go_simp
        try with_reducible rfl
      try simp only [Act.put, List.setIfInBounds_toArray, List.set_cons_zero, List.set_cons_succ, Array.toArray_toList, List.getElem_toArray, List.getElem_cons_zero, List.getElem_cons_succ]
      refine wpAnyH_take (i := 4) (v := ?v16) rfl (by kernel_rfl) (by kernel_rfl) (by kernel_rfl) (fun _ _ _ h => h) (Or.inl ⟨by rfl, ?hy16⟩) hHeld ?rest16
      case hy16 =>
        intro w hSw
        go_simp
        try with_reducible rfl
      try simp only [Act.put, List.setIfInBounds_toArray, List.set_cons_zero, List.set_cons_succ, Array.toArray_toList, List.getElem_toArray, List.getElem_cons_zero, List.getElem_cons_succ]
      refine wpAnyH_take (i := 5) (v := ?v17) rfl (by kernel_rfl) (by kernel_rfl) (by kernel_rfl) (fun _ _ _ h => h) (Or.inl ⟨by rfl, ?hy17⟩) hHeld ?rest17
      case hy17 =>
        intro w hSw
        go_simp
        try with_reducible rfl
      try simp only [Act.put, List.setIfInBounds_toArray, List.set_cons_zero, List.set_cons_succ, Array.toArray_toList, List.getElem_toArray, List.getElem_cons_zero, List.getElem_cons_succ]
      refine wpAnyH_ready (rs := [3]) (by kernel_rfl) (by simp) ?_
      refine AllReadyH.cons rfl (fun K hK => ?_) AllReadyH.nil
      go_simp
      refine (HC1.out _ SD.out).mono ?_
      rintro e X1 ⟨rfl, hb1⟩
      dsimp only
      have S1 := hid (SD.out.trans (hb1.mono SD.out.size))
      have R1 := hid ((hb1.block b SB.out).trans RD.out)
      have SB1 := hid (Array.getElem?_eq_some_iff.1 R1.out).1
      clear hb1
      refine hK.out _ _ (⟨S1.out.mono HY1.out, R1.out⟩) (fun hHeld => ?_)
      clear hK K
      try simp only [Act.put, List.setIfInBounds_toArray, List.set_cons_zero, List.set_cons_succ, Array.toArray_toList, List.getElem_toArray, List.getElem_cons_zero, List.getElem_cons_succ]
      refine wpAnyH_ready (rs := [6]) (by kernel_rfl) (by simp) ?_
      refine AllReadyH.cons rfl (fun K hK => ?_) AllReadyH.nil
      go_simp
      refine (HC2.out _ S1.out).mono ?_
      rintro e X2 ⟨rfl, hb2⟩
      dsimp only
      have S2 := hid (S1.out.trans (hb2.mono S1.out.size))
      have R2 := hid ((hb2.block b SB1.out).trans R1.out)
      have SB2 := hid (Array.getElem?_eq_some_iff.1 R2.out).1
      clear hb2
      refine hK.out _ _ (⟨S2.out.mono HY1.out, R2.out⟩) (fun hHeld => ?_)
      clear hK K
      try simp only [Act.put, List.setIfInBounds_toArray, List.set_cons_zero, List.set_cons_succ, Array.toArray_toList, List.getElem_toArray, List.getElem_cons_zero, List.getElem_cons_succ]
      have bs := bs22_3 X2 C0 C1 C2
      have hBn : Below X2.heap.size X2 (X2.alloc (.cells (vs .u8 96 (fl7 [C0, C1, C2])) 25)) := (Below.refl _ _).alloc (Nat.le_refl _) _
      have HBN := hid (S2.out.trans (hBn.mono S2.out.size))
      have RBN := hid ((hBn.block b SB2.out).trans R2.out)
      have HLA := hid (HRO.out (X2.alloc (.cells (vs .u8 96 (fl7 [C0, C1, C2])) 25)) X2.heap.size HBN.out (heap_new rfl))
      clear hBn
      refine wpAnyH_ready (rs := [7]) (by kernel_rfl) (by simp) ?_
      refine AllReadyH.cons rfl (fun K hK => ?_) AllReadyH.nil
      go_simp
      refine hK.out _ _ ⟨HBN.out.mono HY1.out, RBN.out⟩ (fun hHeld => ?_)
      clear hK K bs
      try simp only [Act.put, List.setIfInBounds_toArray, List.set_cons_zero, List.set_cons_succ, Array.toArray_toList, List.getElem_toArray, List.getElem_cons_zero, List.getElem_cons_succ]
      refine wpAnyH_ready (rs := [8]) (by kernel_rfl) (by simp) ?_
      refine AllReadyH.cons rfl (fun K hK => ?_) AllReadyH.nil
      go_simp
      refine (HLA.out).mono ?_
      rintro e Y ⟨rfl, hbY⟩
      dsimp only
      have HY := hid (HBN.out.trans (hbY.mono HBN.out.size))
      have RYB := hid ((hbY.block b (Array.getElem?_eq_some_iff.1 RBN.out).1).trans RBN.out)
      clear hbY
      refine hK.out _ _ (⟨HY.out.mono HY1.out, RYB.out⟩) (fun hHeld => ?_)
      clear hK K
      try simp only [Act.put, List.setIfInBounds_toArray, List.set_cons_zero, List.set_cons_succ, Array.toArray_toList, List.getElem_toArray, List.getElem_cons_zero, List.getElem_cons_succ]
      have rY := HRR.out _ HY.out
      have s1 := sv24_run rY D
      have RY := hid rY
      clear rY
      refine wpAnyH_ready (rs := [9]) (by kernel_rfl) (by simp) ?_
      refine AllReadyH.cons rfl (fun K hK => ?_) AllReadyH.nil
      go_simp
      refine hK.out _ _ ⟨below_row (HY.out.mono HY1.out) (Nat.le_refl _) _, (setRow_other _ (y + 1) b _ (by have := HBW.out; have := Z0.out; have := EY.out; omega)).trans RYB.out⟩ (fun hHeld => ?_)
      clear hK K s1
      try simp only [Act.put, List.setIfInBounds_toArray, List.set_cons_zero, List.set_cons_succ, Array.toArray_toList, List.getElem_toArray, List.getElem_cons_zero, List.getElem_cons_succ]
      refine wpAnyH_take (i := 10) (v := ?v18) rfl (by kernel_rfl) (by kernel_rfl) (by kernel_rfl) (fun _ _ _ h => h) (Or.inl ⟨by rfl, ?hy18⟩) hHeld ?rest18
      case hy18 =>
        intro w hSw
        go_simp
        try with_reducible rfl
      try simp only [Act.put, List.setIfInBounds_toArray, List.set_cons_zero, List.set_cons_succ, Array.toArray_toList, List.getElem_toArray, List.getElem_cons_zero, List.getElem_cons_succ]
      refine wpAnyH_done (by kernel_rfl) ?_ _
      refine NoPanic.normal ?_
      go_wp2
      refine ret24s _ _ (y + 1) _ 25 _ rfl rfl rfl rfl (setRow_at RY.out) ⟨rfl, ?_⟩
      have e0 := EY.out
      have e1 := Z0.out
      exact below_row (HB0w.out.trans (HY.out.mono (by omega))) (by omega) _
    · go_simp
      obtain ⟨N4, hA⟩ : ∃ A, N1.alloc (.cells (vs .u8 32 fun _ => 0) 25) = A := ⟨_, rfl⟩
      rw [hA]
      have kN4 : Below N1.heap.size N1 N4 := by rw [← hA]; exact (Below.refl _ _).alloc (Nat.le_refl _) _
      have rN4 : N4.heap[N1.heap.size]? = some (.cells (vs .u8 32 fun _ => 0) 25) := by rw [← hA]; exact heap_new rfl
      have HBW : Hid (W0.heap.size ≤ N1.heap.size) := SN1.out.size
      obtain ⟨b, eb⟩ : ∃ b, N1.heap.size = b := ⟨_, rfl⟩
      rw [eb] at rN4 ⊢
      rw [eb] at HBW
      have RN4 := hid rN4
      have SN4 := hid (SN1.out.trans (kN4.mono SN1.out.size))
      replace KQ := hid (KQ.out.trans (kN4.mono KQ.out.size))
      clear hA kN4 rN4 eb
      refine hK.out _ _ (SN4.out.mono HY1.out) (fun hHeld => ?_)
      clear hK K
      try simp only [Act.put, List.setIfInBounds_toArray, List.set_cons_zero, List.set_cons_succ, Array.toArray_toList, List.getElem_toArray, List.getElem_cons_zero, List.getElem_cons_succ]
      refine wpAnyH_ready (rs := [6]) (by kernel_rfl) (by simp) ?_
      refine AllReadyH.cons rfl (fun K hK => ?_) AllReadyH.nil
      go_simp
      refine (HC0.out _ _ _ SN4.out (Q1.out _ KQ.out)).mono ?_
      rintro e N5 ⟨rfl, hb1⟩
      dsimp only
      have SN5 := hid (SN4.out.trans (hb1.mono SN4.out.size))
      have RN5 := hid ((hb1.block b (Array.getElem?_eq_some_iff.1 RN4.out).1).trans RN4.out)
      clear hb1
      refine hK.out _ _ (SN5.out.mono HY1.out) (fun hHeld => ?_)
      clear hK K
      try simp only [Act.put, List.setIfInBounds_toArray, List.set_cons_zero, List.set_cons_succ, Array.toArray_toList, List.getElem_toArray, List.getElem_cons_zero, List.getElem_cons_succ]
      refine wpAnyH_ready (rs := [8]) (by kernel_rfl) (by simp) ?_
      refine AllReadyH.cons rfl (fun K hK => ?_) AllReadyH.nil
      have s1 := sv24_run RN5.out C0
      go_simp
      obtain ⟨U, hU⟩ : ∃ U, N5.setRow b (vs .u8 32 C0) = U := ⟨_, rfl⟩
      rw [hU]
      have SU : Hid (Below W0.heap.size W0 U) := by rw [← hU]; exact below_row SN5.out HBW.out _
      have RU : Hid (U.heap[b]? = some (.cells (vs .u8 32 C0) 25)) := by rw [← hU]; exact setRow_at RN5.out
      clear hU s1
      refine hK.out _ _ (SU.out.mono HY1.out) (fun hHeld => ?_)
      clear hK K
      try simp only [Act.put, List.setIfInBounds_toArray, List.set_cons_zero, List.set_cons_succ, Array.toArray_toList, List.getElem_toArray, List.getElem_cons_zero, List.getElem_cons_succ]
      refine wpAnyH_done (by kernel_rfl) ?_ _
      refine NoPanic.normal ?_
      go_upto_region 4 with fail
      obtain ⟨ud, hud⟩ : ∃ X, U.drew = X := ⟨_, rfl⟩
      have SD : Hid (Below W0.heap.size W0 U.drew) := SU.out.drew
      have RD : Hid (U.drew.heap[b]? = some (.cells (vs .u8 32 C0) 25)) := RU.out
      have SB := hid (Array.getElem?_eq_some_iff.1 RD.out).1
      clear z
      refine wp_region_noPanic ?_
      refine wp_region_held_drew (S := fun X => Below (y + 1) W0 X ∧ X.heap[b]? = some (.cells (vs .u8 32 C0) 25)) (by kernel_rfl) (⟨SD.out.mono HY1.out, RD.out⟩) (fun hHeld => ?_)
      rw [hud] at hHeld SD RD SB ⊢
      clear hud
      refine wpAnyH_take (i := 0) (v := ?v19) rfl (by kernel_rfl) (by kernel_rfl) (by kernel_rfl) (fun _ _ _ h => h) (Or.inl ⟨by rfl, ?hy19⟩) hHeld ?rest19
      case hy19 =>
        intro w hSw
        have ld := lv24_run hSw.2
        go_simp
        try with_reducible rfl
      try simp only [Act.put, List.setIfInBounds_toArray, List.set_cons_zero, List.set_cons_succ, Array.toArray_toList, List.getElem_toArray, List.getElem_cons_zero, List.getElem_cons_succ]
      refine wpAnyH_take (i := 1) (v := ?v20) rfl (by kernel_rfl) (by kernel_rfl) (by kernel_rfl) (fun _ _ _ h => h) (Or.inl ⟨by rfl, ?hy20⟩) hHeld ?rest20
      case hy20 =>
        intro w hSw
        go_simp
        try with_reducible rfl
      try simp only [Act.put, List.setIfInBounds_toArray, List.set_cons_zero, List.set_cons_succ, Array.toArray_toList, List.getElem_toArray, List.getElem_cons_zero, List.getElem_cons_succ]
      refine wpAnyH_take (i := 2) (v := ?v21) rfl (by kernel_rfl) (by kernel_rfl) (by kernel_rfl) (fun _ _ _ h => h) (Or.inl ⟨by rfl, ?hy21⟩) hHeld ?rest21
      case hy21 =>
        intro w hSw
        have ld := HL1.out _ hSw.1
        go_simp
        try with_reducible rfl
      try simp only [Act.put, List.setIfInBounds_toArray, List.set_cons_zero, List.set_cons_succ, Array.toArray_toList, List.getElem_toArray, List.getElem_cons_zero, List.getElem_cons_succ]
      refine wpAnyH_take (i := 4) (v := ?v22) rfl (by kernel_rfl) (by kernel_rfl) (by kernel_rfl) (fun _ _ _ h => h) (Or.inl ⟨by rfl, ?hy22⟩) hHeld ?rest22
      case hy22 =>
        intro w hSw
        go_simp
        try with_reducible rfl
      try simp only [Act.put, List.setIfInBounds_toArray, List.set_cons_zero, List.set_cons_succ, Array.toArray_toList, List.getElem_toArray, List.getElem_cons_zero, List.getElem_cons_succ]
      refine wpAnyH_take (i := 5) (v := ?v23) rfl (by kernel_rfl) (by kernel_rfl) (by kernel_rfl) (fun _ _ _ h => h) (Or.inl ⟨by rfl, ?hy23⟩) hHeld ?rest23
      case hy23 =>
        intro w hSw
        go_simp
        try with_reducible rfl
      try simp only [Act.put, List.setIfInBounds_toArray, List.set_cons_zero, List.set_cons_succ, Array.toArray_toList, List.getElem_toArray, List.getElem_cons_zero, List.getElem_cons_succ]
      refine wpAnyH_ready (rs := [3]) (by kernel_rfl) (by simp) ?_
      refine AllReadyH.cons rfl (fun K hK => ?_) AllReadyH.nil
      go_simp
      refine (HC1.out _ SD.out).mono ?_
      rintro e X1 ⟨rfl, hb1⟩
      dsimp only
      have S1 := hid (SD.out.trans (hb1.mono SD.out.size))
      have R1 := hid ((hb1.block b SB.out).trans RD.out)
      have SB1 := hid (Array.getElem?_eq_some_iff.1 R1.out).1
      clear hb1
      refine hK.out _ _ (⟨S1.out.mono HY1.out, R1.out⟩) (fun hHeld => ?_)
      clear hK K
      try simp only [Act.put, List.setIfInBounds_toArray, List.set_cons_zero, List.set_cons_succ, Array.toArray_toList, List.getElem_toArray, List.getElem_cons_zero, List.getElem_cons_succ]
      refine wpAnyH_ready (rs := [6]) (by kernel_rfl) (by simp) ?_
      refine AllReadyH.cons rfl (fun K hK => ?_) AllReadyH.nil
      go_simp
      refine (HC2.out _ S1.out).mono ?_
      rintro e X2 ⟨rfl, hb2⟩
      dsimp only
      have S2 := hid (S1.out.trans (hb2.mono S1.out.size))
      have R2 := hid ((hb2.block b SB1.out).trans R1.out)
      have SB2 := hid (Array.getElem?_eq_some_iff.1 R2.out).1
      clear hb2
      refine hK.out _ _ (⟨S2.out.mono HY1.out, R2.out⟩) (fun hHeld => ?_)
      clear hK K
      try simp only [Act.put, List.setIfInBounds_toArray, List.set_cons_zero, List.set_cons_succ, Array.toArray_toList, List.getElem_toArray, List.getElem_cons_zero, List.getElem_cons_succ]
      have bs := bs22_3 X2 C0 C1 C2
      have hBn : Below X2.heap.size X2 (X2.alloc (.cells (vs .u8 96 (fl7 [C0, C1, C2])) 25)) := (Below.refl _ _).alloc (Nat.le_refl _) _
      have HBN := hid (S2.out.trans (hBn.mono S2.out.size))
      have RBN := hid ((hBn.block b SB2.out).trans R2.out)
      have HLA := hid (HRO.out (X2.alloc (.cells (vs .u8 96 (fl7 [C0, C1, C2])) 25)) X2.heap.size HBN.out (heap_new rfl))
      clear hBn
      refine wpAnyH_ready (rs := [7]) (by kernel_rfl) (by simp) ?_
      refine AllReadyH.cons rfl (fun K hK => ?_) AllReadyH.nil
      go_simp
      refine hK.out _ _ ⟨HBN.out.mono HY1.out, RBN.out⟩ (fun hHeld => ?_)
      clear hK K bs
      try simp only [Act.put, List.setIfInBounds_toArray, List.set_cons_zero, List.set_cons_succ, Array.toArray_toList, List.getElem_toArray, List.getElem_cons_zero, List.getElem_cons_succ]
      refine wpAnyH_ready (rs := [8]) (by kernel_rfl) (by simp) ?_
      refine AllReadyH.cons rfl (fun K hK => ?_) AllReadyH.nil
      go_simp
      refine (HLA.out).mono ?_
      rintro e Y ⟨rfl, hbY⟩
      dsimp only
      have HY := hid (HBN.out.trans (hbY.mono HBN.out.size))
      have RYB := hid ((hbY.block b (Array.getElem?_eq_some_iff.1 RBN.out).1).trans RBN.out)
      clear hbY
      refine hK.out _ _ (⟨HY.out.mono HY1.out, RYB.out⟩) (fun hHeld => ?_)
      clear hK K
      try simp only [Act.put, List.setIfInBounds_toArray, List.set_cons_zero, List.set_cons_succ, Array.toArray_toList, List.getElem_toArray, List.getElem_cons_zero, List.getElem_cons_succ]
      have rY := HRR.out _ HY.out
      have s1 := sv24_run rY D
      have RY := hid rY
      clear rY
      refine wpAnyH_ready (rs := [9]) (by kernel_rfl) (by simp) ?_
      refine AllReadyH.cons rfl (fun K hK => ?_) AllReadyH.nil
      go_simp
      refine hK.out _ _ ⟨below_row (HY.out.mono HY1.out) (Nat.le_refl _) _, (setRow_other _ (y + 1) b _ (by have := HBW.out; have := Z0.out; have := EY.out; omega)).trans RYB.out⟩ (fun hHeld => ?_)
      clear hK K s1
      try simp only [Act.put, List.setIfInBounds_toArray, List.set_cons_zero, List.set_cons_succ, Array.toArray_toList, List.getElem_toArray, List.getElem_cons_zero, List.getElem_cons_succ]
      refine wpAnyH_take (i := 10) (v := ?v24) rfl (by kernel_rfl) (by kernel_rfl) (by kernel_rfl) (fun _ _ _ h => h) (Or.inl ⟨by rfl, ?hy24⟩) hHeld ?rest24
      case hy24 =>
        intro w hSw
        go_simp
        try with_reducible rfl
      try simp only [Act.put, List.setIfInBounds_toArray, List.set_cons_zero, List.set_cons_succ, Array.toArray_toList, List.getElem_toArray, List.getElem_cons_zero, List.getElem_cons_succ]
      refine wpAnyH_done (by kernel_rfl) ?_ _
      refine NoPanic.normal ?_
      go_wp2
      refine ret24s _ _ (y + 1) _ 25 _ rfl rfl rfl rfl (setRow_at RY.out) ⟨rfl, ?_⟩
      have e0 := EY.out
      have e1 := Z0.out
      exact below_row (HB0w.out.trans (HY.out.mono (by omega))) (by omega) _
  · go_simp
    obtain ⟨N6, hA⟩ : ∃ A, wd.alloc (.cells (vs .u8 32 fun _ => 0) 25) = A := ⟨_, rfl⟩
    rw [hA]
    have kN6 : Below wd.heap.size wd N6 := by rw [← hA]; exact (Below.refl _ _).alloc (Nat.le_refl _) _
    have rN6 : N6.heap[wd.heap.size]? = some (.cells (vs .u8 32 fun _ => 0) 25) := by rw [← hA]; exact heap_new rfl
    have HBW : Hid (W0.heap.size ≤ wd.heap.size) := S0.out.size
    obtain ⟨b, eb⟩ : ∃ b, wd.heap.size = b := ⟨_, rfl⟩
    rw [eb] at rN6 ⊢
    rw [eb] at HBW
    have RN6 := hid rN6
    have SN6 := hid (S0.out.trans (kN6.mono S0.out.size))
    clear hA kN6 rN6 eb
    refine hK.out _ _ (SN6.out.mono HY1.out) (fun hHeld => ?_)
    clear hK K
    try simp only [Act.put, List.setIfInBounds_toArray, List.set_cons_zero, List.set_cons_succ, Array.toArray_toList, List.getElem_toArray, List.getElem_cons_zero, List.getElem_cons_succ]
    refine wpAnyH_ready (rs := [2]) (by kernel_rfl) (by simp) ?_
    refine AllReadyH.cons rfl (fun K hK => ?_) AllReadyH.nil
    go_simp
    refine (HNM.out _ SN6.out).mono ?_
    rintro e N7 ⟨a1, c1, rfl, hr1, hb1⟩
    dsimp only
    have SN7 := hid (SN6.out.trans (hb1.mono SN6.out.size))
    have hr1 := hr1
    have Q1 := hid (show ∀ X, Below N7.heap.size N7 X → Bys X a1 ((n + 7) / 8) c1 (vB x.zs n) from fun X h => hr1.below h)
    have KQ := hid (Below.refl N7.heap.size N7)
    have RN7 := hid ((hb1.block b (Array.getElem?_eq_some_iff.1 RN6.out).1).trans RN6.out)
    clear hb1 hr1
    refine hK.out _ _ (SN7.out.mono HY1.out) (fun hHeld => ?_)
    clear hK K
    try simp only [Act.put, List.setIfInBounds_toArray, List.set_cons_zero, List.set_cons_succ, Array.toArray_toList, List.getElem_toArray, List.getElem_cons_zero, List.getElem_cons_succ]
    refine wpAnyH_ready (rs := [6]) (by kernel_rfl) (by simp) ?_
    refine AllReadyH.cons rfl (fun K hK => ?_) AllReadyH.nil
    go_simp
    refine (HC0.out _ _ _ SN7.out (Q1.out _ KQ.out)).mono ?_
    rintro e N8 ⟨rfl, hb1⟩
    dsimp only
    have SN8 := hid (SN7.out.trans (hb1.mono SN7.out.size))
    have RN8 := hid ((hb1.block b (Array.getElem?_eq_some_iff.1 RN7.out).1).trans RN7.out)
    clear hb1
    refine hK.out _ _ (SN8.out.mono HY1.out) (fun hHeld => ?_)
    clear hK K
    try simp only [Act.put, List.setIfInBounds_toArray, List.set_cons_zero, List.set_cons_succ, Array.toArray_toList, List.getElem_toArray, List.getElem_cons_zero, List.getElem_cons_succ]
    refine wpAnyH_ready (rs := [8]) (by kernel_rfl) (by simp) ?_
    refine AllReadyH.cons rfl (fun K hK => ?_) AllReadyH.nil
    have s1 := sv24_run RN8.out C0
    go_simp
    obtain ⟨U, hU⟩ : ∃ U, N8.setRow b (vs .u8 32 C0) = U := ⟨_, rfl⟩
    rw [hU]
    have SU : Hid (Below W0.heap.size W0 U) := by rw [← hU]; exact below_row SN8.out HBW.out _
    have RU : Hid (U.heap[b]? = some (.cells (vs .u8 32 C0) 25)) := by rw [← hU]; exact setRow_at RN8.out
    clear hU s1
    refine hK.out _ _ (SU.out.mono HY1.out) (fun hHeld => ?_)
    clear hK K
    try simp only [Act.put, List.setIfInBounds_toArray, List.set_cons_zero, List.set_cons_succ, Array.toArray_toList, List.getElem_toArray, List.getElem_cons_zero, List.getElem_cons_succ]
    refine wpAnyH_done (by kernel_rfl) ?_ _
    refine NoPanic.normal ?_
    go_upto_region 4 with fail
    obtain ⟨ud, hud⟩ : ∃ X, U.drew = X := ⟨_, rfl⟩
    have SD : Hid (Below W0.heap.size W0 U.drew) := SU.out.drew
    have RD : Hid (U.drew.heap[b]? = some (.cells (vs .u8 32 C0) 25)) := RU.out
    have SB := hid (Array.getElem?_eq_some_iff.1 RD.out).1
    clear z
    refine wp_region_noPanic ?_
    refine wp_region_held_drew (S := fun X => Below (y + 1) W0 X ∧ X.heap[b]? = some (.cells (vs .u8 32 C0) 25)) (by kernel_rfl) (⟨SD.out.mono HY1.out, RD.out⟩) (fun hHeld => ?_)
    rw [hud] at hHeld SD RD SB ⊢
    clear hud
    refine wpAnyH_take (i := 0) (v := ?v25) rfl (by kernel_rfl) (by kernel_rfl) (by kernel_rfl) (fun _ _ _ h => h) (Or.inl ⟨by rfl, ?hy25⟩) hHeld ?rest25
    case hy25 =>
      intro w hSw
      have ld := lv24_run hSw.2
      go_simp
      try with_reducible rfl
    try simp only [Act.put, List.setIfInBounds_toArray, List.set_cons_zero, List.set_cons_succ, Array.toArray_toList, List.getElem_toArray, List.getElem_cons_zero, List.getElem_cons_succ]
    refine wpAnyH_take (i := 1) (v := ?v26) rfl (by kernel_rfl) (by kernel_rfl) (by kernel_rfl) (fun _ _ _ h => h) (Or.inl ⟨by rfl, ?hy26⟩) hHeld ?rest26
    case hy26 =>
      intro w hSw
      go_simp
      try with_reducible rfl
    try simp only [Act.put, List.setIfInBounds_toArray, List.set_cons_zero, List.set_cons_succ, Array.toArray_toList, List.getElem_toArray, List.getElem_cons_zero, List.getElem_cons_succ]
    refine wpAnyH_take (i := 2) (v := ?v27) rfl (by kernel_rfl) (by kernel_rfl) (by kernel_rfl) (fun _ _ _ h => h) (Or.inl ⟨by rfl, ?hy27⟩) hHeld ?rest27
    case hy27 =>
      intro w hSw
      have ld := HL1.out _ hSw.1
      go_simp
      try with_reducible rfl
    try simp only [Act.put, List.setIfInBounds_toArray, List.set_cons_zero, List.set_cons_succ, Array.toArray_toList, List.getElem_toArray, List.getElem_cons_zero, List.getElem_cons_succ]
    refine wpAnyH_take (i := 4) (v := ?v28) rfl (by kernel_rfl) (by kernel_rfl) (by kernel_rfl) (fun _ _ _ h => h) (Or.inl ⟨by rfl, ?hy28⟩) hHeld ?rest28
    case hy28 =>
      intro w hSw
      go_simp
      try with_reducible rfl
    try simp only [Act.put, List.setIfInBounds_toArray, List.set_cons_zero, List.set_cons_succ, Array.toArray_toList, List.getElem_toArray, List.getElem_cons_zero, List.getElem_cons_succ]
    refine wpAnyH_take (i := 5) (v := ?v29) rfl (by kernel_rfl) (by kernel_rfl) (by kernel_rfl) (fun _ _ _ h => h) (Or.inl ⟨by rfl, ?hy29⟩) hHeld ?rest29
    case hy29 =>
      intro w hSw
      go_simp
      try with_reducible rfl
    try simp only [Act.put, List.setIfInBounds_toArray, List.set_cons_zero, List.set_cons_succ, Array.toArray_toList, List.getElem_toArray, List.getElem_cons_zero, List.getElem_cons_succ]
    refine wpAnyH_ready (rs := [3]) (by kernel_rfl) (by simp) ?_
    refine AllReadyH.cons rfl (fun K hK => ?_) AllReadyH.nil
    go_simp
    refine (HC1.out _ SD.out).mono ?_
    rintro e X1 ⟨rfl, hb1⟩
    dsimp only
    have S1 := hid (SD.out.trans (hb1.mono SD.out.size))
    have R1 := hid ((hb1.block b SB.out).trans RD.out)
    have SB1 := hid (Array.getElem?_eq_some_iff.1 R1.out).1
    clear hb1
    refine hK.out _ _ (⟨S1.out.mono HY1.out, R1.out⟩) (fun hHeld => ?_)
    clear hK K
    try simp only [Act.put, List.setIfInBounds_toArray, List.set_cons_zero, List.set_cons_succ, Array.toArray_toList, List.getElem_toArray, List.getElem_cons_zero, List.getElem_cons_succ]
    refine wpAnyH_ready (rs := [6]) (by kernel_rfl) (by simp) ?_
    refine AllReadyH.cons rfl (fun K hK => ?_) AllReadyH.nil
    go_simp
    refine (HC2.out _ S1.out).mono ?_
    rintro e X2 ⟨rfl, hb2⟩
    dsimp only
    have S2 := hid (S1.out.trans (hb2.mono S1.out.size))
    have R2 := hid ((hb2.block b SB1.out).trans R1.out)
    have SB2 := hid (Array.getElem?_eq_some_iff.1 R2.out).1
    clear hb2
    refine hK.out _ _ (⟨S2.out.mono HY1.out, R2.out⟩) (fun hHeld => ?_)
    clear hK K
    try simp only [Act.put, List.setIfInBounds_toArray, List.set_cons_zero, List.set_cons_succ, Array.toArray_toList, List.getElem_toArray, List.getElem_cons_zero, List.getElem_cons_succ]
    have bs := bs22_3 X2 C0 C1 C2
    have hBn : Below X2.heap.size X2 (X2.alloc (.cells (vs .u8 96 (fl7 [C0, C1, C2])) 25)) := (Below.refl _ _).alloc (Nat.le_refl _) _
    have HBN := hid (S2.out.trans (hBn.mono S2.out.size))
    have RBN := hid ((hBn.block b SB2.out).trans R2.out)
    have HLA := hid (HRO.out (X2.alloc (.cells (vs .u8 96 (fl7 [C0, C1, C2])) 25)) X2.heap.size HBN.out (heap_new rfl))
    clear hBn
    refine wpAnyH_ready (rs := [7]) (by kernel_rfl) (by simp) ?_
    refine AllReadyH.cons rfl (fun K hK => ?_) AllReadyH.nil
    go_simp
    refine hK.out _ _ ⟨HBN.out.mono HY1.out, RBN.out⟩ (fun hHeld => ?_)
    clear hK K bs
    try simp only [Act.put, List.setIfInBounds_toArray, List.set_cons_zero, List.set_cons_succ, Array.toArray_toList, List.getElem_toArray, List.getElem_cons_zero, List.getElem_cons_succ]
    refine wpAnyH_ready (rs := [8]) (by kernel_rfl) (by simp) ?_
    refine AllReadyH.cons rfl (fun K hK => ?_) AllReadyH.nil
    go_simp
    refine (HLA.out).mono ?_
    rintro e Y ⟨rfl, hbY⟩
    dsimp only
    have HY := hid (HBN.out.trans (hbY.mono HBN.out.size))
    have RYB := hid ((hbY.block b (Array.getElem?_eq_some_iff.1 RBN.out).1).trans RBN.out)
    clear hbY
    refine hK.out _ _ (⟨HY.out.mono HY1.out, RYB.out⟩) (fun hHeld => ?_)
    clear hK K
    try simp only [Act.put, List.setIfInBounds_toArray, List.set_cons_zero, List.set_cons_succ, Array.toArray_toList, List.getElem_toArray, List.getElem_cons_zero, List.getElem_cons_succ]
    have rY := HRR.out _ HY.out
    have s1 := sv24_run rY D
    have RY := hid rY
    clear rY
    refine wpAnyH_ready (rs := [9]) (by kernel_rfl) (by simp) ?_
    refine AllReadyH.cons rfl (fun K hK => ?_) AllReadyH.nil
    go_simp
    refine hK.out _ _ ⟨below_row (HY.out.mono HY1.out) (Nat.le_refl _) _, (setRow_other _ (y + 1) b _ (by have := HBW.out; have := Z0.out; have := EY.out; omega)).trans RYB.out⟩ (fun hHeld => ?_)
    clear hK K s1
    try simp only [Act.put, List.setIfInBounds_toArray, List.set_cons_zero, List.set_cons_succ, Array.toArray_toList, List.getElem_toArray, List.getElem_cons_zero, List.getElem_cons_succ]
    refine wpAnyH_take (i := 10) (v := ?v30) rfl (by kernel_rfl) (by kernel_rfl) (by kernel_rfl) (fun _ _ _ h => h) (Or.inl ⟨by rfl, ?hy30⟩) hHeld ?rest30
    case hy30 =>
      intro w hSw
      go_simp
      try with_reducible rfl
    try simp only [Act.put, List.setIfInBounds_toArray, List.set_cons_zero, List.set_cons_succ, Array.toArray_toList, List.getElem_toArray, List.getElem_cons_zero, List.getElem_cons_succ]
    refine wpAnyH_done (by kernel_rfl) ?_ _
    refine NoPanic.normal ?_
    go_wp2
    refine ret24s _ _ (y + 1) _ 25 _ rfl rfl rfl rfl (setRow_at RY.out) ⟨rfl, ?_⟩
    have e0 := EY.out
    have e1 := Z0.out
    exact below_row (HB0w.out.trans (HY.out.mono (by omega))) (by omega) _

end Go.Proofs.YtokbhcgooboocaaGreatDoor
