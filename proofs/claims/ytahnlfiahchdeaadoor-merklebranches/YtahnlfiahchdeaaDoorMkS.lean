/-
  What the reference's recursion answers.
-/
import Derived.Test.YtahnlfiahchdeaaDoorMkQ
import Derived.Test.YtahnlfiahchdeaaDoorMkR
namespace Go.Proofs.YtahnlfiahchdeaaDoor
open Go.RowKit
set_option linter.unusedVariables false
set_option linter.unusedSimpArgs false

attribute [local go_sem ↓] sv24_eq lv24_eq ix22_eq slr_eq lv48_eq sv48_eq bd48_eq bd27_eq bs22_eq sl22_eq mk22_eq eqo_eq

theorem trV_shf (f : Nat → Int) (s : Nat) : ∀ (d t n : Nat), trV (shf f s) d t n = trV f d (s + t) n
  | 0, t, n => by unfold trV; rw [rt32_shf]
  | d + 1, t, n => by unfold trV; rw [trV_shf f s d, trV_shf f s d, Nat.add_assoc]
theorem trV_bd {f : Nat → Int} : ∀ (d s n : Nat), ByB f (32 * (s + n)) → ∀ j, j < 32 → 0 ≤ trV f d s n j ∧ trV f d s n j < 256
  | 0, s, n, hf => by
    intro j hj
    unfold trV
    by_cases h : n = 0
    · rw [if_pos h]; exact zr_bd _ _
    · rw [if_neg h]; exact hf _ (by omega)
  | d + 1, s, n, hf => by
    intro j hj
    unfold trV
    by_cases h : n = 0
    · rw [if_pos h]; exact zr_bd _ _
    · rw [if_neg h]; exact tw_bd _ _ _
/-- The zero roots in a row. -/
def zrf (q : Nat) : Int := zr (q / 32) (q % 32)

theorem zrf_at (d : Nat) : vs .u8 32 (rt32 zrf d) = vs .u8 32 (zr d) := vs_congr fun j hj => by
  unfold rt32 zrf
  rw [show (32 * d + j) / 32 = d by omega, show (32 * d + j) % 32 = j by omega]
theorem Rts.cut {w : World} {a : Option Addr} {len cap n : Nat} {f : Nat → Int} (h : Rts w a len cap f) (hn : n ≤ len) : Rts w a n cap f := by
  rcases h with ⟨h1, h2, h3⟩ | ⟨x, h1, h2⟩ | ⟨b, off, h1, h2, h3, h4⟩
  · exact .inl ⟨h1, by omega, h3⟩
  · exact .inr (.inl ⟨x, h1, by omega⟩)
  · exact .inr (.inr ⟨b, off, h1, by omega, h3, fun j hj => h4 j (by omega)⟩)

set_option maxRecDepth 20000 in
set_option maxHeartbeats 2000000 in
/-- No roots: the zero root of the depth. -/
theorem rtree_none (d : Nat) (w : World) (a : Option Addr) (cap : Nat) (az : Option Addr) (lz capz : Nat) (hz : Rts w az lz capz zrf) (hd : d < lz) (hlz : lz ≤ 100) :
    Calls Tryd.prog 29 #[.slice a 0 cap, .int .i64 d, .slice az lz capz] w fun e w' => e = .returned (.agg (vs .u8 32 (zr d))) ∧ Below w.heap.size w w' := by
  obtain ⟨b, o, hb, hx, hc⟩ := hz.at d hd
  have z0 := zero_root
  have l0 := lv24_mid (w := w.alloc (.cells (vs .u8 32 fun _ => 0) 27)) (b := b) (o := o) (c := rt32 zrf d) (fun j hj => (below_cell ((Below.refl _ _).alloc (Nat.le_refl _) _) hb).trans (hc j hj))
  rw [zrf_at] at l0
  have sv := sv24_newv w (fun _ => 0) (zr d)
  clear hc hz
  go_enter Tryd.func29, Tryd.ntmps29
  go_wp2
  refine ret24 6 w.heap.size _ 27 rfl rfl rfl (heap_new rfl) ⟨rfl, by go_grown⟩

set_option maxRecDepth 20000 in
set_option maxHeartbeats 2000000 in
/-- Depth 0: the root itself. -/
theorem rtree_one (w : World) (a : Option Addr) (n cap : Nat) (g : Nat → Int) (az : Option Addr) (lz capz : Nat) (hr : Rts w a n cap g) (hn : 0 < n) (hn2 : n ≤ 1099511627776) :
    Calls Tryd.prog 29 #[.slice a n cap, .int .i64 0, .slice az lz capz] w fun e w' => e = .returned (.agg (vs .u8 32 (rt32 g 0))) ∧ Below w.heap.size w w' := by
  obtain ⟨b, o, hb, hx, hc⟩ := hr.at 0 hn
  rw [show ((0 : Nat) : Int) = 0 from rfl] at hx
  have z0 := zero_root
  have b0 : ((n : Int) == 0) = false := by simp; omega
  have l0 := lv24_mid (w := w.alloc (.cells (vs .u8 32 fun _ => 0) 27)) (b := b) (o := o) (c := rt32 g 0) (fun j hj => (below_cell ((Below.refl _ _).alloc (Nat.le_refl _) _) hb).trans (hc j hj))
  have sv := sv24_newv w (fun _ => 0) (rt32 g 0)
  clear hc hr
  go_enter Tryd.func29, Tryd.ntmps29
  go_wp2
  refine ret24 6 w.heap.size _ 27 rfl rfl rfl (heap_new rfl) ⟨rfl, by go_grown⟩

set_option maxRecDepth 20000 in
set_option maxHeartbeats 2000000 in
theorem rtree_any (d : Nat) : ∀ (w : World) (a : Option Addr) (n cap : Nat) (g : Nat → Int) (az : Option Addr) (lz capz : Nat), Rc w → Rts w a n cap g → ByB g (32 * n) → Rts w az lz capz zrf → d < lz → lz ≤ 100 → d ≤ 40 → n ≤ 1099511627776 → n ≤ cap →
    Calls Tryd.prog 29 #[.slice a n cap, .int .i64 d, .slice az lz capz] w fun e w' => e = .returned (.agg (vs .u8 32 (trV g d 0 n))) ∧ Below w.heap.size w w' := by
  induction d with
  | zero =>
    intro w a n cap g az lz capz hC hr hg hz hd hlz hd40 hn hnc
    by_cases h0 : n = 0
    · subst h0
      exact rtree_none 0 w a cap az lz capz hz hd hlz
    · have hv : trV g 0 0 n = rt32 g 0 := by
        show (if n = 0 then _ else _) = _
        rw [if_neg h0]
      rw [hv]
      exact rtree_one w a n cap g az lz capz hr (by omega) hn
  | succ d ih =>
    intro w a n cap g az lz capz hC hr hg hz hd hlz hd40 hn hnc
    by_cases h0 : n = 0
    · subst h0
      exact rtree_none (d + 1) w a cap az lz capz hz hd hlz
    · have hv : trV g (d + 1) 0 n = tw (trV g d 0 (min (2 ^ d) n)) (trV (shf g (min (2 ^ d) n)) d 0 (n - min (2 ^ d) n)) := by
        rw [trV_shf]
        show (if n = 0 then _ else _) = _
        rw [if_neg h0, Nat.zero_add, Nat.add_zero]
      rw [hv]
      obtain ⟨h, hh⟩ : ∃ h, h = min (2 ^ d) n := ⟨_, rfl⟩
      rw [← hh]
      have hz0 := zero_root
      have b0 : ((n : Int) == 0) = false := by simp; omega
      obtain ⟨m, em⟩ : ∃ m : Nat, m = d + 1 := ⟨_, rfl⟩
      rw [← em]
      have b1 : ((m : Int) == 0) = false := by simp; omega
      have e1 : (m : Int) - 1 = (d : Int) := by omega
      have e2 : IntKind.i64.wrap (d : Int) = (d : Int) := by rw [IntKind.wrap_i64]; omega
      have hs := shl_one d (by omega)
      obtain ⟨X, eX⟩ : ∃ X : Nat, 2 ^ d = X := ⟨_, rfl⟩
      rw [eX] at hs hh
      have hm1 : (m : Int) ≤ 41 := by omega
      have hle : h ≤ n := by omega
      have tail : (wrap64 ((2 : Int) ^ d) = (h : Int) ∧ decide (n < h) = false) ∨ (wrap64 ((2 : Int) ^ d) = (X : Int) ∧ decide (n < X) = true ∧ h = n) := by
        by_cases hx : n < X
        · exact .inr ⟨hs, by simp; omega, by omega⟩
        · exact .inl ⟨by rw [hs]; congr 1; omega, by simp; omega⟩
      have s1 := fun W => slr_run W a n cap 0 h none (some (.int .i64 h)) (.inr ⟨rfl, rfl⟩) (.inl rfl) (by omega) hle hnc
      rw [ofs_zero, Nat.sub_zero, Nat.sub_zero] at s1
      have s2 := fun W => slr_run W a n cap h n (some (.int .i64 h)) none (.inl rfl) (.inr ⟨rfl, rfl⟩) hle (Nat.le_refl _) hnc
      obtain ⟨W0, hW0⟩ : ∃ W, w.alloc (.cells (vs .u8 32 fun _ => 0) 27) = W := ⟨_, rfl⟩
      have hB0 : Below w.heap.size w W0 := by rw [← hW0]; exact (Below.refl _ _).alloc (Nat.le_refl _) _
      have r0 : W0.heap[w.heap.size]? = some (.cells (vs .u8 32 fun _ => 0) 27) := by rw [← hW0]; exact heap_new rfl
      have z0 : W0.heap.size = w.heap.size + 1 := by rw [← hW0]; simp
      have hbw : ∀ W, Below W0.heap.size W0 W → Below w.heap.size w W := fun W h => hB0.trans (h.mono (by omega))
      have hc1 : ∀ W, Below W0.heap.size W0 W → Calls Tryd.prog 29 #[.slice a h cap, .int .i64 d, .slice az lz capz] W fun e w' => e = .returned (.agg (vs .u8 32 (trV g d 0 h))) ∧ Below W0.heap.size W0 w' := by
        intro W hW
        have hb := hbw W hW
        refine (ih W a h cap g az lz capz (hC.below hb) ((hr.below hb).cut hle) (fun q hq => hg q (by omega)) (hz.below hb) (by omega) hlz (by omega) (by omega) (by omega)).mono ?_
        rintro e w' ⟨rfl, hb'⟩
        exact ⟨rfl, hW.trans (hb'.mono hW.size)⟩
      have hc2 : ∀ W, Below W0.heap.size W0 W → Calls Tryd.prog 29 #[.slice (ofs a cap h) (n - h) (cap - h), .int .i64 d, .slice az lz capz] W fun e w' => e = .returned (.agg (vs .u8 32 (trV (shf g h) d 0 (n - h)))) ∧ Below W0.heap.size W0 w' := by
        intro W hW
        have hb := hbw W hW
        refine (ih W (ofs a cap h) (n - h) (cap - h) (shf g h) az lz capz (hC.below hb) ((hr.below hb).part h n hle (Nat.le_refl _)) (fun q hq => hg _ (by omega)) (hz.below hb) (by omega) hlz (by omega) (by omega) (by omega)).mono ?_
        rintro e w' ⟨rfl, hb'⟩
        exact ⟨rfl, hW.trans (hb'.mono hW.size)⟩
      have hv1 := trV_bd (f := g) d 0 h (fun q hq => hg q (by omega))
      have hv2 := trV_bd (f := shf g h) d 0 (n - h) (fun q hq => hg _ (by omega))
      obtain ⟨V1, eV1⟩ : ∃ V, trV g d 0 h = V := ⟨_, rfl⟩
      obtain ⟨V2, eV2⟩ : ∃ V, trV (shf g h) d 0 (n - h) = V := ⟨_, rfl⟩
      rw [eV1] at hc1 hv1 ⊢
      rw [eV2] at hc2 hv2 ⊢
      have htw : ∀ W, Below W0.heap.size W0 W → Calls Tryd.prog 32 #[.agg (vs .u8 32 V1), .agg (vs .u8 32 V2)] W fun e w' => e = .returned (.agg (vs .u8 32 (tw V1 V2))) ∧ Below W0.heap.size W0 w' := by
        intro W hW
        refine (rtwo_tw V1 V2 W (hC.below (hbw W hW)) hv1 hv2).mono ?_
        rintro e w' ⟨rfl, hb'⟩
        exact ⟨rfl, hW.trans (hb'.mono hW.size)⟩
      have hdr : Below W0.heap.size W0 W0.drew := ⟨rfl, rfl, rfl, Nat.le_refl _, fun _ _ => rfl⟩
      have hfin : ∀ W, Below W0.heap.size W0 W → (sv24 ⟨w.heap.size, 0, none⟩ (.agg (vs .u8 32 (tw V1 V2)))).run Tryd.prog W = .ok () (W.setRow w.heap.size (vs .u8 32 (tw V1 V2))) ∧ (W.setRow w.heap.size (vs .u8 32 (tw V1 V2))).heap[w.heap.size]? = some (.cells (vs .u8 32 (tw V1 V2)) 27) ∧ Below w.heap.size w (W.setRow w.heap.size (vs .u8 32 (tw V1 V2))) := by
        intro W hW
        have r1 := (hW.block w.heap.size (by omega)).trans r0
        exact ⟨sv24_run r1 _, setRow_at r1, below_row (hbw W hW) (Nat.le_refl _) _⟩
      have HC1 := hid hc1
      have HC2 := hid hc2
      have HTW := hid htw
      have HDR := hid hdr
      have HFIN := hid hfin
      have HW0 := hid hW0
      have dd : (d : Int) ≤ 40 := by omega
      clear hc1 hc2 htw hdr hfin hW0 hB0 r0 z0 hbw hv1 hv2 eV1 eV2 hs hv em eX hh ih hC hr hg hz
      go_enter Tryd.func29, Tryd.ntmps29
      rcases tail with ⟨t1, t2⟩ | ⟨t1, t2, rfl⟩
      · go_upto_region 8 with fail
        rw [HW0.out]
        refine wp_region_noPanic ?_
        refine wp_region_held_drew (S := fun _ => True) (by kernel_rfl) (trivial) (fun hHeld => ?_)
        refine wpAnyH_take (i := 0) (v := ?v1) rfl (by kernel_rfl) (by kernel_rfl) (by kernel_rfl) (fun _ _ _ h => h) (Or.inl ⟨by rfl, ?hy1⟩) hHeld ?rest1
        case hy1 =>
          intro w hSw
          go_simp
          try with_reducible rfl
        try simp only [Act.put, List.setIfInBounds_toArray, List.set_cons_zero, List.set_cons_succ, Array.toArray_toList, List.getElem_toArray, List.getElem_cons_zero, List.getElem_cons_succ]
        refine wpAnyH_take (i := 1) (v := ?v2) rfl (by kernel_rfl) (by kernel_rfl) (by kernel_rfl) (fun _ _ _ h => h) (Or.inl ⟨by rfl, ?hy2⟩) hHeld ?rest2
        case hy2 =>
          intro w hSw
          go_simp
          try with_reducible rfl
        try simp only [Act.put, List.setIfInBounds_toArray, List.set_cons_zero, List.set_cons_succ, Array.toArray_toList, List.getElem_toArray, List.getElem_cons_zero, List.getElem_cons_succ]
        refine wpAnyH_take (i := 2) (v := ?v3) rfl (by kernel_rfl) (by kernel_rfl) (by kernel_rfl) (fun _ _ _ h => h) (Or.inl ⟨by rfl, ?hy3⟩) hHeld ?rest3
        case hy3 =>
          intro w hSw
          go_simp
          try with_reducible rfl
        try simp only [Act.put, List.setIfInBounds_toArray, List.set_cons_zero, List.set_cons_succ, Array.toArray_toList, List.getElem_toArray, List.getElem_cons_zero, List.getElem_cons_succ]
        refine wpAnyH_take (i := 3) (v := ?v4) rfl (by kernel_rfl) (by kernel_rfl) (by kernel_rfl) (fun _ _ _ h => h) (Or.inl ⟨by rfl, ?hy4⟩) hHeld ?rest4
        case hy4 =>
          intro w hSw
          go_simp
          try with_reducible rfl
        try simp only [Act.put, List.setIfInBounds_toArray, List.set_cons_zero, List.set_cons_succ, Array.toArray_toList, List.getElem_toArray, List.getElem_cons_zero, List.getElem_cons_succ]
        refine wpAnyH_take (i := 4) (v := ?v5) rfl (by kernel_rfl) (by kernel_rfl) (by kernel_rfl) (fun _ _ _ h => h) (Or.inl ⟨by rfl, ?hy5⟩) hHeld ?rest5
        case hy5 =>
          intro w hSw
          go_simp
          try with_reducible rfl
        try simp only [Act.put, List.setIfInBounds_toArray, List.set_cons_zero, List.set_cons_succ, Array.toArray_toList, List.getElem_toArray, List.getElem_cons_zero, List.getElem_cons_succ]
        refine wpAnyH_take (i := 5) (v := ?v6) rfl (by kernel_rfl) (by kernel_rfl) (by kernel_rfl) (fun _ _ _ h => h) (Or.inl ⟨by rfl, ?hy6⟩) hHeld ?rest6
        case hy6 =>
          intro w hSw
          go_simp
          try with_reducible rfl
        try simp only [Act.put, List.setIfInBounds_toArray, List.set_cons_zero, List.set_cons_succ, Array.toArray_toList, List.getElem_toArray, List.getElem_cons_zero, List.getElem_cons_succ]
        refine wpAnyH_take (i := 7) (v := ?v7) rfl (by kernel_rfl) (by kernel_rfl) (by kernel_rfl) (fun _ _ _ h => h) (Or.inl ⟨by rfl, ?hy7⟩) hHeld ?rest7
        case hy7 =>
          intro w hSw
          go_simp
          try with_reducible rfl
        try simp only [Act.put, List.setIfInBounds_toArray, List.set_cons_zero, List.set_cons_succ, Array.toArray_toList, List.getElem_toArray, List.getElem_cons_zero, List.getElem_cons_succ]
        refine wpAnyH_take (i := 8) (v := ?v8) rfl (by kernel_rfl) (by kernel_rfl) (by kernel_rfl) (fun _ _ _ h => h) (Or.inl ⟨by rfl, ?hy8⟩) hHeld ?rest8
        case hy8 =>
          intro w hSw
          go_simp
          try with_reducible rfl
        try simp only [Act.put, List.setIfInBounds_toArray, List.set_cons_zero, List.set_cons_succ, Array.toArray_toList, List.getElem_toArray, List.getElem_cons_zero, List.getElem_cons_succ]
        refine wpAnyH_take (i := 9) (v := ?v9) rfl (by kernel_rfl) (by kernel_rfl) (by kernel_rfl) (fun _ _ _ h => h) (Or.inl ⟨by rfl, ?hy9⟩) hHeld ?rest9
        case hy9 =>
          intro w hSw
          go_simp
          try with_reducible rfl
        try simp only [Act.put, List.setIfInBounds_toArray, List.set_cons_zero, List.set_cons_succ, Array.toArray_toList, List.getElem_toArray, List.getElem_cons_zero, List.getElem_cons_succ]
        refine wpAnyH_take (i := 10) (v := ?v10) rfl (by kernel_rfl) (by kernel_rfl) (by kernel_rfl) (fun _ _ _ h => h) (Or.inl ⟨by rfl, ?hy10⟩) hHeld ?rest10
        case hy10 =>
          intro w hSw
          go_simp
          try with_reducible rfl
        try simp only [Act.put, List.setIfInBounds_toArray, List.set_cons_zero, List.set_cons_succ, Array.toArray_toList, List.getElem_toArray, List.getElem_cons_zero, List.getElem_cons_succ]
        refine wpAnyH_take (i := 11) (v := ?v11) rfl (by kernel_rfl) (by kernel_rfl) (by kernel_rfl) (fun _ _ _ h => h) (Or.inl ⟨by rfl, ?hy11⟩) hHeld ?rest11
        case hy11 =>
          intro w hSw
          go_simp
          try with_reducible rfl
        try simp only [Act.put, List.setIfInBounds_toArray, List.set_cons_zero, List.set_cons_succ, Array.toArray_toList, List.getElem_toArray, List.getElem_cons_zero, List.getElem_cons_succ]
        refine wpAnyH_take (i := 12) (v := ?v12) rfl (by kernel_rfl) (by kernel_rfl) (by kernel_rfl) (fun _ _ _ h => h) (Or.inl ⟨by rfl, ?hy12⟩) hHeld ?rest12
        case hy12 =>
          intro w hSw
          go_simp
          try with_reducible rfl
        try simp only [Act.put, List.setIfInBounds_toArray, List.set_cons_zero, List.set_cons_succ, Array.toArray_toList, List.getElem_toArray, List.getElem_cons_zero, List.getElem_cons_succ]
        refine wpAnyH_ready (rs := [6]) (by kernel_rfl) (by simp) ?_
        refine AllReadyH.cons rfl (fun K hK => ?_) AllReadyH.nil
        go_simp
        refine (HC1.out _ HDR.out).mono ?_
        rintro e w2 ⟨rfl, hs1⟩
        dsimp only
        refine hK.out _ _ (trivial) (fun hHeld => ?_)
        clear hK K
        try simp only [Act.put, List.setIfInBounds_toArray, List.set_cons_zero, List.set_cons_succ, Array.toArray_toList, List.getElem_toArray, List.getElem_cons_zero, List.getElem_cons_succ]
        refine wpAnyH_ready (rs := [13]) (by kernel_rfl) (by simp) ?_
        refine AllReadyH.cons rfl (fun K hK => ?_) AllReadyH.nil
        go_simp
        refine (HC2.out _ hs1).mono ?_
        rintro e w3 ⟨rfl, hs2⟩
        dsimp only
        refine hK.out _ _ (trivial) (fun hHeld => ?_)
        clear hK K
        try simp only [Act.put, List.setIfInBounds_toArray, List.set_cons_zero, List.set_cons_succ, Array.toArray_toList, List.getElem_toArray, List.getElem_cons_zero, List.getElem_cons_succ]
        refine wpAnyH_ready (rs := [14]) (by kernel_rfl) (by simp) ?_
        refine AllReadyH.cons rfl (fun K hK => ?_) AllReadyH.nil
        go_simp
        refine (HTW.out _ hs2).mono ?_
        rintro e w4 ⟨rfl, hs3⟩
        dsimp only
        refine hK.out _ _ (trivial) (fun hHeld => ?_)
        clear hK K
        try simp only [Act.put, List.setIfInBounds_toArray, List.set_cons_zero, List.set_cons_succ, Array.toArray_toList, List.getElem_toArray, List.getElem_cons_zero, List.getElem_cons_succ]
        have hf := HFIN.out _ hs3
        have sv := hf.1
        refine wpAnyH_ready (rs := [15]) (by kernel_rfl) (by simp) ?_
        refine AllReadyH.cons rfl (fun K hK => ?_) AllReadyH.nil
        go_simp
        refine hK.out _ _ (trivial) (fun hHeld => ?_)
        clear hK K
        try simp only [Act.put, List.setIfInBounds_toArray, List.set_cons_zero, List.set_cons_succ, Array.toArray_toList, List.getElem_toArray, List.getElem_cons_zero, List.getElem_cons_succ]
        refine wpAnyH_done (by kernel_rfl) ?_ _
        refine NoPanic.normal ?_
        go_wp2
        exact ret24 6 w.heap.size _ 27 rfl rfl rfl hf.2.1 ⟨rfl, hf.2.2⟩
      · go_upto_region 8 with fail
        rw [HW0.out]
        have hc2 := HC2.out
        rw [Nat.sub_self] at hc2 s2
        clear HC2
        have HC2 := hid hc2
        clear hc2
        refine wp_region_noPanic ?_
        refine wp_region_held_drew (S := fun _ => True) (by kernel_rfl) (trivial) (fun hHeld => ?_)
        refine wpAnyH_take (i := 0) (v := ?v13) rfl (by kernel_rfl) (by kernel_rfl) (by kernel_rfl) (fun _ _ _ h => h) (Or.inl ⟨by rfl, ?hy13⟩) hHeld ?rest13
        case hy13 =>
          intro w hSw
          go_simp
          try with_reducible rfl
        try simp only [Act.put, List.setIfInBounds_toArray, List.set_cons_zero, List.set_cons_succ, Array.toArray_toList, List.getElem_toArray, List.getElem_cons_zero, List.getElem_cons_succ]
        refine wpAnyH_take (i := 1) (v := ?v14) rfl (by kernel_rfl) (by kernel_rfl) (by kernel_rfl) (fun _ _ _ h => h) (Or.inl ⟨by rfl, ?hy14⟩) hHeld ?rest14
        case hy14 =>
          intro w hSw
          go_simp
          try with_reducible rfl
        try simp only [Act.put, List.setIfInBounds_toArray, List.set_cons_zero, List.set_cons_succ, Array.toArray_toList, List.getElem_toArray, List.getElem_cons_zero, List.getElem_cons_succ]
        refine wpAnyH_take (i := 2) (v := ?v15) rfl (by kernel_rfl) (by kernel_rfl) (by kernel_rfl) (fun _ _ _ h => h) (Or.inl ⟨by rfl, ?hy15⟩) hHeld ?rest15
        case hy15 =>
          intro w hSw
          go_simp
          try with_reducible rfl
        try simp only [Act.put, List.setIfInBounds_toArray, List.set_cons_zero, List.set_cons_succ, Array.toArray_toList, List.getElem_toArray, List.getElem_cons_zero, List.getElem_cons_succ]
        refine wpAnyH_take (i := 3) (v := ?v16) rfl (by kernel_rfl) (by kernel_rfl) (by kernel_rfl) (fun _ _ _ h => h) (Or.inl ⟨by rfl, ?hy16⟩) hHeld ?rest16
        case hy16 =>
          intro w hSw
          go_simp
          try with_reducible rfl
        try simp only [Act.put, List.setIfInBounds_toArray, List.set_cons_zero, List.set_cons_succ, Array.toArray_toList, List.getElem_toArray, List.getElem_cons_zero, List.getElem_cons_succ]
        refine wpAnyH_take (i := 4) (v := ?v17) rfl (by kernel_rfl) (by kernel_rfl) (by kernel_rfl) (fun _ _ _ h => h) (Or.inl ⟨by rfl, ?hy17⟩) hHeld ?rest17
        case hy17 =>
          intro w hSw
          go_simp
          try with_reducible rfl
        try simp only [Act.put, List.setIfInBounds_toArray, List.set_cons_zero, List.set_cons_succ, Array.toArray_toList, List.getElem_toArray, List.getElem_cons_zero, List.getElem_cons_succ]
        refine wpAnyH_take (i := 5) (v := ?v18) rfl (by kernel_rfl) (by kernel_rfl) (by kernel_rfl) (fun _ _ _ h => h) (Or.inl ⟨by rfl, ?hy18⟩) hHeld ?rest18
        case hy18 =>
          intro w hSw
          go_simp
          try with_reducible rfl
        try simp only [Act.put, List.setIfInBounds_toArray, List.set_cons_zero, List.set_cons_succ, Array.toArray_toList, List.getElem_toArray, List.getElem_cons_zero, List.getElem_cons_succ]
        refine wpAnyH_take (i := 7) (v := ?v19) rfl (by kernel_rfl) (by kernel_rfl) (by kernel_rfl) (fun _ _ _ h => h) (Or.inl ⟨by rfl, ?hy19⟩) hHeld ?rest19
        case hy19 =>
          intro w hSw
          go_simp
          try with_reducible rfl
        try simp only [Act.put, List.setIfInBounds_toArray, List.set_cons_zero, List.set_cons_succ, Array.toArray_toList, List.getElem_toArray, List.getElem_cons_zero, List.getElem_cons_succ]
        refine wpAnyH_take (i := 8) (v := ?v20) rfl (by kernel_rfl) (by kernel_rfl) (by kernel_rfl) (fun _ _ _ h => h) (Or.inl ⟨by rfl, ?hy20⟩) hHeld ?rest20
        case hy20 =>
          intro w hSw
          go_simp
          try with_reducible rfl
        try simp only [Act.put, List.setIfInBounds_toArray, List.set_cons_zero, List.set_cons_succ, Array.toArray_toList, List.getElem_toArray, List.getElem_cons_zero, List.getElem_cons_succ]
        refine wpAnyH_take (i := 9) (v := ?v21) rfl (by kernel_rfl) (by kernel_rfl) (by kernel_rfl) (fun _ _ _ h => h) (Or.inl ⟨by rfl, ?hy21⟩) hHeld ?rest21
        case hy21 =>
          intro w hSw
          go_simp
          try with_reducible rfl
        try simp only [Act.put, List.setIfInBounds_toArray, List.set_cons_zero, List.set_cons_succ, Array.toArray_toList, List.getElem_toArray, List.getElem_cons_zero, List.getElem_cons_succ]
        refine wpAnyH_take (i := 10) (v := ?v22) rfl (by kernel_rfl) (by kernel_rfl) (by kernel_rfl) (fun _ _ _ h => h) (Or.inl ⟨by rfl, ?hy22⟩) hHeld ?rest22
        case hy22 =>
          intro w hSw
          go_simp
          try with_reducible rfl
        try simp only [Act.put, List.setIfInBounds_toArray, List.set_cons_zero, List.set_cons_succ, Array.toArray_toList, List.getElem_toArray, List.getElem_cons_zero, List.getElem_cons_succ]
        refine wpAnyH_take (i := 11) (v := ?v23) rfl (by kernel_rfl) (by kernel_rfl) (by kernel_rfl) (fun _ _ _ h => h) (Or.inl ⟨by rfl, ?hy23⟩) hHeld ?rest23
        case hy23 =>
          intro w hSw
          go_simp
          try with_reducible rfl
        try simp only [Act.put, List.setIfInBounds_toArray, List.set_cons_zero, List.set_cons_succ, Array.toArray_toList, List.getElem_toArray, List.getElem_cons_zero, List.getElem_cons_succ]
        refine wpAnyH_take (i := 12) (v := ?v24) rfl (by kernel_rfl) (by kernel_rfl) (by kernel_rfl) (fun _ _ _ h => h) (Or.inl ⟨by rfl, ?hy24⟩) hHeld ?rest24
        case hy24 =>
          intro w hSw
          go_simp
          try with_reducible rfl
        try simp only [Act.put, List.setIfInBounds_toArray, List.set_cons_zero, List.set_cons_succ, Array.toArray_toList, List.getElem_toArray, List.getElem_cons_zero, List.getElem_cons_succ]
        refine wpAnyH_ready (rs := [6]) (by kernel_rfl) (by simp) ?_
        refine AllReadyH.cons rfl (fun K hK => ?_) AllReadyH.nil
        go_simp
        refine (HC1.out _ HDR.out).mono ?_
        rintro e w2 ⟨rfl, hs1⟩
        dsimp only
        refine hK.out _ _ (trivial) (fun hHeld => ?_)
        clear hK K
        try simp only [Act.put, List.setIfInBounds_toArray, List.set_cons_zero, List.set_cons_succ, Array.toArray_toList, List.getElem_toArray, List.getElem_cons_zero, List.getElem_cons_succ]
        refine wpAnyH_ready (rs := [13]) (by kernel_rfl) (by simp) ?_
        refine AllReadyH.cons rfl (fun K hK => ?_) AllReadyH.nil
        go_simp
        refine (HC2.out _ hs1).mono ?_
        rintro e w3 ⟨rfl, hs2⟩
        dsimp only
        refine hK.out _ _ (trivial) (fun hHeld => ?_)
        clear hK K
        try simp only [Act.put, List.setIfInBounds_toArray, List.set_cons_zero, List.set_cons_succ, Array.toArray_toList, List.getElem_toArray, List.getElem_cons_zero, List.getElem_cons_succ]
        refine wpAnyH_ready (rs := [14]) (by kernel_rfl) (by simp) ?_
        refine AllReadyH.cons rfl (fun K hK => ?_) AllReadyH.nil
        go_simp
        refine (HTW.out _ hs2).mono ?_
        rintro e w4 ⟨rfl, hs3⟩
        dsimp only
        refine hK.out _ _ (trivial) (fun hHeld => ?_)
        clear hK K
        try simp only [Act.put, List.setIfInBounds_toArray, List.set_cons_zero, List.set_cons_succ, Array.toArray_toList, List.getElem_toArray, List.getElem_cons_zero, List.getElem_cons_succ]
        have hf := HFIN.out _ hs3
        have sv := hf.1
        refine wpAnyH_ready (rs := [15]) (by kernel_rfl) (by simp) ?_
        refine AllReadyH.cons rfl (fun K hK => ?_) AllReadyH.nil
        go_simp
        refine hK.out _ _ (trivial) (fun hHeld => ?_)
        clear hK K
        try simp only [Act.put, List.setIfInBounds_toArray, List.set_cons_zero, List.set_cons_succ, Array.toArray_toList, List.getElem_toArray, List.getElem_cons_zero, List.getElem_cons_succ]
        refine wpAnyH_done (by kernel_rfl) ?_ _
        refine NoPanic.normal ?_
        go_wp2
        exact ret24 6 w.heap.size _ 27 rfl rfl rfl hf.2.1 ⟨rfl, hf.2.2⟩

end Go.Proofs.YtahnlfiahchdeaaDoor
