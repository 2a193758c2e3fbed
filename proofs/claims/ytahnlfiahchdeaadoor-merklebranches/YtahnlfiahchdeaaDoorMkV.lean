/-
  append onto a row of roots in a region that draws its order; what the reference's zeros answers.
-/
import Derived.Test.YtahnlfiahchdeaaDoorMkN
import Derived.Test.YtahnlfiahchdeaaDoorMkS
namespace Go.Proofs.YtahnlfiahchdeaaDoor
open Go.RowKit
set_option linter.unusedVariables false
set_option linter.unusedSimpArgs false

theorem bl_app (m m' f : Nat → Int) (n len : Nat) (hm1 : ∀ q, q < 32 * n → m' q = m q) (hm2 : ∀ q, q < 32 * len → m' (32 * n + q) = f q) : bl m (32 * n) ++ bl f (32 * len) = bl m' (32 * (n + len)) := by
  unfold bl
  rw [Nat.mul_add, List.range_add, List.map_append, List.map_map]
  congr 1
  · exact List.map_congr_left fun j hj => by rw [hm1 j (List.mem_range.1 hj)]
  · refine List.map_congr_left fun j hj => ?_
    show Value.int .u8 (f j) = Value.int .u8 (m' (32 * n + j))
    rw [hm2 j (List.mem_range.1 hj)]
/-- append of roots onto a row of the call's own: the old roots stay where they lay. -/
theorem apR_onto (w : World) (base g n cap : Nat) (m : Nat → Int) (hown : w.ownsRow base 27 32 (.slice (some ⟨g, 0, none⟩) n cap) n (bl m (32 * n))) (b off len c : Nat) (f : Nat → Int)
    (hc : ∀ j, j < 32 * len → w.cell? ⟨b, off + j, none⟩ = some (.int .u8 (f j))) (hbd : (n + len) * 32 ≤ 140737488355328) (hbase : base ≤ w.heap.size)
    (m' : Nat → Int) (hm1 : ∀ q, q < 32 * n → m' q = m q) (hm2 : ∀ q, q < 32 * len → m' (32 * n + q) = f q) (ty : TypeId) :
    ∃ v' w', (apR ty (.slice (some ⟨g, 0, none⟩) n cap) (.slice (some ⟨b, off, none⟩) len c)).run Tryd.prog w = .ok v' w' ∧ w'.ownsRow base 27 32 v' (n + len) (bl m' (32 * (n + len))) ∧ w.grownBy w' (some g) ∧ ∀ j, j < 32 * n → w'.cell? ⟨g, j, none⟩ = some (.int .u8 (m j)) := by
  obtain ⟨i, hi, hz0, hz1, hz2⟩ := infoR
  have hzz : (Value.agg (vs .u8 32 fun _ => 0)).cells.size = 32 := by simp [Value.cells, vs_size]
  have e := bl_app m m' f n len hm1 hm2
  have hnews : ∀ j u, (bl f (32 * len))[j]? = some u → w.cell? ((⟨b, off, none⟩ : Addr).add j) = some u := fun j u hj => by
    obtain ⟨h1, rfl⟩ := bl_get f (32 * len) j u hj
    rw [addr_add]
    exact hc j h1
  obtain ⟨v', w', hrun, ho, hg, _, _⟩ := run_append_own_at (P := Tryd.prog) w base 22 ty 27 i _ 32 32 Tryd.underlying22 hi hz0 hz1 hz2 hzz (by decide) _ n _ hown ⟨b, off, none⟩ len c (bl f (32 * len)) (by rw [bl_len]; omega) hnews (bl_one f _) (by unfold maxLen; omega) (by omega) hbase
  rw [e] at ho
  refine ⟨v', w', hrun, ho, hg, ?_⟩
  rcases hown.2 with ⟨h, _⟩ | ⟨g', cap', cur, h, hbg, hgg, hnc, hcm, hcs, htake⟩
  · cases h
  · cases h
    by_cases hroom : n + len ≤ cap
    · have hr := run_append_room (P := Tryd.prog) w 22 ty 27 i Tryd.underlying22 hi g n cap cur hgg ⟨b, off, none⟩ len c (bl f (32 * len)) (by rw [bl_len, hz1]; omega) hnews (bl_one f _) hroom (by rw [bl_len, hcs, hz1]; omega)
      have e2 := hrun.symm.trans hr
      injection e2 with e3 e4
      subst e3
      intro j hj
      rw [ho.cellAt j (by omega), bl_at _ _ _ (by omega), hm1 j hj]
    · have hr := run_append_grow (P := Tryd.prog) w 22 ty 27 i _ Tryd.underlying22 hi hz0 ⟨g, 0, none⟩ n cap (bl m (32 * n)) (by rw [bl_len, hz1]; omega) (hown.cells (g := g) rfl) ⟨b, off, none⟩ len c (bl f (32 * len)) (by rw [bl_len, hz1]; omega) hnews (by omega) (by omega) (growslice_fits (by omega) (by rw [hz2]; omega))
      have e2 := hrun.symm.trans hr
      injection e2 with e3 e4
      subst e4
      intro j hj
      have := hown.cellAt j (by omega)
      rw [bl_at _ _ _ hj] at this
      rw [← this]
      exact World.cell?_alloc_lt _ _ _ (Array.getElem?_eq_some_iff.1 hgg).1
theorem ownsRow_below {w w' : World} {B : Nat} {v : Value} {n s : Nat} {xs : List Value} {e : TypeId} (h : w.ownsRow B e s v n xs) (hb : Below w.heap.size w w') : w'.ownsRow B e s v n xs :=
  h.kept (row := none) ⟨hb.os, hb.tape, hb.output, hb.size, fun k hk _ => hb.block k hk⟩ (by cases v.ownBlock <;> simp)

attribute [local go_sem ↓] sv24_eq lv24_eq ix22_eq slr_eq lv48_eq sv48_eq bd48_eq bd27_eq bs22_eq sl22_eq mk22_eq eqo_eq

set_option maxRecDepth 20000 in
set_option maxHeartbeats 2000000 in
theorem rzeros_any (D : Nat) (w : World) (hC : Rc w) (hD : D ≤ 60) :
    Calls Tryd.prog 31 #[.int .i64 D] w fun e w' => ∃ a cap, e = .returned (.slice a (D + 1) cap) ∧ Below w.heap.size w w' ∧ Rts w' a (D + 1) cap zrf := by
  have HC := hid hC
  clear hC
  have b0 := bd27_0
  have b1 := bs22_1 w (fun _ => 0)
  have h0 : (w.alloc (.cells (vs .u8 32 fun _ => 0) 27)).ownsRow w.heap.size 27 32 (.slice (some ⟨w.heap.size, 0, none⟩) 1 1) 1 (bl zrf (32 * 1)) := by
    have := World.ownsRow_lit (base := w.heap.size) (size := 32) (e := 27) w (vs .u8 32 fun _ => 0) 1 (Nat.le_refl _) (by decide) (by rw [vs_size])
    rw [vs_list] at this
    have e : bl (fun _ => 0) 32 = bl zrf (32 * 1) := by
      unfold bl
      refine List.map_congr_left fun j hj => ?_
      have := List.mem_range.1 hj
      unfold zrf
      rw [show j / 32 = 0 by omega]
      rfl
    have this2 : (w.alloc (.cells (vs .u8 32 fun _ => 0) 27)).ownsRow w.heap.size 27 32 (.slice (some ⟨w.heap.size, 0, none⟩) 1 1) 1 (bl (fun _ => 0) 32) := this
    rw [e] at this2
    exact this2
  have hB0 : Below w.heap.size w (w.alloc (.cells (vs .u8 32 fun _ => 0) 27)) := (Below.refl _ _).alloc (Nat.le_refl _) _
  have H0 := hid h0
  have HB0 := hid hB0
  clear h0 hB0
  go_enter Tryd.func31, Tryd.ntmps31
  go_wp2
  go_loopw [3] (fun v wr => ∃ k g cap : Nat, 1 ≤ k ∧ k ≤ D + 1 ∧ v = .slice (some ⟨g, 0, none⟩) k cap ∧ Below w.heap.size w wr ∧ wr.ownsRow w.heap.size 27 32 v k (bl zrf (32 * k))) (fun v _ => match v with | .slice _ k _ => D + 1 - k | _ => 0)
  case atStart => exact ⟨1, w.heap.size, 1, by omega, by omega, rfl, HB0.out, H0.out⟩
  case round =>
    obtain ⟨k, g, cap, hk1, hk2, rfl, hB, ho⟩ := hrel
    by_cases hlt : k ≤ D
    · have c1 : decide (k ≤ D) = true := by simp; omega
      have c2 : decide ((k : Int) ≤ (D : Int)) = true := by simp; omega
      obtain ⟨K, rfl⟩ : ∃ K, k = K + 1 := ⟨k - 1, by omega⟩
      obtain ⟨k, ek⟩ : ∃ k, K + 1 = k := ⟨_, rfl⟩
      rw [ek] at c1 c2 ho ⊢
      have s1 : (k : Int) - 1 = (K : Int) := by omega
      have hKb : K ≤ 60 := by omega
      have wK : IntKind.i64.wrap (K : Int) = (K : Int) := i64_of _ (by omega) (by omega)
      have hx : ∀ W, (ix22 (.slice (some ⟨g, 0, none⟩) k cap) (.int .i64 K)).run Tryd.prog W = .ok (.pointer (some ⟨g, 32 * K, none⟩)) W := fun W => by
        have := ix22_run W g 0 k cap K (by omega)
        rw [Nat.zero_add] at this
        exact this
      have hcl : ∀ j, j < 32 * k → wr.cell? ⟨g, j, none⟩ = some (.int .u8 (zrf j)) := fun j hj => by rw [ho.cellAt j (by omega), bl_at _ _ _ hj]
      have hgl : g < wr.heap.size := (ho.lt g rfl).2
      have hl : ∀ W, (Below w.heap.size w W ∧ ∀ j, j < 32 * k → W.cell? ⟨g, j, none⟩ = some (.int .u8 (zrf j))) → (lv24 ⟨g, 32 * K, none⟩).run Tryd.prog W = .ok (.agg (vs .u8 32 (zr K))) W := fun W h => by
        have := lv24_mid (w := W) (b := g) (o := 32 * K) (c := rt32 zrf K) (fun j hj => h.2 _ (by omega))
        rw [zrf_at] at this
        exact this
      have hS0 : Below w.heap.size w wr.drew ∧ ∀ j, j < 32 * k → wr.drew.cell? ⟨g, j, none⟩ = some (.int .u8 (zrf j)) := ⟨hB.drew, hcl⟩
      have htw : Calls Tryd.prog 32 #[.agg (vs .u8 32 (zr K)), .agg (vs .u8 32 (zr K))] wr.drew fun e w' => e = .returned (.agg (vs .u8 32 (zr k))) ∧ Below wr.heap.size wr w' := by
        refine (rtwo_tw (zr K) (zr K) wr.drew (HC.out.below hB.drew) (fun j _ => zr_bd K j) (fun j _ => zr_bd K j)).mono ?_
        rintro e w' ⟨rfl, hb⟩
        refine ⟨by rw [← ek]; rfl, ((Below.refl wr.heap.size wr).drew).trans hb⟩
      have hkp : ∀ W, Below wr.heap.size wr W → (Below w.heap.size w W ∧ ∀ j, j < 32 * k → W.cell? ⟨g, j, none⟩ = some (.int .u8 (zrf j))) := fun W h => ⟨hB.trans (h.mono hB.size), fun j hj => (below_cell h hgl).trans (hcl j hj)⟩
      have b2 := fun W => bs22_1 W (zr k)
      have hap : ∀ W ty, Below wr.heap.size wr W → ∃ v' w', (apR ty (.slice (some ⟨g, 0, none⟩) k cap) (.slice (some ⟨W.heap.size, 0, none⟩) 1 1)).run Tryd.prog (W.alloc (.cells (vs .u8 32 (zr k)) 27)) = .ok v' w' ∧ w'.ownsRow w.heap.size 27 32 v' (k + 1) (bl zrf (32 * (k + 1))) ∧ Below w.heap.size w w' ∧ ∀ j, j < 32 * k → w'.cell? ⟨g, j, none⟩ = some (.int .u8 (zrf j)) := by
        intro W ty h
        have hwk := h.size
        have hbs := hB.size
        have ho1 := (ownsRow_below ho h).alloc (.cells (vs .u8 32 (zr k)) 27)
        obtain ⟨v', w', hr, h1, h2, h3⟩ := apR_onto (W.alloc (.cells (vs .u8 32 (zr k)) 27)) w.heap.size g k cap zrf ho1 W.heap.size 0 1 1 (zr k) (fun j hj => by rw [Nat.zero_add]; exact row_int (heap_new rfl) j (by omega)) (by omega) (by simp; omega) zrf (fun q _ => rfl) (fun q hq => by unfold zrf; rw [show (32 * k + q) / 32 = k by omega, show (32 * k + q) % 32 = q by omega]) ty
        exact ⟨v', w', hr, h1, below_grownS ((hB.trans (h.mono hB.size)).alloc (by omega) _) ho1 (by simp; omega) h2, h3⟩
      have hnew : ∀ W, Below wr.heap.size wr W → (Below w.heap.size w (W.alloc (.cells (vs .u8 32 (zr k)) 27)) ∧ ∀ j, j < 32 * k → (W.alloc (.cells (vs .u8 32 (zr k)) 27)).cell? ⟨g, j, none⟩ = some (.int .u8 (zrf j))) := fun W h => hkp _ (h.alloc h.size _)
      generalize zr K = C at hl htw
      generalize zr k = C2 at htw b2 hap hnew
      have HL := hid hl
      have HS0 := hid hS0
      have HTW := hid htw
      have HKP := hid hkp
      have HAP := hid hap
      have HNEW := hid hnew
      have EK := hid ek
      have HB := hid hB
      clear hl hS0 htw hkp hap hnew ek hB ho hcl
      go_upto_region 3 with fail
      refine wp_region_noPanic ?_
      refine wp_region_held_drew (S := fun W => Below w.heap.size w W ∧ ∀ j, j < 32 * k → W.cell? ⟨g, j, none⟩ = some (.int .u8 (zrf j))) (by kernel_rfl) (HS0.out) (fun hHeld => ?_)
      refine wpAnyH_take (i := 0) (v := ?v1) rfl (by kernel_rfl) (by kernel_rfl) (by kernel_rfl) (fun _ _ _ h => h) (Or.inl ⟨by rfl, ?hy1⟩) hHeld ?rest1
      case hy1 =>
        intro w hSw
        go_simp
        try with_reducible rfl
      try simp only [Act.put, List.setIfInBounds_toArray, List.set_cons_zero, List.set_cons_succ, Array.toArray_toList, List.getElem_toArray, List.getElem_cons_zero, List.getElem_cons_succ]
      refine wpAnyH_take (i := 1) (v := ?v2) rfl (by kernel_rfl) (by kernel_rfl) (by kernel_rfl) (fun _ _ _ h => h) (Or.inl ⟨by rfl, ?hy2⟩) hHeld ?rest2
      case hy2 =>
        intro w hSw
        go_simp
        try with_reducible rfl
      try simp only [Act.put, List.setIfInBounds_toArray, List.set_cons_zero, List.set_cons_succ, Array.toArray_toList, List.getElem_toArray, List.getElem_cons_zero, List.getElem_cons_succ]
      refine wpAnyH_take (i := 2) (v := ?v3) rfl (by kernel_rfl) (by kernel_rfl) (by kernel_rfl) (fun _ _ _ h => h) (Or.inl ⟨by rfl, ?hy3⟩) hHeld ?rest3
      case hy3 =>
        intro w hSw
        go_simp
        try with_reducible rfl
      try simp only [Act.put, List.setIfInBounds_toArray, List.set_cons_zero, List.set_cons_succ, Array.toArray_toList, List.getElem_toArray, List.getElem_cons_zero, List.getElem_cons_succ]
      refine wpAnyH_take (i := 3) (v := ?v4) rfl (by kernel_rfl) (by kernel_rfl) (by kernel_rfl) (fun _ _ _ h => h) (Or.inl ⟨by rfl, ?hy4⟩) hHeld ?rest4
      case hy4 =>
        intro w hSw
        go_simp
        try with_reducible rfl
      try simp only [Act.put, List.setIfInBounds_toArray, List.set_cons_zero, List.set_cons_succ, Array.toArray_toList, List.getElem_toArray, List.getElem_cons_zero, List.getElem_cons_succ]
      refine wpAnyH_take (i := 4) (v := ?v5) rfl (by kernel_rfl) (by kernel_rfl) (by kernel_rfl) (fun _ _ _ h => h) (Or.inl ⟨by rfl, ?hy5⟩) hHeld ?rest5
      case hy5 =>
        intro w hSw
        go_simp
        try with_reducible rfl
      try simp only [Act.put, List.setIfInBounds_toArray, List.set_cons_zero, List.set_cons_succ, Array.toArray_toList, List.getElem_toArray, List.getElem_cons_zero, List.getElem_cons_succ]
      refine wpAnyH_take (i := 5) (v := ?v6) rfl (by kernel_rfl) (by kernel_rfl) (by kernel_rfl) (fun _ _ _ h => h) (Or.inl ⟨by rfl, ?hy6⟩) hHeld ?rest6
      case hy6 =>
        intro w hSw
        go_simp
        try with_reducible rfl
      try simp only [Act.put, List.setIfInBounds_toArray, List.set_cons_zero, List.set_cons_succ, Array.toArray_toList, List.getElem_toArray, List.getElem_cons_zero, List.getElem_cons_succ]
      refine wpAnyH_take (i := 6) (v := ?v7) rfl (by kernel_rfl) (by kernel_rfl) (by kernel_rfl) (fun _ _ _ h => h) (Or.inl ⟨by rfl, ?hy7⟩) hHeld ?rest7
      case hy7 =>
        intro w hSw
        have ld := HL.out _ hSw
        go_simp
        try with_reducible rfl
      try simp only [Act.put, List.setIfInBounds_toArray, List.set_cons_zero, List.set_cons_succ, Array.toArray_toList, List.getElem_toArray, List.getElem_cons_zero, List.getElem_cons_succ]
      refine wpAnyH_take (i := 7) (v := ?v8) rfl (by kernel_rfl) (by kernel_rfl) (by kernel_rfl) (fun _ _ _ h => h) (Or.inl ⟨by rfl, ?hy8⟩) hHeld ?rest8
      case hy8 =>
        intro w hSw
        go_simp
        try with_reducible rfl
      try simp only [Act.put, List.setIfInBounds_toArray, List.set_cons_zero, List.set_cons_succ, Array.toArray_toList, List.getElem_toArray, List.getElem_cons_zero, List.getElem_cons_succ]
      refine wpAnyH_take (i := 8) (v := ?v9) rfl (by kernel_rfl) (by kernel_rfl) (by kernel_rfl) (fun _ _ _ h => h) (Or.inl ⟨by rfl, ?hy9⟩) hHeld ?rest9
      case hy9 =>
        intro w hSw
        go_simp
        try with_reducible rfl
      try simp only [Act.put, List.setIfInBounds_toArray, List.set_cons_zero, List.set_cons_succ, Array.toArray_toList, List.getElem_toArray, List.getElem_cons_zero, List.getElem_cons_succ]
      refine wpAnyH_take (i := 9) (v := ?v10) rfl (by kernel_rfl) (by kernel_rfl) (by kernel_rfl) (fun _ _ _ h => h) (Or.inl ⟨by rfl, ?hy10⟩) hHeld ?rest10
      case hy10 =>
        intro w hSw
        go_simp
        try with_reducible rfl
      try simp only [Act.put, List.setIfInBounds_toArray, List.set_cons_zero, List.set_cons_succ, Array.toArray_toList, List.getElem_toArray, List.getElem_cons_zero, List.getElem_cons_succ]
      refine wpAnyH_take (i := 10) (v := ?v11) rfl (by kernel_rfl) (by kernel_rfl) (by kernel_rfl) (fun _ _ _ h => h) (Or.inl ⟨by rfl, ?hy11⟩) hHeld ?rest11
      case hy11 =>
        intro w hSw
        go_simp
        try with_reducible rfl
      try simp only [Act.put, List.setIfInBounds_toArray, List.set_cons_zero, List.set_cons_succ, Array.toArray_toList, List.getElem_toArray, List.getElem_cons_zero, List.getElem_cons_succ]
      refine wpAnyH_take (i := 11) (v := ?v12) rfl (by kernel_rfl) (by kernel_rfl) (by kernel_rfl) (fun _ _ _ h => h) (Or.inl ⟨by rfl, ?hy12⟩) hHeld ?rest12
      case hy12 =>
        intro w hSw
        go_simp
        try with_reducible rfl
      try simp only [Act.put, List.setIfInBounds_toArray, List.set_cons_zero, List.set_cons_succ, Array.toArray_toList, List.getElem_toArray, List.getElem_cons_zero, List.getElem_cons_succ]
      refine wpAnyH_take (i := 12) (v := ?v13) rfl (by kernel_rfl) (by kernel_rfl) (by kernel_rfl) (fun _ _ _ h => h) (Or.inl ⟨by rfl, ?hy13⟩) hHeld ?rest13
      case hy13 =>
        intro w hSw
        have ld := HL.out _ hSw
        go_simp
        try with_reducible rfl
      try simp only [Act.put, List.setIfInBounds_toArray, List.set_cons_zero, List.set_cons_succ, Array.toArray_toList, List.getElem_toArray, List.getElem_cons_zero, List.getElem_cons_succ]
      refine wpAnyH_ready (rs := [13]) (by kernel_rfl) (by simp) ?_
      refine AllReadyH.cons rfl (fun K hK => ?_) AllReadyH.nil
      go_simp
      refine (HTW.out).mono ?_
      rintro e w1 ⟨rfl, hs1⟩
      dsimp only
      refine hK.out _ _ (HKP.out _ hs1) (fun hHeld => ?_)
      clear hK K
      try simp only [Act.put, List.setIfInBounds_toArray, List.set_cons_zero, List.set_cons_succ, Array.toArray_toList, List.getElem_toArray, List.getElem_cons_zero, List.getElem_cons_succ]
      refine wpAnyH_ready (rs := [14]) (by kernel_rfl) (by simp) ?_
      refine AllReadyH.cons rfl (fun K hK => ?_) AllReadyH.nil
      go_simp
      refine hK.out _ _ (HNEW.out _ hs1) (fun hHeld => ?_)
      clear hK K
      try simp only [Act.put, List.setIfInBounds_toArray, List.set_cons_zero, List.set_cons_succ, Array.toArray_toList, List.getElem_toArray, List.getElem_cons_zero, List.getElem_cons_succ]
      refine wpAnyH_ready (rs := [15]) (by kernel_rfl) (by simp) ?_
      refine AllReadyH.cons rfl (fun K hK => ?_) AllReadyH.nil
      obtain ⟨v2, w2, hr2, ho2, hs2⟩ := HAP.out _ 22 hs1
      rw [if_pos (by rfl)]
      refine wp_appendR_is _ _ rfl _ _ _ _ rfl rfl hr2 ?_
      refine hK.out _ _ hs2 (fun hHeld => ?_)
      clear hK K
      try simp only [Act.put, List.setIfInBounds_toArray, List.set_cons_zero, List.set_cons_succ, Array.toArray_toList, List.getElem_toArray, List.getElem_cons_zero, List.getElem_cons_succ]
      refine wpAnyH_take (i := 16) (v := ?v14) rfl (by kernel_rfl) (by kernel_rfl) (by kernel_rfl) (fun _ _ _ h => h) (Or.inl ⟨by rfl, ?hy14⟩) hHeld ?rest14
      case hy14 =>
        intro w hSw
        go_simp
        try with_reducible rfl
      try simp only [Act.put, List.setIfInBounds_toArray, List.set_cons_zero, List.set_cons_succ, Array.toArray_toList, List.getElem_toArray, List.getElem_cons_zero, List.getElem_cons_succ]
      refine wpAnyH_done (by kernel_rfl) ?_ _
      refine NoPanic.normal ?_
      go_wp2
      obtain ⟨a2, cap2, rfl, _⟩ := RowR.ofOwns ho2
      go_roundw
      case rel =>
        rcases ho2.2 with ⟨h, h'⟩ | ⟨g2, cap3, cur, h, _⟩
        · omega
        · exact ⟨k + 1, g2, cap2, by omega, by omega, by cases h; rfl, hs2.1, ho2⟩
      case measure => show D + 1 - (k + 1) < D + 1 - k; omega
    · have c1 : decide (k ≤ D) = false := by simp; omega
      have c2 : decide ((k : Int) ≤ (D : Int)) = false := by simp; omega
      obtain ⟨a2, cap2, ea, hrow⟩ := RowR.ofOwns ho
      have ek : k = D + 1 := by omega
      have HR := hid hrow.rts
      have HB := hid hB
      cases ea
      clear hB ho hrow
      go_wp2
      go_ret
      subst ek
      exact ⟨_, _, rfl, HB.out, HR.out⟩

end Go.Proofs.YtahnlfiahchdeaaDoor
