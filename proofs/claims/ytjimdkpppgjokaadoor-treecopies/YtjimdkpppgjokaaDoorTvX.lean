/-
  The reference's Append.
-/
import Derived.Test.YtjimdkpppgjokaaDoorTvA
namespace Go.Proofs.YtjimdkpppgjokaaDoor
open Go.RowKit
set_option linter.unusedVariables false
set_option linter.unusedSimpArgs false

attribute [local go_sem ↓] sv24_eq lv24_eq ix22_eq slr_eq bd27_eq bs22_eq eqo_eq

set_option maxRecDepth 20000 in
set_option maxHeartbeats 4000000 in
theorem rapp6 (W : World) (q n : Nat) (v : Value) (L : Nat) (f : Nat → Int) (hq : W.heap[q]? = some (.cells (rtA n v) 28)) (hv : W.ownsRow 0 33 32 v L (bl f (32 * L))) (hl : 32 * (L + 1) ≤ 140737488355328) (c : Nat → Int) (hn : n ≤ 1073741824) :
    Calls Tryd.prog 20 #[.pointer (some ⟨q, 0, none⟩), .agg (vs .u8 32 c)] W fun e w' => e = .returned (.int .i64 (appE n L)) ∧ RUp W w' q n v (appL n L) (appV n L f c) := by
  obtain ⟨a, cap, rfl⟩ := row_form hv
  have hql := (Array.getElem?_eq_some_iff.1 hq).1
  obtain ⟨W1, hW1⟩ : ∃ X, W.alloc (.cells (vs .u8 32 c) 33) = X := ⟨_, rfl⟩
  have z1 : W1.heap.size = W.heap.size + 1 := by rw [← hW1]; simp
  have hB1 : Below W.heap.size W W1 := by rw [← hW1]; exact (Below.refl _ _).alloc (Nat.le_refl _) _
  have rc1 : W1.heap[W.heap.size]? = some (.cells (vs .u8 32 c) 33) := by rw [← hW1]; exact heap_new rfl
  have rq1 := (hB1.block q hql).trans hq
  have hcq : ∀ X, Below W1.heap.size W1 X → X.heap[q]? = some (.cells (rtA n (.slice a L cap)) 28) := fun X h => (h.block q (by omega)).trans rq1
  have hc0 : ∀ X, Below W1.heap.size W1 X → X.cell? ⟨q, 0, none⟩ = some (.int .i64 n) := fun X h => (row_cell (hcq X h) 0).trans rfl
  have hc1 : ∀ X, Below W1.heap.size W1 X → X.cell? ⟨q, 1, none⟩ = some (.slice a L cap) := fun X h => (row_cell (hcq X h) 1).trans rfl
  have hcf : ∀ X, Below W1.heap.size W1 X → X.frozen? ⟨q, 1, none⟩ = false := fun X h => row_frozen (hcq X h) 1
  have hlc : ∀ X, Below W1.heap.size W1 X → (lv24 ⟨W.heap.size, 0, none⟩).run Tryd.prog X = .ok (.agg (vs .u8 32 c)) X := fun X h => lv24_run ((h.block _ (by omega)).trans rc1)
  have hdr : Below W1.heap.size W1 W1.drew := (Below.refl _ _).drew
  have LN := hid hc0
  have LQ := hid hc1
  have LC := hid hlc
  have HDR := hid hdr
  by_cases hlt : L < n
  · rw [show appE n L = 0 from if_pos hlt, show appL n L = L + 1 from if_pos hlt, show appV n L f c = upr f L c from if_pos hlt]
    have d1 : decide ((n : Int) ≤ (L : Int)) = false := by simp; omega
    have d2 : decide (n ≤ L) = false := by simp; omega
    have gW : ∀ X, Below W1.heap.size W1 X → X.ownsRow 0 33 32 (.slice a L cap) L (bl f (32 * L)) := fun X h => own_keep (row := none) hv ⟨h.os.trans hB1.os, h.tape.trans hB1.tape, h.output.trans hB1.output, by have := h.size; omega, fun k hk _ => (h.block k (by omega)).trans (hB1.block k hk)⟩ (fun b _ e => by cases e)
    have hfin : ∀ X v', Below W1.heap.size W1 X → X.ownsRow W1.heap.size 33 32 v' (L + 1) (bl (upr f L c) (32 * (L + 1))) → RUp W (X.setCell ⟨q, 1, none⟩ v') q n (.slice a L cap) (L + 1) (upr f L c) := fun X v' h ho => by
      have e1 := h.size
      refine ⟨⟨h.os.trans hB1.os, h.tape.trans hB1.tape, h.output.trans hB1.output, by rw [size_s]; omega, fun k hk hne => (heap_set_other (fun e => hne (by rw [e]))).trans ((h.block k (by omega)).trans (hB1.block k hk))⟩, v', row_set (hcq X h) 1 _, own_keep (ho.mono (Nat.zero_le _)) (grown_set X q 1 v') (fun b hb e => ?_), .inr (fun b hb => by have := (ho.lt b hb).1; omega)⟩
      cases e
      have := (ho.lt q hb).1
      omega
    have hset : ∀ X v', Below W1.heap.size W1 X → Below W1.heap.size W1 (X.setCell ⟨q, 1, none⟩ v') → False ∨ True := fun _ _ _ _ => .inr trivial
    -- the three orders
    obtain ⟨W0, hW0⟩ : ∃ X, W1.drew.drew = X := ⟨_, rfl⟩
    have hb0 : Below W1.heap.size W1 W0 := by rw [← hW0]; exact hdr.drew
    have HDR2 : Hid (Below W1.heap.size W1 W1.drew.drew) := hdr.drew
    have Z1A : Hid ((W0.alloc (.cells #[] 33)).heap.size = W0.heap.size + 1) := by simp [Hid]
    have z0 : W0.heap.size = W1.heap.size := by rw [← hW0]; rfl
    have al : ∀ X o, Below W1.heap.size W1 X → Below W1.heap.size W1 (X.alloc o) := fun X o h => h.alloc h.size _
    -- a: 1, 6, 8
    have ha0 := al W0 (.cells #[] 33) hb0
    obtain ⟨v6a, X6a, run6a, o6a, g6a, _⟩ := cpy_own (W0.alloc (.cells #[] 33)) W1.heap.size W0.heap.size (heap_new rfl) (by omega) (.slice a L cap) L f (gW _ ha0) (by omega) ha0.size 26
    have s6a := grown_below ha0 ha0.size g6a (fun b e => by have := Option.some.inj e; omega)
    obtain ⟨v9a, X9a, run9a, o9a, g9a, _⟩ := app1_own (X6a.alloc (.cells (vs .u8 32 c) 33)) W1.heap.size X6a.heap.size c (heap_new rfl) v6a L f (o6a.alloc _) hl (al _ _ s6a).size 26
    have s8a := al X6a (.cells (vs .u8 32 c) 33) s6a
    have s9a := grown_below s8a s8a.size g9a (fun b e => ((o6a.lt b e).1))
    -- b: 1, 8, 6
    have s8b := al (W0.alloc (.cells #[] 33)) (.cells (vs .u8 32 c) 33) ha0
    obtain ⟨v6b, X6b, run6b, o6b, g6b, at6b⟩ := cpy_own ((W0.alloc (.cells #[] 33)).alloc (.cells (vs .u8 32 c) 33)) W1.heap.size W0.heap.size ((heap_old (by simp)).trans (heap_new rfl)) (by omega) (.slice a L cap) L f (gW _ s8b) (by omega) s8b.size 26
    have s6b := grown_below s8b s8b.size g6b (fun b e => by have := Option.some.inj e; omega)
    obtain ⟨v9b, X9b, run9b, o9b, g9b, _⟩ := app1_own X6b W1.heap.size (W0.heap.size + 1) c ((g6b.block _ (by simp) (fun e => by have := Option.some.inj e; omega)).trans (heap_new (by simp))) v6b L f o6b hl s6b.size 26
    have s9b := grown_below s6b s6b.size g9b (fun b e => ((o6b.lt b e).1))
    -- c: 8, 1, 6
    have s8c := al W0 (.cells (vs .u8 32 c) 33) hb0
    have s1c := al (W0.alloc (.cells (vs .u8 32 c) 33)) (.cells #[] 33) s8c
    obtain ⟨v6c, X6c, run6c, o6c, g6c, at6c⟩ := cpy_own ((W0.alloc (.cells (vs .u8 32 c) 33)).alloc (.cells #[] 33)) W1.heap.size (W0.heap.size + 1) (heap_new (by simp)) (by omega) (.slice a L cap) L f (gW _ s1c) (by omega) s1c.size 26
    have s6c := grown_below s1c s1c.size g6c (fun b e => by have := Option.some.inj e; omega)
    obtain ⟨v9c, X9c, run9c, o9c, g9c, _⟩ := app1_own X6c W1.heap.size W0.heap.size c ((g6c.block _ (by simp; omega) (fun e => by have := Option.some.inj e; omega)).trans ((heap_old (by simp)).trans (heap_new rfl))) v6c L f o6c hl s6c.size 26
    have s9c := grown_below s6c s6c.size g9c (fun b e => ((o6c.lt b e).1))
    obtain ⟨b9a, p9a, rfl⟩ := row_form o9a
    obtain ⟨b9b, p9b, rfl⟩ := row_form o9b
    obtain ⟨b9c, p9c, rfl⟩ := row_form o9c
    have FINa := hid (hfin _ _ s9a o9a)
    have FINb := hid (hfin _ _ s9b o9b)
    have FINc := hid (hfin _ _ s9c o9c)
    have CQa := hid (And.intro (hc1 _ s9a) (hcf _ s9a))
    have CQb := hid (And.intro (hc1 _ s9b) (hcf _ s9b))
    have CQc := hid (And.intro (hc1 _ s9c) (hcf _ s9c))
    have NEW0 := hid ha0
    have RUN6a := hid run6a
    have RUN6b := hid run6b
    have RUN6c := hid run6c
    have RUN9a := hid run9a
    have RUN9b := hid run9b
    have RUN9c := hid run9c
    have S6a := hid s6a
    have S8a := hid s8a
    have S9a := hid s9a
    have S8b := hid s8b
    have S6b := hid s6b
    have S9b := hid s9b
    have S8c := hid s8c
    have S1c := hid s1c
    have S6c := hid s6c
    have S9c := hid s9c
    have BS0 := hid bs22_0
    have HB0 := hid hb0
    have LS : Hid (∀ X, Below W1.heap.size W1 X → X.heap[W.heap.size]? = some (.cells (vs .u8 32 c) 33)) := fun X h => (h.block _ (by omega)).trans rc1
    have SQ : Hid (∀ X v', Below W1.heap.size W1 X → (X.setCell ⟨q, 1, none⟩ v').heap[W.heap.size]? = some (.cells (vs .u8 32 c) 33)) := fun X v' h => (heap_set_other (by omega)).trans ((h.block _ (by omega)).trans rc1)
    have LCS : Hid (∀ X : World, X.heap[W.heap.size]? = some (.cells (vs .u8 32 c) 33) → (lv24 ⟨W.heap.size, 0, none⟩).run Tryd.prog X = .ok (.agg (vs .u8 32 c)) X) := fun X h => lv24_run h
    have BSX : Hid (∀ X : World, (bs22 1 #[(0, .agg (vs .u8 32 c))]).run Tryd.prog X = .ok (.slice (some ⟨X.heap.size, 0, none⟩) 1 1) (X.alloc (.cells (vs .u8 32 c) 33))) := fun X => bs22_1 X c
    have EW0 := hid hW0
    clear gW hfin hset hb0 al ha0 run6a o6a g6a s6a run9a o9a g9a s8a s9a s8b run6b o6b g6b at6b s6b run9b o9b g9b s9b s8c s1c run6c o6c g6c at6c s6c run9c o9c g9c s9c hW0 hv hq hB1 rq1 rc1 hcq hc0 hc1 hcf hlc hdr z0 z1
    go_enter Tryd.func20, Tryd.ntmps20
    go_upto_region 1 with fail
    clear hW1
    refine wp_region_noPanic ?_
    refine wp_region_held_drew (S := fun X => Below W1.heap.size W1 X) (by kernel_rfl) (HDR.out) (fun hHeld => ?_)
    refine wpAnyH_take (i := 0) (v := ?v8) rfl (by kernel_rfl) (by kernel_rfl) (by kernel_rfl) (fun _ _ _ h => h) (Or.inl ⟨by rfl, ?hy8⟩) hHeld ?rest8
    case hy8 =>
      intro w hSw
      go_simp
      try with_reducible rfl
    try simp only [Act.put, List.setIfInBounds_toArray, List.set_cons_zero, List.set_cons_succ, Array.toArray_toList, List.getElem_toArray, List.getElem_cons_zero, List.getElem_cons_succ]
    refine wpAnyH_take (i := 1) (v := ?v9) rfl (by kernel_rfl) (by kernel_rfl) (by kernel_rfl) (fun _ _ _ h => h) (Or.inl ⟨by rfl, ?hy9⟩) hHeld ?rest9
    case hy9 =>
      intro w hSw
      go_simp
      try with_reducible rfl
    try simp only [Act.put, List.setIfInBounds_toArray, List.set_cons_zero, List.set_cons_succ, Array.toArray_toList, List.getElem_toArray, List.getElem_cons_zero, List.getElem_cons_succ]
    refine wpAnyH_take (i := 2) (v := ?v10) rfl (by kernel_rfl) (by kernel_rfl) (by kernel_rfl) (fun _ _ _ h => h) (Or.inl ⟨by rfl, ?hy10⟩) hHeld ?rest10
    case hy10 =>
      intro w hSw
      go_simp
      try with_reducible rfl
    try simp only [Act.put, List.setIfInBounds_toArray, List.set_cons_zero, List.set_cons_succ, Array.toArray_toList, List.getElem_toArray, List.getElem_cons_zero, List.getElem_cons_succ]
    refine wpAnyH_take (i := 3) (v := ?v11) rfl (by kernel_rfl) (by kernel_rfl) (by kernel_rfl) (fun _ _ _ h => h) (Or.inl ⟨by rfl, ?hy11⟩) hHeld ?rest11
    case hy11 =>
      intro w hSw
      have ld := LQ.out _ hSw
      go_simp
      try with_reducible rfl
    try simp only [Act.put, List.setIfInBounds_toArray, List.set_cons_zero, List.set_cons_succ, Array.toArray_toList, List.getElem_toArray, List.getElem_cons_zero, List.getElem_cons_succ]
    refine wpAnyH_take (i := 4) (v := ?v12) rfl (by kernel_rfl) (by kernel_rfl) (by kernel_rfl) (fun _ _ _ h => h) (Or.inl ⟨by rfl, ?hy12⟩) hHeld ?rest12
    case hy12 =>
      intro w hSw
      go_simp
      try with_reducible rfl
    try simp only [Act.put, List.setIfInBounds_toArray, List.set_cons_zero, List.set_cons_succ, Array.toArray_toList, List.getElem_toArray, List.getElem_cons_zero, List.getElem_cons_succ]
    refine wpAnyH_take (i := 5) (v := ?v13) rfl (by kernel_rfl) (by kernel_rfl) (by kernel_rfl) (fun _ _ _ h => h) (Or.inl ⟨by rfl, ?hy13⟩) hHeld ?rest13
    case hy13 =>
      intro w hSw
      go_simp
      try with_reducible rfl
    try simp only [Act.put, List.setIfInBounds_toArray, List.set_cons_zero, List.set_cons_succ, Array.toArray_toList, List.getElem_toArray, List.getElem_cons_zero, List.getElem_cons_succ]
    refine wpAnyH_take (i := 6) (v := ?v14) rfl (by kernel_rfl) (by kernel_rfl) (by kernel_rfl) (fun _ _ _ h => h) (Or.inl ⟨by rfl, ?hy14⟩) hHeld ?rest14
    case hy14 =>
      intro w hSw
      go_simp
      try with_reducible rfl
    try simp only [Act.put, List.setIfInBounds_toArray, List.set_cons_zero, List.set_cons_succ, Array.toArray_toList, List.getElem_toArray, List.getElem_cons_zero, List.getElem_cons_succ]
    refine wpAnyH_take (i := 7) (v := ?v15) rfl (by kernel_rfl) (by kernel_rfl) (by kernel_rfl) (fun _ _ _ h => h) (Or.inl ⟨by rfl, ?hy15⟩) hHeld ?rest15
    case hy15 =>
      intro w hSw
      go_simp
      try with_reducible rfl
    try simp only [Act.put, List.setIfInBounds_toArray, List.set_cons_zero, List.set_cons_succ, Array.toArray_toList, List.getElem_toArray, List.getElem_cons_zero, List.getElem_cons_succ]
    refine wpAnyH_take (i := 8) (v := ?v16) rfl (by kernel_rfl) (by kernel_rfl) (by kernel_rfl) (fun _ _ _ h => h) (Or.inl ⟨by rfl, ?hy16⟩) hHeld ?rest16
    case hy16 =>
      intro w hSw
      have ld := LN.out _ hSw
      go_simp
      try with_reducible rfl
    try simp only [Act.put, List.setIfInBounds_toArray, List.set_cons_zero, List.set_cons_succ, Array.toArray_toList, List.getElem_toArray, List.getElem_cons_zero, List.getElem_cons_succ]
    refine wpAnyH_take (i := 9) (v := ?v17) rfl (by kernel_rfl) (by kernel_rfl) (by kernel_rfl) (fun _ _ _ h => h) (Or.inl ⟨by rfl, ?hy17⟩) hHeld ?rest17
    case hy17 =>
      intro w hSw
      go_simp
      try with_reducible rfl
    try simp only [Act.put, List.setIfInBounds_toArray, List.set_cons_zero, List.set_cons_succ, Array.toArray_toList, List.getElem_toArray, List.getElem_cons_zero, List.getElem_cons_succ]
    refine wpAnyH_done (by kernel_rfl) ?_ _
    refine NoPanic.normal ?_
    go_upto_region 3 with fail
    refine wp_region_noPanic ?_
    refine wp_region_held_drew (S := fun X => X.heap[W.heap.size]? = some (.cells (vs .u8 32 c) 33)) (by kernel_rfl) (LS.out _ HDR2.out) (fun hHeld => ?_)
    rw [EW0.out] at hHeld ⊢
    refine wpAnyH_take (i := 0) (v := ?v18) rfl (by kernel_rfl) (by kernel_rfl) (by kernel_rfl) (fun _ _ _ h => h) (Or.inl ⟨by rfl, ?hy18⟩) hHeld ?rest18
    case hy18 =>
      intro w hSw
      go_simp
      try with_reducible rfl
    try simp only [Act.put, List.setIfInBounds_toArray, List.set_cons_zero, List.set_cons_succ, Array.toArray_toList, List.getElem_toArray, List.getElem_cons_zero, List.getElem_cons_succ]
    refine wpAnyH_take (i := 2) (v := ?v19) rfl (by kernel_rfl) (by kernel_rfl) (by kernel_rfl) (fun _ _ _ h => h) (Or.inl ⟨by rfl, ?hy19⟩) hHeld ?rest19
    case hy19 =>
      intro w hSw
      go_simp
      try with_reducible rfl
    try simp only [Act.put, List.setIfInBounds_toArray, List.set_cons_zero, List.set_cons_succ, Array.toArray_toList, List.getElem_toArray, List.getElem_cons_zero, List.getElem_cons_succ]
    refine wpAnyH_take (i := 3) (v := ?v20) rfl (by kernel_rfl) (by kernel_rfl) (by kernel_rfl) (fun _ _ _ h => h) (Or.inl ⟨by rfl, ?hy20⟩) hHeld ?rest20
    case hy20 =>
      intro w hSw
      go_simp
      try with_reducible rfl
    try simp only [Act.put, List.setIfInBounds_toArray, List.set_cons_zero, List.set_cons_succ, Array.toArray_toList, List.getElem_toArray, List.getElem_cons_zero, List.getElem_cons_succ]
    refine wpAnyH_take (i := 4) (v := ?v21) rfl (by kernel_rfl) (by kernel_rfl) (by kernel_rfl) (fun _ _ _ h => h) (Or.inl ⟨by rfl, ?hy21⟩) hHeld ?rest21
    case hy21 =>
      intro w hSw
      go_simp
      try with_reducible rfl
    try simp only [Act.put, List.setIfInBounds_toArray, List.set_cons_zero, List.set_cons_succ, Array.toArray_toList, List.getElem_toArray, List.getElem_cons_zero, List.getElem_cons_succ]
    refine wpAnyH_take (i := 7) (v := ?v22) rfl (by kernel_rfl) (by kernel_rfl) (by kernel_rfl) (fun _ _ _ h => h) (Or.inl ⟨by rfl, ?hy22⟩) hHeld ?rest22
    case hy22 =>
      intro w hSw
      have ld := LCS.out _ hSw
      go_simp
      try with_reducible rfl
    try simp only [Act.put, List.setIfInBounds_toArray, List.set_cons_zero, List.set_cons_succ, Array.toArray_toList, List.getElem_toArray, List.getElem_cons_zero, List.getElem_cons_succ]
    refine wpAnyH_ready (rs := [1, 5, 8]) (by kernel_rfl) (by simp) ?_
    refine AllReadyH.cons rfl (fun K hK => ?_) (AllReadyH.cons rfl (fun K hK => ?_) (AllReadyH.cons rfl (fun K hK => ?_) AllReadyH.nil))
    · have bs := BS0.out W0
      go_simp
      clear bs
      refine hK.out _ _ (LS.out _ NEW0.out) (fun hHeld => ?_)
      clear hK K
      try simp only [Act.put, List.setIfInBounds_toArray, List.set_cons_zero, List.set_cons_succ, Array.toArray_toList, List.getElem_toArray, List.getElem_cons_zero, List.getElem_cons_succ]
      refine wpAnyH_ready (rs := [5, 8]) (by kernel_rfl) (by simp) ?_
      refine AllReadyH.cons rfl (fun K hK => ?_) (AllReadyH.cons rfl (fun K hK => ?_) AllReadyH.nil)
      · have lq := LQ.out _ NEW0.out
        go_simp
        clear lq
        refine hK.out _ _ (LS.out _ NEW0.out) (fun hHeld => ?_)
        clear hK K
        try simp only [Act.put, List.setIfInBounds_toArray, List.set_cons_zero, List.set_cons_succ, Array.toArray_toList, List.getElem_toArray, List.getElem_cons_zero, List.getElem_cons_succ]
        refine wpAnyH_ready (rs := [6, 8]) (by kernel_rfl) (by simp) ?_
        refine AllReadyH.cons rfl (fun K hK => ?_) (AllReadyH.cons rfl (fun K hK => ?_) AllReadyH.nil)
        · rw [if_pos (by rfl)]
          refine wp_appendT_is _ _ rfl _ _ _ _ rfl rfl RUN6a.out ?_
          refine hK.out _ _ (LS.out _ S6a.out) (fun hHeld => ?_)
          clear hK K
          try simp only [Act.put, List.setIfInBounds_toArray, List.set_cons_zero, List.set_cons_succ, Array.toArray_toList, List.getElem_toArray, List.getElem_cons_zero, List.getElem_cons_succ]
          refine wpAnyH_ready (rs := [8]) (by kernel_rfl) (by simp) ?_
          refine AllReadyH.cons rfl (fun K hK => ?_) AllReadyH.nil
          have bs := BSX.out X6a
          try simp only [alloc_size] at bs
          go_simp
          clear bs
          refine hK.out _ _ (LS.out _ S8a.out) (fun hHeld => ?_)
          clear hK K
          try simp only [Act.put, List.setIfInBounds_toArray, List.set_cons_zero, List.set_cons_succ, Array.toArray_toList, List.getElem_toArray, List.getElem_cons_zero, List.getElem_cons_succ]
          refine wpAnyH_ready (rs := [9]) (by kernel_rfl) (by simp) ?_
          refine AllReadyH.cons rfl (fun K hK => ?_) AllReadyH.nil
          rw [if_pos (by rfl)]
          refine wp_appendT_is _ _ rfl _ _ _ _ rfl rfl RUN9a.out ?_
          refine hK.out _ _ (LS.out _ S9a.out) (fun hHeld => ?_)
          clear hK K
          try simp only [Act.put, List.setIfInBounds_toArray, List.set_cons_zero, List.set_cons_succ, Array.toArray_toList, List.getElem_toArray, List.getElem_cons_zero, List.getElem_cons_succ]
          refine wpAnyH_take (i := 10) (v := ?v23) rfl (by kernel_rfl) (by kernel_rfl) (by kernel_rfl) (fun _ _ _ h => h) (Or.inl ⟨by rfl, ?hy23⟩) hHeld ?rest23
          case hy23 =>
            intro w hSw
            go_simp
            try with_reducible rfl
          try simp only [Act.put, List.setIfInBounds_toArray, List.set_cons_zero, List.set_cons_succ, Array.toArray_toList, List.getElem_toArray, List.getElem_cons_zero, List.getElem_cons_succ]
          refine wpAnyH_take (i := 11) (v := ?v24) rfl (by kernel_rfl) (by kernel_rfl) (by kernel_rfl) (fun _ _ _ h => h) (Or.inl ⟨by rfl, ?hy24⟩) hHeld ?rest24
          case hy24 =>
            intro w hSw
            go_simp
            try with_reducible rfl
          try simp only [Act.put, List.setIfInBounds_toArray, List.set_cons_zero, List.set_cons_succ, Array.toArray_toList, List.getElem_toArray, List.getElem_cons_zero, List.getElem_cons_succ]
          refine wpAnyH_ready (rs := [12]) (by kernel_rfl) (by simp) ?_
          refine AllReadyH.cons rfl (fun K hK => ?_) AllReadyH.nil
          have cq := CQa.out.1
          have fq := CQa.out.2
          go_simp
          refine hK.out _ _ (SQ.out _ _ S9a.out) (fun hHeld => ?_)
          clear hK K
          clear cq fq
          try simp only [Act.put, List.setIfInBounds_toArray, List.set_cons_zero, List.set_cons_succ, Array.toArray_toList, List.getElem_toArray, List.getElem_cons_zero, List.getElem_cons_succ]
          refine wpAnyH_done (by kernel_rfl) ?_ _
          refine NoPanic.normal ?_
          go_wp2
          go_ret
          exact ⟨rfl, FINa.out⟩
        · have bs := BSX.out (W0.alloc (.cells #[] 33))
          try simp only [alloc_size] at bs
          go_simp
          clear bs
          refine hK.out _ _ (LS.out _ S8b.out) (fun hHeld => ?_)
          clear hK K
          try simp only [Act.put, List.setIfInBounds_toArray, List.set_cons_zero, List.set_cons_succ, Array.toArray_toList, List.getElem_toArray, List.getElem_cons_zero, List.getElem_cons_succ]
          refine wpAnyH_ready (rs := [6]) (by kernel_rfl) (by simp) ?_
          refine AllReadyH.cons rfl (fun K hK => ?_) AllReadyH.nil
          rw [if_pos (by rfl)]
          refine wp_appendT_is _ _ rfl _ _ _ _ rfl rfl RUN6b.out ?_
          refine hK.out _ _ (LS.out _ S6b.out) (fun hHeld => ?_)
          clear hK K
          try simp only [Act.put, List.setIfInBounds_toArray, List.set_cons_zero, List.set_cons_succ, Array.toArray_toList, List.getElem_toArray, List.getElem_cons_zero, List.getElem_cons_succ]
          refine wpAnyH_ready (rs := [9]) (by kernel_rfl) (by simp) ?_
          refine AllReadyH.cons rfl (fun K hK => ?_) AllReadyH.nil
          rw [if_pos (by rfl)]
          refine wp_appendT_is _ _ rfl _ _ _ _ rfl rfl RUN9b.out ?_
          refine hK.out _ _ (LS.out _ S9b.out) (fun hHeld => ?_)
          clear hK K
          try simp only [Act.put, List.setIfInBounds_toArray, List.set_cons_zero, List.set_cons_succ, Array.toArray_toList, List.getElem_toArray, List.getElem_cons_zero, List.getElem_cons_succ]
          refine wpAnyH_take (i := 10) (v := ?v25) rfl (by kernel_rfl) (by kernel_rfl) (by kernel_rfl) (fun _ _ _ h => h) (Or.inl ⟨by rfl, ?hy25⟩) hHeld ?rest25
          case hy25 =>
            intro w hSw
            go_simp
            try with_reducible rfl
          try simp only [Act.put, List.setIfInBounds_toArray, List.set_cons_zero, List.set_cons_succ, Array.toArray_toList, List.getElem_toArray, List.getElem_cons_zero, List.getElem_cons_succ]
          refine wpAnyH_take (i := 11) (v := ?v26) rfl (by kernel_rfl) (by kernel_rfl) (by kernel_rfl) (fun _ _ _ h => h) (Or.inl ⟨by rfl, ?hy26⟩) hHeld ?rest26
          case hy26 =>
            intro w hSw
            go_simp
            try with_reducible rfl
          try simp only [Act.put, List.setIfInBounds_toArray, List.set_cons_zero, List.set_cons_succ, Array.toArray_toList, List.getElem_toArray, List.getElem_cons_zero, List.getElem_cons_succ]
          refine wpAnyH_ready (rs := [12]) (by kernel_rfl) (by simp) ?_
          refine AllReadyH.cons rfl (fun K hK => ?_) AllReadyH.nil
          have cq := CQb.out.1
          have fq := CQb.out.2
          go_simp
          refine hK.out _ _ (SQ.out _ _ S9b.out) (fun hHeld => ?_)
          clear hK K
          clear cq fq
          try simp only [Act.put, List.setIfInBounds_toArray, List.set_cons_zero, List.set_cons_succ, Array.toArray_toList, List.getElem_toArray, List.getElem_cons_zero, List.getElem_cons_succ]
          refine wpAnyH_done (by kernel_rfl) ?_ _
          refine NoPanic.normal ?_
          go_wp2
          go_ret
          exact ⟨rfl, FINb.out⟩
      · have bs := BSX.out (W0.alloc (.cells #[] 33))
        try simp only [alloc_size] at bs
        go_simp
        clear bs
        refine hK.out _ _ (LS.out _ S8b.out) (fun hHeld => ?_)
        clear hK K
        try simp only [Act.put, List.setIfInBounds_toArray, List.set_cons_zero, List.set_cons_succ, Array.toArray_toList, List.getElem_toArray, List.getElem_cons_zero, List.getElem_cons_succ]
        refine wpAnyH_ready (rs := [5]) (by kernel_rfl) (by simp) ?_
        refine AllReadyH.cons rfl (fun K hK => ?_) AllReadyH.nil
        have lq := LQ.out _ S8b.out
        go_simp
        clear lq
        refine hK.out _ _ (LS.out _ S8b.out) (fun hHeld => ?_)
        clear hK K
        try simp only [Act.put, List.setIfInBounds_toArray, List.set_cons_zero, List.set_cons_succ, Array.toArray_toList, List.getElem_toArray, List.getElem_cons_zero, List.getElem_cons_succ]
        refine wpAnyH_ready (rs := [6]) (by kernel_rfl) (by simp) ?_
        refine AllReadyH.cons rfl (fun K hK => ?_) AllReadyH.nil
        rw [if_pos (by rfl)]
        refine wp_appendT_is _ _ rfl _ _ _ _ rfl rfl RUN6b.out ?_
        refine hK.out _ _ (LS.out _ S6b.out) (fun hHeld => ?_)
        clear hK K
        try simp only [Act.put, List.setIfInBounds_toArray, List.set_cons_zero, List.set_cons_succ, Array.toArray_toList, List.getElem_toArray, List.getElem_cons_zero, List.getElem_cons_succ]
        refine wpAnyH_ready (rs := [9]) (by kernel_rfl) (by simp) ?_
        refine AllReadyH.cons rfl (fun K hK => ?_) AllReadyH.nil
        rw [if_pos (by rfl)]
        refine wp_appendT_is _ _ rfl _ _ _ _ rfl rfl RUN9b.out ?_
        refine hK.out _ _ (LS.out _ S9b.out) (fun hHeld => ?_)
        clear hK K
        try simp only [Act.put, List.setIfInBounds_toArray, List.set_cons_zero, List.set_cons_succ, Array.toArray_toList, List.getElem_toArray, List.getElem_cons_zero, List.getElem_cons_succ]
        refine wpAnyH_take (i := 10) (v := ?v27) rfl (by kernel_rfl) (by kernel_rfl) (by kernel_rfl) (fun _ _ _ h => h) (Or.inl ⟨by rfl, ?hy27⟩) hHeld ?rest27
        case hy27 =>
          intro w hSw
          go_simp
          try with_reducible rfl
        try simp only [Act.put, List.setIfInBounds_toArray, List.set_cons_zero, List.set_cons_succ, Array.toArray_toList, List.getElem_toArray, List.getElem_cons_zero, List.getElem_cons_succ]
        refine wpAnyH_take (i := 11) (v := ?v28) rfl (by kernel_rfl) (by kernel_rfl) (by kernel_rfl) (fun _ _ _ h => h) (Or.inl ⟨by rfl, ?hy28⟩) hHeld ?rest28
        case hy28 =>
          intro w hSw
          go_simp
          try with_reducible rfl
        try simp only [Act.put, List.setIfInBounds_toArray, List.set_cons_zero, List.set_cons_succ, Array.toArray_toList, List.getElem_toArray, List.getElem_cons_zero, List.getElem_cons_succ]
        refine wpAnyH_ready (rs := [12]) (by kernel_rfl) (by simp) ?_
        refine AllReadyH.cons rfl (fun K hK => ?_) AllReadyH.nil
        have cq := CQb.out.1
        have fq := CQb.out.2
        go_simp
        refine hK.out _ _ (SQ.out _ _ S9b.out) (fun hHeld => ?_)
        clear hK K
        clear cq fq
        try simp only [Act.put, List.setIfInBounds_toArray, List.set_cons_zero, List.set_cons_succ, Array.toArray_toList, List.getElem_toArray, List.getElem_cons_zero, List.getElem_cons_succ]
        refine wpAnyH_done (by kernel_rfl) ?_ _
        refine NoPanic.normal ?_
        go_wp2
        go_ret
        exact ⟨rfl, FINb.out⟩
    · have lq := LQ.out _ HB0.out
      go_simp
      clear lq
      refine hK.out _ _ (LS.out _ HB0.out) (fun hHeld => ?_)
      clear hK K
      try simp only [Act.put, List.setIfInBounds_toArray, List.set_cons_zero, List.set_cons_succ, Array.toArray_toList, List.getElem_toArray, List.getElem_cons_zero, List.getElem_cons_succ]
      refine wpAnyH_ready (rs := [1, 8]) (by kernel_rfl) (by simp) ?_
      refine AllReadyH.cons rfl (fun K hK => ?_) (AllReadyH.cons rfl (fun K hK => ?_) AllReadyH.nil)
      · have bs := BS0.out W0
        go_simp
        clear bs
        refine hK.out _ _ (LS.out _ NEW0.out) (fun hHeld => ?_)
        clear hK K
        try simp only [Act.put, List.setIfInBounds_toArray, List.set_cons_zero, List.set_cons_succ, Array.toArray_toList, List.getElem_toArray, List.getElem_cons_zero, List.getElem_cons_succ]
        refine wpAnyH_ready (rs := [6, 8]) (by kernel_rfl) (by simp) ?_
        refine AllReadyH.cons rfl (fun K hK => ?_) (AllReadyH.cons rfl (fun K hK => ?_) AllReadyH.nil)
        · rw [if_pos (by rfl)]
          refine wp_appendT_is _ _ rfl _ _ _ _ rfl rfl RUN6a.out ?_
          refine hK.out _ _ (LS.out _ S6a.out) (fun hHeld => ?_)
          clear hK K
          try simp only [Act.put, List.setIfInBounds_toArray, List.set_cons_zero, List.set_cons_succ, Array.toArray_toList, List.getElem_toArray, List.getElem_cons_zero, List.getElem_cons_succ]
          refine wpAnyH_ready (rs := [8]) (by kernel_rfl) (by simp) ?_
          refine AllReadyH.cons rfl (fun K hK => ?_) AllReadyH.nil
          have bs := BSX.out X6a
          try simp only [alloc_size] at bs
          go_simp
          clear bs
          refine hK.out _ _ (LS.out _ S8a.out) (fun hHeld => ?_)
          clear hK K
          try simp only [Act.put, List.setIfInBounds_toArray, List.set_cons_zero, List.set_cons_succ, Array.toArray_toList, List.getElem_toArray, List.getElem_cons_zero, List.getElem_cons_succ]
          refine wpAnyH_ready (rs := [9]) (by kernel_rfl) (by simp) ?_
          refine AllReadyH.cons rfl (fun K hK => ?_) AllReadyH.nil
          rw [if_pos (by rfl)]
          refine wp_appendT_is _ _ rfl _ _ _ _ rfl rfl RUN9a.out ?_
          refine hK.out _ _ (LS.out _ S9a.out) (fun hHeld => ?_)
          clear hK K
          try simp only [Act.put, List.setIfInBounds_toArray, List.set_cons_zero, List.set_cons_succ, Array.toArray_toList, List.getElem_toArray, List.getElem_cons_zero, List.getElem_cons_succ]
          refine wpAnyH_take (i := 10) (v := ?v29) rfl (by kernel_rfl) (by kernel_rfl) (by kernel_rfl) (fun _ _ _ h => h) (Or.inl ⟨by rfl, ?hy29⟩) hHeld ?rest29
          case hy29 =>
            intro w hSw
            go_simp
            try with_reducible rfl
          try simp only [Act.put, List.setIfInBounds_toArray, List.set_cons_zero, List.set_cons_succ, Array.toArray_toList, List.getElem_toArray, List.getElem_cons_zero, List.getElem_cons_succ]
          refine wpAnyH_take (i := 11) (v := ?v30) rfl (by kernel_rfl) (by kernel_rfl) (by kernel_rfl) (fun _ _ _ h => h) (Or.inl ⟨by rfl, ?hy30⟩) hHeld ?rest30
          case hy30 =>
            intro w hSw
            go_simp
            try with_reducible rfl
          try simp only [Act.put, List.setIfInBounds_toArray, List.set_cons_zero, List.set_cons_succ, Array.toArray_toList, List.getElem_toArray, List.getElem_cons_zero, List.getElem_cons_succ]
          refine wpAnyH_ready (rs := [12]) (by kernel_rfl) (by simp) ?_
          refine AllReadyH.cons rfl (fun K hK => ?_) AllReadyH.nil
          have cq := CQa.out.1
          have fq := CQa.out.2
          go_simp
          refine hK.out _ _ (SQ.out _ _ S9a.out) (fun hHeld => ?_)
          clear hK K
          clear cq fq
          try simp only [Act.put, List.setIfInBounds_toArray, List.set_cons_zero, List.set_cons_succ, Array.toArray_toList, List.getElem_toArray, List.getElem_cons_zero, List.getElem_cons_succ]
          refine wpAnyH_done (by kernel_rfl) ?_ _
          refine NoPanic.normal ?_
          go_wp2
          go_ret
          exact ⟨rfl, FINa.out⟩
        · have bs := BSX.out (W0.alloc (.cells #[] 33))
          try simp only [alloc_size] at bs
          go_simp
          clear bs
          refine hK.out _ _ (LS.out _ S8b.out) (fun hHeld => ?_)
          clear hK K
          try simp only [Act.put, List.setIfInBounds_toArray, List.set_cons_zero, List.set_cons_succ, Array.toArray_toList, List.getElem_toArray, List.getElem_cons_zero, List.getElem_cons_succ]
          refine wpAnyH_ready (rs := [6]) (by kernel_rfl) (by simp) ?_
          refine AllReadyH.cons rfl (fun K hK => ?_) AllReadyH.nil
          rw [if_pos (by rfl)]
          refine wp_appendT_is _ _ rfl _ _ _ _ rfl rfl RUN6b.out ?_
          refine hK.out _ _ (LS.out _ S6b.out) (fun hHeld => ?_)
          clear hK K
          try simp only [Act.put, List.setIfInBounds_toArray, List.set_cons_zero, List.set_cons_succ, Array.toArray_toList, List.getElem_toArray, List.getElem_cons_zero, List.getElem_cons_succ]
          refine wpAnyH_ready (rs := [9]) (by kernel_rfl) (by simp) ?_
          refine AllReadyH.cons rfl (fun K hK => ?_) AllReadyH.nil
          rw [if_pos (by rfl)]
          refine wp_appendT_is _ _ rfl _ _ _ _ rfl rfl RUN9b.out ?_
          refine hK.out _ _ (LS.out _ S9b.out) (fun hHeld => ?_)
          clear hK K
          try simp only [Act.put, List.setIfInBounds_toArray, List.set_cons_zero, List.set_cons_succ, Array.toArray_toList, List.getElem_toArray, List.getElem_cons_zero, List.getElem_cons_succ]
          refine wpAnyH_take (i := 10) (v := ?v31) rfl (by kernel_rfl) (by kernel_rfl) (by kernel_rfl) (fun _ _ _ h => h) (Or.inl ⟨by rfl, ?hy31⟩) hHeld ?rest31
          case hy31 =>
            intro w hSw
            go_simp
            try with_reducible rfl
          try simp only [Act.put, List.setIfInBounds_toArray, List.set_cons_zero, List.set_cons_succ, Array.toArray_toList, List.getElem_toArray, List.getElem_cons_zero, List.getElem_cons_succ]
          refine wpAnyH_take (i := 11) (v := ?v32) rfl (by kernel_rfl) (by kernel_rfl) (by kernel_rfl) (fun _ _ _ h => h) (Or.inl ⟨by rfl, ?hy32⟩) hHeld ?rest32
          case hy32 =>
            intro w hSw
            go_simp
            try with_reducible rfl
          try simp only [Act.put, List.setIfInBounds_toArray, List.set_cons_zero, List.set_cons_succ, Array.toArray_toList, List.getElem_toArray, List.getElem_cons_zero, List.getElem_cons_succ]
          refine wpAnyH_ready (rs := [12]) (by kernel_rfl) (by simp) ?_
          refine AllReadyH.cons rfl (fun K hK => ?_) AllReadyH.nil
          have cq := CQb.out.1
          have fq := CQb.out.2
          go_simp
          refine hK.out _ _ (SQ.out _ _ S9b.out) (fun hHeld => ?_)
          clear hK K
          clear cq fq
          try simp only [Act.put, List.setIfInBounds_toArray, List.set_cons_zero, List.set_cons_succ, Array.toArray_toList, List.getElem_toArray, List.getElem_cons_zero, List.getElem_cons_succ]
          refine wpAnyH_done (by kernel_rfl) ?_ _
          refine NoPanic.normal ?_
          go_wp2
          go_ret
          exact ⟨rfl, FINb.out⟩
      · have bs := BSX.out W0
        go_simp
        clear bs
        refine hK.out _ _ (LS.out _ S8c.out) (fun hHeld => ?_)
        clear hK K
        try simp only [Act.put, List.setIfInBounds_toArray, List.set_cons_zero, List.set_cons_succ, Array.toArray_toList, List.getElem_toArray, List.getElem_cons_zero, List.getElem_cons_succ]
        refine wpAnyH_ready (rs := [1]) (by kernel_rfl) (by simp) ?_
        refine AllReadyH.cons rfl (fun K hK => ?_) AllReadyH.nil
        have bs := BS0.out (W0.alloc (.cells (vs .u8 32 c) 33))
        try simp only [alloc_size] at bs
        go_simp
        clear bs
        refine hK.out _ _ (LS.out _ S1c.out) (fun hHeld => ?_)
        clear hK K
        try simp only [Act.put, List.setIfInBounds_toArray, List.set_cons_zero, List.set_cons_succ, Array.toArray_toList, List.getElem_toArray, List.getElem_cons_zero, List.getElem_cons_succ]
        refine wpAnyH_ready (rs := [6]) (by kernel_rfl) (by simp) ?_
        refine AllReadyH.cons rfl (fun K hK => ?_) AllReadyH.nil
        rw [if_pos (by rfl)]
        refine wp_appendT_is _ _ rfl _ _ _ _ rfl rfl RUN6c.out ?_
        refine hK.out _ _ (LS.out _ S6c.out) (fun hHeld => ?_)
        clear hK K
        try simp only [Act.put, List.setIfInBounds_toArray, List.set_cons_zero, List.set_cons_succ, Array.toArray_toList, List.getElem_toArray, List.getElem_cons_zero, List.getElem_cons_succ]
        refine wpAnyH_ready (rs := [9]) (by kernel_rfl) (by simp) ?_
        refine AllReadyH.cons rfl (fun K hK => ?_) AllReadyH.nil
        rw [if_pos (by rfl)]
        refine wp_appendT_is _ _ rfl _ _ _ _ rfl rfl RUN9c.out ?_
        refine hK.out _ _ (LS.out _ S9c.out) (fun hHeld => ?_)
        clear hK K
        try simp only [Act.put, List.setIfInBounds_toArray, List.set_cons_zero, List.set_cons_succ, Array.toArray_toList, List.getElem_toArray, List.getElem_cons_zero, List.getElem_cons_succ]
        refine wpAnyH_take (i := 10) (v := ?v33) rfl (by kernel_rfl) (by kernel_rfl) (by kernel_rfl) (fun _ _ _ h => h) (Or.inl ⟨by rfl, ?hy33⟩) hHeld ?rest33
        case hy33 =>
          intro w hSw
          go_simp
          try with_reducible rfl
        try simp only [Act.put, List.setIfInBounds_toArray, List.set_cons_zero, List.set_cons_succ, Array.toArray_toList, List.getElem_toArray, List.getElem_cons_zero, List.getElem_cons_succ]
        refine wpAnyH_take (i := 11) (v := ?v34) rfl (by kernel_rfl) (by kernel_rfl) (by kernel_rfl) (fun _ _ _ h => h) (Or.inl ⟨by rfl, ?hy34⟩) hHeld ?rest34
        case hy34 =>
          intro w hSw
          go_simp
          try with_reducible rfl
        try simp only [Act.put, List.setIfInBounds_toArray, List.set_cons_zero, List.set_cons_succ, Array.toArray_toList, List.getElem_toArray, List.getElem_cons_zero, List.getElem_cons_succ]
        refine wpAnyH_ready (rs := [12]) (by kernel_rfl) (by simp) ?_
        refine AllReadyH.cons rfl (fun K hK => ?_) AllReadyH.nil
        have cq := CQc.out.1
        have fq := CQc.out.2
        go_simp
        refine hK.out _ _ (SQ.out _ _ S9c.out) (fun hHeld => ?_)
        clear hK K
        clear cq fq
        try simp only [Act.put, List.setIfInBounds_toArray, List.set_cons_zero, List.set_cons_succ, Array.toArray_toList, List.getElem_toArray, List.getElem_cons_zero, List.getElem_cons_succ]
        refine wpAnyH_done (by kernel_rfl) ?_ _
        refine NoPanic.normal ?_
        go_wp2
        go_ret
        exact ⟨rfl, FINc.out⟩
    · have bs := BSX.out W0
      go_simp
      clear bs
      refine hK.out _ _ (LS.out _ S8c.out) (fun hHeld => ?_)
      clear hK K
      try simp only [Act.put, List.setIfInBounds_toArray, List.set_cons_zero, List.set_cons_succ, Array.toArray_toList, List.getElem_toArray, List.getElem_cons_zero, List.getElem_cons_succ]
      refine wpAnyH_ready (rs := [1, 5]) (by kernel_rfl) (by simp) ?_
      refine AllReadyH.cons rfl (fun K hK => ?_) (AllReadyH.cons rfl (fun K hK => ?_) AllReadyH.nil)
      · have bs := BS0.out (W0.alloc (.cells (vs .u8 32 c) 33))
        try simp only [alloc_size] at bs
        go_simp
        clear bs
        refine hK.out _ _ (LS.out _ S1c.out) (fun hHeld => ?_)
        clear hK K
        try simp only [Act.put, List.setIfInBounds_toArray, List.set_cons_zero, List.set_cons_succ, Array.toArray_toList, List.getElem_toArray, List.getElem_cons_zero, List.getElem_cons_succ]
        refine wpAnyH_ready (rs := [5]) (by kernel_rfl) (by simp) ?_
        refine AllReadyH.cons rfl (fun K hK => ?_) AllReadyH.nil
        have lq := LQ.out _ S1c.out
        go_simp
        clear lq
        refine hK.out _ _ (LS.out _ S1c.out) (fun hHeld => ?_)
        clear hK K
        try simp only [Act.put, List.setIfInBounds_toArray, List.set_cons_zero, List.set_cons_succ, Array.toArray_toList, List.getElem_toArray, List.getElem_cons_zero, List.getElem_cons_succ]
        refine wpAnyH_ready (rs := [6]) (by kernel_rfl) (by simp) ?_
        refine AllReadyH.cons rfl (fun K hK => ?_) AllReadyH.nil
        rw [if_pos (by rfl)]
        refine wp_appendT_is _ _ rfl _ _ _ _ rfl rfl RUN6c.out ?_
        refine hK.out _ _ (LS.out _ S6c.out) (fun hHeld => ?_)
        clear hK K
        try simp only [Act.put, List.setIfInBounds_toArray, List.set_cons_zero, List.set_cons_succ, Array.toArray_toList, List.getElem_toArray, List.getElem_cons_zero, List.getElem_cons_succ]
        refine wpAnyH_ready (rs := [9]) (by kernel_rfl) (by simp) ?_
        refine AllReadyH.cons rfl (fun K hK => ?_) AllReadyH.nil
        rw [if_pos (by rfl)]
        refine wp_appendT_is _ _ rfl _ _ _ _ rfl rfl RUN9c.out ?_
        refine hK.out _ _ (LS.out _ S9c.out) (fun hHeld => ?_)
        clear hK K
        try simp only [Act.put, List.setIfInBounds_toArray, List.set_cons_zero, List.set_cons_succ, Array.toArray_toList, List.getElem_toArray, List.getElem_cons_zero, List.getElem_cons_succ]
        refine wpAnyH_take (i := 10) (v := ?v35) rfl (by kernel_rfl) (by kernel_rfl) (by kernel_rfl) (fun _ _ _ h => h) (Or.inl ⟨by rfl, ?hy35⟩) hHeld ?rest35
        case hy35 =>
          intro w hSw
          go_simp
          try with_reducible rfl
        try simp only [Act.put, List.setIfInBounds_toArray, List.set_cons_zero, List.set_cons_succ, Array.toArray_toList, List.getElem_toArray, List.getElem_cons_zero, List.getElem_cons_succ]
        refine wpAnyH_take (i := 11) (v := ?v36) rfl (by kernel_rfl) (by kernel_rfl) (by kernel_rfl) (fun _ _ _ h => h) (Or.inl ⟨by rfl, ?hy36⟩) hHeld ?rest36
        case hy36 =>
          intro w hSw
          go_simp
          try with_reducible rfl
        try simp only [Act.put, List.setIfInBounds_toArray, List.set_cons_zero, List.set_cons_succ, Array.toArray_toList, List.getElem_toArray, List.getElem_cons_zero, List.getElem_cons_succ]
        refine wpAnyH_ready (rs := [12]) (by kernel_rfl) (by simp) ?_
        refine AllReadyH.cons rfl (fun K hK => ?_) AllReadyH.nil
        have cq := CQc.out.1
        have fq := CQc.out.2
        go_simp
        refine hK.out _ _ (SQ.out _ _ S9c.out) (fun hHeld => ?_)
        clear hK K
        clear cq fq
        try simp only [Act.put, List.setIfInBounds_toArray, List.set_cons_zero, List.set_cons_succ, Array.toArray_toList, List.getElem_toArray, List.getElem_cons_zero, List.getElem_cons_succ]
        refine wpAnyH_done (by kernel_rfl) ?_ _
        refine NoPanic.normal ?_
        go_wp2
        go_ret
        exact ⟨rfl, FINc.out⟩
      · have lq := LQ.out _ S8c.out
        go_simp
        clear lq
        refine hK.out _ _ (LS.out _ S8c.out) (fun hHeld => ?_)
        clear hK K
        try simp only [Act.put, List.setIfInBounds_toArray, List.set_cons_zero, List.set_cons_succ, Array.toArray_toList, List.getElem_toArray, List.getElem_cons_zero, List.getElem_cons_succ]
        refine wpAnyH_ready (rs := [1]) (by kernel_rfl) (by simp) ?_
        refine AllReadyH.cons rfl (fun K hK => ?_) AllReadyH.nil
        have bs := BS0.out (W0.alloc (.cells (vs .u8 32 c) 33))
        try simp only [alloc_size] at bs
        go_simp
        clear bs
        refine hK.out _ _ (LS.out _ S1c.out) (fun hHeld => ?_)
        clear hK K
        try simp only [Act.put, List.setIfInBounds_toArray, List.set_cons_zero, List.set_cons_succ, Array.toArray_toList, List.getElem_toArray, List.getElem_cons_zero, List.getElem_cons_succ]
        refine wpAnyH_ready (rs := [6]) (by kernel_rfl) (by simp) ?_
        refine AllReadyH.cons rfl (fun K hK => ?_) AllReadyH.nil
        rw [if_pos (by rfl)]
        refine wp_appendT_is _ _ rfl _ _ _ _ rfl rfl RUN6c.out ?_
        refine hK.out _ _ (LS.out _ S6c.out) (fun hHeld => ?_)
        clear hK K
        try simp only [Act.put, List.setIfInBounds_toArray, List.set_cons_zero, List.set_cons_succ, Array.toArray_toList, List.getElem_toArray, List.getElem_cons_zero, List.getElem_cons_succ]
        refine wpAnyH_ready (rs := [9]) (by kernel_rfl) (by simp) ?_
        refine AllReadyH.cons rfl (fun K hK => ?_) AllReadyH.nil
        rw [if_pos (by rfl)]
        refine wp_appendT_is _ _ rfl _ _ _ _ rfl rfl RUN9c.out ?_
        refine hK.out _ _ (LS.out _ S9c.out) (fun hHeld => ?_)
        clear hK K
        try simp only [Act.put, List.setIfInBounds_toArray, List.set_cons_zero, List.set_cons_succ, Array.toArray_toList, List.getElem_toArray, List.getElem_cons_zero, List.getElem_cons_succ]
        refine wpAnyH_take (i := 10) (v := ?v37) rfl (by kernel_rfl) (by kernel_rfl) (by kernel_rfl) (fun _ _ _ h => h) (Or.inl ⟨by rfl, ?hy37⟩) hHeld ?rest37
        case hy37 =>
          intro w hSw
          go_simp
          try with_reducible rfl
        try simp only [Act.put, List.setIfInBounds_toArray, List.set_cons_zero, List.set_cons_succ, Array.toArray_toList, List.getElem_toArray, List.getElem_cons_zero, List.getElem_cons_succ]
        refine wpAnyH_take (i := 11) (v := ?v38) rfl (by kernel_rfl) (by kernel_rfl) (by kernel_rfl) (fun _ _ _ h => h) (Or.inl ⟨by rfl, ?hy38⟩) hHeld ?rest38
        case hy38 =>
          intro w hSw
          go_simp
          try with_reducible rfl
        try simp only [Act.put, List.setIfInBounds_toArray, List.set_cons_zero, List.set_cons_succ, Array.toArray_toList, List.getElem_toArray, List.getElem_cons_zero, List.getElem_cons_succ]
        refine wpAnyH_ready (rs := [12]) (by kernel_rfl) (by simp) ?_
        refine AllReadyH.cons rfl (fun K hK => ?_) AllReadyH.nil
        have cq := CQc.out.1
        have fq := CQc.out.2
        go_simp
        refine hK.out _ _ (SQ.out _ _ S9c.out) (fun hHeld => ?_)
        clear hK K
        clear cq fq
        try simp only [Act.put, List.setIfInBounds_toArray, List.set_cons_zero, List.set_cons_succ, Array.toArray_toList, List.getElem_toArray, List.getElem_cons_zero, List.getElem_cons_succ]
        refine wpAnyH_done (by kernel_rfl) ?_ _
        refine NoPanic.normal ?_
        go_wp2
        go_ret
        exact ⟨rfl, FINc.out⟩
  · rw [show appE n L = 6 from if_neg hlt, show appL n L = L from if_neg hlt, show appV n L f c = f from if_neg hlt]
    have d1 : decide ((n : Int) ≤ (L : Int)) = true := by simp; omega
    have d2 : decide (n ≤ L) = true := by simp; omega
    have FIN : Hid (RUp W W1.drew q n (.slice a L cap) L f) := ⟨⟨hB1.os, hB1.tape, hB1.output, hB1.size, fun k hk _ => hB1.block k hk⟩, _, rq1, own_keep hv (row := none) ⟨hB1.os, hB1.tape, hB1.output, hB1.size, fun k hk _ => hB1.block k hk⟩ (fun b _ e => by cases e), .inl rfl⟩
    clear hv hq rq1 hB1 rc1 hcq hc0 hc1 hcf hlc hdr
    go_enter Tryd.func20, Tryd.ntmps20
    go_upto_region 1 with fail
    clear hW1
    refine wp_region_noPanic ?_
    refine wp_region_held_drew (S := fun X => Below W1.heap.size W1 X) (by kernel_rfl) (HDR.out) (fun hHeld => ?_)
    refine wpAnyH_take (i := 0) (v := ?v39) rfl (by kernel_rfl) (by kernel_rfl) (by kernel_rfl) (fun _ _ _ h => h) (Or.inl ⟨by rfl, ?hy39⟩) hHeld ?rest39
    case hy39 =>
      intro w hSw
      go_simp
      try with_reducible rfl
    try simp only [Act.put, List.setIfInBounds_toArray, List.set_cons_zero, List.set_cons_succ, Array.toArray_toList, List.getElem_toArray, List.getElem_cons_zero, List.getElem_cons_succ]
    refine wpAnyH_take (i := 1) (v := ?v40) rfl (by kernel_rfl) (by kernel_rfl) (by kernel_rfl) (fun _ _ _ h => h) (Or.inl ⟨by rfl, ?hy40⟩) hHeld ?rest40
    case hy40 =>
      intro w hSw
      go_simp
      try with_reducible rfl
    try simp only [Act.put, List.setIfInBounds_toArray, List.set_cons_zero, List.set_cons_succ, Array.toArray_toList, List.getElem_toArray, List.getElem_cons_zero, List.getElem_cons_succ]
    refine wpAnyH_take (i := 2) (v := ?v41) rfl (by kernel_rfl) (by kernel_rfl) (by kernel_rfl) (fun _ _ _ h => h) (Or.inl ⟨by rfl, ?hy41⟩) hHeld ?rest41
    case hy41 =>
      intro w hSw
      go_simp
      try with_reducible rfl
    try simp only [Act.put, List.setIfInBounds_toArray, List.set_cons_zero, List.set_cons_succ, Array.toArray_toList, List.getElem_toArray, List.getElem_cons_zero, List.getElem_cons_succ]
    refine wpAnyH_take (i := 3) (v := ?v42) rfl (by kernel_rfl) (by kernel_rfl) (by kernel_rfl) (fun _ _ _ h => h) (Or.inl ⟨by rfl, ?hy42⟩) hHeld ?rest42
    case hy42 =>
      intro w hSw
      have ld := LQ.out _ hSw
      go_simp
      try with_reducible rfl
    try simp only [Act.put, List.setIfInBounds_toArray, List.set_cons_zero, List.set_cons_succ, Array.toArray_toList, List.getElem_toArray, List.getElem_cons_zero, List.getElem_cons_succ]
    refine wpAnyH_take (i := 4) (v := ?v43) rfl (by kernel_rfl) (by kernel_rfl) (by kernel_rfl) (fun _ _ _ h => h) (Or.inl ⟨by rfl, ?hy43⟩) hHeld ?rest43
    case hy43 =>
      intro w hSw
      go_simp
      try with_reducible rfl
    try simp only [Act.put, List.setIfInBounds_toArray, List.set_cons_zero, List.set_cons_succ, Array.toArray_toList, List.getElem_toArray, List.getElem_cons_zero, List.getElem_cons_succ]
    refine wpAnyH_take (i := 5) (v := ?v44) rfl (by kernel_rfl) (by kernel_rfl) (by kernel_rfl) (fun _ _ _ h => h) (Or.inl ⟨by rfl, ?hy44⟩) hHeld ?rest44
    case hy44 =>
      intro w hSw
      go_simp
      try with_reducible rfl
    try simp only [Act.put, List.setIfInBounds_toArray, List.set_cons_zero, List.set_cons_succ, Array.toArray_toList, List.getElem_toArray, List.getElem_cons_zero, List.getElem_cons_succ]
    refine wpAnyH_take (i := 6) (v := ?v45) rfl (by kernel_rfl) (by kernel_rfl) (by kernel_rfl) (fun _ _ _ h => h) (Or.inl ⟨by rfl, ?hy45⟩) hHeld ?rest45
    case hy45 =>
      intro w hSw
      go_simp
      try with_reducible rfl
    try simp only [Act.put, List.setIfInBounds_toArray, List.set_cons_zero, List.set_cons_succ, Array.toArray_toList, List.getElem_toArray, List.getElem_cons_zero, List.getElem_cons_succ]
    refine wpAnyH_take (i := 7) (v := ?v46) rfl (by kernel_rfl) (by kernel_rfl) (by kernel_rfl) (fun _ _ _ h => h) (Or.inl ⟨by rfl, ?hy46⟩) hHeld ?rest46
    case hy46 =>
      intro w hSw
      go_simp
      try with_reducible rfl
    try simp only [Act.put, List.setIfInBounds_toArray, List.set_cons_zero, List.set_cons_succ, Array.toArray_toList, List.getElem_toArray, List.getElem_cons_zero, List.getElem_cons_succ]
    refine wpAnyH_take (i := 8) (v := ?v47) rfl (by kernel_rfl) (by kernel_rfl) (by kernel_rfl) (fun _ _ _ h => h) (Or.inl ⟨by rfl, ?hy47⟩) hHeld ?rest47
    case hy47 =>
      intro w hSw
      have ld := LN.out _ hSw
      go_simp
      try with_reducible rfl
    try simp only [Act.put, List.setIfInBounds_toArray, List.set_cons_zero, List.set_cons_succ, Array.toArray_toList, List.getElem_toArray, List.getElem_cons_zero, List.getElem_cons_succ]
    refine wpAnyH_take (i := 9) (v := ?v48) rfl (by kernel_rfl) (by kernel_rfl) (by kernel_rfl) (fun _ _ _ h => h) (Or.inl ⟨by rfl, ?hy48⟩) hHeld ?rest48
    case hy48 =>
      intro w hSw
      go_simp
      try with_reducible rfl
    try simp only [Act.put, List.setIfInBounds_toArray, List.set_cons_zero, List.set_cons_succ, Array.toArray_toList, List.getElem_toArray, List.getElem_cons_zero, List.getElem_cons_succ]
    refine wpAnyH_done (by kernel_rfl) ?_ _
    refine NoPanic.normal ?_
    go_wp2
    go_ret
    exact ⟨rfl, FIN.out⟩

end Go.Proofs.YtjimdkpppgjokaaDoor
