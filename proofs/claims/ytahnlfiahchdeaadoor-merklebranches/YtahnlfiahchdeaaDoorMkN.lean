/-
  What MerkleHolds answers.
-/
import Derived.Test.YtahnlfiahchdeaaDoorMkM
import Derived.Maps.AppendAt
namespace Go.Proofs.YtahnlfiahchdeaaDoor
open Go.RowKit
set_option linter.unusedVariables false
set_option linter.unusedSimpArgs false

/-- append of roots, whole. -/
def apR (ty : TypeId) (x y : Value) : Sem Value := Builtin.append_ #[22, 22] ty #[x, y]
theorem wp_appendR_is {P : Program} {o : Oper} {a : Act} {w : World} {K : Act → World → Prop} {Q : Exit → Act → World → Prop} (s x : Operand)
    (ho : o.op = .call { callee := .builtin .append, args := #[s, x], argTypes := #[22, 22] }) (ws wx v : Value) (w' : World) (hs : a.eval s = ws) (hx : a.eval x = wx)
    (hrun : (apR o.type ws wx).run P w = .ok v w') (h : K (a.put o.dst v) w') : Oper.wp P o a w K Q := by
  unfold apR at hrun
  unfold Oper.wp execOp
  simp only [ho, resolve, invoke, builtin, Sem.run_bind, Sem.run_pure, Result.andThen_ok, List.map_toArray, List.map_cons, List.map_nil, hs, hx, hrun]
  exact h
/-- A copy of roots by append. -/
theorem apR_copy (w w0 : World) (a : Option Addr) (len cap : Nat) (f : Nat → Int) (hr : Rts w0 a len cap f) (hl : 32 * len ≤ 140737488355328) (hb : Below w0.heap.size w0 w) (ty : TypeId) :
    ∃ a' cap' w', (apR ty (.slice (some ⟨w.heap.size, 0, none⟩) 0 0) (.slice a len cap)).run Tryd.prog (w.alloc (.cells #[] 27)) = .ok (.slice a' len cap') w' ∧ Below w.heap.size w w' ∧ Rts w' a' len cap' f := by
  obtain ⟨i, hi, hz0, hz1, hz2⟩ := infoR
  have hzz : (Value.agg (vs .u8 32 fun _ => 0)).cells.size = 32 := by simp [Value.cells, vs_size]
  have hB : Below w.heap.size w (w.alloc (.cells #[] 27)) := (Below.refl _ _).alloc (Nat.le_refl _) _
  have hown : (w.alloc (.cells #[] 27)).ownsRow w.heap.size 27 32 (.slice (some ⟨w.heap.size, 0, none⟩) 0 0) 0 [] := World.ownsRow_made _ #[] 0 (Nat.le_refl _) (Nat.zero_le _) rfl
  have hfin : ∀ v' w', w'.ownsRow w.heap.size 27 32 v' (0 + len) ([] ++ bl f (32 * len)) → (w.alloc (.cells #[] 27)).grownBy w' (Value.slice (some ⟨w.heap.size, 0, none⟩) 0 0).ownBlock → ∃ a' cap', v' = .slice a' len cap' ∧ Below w.heap.size w w' ∧ Rts w' a' len cap' f := by
    intro v' w' ho hg
    rw [Nat.zero_add, List.nil_append] at ho
    obtain ⟨a', cap', rfl, hrow⟩ := RowR.ofOwns ho
    exact ⟨a', cap', rfl, below_grownS hB hown (by simp) hg, hrow.rts⟩
  have hr2 : Rts (w.alloc (.cells #[] 27)) a len cap f := hr.below (hb.trans (hB.mono hb.size))
  rcases hr2 with ⟨rfl, rfl, rfl⟩ | ⟨x0, rfl, rfl⟩ | ⟨b, off, rfl, hlc, hbl, hc⟩
  · have h := run_append_owned_none (P := Tryd.prog) (w := w.alloc (.cells #[] 27)) w.heap.size 22 ty 27 i 32 Tryd.underlying22 hi _ 0 [] hown
    exact ⟨_, _, _, h, hB, .inr (.inl ⟨_, rfl, rfl⟩)⟩
  · obtain ⟨v', w', hrun, ho, hg, _⟩ := run_append_own_at (P := Tryd.prog) (w.alloc (.cells #[] 27)) w.heap.size 22 ty 27 i _ 32 32 Tryd.underlying22 hi hz0 hz1 hz2 hzz (by decide) _ 0 [] hown x0 0 cap (bl f (32 * 0)) (by rw [bl_len])
      (fun j u hj => by
        have := (bl_get f (32 * 0) j u hj).1
        omega) (bl_one f _) (by unfold maxLen; omega) (by omega) (by simp)
    obtain ⟨a', cap', rfl, h1, h2⟩ := hfin v' w' ho hg
    exact ⟨a', cap', w', hrun, h1, h2⟩
  · obtain ⟨v', w', hrun, ho, hg, _⟩ := run_append_own_at (P := Tryd.prog) (w.alloc (.cells #[] 27)) w.heap.size 22 ty 27 i _ 32 32 Tryd.underlying22 hi hz0 hz1 hz2 hzz (by decide) _ 0 [] hown ⟨b, off, none⟩ len cap (bl f (32 * len)) (by rw [bl_len]; omega)
      (fun j u hj => by
        obtain ⟨h1, rfl⟩ := bl_get f (32 * len) j u hj
        rw [addr_add]
        exact hc j h1) (bl_one f _) (by unfold maxLen; omega) (by omega) (by simp)
    obtain ⟨a', cap', rfl, h1, h2⟩ := hfin v' w' ho hg
    exact ⟨a', cap', w', hrun, h1, h2⟩

attribute [local go_sem ↓] sv24_eq lv24_eq ix22_eq slr_eq lv48_eq sv48_eq bd48_eq bd27_eq sl22_eq mk22_eq eqo_eq

set_option maxRecDepth 20000 in
set_option maxHeartbeats 1000000 in
theorem hlaw_any (leaf root f : Nat → Int) (a : Option Addr) (len cap p : Nat) (w : World) (hS : Sh w) (hC : Rc w) (hl : ∀ j, j < 32 → 0 ≤ leaf j ∧ leaf j < 256) (hr : Rts w a len cap f) (hf : ByB f (32 * len)) (hp : p ≤ 18446744073709551615) (hln : 32 * len ≤ 140737488355328) :
    Calls Tryd.prog 5 #[.agg (vs .u8 32 leaf), .slice a len cap, .int .u64 p, .agg (vs .u8 32 root)] w fun e w' => e = .returned (.bool true) ∧ Below w.heap.size w w' := by
  have HS := hid hS
  have HC := hid hC
  have HL := hid hl
  have HR := hid hr
  have HF := hid hf
  clear hS hC hl hr hf
  go_enter Tryd.func5, Tryd.ntmps5
  go_upto_region 1 with fail
  obtain ⟨W0, hW0⟩ : ∃ W, (w.alloc (.cells (vs .u8 32 leaf) 27)).alloc (.cells (vs .u8 32 root) 27) = W := ⟨_, rfl⟩
  rw [hW0]
  have hB0 : Below w.heap.size w W0 := by rw [← hW0]; go_grown
  have z0 : W0.heap.size = w.heap.size + 2 := by rw [← hW0]; simp
  have ra : W0.heap[w.heap.size]? = some (.cells (vs .u8 32 leaf) 27) := by rw [← hW0]; exact (heap_old (by simp)).trans (heap_new rfl)
  have rb : W0.heap[w.heap.size + 1]? = some (.cells (vs .u8 32 root) 27) := by rw [← hW0]; exact heap_new (by simp)
  have haw := awake_any W0 (HS.out.below hB0)
  have HAW := hid haw
  have H0 := hid (And.intro hB0 (And.intro z0 (And.intro ra rb)))
  clear haw hB0 z0 ra rb hW0
  go_upto_region 3 with (go_at_call 9; refine HAW.out.mono ?_; rintro e w1 ⟨rfl, hb1⟩)
  obtain ⟨hB0, z0, ra, rb⟩ := H0.out
  have s1 := hb1.size
  have hB1 : Below w.heap.size w w1 := hB0.trans (hb1.mono (by omega))
  have ra1 := (hb1.block w.heap.size (by omega)).trans ra
  have rb1 := (hb1.block (w.heap.size + 1) (by omega)).trans rb
  have hla : ∀ W, Below w1.heap.size w1 W → (lv24 ⟨w.heap.size, 0, none⟩).run Tryd.prog W = .ok (.agg (vs .u8 32 leaf)) W := fun W h => lv24_run ((h.block _ (by omega)).trans ra1)
  have hlb : ∀ W, Below w1.heap.size w1 W → (lv24 ⟨w.heap.size + 1, 0, none⟩).run Tryd.prog W = .ok (.agg (vs .u8 32 root)) W := fun W h => lv24_run ((h.block _ (by omega)).trans rb1)
  have hdr : Below w1.heap.size w1 w1.drew := ⟨rfl, rfl, rfl, Nat.le_refl _, fun _ _ => rfl⟩
  have hfin : ∀ W, Below w1.heap.size w1 W → Below w.heap.size w W := fun W h => hB1.trans (h.mono hB1.size)
  have hnew : ∀ W, Below w1.heap.size w1 W → Below w1.heap.size w1 (W.alloc (.cells #[] 27)) := fun W h => h.alloc h.size _
  have hap : ∀ W ty, Below w1.heap.size w1 W → ∃ a' cap' w', (apR ty (.slice (some ⟨W.heap.size, 0, none⟩) 0 0) (.slice a len cap)).run Tryd.prog (W.alloc (.cells #[] 27)) = .ok (.slice a' len cap') w' ∧ Below w1.heap.size w1 w' ∧ Rts w' a' len cap' f := by
    intro W ty h
    obtain ⟨a', cap', w', h1, h2, h3⟩ := apR_copy W w1 a len cap f (HR.out.below hB1) hln h ty
    exact ⟨a', cap', w', h1, h.trans (h2.mono h.size), h3⟩
  have hh1 : ∀ W a' cap', Below w1.heap.size w1 W → Rts W a' len cap' f → Calls Tryd.prog 21 #[.agg (vs .u8 32 leaf), .slice a' len cap', .int .u64 p, .agg (vs .u8 32 root)] W fun e w' => e = .returned (.bool (holdsV leaf f len p root)) ∧ Below w1.heap.size w1 w' := by
    intro W a' cap' h hr
    refine (holds_any leaf root f a' len cap' p W (HS.out.below (hfin W h)) HL.out hr HF.out hp (by omega)).mono ?_
    rintro e w' ⟨rfl, hb⟩
    exact ⟨rfl, h.trans (hb.mono h.size)⟩
  have hh2 : ∀ W, Below w1.heap.size w1 W → Calls Tryd.prog 22 #[.agg (vs .u8 32 leaf), .slice a len cap, .int .u64 p, .agg (vs .u8 32 root)] W fun e w' => e = .returned (.bool (holdsV leaf f len p root)) ∧ Below w1.heap.size w1 w' := by
    intro W h
    refine (rholds_any leaf root f a len cap p W (HC.out.below (hfin W h)) HL.out (HR.out.below (hfin W h)) HF.out hp (by omega)).mono ?_
    rintro e w' ⟨rfl, hb⟩
    exact ⟨rfl, h.trans (hb.mono h.size)⟩
  generalize holdsV leaf f len p root = V at hh1 hh2
  have HLA := hid hla
  have HLB := hid hlb
  have HDR := hid hdr
  have HFIN := hid hfin
  have HNEW := hid hnew
  have HAP := hid hap
  have HH1 := hid hh1
  have HH2 := hid hh2
  clear hla hlb hdr hfin hnew hap hh1 hh2 hB0 z0 ra rb hB1 ra1 rb1 hb1 s1 HAW H0 HS HC HL HR HF
  refine wp_region_noPanic ?_
  refine wp_region_held_drew (S := fun W => Below w1.heap.size w1 W) (by kernel_rfl) (HDR.out) (fun hHeld => ?_)
  refine wpAnyH_take (i := 0) (v := ?v1) rfl (by kernel_rfl) (by kernel_rfl) (by kernel_rfl) (fun _ _ _ h => h) (Or.inl ⟨by rfl, ?hy1⟩) hHeld ?rest1
  case hy1 =>
    intro w hSw
    have ld := HLA.out _ hSw
    go_simp
    try with_reducible rfl
  try simp only [Act.put, List.setIfInBounds_toArray, List.set_cons_zero, List.set_cons_succ, Array.toArray_toList, List.getElem_toArray, List.getElem_cons_zero, List.getElem_cons_succ]
  refine wpAnyH_take (i := 2) (v := ?v2) rfl (by kernel_rfl) (by kernel_rfl) (by kernel_rfl) (fun _ _ _ h => h) (Or.inl ⟨by rfl, ?hy2⟩) hHeld ?rest2
  case hy2 =>
    intro w hSw
    go_simp
    try with_reducible rfl
  try simp only [Act.put, List.setIfInBounds_toArray, List.set_cons_zero, List.set_cons_succ, Array.toArray_toList, List.getElem_toArray, List.getElem_cons_zero, List.getElem_cons_succ]
  refine wpAnyH_take (i := 4) (v := ?v3) rfl (by kernel_rfl) (by kernel_rfl) (by kernel_rfl) (fun _ _ _ h => h) (Or.inl ⟨by rfl, ?hy3⟩) hHeld ?rest3
  case hy3 =>
    intro w hSw
    go_simp
    try with_reducible rfl
  try simp only [Act.put, List.setIfInBounds_toArray, List.set_cons_zero, List.set_cons_succ, Array.toArray_toList, List.getElem_toArray, List.getElem_cons_zero, List.getElem_cons_succ]
  refine wpAnyH_take (i := 5) (v := ?v4) rfl (by kernel_rfl) (by kernel_rfl) (by kernel_rfl) (fun _ _ _ h => h) (Or.inl ⟨by rfl, ?hy4⟩) hHeld ?rest4
  case hy4 =>
    intro w hSw
    have ld := HLB.out _ hSw
    go_simp
    try with_reducible rfl
  try simp only [Act.put, List.setIfInBounds_toArray, List.set_cons_zero, List.set_cons_succ, Array.toArray_toList, List.getElem_toArray, List.getElem_cons_zero, List.getElem_cons_succ]
  refine wpAnyH_take (i := 7) (v := ?v5) rfl (by kernel_rfl) (by kernel_rfl) (by kernel_rfl) (fun _ _ _ h => h) (Or.inl ⟨by rfl, ?hy5⟩) hHeld ?rest5
  case hy5 =>
    intro w hSw
    have ld := HLA.out _ hSw
    go_simp
    try with_reducible rfl
  try simp only [Act.put, List.setIfInBounds_toArray, List.set_cons_zero, List.set_cons_succ, Array.toArray_toList, List.getElem_toArray, List.getElem_cons_zero, List.getElem_cons_succ]
  refine wpAnyH_take (i := 8) (v := ?v6) rfl (by kernel_rfl) (by kernel_rfl) (by kernel_rfl) (fun _ _ _ h => h) (Or.inl ⟨by rfl, ?hy6⟩) hHeld ?rest6
  case hy6 =>
    intro w hSw
    go_simp
    try with_reducible rfl
  try simp only [Act.put, List.setIfInBounds_toArray, List.set_cons_zero, List.set_cons_succ, Array.toArray_toList, List.getElem_toArray, List.getElem_cons_zero, List.getElem_cons_succ]
  refine wpAnyH_take (i := 9) (v := ?v7) rfl (by kernel_rfl) (by kernel_rfl) (by kernel_rfl) (fun _ _ _ h => h) (Or.inl ⟨by rfl, ?hy7⟩) hHeld ?rest7
  case hy7 =>
    intro w hSw
    go_simp
    try with_reducible rfl
  try simp only [Act.put, List.setIfInBounds_toArray, List.set_cons_zero, List.set_cons_succ, Array.toArray_toList, List.getElem_toArray, List.getElem_cons_zero, List.getElem_cons_succ]
  refine wpAnyH_take (i := 10) (v := ?v8) rfl (by kernel_rfl) (by kernel_rfl) (by kernel_rfl) (fun _ _ _ h => h) (Or.inl ⟨by rfl, ?hy8⟩) hHeld ?rest8
  case hy8 =>
    intro w hSw
    have ld := HLB.out _ hSw
    go_simp
    try with_reducible rfl
  try simp only [Act.put, List.setIfInBounds_toArray, List.set_cons_zero, List.set_cons_succ, Array.toArray_toList, List.getElem_toArray, List.getElem_cons_zero, List.getElem_cons_succ]
  refine wpAnyH_ready (rs := [1]) (by kernel_rfl) (by simp) ?_
  refine AllReadyH.cons rfl (fun K hK => ?_) AllReadyH.nil
  go_simp
  refine hK.out _ _ (HNEW.out _ HDR.out) (fun hHeld => ?_)
  clear hK K
  try simp only [Act.put, List.setIfInBounds_toArray, List.set_cons_zero, List.set_cons_succ, Array.toArray_toList, List.getElem_toArray, List.getElem_cons_zero, List.getElem_cons_succ]
  refine wpAnyH_ready (rs := [3]) (by kernel_rfl) (by simp) ?_
  refine AllReadyH.cons rfl (fun K hK => ?_) AllReadyH.nil
  obtain ⟨a2, cap2, w2, hr2, hs1, hrt⟩ := HAP.out _ 22 HDR.out
  rw [if_pos (by rfl)]
  refine wp_appendR_is _ _ rfl _ _ _ _ rfl rfl hr2 ?_
  refine hK.out _ _ hs1 (fun hHeld => ?_)
  clear hK K
  try simp only [Act.put, List.setIfInBounds_toArray, List.set_cons_zero, List.set_cons_succ, Array.toArray_toList, List.getElem_toArray, List.getElem_cons_zero, List.getElem_cons_succ]
  refine wpAnyH_ready (rs := [6]) (by kernel_rfl) (by simp) ?_
  refine AllReadyH.cons rfl (fun K hK => ?_) AllReadyH.nil
  go_simp
  refine (HH1.out _ a2 cap2 hs1 hrt).mono ?_
  rintro e w3 ⟨rfl, hs2⟩
  dsimp only
  refine hK.out _ _ (hs2) (fun hHeld => ?_)
  clear hK K
  try simp only [Act.put, List.setIfInBounds_toArray, List.set_cons_zero, List.set_cons_succ, Array.toArray_toList, List.getElem_toArray, List.getElem_cons_zero, List.getElem_cons_succ]
  refine wpAnyH_ready (rs := [11]) (by kernel_rfl) (by simp) ?_
  refine AllReadyH.cons rfl (fun K hK => ?_) AllReadyH.nil
  go_simp
  refine (HH2.out _ hs2).mono ?_
  rintro e w4 ⟨rfl, hs3⟩
  dsimp only
  refine hK.out _ _ (hs3) (fun hHeld => ?_)
  clear hK K
  try simp only [Act.put, List.setIfInBounds_toArray, List.set_cons_zero, List.set_cons_succ, Array.toArray_toList, List.getElem_toArray, List.getElem_cons_zero, List.getElem_cons_succ]
  refine wpAnyH_take (i := 12) (v := ?v9) rfl (by kernel_rfl) (by kernel_rfl) (by kernel_rfl) (fun _ _ _ h => h) (Or.inl ⟨by rfl, ?hy9⟩) hHeld ?rest9
  case hy9 =>
    intro w hSw
    go_simp
    try with_reducible rfl
  try simp only [Act.put, List.setIfInBounds_toArray, List.set_cons_zero, List.set_cons_succ, Array.toArray_toList, List.getElem_toArray, List.getElem_cons_zero, List.getElem_cons_succ]
  refine wpAnyH_take (i := 13) (v := ?v10) rfl (by kernel_rfl) (by kernel_rfl) (by kernel_rfl) (fun _ _ _ h => h) (Or.inl ⟨by rfl, ?hy10⟩) hHeld ?rest10
  case hy10 =>
    intro w hSw
    go_simp
    try with_reducible rfl
  try simp only [Act.put, List.setIfInBounds_toArray, List.set_cons_zero, List.set_cons_succ, Array.toArray_toList, List.getElem_toArray, List.getElem_cons_zero, List.getElem_cons_succ]
  refine wpAnyH_done (by kernel_rfl) ?_ _
  refine NoPanic.normal ?_
  go_wp2
  go_ret
  exact ⟨rfl, HFIN.out _ hs3⟩

end Go.Proofs.YtahnlfiahchdeaaDoor
