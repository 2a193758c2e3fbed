/-
  What MerkleTrees answers.
-/
import Derived.Test.YtahnlfiahchdeaaDoorMkX
import Derived.Test.YtahnlfiahchdeaaDoorMkT
namespace Go.Proofs.YtahnlfiahchdeaaDoor
open Go.RowKit
set_option linter.unusedVariables false
set_option linter.unusedSimpArgs false

/-- append of bytes, whole. -/
def apB (ty : TypeId) (x y : Value) : Sem Value := Builtin.append_ #[23, 23] ty #[x, y]
theorem wp_appendB_is {P : Program} {o : Oper} {a : Act} {w : World} {K : Act → World → Prop} {Q : Exit → Act → World → Prop} (s x : Operand)
    (ho : o.op = .call { callee := .builtin .append, args := #[s, x], argTypes := #[23, 23] }) (ws wx v : Value) (w' : World) (hs : a.eval s = ws) (hx : a.eval x = wx)
    (hrun : (apB o.type ws wx).run P w = .ok v w') (h : K (a.put o.dst v) w') : Oper.wp P o a w K Q := by
  unfold apB at hrun
  unfold Oper.wp execOp
  simp only [ho, resolve, invoke, builtin, Sem.run_bind, Sem.run_pure, Result.andThen_ok, List.map_toArray, List.map_cons, List.map_nil, hs, hx, hrun]
  exact h
/-- A copy of bytes by append. -/
theorem apB_copy (w w0 : World) (a : Option Addr) (len cap : Nat) (m : Nat → Int) (hr : Bys w0 a len cap m) (hl : len ≤ 140737488355328) (hb : Below w0.heap.size w0 w) (ty : TypeId) :
    ∃ a' cap' w', (apB ty (.slice (some ⟨w.heap.size, 0, none⟩) 0 0) (.slice a len cap)).run Tryd.prog (w.alloc (.cells #[] 5)) = .ok (.slice a' len cap') w' ∧ Below w.heap.size w w' ∧ Bys w' a' len cap' m := by
  obtain ⟨i, hi, hz0, hz1, hz2⟩ := info_parts info8
  have hB : Below w.heap.size w (w.alloc (.cells #[] 5)) := (Below.refl _ _).alloc (Nat.le_refl _) _
  have hown : (w.alloc (.cells #[] 5)).ownsRow w.heap.size 5 1 (.slice (some ⟨w.heap.size, 0, none⟩) 0 0) 0 [] := World.ownsRow_made _ #[] 0 (Nat.le_refl _) (Nat.zero_le _) rfl
  have hfin : ∀ v' w', w'.ownsRow w.heap.size 5 1 v' (0 + len) ([] ++ bl m len) → (w.alloc (.cells #[] 5)).grownBy w' (Value.slice (some ⟨w.heap.size, 0, none⟩) 0 0).ownBlock → ∃ a' cap', v' = .slice a' len cap' ∧ Below w.heap.size w w' ∧ Bys w' a' len cap' m := by
    intro v' w' ho hg
    rw [Nat.zero_add, List.nil_append] at ho
    obtain ⟨a', cap', rfl, hrow, _⟩ := own_bys ho
    exact ⟨a', cap', rfl, below_grownS hB hown (by simp) hg, hrow⟩
  have hr2 : Bys (w.alloc (.cells #[] 5)) a len cap m := hr.below (hb.trans (hB.mono hb.size))
  rcases hr2 with ⟨rfl, rfl, rfl⟩ | ⟨x0, rfl, rfl⟩ | ⟨b, off, rfl, hlc, hcm, hbl, hc⟩
  · have h := run_append_owned_none (P := Tryd.prog) (w := w.alloc (.cells #[] 5)) w.heap.size 23 ty 5 i 1 Tryd.underlying23 hi _ 0 [] hown
    exact ⟨_, _, _, h, hB, .inr (.inl ⟨_, rfl, rfl⟩)⟩
  · obtain ⟨v', w', hrun, ho, hg, _⟩ := run_append_own_at (P := Tryd.prog) (w.alloc (.cells #[] 5)) w.heap.size 23 ty 5 i _ 1 1 Tryd.underlying23 hi hz0 hz1 hz2 rfl (by decide) _ 0 [] hown x0 0 cap (bl m 0) (by rw [bl_len])
      (fun j u hj => by
        have := (bl_get m 0 j u hj).1
        omega) (bl_one m _) (by unfold maxLen; omega) (by omega) (by simp)
    obtain ⟨a', cap', rfl, h1, h2⟩ := hfin v' w' ho hg
    exact ⟨a', cap', w', hrun, h1, h2⟩
  · obtain ⟨v', w', hrun, ho, hg, _⟩ := run_append_own_at (P := Tryd.prog) (w.alloc (.cells #[] 5)) w.heap.size 23 ty 5 i _ 1 1 Tryd.underlying23 hi hz0 hz1 hz2 rfl (by decide) _ 0 [] hown ⟨b, off, none⟩ len cap (bl m len) (by rw [bl_len]; omega)
      (fun j u hj => by
        obtain ⟨h1, rfl⟩ := bl_get m len j u hj
        rw [addr_add]
        exact hc j h1) (bl_one m _) (by unfold maxLen; omega) (by omega) (by simp)
    obtain ⟨a', cap', rfl, h1, h2⟩ := hfin v' w' ho hg
    exact ⟨a', cap', w', hrun, h1, h2⟩

/-- Roots compared, whole: are they other ones? -/
def neo (x y : Value) : Sem Value := binOp .neq 27 x y
theorem neo_eq (x y : Value) : binOp .neq 27 x y = neo x y := rfl
theorem neo_run (w : World) (c d : Nat → Int) : (neo (.agg (vs .u8 32 c)) (.agg (vs .u8 32 d))).run Tryd.prog w = .ok (.bool (!eqR c d)) w := by
  have h2 : (Op.equalIn Op.maxDepth 27 (.agg (vs .u8 32 c)) (.agg (vs .u8 32 d))).run Tryd.prog w = .ok (eqR c d) w := eq32g w c d
  unfold neo
  simp [binOp, Op.equal, h2]

/-- What a call answers, wherever the blocks below w stand. -/
def Ans (w : World) (f : FuncId) (args : Array Value) (v : Value) : Prop :=
  ∀ W, Below w.heap.size w W → Calls Tryd.prog f args W fun e w' => e = .returned v ∧ Below W.heap.size W w'

attribute [local go_sem ↓] sv24_eq lv24_eq ix22_eq slr_eq lv48_eq sv48_eq bd48_eq bd27_eq bs22_eq sl22_eq mk22_eq eqo_eq neo_eq

set_option maxRecDepth 20000 in
set_option maxHeartbeats 2000000 in
theorem trees_coreIn (a ab : Option Addr) (len cap lenb capb np : Nat) (f mb PK T Z X : Nat → Int) (n dd nn E EZ : Int) (w : World) (hl : 32 * len ≤ 140737488355328) (hd0 : 0 ≤ dd) (hd1 : dd ≤ 40) (hE : EZ = 0) (hRZ : Ans w 14 #[.int .i64 dd] (.agg (vs .u8 32 Z)))
    (haw : Ans w 9 #[] (.bool true)) (hr : Rts w a len cap f)
    (hT : ∀ W a' cap', Below w.heap.size w W → Rts W a' len cap' f → Calls Tryd.prog 10 #[.slice a' len cap', .int .i64 n] W fun e w' => e = .returned (.tuple #[.agg (vs .u8 32 T), .int .i64 E]) ∧ Below W.heap.size W w')
    (hRT : Ans w 11 #[.slice a len cap, .int .i64 n] (.tuple #[.agg (vs .u8 32 T), .int .i64 E]))
    (hSm : ∀ W a' cap', Below w.heap.size w W → Rts W a' len cap' f → Calls Tryd.prog 12 #[.slice a' len cap', .slice a len cap] W fun e w' => e = .returned (.bool true) ∧ Below W.heap.size W w')
    (hZ : Ans w 13 #[.int .i64 dd] (.tuple #[.agg (vs .u8 32 Z), .int .i64 EZ]))
    (hap : ∀ W ty, Below w.heap.size w W → ∃ a' cap' w', (apB ty (.slice (some ⟨W.heap.size, 0, none⟩) 0 0) (.slice ab lenb capb)).run Tryd.prog (W.alloc (.cells #[] 5)) = .ok (.slice a' lenb cap') w' ∧ Below W.heap.size W w' ∧ Bys w' a' lenb cap' mb)
    (hPk : ∀ W a' cap', Below w.heap.size w W → Bys W a' lenb cap' mb → Calls Tryd.prog 15 #[.slice a' lenb cap'] W fun e w' => ∃ a2 cap2, e = .returned (.slice a2 np cap2) ∧ Below W.heap.size W w' ∧ Rts w' a2 np cap2 PK)
    (hRPk : ∀ W, Below w.heap.size w W → Calls Tryd.prog 16 #[.slice ab lenb capb] W fun e w' => ∃ a2 cap2, e = .returned (.slice a2 np cap2) ∧ Below W.heap.size W w' ∧ Rts w' a2 np cap2 PK)
    (hSm2 : ∀ W a1 c1 a2 c2, Rts W a1 np c1 PK → Rts W a2 np c2 PK → Calls Tryd.prog 12 #[.slice a1 np c1, .slice a2 np c2] W fun e w' => e = .returned (.bool true) ∧ Below W.heap.size W w')
    (hMx : Ans w 17 #[.agg (vs .u8 32 T), .int .u64 nn] (.agg (vs .u8 32 X))) (hRMx : Ans w 18 #[.agg (vs .u8 32 T), .int .u64 nn] (.agg (vs .u8 32 X))) :
    Calls Tryd.prog 3 #[.slice a len cap, .int .i64 n, .int .i64 dd, .slice ab lenb capb, .int .u64 nn] w fun e w' => e = .returned (.bool true) ∧ Below w.heap.size w w' := by
  have HAW := hid haw
  have HR := hid hr
  have HT := hid hT
  have HRT := hid hRT
  have HSM := hid hSm
  have HZ := hid hZ
  have HAP := hid hap
  have HPK := hid hPk
  have HRPK := hid hRPk
  have HSM2 := hid hSm2
  have HMX := hid hMx
  have HRMX := hid hRMx
  clear haw hr hT hRT hSm hZ hap hPk hRPk hSm2 hMx hRMx
  have z := zero_root
  have b27 := bd27_0
  have b20 := bs22_0
  have v1 := fun W => sv24_newv W (fun _ => 0) T
  have v2 := fun W => sv24_newv W (fun _ => 0) Z
  have HRZ := hid hRZ
  clear hRZ
  have d1 : decide (dd < 0) = false := by simp; omega
  have d2 : decide (40 < dd) = false := by simp; omega
  subst hE
  go_enter Tryd.func3, Tryd.ntmps3
  have hB0 : Below w.heap.size w w := Below.refl _ _
  have HB0 := hid hB0
  clear hB0
  go_upto_region 3 with (go_at_call 9; refine (HAW.out _ HB0.out).mono ?_; rintro e w1 ⟨rfl, hb1⟩)
  have hs1 := hb1.size
  have hB1 := HB0.out.trans (hb1.mono HB0.out.size)
  clear HB0
  have HB1 := hid hB1
  clear hB1 hb1 hs1
  go_upto_region 4 with (at_builtin; refine wpList_append_rts _ rfl _ _ rfl w1.heap.size _ 0 f rfl (World.ownsRow_made _ #[] 0 (Nat.le_refl _) (Nat.zero_le _) rfl) a len cap f rfl (HR.out.below (HB1.out.alloc HB1.out.size _)) (by omega) (by simp) f (fun q _ => rfl) (fun q _ => by rw [Nat.mul_zero, Nat.zero_add]) ?_; intro v2 w2 ho2 hg2; rw [Nat.zero_add] at ho2; have hb2 := below_grownS ((Below.refl w1.heap.size w1).alloc (Nat.le_refl _) (.cells #[] 27)) (World.ownsRow_made (e := 27) (size := 32) _ #[] 0 (Nat.le_refl _) (Nat.zero_le _) rfl) (by simp) hg2; obtain ⟨am, capm, rfl, hrow⟩ := RowR.ofOwns ho2; have hrm := hrow.rts; clear hg2 ho2 hrow)
  have hs2 := hb2.size
  have hB2 := HB1.out.trans (hb2.mono HB1.out.size)
  clear HB1
  have HB2 := hid hB2
  clear hB2 hb2 hs2
  have HRM := hid hrm
  clear hrm
  go_upto_region 5 with (go_at_call 10; refine (HT.out _ _ _ HB2.out HRM.out).mono ?_; rintro e w3 ⟨rfl, hb3⟩)
  have hrm3 := HRM.out.below hb3
  obtain ⟨W3, hW3, hB3, hC3, r3, s3, t3⟩ := stow HB2.out hb3 T
  have hrm3' := hrm3.below ((Below.refl w3.heap.size w3).alloc (Nat.le_refl _) (.cells (vs .u8 32 T) 27))
  rw [hW3] at hrm3' ⊢
  obtain ⟨y3, ey3⟩ : ∃ y, w3.heap.size = y := ⟨_, rfl⟩
  rw [ey3] at r3 s3 t3 ⊢
  clear HB2
  have R3 := hid r3
  have HB3 := hid hB3
  clear HRM
  have HRM := hid hrm3'
  clear hrm3 hrm3'
  clear r3 hB3 hC3 hW3 ey3 hb3 s3
  go_upto_region 6 with (go_at_call 11; refine (HRT.out _ HB3.out).mono ?_; rintro e w4 ⟨rfl, hb4⟩)
  have hrm4 := HRM.out.below hb4
  obtain ⟨W4, hW4, hB4, hC4, r4, s4, t4⟩ := stow HB3.out hb4 T
  have hrm4' := hrm4.below ((Below.refl w4.heap.size w4).alloc (Nat.le_refl _) (.cells (vs .u8 32 T) 27))
  rw [hW4] at hrm4' ⊢
  obtain ⟨y4, ey4⟩ : ∃ y, w4.heap.size = y := ⟨_, rfl⟩
  rw [ey4] at r4 s4 t4 ⊢
  have r3' := (hC4.block y3 (by have := t3; omega)).trans R3.out
  have t3' : y3 < W4.heap.size := by omega
  clear t3
  have t3 := t3'
  clear t3'
  clear HB3
  clear R3
  have R3 := hid r3'
  clear r3'
  have R4 := hid r4
  have HB4 := hid hB4
  clear HRM
  have HRM := hid hrm4'
  clear hrm4 hrm4'
  clear r4 hB4 hC4 hW4 ey4 hb4 s4
  have l3 := lv24_run R3.out
  have l4 := lv24_run R4.out
  have q3 := fun W => neo_run W T T
  rw [eqR_self] at q3
  go_upto_region 8 with (go_at_call 12; refine (HSM.out _ _ _ HB4.out HRM.out).mono ?_; rintro e w15 ⟨rfl, hb15⟩)
  clear l3 l4 q3
  have hs15 := hb15.size
  have hB15 := HB4.out.trans (hb15.mono HB4.out.size)
  have r3' := (hb15.block y3 (by have := t3; omega)).trans R3.out
  have t3' : y3 < w15.heap.size := by omega
  clear t3
  have t3 := t3'
  clear t3'
  have r4' := (hb15.block y4 (by have := t4; omega)).trans R4.out
  have t4' : y4 < w15.heap.size := by omega
  clear t4
  have t4 := t4'
  clear t4'
  clear HB4
  clear R3
  have R3 := hid r3'
  clear r3'
  clear R4
  have R4 := hid r4'
  clear r4'
  have HB15 := hid hB15
  clear hB15 hb15 hs15
  go_upto_region 9 with (go_at_call 13; refine (HZ.out _ HB15.out).mono ?_; rintro e w5 ⟨rfl, hb5⟩)
  obtain ⟨W5, hW5, hB5, hC5, r5, s5, t5⟩ := stow HB15.out hb5 Z
  rw [hW5]
  obtain ⟨y5, ey5⟩ : ∃ y, w5.heap.size = y := ⟨_, rfl⟩
  rw [ey5] at r5 s5 t5 ⊢
  have r3' := (hC5.block y3 (by have := t3; omega)).trans R3.out
  have r4' := (hC5.block y4 (by have := t4; omega)).trans R4.out
  have t3' : y3 < W5.heap.size := by omega
  clear t3
  have t3 := t3'
  clear t3'
  have t4' : y4 < W5.heap.size := by omega
  clear t4
  have t4 := t4'
  clear t4'
  clear HB15
  clear R3
  have R3 := hid r3'
  clear r3'
  clear R4
  have R4 := hid r4'
  clear r4'
  have R5 := hid r5
  have HB5 := hid hB5
  clear r5 hB5 hC5 hW5 ey5 hb5 s5
  go_upto_region 12 with fail
  have hdr : Below W5.heap.size W5 W5.drew := (Below.refl _ _).drew
  have HDR := hid hdr
  clear hdr
  have hl5 : ∀ W, Below W5.heap.size W5 W → (lv24 ⟨y5, 0, none⟩).run Tryd.prog W = .ok (.agg (vs .u8 32 Z)) W := fun W h => lv24_run ((h.block _ t5).trans R5.out)
  have L5 := hid hl5
  clear hl5
  refine wp_region_noPanic ?_
  refine wp_region_held_drew (S := fun W => Below W5.heap.size W5 W) (by kernel_rfl) (HDR.out) (fun hHeld => ?_)
  refine wpAnyH_take (i := 0) (v := ?v1) rfl (by kernel_rfl) (by kernel_rfl) (by kernel_rfl) (fun _ _ _ h => h) (Or.inl ⟨by rfl, ?hy1⟩) hHeld ?rest1
  case hy1 =>
    intro w hSw
    go_simp
    try with_reducible rfl
  try simp only [Act.put, List.setIfInBounds_toArray, List.set_cons_zero, List.set_cons_succ, Array.toArray_toList, List.getElem_toArray, List.getElem_cons_zero, List.getElem_cons_succ]
  refine wpAnyH_take (i := 1) (v := ?v2) rfl (by kernel_rfl) (by kernel_rfl) (by kernel_rfl) (fun _ _ _ h => h) (Or.inl ⟨by rfl, ?hy2⟩) hHeld ?rest2
  case hy2 =>
    intro w hSw
    go_simp
    try with_reducible rfl
  try simp only [Act.put, List.setIfInBounds_toArray, List.set_cons_zero, List.set_cons_succ, Array.toArray_toList, List.getElem_toArray, List.getElem_cons_zero, List.getElem_cons_succ]
  refine wpAnyH_take (i := 2) (v := ?v3) rfl (by kernel_rfl) (by kernel_rfl) (by kernel_rfl) (fun _ _ _ h => h) (Or.inl ⟨by rfl, ?hy3⟩) hHeld ?rest3
  case hy3 =>
    intro w hSw
    go_simp
    try with_reducible rfl
  try simp only [Act.put, List.setIfInBounds_toArray, List.set_cons_zero, List.set_cons_succ, Array.toArray_toList, List.getElem_toArray, List.getElem_cons_zero, List.getElem_cons_succ]
  refine wpAnyH_take (i := 3) (v := ?v4) rfl (by kernel_rfl) (by kernel_rfl) (by kernel_rfl) (fun _ _ _ h => h) (Or.inl ⟨by rfl, ?hy4⟩) hHeld ?rest4
  case hy4 =>
    intro w hSw
    have ld := L5.out _ hSw
    go_simp
    try with_reducible rfl
  try simp only [Act.put, List.setIfInBounds_toArray, List.set_cons_zero, List.set_cons_succ, Array.toArray_toList, List.getElem_toArray, List.getElem_cons_zero, List.getElem_cons_succ]
  refine wpAnyH_take (i := 4) (v := ?v5) rfl (by kernel_rfl) (by kernel_rfl) (by kernel_rfl) (fun _ _ _ h => h) (Or.inl ⟨by rfl, ?hy5⟩) hHeld ?rest5
  case hy5 =>
    intro w hSw
    go_simp
    try with_reducible rfl
  try simp only [Act.put, List.setIfInBounds_toArray, List.set_cons_zero, List.set_cons_succ, Array.toArray_toList, List.getElem_toArray, List.getElem_cons_zero, List.getElem_cons_succ]
  refine wpAnyH_ready (rs := [5]) (by kernel_rfl) (by simp) ?_
  refine AllReadyH.cons rfl (fun K hK => ?_) AllReadyH.nil
  go_simp
  refine (HRZ.out _ HB5.out.drew).mono ?_
  rintro e w6 ⟨rfl, hb6⟩
  dsimp only
  replace hb6 : Below W5.heap.size W5 w6 := HDR.out.trans hb6
  refine hK.out _ _ (hb6) (fun hHeld => ?_)
  clear hK K
  try simp only [Act.put, List.setIfInBounds_toArray, List.set_cons_zero, List.set_cons_succ, Array.toArray_toList, List.getElem_toArray, List.getElem_cons_zero, List.getElem_cons_succ]
  refine wpAnyH_take (i := 6) rfl (by kernel_rfl) (by kernel_rfl) (by kernel_rfl) (fun _ _ _ h => h) (yields_neo (by rfl) _ _ _ rfl Z Z rfl rfl) hHeld ?_
  rw [eqR_self, Bool.not_true]
  try simp only [Act.put, List.setIfInBounds_toArray, List.set_cons_zero, List.set_cons_succ, Array.toArray_toList, List.getElem_toArray, List.getElem_cons_zero, List.getElem_cons_succ]
  refine wpAnyH_take (i := 7) (v := ?v6) rfl (by kernel_rfl) (by kernel_rfl) (by kernel_rfl) (fun _ _ _ h => h) (Or.inl ⟨by rfl, ?hy6⟩) hHeld ?rest6
  case hy6 =>
    intro w hSw
    go_simp
    try with_reducible rfl
  try simp only [Act.put, List.setIfInBounds_toArray, List.set_cons_zero, List.set_cons_succ, Array.toArray_toList, List.getElem_toArray, List.getElem_cons_zero, List.getElem_cons_succ]
  refine wpAnyH_done (by kernel_rfl) ?_ _
  refine NoPanic.normal ?_
  clear HDR L5 hHeld
  have hs6 := hb6.size
  have hB6 := HB5.out.trans (hb6.mono HB5.out.size)
  have r3' := (hb6.block y3 (by have := t3; omega)).trans R3.out
  have t3' : y3 < w6.heap.size := by omega
  clear t3
  have t3 := t3'
  clear t3'
  have r4' := (hb6.block y4 (by have := t4; omega)).trans R4.out
  have t4' : y4 < w6.heap.size := by omega
  clear t4
  have t4 := t4'
  clear t4'
  clear HB5
  clear R3
  have R3 := hid r3'
  clear r3'
  clear R4
  have R4 := hid r4'
  clear r4'
  have HB6 := hid hB6
  clear hB6 hb6 hs6
  go_upto_region 14 with fail
  have hl1 : ∀ W, Below w6.heap.size w6 W → (lv24 ⟨y3, 0, none⟩).run Tryd.prog W = .ok (.agg (vs .u8 32 T)) W := fun W h => lv24_run ((h.block _ t3).trans R3.out)
  have L1 := hid hl1
  clear hl1
  have hl2 : ∀ W, Below w6.heap.size w6 W → (lv24 ⟨y4, 0, none⟩).run Tryd.prog W = .ok (.agg (vs .u8 32 T)) W := fun W h => lv24_run ((h.block _ t4).trans R4.out)
  have L2 := hid hl2
  clear hl2
  have hdr : Below w6.heap.size w6 w6.drew := (Below.refl _ _).drew
  have HDR := hid hdr
  clear hdr
  refine wp_region_noPanic ?_
  refine wp_region_held_drew (S := fun W => Below w6.heap.size w6 W) (by kernel_rfl) (HDR.out) (fun hHeld => ?_)
  refine wpAnyH_take (i := 1) (v := ?v7) rfl (by kernel_rfl) (by kernel_rfl) (by kernel_rfl) (fun _ _ _ h => h) (Or.inl ⟨by rfl, ?hy7⟩) hHeld ?rest7
  case hy7 =>
    intro w hSw
    go_simp
    try with_reducible rfl
  try simp only [Act.put, List.setIfInBounds_toArray, List.set_cons_zero, List.set_cons_succ, Array.toArray_toList, List.getElem_toArray, List.getElem_cons_zero, List.getElem_cons_succ]
  refine wpAnyH_take (i := 4) (v := ?v8) rfl (by kernel_rfl) (by kernel_rfl) (by kernel_rfl) (fun _ _ _ h => h) (Or.inl ⟨by rfl, ?hy8⟩) hHeld ?rest8
  case hy8 =>
    intro w hSw
    go_simp
    try with_reducible rfl
  try simp only [Act.put, List.setIfInBounds_toArray, List.set_cons_zero, List.set_cons_succ, Array.toArray_toList, List.getElem_toArray, List.getElem_cons_zero, List.getElem_cons_succ]
  refine wpAnyH_ready (rs := [0]) (by kernel_rfl) (by simp) ?_
  refine AllReadyH.cons rfl (fun K hK => ?_) AllReadyH.nil
  go_simp
  refine hK.out _ _ (HDR.out.alloc (Nat.le_refl _) _) (fun hHeld => ?_)
  clear hK K
  try simp only [Act.put, List.setIfInBounds_toArray, List.set_cons_zero, List.set_cons_succ, Array.toArray_toList, List.getElem_toArray, List.getElem_cons_zero, List.getElem_cons_succ]
  refine wpAnyH_ready (rs := [2]) (by kernel_rfl) (by simp) ?_
  refine AllReadyH.cons rfl (fun K hK => ?_) AllReadyH.nil
  obtain ⟨a7, cap7, w7, hr7, hb7, hy7⟩ := HAP.out _ 23 HB6.out.drew
  rw [if_pos (by rfl)]
  refine wp_appendB_is _ _ rfl _ _ _ _ rfl rfl hr7 ?_
  replace hb7 : Below w6.heap.size w6 w7 := HDR.out.trans hb7
  have z7 := hb7.size
  have B7 := HB6.out.trans (hb7.mono HB6.out.size)
  refine hK.out _ _ (hb7) (fun hHeld => ?_)
  clear hK K
  try simp only [Act.put, List.setIfInBounds_toArray, List.set_cons_zero, List.set_cons_succ, Array.toArray_toList, List.getElem_toArray, List.getElem_cons_zero, List.getElem_cons_succ]
  refine wpAnyH_ready (rs := [3]) (by kernel_rfl) (by simp) ?_
  refine AllReadyH.cons rfl (fun K hK => ?_) AllReadyH.nil
  go_simp
  refine (HPK.out _ a7 cap7 B7 hy7).mono ?_
  rintro e w8 ⟨a8, cap8, rfl, hb8', hr8⟩
  dsimp only
  have hb8 : Below w6.heap.size w6 w8 := hb7.trans (hb8'.mono z7)
  have z8 := hb8.size
  have B8 := HB6.out.trans (hb8.mono HB6.out.size)
  refine hK.out _ _ (hb8) (fun hHeld => ?_)
  clear hK K
  try simp only [Act.put, List.setIfInBounds_toArray, List.set_cons_zero, List.set_cons_succ, Array.toArray_toList, List.getElem_toArray, List.getElem_cons_zero, List.getElem_cons_succ]
  refine wpAnyH_ready (rs := [5]) (by kernel_rfl) (by simp) ?_
  refine AllReadyH.cons rfl (fun K hK => ?_) AllReadyH.nil
  go_simp
  refine (HRPK.out _ B8).mono ?_
  rintro e w9 ⟨a9, cap9, rfl, hb9', hr9⟩
  dsimp only
  have hr8' := hr8.below hb9'
  have hb9 : Below w6.heap.size w6 w9 := hb8.trans (hb9'.mono z8)
  have z9 := hb9.size
  have B9 := HB6.out.trans (hb9.mono HB6.out.size)
  refine hK.out _ _ (hb9) (fun hHeld => ?_)
  clear hK K
  try simp only [Act.put, List.setIfInBounds_toArray, List.set_cons_zero, List.set_cons_succ, Array.toArray_toList, List.getElem_toArray, List.getElem_cons_zero, List.getElem_cons_succ]
  refine wpAnyH_ready (rs := [6]) (by kernel_rfl) (by simp) ?_
  refine AllReadyH.cons rfl (fun K hK => ?_) AllReadyH.nil
  go_simp
  refine (HSM2.out _ _ _ _ _ hr8' hr9).mono ?_
  rintro e w10 ⟨rfl, hb10'⟩
  dsimp only
  have hb10 : Below w6.heap.size w6 w10 := hb9.trans (hb10'.mono z9)
  have z10 := hb10.size
  have B10 := HB6.out.trans (hb10.mono HB6.out.size)
  refine hK.out _ _ (hb10) (fun hHeld => ?_)
  clear hK K
  try simp only [Act.put, List.setIfInBounds_toArray, List.set_cons_zero, List.set_cons_succ, Array.toArray_toList, List.getElem_toArray, List.getElem_cons_zero, List.getElem_cons_succ]
  refine wpAnyH_take (i := 7) (v := ?v9) rfl (by kernel_rfl) (by kernel_rfl) (by kernel_rfl) (fun _ _ _ h => h) (Or.inl ⟨by rfl, ?hy9⟩) hHeld ?rest9
  case hy9 =>
    intro w hSw
    go_simp
    try with_reducible rfl
  try simp only [Act.put, List.setIfInBounds_toArray, List.set_cons_zero, List.set_cons_succ, Array.toArray_toList, List.getElem_toArray, List.getElem_cons_zero, List.getElem_cons_succ]
  refine wpAnyH_take (i := 8) (v := ?v10) rfl (by kernel_rfl) (by kernel_rfl) (by kernel_rfl) (fun _ _ _ h => h) (Or.inl ⟨by rfl, ?hy10⟩) hHeld ?rest10
  case hy10 =>
    intro w hSw
    have ld := L1.out _ hSw
    go_simp
    try with_reducible rfl
  try simp only [Act.put, List.setIfInBounds_toArray, List.set_cons_zero, List.set_cons_succ, Array.toArray_toList, List.getElem_toArray, List.getElem_cons_zero, List.getElem_cons_succ]
  refine wpAnyH_take (i := 9) (v := ?v11) rfl (by kernel_rfl) (by kernel_rfl) (by kernel_rfl) (fun _ _ _ h => h) (Or.inl ⟨by rfl, ?hy11⟩) hHeld ?rest11
  case hy11 =>
    intro w hSw
    go_simp
    try with_reducible rfl
  try simp only [Act.put, List.setIfInBounds_toArray, List.set_cons_zero, List.set_cons_succ, Array.toArray_toList, List.getElem_toArray, List.getElem_cons_zero, List.getElem_cons_succ]
  refine wpAnyH_take (i := 11) (v := ?v12) rfl (by kernel_rfl) (by kernel_rfl) (by kernel_rfl) (fun _ _ _ h => h) (Or.inl ⟨by rfl, ?hy12⟩) hHeld ?rest12
  case hy12 =>
    intro w hSw
    have ld := L2.out _ hSw
    go_simp
    try with_reducible rfl
  try simp only [Act.put, List.setIfInBounds_toArray, List.set_cons_zero, List.set_cons_succ, Array.toArray_toList, List.getElem_toArray, List.getElem_cons_zero, List.getElem_cons_succ]
  refine wpAnyH_take (i := 12) (v := ?v13) rfl (by kernel_rfl) (by kernel_rfl) (by kernel_rfl) (fun _ _ _ h => h) (Or.inl ⟨by rfl, ?hy13⟩) hHeld ?rest13
  case hy13 =>
    intro w hSw
    go_simp
    try with_reducible rfl
  try simp only [Act.put, List.setIfInBounds_toArray, List.set_cons_zero, List.set_cons_succ, Array.toArray_toList, List.getElem_toArray, List.getElem_cons_zero, List.getElem_cons_succ]
  refine wpAnyH_ready (rs := [10]) (by kernel_rfl) (by simp) ?_
  refine AllReadyH.cons rfl (fun K hK => ?_) AllReadyH.nil
  go_simp
  refine (HMX.out _ B10).mono ?_
  rintro e w11 ⟨rfl, hb11'⟩
  dsimp only
  have hb11 : Below w6.heap.size w6 w11 := hb10.trans (hb11'.mono z10)
  have z11 := hb11.size
  have B11 := HB6.out.trans (hb11.mono HB6.out.size)
  refine hK.out _ _ (hb11) (fun hHeld => ?_)
  clear hK K
  try simp only [Act.put, List.setIfInBounds_toArray, List.set_cons_zero, List.set_cons_succ, Array.toArray_toList, List.getElem_toArray, List.getElem_cons_zero, List.getElem_cons_succ]
  refine wpAnyH_ready (rs := [13]) (by kernel_rfl) (by simp) ?_
  refine AllReadyH.cons rfl (fun K hK => ?_) AllReadyH.nil
  go_simp
  refine (HRMX.out _ B11).mono ?_
  rintro e w12 ⟨rfl, hb12'⟩
  dsimp only
  have hb12 : Below w6.heap.size w6 w12 := hb11.trans (hb12'.mono z11)
  have B12 := HB6.out.trans (hb12.mono HB6.out.size)
  refine hK.out _ _ (hb12) (fun hHeld => ?_)
  clear hK K
  try simp only [Act.put, List.setIfInBounds_toArray, List.set_cons_zero, List.set_cons_succ, Array.toArray_toList, List.getElem_toArray, List.getElem_cons_zero, List.getElem_cons_succ]
  refine wpAnyH_take (i := 14) rfl (by kernel_rfl) (by kernel_rfl) (by kernel_rfl) (fun _ _ _ h => h) (yields_eqo (by rfl) _ _ _ rfl X X rfl rfl) hHeld ?_
  rw [eqR_self]
  try simp only [Act.put, List.setIfInBounds_toArray, List.set_cons_zero, List.set_cons_succ, Array.toArray_toList, List.getElem_toArray, List.getElem_cons_zero, List.getElem_cons_succ]
  refine wpAnyH_take (i := 15) (v := ?v14) rfl (by kernel_rfl) (by kernel_rfl) (by kernel_rfl) (fun _ _ _ h => h) (Or.inl ⟨by rfl, ?hy14⟩) hHeld ?rest14
  case hy14 =>
    intro w hSw
    go_simp
    try with_reducible rfl
  try simp only [Act.put, List.setIfInBounds_toArray, List.set_cons_zero, List.set_cons_succ, Array.toArray_toList, List.getElem_toArray, List.getElem_cons_zero, List.getElem_cons_succ]
  refine wpAnyH_take (i := 16) (v := ?v15) rfl (by kernel_rfl) (by kernel_rfl) (by kernel_rfl) (fun _ _ _ h => h) (Or.inl ⟨by rfl, ?hy15⟩) hHeld ?rest15
  case hy15 =>
    intro w hSw
    go_simp
    try with_reducible rfl
  try simp only [Act.put, List.setIfInBounds_toArray, List.set_cons_zero, List.set_cons_succ, Array.toArray_toList, List.getElem_toArray, List.getElem_cons_zero, List.getElem_cons_succ]
  refine wpAnyH_done (by kernel_rfl) ?_ _
  refine NoPanic.normal ?_
  go_wp2
  go_ret
  exact ⟨rfl, B12⟩

set_option maxRecDepth 20000 in
set_option maxHeartbeats 2000000 in
theorem trees_coreLow (a ab : Option Addr) (len cap lenb capb np : Nat) (f mb PK T Z X : Nat → Int) (n dd nn E EZ : Int) (w : World) (hl : 32 * len ≤ 140737488355328) (hd0 : dd < 0) (hE : EZ = 1) (hZ0 : Z = fun _ => 0)
    (haw : Ans w 9 #[] (.bool true)) (hr : Rts w a len cap f)
    (hT : ∀ W a' cap', Below w.heap.size w W → Rts W a' len cap' f → Calls Tryd.prog 10 #[.slice a' len cap', .int .i64 n] W fun e w' => e = .returned (.tuple #[.agg (vs .u8 32 T), .int .i64 E]) ∧ Below W.heap.size W w')
    (hRT : Ans w 11 #[.slice a len cap, .int .i64 n] (.tuple #[.agg (vs .u8 32 T), .int .i64 E]))
    (hSm : ∀ W a' cap', Below w.heap.size w W → Rts W a' len cap' f → Calls Tryd.prog 12 #[.slice a' len cap', .slice a len cap] W fun e w' => e = .returned (.bool true) ∧ Below W.heap.size W w')
    (hZ : Ans w 13 #[.int .i64 dd] (.tuple #[.agg (vs .u8 32 Z), .int .i64 EZ]))
    (hap : ∀ W ty, Below w.heap.size w W → ∃ a' cap' w', (apB ty (.slice (some ⟨W.heap.size, 0, none⟩) 0 0) (.slice ab lenb capb)).run Tryd.prog (W.alloc (.cells #[] 5)) = .ok (.slice a' lenb cap') w' ∧ Below W.heap.size W w' ∧ Bys w' a' lenb cap' mb)
    (hPk : ∀ W a' cap', Below w.heap.size w W → Bys W a' lenb cap' mb → Calls Tryd.prog 15 #[.slice a' lenb cap'] W fun e w' => ∃ a2 cap2, e = .returned (.slice a2 np cap2) ∧ Below W.heap.size W w' ∧ Rts w' a2 np cap2 PK)
    (hRPk : ∀ W, Below w.heap.size w W → Calls Tryd.prog 16 #[.slice ab lenb capb] W fun e w' => ∃ a2 cap2, e = .returned (.slice a2 np cap2) ∧ Below W.heap.size W w' ∧ Rts w' a2 np cap2 PK)
    (hSm2 : ∀ W a1 c1 a2 c2, Rts W a1 np c1 PK → Rts W a2 np c2 PK → Calls Tryd.prog 12 #[.slice a1 np c1, .slice a2 np c2] W fun e w' => e = .returned (.bool true) ∧ Below W.heap.size W w')
    (hMx : Ans w 17 #[.agg (vs .u8 32 T), .int .u64 nn] (.agg (vs .u8 32 X))) (hRMx : Ans w 18 #[.agg (vs .u8 32 T), .int .u64 nn] (.agg (vs .u8 32 X))) :
    Calls Tryd.prog 3 #[.slice a len cap, .int .i64 n, .int .i64 dd, .slice ab lenb capb, .int .u64 nn] w fun e w' => e = .returned (.bool true) ∧ Below w.heap.size w w' := by
  have HAW := hid haw
  have HR := hid hr
  have HT := hid hT
  have HRT := hid hRT
  have HSM := hid hSm
  have HZ := hid hZ
  have HAP := hid hap
  have HPK := hid hPk
  have HRPK := hid hRPk
  have HSM2 := hid hSm2
  have HMX := hid hMx
  have HRMX := hid hRMx
  clear haw hr hT hRT hSm hZ hap hPk hRPk hSm2 hMx hRMx
  have z := zero_root
  have b27 := bd27_0
  have b20 := bs22_0
  have v1 := fun W => sv24_newv W (fun _ => 0) T
  have v2 := fun W => sv24_newv W (fun _ => 0) Z
  have d1 : decide (dd < 0) = true := by simp; omega
  subst hE
  have HZ0 := hid hZ0
  clear hZ0
  go_enter Tryd.func3, Tryd.ntmps3
  have hB0 : Below w.heap.size w w := Below.refl _ _
  have HB0 := hid hB0
  clear hB0
  go_upto_region 3 with (go_at_call 9; refine (HAW.out _ HB0.out).mono ?_; rintro e w1 ⟨rfl, hb1⟩)
  have hs1 := hb1.size
  have hB1 := HB0.out.trans (hb1.mono HB0.out.size)
  clear HB0
  have HB1 := hid hB1
  clear hB1 hb1 hs1
  go_upto_region 4 with (at_builtin; refine wpList_append_rts _ rfl _ _ rfl w1.heap.size _ 0 f rfl (World.ownsRow_made _ #[] 0 (Nat.le_refl _) (Nat.zero_le _) rfl) a len cap f rfl (HR.out.below (HB1.out.alloc HB1.out.size _)) (by omega) (by simp) f (fun q _ => rfl) (fun q _ => by rw [Nat.mul_zero, Nat.zero_add]) ?_; intro v2 w2 ho2 hg2; rw [Nat.zero_add] at ho2; have hb2 := below_grownS ((Below.refl w1.heap.size w1).alloc (Nat.le_refl _) (.cells #[] 27)) (World.ownsRow_made (e := 27) (size := 32) _ #[] 0 (Nat.le_refl _) (Nat.zero_le _) rfl) (by simp) hg2; obtain ⟨am, capm, rfl, hrow⟩ := RowR.ofOwns ho2; have hrm := hrow.rts; clear hg2 ho2 hrow)
  have hs2 := hb2.size
  have hB2 := HB1.out.trans (hb2.mono HB1.out.size)
  clear HB1
  have HB2 := hid hB2
  clear hB2 hb2 hs2
  have HRM := hid hrm
  clear hrm
  go_upto_region 5 with (go_at_call 10; refine (HT.out _ _ _ HB2.out HRM.out).mono ?_; rintro e w3 ⟨rfl, hb3⟩)
  have hrm3 := HRM.out.below hb3
  obtain ⟨W3, hW3, hB3, hC3, r3, s3, t3⟩ := stow HB2.out hb3 T
  have hrm3' := hrm3.below ((Below.refl w3.heap.size w3).alloc (Nat.le_refl _) (.cells (vs .u8 32 T) 27))
  rw [hW3] at hrm3' ⊢
  obtain ⟨y3, ey3⟩ : ∃ y, w3.heap.size = y := ⟨_, rfl⟩
  rw [ey3] at r3 s3 t3 ⊢
  clear HB2
  have R3 := hid r3
  have HB3 := hid hB3
  clear HRM
  have HRM := hid hrm3'
  clear hrm3 hrm3'
  clear r3 hB3 hC3 hW3 ey3 hb3 s3
  go_upto_region 6 with (go_at_call 11; refine (HRT.out _ HB3.out).mono ?_; rintro e w4 ⟨rfl, hb4⟩)
  have hrm4 := HRM.out.below hb4
  obtain ⟨W4, hW4, hB4, hC4, r4, s4, t4⟩ := stow HB3.out hb4 T
  have hrm4' := hrm4.below ((Below.refl w4.heap.size w4).alloc (Nat.le_refl _) (.cells (vs .u8 32 T) 27))
  rw [hW4] at hrm4' ⊢
  obtain ⟨y4, ey4⟩ : ∃ y, w4.heap.size = y := ⟨_, rfl⟩
  rw [ey4] at r4 s4 t4 ⊢
  have r3' := (hC4.block y3 (by have := t3; omega)).trans R3.out
  have t3' : y3 < W4.heap.size := by omega
  clear t3
  have t3 := t3'
  clear t3'
  clear HB3
  clear R3
  have R3 := hid r3'
  clear r3'
  have R4 := hid r4
  have HB4 := hid hB4
  clear HRM
  have HRM := hid hrm4'
  clear hrm4 hrm4'
  clear r4 hB4 hC4 hW4 ey4 hb4 s4
  have l3 := lv24_run R3.out
  have l4 := lv24_run R4.out
  have q3 := fun W => neo_run W T T
  rw [eqR_self] at q3
  go_upto_region 8 with (go_at_call 12; refine (HSM.out _ _ _ HB4.out HRM.out).mono ?_; rintro e w15 ⟨rfl, hb15⟩)
  clear l3 l4 q3
  have hs15 := hb15.size
  have hB15 := HB4.out.trans (hb15.mono HB4.out.size)
  have r3' := (hb15.block y3 (by have := t3; omega)).trans R3.out
  have t3' : y3 < w15.heap.size := by omega
  clear t3
  have t3 := t3'
  clear t3'
  have r4' := (hb15.block y4 (by have := t4; omega)).trans R4.out
  have t4' : y4 < w15.heap.size := by omega
  clear t4
  have t4 := t4'
  clear t4'
  clear HB4
  clear R3
  have R3 := hid r3'
  clear r3'
  clear R4
  have R4 := hid r4'
  clear r4'
  have HB15 := hid hB15
  clear hB15 hb15 hs15
  go_upto_region 9 with (go_at_call 13; refine (HZ.out _ HB15.out).mono ?_; rintro e w5 ⟨rfl, hb5⟩)
  obtain ⟨W5, hW5, hB5, hC5, r5, s5, t5⟩ := stow HB15.out hb5 Z
  rw [hW5]
  obtain ⟨y5, ey5⟩ : ∃ y, w5.heap.size = y := ⟨_, rfl⟩
  rw [ey5] at r5 s5 t5 ⊢
  have r3' := (hC5.block y3 (by have := t3; omega)).trans R3.out
  have r4' := (hC5.block y4 (by have := t4; omega)).trans R4.out
  have t3' : y3 < W5.heap.size := by omega
  clear t3
  have t3 := t3'
  clear t3'
  have t4' : y4 < W5.heap.size := by omega
  clear t4
  have t4 := t4'
  clear t4'
  clear HB15
  clear R3
  have R3 := hid r3'
  clear r3'
  clear R4
  have R4 := hid r4'
  clear r4'
  have R5 := hid r5
  have HB5 := hid hB5
  clear r5 hB5 hC5 hW5 ey5 hb5 s5
  have l5 := lv24_run R5.out
  have q5 := fun W => neo_run W Z (fun _ => 0)
  rw [HZ0.out, eqR_self] at q5
  rw [HZ0.out] at l5
  go_upto_region 14 with fail
  obtain ⟨w6, ew6⟩ : ∃ x, W5 = x := ⟨_, rfl⟩
  rw [ew6] at t3 t4 t5 HB5 R3 R4 R5 l5 ⊢
  have HB6 := hid HB5.out
  clear HB5 ew6 l5 q5
  have hl1 : ∀ W, Below w6.heap.size w6 W → (lv24 ⟨y3, 0, none⟩).run Tryd.prog W = .ok (.agg (vs .u8 32 T)) W := fun W h => lv24_run ((h.block _ t3).trans R3.out)
  have L1 := hid hl1
  clear hl1
  have hl2 : ∀ W, Below w6.heap.size w6 W → (lv24 ⟨y4, 0, none⟩).run Tryd.prog W = .ok (.agg (vs .u8 32 T)) W := fun W h => lv24_run ((h.block _ t4).trans R4.out)
  have L2 := hid hl2
  clear hl2
  have hdr : Below w6.heap.size w6 w6.drew := (Below.refl _ _).drew
  have HDR := hid hdr
  clear hdr
  refine wp_region_noPanic ?_
  refine wp_region_held_drew (S := fun W => Below w6.heap.size w6 W) (by kernel_rfl) (HDR.out) (fun hHeld => ?_)
  refine wpAnyH_take (i := 1) (v := ?v16) rfl (by kernel_rfl) (by kernel_rfl) (by kernel_rfl) (fun _ _ _ h => h) (Or.inl ⟨by rfl, ?hy16⟩) hHeld ?rest16
  case hy16 =>
    intro w hSw
    go_simp
    try with_reducible rfl
  try simp only [Act.put, List.setIfInBounds_toArray, List.set_cons_zero, List.set_cons_succ, Array.toArray_toList, List.getElem_toArray, List.getElem_cons_zero, List.getElem_cons_succ]
  refine wpAnyH_take (i := 4) (v := ?v17) rfl (by kernel_rfl) (by kernel_rfl) (by kernel_rfl) (fun _ _ _ h => h) (Or.inl ⟨by rfl, ?hy17⟩) hHeld ?rest17
  case hy17 =>
    intro w hSw
    go_simp
    try with_reducible rfl
  try simp only [Act.put, List.setIfInBounds_toArray, List.set_cons_zero, List.set_cons_succ, Array.toArray_toList, List.getElem_toArray, List.getElem_cons_zero, List.getElem_cons_succ]
  refine wpAnyH_ready (rs := [0]) (by kernel_rfl) (by simp) ?_
  refine AllReadyH.cons rfl (fun K hK => ?_) AllReadyH.nil
  go_simp
  refine hK.out _ _ (HDR.out.alloc (Nat.le_refl _) _) (fun hHeld => ?_)
  clear hK K
  try simp only [Act.put, List.setIfInBounds_toArray, List.set_cons_zero, List.set_cons_succ, Array.toArray_toList, List.getElem_toArray, List.getElem_cons_zero, List.getElem_cons_succ]
  refine wpAnyH_ready (rs := [2]) (by kernel_rfl) (by simp) ?_
  refine AllReadyH.cons rfl (fun K hK => ?_) AllReadyH.nil
  obtain ⟨a7, cap7, w7, hr7, hb7, hy7⟩ := HAP.out _ 23 HB6.out.drew
  rw [if_pos (by rfl)]
  refine wp_appendB_is _ _ rfl _ _ _ _ rfl rfl hr7 ?_
  replace hb7 : Below w6.heap.size w6 w7 := HDR.out.trans hb7
  have z7 := hb7.size
  have B7 := HB6.out.trans (hb7.mono HB6.out.size)
  refine hK.out _ _ (hb7) (fun hHeld => ?_)
  clear hK K
  try simp only [Act.put, List.setIfInBounds_toArray, List.set_cons_zero, List.set_cons_succ, Array.toArray_toList, List.getElem_toArray, List.getElem_cons_zero, List.getElem_cons_succ]
  refine wpAnyH_ready (rs := [3]) (by kernel_rfl) (by simp) ?_
  refine AllReadyH.cons rfl (fun K hK => ?_) AllReadyH.nil
  go_simp
  refine (HPK.out _ a7 cap7 B7 hy7).mono ?_
  rintro e w8 ⟨a8, cap8, rfl, hb8', hr8⟩
  dsimp only
  have hb8 : Below w6.heap.size w6 w8 := hb7.trans (hb8'.mono z7)
  have z8 := hb8.size
  have B8 := HB6.out.trans (hb8.mono HB6.out.size)
  refine hK.out _ _ (hb8) (fun hHeld => ?_)
  clear hK K
  try simp only [Act.put, List.setIfInBounds_toArray, List.set_cons_zero, List.set_cons_succ, Array.toArray_toList, List.getElem_toArray, List.getElem_cons_zero, List.getElem_cons_succ]
  refine wpAnyH_ready (rs := [5]) (by kernel_rfl) (by simp) ?_
  refine AllReadyH.cons rfl (fun K hK => ?_) AllReadyH.nil
  go_simp
  refine (HRPK.out _ B8).mono ?_
  rintro e w9 ⟨a9, cap9, rfl, hb9', hr9⟩
  dsimp only
  have hr8' := hr8.below hb9'
  have hb9 : Below w6.heap.size w6 w9 := hb8.trans (hb9'.mono z8)
  have z9 := hb9.size
  have B9 := HB6.out.trans (hb9.mono HB6.out.size)
  refine hK.out _ _ (hb9) (fun hHeld => ?_)
  clear hK K
  try simp only [Act.put, List.setIfInBounds_toArray, List.set_cons_zero, List.set_cons_succ, Array.toArray_toList, List.getElem_toArray, List.getElem_cons_zero, List.getElem_cons_succ]
  refine wpAnyH_ready (rs := [6]) (by kernel_rfl) (by simp) ?_
  refine AllReadyH.cons rfl (fun K hK => ?_) AllReadyH.nil
  go_simp
  refine (HSM2.out _ _ _ _ _ hr8' hr9).mono ?_
  rintro e w10 ⟨rfl, hb10'⟩
  dsimp only
  have hb10 : Below w6.heap.size w6 w10 := hb9.trans (hb10'.mono z9)
  have z10 := hb10.size
  have B10 := HB6.out.trans (hb10.mono HB6.out.size)
  refine hK.out _ _ (hb10) (fun hHeld => ?_)
  clear hK K
  try simp only [Act.put, List.setIfInBounds_toArray, List.set_cons_zero, List.set_cons_succ, Array.toArray_toList, List.getElem_toArray, List.getElem_cons_zero, List.getElem_cons_succ]
  refine wpAnyH_take (i := 7) (v := ?v18) rfl (by kernel_rfl) (by kernel_rfl) (by kernel_rfl) (fun _ _ _ h => h) (Or.inl ⟨by rfl, ?hy18⟩) hHeld ?rest18
  case hy18 =>
    intro w hSw
    go_simp
    try with_reducible rfl
  try simp only [Act.put, List.setIfInBounds_toArray, List.set_cons_zero, List.set_cons_succ, Array.toArray_toList, List.getElem_toArray, List.getElem_cons_zero, List.getElem_cons_succ]
  refine wpAnyH_take (i := 8) (v := ?v19) rfl (by kernel_rfl) (by kernel_rfl) (by kernel_rfl) (fun _ _ _ h => h) (Or.inl ⟨by rfl, ?hy19⟩) hHeld ?rest19
  case hy19 =>
    intro w hSw
    have ld := L1.out _ hSw
    go_simp
    try with_reducible rfl
  try simp only [Act.put, List.setIfInBounds_toArray, List.set_cons_zero, List.set_cons_succ, Array.toArray_toList, List.getElem_toArray, List.getElem_cons_zero, List.getElem_cons_succ]
  refine wpAnyH_take (i := 9) (v := ?v20) rfl (by kernel_rfl) (by kernel_rfl) (by kernel_rfl) (fun _ _ _ h => h) (Or.inl ⟨by rfl, ?hy20⟩) hHeld ?rest20
  case hy20 =>
    intro w hSw
    go_simp
    try with_reducible rfl
  try simp only [Act.put, List.setIfInBounds_toArray, List.set_cons_zero, List.set_cons_succ, Array.toArray_toList, List.getElem_toArray, List.getElem_cons_zero, List.getElem_cons_succ]
  refine wpAnyH_take (i := 11) (v := ?v21) rfl (by kernel_rfl) (by kernel_rfl) (by kernel_rfl) (fun _ _ _ h => h) (Or.inl ⟨by rfl, ?hy21⟩) hHeld ?rest21
  case hy21 =>
    intro w hSw
    have ld := L2.out _ hSw
    go_simp
    try with_reducible rfl
  try simp only [Act.put, List.setIfInBounds_toArray, List.set_cons_zero, List.set_cons_succ, Array.toArray_toList, List.getElem_toArray, List.getElem_cons_zero, List.getElem_cons_succ]
  refine wpAnyH_take (i := 12) (v := ?v22) rfl (by kernel_rfl) (by kernel_rfl) (by kernel_rfl) (fun _ _ _ h => h) (Or.inl ⟨by rfl, ?hy22⟩) hHeld ?rest22
  case hy22 =>
    intro w hSw
    go_simp
    try with_reducible rfl
  try simp only [Act.put, List.setIfInBounds_toArray, List.set_cons_zero, List.set_cons_succ, Array.toArray_toList, List.getElem_toArray, List.getElem_cons_zero, List.getElem_cons_succ]
  refine wpAnyH_ready (rs := [10]) (by kernel_rfl) (by simp) ?_
  refine AllReadyH.cons rfl (fun K hK => ?_) AllReadyH.nil
  go_simp
  refine (HMX.out _ B10).mono ?_
  rintro e w11 ⟨rfl, hb11'⟩
  dsimp only
  have hb11 : Below w6.heap.size w6 w11 := hb10.trans (hb11'.mono z10)
  have z11 := hb11.size
  have B11 := HB6.out.trans (hb11.mono HB6.out.size)
  refine hK.out _ _ (hb11) (fun hHeld => ?_)
  clear hK K
  try simp only [Act.put, List.setIfInBounds_toArray, List.set_cons_zero, List.set_cons_succ, Array.toArray_toList, List.getElem_toArray, List.getElem_cons_zero, List.getElem_cons_succ]
  refine wpAnyH_ready (rs := [13]) (by kernel_rfl) (by simp) ?_
  refine AllReadyH.cons rfl (fun K hK => ?_) AllReadyH.nil
  go_simp
  refine (HRMX.out _ B11).mono ?_
  rintro e w12 ⟨rfl, hb12'⟩
  dsimp only
  have hb12 : Below w6.heap.size w6 w12 := hb11.trans (hb12'.mono z11)
  have B12 := HB6.out.trans (hb12.mono HB6.out.size)
  refine hK.out _ _ (hb12) (fun hHeld => ?_)
  clear hK K
  try simp only [Act.put, List.setIfInBounds_toArray, List.set_cons_zero, List.set_cons_succ, Array.toArray_toList, List.getElem_toArray, List.getElem_cons_zero, List.getElem_cons_succ]
  refine wpAnyH_take (i := 14) rfl (by kernel_rfl) (by kernel_rfl) (by kernel_rfl) (fun _ _ _ h => h) (yields_eqo (by rfl) _ _ _ rfl X X rfl rfl) hHeld ?_
  rw [eqR_self]
  try simp only [Act.put, List.setIfInBounds_toArray, List.set_cons_zero, List.set_cons_succ, Array.toArray_toList, List.getElem_toArray, List.getElem_cons_zero, List.getElem_cons_succ]
  refine wpAnyH_take (i := 15) (v := ?v23) rfl (by kernel_rfl) (by kernel_rfl) (by kernel_rfl) (fun _ _ _ h => h) (Or.inl ⟨by rfl, ?hy23⟩) hHeld ?rest23
  case hy23 =>
    intro w hSw
    go_simp
    try with_reducible rfl
  try simp only [Act.put, List.setIfInBounds_toArray, List.set_cons_zero, List.set_cons_succ, Array.toArray_toList, List.getElem_toArray, List.getElem_cons_zero, List.getElem_cons_succ]
  refine wpAnyH_take (i := 16) (v := ?v24) rfl (by kernel_rfl) (by kernel_rfl) (by kernel_rfl) (fun _ _ _ h => h) (Or.inl ⟨by rfl, ?hy24⟩) hHeld ?rest24
  case hy24 =>
    intro w hSw
    go_simp
    try with_reducible rfl
  try simp only [Act.put, List.setIfInBounds_toArray, List.set_cons_zero, List.set_cons_succ, Array.toArray_toList, List.getElem_toArray, List.getElem_cons_zero, List.getElem_cons_succ]
  refine wpAnyH_done (by kernel_rfl) ?_ _
  refine NoPanic.normal ?_
  go_wp2
  go_ret
  exact ⟨rfl, B12⟩

set_option maxRecDepth 20000 in
set_option maxHeartbeats 2000000 in
theorem trees_coreBig (a ab : Option Addr) (len cap lenb capb np : Nat) (f mb PK T Z X : Nat → Int) (n dd nn E EZ : Int) (w : World) (hl : 32 * len ≤ 140737488355328) (hd0 : 40 < dd) (hE : EZ = 1) (hZ0 : Z = fun _ => 0)
    (haw : Ans w 9 #[] (.bool true)) (hr : Rts w a len cap f)
    (hT : ∀ W a' cap', Below w.heap.size w W → Rts W a' len cap' f → Calls Tryd.prog 10 #[.slice a' len cap', .int .i64 n] W fun e w' => e = .returned (.tuple #[.agg (vs .u8 32 T), .int .i64 E]) ∧ Below W.heap.size W w')
    (hRT : Ans w 11 #[.slice a len cap, .int .i64 n] (.tuple #[.agg (vs .u8 32 T), .int .i64 E]))
    (hSm : ∀ W a' cap', Below w.heap.size w W → Rts W a' len cap' f → Calls Tryd.prog 12 #[.slice a' len cap', .slice a len cap] W fun e w' => e = .returned (.bool true) ∧ Below W.heap.size W w')
    (hZ : Ans w 13 #[.int .i64 dd] (.tuple #[.agg (vs .u8 32 Z), .int .i64 EZ]))
    (hap : ∀ W ty, Below w.heap.size w W → ∃ a' cap' w', (apB ty (.slice (some ⟨W.heap.size, 0, none⟩) 0 0) (.slice ab lenb capb)).run Tryd.prog (W.alloc (.cells #[] 5)) = .ok (.slice a' lenb cap') w' ∧ Below W.heap.size W w' ∧ Bys w' a' lenb cap' mb)
    (hPk : ∀ W a' cap', Below w.heap.size w W → Bys W a' lenb cap' mb → Calls Tryd.prog 15 #[.slice a' lenb cap'] W fun e w' => ∃ a2 cap2, e = .returned (.slice a2 np cap2) ∧ Below W.heap.size W w' ∧ Rts w' a2 np cap2 PK)
    (hRPk : ∀ W, Below w.heap.size w W → Calls Tryd.prog 16 #[.slice ab lenb capb] W fun e w' => ∃ a2 cap2, e = .returned (.slice a2 np cap2) ∧ Below W.heap.size W w' ∧ Rts w' a2 np cap2 PK)
    (hSm2 : ∀ W a1 c1 a2 c2, Rts W a1 np c1 PK → Rts W a2 np c2 PK → Calls Tryd.prog 12 #[.slice a1 np c1, .slice a2 np c2] W fun e w' => e = .returned (.bool true) ∧ Below W.heap.size W w')
    (hMx : Ans w 17 #[.agg (vs .u8 32 T), .int .u64 nn] (.agg (vs .u8 32 X))) (hRMx : Ans w 18 #[.agg (vs .u8 32 T), .int .u64 nn] (.agg (vs .u8 32 X))) :
    Calls Tryd.prog 3 #[.slice a len cap, .int .i64 n, .int .i64 dd, .slice ab lenb capb, .int .u64 nn] w fun e w' => e = .returned (.bool true) ∧ Below w.heap.size w w' := by
  have HAW := hid haw
  have HR := hid hr
  have HT := hid hT
  have HRT := hid hRT
  have HSM := hid hSm
  have HZ := hid hZ
  have HAP := hid hap
  have HPK := hid hPk
  have HRPK := hid hRPk
  have HSM2 := hid hSm2
  have HMX := hid hMx
  have HRMX := hid hRMx
  clear haw hr hT hRT hSm hZ hap hPk hRPk hSm2 hMx hRMx
  have z := zero_root
  have b27 := bd27_0
  have b20 := bs22_0
  have v1 := fun W => sv24_newv W (fun _ => 0) T
  have v2 := fun W => sv24_newv W (fun _ => 0) Z
  have d1 : decide (dd < 0) = false := by simp; omega
  have d2 : decide (40 < dd) = true := by simp; omega
  subst hE
  have HZ0 := hid hZ0
  clear hZ0
  go_enter Tryd.func3, Tryd.ntmps3
  have hB0 : Below w.heap.size w w := Below.refl _ _
  have HB0 := hid hB0
  clear hB0
  go_upto_region 3 with (go_at_call 9; refine (HAW.out _ HB0.out).mono ?_; rintro e w1 ⟨rfl, hb1⟩)
  have hs1 := hb1.size
  have hB1 := HB0.out.trans (hb1.mono HB0.out.size)
  clear HB0
  have HB1 := hid hB1
  clear hB1 hb1 hs1
  go_upto_region 4 with (at_builtin; refine wpList_append_rts _ rfl _ _ rfl w1.heap.size _ 0 f rfl (World.ownsRow_made _ #[] 0 (Nat.le_refl _) (Nat.zero_le _) rfl) a len cap f rfl (HR.out.below (HB1.out.alloc HB1.out.size _)) (by omega) (by simp) f (fun q _ => rfl) (fun q _ => by rw [Nat.mul_zero, Nat.zero_add]) ?_; intro v2 w2 ho2 hg2; rw [Nat.zero_add] at ho2; have hb2 := below_grownS ((Below.refl w1.heap.size w1).alloc (Nat.le_refl _) (.cells #[] 27)) (World.ownsRow_made (e := 27) (size := 32) _ #[] 0 (Nat.le_refl _) (Nat.zero_le _) rfl) (by simp) hg2; obtain ⟨am, capm, rfl, hrow⟩ := RowR.ofOwns ho2; have hrm := hrow.rts; clear hg2 ho2 hrow)
  have hs2 := hb2.size
  have hB2 := HB1.out.trans (hb2.mono HB1.out.size)
  clear HB1
  have HB2 := hid hB2
  clear hB2 hb2 hs2
  have HRM := hid hrm
  clear hrm
  go_upto_region 5 with (go_at_call 10; refine (HT.out _ _ _ HB2.out HRM.out).mono ?_; rintro e w3 ⟨rfl, hb3⟩)
  have hrm3 := HRM.out.below hb3
  obtain ⟨W3, hW3, hB3, hC3, r3, s3, t3⟩ := stow HB2.out hb3 T
  have hrm3' := hrm3.below ((Below.refl w3.heap.size w3).alloc (Nat.le_refl _) (.cells (vs .u8 32 T) 27))
  rw [hW3] at hrm3' ⊢
  obtain ⟨y3, ey3⟩ : ∃ y, w3.heap.size = y := ⟨_, rfl⟩
  rw [ey3] at r3 s3 t3 ⊢
  clear HB2
  have R3 := hid r3
  have HB3 := hid hB3
  clear HRM
  have HRM := hid hrm3'
  clear hrm3 hrm3'
  clear r3 hB3 hC3 hW3 ey3 hb3 s3
  go_upto_region 6 with (go_at_call 11; refine (HRT.out _ HB3.out).mono ?_; rintro e w4 ⟨rfl, hb4⟩)
  have hrm4 := HRM.out.below hb4
  obtain ⟨W4, hW4, hB4, hC4, r4, s4, t4⟩ := stow HB3.out hb4 T
  have hrm4' := hrm4.below ((Below.refl w4.heap.size w4).alloc (Nat.le_refl _) (.cells (vs .u8 32 T) 27))
  rw [hW4] at hrm4' ⊢
  obtain ⟨y4, ey4⟩ : ∃ y, w4.heap.size = y := ⟨_, rfl⟩
  rw [ey4] at r4 s4 t4 ⊢
  have r3' := (hC4.block y3 (by have := t3; omega)).trans R3.out
  have t3' : y3 < W4.heap.size := by omega
  clear t3
  have t3 := t3'
  clear t3'
  clear HB3
  clear R3
  have R3 := hid r3'
  clear r3'
  have R4 := hid r4
  have HB4 := hid hB4
  clear HRM
  have HRM := hid hrm4'
  clear hrm4 hrm4'
  clear r4 hB4 hC4 hW4 ey4 hb4 s4
  have l3 := lv24_run R3.out
  have l4 := lv24_run R4.out
  have q3 := fun W => neo_run W T T
  rw [eqR_self] at q3
  go_upto_region 8 with (go_at_call 12; refine (HSM.out _ _ _ HB4.out HRM.out).mono ?_; rintro e w15 ⟨rfl, hb15⟩)
  clear l3 l4 q3
  have hs15 := hb15.size
  have hB15 := HB4.out.trans (hb15.mono HB4.out.size)
  have r3' := (hb15.block y3 (by have := t3; omega)).trans R3.out
  have t3' : y3 < w15.heap.size := by omega
  clear t3
  have t3 := t3'
  clear t3'
  have r4' := (hb15.block y4 (by have := t4; omega)).trans R4.out
  have t4' : y4 < w15.heap.size := by omega
  clear t4
  have t4 := t4'
  clear t4'
  clear HB4
  clear R3
  have R3 := hid r3'
  clear r3'
  clear R4
  have R4 := hid r4'
  clear r4'
  have HB15 := hid hB15
  clear hB15 hb15 hs15
  go_upto_region 9 with (go_at_call 13; refine (HZ.out _ HB15.out).mono ?_; rintro e w5 ⟨rfl, hb5⟩)
  obtain ⟨W5, hW5, hB5, hC5, r5, s5, t5⟩ := stow HB15.out hb5 Z
  rw [hW5]
  obtain ⟨y5, ey5⟩ : ∃ y, w5.heap.size = y := ⟨_, rfl⟩
  rw [ey5] at r5 s5 t5 ⊢
  have r3' := (hC5.block y3 (by have := t3; omega)).trans R3.out
  have r4' := (hC5.block y4 (by have := t4; omega)).trans R4.out
  have t3' : y3 < W5.heap.size := by omega
  clear t3
  have t3 := t3'
  clear t3'
  have t4' : y4 < W5.heap.size := by omega
  clear t4
  have t4 := t4'
  clear t4'
  clear HB15
  clear R3
  have R3 := hid r3'
  clear r3'
  clear R4
  have R4 := hid r4'
  clear r4'
  have R5 := hid r5
  have HB5 := hid hB5
  clear r5 hB5 hC5 hW5 ey5 hb5 s5
  have l5 := lv24_run R5.out
  have q5 := fun W => neo_run W Z (fun _ => 0)
  rw [HZ0.out, eqR_self] at q5
  rw [HZ0.out] at l5
  go_upto_region 14 with fail
  obtain ⟨w6, ew6⟩ : ∃ x, W5 = x := ⟨_, rfl⟩
  rw [ew6] at t3 t4 t5 HB5 R3 R4 R5 l5 ⊢
  have HB6 := hid HB5.out
  clear HB5 ew6 l5 q5
  have hl1 : ∀ W, Below w6.heap.size w6 W → (lv24 ⟨y3, 0, none⟩).run Tryd.prog W = .ok (.agg (vs .u8 32 T)) W := fun W h => lv24_run ((h.block _ t3).trans R3.out)
  have L1 := hid hl1
  clear hl1
  have hl2 : ∀ W, Below w6.heap.size w6 W → (lv24 ⟨y4, 0, none⟩).run Tryd.prog W = .ok (.agg (vs .u8 32 T)) W := fun W h => lv24_run ((h.block _ t4).trans R4.out)
  have L2 := hid hl2
  clear hl2
  have hdr : Below w6.heap.size w6 w6.drew := (Below.refl _ _).drew
  have HDR := hid hdr
  clear hdr
  refine wp_region_noPanic ?_
  refine wp_region_held_drew (S := fun W => Below w6.heap.size w6 W) (by kernel_rfl) (HDR.out) (fun hHeld => ?_)
  refine wpAnyH_take (i := 1) (v := ?v25) rfl (by kernel_rfl) (by kernel_rfl) (by kernel_rfl) (fun _ _ _ h => h) (Or.inl ⟨by rfl, ?hy25⟩) hHeld ?rest25
  case hy25 =>
    intro w hSw
    go_simp
    try with_reducible rfl
  try simp only [Act.put, List.setIfInBounds_toArray, List.set_cons_zero, List.set_cons_succ, Array.toArray_toList, List.getElem_toArray, List.getElem_cons_zero, List.getElem_cons_succ]
  refine wpAnyH_take (i := 4) (v := ?v26) rfl (by kernel_rfl) (by kernel_rfl) (by kernel_rfl) (fun _ _ _ h => h) (Or.inl ⟨by rfl, ?hy26⟩) hHeld ?rest26
  case hy26 =>
    intro w hSw
    go_simp
    try with_reducible rfl
  try simp only [Act.put, List.setIfInBounds_toArray, List.set_cons_zero, List.set_cons_succ, Array.toArray_toList, List.getElem_toArray, List.getElem_cons_zero, List.getElem_cons_succ]
  refine wpAnyH_ready (rs := [0]) (by kernel_rfl) (by simp) ?_
  refine AllReadyH.cons rfl (fun K hK => ?_) AllReadyH.nil
  go_simp
  refine hK.out _ _ (HDR.out.alloc (Nat.le_refl _) _) (fun hHeld => ?_)
  clear hK K
  try simp only [Act.put, List.setIfInBounds_toArray, List.set_cons_zero, List.set_cons_succ, Array.toArray_toList, List.getElem_toArray, List.getElem_cons_zero, List.getElem_cons_succ]
  refine wpAnyH_ready (rs := [2]) (by kernel_rfl) (by simp) ?_
  refine AllReadyH.cons rfl (fun K hK => ?_) AllReadyH.nil
  obtain ⟨a7, cap7, w7, hr7, hb7, hy7⟩ := HAP.out _ 23 HB6.out.drew
  rw [if_pos (by rfl)]
  refine wp_appendB_is _ _ rfl _ _ _ _ rfl rfl hr7 ?_
  replace hb7 : Below w6.heap.size w6 w7 := HDR.out.trans hb7
  have z7 := hb7.size
  have B7 := HB6.out.trans (hb7.mono HB6.out.size)
  refine hK.out _ _ (hb7) (fun hHeld => ?_)
  clear hK K
  try simp only [Act.put, List.setIfInBounds_toArray, List.set_cons_zero, List.set_cons_succ, Array.toArray_toList, List.getElem_toArray, List.getElem_cons_zero, List.getElem_cons_succ]
  refine wpAnyH_ready (rs := [3]) (by kernel_rfl) (by simp) ?_
  refine AllReadyH.cons rfl (fun K hK => ?_) AllReadyH.nil
  go_simp
  refine (HPK.out _ a7 cap7 B7 hy7).mono ?_
  rintro e w8 ⟨a8, cap8, rfl, hb8', hr8⟩
  dsimp only
  have hb8 : Below w6.heap.size w6 w8 := hb7.trans (hb8'.mono z7)
  have z8 := hb8.size
  have B8 := HB6.out.trans (hb8.mono HB6.out.size)
  refine hK.out _ _ (hb8) (fun hHeld => ?_)
  clear hK K
  try simp only [Act.put, List.setIfInBounds_toArray, List.set_cons_zero, List.set_cons_succ, Array.toArray_toList, List.getElem_toArray, List.getElem_cons_zero, List.getElem_cons_succ]
  refine wpAnyH_ready (rs := [5]) (by kernel_rfl) (by simp) ?_
  refine AllReadyH.cons rfl (fun K hK => ?_) AllReadyH.nil
  go_simp
  refine (HRPK.out _ B8).mono ?_
  rintro e w9 ⟨a9, cap9, rfl, hb9', hr9⟩
  dsimp only
  have hr8' := hr8.below hb9'
  have hb9 : Below w6.heap.size w6 w9 := hb8.trans (hb9'.mono z8)
  have z9 := hb9.size
  have B9 := HB6.out.trans (hb9.mono HB6.out.size)
  refine hK.out _ _ (hb9) (fun hHeld => ?_)
  clear hK K
  try simp only [Act.put, List.setIfInBounds_toArray, List.set_cons_zero, List.set_cons_succ, Array.toArray_toList, List.getElem_toArray, List.getElem_cons_zero, List.getElem_cons_succ]
  refine wpAnyH_ready (rs := [6]) (by kernel_rfl) (by simp) ?_
  refine AllReadyH.cons rfl (fun K hK => ?_) AllReadyH.nil
  go_simp
  refine (HSM2.out _ _ _ _ _ hr8' hr9).mono ?_
  rintro e w10 ⟨rfl, hb10'⟩
  dsimp only
  have hb10 : Below w6.heap.size w6 w10 := hb9.trans (hb10'.mono z9)
  have z10 := hb10.size
  have B10 := HB6.out.trans (hb10.mono HB6.out.size)
  refine hK.out _ _ (hb10) (fun hHeld => ?_)
  clear hK K
  try simp only [Act.put, List.setIfInBounds_toArray, List.set_cons_zero, List.set_cons_succ, Array.toArray_toList, List.getElem_toArray, List.getElem_cons_zero, List.getElem_cons_succ]
  refine wpAnyH_take (i := 7) (v := ?v27) rfl (by kernel_rfl) (by kernel_rfl) (by kernel_rfl) (fun _ _ _ h => h) (Or.inl ⟨by rfl, ?hy27⟩) hHeld ?rest27
  case hy27 =>
    intro w hSw
    go_simp
    try with_reducible rfl
  try simp only [Act.put, List.setIfInBounds_toArray, List.set_cons_zero, List.set_cons_succ, Array.toArray_toList, List.getElem_toArray, List.getElem_cons_zero, List.getElem_cons_succ]
  refine wpAnyH_take (i := 8) (v := ?v28) rfl (by kernel_rfl) (by kernel_rfl) (by kernel_rfl) (fun _ _ _ h => h) (Or.inl ⟨by rfl, ?hy28⟩) hHeld ?rest28
  case hy28 =>
    intro w hSw
    have ld := L1.out _ hSw
    go_simp
    try with_reducible rfl
  try simp only [Act.put, List.setIfInBounds_toArray, List.set_cons_zero, List.set_cons_succ, Array.toArray_toList, List.getElem_toArray, List.getElem_cons_zero, List.getElem_cons_succ]
  refine wpAnyH_take (i := 9) (v := ?v29) rfl (by kernel_rfl) (by kernel_rfl) (by kernel_rfl) (fun _ _ _ h => h) (Or.inl ⟨by rfl, ?hy29⟩) hHeld ?rest29
  case hy29 =>
    intro w hSw
    go_simp
    try with_reducible rfl
  try simp only [Act.put, List.setIfInBounds_toArray, List.set_cons_zero, List.set_cons_succ, Array.toArray_toList, List.getElem_toArray, List.getElem_cons_zero, List.getElem_cons_succ]
  refine wpAnyH_take (i := 11) (v := ?v30) rfl (by kernel_rfl) (by kernel_rfl) (by kernel_rfl) (fun _ _ _ h => h) (Or.inl ⟨by rfl, ?hy30⟩) hHeld ?rest30
  case hy30 =>
    intro w hSw
    have ld := L2.out _ hSw
    go_simp
    try with_reducible rfl
  try simp only [Act.put, List.setIfInBounds_toArray, List.set_cons_zero, List.set_cons_succ, Array.toArray_toList, List.getElem_toArray, List.getElem_cons_zero, List.getElem_cons_succ]
  refine wpAnyH_take (i := 12) (v := ?v31) rfl (by kernel_rfl) (by kernel_rfl) (by kernel_rfl) (fun _ _ _ h => h) (Or.inl ⟨by rfl, ?hy31⟩) hHeld ?rest31
  case hy31 =>
    intro w hSw
    go_simp
    try with_reducible rfl
  try simp only [Act.put, List.setIfInBounds_toArray, List.set_cons_zero, List.set_cons_succ, Array.toArray_toList, List.getElem_toArray, List.getElem_cons_zero, List.getElem_cons_succ]
  refine wpAnyH_ready (rs := [10]) (by kernel_rfl) (by simp) ?_
  refine AllReadyH.cons rfl (fun K hK => ?_) AllReadyH.nil
  go_simp
  refine (HMX.out _ B10).mono ?_
  rintro e w11 ⟨rfl, hb11'⟩
  dsimp only
  have hb11 : Below w6.heap.size w6 w11 := hb10.trans (hb11'.mono z10)
  have z11 := hb11.size
  have B11 := HB6.out.trans (hb11.mono HB6.out.size)
  refine hK.out _ _ (hb11) (fun hHeld => ?_)
  clear hK K
  try simp only [Act.put, List.setIfInBounds_toArray, List.set_cons_zero, List.set_cons_succ, Array.toArray_toList, List.getElem_toArray, List.getElem_cons_zero, List.getElem_cons_succ]
  refine wpAnyH_ready (rs := [13]) (by kernel_rfl) (by simp) ?_
  refine AllReadyH.cons rfl (fun K hK => ?_) AllReadyH.nil
  go_simp
  refine (HRMX.out _ B11).mono ?_
  rintro e w12 ⟨rfl, hb12'⟩
  dsimp only
  have hb12 : Below w6.heap.size w6 w12 := hb11.trans (hb12'.mono z11)
  have B12 := HB6.out.trans (hb12.mono HB6.out.size)
  refine hK.out _ _ (hb12) (fun hHeld => ?_)
  clear hK K
  try simp only [Act.put, List.setIfInBounds_toArray, List.set_cons_zero, List.set_cons_succ, Array.toArray_toList, List.getElem_toArray, List.getElem_cons_zero, List.getElem_cons_succ]
  refine wpAnyH_take (i := 14) rfl (by kernel_rfl) (by kernel_rfl) (by kernel_rfl) (fun _ _ _ h => h) (yields_eqo (by rfl) _ _ _ rfl X X rfl rfl) hHeld ?_
  rw [eqR_self]
  try simp only [Act.put, List.setIfInBounds_toArray, List.set_cons_zero, List.set_cons_succ, Array.toArray_toList, List.getElem_toArray, List.getElem_cons_zero, List.getElem_cons_succ]
  refine wpAnyH_take (i := 15) (v := ?v32) rfl (by kernel_rfl) (by kernel_rfl) (by kernel_rfl) (fun _ _ _ h => h) (Or.inl ⟨by rfl, ?hy32⟩) hHeld ?rest32
  case hy32 =>
    intro w hSw
    go_simp
    try with_reducible rfl
  try simp only [Act.put, List.setIfInBounds_toArray, List.set_cons_zero, List.set_cons_succ, Array.toArray_toList, List.getElem_toArray, List.getElem_cons_zero, List.getElem_cons_succ]
  refine wpAnyH_take (i := 16) (v := ?v33) rfl (by kernel_rfl) (by kernel_rfl) (by kernel_rfl) (fun _ _ _ h => h) (Or.inl ⟨by rfl, ?hy33⟩) hHeld ?rest33
  case hy33 =>
    intro w hSw
    go_simp
    try with_reducible rfl
  try simp only [Act.put, List.setIfInBounds_toArray, List.set_cons_zero, List.set_cons_succ, Array.toArray_toList, List.getElem_toArray, List.getElem_cons_zero, List.getElem_cons_succ]
  refine wpAnyH_done (by kernel_rfl) ?_ _
  refine NoPanic.normal ?_
  go_wp2
  go_ret
  exact ⟨rfl, B12⟩

end Go.Proofs.YtahnlfiahchdeaaDoor
