/-
  What MerkleHalves answers.
-/
import Derived.Test.YtahnlfiahchdeaaDoorMkN
import Derived.Test.YtahnlfiahchdeaaDoorMkP
import Derived.Test.YtahnlfiahchdeaaDoorMkR
namespace Go.Proofs.YtahnlfiahchdeaaDoor
open Go.RowKit
set_option linter.unusedVariables false
set_option linter.unusedSimpArgs false

/-- A call's root, laid into a block of its own. -/
theorem stow {w0 W w1 : World} (hB0 : Below w0.heap.size w0 W) (hb : Below W.heap.size W w1) (C : Nat → Int) :
    ∃ W', w1.alloc (.cells (vs .u8 32 C) 27) = W' ∧ Below w0.heap.size w0 W' ∧ Below W.heap.size W W' ∧ W'.heap[w1.heap.size]? = some (.cells (vs .u8 32 C) 27) ∧ W.heap.size ≤ w1.heap.size ∧ w1.heap.size < W'.heap.size := by
  have h1 := hb.size
  have h2 : Below W.heap.size W (w1.alloc (.cells (vs .u8 32 C) 27)) := hb.alloc h1 _
  exact ⟨_, rfl, hB0.trans (h2.mono hB0.size), h2, heap_new rfl, h1, by simp⟩
theorem bs22_0 (W : World) : (bs22 0 #[]).run Tryd.prog W = .ok (.slice (some ⟨W.heap.size, 0, none⟩) 0 0) (W.alloc (.cells #[] 27)) := by kernel_rfl
/-- A row with a zero root behind. -/
def ext0 (f : Nat → Int) (len q : Nat) : Int := if q < 32 * len then f q else 0
theorem ext0_lo (f : Nat → Int) (len q : Nat) (h : q < 32 * len) : ext0 f len q = f q := if_pos h
theorem ext0_hi (f : Nat → Int) (len q : Nat) : ext0 f len (32 * len + q) = 0 := if_neg (by omega)

attribute [local go_sem ↓] sv24_eq lv24_eq ix22_eq slr_eq lv48_eq sv48_eq bd48_eq bd27_eq bs22_eq sl22_eq mk22_eq eqo_eq

/-- What a call that makes a root and an error answers, wherever the blocks below w stand. -/
def AnsR (w : World) (f : FuncId) (args : Array Value) (C : Nat → Int) : Prop :=
  ∀ W, Below w.heap.size w W → Calls Tryd.prog f args W fun e w' => e = .returned (.tuple #[.agg (vs .u8 32 C), .int .i64 0]) ∧ Below W.heap.size W w'
def AnsT (w : World) (A B C : Nat → Int) : Prop :=
  ∀ W, Below w.heap.size w W → Calls Tryd.prog 23 #[.agg (vs .u8 32 A), .agg (vs .u8 32 B)] W fun e w' => e = .returned (.agg (vs .u8 32 C)) ∧ Below W.heap.size W w'

set_option maxRecDepth 20000 in
set_option maxHeartbeats 2000000 in
theorem halves_core1 (a : Option Addr) (len cap D X X2 Y h : Nat) (f T0 A B T2 Z M U1 U2 : Nat → Int) (a1 a2 : Option Addr) (cap2 n2 : Nat) (w : World)
    (hD : 1 ≤ D) (hD2 : D ≤ 30) (hX : X ≤ 1073741824) (hs : wrap64 ((2 : Int) ^ D) = (X : Int)) (hY : X = 2 * Y) (hX2 : X2 = 2 * X) (hlX : len ≤ X) (hh : Y < len) (hh2 : Y = h)
    (haw : ∀ W, Below w.heap.size w W → Calls Tryd.prog 9 #[] W fun e w' => e = .returned (.bool true) ∧ Below w.heap.size w w')
    (hsl : ∀ W, (slr (.slice a len cap) none (some (.int .i64 h))).run Tryd.prog W = .ok (.slice a1 h cap) W)
    (hsr : ∀ W, (slr (.slice a len cap) (some (.int .i64 h)) none).run Tryd.prog W = .ok (.slice a2 n2 cap2) W)
    (hT : AnsR w 10 #[.slice a len cap, .int .i64 X] T0) (hA : AnsR w 10 #[.slice a1 h cap, .int .i64 Y] A) (hBt : AnsR w 10 #[.slice a2 n2 cap2, .int .i64 Y] B)
    (hT2 : AnsR w 10 #[.slice a len cap, .int .i64 X2] T2) (hZ : AnsR w 13 #[.int .i64 D] Z)
    (hU1 : AnsT w A B U1) (hU2 : AnsT w T0 Z U2) (e1 : eqR T0 U1 = true) (e2 : eqR T2 U2 = true) (e3 : eqR M T0 = true) (hr : Rts w a len cap f)
    (hM : len < X → ∀ W a' cap', Below w.heap.size w W → Rts W a' (len + 1) cap' (ext0 f len) → Calls Tryd.prog 10 #[.slice a' (len + 1) cap', .int .i64 X] W fun e w' => e = .returned (.tuple #[.agg (vs .u8 32 M), .int .i64 0]) ∧ Below W.heap.size W w') :
    Calls Tryd.prog 6 #[.slice a len cap, .int .i64 D] w fun e w' => e = .returned (.bool true) ∧ Below w.heap.size w w' := by
  subst hh2
  have d7 : decide (Y < len) = true := by simp; omega
  have d8 : decide ((Y : Int) < (len : Int)) = true := by simp; omega
  have HAW := hid haw
  have HT := hid hT
  have HA := hid hA
  have HBt := hid hBt
  have HT2 := hid hT2
  have HZ := hid hZ
  have HU1 := hid hU1
  have HU2 := hid hU2
  have E1 := hid e1
  have E2 := hid e2
  have E3 := hid e3
  have HR := hid hr
  have HM := hid hM
  clear haw hT hA hBt hT2 hZ hU1 hU2 e1 e2 e3 hr hM
  have z := zero_root
  have v1 := fun W => sv24_newv W (fun _ => 0) T0
  have v2 := fun W => sv24_newv W (fun _ => 0) A
  have v3 := fun W => sv24_newv W (fun _ => 0) B
  have v4 := fun W => sv24_newv W (fun _ => 0) T2
  have v5 := fun W => sv24_newv W (fun _ => 0) Z
  have v6 := fun W => sv24_newv W (fun _ => 0) M
  have b27 := bd27_0
  have b22 := fun W => bs22_1 W (fun _ => 0)
  have b20 := bs22_0
  have d1 : decide (D < 1) = false := by simp; omega
  have d2 : decide ((D : Int) < 1) = false := by simp; omega
  have d3 : decide (30 < D) = false := by simp; omega
  have d4 : decide ((30 : Int) < (D : Int)) = false := by simp; omega
  have d5 : decide (X < len) = false := by simp; omega
  have d6 : decide ((X : Int) < (len : Int)) = false := by simp; omega
  have q1 : (X : Int).tdiv 2 = (Y : Int) := by rw [Int.tdiv_eq_ediv_of_nonneg (by omega)]; omega
  have q2 : (X : Int) / 2 = (Y : Int) := by omega
  have q3 : (2 : Int) * (X : Int) = (X2 : Int) := by omega
  have hY2 := hid hY
  clear hY hX2
  go_enter Tryd.func6, Tryd.ntmps6
  have hB0 : Below w.heap.size w w := Below.refl _ _
  have HB0 := hid hB0
  clear hB0
  go_upto_region 6 with (go_at_call 9; refine (HAW.out _ HB0.out).mono ?_; rintro e wa ⟨rfl, hba⟩)
  have HBA := hid hba
  have HBAs := hid (Below.mono hba (Nat.le_refl _))
  clear hba HBAs
  go_upto_region 7 with (go_at_call 10; refine (HT.out _ HBA.out).mono ?_; rintro e w1 ⟨rfl, hb1⟩)
  obtain ⟨W1, hW1, hB1, hC1, r1, s1, t1⟩ := stow HBA.out hb1 T0
  rw [hW1]
  obtain ⟨y1, ey1⟩ : ∃ y, w1.heap.size = y := ⟨_, rfl⟩
  rw [ey1] at r1 s1 t1 ⊢
  clear HBA
  have R1 := hid r1
  have HB1 := hid hB1
  clear r1 hB1 hC1 hW1 ey1 hb1 s1
  go_upto_region 11 with (go_at_call 10; refine (HA.out _ HB1.out).mono ?_; rintro e w2 ⟨rfl, hb2⟩)
  obtain ⟨W2, hW2, hB2, hC2, r2, s2, t2⟩ := stow HB1.out hb2 A
  rw [hW2]
  obtain ⟨y2, ey2⟩ : ∃ y, w2.heap.size = y := ⟨_, rfl⟩
  rw [ey2] at r2 s2 t2 ⊢
  have r1' := (hC2.block y1 (by have := t1; omega)).trans R1.out
  have t1' : y1 < W2.heap.size := by omega
  clear t1
  have t1 := t1'
  clear t1'
  clear HB1
  clear R1
  have R1 := hid r1'
  clear r1'
  have R2 := hid r2
  have HB2 := hid hB2
  clear r2 hB2 hC2 hW2 ey2 hb2 s2
  go_upto_region 12 with (go_at_call 10; refine (HBt.out _ HB2.out).mono ?_; rintro e w3 ⟨rfl, hb3⟩)
  obtain ⟨W3, hW3, hB3, hC3, r3, s3, t3⟩ := stow HB2.out hb3 B
  rw [hW3]
  obtain ⟨y3, ey3⟩ : ∃ y, w3.heap.size = y := ⟨_, rfl⟩
  rw [ey3] at r3 s3 t3 ⊢
  have r1' := (hC3.block y1 (by have := t1; omega)).trans R1.out
  have r2' := (hC3.block y2 (by have := t2; omega)).trans R2.out
  have t1' : y1 < W3.heap.size := by omega
  clear t1
  have t1 := t1'
  clear t1'
  have t2' : y2 < W3.heap.size := by omega
  clear t2
  have t2 := t2'
  clear t2'
  clear HB2
  clear R1
  have R1 := hid r1'
  clear r1'
  clear R2
  have R2 := hid r2'
  clear r2'
  have R3 := hid r3
  have HB3 := hid hB3
  clear r3 hB3 hC3 hW3 ey3 hb3 s3
  have hl1 : ∀ W, Below W3.heap.size W3 W → (lv24 ⟨y1, 0, none⟩).run Tryd.prog W = .ok (.agg (vs .u8 32 T0)) W := fun W h => lv24_run ((h.block _ t1).trans R1.out)
  have hl2 : ∀ W, Below W3.heap.size W3 W → (lv24 ⟨y2, 0, none⟩).run Tryd.prog W = .ok (.agg (vs .u8 32 A)) W := fun W h => lv24_run ((h.block _ t2).trans R2.out)
  have hl3 : ∀ W, Below W3.heap.size W3 W → (lv24 ⟨y3, 0, none⟩).run Tryd.prog W = .ok (.agg (vs .u8 32 B)) W := fun W h => lv24_run ((h.block _ t3).trans R3.out)
  have L1 := hid hl1
  have L2 := hid hl2
  have L3 := hid hl3
  clear hl1 hl2 hl3
  have hdr : Below W3.heap.size W3 W3.drew := (Below.refl _ _).drew
  have HDR := hid hdr
  clear hdr
  refine wp_region_noPanic ?_
  refine wp_region_held_drew (S := fun W => Below W3.heap.size W3 W) (by kernel_rfl) (HDR.out) (fun hHeld => ?_)
  refine wpAnyH_take (i := 0) (v := ?v1) rfl (by kernel_rfl) (by kernel_rfl) (by kernel_rfl) (fun _ _ _ h => h) (Or.inl ⟨by rfl, ?hy1⟩) hHeld ?rest1
  case hy1 =>
    intro w hSw
    go_simp
    try with_reducible rfl
  try simp only [Act.put, List.setIfInBounds_toArray, List.set_cons_zero, List.set_cons_succ, Array.toArray_toList, List.getElem_toArray, List.getElem_cons_zero, List.getElem_cons_succ]
  refine wpAnyH_take (i := 1) (v := ?v2) rfl (by kernel_rfl) (by kernel_rfl) (by kernel_rfl) (fun _ _ _ h => h) (Or.inl ⟨by rfl, ?hy2⟩) hHeld ?rest2
  case hy2 =>
    intro w hSw
    go_simp
    try with_reducible rfl
  try simp only [Act.put, List.setIfInBounds_toArray, List.set_cons_zero, List.set_cons_succ, Array.toArray_toList, List.getElem_toArray, List.getElem_cons_zero, List.getElem_cons_succ]
  refine wpAnyH_take (i := 2) (v := ?v3) rfl (by kernel_rfl) (by kernel_rfl) (by kernel_rfl) (fun _ _ _ h => h) (Or.inl ⟨by rfl, ?hy3⟩) hHeld ?rest3
  case hy3 =>
    intro w hSw
    go_simp
    try with_reducible rfl
  try simp only [Act.put, List.setIfInBounds_toArray, List.set_cons_zero, List.set_cons_succ, Array.toArray_toList, List.getElem_toArray, List.getElem_cons_zero, List.getElem_cons_succ]
  refine wpAnyH_take (i := 3) (v := ?v4) rfl (by kernel_rfl) (by kernel_rfl) (by kernel_rfl) (fun _ _ _ h => h) (Or.inl ⟨by rfl, ?hy4⟩) hHeld ?rest4
  case hy4 =>
    intro w hSw
    go_simp
    try with_reducible rfl
  try simp only [Act.put, List.setIfInBounds_toArray, List.set_cons_zero, List.set_cons_succ, Array.toArray_toList, List.getElem_toArray, List.getElem_cons_zero, List.getElem_cons_succ]
  refine wpAnyH_take (i := 4) (v := ?v5) rfl (by kernel_rfl) (by kernel_rfl) (by kernel_rfl) (fun _ _ _ h => h) (Or.inl ⟨by rfl, ?hy5⟩) hHeld ?rest5
  case hy5 =>
    intro w hSw
    go_simp
    try with_reducible rfl
  try simp only [Act.put, List.setIfInBounds_toArray, List.set_cons_zero, List.set_cons_succ, Array.toArray_toList, List.getElem_toArray, List.getElem_cons_zero, List.getElem_cons_succ]
  refine wpAnyH_take (i := 5) (v := ?v6) rfl (by kernel_rfl) (by kernel_rfl) (by kernel_rfl) (fun _ _ _ h => h) (Or.inl ⟨by rfl, ?hy6⟩) hHeld ?rest6
  case hy6 =>
    intro w hSw
    go_simp
    try with_reducible rfl
  try simp only [Act.put, List.setIfInBounds_toArray, List.set_cons_zero, List.set_cons_succ, Array.toArray_toList, List.getElem_toArray, List.getElem_cons_zero, List.getElem_cons_succ]
  refine wpAnyH_take (i := 6) (v := ?v7) rfl (by kernel_rfl) (by kernel_rfl) (by kernel_rfl) (fun _ _ _ h => h) (Or.inl ⟨by rfl, ?hy7⟩) hHeld ?rest7
  case hy7 =>
    intro w hSw
    go_simp
    try with_reducible rfl
  try simp only [Act.put, List.setIfInBounds_toArray, List.set_cons_zero, List.set_cons_succ, Array.toArray_toList, List.getElem_toArray, List.getElem_cons_zero, List.getElem_cons_succ]
  refine wpAnyH_take (i := 7) (v := ?v8) rfl (by kernel_rfl) (by kernel_rfl) (by kernel_rfl) (fun _ _ _ h => h) (Or.inl ⟨by rfl, ?hy8⟩) hHeld ?rest8
  case hy8 =>
    intro w hSw
    go_simp
    try with_reducible rfl
  try simp only [Act.put, List.setIfInBounds_toArray, List.set_cons_zero, List.set_cons_succ, Array.toArray_toList, List.getElem_toArray, List.getElem_cons_zero, List.getElem_cons_succ]
  refine wpAnyH_take (i := 8) (v := ?v9) rfl (by kernel_rfl) (by kernel_rfl) (by kernel_rfl) (fun _ _ _ h => h) (Or.inl ⟨by rfl, ?hy9⟩) hHeld ?rest9
  case hy9 =>
    intro w hSw
    go_simp
    try with_reducible rfl
  try simp only [Act.put, List.setIfInBounds_toArray, List.set_cons_zero, List.set_cons_succ, Array.toArray_toList, List.getElem_toArray, List.getElem_cons_zero, List.getElem_cons_succ]
  refine wpAnyH_take (i := 9) (v := ?v10) rfl (by kernel_rfl) (by kernel_rfl) (by kernel_rfl) (fun _ _ _ h => h) (Or.inl ⟨by rfl, ?hy10⟩) hHeld ?rest10
  case hy10 =>
    intro w hSw
    go_simp
    try with_reducible rfl
  try simp only [Act.put, List.setIfInBounds_toArray, List.set_cons_zero, List.set_cons_succ, Array.toArray_toList, List.getElem_toArray, List.getElem_cons_zero, List.getElem_cons_succ]
  refine wpAnyH_take (i := 10) (v := ?v11) rfl (by kernel_rfl) (by kernel_rfl) (by kernel_rfl) (fun _ _ _ h => h) (Or.inl ⟨by rfl, ?hy11⟩) hHeld ?rest11
  case hy11 =>
    intro w hSw
    go_simp
    try with_reducible rfl
  try simp only [Act.put, List.setIfInBounds_toArray, List.set_cons_zero, List.set_cons_succ, Array.toArray_toList, List.getElem_toArray, List.getElem_cons_zero, List.getElem_cons_succ]
  refine wpAnyH_take (i := 11) (v := ?v12) rfl (by kernel_rfl) (by kernel_rfl) (by kernel_rfl) (fun _ _ _ h => h) (Or.inl ⟨by rfl, ?hy12⟩) hHeld ?rest12
  case hy12 =>
    intro w hSw
    have ld := L1.out _ hSw
    go_simp
    try with_reducible rfl
  try simp only [Act.put, List.setIfInBounds_toArray, List.set_cons_zero, List.set_cons_succ, Array.toArray_toList, List.getElem_toArray, List.getElem_cons_zero, List.getElem_cons_succ]
  refine wpAnyH_take (i := 12) (v := ?v13) rfl (by kernel_rfl) (by kernel_rfl) (by kernel_rfl) (fun _ _ _ h => h) (Or.inl ⟨by rfl, ?hy13⟩) hHeld ?rest13
  case hy13 =>
    intro w hSw
    have ld := L2.out _ hSw
    go_simp
    try with_reducible rfl
  try simp only [Act.put, List.setIfInBounds_toArray, List.set_cons_zero, List.set_cons_succ, Array.toArray_toList, List.getElem_toArray, List.getElem_cons_zero, List.getElem_cons_succ]
  refine wpAnyH_take (i := 13) (v := ?v14) rfl (by kernel_rfl) (by kernel_rfl) (by kernel_rfl) (fun _ _ _ h => h) (Or.inl ⟨by rfl, ?hy14⟩) hHeld ?rest14
  case hy14 =>
    intro w hSw
    have ld := L3.out _ hSw
    go_simp
    try with_reducible rfl
  try simp only [Act.put, List.setIfInBounds_toArray, List.set_cons_zero, List.set_cons_succ, Array.toArray_toList, List.getElem_toArray, List.getElem_cons_zero, List.getElem_cons_succ]
  refine wpAnyH_ready (rs := [14]) (by kernel_rfl) (by simp) ?_
  refine AllReadyH.cons rfl (fun K hK => ?_) AllReadyH.nil
  go_simp
  refine (HU1.out _ HB3.out.drew).mono ?_
  rintro e w4 ⟨rfl, hb4⟩
  dsimp only
  replace hb4 : Below W3.heap.size W3 w4 := HDR.out.trans hb4
  refine hK.out _ _ (hb4) (fun hHeld => ?_)
  clear hK K
  try simp only [Act.put, List.setIfInBounds_toArray, List.set_cons_zero, List.set_cons_succ, Array.toArray_toList, List.getElem_toArray, List.getElem_cons_zero, List.getElem_cons_succ]
  refine wpAnyH_take (i := 15) rfl (by kernel_rfl) (by kernel_rfl) (by kernel_rfl) (fun _ _ _ h => h) (yields_neo (by rfl) _ _ _ rfl T0 U1 rfl rfl) hHeld ?_
  rw [E1.out, Bool.not_true]
  try simp only [Act.put, List.setIfInBounds_toArray, List.set_cons_zero, List.set_cons_succ, Array.toArray_toList, List.getElem_toArray, List.getElem_cons_zero, List.getElem_cons_succ]
  refine wpAnyH_take (i := 16) (v := ?v15) rfl (by kernel_rfl) (by kernel_rfl) (by kernel_rfl) (fun _ _ _ h => h) (Or.inl ⟨by rfl, ?hy15⟩) hHeld ?rest15
  case hy15 =>
    intro w hSw
    go_simp
    try with_reducible rfl
  try simp only [Act.put, List.setIfInBounds_toArray, List.set_cons_zero, List.set_cons_succ, Array.toArray_toList, List.getElem_toArray, List.getElem_cons_zero, List.getElem_cons_succ]
  refine wpAnyH_done (by kernel_rfl) ?_ _
  refine NoPanic.normal ?_
  clear HDR L1 L2 L3 hHeld
  have t1' : y1 < w4.heap.size := by have := hb4.size; omega
  have r1' := (hb4.block y1 t1).trans R1.out
  have hB4 := HB3.out.trans (hb4.mono HB3.out.size)
  have HB4 := hid hB4
  clear R1 t1 hB4 hb4 R2 t2 R3 t3 HB3
  have R1 := hid r1'
  have t1 := t1'
  clear r1' t1'
  go_upto_region 15 with (go_at_call 10; refine (HT2.out _ HB4.out).mono ?_; rintro e w5 ⟨rfl, hb5⟩)
  obtain ⟨W5, hW5, hB5, hC5, r5, s5, t5⟩ := stow HB4.out hb5 T2
  rw [hW5]
  obtain ⟨y5, ey5⟩ : ∃ y, w5.heap.size = y := ⟨_, rfl⟩
  rw [ey5] at r5 s5 t5 ⊢
  have r1' := (hC5.block y1 (by have := t1; omega)).trans R1.out
  have t1' : y1 < W5.heap.size := by omega
  clear t1
  have t1 := t1'
  clear t1'
  clear HB4
  clear R1
  have R1 := hid r1'
  clear r1'
  have R5 := hid r5
  have HB5 := hid hB5
  clear r5 hB5 hC5 hW5 ey5 hb5 s5
  go_upto_region 16 with (go_at_call 13; refine (HZ.out _ HB5.out).mono ?_; rintro e w6 ⟨rfl, hb6⟩)
  obtain ⟨W6, hW6, hB6, hC6, r6, s6, t6⟩ := stow HB5.out hb6 Z
  rw [hW6]
  obtain ⟨y6, ey6⟩ : ∃ y, w6.heap.size = y := ⟨_, rfl⟩
  rw [ey6] at r6 s6 t6 ⊢
  have r1' := (hC6.block y1 (by have := t1; omega)).trans R1.out
  have r5' := (hC6.block y5 (by have := t5; omega)).trans R5.out
  have t1' : y1 < W6.heap.size := by omega
  clear t1
  have t1 := t1'
  clear t1'
  have t5' : y5 < W6.heap.size := by omega
  clear t5
  have t5 := t5'
  clear t5'
  clear HB5
  clear R1
  have R1 := hid r1'
  clear r1'
  clear R5
  have R5 := hid r5'
  clear r5'
  have R6 := hid r6
  have HB6 := hid hB6
  clear r6 hB6 hC6 hW6 ey6 hb6 s6
  have hl1 : ∀ W, Below W6.heap.size W6 W → (lv24 ⟨y5, 0, none⟩).run Tryd.prog W = .ok (.agg (vs .u8 32 T2)) W := fun W h => lv24_run ((h.block _ t5).trans R5.out)
  have hl2 : ∀ W, Below W6.heap.size W6 W → (lv24 ⟨y1, 0, none⟩).run Tryd.prog W = .ok (.agg (vs .u8 32 T0)) W := fun W h => lv24_run ((h.block _ t1).trans R1.out)
  have hl3 : ∀ W, Below W6.heap.size W6 W → (lv24 ⟨y6, 0, none⟩).run Tryd.prog W = .ok (.agg (vs .u8 32 Z)) W := fun W h => lv24_run ((h.block _ t6).trans R6.out)
  have L1 := hid hl1
  have L2 := hid hl2
  have L3 := hid hl3
  clear hl1 hl2 hl3
  have hdr : Below W6.heap.size W6 W6.drew := (Below.refl _ _).drew
  have HDR := hid hdr
  clear hdr
  refine wp_region_noPanic ?_
  refine wp_region_held_drew (S := fun W => Below W6.heap.size W6 W) (by kernel_rfl) (HDR.out) (fun hHeld => ?_)
  refine wpAnyH_take (i := 0) (v := ?v16) rfl (by kernel_rfl) (by kernel_rfl) (by kernel_rfl) (fun _ _ _ h => h) (Or.inl ⟨by rfl, ?hy16⟩) hHeld ?rest16
  case hy16 =>
    intro w hSw
    go_simp
    try with_reducible rfl
  try simp only [Act.put, List.setIfInBounds_toArray, List.set_cons_zero, List.set_cons_succ, Array.toArray_toList, List.getElem_toArray, List.getElem_cons_zero, List.getElem_cons_succ]
  refine wpAnyH_take (i := 1) (v := ?v17) rfl (by kernel_rfl) (by kernel_rfl) (by kernel_rfl) (fun _ _ _ h => h) (Or.inl ⟨by rfl, ?hy17⟩) hHeld ?rest17
  case hy17 =>
    intro w hSw
    go_simp
    try with_reducible rfl
  try simp only [Act.put, List.setIfInBounds_toArray, List.set_cons_zero, List.set_cons_succ, Array.toArray_toList, List.getElem_toArray, List.getElem_cons_zero, List.getElem_cons_succ]
  refine wpAnyH_take (i := 2) (v := ?v18) rfl (by kernel_rfl) (by kernel_rfl) (by kernel_rfl) (fun _ _ _ h => h) (Or.inl ⟨by rfl, ?hy18⟩) hHeld ?rest18
  case hy18 =>
    intro w hSw
    go_simp
    try with_reducible rfl
  try simp only [Act.put, List.setIfInBounds_toArray, List.set_cons_zero, List.set_cons_succ, Array.toArray_toList, List.getElem_toArray, List.getElem_cons_zero, List.getElem_cons_succ]
  refine wpAnyH_take (i := 3) (v := ?v19) rfl (by kernel_rfl) (by kernel_rfl) (by kernel_rfl) (fun _ _ _ h => h) (Or.inl ⟨by rfl, ?hy19⟩) hHeld ?rest19
  case hy19 =>
    intro w hSw
    go_simp
    try with_reducible rfl
  try simp only [Act.put, List.setIfInBounds_toArray, List.set_cons_zero, List.set_cons_succ, Array.toArray_toList, List.getElem_toArray, List.getElem_cons_zero, List.getElem_cons_succ]
  refine wpAnyH_take (i := 4) (v := ?v20) rfl (by kernel_rfl) (by kernel_rfl) (by kernel_rfl) (fun _ _ _ h => h) (Or.inl ⟨by rfl, ?hy20⟩) hHeld ?rest20
  case hy20 =>
    intro w hSw
    go_simp
    try with_reducible rfl
  try simp only [Act.put, List.setIfInBounds_toArray, List.set_cons_zero, List.set_cons_succ, Array.toArray_toList, List.getElem_toArray, List.getElem_cons_zero, List.getElem_cons_succ]
  refine wpAnyH_take (i := 5) (v := ?v21) rfl (by kernel_rfl) (by kernel_rfl) (by kernel_rfl) (fun _ _ _ h => h) (Or.inl ⟨by rfl, ?hy21⟩) hHeld ?rest21
  case hy21 =>
    intro w hSw
    go_simp
    try with_reducible rfl
  try simp only [Act.put, List.setIfInBounds_toArray, List.set_cons_zero, List.set_cons_succ, Array.toArray_toList, List.getElem_toArray, List.getElem_cons_zero, List.getElem_cons_succ]
  refine wpAnyH_take (i := 6) (v := ?v22) rfl (by kernel_rfl) (by kernel_rfl) (by kernel_rfl) (fun _ _ _ h => h) (Or.inl ⟨by rfl, ?hy22⟩) hHeld ?rest22
  case hy22 =>
    intro w hSw
    go_simp
    try with_reducible rfl
  try simp only [Act.put, List.setIfInBounds_toArray, List.set_cons_zero, List.set_cons_succ, Array.toArray_toList, List.getElem_toArray, List.getElem_cons_zero, List.getElem_cons_succ]
  refine wpAnyH_take (i := 7) (v := ?v23) rfl (by kernel_rfl) (by kernel_rfl) (by kernel_rfl) (fun _ _ _ h => h) (Or.inl ⟨by rfl, ?hy23⟩) hHeld ?rest23
  case hy23 =>
    intro w hSw
    have ld := L1.out _ hSw
    go_simp
    try with_reducible rfl
  try simp only [Act.put, List.setIfInBounds_toArray, List.set_cons_zero, List.set_cons_succ, Array.toArray_toList, List.getElem_toArray, List.getElem_cons_zero, List.getElem_cons_succ]
  refine wpAnyH_take (i := 8) (v := ?v24) rfl (by kernel_rfl) (by kernel_rfl) (by kernel_rfl) (fun _ _ _ h => h) (Or.inl ⟨by rfl, ?hy24⟩) hHeld ?rest24
  case hy24 =>
    intro w hSw
    have ld := L2.out _ hSw
    go_simp
    try with_reducible rfl
  try simp only [Act.put, List.setIfInBounds_toArray, List.set_cons_zero, List.set_cons_succ, Array.toArray_toList, List.getElem_toArray, List.getElem_cons_zero, List.getElem_cons_succ]
  refine wpAnyH_take (i := 9) (v := ?v25) rfl (by kernel_rfl) (by kernel_rfl) (by kernel_rfl) (fun _ _ _ h => h) (Or.inl ⟨by rfl, ?hy25⟩) hHeld ?rest25
  case hy25 =>
    intro w hSw
    have ld := L3.out _ hSw
    go_simp
    try with_reducible rfl
  try simp only [Act.put, List.setIfInBounds_toArray, List.set_cons_zero, List.set_cons_succ, Array.toArray_toList, List.getElem_toArray, List.getElem_cons_zero, List.getElem_cons_succ]
  refine wpAnyH_ready (rs := [10]) (by kernel_rfl) (by simp) ?_
  refine AllReadyH.cons rfl (fun K hK => ?_) AllReadyH.nil
  go_simp
  refine (HU2.out _ HB6.out.drew).mono ?_
  rintro e w7 ⟨rfl, hb7⟩
  dsimp only
  replace hb7 : Below W6.heap.size W6 w7 := HDR.out.trans hb7
  refine hK.out _ _ (hb7) (fun hHeld => ?_)
  clear hK K
  try simp only [Act.put, List.setIfInBounds_toArray, List.set_cons_zero, List.set_cons_succ, Array.toArray_toList, List.getElem_toArray, List.getElem_cons_zero, List.getElem_cons_succ]
  refine wpAnyH_take (i := 11) rfl (by kernel_rfl) (by kernel_rfl) (by kernel_rfl) (fun _ _ _ h => h) (yields_neo (by rfl) _ _ _ rfl T2 U2 rfl rfl) hHeld ?_
  rw [E2.out, Bool.not_true]
  try simp only [Act.put, List.setIfInBounds_toArray, List.set_cons_zero, List.set_cons_succ, Array.toArray_toList, List.getElem_toArray, List.getElem_cons_zero, List.getElem_cons_succ]
  refine wpAnyH_take (i := 12) (v := ?v26) rfl (by kernel_rfl) (by kernel_rfl) (by kernel_rfl) (fun _ _ _ h => h) (Or.inl ⟨by rfl, ?hy26⟩) hHeld ?rest26
  case hy26 =>
    intro w hSw
    go_simp
    try with_reducible rfl
  try simp only [Act.put, List.setIfInBounds_toArray, List.set_cons_zero, List.set_cons_succ, Array.toArray_toList, List.getElem_toArray, List.getElem_cons_zero, List.getElem_cons_succ]
  refine wpAnyH_done (by kernel_rfl) ?_ _
  refine NoPanic.normal ?_
  clear HDR L1 L2 L3 hHeld
  have t1' : y1 < w7.heap.size := by have := hb7.size; omega
  have r1' := (hb7.block y1 t1).trans R1.out
  have hB7 := HB6.out.trans (hb7.mono HB6.out.size)
  have HB7 := hid hB7
  clear R1 t1 hB7 hb7 R5 t5 R6 t6 HB6
  have R1 := hid r1'
  have t1 := t1'
  clear r1' t1'
  by_cases hlx : len = X
  · have c1 : (len == X) = true := by simp; exact hlx
    have c2 : ((len : Int) == (X : Int)) = true := by simp; omega
    go_wp2
    go_ret
    exact ⟨rfl, HB7.out⟩
  · have c1 : (len == X) = false := by simp; exact hlx
    have c2 : ((len : Int) == (X : Int)) = false := by simp; omega
    have hT3 := HM.out (by omega)
    have HT3 := hid hT3
    clear hT3
    go_upto_region 21 with (first
      | (at_builtin; refine wpList_append_rts _ rfl _ _ rfl w7.heap.size _ 0 f rfl (World.ownsRow_made _ #[] 0 (Nat.le_refl _) (Nat.zero_le _) rfl) a len cap f rfl (HR.out.below (HB7.out.alloc HB7.out.size _)) (by omega) (by simp) f (fun q _ => rfl) (fun q _ => by rw [Nat.mul_zero, Nat.zero_add]) ?_; intro v8 w8 ho8 hg8; rw [Nat.zero_add] at ho8; have HO8 := hid ho8; have hb8 := below_grownS ((Below.refl w7.heap.size w7).alloc (Nat.le_refl _) (.cells #[] 27)) (World.ownsRow_made (e := 27) (size := 32) _ #[] 0 (Nat.le_refl _) (Nat.zero_le _) rfl) (by simp) hg8; have HB8 := hid hb8; clear hg8 hb8 ho8)
      | (at_builtin; refine wpList_append_rts _ rfl _ _ rfl w7.heap.size _ len f rfl (HO8.out.alloc _) _ 1 1 (fun _ => 0) rfl (rts_row (heap_new rfl)) (by omega) (by have := HB8.out.size; simp; omega) (ext0 f len) (fun q hq => ext0_lo f len q hq) (fun q hq => ext0_hi f len q) ?_; intro v9 w9 ho9 hg9; have hb9 := below_grownS (HB8.out.alloc HB8.out.size (.cells (vs .u8 32 fun _ => 0) 27)) (HO8.out.alloc _) (by have := HB8.out.size; simp; omega) hg9; obtain ⟨a9, cap9, rfl, hrow9⟩ := RowR.ofOwns ho9; have HB9 := hid hb9; have HR9 := hid hrow9.rts; clear hg9 hb9 ho9 hrow9)
      | (go_at_call 10; refine (HT3.out _ a9 cap9 (HB7.out.trans (HB9.out.mono HB7.out.size)) HR9.out).mono ?_; rintro e w10 ⟨rfl, hb10⟩))
    obtain ⟨W10, hW10, hB10, hC10, r10, s10, t10⟩ := stow (HB7.out.trans (HB9.out.mono HB7.out.size)) hb10 M
    rw [hW10]
    obtain ⟨y10, ey10⟩ : ∃ y, w10.heap.size = y := ⟨_, rfl⟩
    rw [ey10] at r10 s10 t10 ⊢
    have hs9 := HB9.out.size
    have r1' := (hC10.block y1 (by omega)).trans ((HB9.out.block y1 t1).trans R1.out)
    have l1 := lv24_run r10
    have l2 := lv24_run r1'
    have q3 := eqo_run W10 M T0
    rw [E3.out] at q3
    have HB10 := hid hB10
    clear hW10 hB10 hC10 r10 r1' hb10 ey10 HR9 HB9 HO8 HB8
    go_wp2
    go_ret
    exact ⟨rfl, HB10.out⟩

set_option maxRecDepth 20000 in
set_option maxHeartbeats 2000000 in
theorem halves_core2 (a : Option Addr) (len cap D X X2 Y h : Nat) (f T0 A B T2 Z M U1 U2 : Nat → Int) (a1 a2 : Option Addr) (cap2 n2 : Nat) (w : World)
    (hD : 1 ≤ D) (hD2 : D ≤ 30) (hX : X ≤ 1073741824) (hs : wrap64 ((2 : Int) ^ D) = (X : Int)) (hY : X = 2 * Y) (hX2 : X2 = 2 * X) (hlX : len ≤ X) (hh : len ≤ Y) (hh2 : len = h)
    (haw : ∀ W, Below w.heap.size w W → Calls Tryd.prog 9 #[] W fun e w' => e = .returned (.bool true) ∧ Below w.heap.size w w')
    (hsl : ∀ W, (slr (.slice a len cap) none (some (.int .i64 h))).run Tryd.prog W = .ok (.slice a1 h cap) W)
    (hsr : ∀ W, (slr (.slice a len cap) (some (.int .i64 h)) none).run Tryd.prog W = .ok (.slice a2 n2 cap2) W)
    (hT : AnsR w 10 #[.slice a len cap, .int .i64 X] T0) (hA : AnsR w 10 #[.slice a1 h cap, .int .i64 Y] A) (hBt : AnsR w 10 #[.slice a2 n2 cap2, .int .i64 Y] B)
    (hT2 : AnsR w 10 #[.slice a len cap, .int .i64 X2] T2) (hZ : AnsR w 13 #[.int .i64 D] Z)
    (hU1 : AnsT w A B U1) (hU2 : AnsT w T0 Z U2) (e1 : eqR T0 U1 = true) (e2 : eqR T2 U2 = true) (e3 : eqR M T0 = true) (hr : Rts w a len cap f)
    (hM : len < X → ∀ W a' cap', Below w.heap.size w W → Rts W a' (len + 1) cap' (ext0 f len) → Calls Tryd.prog 10 #[.slice a' (len + 1) cap', .int .i64 X] W fun e w' => e = .returned (.tuple #[.agg (vs .u8 32 M), .int .i64 0]) ∧ Below W.heap.size W w') :
    Calls Tryd.prog 6 #[.slice a len cap, .int .i64 D] w fun e w' => e = .returned (.bool true) ∧ Below w.heap.size w w' := by
  subst hh2
  have d7 : decide (Y < len) = false := by simp; omega
  have d8 : decide ((Y : Int) < (len : Int)) = false := by simp; omega
  have HAW := hid haw
  have HT := hid hT
  have HA := hid hA
  have HBt := hid hBt
  have HT2 := hid hT2
  have HZ := hid hZ
  have HU1 := hid hU1
  have HU2 := hid hU2
  have E1 := hid e1
  have E2 := hid e2
  have E3 := hid e3
  have HR := hid hr
  have HM := hid hM
  clear haw hT hA hBt hT2 hZ hU1 hU2 e1 e2 e3 hr hM
  have z := zero_root
  have v1 := fun W => sv24_newv W (fun _ => 0) T0
  have v2 := fun W => sv24_newv W (fun _ => 0) A
  have v3 := fun W => sv24_newv W (fun _ => 0) B
  have v4 := fun W => sv24_newv W (fun _ => 0) T2
  have v5 := fun W => sv24_newv W (fun _ => 0) Z
  have v6 := fun W => sv24_newv W (fun _ => 0) M
  have b27 := bd27_0
  have b22 := fun W => bs22_1 W (fun _ => 0)
  have b20 := bs22_0
  have d1 : decide (D < 1) = false := by simp; omega
  have d2 : decide ((D : Int) < 1) = false := by simp; omega
  have d3 : decide (30 < D) = false := by simp; omega
  have d4 : decide ((30 : Int) < (D : Int)) = false := by simp; omega
  have d5 : decide (X < len) = false := by simp; omega
  have d6 : decide ((X : Int) < (len : Int)) = false := by simp; omega
  have q1 : (X : Int).tdiv 2 = (Y : Int) := by rw [Int.tdiv_eq_ediv_of_nonneg (by omega)]; omega
  have q2 : (X : Int) / 2 = (Y : Int) := by omega
  have q3 : (2 : Int) * (X : Int) = (X2 : Int) := by omega
  have hY2 := hid hY
  clear hY hX2
  go_enter Tryd.func6, Tryd.ntmps6
  have hB0 : Below w.heap.size w w := Below.refl _ _
  have HB0 := hid hB0
  clear hB0
  go_upto_region 6 with (go_at_call 9; refine (HAW.out _ HB0.out).mono ?_; rintro e wa ⟨rfl, hba⟩)
  have HBA := hid hba
  have HBAs := hid (Below.mono hba (Nat.le_refl _))
  clear hba HBAs
  go_upto_region 7 with (go_at_call 10; refine (HT.out _ HBA.out).mono ?_; rintro e w1 ⟨rfl, hb1⟩)
  obtain ⟨W1, hW1, hB1, hC1, r1, s1, t1⟩ := stow HBA.out hb1 T0
  rw [hW1]
  obtain ⟨y1, ey1⟩ : ∃ y, w1.heap.size = y := ⟨_, rfl⟩
  rw [ey1] at r1 s1 t1 ⊢
  clear HBA
  have R1 := hid r1
  have HB1 := hid hB1
  clear r1 hB1 hC1 hW1 ey1 hb1 s1
  go_upto_region 11 with (go_at_call 10; refine (HA.out _ HB1.out).mono ?_; rintro e w2 ⟨rfl, hb2⟩)
  obtain ⟨W2, hW2, hB2, hC2, r2, s2, t2⟩ := stow HB1.out hb2 A
  rw [hW2]
  obtain ⟨y2, ey2⟩ : ∃ y, w2.heap.size = y := ⟨_, rfl⟩
  rw [ey2] at r2 s2 t2 ⊢
  have r1' := (hC2.block y1 (by have := t1; omega)).trans R1.out
  have t1' : y1 < W2.heap.size := by omega
  clear t1
  have t1 := t1'
  clear t1'
  clear HB1
  clear R1
  have R1 := hid r1'
  clear r1'
  have R2 := hid r2
  have HB2 := hid hB2
  clear r2 hB2 hC2 hW2 ey2 hb2 s2
  go_upto_region 12 with (go_at_call 10; refine (HBt.out _ HB2.out).mono ?_; rintro e w3 ⟨rfl, hb3⟩)
  obtain ⟨W3, hW3, hB3, hC3, r3, s3, t3⟩ := stow HB2.out hb3 B
  rw [hW3]
  obtain ⟨y3, ey3⟩ : ∃ y, w3.heap.size = y := ⟨_, rfl⟩
  rw [ey3] at r3 s3 t3 ⊢
  have r1' := (hC3.block y1 (by have := t1; omega)).trans R1.out
  have r2' := (hC3.block y2 (by have := t2; omega)).trans R2.out
  have t1' : y1 < W3.heap.size := by omega
  clear t1
  have t1 := t1'
  clear t1'
  have t2' : y2 < W3.heap.size := by omega
  clear t2
  have t2 := t2'
  clear t2'
  clear HB2
  clear R1
  have R1 := hid r1'
  clear r1'
  clear R2
  have R2 := hid r2'
  clear r2'
  have R3 := hid r3
  have HB3 := hid hB3
  clear r3 hB3 hC3 hW3 ey3 hb3 s3
  have hl1 : ∀ W, Below W3.heap.size W3 W → (lv24 ⟨y1, 0, none⟩).run Tryd.prog W = .ok (.agg (vs .u8 32 T0)) W := fun W h => lv24_run ((h.block _ t1).trans R1.out)
  have hl2 : ∀ W, Below W3.heap.size W3 W → (lv24 ⟨y2, 0, none⟩).run Tryd.prog W = .ok (.agg (vs .u8 32 A)) W := fun W h => lv24_run ((h.block _ t2).trans R2.out)
  have hl3 : ∀ W, Below W3.heap.size W3 W → (lv24 ⟨y3, 0, none⟩).run Tryd.prog W = .ok (.agg (vs .u8 32 B)) W := fun W h => lv24_run ((h.block _ t3).trans R3.out)
  have L1 := hid hl1
  have L2 := hid hl2
  have L3 := hid hl3
  clear hl1 hl2 hl3
  have hdr : Below W3.heap.size W3 W3.drew := (Below.refl _ _).drew
  have HDR := hid hdr
  clear hdr
  refine wp_region_noPanic ?_
  refine wp_region_held_drew (S := fun W => Below W3.heap.size W3 W) (by kernel_rfl) (HDR.out) (fun hHeld => ?_)
  refine wpAnyH_take (i := 0) (v := ?v27) rfl (by kernel_rfl) (by kernel_rfl) (by kernel_rfl) (fun _ _ _ h => h) (Or.inl ⟨by rfl, ?hy27⟩) hHeld ?rest27
  case hy27 =>
    intro w hSw
    go_simp
    try with_reducible rfl
  try simp only [Act.put, List.setIfInBounds_toArray, List.set_cons_zero, List.set_cons_succ, Array.toArray_toList, List.getElem_toArray, List.getElem_cons_zero, List.getElem_cons_succ]
  refine wpAnyH_take (i := 1) (v := ?v28) rfl (by kernel_rfl) (by kernel_rfl) (by kernel_rfl) (fun _ _ _ h => h) (Or.inl ⟨by rfl, ?hy28⟩) hHeld ?rest28
  case hy28 =>
    intro w hSw
    go_simp
    try with_reducible rfl
  try simp only [Act.put, List.setIfInBounds_toArray, List.set_cons_zero, List.set_cons_succ, Array.toArray_toList, List.getElem_toArray, List.getElem_cons_zero, List.getElem_cons_succ]
  refine wpAnyH_take (i := 2) (v := ?v29) rfl (by kernel_rfl) (by kernel_rfl) (by kernel_rfl) (fun _ _ _ h => h) (Or.inl ⟨by rfl, ?hy29⟩) hHeld ?rest29
  case hy29 =>
    intro w hSw
    go_simp
    try with_reducible rfl
  try simp only [Act.put, List.setIfInBounds_toArray, List.set_cons_zero, List.set_cons_succ, Array.toArray_toList, List.getElem_toArray, List.getElem_cons_zero, List.getElem_cons_succ]
  refine wpAnyH_take (i := 3) (v := ?v30) rfl (by kernel_rfl) (by kernel_rfl) (by kernel_rfl) (fun _ _ _ h => h) (Or.inl ⟨by rfl, ?hy30⟩) hHeld ?rest30
  case hy30 =>
    intro w hSw
    go_simp
    try with_reducible rfl
  try simp only [Act.put, List.setIfInBounds_toArray, List.set_cons_zero, List.set_cons_succ, Array.toArray_toList, List.getElem_toArray, List.getElem_cons_zero, List.getElem_cons_succ]
  refine wpAnyH_take (i := 4) (v := ?v31) rfl (by kernel_rfl) (by kernel_rfl) (by kernel_rfl) (fun _ _ _ h => h) (Or.inl ⟨by rfl, ?hy31⟩) hHeld ?rest31
  case hy31 =>
    intro w hSw
    go_simp
    try with_reducible rfl
  try simp only [Act.put, List.setIfInBounds_toArray, List.set_cons_zero, List.set_cons_succ, Array.toArray_toList, List.getElem_toArray, List.getElem_cons_zero, List.getElem_cons_succ]
  refine wpAnyH_take (i := 5) (v := ?v32) rfl (by kernel_rfl) (by kernel_rfl) (by kernel_rfl) (fun _ _ _ h => h) (Or.inl ⟨by rfl, ?hy32⟩) hHeld ?rest32
  case hy32 =>
    intro w hSw
    go_simp
    try with_reducible rfl
  try simp only [Act.put, List.setIfInBounds_toArray, List.set_cons_zero, List.set_cons_succ, Array.toArray_toList, List.getElem_toArray, List.getElem_cons_zero, List.getElem_cons_succ]
  refine wpAnyH_take (i := 6) (v := ?v33) rfl (by kernel_rfl) (by kernel_rfl) (by kernel_rfl) (fun _ _ _ h => h) (Or.inl ⟨by rfl, ?hy33⟩) hHeld ?rest33
  case hy33 =>
    intro w hSw
    go_simp
    try with_reducible rfl
  try simp only [Act.put, List.setIfInBounds_toArray, List.set_cons_zero, List.set_cons_succ, Array.toArray_toList, List.getElem_toArray, List.getElem_cons_zero, List.getElem_cons_succ]
  refine wpAnyH_take (i := 7) (v := ?v34) rfl (by kernel_rfl) (by kernel_rfl) (by kernel_rfl) (fun _ _ _ h => h) (Or.inl ⟨by rfl, ?hy34⟩) hHeld ?rest34
  case hy34 =>
    intro w hSw
    go_simp
    try with_reducible rfl
  try simp only [Act.put, List.setIfInBounds_toArray, List.set_cons_zero, List.set_cons_succ, Array.toArray_toList, List.getElem_toArray, List.getElem_cons_zero, List.getElem_cons_succ]
  refine wpAnyH_take (i := 8) (v := ?v35) rfl (by kernel_rfl) (by kernel_rfl) (by kernel_rfl) (fun _ _ _ h => h) (Or.inl ⟨by rfl, ?hy35⟩) hHeld ?rest35
  case hy35 =>
    intro w hSw
    go_simp
    try with_reducible rfl
  try simp only [Act.put, List.setIfInBounds_toArray, List.set_cons_zero, List.set_cons_succ, Array.toArray_toList, List.getElem_toArray, List.getElem_cons_zero, List.getElem_cons_succ]
  refine wpAnyH_take (i := 9) (v := ?v36) rfl (by kernel_rfl) (by kernel_rfl) (by kernel_rfl) (fun _ _ _ h => h) (Or.inl ⟨by rfl, ?hy36⟩) hHeld ?rest36
  case hy36 =>
    intro w hSw
    go_simp
    try with_reducible rfl
  try simp only [Act.put, List.setIfInBounds_toArray, List.set_cons_zero, List.set_cons_succ, Array.toArray_toList, List.getElem_toArray, List.getElem_cons_zero, List.getElem_cons_succ]
  refine wpAnyH_take (i := 10) (v := ?v37) rfl (by kernel_rfl) (by kernel_rfl) (by kernel_rfl) (fun _ _ _ h => h) (Or.inl ⟨by rfl, ?hy37⟩) hHeld ?rest37
  case hy37 =>
    intro w hSw
    go_simp
    try with_reducible rfl
  try simp only [Act.put, List.setIfInBounds_toArray, List.set_cons_zero, List.set_cons_succ, Array.toArray_toList, List.getElem_toArray, List.getElem_cons_zero, List.getElem_cons_succ]
  refine wpAnyH_take (i := 11) (v := ?v38) rfl (by kernel_rfl) (by kernel_rfl) (by kernel_rfl) (fun _ _ _ h => h) (Or.inl ⟨by rfl, ?hy38⟩) hHeld ?rest38
  case hy38 =>
    intro w hSw
    have ld := L1.out _ hSw
    go_simp
    try with_reducible rfl
  try simp only [Act.put, List.setIfInBounds_toArray, List.set_cons_zero, List.set_cons_succ, Array.toArray_toList, List.getElem_toArray, List.getElem_cons_zero, List.getElem_cons_succ]
  refine wpAnyH_take (i := 12) (v := ?v39) rfl (by kernel_rfl) (by kernel_rfl) (by kernel_rfl) (fun _ _ _ h => h) (Or.inl ⟨by rfl, ?hy39⟩) hHeld ?rest39
  case hy39 =>
    intro w hSw
    have ld := L2.out _ hSw
    go_simp
    try with_reducible rfl
  try simp only [Act.put, List.setIfInBounds_toArray, List.set_cons_zero, List.set_cons_succ, Array.toArray_toList, List.getElem_toArray, List.getElem_cons_zero, List.getElem_cons_succ]
  refine wpAnyH_take (i := 13) (v := ?v40) rfl (by kernel_rfl) (by kernel_rfl) (by kernel_rfl) (fun _ _ _ h => h) (Or.inl ⟨by rfl, ?hy40⟩) hHeld ?rest40
  case hy40 =>
    intro w hSw
    have ld := L3.out _ hSw
    go_simp
    try with_reducible rfl
  try simp only [Act.put, List.setIfInBounds_toArray, List.set_cons_zero, List.set_cons_succ, Array.toArray_toList, List.getElem_toArray, List.getElem_cons_zero, List.getElem_cons_succ]
  refine wpAnyH_ready (rs := [14]) (by kernel_rfl) (by simp) ?_
  refine AllReadyH.cons rfl (fun K hK => ?_) AllReadyH.nil
  go_simp
  refine (HU1.out _ HB3.out.drew).mono ?_
  rintro e w4 ⟨rfl, hb4⟩
  dsimp only
  replace hb4 : Below W3.heap.size W3 w4 := HDR.out.trans hb4
  refine hK.out _ _ (hb4) (fun hHeld => ?_)
  clear hK K
  try simp only [Act.put, List.setIfInBounds_toArray, List.set_cons_zero, List.set_cons_succ, Array.toArray_toList, List.getElem_toArray, List.getElem_cons_zero, List.getElem_cons_succ]
  refine wpAnyH_take (i := 15) rfl (by kernel_rfl) (by kernel_rfl) (by kernel_rfl) (fun _ _ _ h => h) (yields_neo (by rfl) _ _ _ rfl T0 U1 rfl rfl) hHeld ?_
  rw [E1.out, Bool.not_true]
  try simp only [Act.put, List.setIfInBounds_toArray, List.set_cons_zero, List.set_cons_succ, Array.toArray_toList, List.getElem_toArray, List.getElem_cons_zero, List.getElem_cons_succ]
  refine wpAnyH_take (i := 16) (v := ?v41) rfl (by kernel_rfl) (by kernel_rfl) (by kernel_rfl) (fun _ _ _ h => h) (Or.inl ⟨by rfl, ?hy41⟩) hHeld ?rest41
  case hy41 =>
    intro w hSw
    go_simp
    try with_reducible rfl
  try simp only [Act.put, List.setIfInBounds_toArray, List.set_cons_zero, List.set_cons_succ, Array.toArray_toList, List.getElem_toArray, List.getElem_cons_zero, List.getElem_cons_succ]
  refine wpAnyH_done (by kernel_rfl) ?_ _
  refine NoPanic.normal ?_
  clear HDR L1 L2 L3 hHeld
  have t1' : y1 < w4.heap.size := by have := hb4.size; omega
  have r1' := (hb4.block y1 t1).trans R1.out
  have hB4 := HB3.out.trans (hb4.mono HB3.out.size)
  have HB4 := hid hB4
  clear R1 t1 hB4 hb4 R2 t2 R3 t3 HB3
  have R1 := hid r1'
  have t1 := t1'
  clear r1' t1'
  go_upto_region 15 with (go_at_call 10; refine (HT2.out _ HB4.out).mono ?_; rintro e w5 ⟨rfl, hb5⟩)
  obtain ⟨W5, hW5, hB5, hC5, r5, s5, t5⟩ := stow HB4.out hb5 T2
  rw [hW5]
  obtain ⟨y5, ey5⟩ : ∃ y, w5.heap.size = y := ⟨_, rfl⟩
  rw [ey5] at r5 s5 t5 ⊢
  have r1' := (hC5.block y1 (by have := t1; omega)).trans R1.out
  have t1' : y1 < W5.heap.size := by omega
  clear t1
  have t1 := t1'
  clear t1'
  clear HB4
  clear R1
  have R1 := hid r1'
  clear r1'
  have R5 := hid r5
  have HB5 := hid hB5
  clear r5 hB5 hC5 hW5 ey5 hb5 s5
  go_upto_region 16 with (go_at_call 13; refine (HZ.out _ HB5.out).mono ?_; rintro e w6 ⟨rfl, hb6⟩)
  obtain ⟨W6, hW6, hB6, hC6, r6, s6, t6⟩ := stow HB5.out hb6 Z
  rw [hW6]
  obtain ⟨y6, ey6⟩ : ∃ y, w6.heap.size = y := ⟨_, rfl⟩
  rw [ey6] at r6 s6 t6 ⊢
  have r1' := (hC6.block y1 (by have := t1; omega)).trans R1.out
  have r5' := (hC6.block y5 (by have := t5; omega)).trans R5.out
  have t1' : y1 < W6.heap.size := by omega
  clear t1
  have t1 := t1'
  clear t1'
  have t5' : y5 < W6.heap.size := by omega
  clear t5
  have t5 := t5'
  clear t5'
  clear HB5
  clear R1
  have R1 := hid r1'
  clear r1'
  clear R5
  have R5 := hid r5'
  clear r5'
  have R6 := hid r6
  have HB6 := hid hB6
  clear r6 hB6 hC6 hW6 ey6 hb6 s6
  have hl1 : ∀ W, Below W6.heap.size W6 W → (lv24 ⟨y5, 0, none⟩).run Tryd.prog W = .ok (.agg (vs .u8 32 T2)) W := fun W h => lv24_run ((h.block _ t5).trans R5.out)
  have hl2 : ∀ W, Below W6.heap.size W6 W → (lv24 ⟨y1, 0, none⟩).run Tryd.prog W = .ok (.agg (vs .u8 32 T0)) W := fun W h => lv24_run ((h.block _ t1).trans R1.out)
  have hl3 : ∀ W, Below W6.heap.size W6 W → (lv24 ⟨y6, 0, none⟩).run Tryd.prog W = .ok (.agg (vs .u8 32 Z)) W := fun W h => lv24_run ((h.block _ t6).trans R6.out)
  have L1 := hid hl1
  have L2 := hid hl2
  have L3 := hid hl3
  clear hl1 hl2 hl3
  have hdr : Below W6.heap.size W6 W6.drew := (Below.refl _ _).drew
  have HDR := hid hdr
  clear hdr
  refine wp_region_noPanic ?_
  refine wp_region_held_drew (S := fun W => Below W6.heap.size W6 W) (by kernel_rfl) (HDR.out) (fun hHeld => ?_)
  refine wpAnyH_take (i := 0) (v := ?v42) rfl (by kernel_rfl) (by kernel_rfl) (by kernel_rfl) (fun _ _ _ h => h) (Or.inl ⟨by rfl, ?hy42⟩) hHeld ?rest42
  case hy42 =>
    intro w hSw
    go_simp
    try with_reducible rfl
  try simp only [Act.put, List.setIfInBounds_toArray, List.set_cons_zero, List.set_cons_succ, Array.toArray_toList, List.getElem_toArray, List.getElem_cons_zero, List.getElem_cons_succ]
  refine wpAnyH_take (i := 1) (v := ?v43) rfl (by kernel_rfl) (by kernel_rfl) (by kernel_rfl) (fun _ _ _ h => h) (Or.inl ⟨by rfl, ?hy43⟩) hHeld ?rest43
  case hy43 =>
    intro w hSw
    go_simp
    try with_reducible rfl
  try simp only [Act.put, List.setIfInBounds_toArray, List.set_cons_zero, List.set_cons_succ, Array.toArray_toList, List.getElem_toArray, List.getElem_cons_zero, List.getElem_cons_succ]
  refine wpAnyH_take (i := 2) (v := ?v44) rfl (by kernel_rfl) (by kernel_rfl) (by kernel_rfl) (fun _ _ _ h => h) (Or.inl ⟨by rfl, ?hy44⟩) hHeld ?rest44
  case hy44 =>
    intro w hSw
    go_simp
    try with_reducible rfl
  try simp only [Act.put, List.setIfInBounds_toArray, List.set_cons_zero, List.set_cons_succ, Array.toArray_toList, List.getElem_toArray, List.getElem_cons_zero, List.getElem_cons_succ]
  refine wpAnyH_take (i := 3) (v := ?v45) rfl (by kernel_rfl) (by kernel_rfl) (by kernel_rfl) (fun _ _ _ h => h) (Or.inl ⟨by rfl, ?hy45⟩) hHeld ?rest45
  case hy45 =>
    intro w hSw
    go_simp
    try with_reducible rfl
  try simp only [Act.put, List.setIfInBounds_toArray, List.set_cons_zero, List.set_cons_succ, Array.toArray_toList, List.getElem_toArray, List.getElem_cons_zero, List.getElem_cons_succ]
  refine wpAnyH_take (i := 4) (v := ?v46) rfl (by kernel_rfl) (by kernel_rfl) (by kernel_rfl) (fun _ _ _ h => h) (Or.inl ⟨by rfl, ?hy46⟩) hHeld ?rest46
  case hy46 =>
    intro w hSw
    go_simp
    try with_reducible rfl
  try simp only [Act.put, List.setIfInBounds_toArray, List.set_cons_zero, List.set_cons_succ, Array.toArray_toList, List.getElem_toArray, List.getElem_cons_zero, List.getElem_cons_succ]
  refine wpAnyH_take (i := 5) (v := ?v47) rfl (by kernel_rfl) (by kernel_rfl) (by kernel_rfl) (fun _ _ _ h => h) (Or.inl ⟨by rfl, ?hy47⟩) hHeld ?rest47
  case hy47 =>
    intro w hSw
    go_simp
    try with_reducible rfl
  try simp only [Act.put, List.setIfInBounds_toArray, List.set_cons_zero, List.set_cons_succ, Array.toArray_toList, List.getElem_toArray, List.getElem_cons_zero, List.getElem_cons_succ]
  refine wpAnyH_take (i := 6) (v := ?v48) rfl (by kernel_rfl) (by kernel_rfl) (by kernel_rfl) (fun _ _ _ h => h) (Or.inl ⟨by rfl, ?hy48⟩) hHeld ?rest48
  case hy48 =>
    intro w hSw
    go_simp
    try with_reducible rfl
  try simp only [Act.put, List.setIfInBounds_toArray, List.set_cons_zero, List.set_cons_succ, Array.toArray_toList, List.getElem_toArray, List.getElem_cons_zero, List.getElem_cons_succ]
  refine wpAnyH_take (i := 7) (v := ?v49) rfl (by kernel_rfl) (by kernel_rfl) (by kernel_rfl) (fun _ _ _ h => h) (Or.inl ⟨by rfl, ?hy49⟩) hHeld ?rest49
  case hy49 =>
    intro w hSw
    have ld := L1.out _ hSw
    go_simp
    try with_reducible rfl
  try simp only [Act.put, List.setIfInBounds_toArray, List.set_cons_zero, List.set_cons_succ, Array.toArray_toList, List.getElem_toArray, List.getElem_cons_zero, List.getElem_cons_succ]
  refine wpAnyH_take (i := 8) (v := ?v50) rfl (by kernel_rfl) (by kernel_rfl) (by kernel_rfl) (fun _ _ _ h => h) (Or.inl ⟨by rfl, ?hy50⟩) hHeld ?rest50
  case hy50 =>
    intro w hSw
    have ld := L2.out _ hSw
    go_simp
    try with_reducible rfl
  try simp only [Act.put, List.setIfInBounds_toArray, List.set_cons_zero, List.set_cons_succ, Array.toArray_toList, List.getElem_toArray, List.getElem_cons_zero, List.getElem_cons_succ]
  refine wpAnyH_take (i := 9) (v := ?v51) rfl (by kernel_rfl) (by kernel_rfl) (by kernel_rfl) (fun _ _ _ h => h) (Or.inl ⟨by rfl, ?hy51⟩) hHeld ?rest51
  case hy51 =>
    intro w hSw
    have ld := L3.out _ hSw
    go_simp
    try with_reducible rfl
  try simp only [Act.put, List.setIfInBounds_toArray, List.set_cons_zero, List.set_cons_succ, Array.toArray_toList, List.getElem_toArray, List.getElem_cons_zero, List.getElem_cons_succ]
  refine wpAnyH_ready (rs := [10]) (by kernel_rfl) (by simp) ?_
  refine AllReadyH.cons rfl (fun K hK => ?_) AllReadyH.nil
  go_simp
  refine (HU2.out _ HB6.out.drew).mono ?_
  rintro e w7 ⟨rfl, hb7⟩
  dsimp only
  replace hb7 : Below W6.heap.size W6 w7 := HDR.out.trans hb7
  refine hK.out _ _ (hb7) (fun hHeld => ?_)
  clear hK K
  try simp only [Act.put, List.setIfInBounds_toArray, List.set_cons_zero, List.set_cons_succ, Array.toArray_toList, List.getElem_toArray, List.getElem_cons_zero, List.getElem_cons_succ]
  refine wpAnyH_take (i := 11) rfl (by kernel_rfl) (by kernel_rfl) (by kernel_rfl) (fun _ _ _ h => h) (yields_neo (by rfl) _ _ _ rfl T2 U2 rfl rfl) hHeld ?_
  rw [E2.out, Bool.not_true]
  try simp only [Act.put, List.setIfInBounds_toArray, List.set_cons_zero, List.set_cons_succ, Array.toArray_toList, List.getElem_toArray, List.getElem_cons_zero, List.getElem_cons_succ]
  refine wpAnyH_take (i := 12) (v := ?v52) rfl (by kernel_rfl) (by kernel_rfl) (by kernel_rfl) (fun _ _ _ h => h) (Or.inl ⟨by rfl, ?hy52⟩) hHeld ?rest52
  case hy52 =>
    intro w hSw
    go_simp
    try with_reducible rfl
  try simp only [Act.put, List.setIfInBounds_toArray, List.set_cons_zero, List.set_cons_succ, Array.toArray_toList, List.getElem_toArray, List.getElem_cons_zero, List.getElem_cons_succ]
  refine wpAnyH_done (by kernel_rfl) ?_ _
  refine NoPanic.normal ?_
  clear HDR L1 L2 L3 hHeld
  have t1' : y1 < w7.heap.size := by have := hb7.size; omega
  have r1' := (hb7.block y1 t1).trans R1.out
  have hB7 := HB6.out.trans (hb7.mono HB6.out.size)
  have HB7 := hid hB7
  clear R1 t1 hB7 hb7 R5 t5 R6 t6 HB6
  have R1 := hid r1'
  have t1 := t1'
  clear r1' t1'
  by_cases hlx : len = X
  · have c1 : (len == X) = true := by simp; exact hlx
    have c2 : ((len : Int) == (X : Int)) = true := by simp; omega
    go_wp2
    go_ret
    exact ⟨rfl, HB7.out⟩
  · have c1 : (len == X) = false := by simp; exact hlx
    have c2 : ((len : Int) == (X : Int)) = false := by simp; omega
    have hT3 := HM.out (by omega)
    have HT3 := hid hT3
    clear hT3
    go_upto_region 21 with (first
      | (at_builtin; refine wpList_append_rts _ rfl _ _ rfl w7.heap.size _ 0 f rfl (World.ownsRow_made _ #[] 0 (Nat.le_refl _) (Nat.zero_le _) rfl) a len cap f rfl (HR.out.below (HB7.out.alloc HB7.out.size _)) (by omega) (by simp) f (fun q _ => rfl) (fun q _ => by rw [Nat.mul_zero, Nat.zero_add]) ?_; intro v8 w8 ho8 hg8; rw [Nat.zero_add] at ho8; have HO8 := hid ho8; have hb8 := below_grownS ((Below.refl w7.heap.size w7).alloc (Nat.le_refl _) (.cells #[] 27)) (World.ownsRow_made (e := 27) (size := 32) _ #[] 0 (Nat.le_refl _) (Nat.zero_le _) rfl) (by simp) hg8; have HB8 := hid hb8; clear hg8 hb8 ho8)
      | (at_builtin; refine wpList_append_rts _ rfl _ _ rfl w7.heap.size _ len f rfl (HO8.out.alloc _) _ 1 1 (fun _ => 0) rfl (rts_row (heap_new rfl)) (by omega) (by have := HB8.out.size; simp; omega) (ext0 f len) (fun q hq => ext0_lo f len q hq) (fun q hq => ext0_hi f len q) ?_; intro v9 w9 ho9 hg9; have hb9 := below_grownS (HB8.out.alloc HB8.out.size (.cells (vs .u8 32 fun _ => 0) 27)) (HO8.out.alloc _) (by have := HB8.out.size; simp; omega) hg9; obtain ⟨a9, cap9, rfl, hrow9⟩ := RowR.ofOwns ho9; have HB9 := hid hb9; have HR9 := hid hrow9.rts; clear hg9 hb9 ho9 hrow9)
      | (go_at_call 10; refine (HT3.out _ a9 cap9 (HB7.out.trans (HB9.out.mono HB7.out.size)) HR9.out).mono ?_; rintro e w10 ⟨rfl, hb10⟩))
    obtain ⟨W10, hW10, hB10, hC10, r10, s10, t10⟩ := stow (HB7.out.trans (HB9.out.mono HB7.out.size)) hb10 M
    rw [hW10]
    obtain ⟨y10, ey10⟩ : ∃ y, w10.heap.size = y := ⟨_, rfl⟩
    rw [ey10] at r10 s10 t10 ⊢
    have hs9 := HB9.out.size
    have r1' := (hC10.block y1 (by omega)).trans ((HB9.out.block y1 t1).trans R1.out)
    have l1 := lv24_run r10
    have l2 := lv24_run r1'
    have q3 := eqo_run W10 M T0
    rw [E3.out] at q3
    have HB10 := hid hB10
    clear hW10 hB10 hC10 r10 r1' hb10 ey10 HR9 HB9 HO8 HB8
    go_wp2
    go_ret
    exact ⟨rfl, HB10.out⟩

end Go.Proofs.YtahnlfiahchdeaaDoor
