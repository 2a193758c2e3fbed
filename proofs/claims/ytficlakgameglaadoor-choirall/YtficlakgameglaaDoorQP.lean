/-
  What the program's RootAt, Leak and Seed answer.
  The sum of a seed and a number.
-/
import Derived.Test.YtficlakgameglaaDoorQL
import Derived.Test.YtficlakgameglaaDoorPkB
import Derived.ArgAppend

namespace Go.Proofs.YtficlakgameglaaDoor

open Go.RowKit

set_option linter.unusedVariables false

set_option linter.unusedSimpArgs false

set_option maxRecDepth 20000

set_option maxHeartbeats 1000000 in
theorem wbytes_any (n : Int) (w : World) (h0 : 0 ≤ n) (h1 : n ≤ 18446744073709551615) :
    Calls Tryd.prog 80 #[.int .u64 n] w fun e w' => e = .returned (.agg (vs .u8 8 (nmB n))) ∧ Below w.heap.size w w' := by
  have e0 : vs .u8 8 (nmB n) = #[.int .u8 (n % 256), .int .u8 (n / 256 % 256), .int .u8 (n / 65536 % 256), .int .u8 (n / 16777216 % 256), .int .u8 (n / 4294967296 % 256), .int .u8 (n / 1099511627776 % 256), .int .u8 (n / 281474976710656 % 256), .int .u8 (n / 72057594037927936)] := by
    have e7 : n / 72057594037927936 = n / 72057594037927936 % 256 := by omega
    have e1 : n % 256 = n / 1 % 256 := by omega
    rw [e7, e1]
    rfl
  rw [e0]
  clear e0
  go_enter Tryd.func80, Tryd.ntmps80
  go_wp2
  go_rounds 9
  go_returns
  exact ⟨rfl, by go_grown⟩

/-- One number behind another, 0 where it is below. -/
theorem lessR_any (a b : Int) (w : World) (ha : 0 ≤ a) (ha' : a < 18446744073709551616) (hb : 0 ≤ b) (hb' : b < 18446744073709551616) :
    Calls Tryd.prog 45 #[.int .u64 a, .int .u64 b] w fun e w' => e = .returned (.int .u64 (lesV a b)) ∧ w' = w := by
  by_cases h : a < b
  · have e0 : lesV a b = 0 := by unfold lesV; rw [if_pos h]
    rw [e0]
    clear e0
    go_enter Tryd.func45, Tryd.ntmps45
    go_wp2
    go_ret
    exact ⟨rfl, rfl⟩
  · have e0 : lesV a b = a - b := by unfold lesV; rw [if_neg h]
    rw [e0]
    clear e0
    go_enter Tryd.func45, Tryd.ntmps45
    go_wp2
    go_ret
    exact ⟨rfl, rfl⟩

/-- The low bytes of a number are those of what is left of it. -/
theorem nmB_low (k : Int) (j : Nat) (hj : j < 4) : nmB (k % 18446744073709551616) j = nmB (k % 4294967296) j := by
  unfold nmB
  obtain rfl | rfl | rfl | rfl : j = 0 ∨ j = 1 ∨ j = 2 ∨ j = 3 := by omega
  all_goals simp only [Nat.mul_zero, Nat.mul_one, Nat.reduceMul, Int.reducePow, Int.pow_zero, Int.ediv_one]
  all_goals omega

theorem wpB_append_is {P : Program} {ops : Array Oper} {rest : List Oper} {o : Oper} {a : Act} {w : World} {Q : Exit → Act → World → Prop} (hgd : o.guard = none) (s x : Operand)
    (ho : o.op = .call { callee := .builtin .append, args := #[s, x], argTypes := #[39, 39] }) (ws wx v : Value) (w' : World) (hs : a.eval s = ws) (hx : a.eval x = wx)
    (hrun : (ap22 o.type ws wx).run P w = .ok v w') (h : wpList P ops Q rest (a.put o.dst v) w') : wpList P ops Q (o :: rest) a w :=
  wpList_plain hgd fun K hK => wp_append_is s x ho ws wx v w' hs hx hrun (hK _ _ h)

attribute [local go_sem ↓] lvState_eq svState_eq bdState_eq lvValidator_eq svValidator_eq ixValidator_eq sv24_eq lv24_eq bd27_eq sv8_eq ix31_eq

set_option maxHeartbeats 1000000 in
theorem rootat_any (x : VState) (s : Int) (w : World) (hx : OkState x) (hs : 0 ≤ s) :
    Calls Tryd.prog 37 #[.agg (cel (sState x)), .int .u64 s] w fun e' w' => e' = .returned (.tuple #[.agg (vs .u8 32 (rtV x s)), .int .i64 (rtE x s)]) ∧ Below w.heap.size w w' := by
  obtain ⟨W0, hW0⟩ : ∃ W, (w.alloc (.cells (cel (sState x)) 49)).alloc (.cells (vs .u8 32 fun _ => 0) 24) = W := ⟨_, rfl⟩
  have r0 : W0.heap[w.heap.size]? = some (.cells (cel (sState x)) 49) := by rw [← hW0]; exact (heap_old (by simp)).trans (heap_new rfl)
  have r1 : W0.heap[w.heap.size + 1]? = some (.cells (vs .u8 32 fun _ => 0) 24) := by rw [← hW0]; exact heap_new (by simp)
  have hB0 : Below w.heap.size w W0 := by rw [← hW0]; exact ((Below.refl _ _).alloc (Nat.le_refl _) _).alloc (by simp) _
  have c2 := cS2 r0
  have hv : rtV x s = if s < x.f2 ∧ x.f2 - s ≤ 8 then (fun j => x.f5 (32 * (s % 8).toNat + j)) else fun _ => 0 := rfl
  have hE : rtE x s = if s < x.f2 ∧ x.f2 - s ≤ 8 then 0 else 1 := rfl
  obtain ⟨k, hk⟩ : ∃ k : Nat, s % 8 = (k : Int) := ⟨(s % 8).toNat, by omega⟩
  have hk8 : k < 8 := by omega
  have o2 := hx.o2
  rw [hk, Int.toNat_natCast] at hv
  have hl : (lv24 ⟨w.heap.size, 141 + 32 * k, none⟩).run Tryd.prog W0 = .ok (.agg (vs .u8 32 fun j => x.f5 (32 * k + j))) W0 := lv24_mid (fun j hj => by
    rcases cS5 r0 with ⟨h, _⟩ | ⟨_, _, h⟩ | ⟨b, off, h1, _, _, _, h5⟩
    · cases h
    · cases h
    · cases h1
      rw [Nat.add_assoc]
      exact h5 (32 * k + j) (by omega))
  have ix := fun W => ix31_run W w.heap.size 141 k hk8
  obtain ⟨O, eO⟩ : ∃ O, 141 + 32 * k = O := ⟨_, rfl⟩
  rw [eO] at hl
  simp only [eO] at ix
  obtain ⟨C, eC⟩ : ∃ C : Nat → Int, (fun j => x.f5 (32 * k + j)) = C := ⟨_, rfl⟩
  rw [eC] at hl hv
  have s0 := sv24_run r1 (fun _ => 0)
  have s1 := sv24_run r1 C
  have b0 := bd27_0
  have z := zero_root
  generalize rtV x s = RV at *
  generalize rtE x s = RE at *
  generalize x.f2 = p at *
  have k1 : (0 : Int) ≤ (k : Int) := by omega
  have k2 : (k : Int) < 8 := by omega
  have HR := hid r1
  have HB := hid hB0
  have HW := hid hW0
  have HV := hid hv
  have HE := hid hE
  clear r0 r1 hB0 hW0 hv hE hx eC eO
  obtain ⟨o20, o21⟩ := o2
  by_cases h1 : p ≤ s
  · have d1 : decide (p ≤ s) = true := by simp [h1]
    go_enter Tryd.func37, Tryd.ntmps37
    go_upto_region 1 with fail
    rw [HW.out]
    clear HW
    go_wp2
    refine ret24s 4 5 (w.heap.size + 1) (fun _ => 0) 24 (.int .i64 1) rfl rfl rfl rfl (setRow_at HR.out) ⟨by rw [HV.out, HE.out, if_neg (by omega), if_neg (by omega)], ?_⟩
    exact below_row HB.out (by omega) _
  · have d1 : decide (p ≤ s) = false := by simp; omega
    have ws : IntKind.u64.wrap (p - s) = p - s := by rw [IntKind.wrap_u64]; omega
    by_cases h2 : 8 < p - s
    · have d2 : decide (8 < p - s) = true := by simp; omega
      go_enter Tryd.func37, Tryd.ntmps37
      go_upto_region 1 with fail
      rw [HW.out]
      clear HW
      go_wp2
      refine ret24s 4 5 (w.heap.size + 1) (fun _ => 0) 24 (.int .i64 1) rfl rfl rfl rfl (setRow_at HR.out) ⟨by rw [HV.out, HE.out, if_neg (by omega), if_neg (by omega)], ?_⟩
      exact below_row HB.out (by omega) _
    · have d2 : decide (8 < p - s) = false := by simp; omega
      go_enter Tryd.func37, Tryd.ntmps37
      go_upto_region 1 with fail
      rw [HW.out]
      clear HW
      go_wp2
      refine ret24s 4 5 (w.heap.size + 1) C 24 (.int .i64 0) rfl rfl rfl rfl (setRow_at HR.out) ⟨by rw [HV.out, HE.out, if_pos (by omega), if_pos (by omega)], ?_⟩
      exact below_row HB.out (by omega) _

set_option maxHeartbeats 2000000 in
theorem seed_any (x : VState) (e k : Int) (w : World) (hx : OkState x) (e0 : 0 ≤ e) (e1 : e < 18446744073709551616) (hS : Sh w) :
    Calls Tryd.prog 67 #[.agg (cel (sState x)), .int .u64 e, .int .i64 k] w fun e' w' => e' = .returned (.agg (vs .u8 32 (seedV x e k))) ∧ Below w.heap.size w w' := by
  obtain ⟨W0, hW0⟩ : ∃ W, (w.alloc (.cells (cel (sState x)) 49)).alloc (.cells (vs .u8 32 fun _ => 0) 24) = W := ⟨_, rfl⟩
  have r0 : W0.heap[w.heap.size]? = some (.cells (cel (sState x)) 49) := by rw [← hW0]; exact (heap_old (by simp)).trans (heap_new rfl)
  have r1 : W0.heap[w.heap.size + 1]? = some (.cells (vs .u8 32 fun _ => 0) 24) := by rw [← hW0]; exact heap_new (by simp)
  have hB0 : Below w.heap.size w W0 := by rw [← hW0]; exact ((Below.refl _ _).alloc (Nat.le_refl _) _).alloc (by simp) _
  have z0 : w.heap.size + 1 < W0.heap.size := (Array.getElem?_eq_some_iff.1 r1).1
  obtain ⟨Kk, hKk⟩ : ∃ K, k % 4294967296 = K := ⟨_, rfl⟩
  have kb : 0 ≤ Kk ∧ Kk < 4294967296 := by omega
  have hlow := nmB_low k
  obtain ⟨U, hU⟩ : ∃ U, k % 18446744073709551616 = U := ⟨_, rfl⟩
  have kw : IntKind.u64.wrap k = U := by rw [IntKind.wrap_u64]; exact hU
  rw [hKk, hU] at hlow
  have hk1 := fun W : World => wbytes_any U W (by omega) (by omega)
  have hk2 := fun W : World => wbytes_any e W e0 (by omega)
  obtain ⟨P, hP⟩ : ∃ P : Nat, (e % 8 + 8 - 1 - 1) % 8 = (P : Int) := ⟨((e % 8 + 8 - 1 - 1) % 8).toNat, by omega⟩
  have hP8 : P < 8 := by omega
  have hPm : mixP e = P := by unfold mixP; omega
  have hl : ∀ W : World, Below W0.heap.size W0 W → (lv24 ⟨w.heap.size, 723 + 32 * P, none⟩).run Tryd.prog W = .ok (.agg (vs .u8 32 (mixV x e))) W := fun W h => lv24_mid (fun j hj => by
    rcases cS13 ((h.block _ (by omega)).trans r0) with ⟨h, _⟩ | ⟨_, _, h⟩ | ⟨b, off, h1, _, _, _, h5⟩
    · cases h
    · cases h
    · cases h1
      rw [Nat.add_assoc, h5 (32 * P + j) (by omega)]
      unfold mixV
      rw [hPm])
  have hmb : ∀ j, j < 32 → 0 ≤ mixV x e j ∧ mixV x e j < 256 := fun j hj => hx.o13 _ (by rw [hPm]; omega)
  have ix := fun W => ix31_run W w.heap.size 723 P hP8
  obtain ⟨O, eO⟩ : ∃ O, 723 + 32 * P = O := ⟨_, rfl⟩
  rw [eO] at hl
  simp only [eO] at ix
  have hseed : seedV x e k = shaV KW HW (sdM Kk e (mixV x e)) 44 := by unfold seedV; rw [hKk]
  generalize mixV x e = mx at *
  obtain ⟨X, hX⟩ : ∃ X, shaV KW HW (sdM Kk e mx) 44 = X := ⟨_, rfl⟩
  rw [hX] at hseed
  rw [hseed]
  have hsum : ∀ (W : World) g C B, Below w.heap.size w W → W.ownsRow B 5 1 (.slice (some ⟨g, 0, none⟩) 44 C) 44 (bl (sdM Kk e mx) 44) → Calls Tryd.prog 85 #[.slice (some ⟨g, 0, none⟩) 44 C] W fun e w' => e = .returned (.agg (vs .u8 32 X)) ∧ Below W.heap.size W w' := fun W g C B h1 ho => by
    rw [← hX]
    obtain ⟨q1, q2, q3, q4, q5⟩ := own_cells ho
    exact sum_any KW HW (sdM Kk e mx) 44 C g 0 W (hS.below h1).1 (hS.below h1).2 HW_bd (fun j hj => by rw [Nat.zero_add]; exact q5 j hj) (fun j hj => sdM_bd _ _ _ hmb j hj) q2 (by omega) q3 q4
  have v8a := fun W => sv8_newv W (fun _ => 0) (nmB U)
  have v8b := fun W => sv8_newv W (fun _ => 0) (nmB e)
  have v24 := fun W => sv24_newv W (fun _ => 0) mx
  have z8 := zero_8
  have zr := zero_root
  have HK1 := hid hk1
  have HK2 := hid hk2
  have HL := hid hl
  have HSUM0 := hid hsum
  have HB0 := hid hB0
  have HW0 := hid hW0
  have HR1 := hid r1
  clear hk1 hk2 hl hsum hB0 hW0 r0 r1 hx hS hseed hmb hPm hX eO hKk hU
  go_enter Tryd.func67, Tryd.ntmps67
  go_upto_region 1 with fail
  rw [HW0.out]
  clear HW0
  go_upto_region 2 with (go_at_call 80; refine (HK1.out W0).mono ?_; rintro e' w1 ⟨rfl, hb1⟩)
  obtain ⟨W2, hW2⟩ : ∃ W, w1.alloc (.cells (vs .u8 8 (nmB U)) 128) = W := ⟨_, rfl⟩
  rw [hW2]
  have hz1 := hb1.size
  have rk : W2.heap[w1.heap.size]? = some (.cells (vs .u8 8 (nmB U)) 128) := by rw [← hW2]; exact heap_new rfl
  have hD2 : Below W0.heap.size W0 W2 := by rw [← hW2]; exact hb1.alloc hz1 _
  obtain ⟨y1, ey1⟩ : ∃ y, w1.heap.size = y := ⟨_, rfl⟩
  rw [ey1] at rk ⊢
  have HRK := hid rk
  have HD2 := hid hD2
  clear rk hD2 hW2 hb1 hz1 ey1
  go_upto_region 3 with (go_at_call 80; refine (HK2.out W2).mono ?_; rintro e' w2 ⟨rfl, hb2⟩)
  obtain ⟨W3, hW3⟩ : ∃ W, w2.alloc (.cells (vs .u8 8 (nmB e)) 128) = W := ⟨_, rfl⟩
  rw [hW3]
  have hz2 := hb2.size
  have hz0 := HD2.out.size
  have re : W3.heap[w2.heap.size]? = some (.cells (vs .u8 8 (nmB e)) 128) := by rw [← hW3]; exact heap_new rfl
  have hE3 : Below W2.heap.size W2 W3 := by rw [← hW3]; exact hb2.alloc hz2 _
  have rk3 := (hE3.block _ (Array.getElem?_eq_some_iff.1 HRK.out).1).trans HRK.out
  have hD3 : Below W0.heap.size W0 W3 := HD2.out.trans (hE3.mono hz0)
  obtain ⟨y2, ey2⟩ : ∃ y, w2.heap.size = y := ⟨_, rfl⟩
  rw [ey2] at re ⊢
  have l3 := HL.out W3 hD3
  have HRE := hid re
  have HRK3 := hid rk3
  have HD3 := hid hD3
  clear re rk3 hD3 hE3 hW3 hb2 hz2 hz0 ey2 HRK HD2
  go_upto_region 4 with fail
  obtain ⟨W4, hW4⟩ : ∃ W, W3.alloc (.cells (vs .u8 32 mx) 24) = W := ⟨_, rfl⟩
  rw [hW4]
  have rm : W4.heap[W3.heap.size]? = some (.cells (vs .u8 32 mx) 24) := by rw [← hW4]; exact heap_new rfl
  have hE4 : Below W3.heap.size W3 W4 := by rw [← hW4]; exact (Below.refl _ _).alloc (Nat.le_refl _) _
  have rk4 := (hE4.block _ (Array.getElem?_eq_some_iff.1 HRK3.out).1).trans HRK3.out
  have re4 := (hE4.block _ (Array.getElem?_eq_some_iff.1 HRE.out).1).trans HRE.out
  have hD4 : Below W0.heap.size W0 W4 := HD3.out.trans (hE4.mono HD3.out.size)
  have hz4 := hD4.size
  have rr4 := (hD4.block _ z0).trans HR1.out
  obtain ⟨y3, ey3⟩ : ∃ y, W3.heap.size = y := ⟨_, rfl⟩
  rw [ey3] at rm ⊢
  have hB4 : Below w.heap.size w W4 := HB0.out.trans (hD4.mono (by omega))
  have hap1 : ∀ W, Below W4.heap.size W4 W → ∀ ty, ∃ g C w', (ap22 ty (.slice (some ⟨y1, 0, none⟩) 4 8) (.slice (some ⟨y2, 0, none⟩) 8 8)).run Tryd.prog W = .ok (.slice (some ⟨g, 0, none⟩) 12 C) w' ∧ w'.ownsRow W4.heap.size 5 1 (.slice (some ⟨g, 0, none⟩) 12 C) 12 (bl (sdM Kk e mx) 12) ∧ Below W4.heap.size W w' := fun W hW ty => by
    obtain ⟨i, hi, hz0, hz1, hz2⟩ := info_parts info8
    have hz := hW.size
    obtain ⟨v', w', hr, ho, hg⟩ := run_append_arg_grows (P := Tryd.prog) W 39 ty 5 i (.int .u8 0) 1 1 Tryd.underlying39 hi hz0 hz1 hz2 rfl (by decide) ⟨y1, 0, none⟩ 4 8 (bl (nmB U) 4) (by rw [bl_len])
      (fun j u hj => by
        obtain ⟨h1, rfl⟩ := bl_get (nmB U) 4 j u hj
        rw [addr_add, Nat.zero_add]
        exact row_int ((hW.block _ (Array.getElem?_eq_some_iff.1 rk4).1).trans rk4) j (by omega)) ⟨y2, 0, none⟩ 8 8 (bl (nmB e) 8) (by rw [bl_len])
      (fun j u hj => by
        obtain ⟨h1, rfl⟩ := bl_get (nmB e) 8 j u hj
        rw [addr_add, Nat.zero_add]
        exact row_int ((hW.block _ (Array.getElem?_eq_some_iff.1 re4).1).trans re4) j h1) (by omega) (by unfold maxLen; omega) (by omega)
    have ee : bl (nmB U) 4 ++ bl (nmB e) 8 = bl (sdM Kk e mx) 12 := by
      rw [bl_congr (m := nmB U) (m' := sdM Kk e mx) (fun j hj => by unfold sdM; rw [if_pos hj, hlow j hj])]
      exact bl_add' _ _ 4 8 (fun j hj => by unfold sdM; rw [if_neg (by omega), if_pos (by omega), show 4 + j - 4 = j by omega])
    rw [ee] at ho
    obtain ⟨g, C, rfl⟩ := owns_pos ho (by omega)
    exact ⟨g, C, w', hr, ho.mono hz, ⟨hg.os, hg.tape, hg.output, hg.size, fun k hk => hg.block k (by omega) (fun e => by cases e)⟩⟩
  have hap3 : ∀ (W : World) g C, Below W4.heap.size W4 W → W.ownsRow W4.heap.size 5 1 (.slice (some ⟨g, 0, none⟩) 12 C) 12 (bl (sdM Kk e mx) 12) → ∀ ty, ∃ g' C' w', (ap22 ty (.slice (some ⟨g, 0, none⟩) 12 C) (.slice (some ⟨y3, 0, none⟩) 32 32)).run Tryd.prog W = .ok (.slice (some ⟨g', 0, none⟩) 44 C') w' ∧ w'.ownsRow W4.heap.size 5 1 (.slice (some ⟨g', 0, none⟩) 44 C') 44 (bl (sdM Kk e mx) 44) ∧ Below W4.heap.size W w' := fun W g C hW ho ty =>
    ap_row W W4.heap.size _ 12 32 32 y3 (sdM Kk e mx) mx ho (fun j hj => row_int ((hW.block _ (Array.getElem?_eq_some_iff.1 rm).1).trans rm) j hj) (fun j hj => by unfold sdM; rw [if_neg (by omega), if_neg (by omega), show 12 + j - 12 = j by omega]) hW.size (by omega) (by omega) (by omega) ty
  have hsum : ∀ (W : World) g C, Below W4.heap.size W4 W → W.ownsRow W4.heap.size 5 1 (.slice (some ⟨g, 0, none⟩) 44 C) 44 (bl (sdM Kk e mx) 44) → Calls Tryd.prog 85 #[.slice (some ⟨g, 0, none⟩) 44 C] W fun e w' => e = .returned (.agg (vs .u8 32 X)) ∧ Below W.heap.size W w' := fun W g C h ho => HSUM0.out W g C _ (hB4.trans (h.mono hB4.size)) ho
  have hdr : Below W4.heap.size W4 W4.drew := (Below.refl _ _).drew
  have HAP1 := hid hap1
  have HAP3 := hid hap3
  have HSUM := hid hsum
  have HDR := hid hdr
  have HB4 := hid hB4
  have HRR := hid rr4
  have HZR := hid (show w.heap.size + 1 < W4.heap.size by omega)
  clear hap1 hap3 hsum hdr hB4 rr4 rm rk4 re4 hE4 hD4 hW4 ey3 hz4 HSUM0 HB0 HR1 HRE HRK3 HD3 HL l3 v24 v8a v8b z8 zr HK1 HK2 ix
  refine wp_region_noPanic ?_
  refine wp_region_held_drew (S := fun _ => True) (by kernel_rfl) (trivial) (fun hHeld => ?_)
  refine tk 0 (v := ?v1) ?y1 hHeld ?r1
  case y1 => intro w hSw; go_simp; try with_reducible rfl
  refine tk 1 (v := ?v2) ?y2 hHeld ?r2
  case y2 => intro w hSw; go_simp; try with_reducible rfl
  try simp only [Act.put, List.setIfInBounds_toArray, List.set_cons_zero, List.set_cons_succ, Array.toArray_toList, List.getElem_toArray, List.getElem_cons_zero, List.getElem_cons_succ]
  refine wpAnyH_ready (rs := [2]) (by kernel_rfl) (by simp) ?_
  refine AllReadyH.cons rfl (fun K hK => ?_) AllReadyH.nil
  obtain ⟨g2, C2, w2, hap2, ho2, hb2⟩ := HAP1.out _ HDR.out 39
  refine wp_append_is _ _ rfl _ _ _ _ rfl rfl hap2 ?_
  replace hb2 : Below W4.heap.size W4 w2 := HDR.out.trans hb2
  refine hK.out _ _ (trivial) (fun hHeld => ?_)
  clear hK K
  try simp only [Act.put, List.setIfInBounds_toArray, List.set_cons_zero, List.set_cons_succ, Array.toArray_toList, List.getElem_toArray, List.getElem_cons_zero, List.getElem_cons_succ]
  refine tk 3 (v := ?v3) ?y3 hHeld ?r3
  case y3 => intro w hSw; go_simp; try with_reducible rfl
  try simp only [Act.put, List.setIfInBounds_toArray, List.set_cons_zero, List.set_cons_succ, Array.toArray_toList, List.getElem_toArray, List.getElem_cons_zero, List.getElem_cons_succ]
  refine wpAnyH_done (by kernel_rfl) ?_ _
  refine NoPanic.normal ?_
  have HO2 := hid ho2
  have HB2 := hid hb2
  clear ho2 hb2 hHeld hlow kw
  go_wp2_with (first
    | (at_builtin; obtain ⟨g3, C3, w3, hap3, ho3, hb3⟩ := HAP3.out w2 g2 C2 HB2.out HO2.out 39; refine wpB_append_is rfl _ _ rfl _ _ _ _ rfl rfl hap3 ?_; replace hb3 : Below W4.heap.size W4 w3 := HB2.out.trans hb3)
    | (go_at_call 85; refine (HSUM.out w3 g3 C3 hb3 ho3).mono ?_; rintro e' w5 ⟨rfl, hb5⟩; replace hb5 : Below W4.heap.size W4 w5 := hb3.trans (hb5.mono hb3.size); have r5 := (hb5.block _ HZR.out).trans HRR.out; have v5 := sv24_run r5 X))
  have hzz := HB4.out.size
  refine ret24 6 (w.heap.size + 1) X 24 rfl rfl rfl (setRow_at r5) ⟨rfl, ?_⟩
  exact below_row (HB4.out.trans (hb5.mono hzz)) (by omega) _

theorem rootat_prog : PRootAt := fun x s w hx _ h0 _ => rootat_any x s w hx h0

end Go.Proofs.YtficlakgameglaaDoor

namespace Go.Proofs.YtficlakgameglaaDoor

open Go.RowKit

set_option linter.unusedVariables false

set_option linter.unusedSimpArgs false

set_option maxRecDepth 20000

/-- Bytes behind a row that is full. -/
theorem ap_seed8 (W : World) (b y cp : Nat) (s c : Nat → Int) (m : Nat → Int) (k : Nat) (hb : ∀ j, j < 32 → W.cell? ⟨b, j, none⟩ = some (.int .u8 (s j))) (hl : b < W.heap.size) (hy : ∀ j, j < k → W.cell? ⟨y, j, none⟩ = some (.int .u8 (c j))) (h0 : 0 < k) (hk : k ≤ 64) (hm1 : ∀ j, j < 32 → m j = s j) (hm2 : ∀ j, j < k → m (32 + j) = c j) (ty : TypeId) :
    ∃ g C w', (ap22 ty (.slice (some ⟨b, 0, none⟩) 32 32) (.slice (some ⟨y, 0, none⟩) k cp)).run Tryd.prog W = .ok (.slice (some ⟨g, 0, none⟩) (32 + k) C) w' ∧ w'.ownsRow W.heap.size 5 1 (.slice (some ⟨g, 0, none⟩) (32 + k) C) (32 + k) (bl m (32 + k)) ∧ Below W.heap.size W w' := by
  obtain ⟨i, hi, hz0, hz1, hz2⟩ := info_parts info8
  obtain ⟨v', w', hr, ho, hg⟩ := run_append_arg_grows (P := Tryd.prog) W 39 ty 5 i (.int .u8 0) 1 1 Tryd.underlying39 hi hz0 hz1 hz2 rfl (by decide) ⟨b, 0, none⟩ 32 32 (bl s 32) (by rw [bl_len])
    (fun j u hj => by
      obtain ⟨h1, rfl⟩ := bl_get s 32 j u hj
      rw [addr_add, Nat.zero_add]
      exact hb j h1) ⟨y, 0, none⟩ k cp (bl c k) (by rw [bl_len, Nat.mul_one]) (fun j u hj => by
      obtain ⟨h1, rfl⟩ := bl_get c k j u hj
      rw [addr_add, Nat.zero_add]
      exact hy j h1) (by omega) (by unfold maxLen; omega) (by omega)
  have e : bl s 32 ++ bl c k = bl m (32 + k) := by
    rw [bl_congr (m := s) (m' := m) (fun j hj => (hm1 j hj).symm)]
    exact bl_add' m c 32 k hm2
  rw [e] at ho
  obtain ⟨g, C, rfl⟩ := owns_pos ho (by omega)
  exact ⟨g, C, w', hr, ho, ⟨hg.os, hg.tape, hg.output, hg.size, fun k hk => hg.block k hk (fun e => by cases e)⟩⟩

attribute [local go_sem ↓] sv24_eq lv24_eq sv8_eq

set_option maxHeartbeats 1000000 in
theorem sumof_any (s : Nat → Int) (q : Int) (w : World) (hs : ∀ j, j < 32 → 0 ≤ s j ∧ s j < 256) (q0 : 0 ≤ q) (q1 : q < 18446744073709551616) (hS : Sh w) :
    Calls Tryd.prog 66 #[.agg (vs .u8 32 s), .int .u64 q] w fun e' w' => e' = .returned (.agg (vs .u8 32 (shaV KW HW (sd8 s q) 40))) ∧ Below w.heap.size w w' := by
  obtain ⟨W0, hW0⟩ : ∃ W, (w.alloc (.cells (vs .u8 32 s) 24)).alloc (.cells (vs .u8 32 fun _ => 0) 24) = W := ⟨_, rfl⟩
  have r0 : W0.heap[w.heap.size]? = some (.cells (vs .u8 32 s) 24) := by rw [← hW0]; exact (heap_old (by simp)).trans (heap_new rfl)
  have r1 : W0.heap[w.heap.size + 1]? = some (.cells (vs .u8 32 fun _ => 0) 24) := by rw [← hW0]; exact heap_new (by simp)
  have hB0 : Below w.heap.size w W0 := by rw [← hW0]; exact ((Below.refl _ _).alloc (Nat.le_refl _) _).alloc (by simp) _
  have z0 : w.heap.size + 1 < W0.heap.size := some_ltK r1
  have hk1 := fun W : World => wbytes_any q W q0 (by omega)
  obtain ⟨X, hX⟩ : ∃ X, shaV KW HW (sd8 s q) 40 = X := ⟨_, rfl⟩
  have hsum : ∀ (W : World) g C B, Below w.heap.size w W → W.ownsRow B 5 1 (.slice (some ⟨g, 0, none⟩) 40 C) 40 (bl (sd8 s q) 40) → Calls Tryd.prog 85 #[.slice (some ⟨g, 0, none⟩) 40 C] W fun e w' => e = .returned (.agg (vs .u8 32 X)) ∧ Below W.heap.size W w' := fun W g C B h1 ho => by
    rw [← hX]
    obtain ⟨q1, q2, q3, q4, q5⟩ := own_cells ho
    exact sum_any KW HW (sd8 s q) 40 C g 0 W (hS.below h1).1 (hS.below h1).2 HW_bd (fun j hj => by rw [Nat.zero_add]; exact q5 j hj) (fun j hj => sd8_bd hs _ _) q2 (by omega) q3 q4
  rw [hX]
  have v8 := fun W => sv8_newv W (fun _ => 0) (nmB q)
  have z8 := zero_8
  have zr := zero_root
  have hsd1 : ∀ j, j < 32 → sd8 s q j = s j := fun j hj => by unfold sd8; rw [if_pos hj]
  have hsd2 : ∀ j, j < 8 → sd8 s q (32 + j) = nmB q j := fun j hj => by unfold sd8; rw [if_neg (by omega), show 32 + j - 32 = j by omega]
  have HK1 := hid hk1
  have HSU := hid hsum
  have HB0 := hid hB0
  have HW0 := hid hW0
  have HR := hid (And.intro r0 r1)
  have HSD := hid (And.intro hsd1 hsd2)
  clear hk1 hsum hB0 hW0 r0 r1 hS hs hX q0 q1 hsd1 hsd2
  go_enter Tryd.func66, Tryd.ntmps66
  go_upto_region 1 with fail
  rw [HW0.out]
  clear HW0
  go_upto_region 2 with (go_at_call 80; refine (HK1.out W0).mono ?_; rintro e' w1 ⟨rfl, hb1⟩)
  obtain ⟨W2, hW2⟩ : ∃ W, w1.alloc (.cells (vs .u8 8 (nmB q)) 128) = W := ⟨_, rfl⟩
  rw [hW2]
  have hz1 := hb1.size
  have rk : W2.heap[w1.heap.size]? = some (.cells (vs .u8 8 (nmB q)) 128) := by rw [← hW2]; exact heap_new rfl
  have hD2 : Below W0.heap.size W0 W2 := by rw [← hW2]; exact hb1.alloc hz1 _
  obtain ⟨y1, ey1⟩ : ∃ y, w1.heap.size = y := ⟨_, rfl⟩
  rw [ey1] at rk ⊢
  have hap : ∀ (W : World), Below W2.heap.size W2 W → ∀ ty : TypeId, ∃ g C w', (ap22 ty (.slice (some ⟨w.heap.size, 0, none⟩) 32 32) (.slice (some ⟨y1, 0, none⟩) 8 8)).run Tryd.prog W = .ok (.slice (some ⟨g, 0, none⟩) 40 C) w' ∧ w'.ownsRow W2.heap.size 5 1 (.slice (some ⟨g, 0, none⟩) 40 C) 40 (bl (sd8 s q) 40) ∧ Below W2.heap.size W2 w' := fun W hW ty => by
    have y2 := some_ltK rk
    have l0 := hD2.size
    obtain ⟨g, C, w', h1, h2, h3⟩ := ap_seed8 W w.heap.size y1 8 s (nmB q) (sd8 s q) 8 (fun j hj => row_int ((hW.block _ (by omega)).trans ((hD2.block _ (by omega)).trans HR.out.1)) j hj) (by have := hW.size; omega) (fun j hj => row_int ((hW.block _ y2).trans rk) j hj) (by omega) (by omega) HSD.out.1 HSD.out.2 ty
    exact ⟨g, C, w', h1, h2.mono hW.size, hW.trans (h3.mono hW.size)⟩
  have hdr : Below W2.heap.size W2 W2.drew := (Below.refl _ _).drew
  have hsum : ∀ (W : World) g C B, Below W2.heap.size W2 W → W.ownsRow B 5 1 (.slice (some ⟨g, 0, none⟩) 40 C) 40 (bl (sd8 s q) 40) → Calls Tryd.prog 85 #[.slice (some ⟨g, 0, none⟩) 40 C] W fun e w' => e = .returned (.agg (vs .u8 32 X)) ∧ Below W.heap.size W w' := fun W g C B h1 ho => HSU.out W g C B (HB0.out.trans ((hD2.trans (h1.mono hD2.size)).mono HB0.out.size)) ho
  have HAP := hid hap
  have HDR := hid hdr
  have HSUM := hid hsum
  have HR1 := hid ((hD2.block _ z0).trans HR.out.2)
  have HBE := hid (HB0.out.trans (hD2.mono HB0.out.size))
  clear hap hdr hsum hD2 hW2 rk hb1 hz1 ey1 HR HSD HSU HK1
  refine wp_region_noPanic ?_
  refine wp_region_held_drew (S := fun _ => True) (by kernel_rfl) (trivial) (fun hHeld => ?_)
  refine tk 0 (v := ?v1) ?y1 hHeld ?r1
  case y1 => intro w hSw; go_simp; try with_reducible rfl
  refine tk 1 (v := ?v2) ?y2 hHeld ?r2
  case y2 => intro w hSw; go_simp; try with_reducible rfl
  try simp only [Act.put, List.setIfInBounds_toArray, List.set_cons_zero, List.set_cons_succ, Array.toArray_toList, List.getElem_toArray, List.getElem_cons_zero, List.getElem_cons_succ]
  refine wpAnyH_ready (rs := [2]) (by kernel_rfl) (by simp) ?_
  refine AllReadyH.cons rfl (fun K hK => ?_) AllReadyH.nil
  obtain ⟨g1, C1, x1, hap1, ho1, hc1⟩ := HAP.out _ HDR.out 39
  refine wp_append_is _ _ rfl _ _ _ _ rfl rfl hap1 ?_
  refine hK.out _ _ (trivial) (fun hHeld => ?_)
  clear hK K
  try simp only [Act.put, List.setIfInBounds_toArray, List.set_cons_zero, List.set_cons_succ, Array.toArray_toList, List.getElem_toArray, List.getElem_cons_zero, List.getElem_cons_succ]
  refine wpAnyH_ready (rs := [3]) (by kernel_rfl) (by simp) ?_
  refine AllReadyH.cons rfl (fun K hK => ?_) AllReadyH.nil
  go_simp
  refine (HSUM.out x1 g1 C1 _ hc1 ho1).mono ?_
  rintro e' x2 ⟨rfl, hc2⟩
  dsimp only
  replace hc2 : Below W2.heap.size W2 x2 := hc1.trans (hc2.mono hc1.size)
  refine hK.out _ _ (trivial) (fun hHeld => ?_)
  clear hK K
  try simp only [Act.put, List.setIfInBounds_toArray, List.set_cons_zero, List.set_cons_succ, Array.toArray_toList, List.getElem_toArray, List.getElem_cons_zero, List.getElem_cons_succ]
  refine wpAnyH_ready (rs := [4]) (by kernel_rfl) (by simp) ?_
  refine AllReadyH.cons rfl (fun K hK => ?_) AllReadyH.nil
  have r4 := (hc2.block _ (some_ltK HR1.out)).trans HR1.out
  have v3 := sv24_run r4 X
  go_simp
  refine hK.out _ _ (trivial) (fun hHeld => ?_)
  clear hK K
  try simp only [Act.put, List.setIfInBounds_toArray, List.set_cons_zero, List.set_cons_succ, Array.toArray_toList, List.getElem_toArray, List.getElem_cons_zero, List.getElem_cons_succ]
  refine wpAnyH_done (by kernel_rfl) ?_ _
  refine NoPanic.normal ?_
  go_wp2
  have hzz := HBE.out.size
  refine ret24 4 (w.heap.size + 1) X 24 rfl rfl rfl (setRow_at r4) ⟨rfl, ?_⟩
  exact below_row (HBE.out.trans (hc2.mono hzz)) (by omega) _

end Go.Proofs.YtficlakgameglaaDoor
