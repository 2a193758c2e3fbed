/-
  The bytes of a state's lists.
-/

import Derived.Test.YtehpfemlcjcabaaStA
namespace Go.Proofs.Ytehpfemlcjcabaa

open Go.RowKit

set_option linter.unusedVariables false

set_option linter.unusedSimpArgs false

set_option maxRecDepth 20000

attribute [local go_sem ↓] sv24_eq lv24_eq ix22_eq sv8_eq

set_option maxHeartbeats 1000000 in
theorem nbytesS (n : Int) (w : World) (h0 : 0 ≤ n) (h1 : n < 18446744073709551616) :
    Calls Try.prog 23 #[.int .u64 n] w fun e w' => ∃ g, e = .returned (.slice (some ⟨g, 0, none⟩) 8 8) ∧ Below w.heap.size w w' ∧ w.heap.size ≤ g ∧ w'.heap[g]? = some (.cells (vs .u8 8 (nmB n)) 110) := by
  have hb := Z.bytes_any n w h0 h1
  rw [bt_nmB] at hb
  have HB := hid hb
  have sv := fun W => sv8_newv W (fun _ => 0) (nmB n)
  have z := zero_8
  clear hb
  go_enter Try.func23, Try.ntmps23
  go_wp2_with (go_at_call 60; refine HB.out.mono ?_; rintro e w1 ⟨rfl, hb1⟩)
  go_ret
  exact ⟨w1.heap.size, rfl, hb1.alloc hb1.size _, hb1.size, heap_new rfl⟩

/-- Bytes of elements of one size, one behind the other. -/
def eB (K : Nat) (g : Nat → Nat → Int) (q : Nat) : Int := g (q / K) (q % K)

theorem bl_two (f : Nat → Int) (n k : Nat) : bl f n ++ bl (fun q => f (n + q)) k = bl f (n + k) := by
  unfold bl
  rw [List.range_add, List.map_append, List.map_map]
  rfl

theorem bl_each (K : Nat) (hK : 0 < K) (g : Nat → Nat → Int) (k : Nat) : bl (eB K g) (K * k) ++ bl (g k) K = bl (eB K g) (K * (k + 1)) := by
  have h : bl (g k) K = bl (fun q => eB K g (K * k + q)) K := bl_congr fun i hi => by
    show g k i = g ((K * k + i) / K) ((K * k + i) % K)
    rw [Nat.mul_add_div hK, Nat.div_eq_of_lt hi, Nat.add_zero, Nat.mul_add_mod, Nat.mod_eq_of_lt hi]
  rw [h, bl_two, Nat.mul_add, Nat.mul_one]

theorem below_of_grown {w w2 : World} (hg2 : w.grownBy w2 none) : Below w.heap.size w w2 := ⟨hg2.os, hg2.tape, hg2.output, hg2.size, fun k hk => hg2.block k hk (by intro h; cases h)⟩

set_option maxHeartbeats 1000000 in
theorem numsS (zs : Nat → Int) (a : Option Addr) (n c : Nat) (w : World) (hn : Z.Nms .u64 w a n zs) (hz : ∀ j, j < n → 0 ≤ zs j ∧ zs j < 18446744073709551616) (hnb : n ≤ 65536) :
    Calls Try.prog 31 #[.slice a n c] w fun e w' => ∃ v, e = .returned v ∧ w'.ownsRow w.heap.size 5 1 v (8 * n) (bl (eB 8 fun i => nmB (zs i)) (8 * n)) ∧ Below w.heap.size w w' := by
  have HN : Hid (∀ X, Below w.heap.size w X → Z.Nms .u64 X a n zs) := fun X h => hn.below h
  have HZ := hid hz
  obtain ⟨F, eF⟩ : ∃ F, (eB 8 fun i => nmB (zs i)) = F := ⟨_, rfl⟩
  have EJ0 : Hid (∀ k, bl F (8 * k) ++ bl (nmB (zs k)) 8 = bl F (8 * (k + 1))) := fun k => by rw [← eF]; exact bl_each 8 (by omega) (fun i => nmB (zs i)) k
  rw [eF]
  obtain ⟨T, eT⟩ : ∃ T, 8 * n = T := ⟨_, rfl⟩
  have e8 : (n : Int) * 8 = (T : Int) := by omega
  have n1 : (n : Int) ≤ 65536 := by omega
  have n0 : (0 : Int) ≤ (n : Int) := by omega
  have t1 : (T : Int) ≤ 524288 := by omega
  have t0 : (0 : Int) ≤ (T : Int) := by omega
  have ET := hid eT
  obtain ⟨i8, hi8, hz0, hz1, hz2⟩ := info_parts info8
  have z := zero_8
  clear hn hz eT eF
  go_enter Try.func31, Try.ntmps31
  go_upto_region 3 with (at_make; refine wpList_make_own _ rfl _ _ 39 rfl w.heap.size 5 i8 (.int .u8 0) 1 Try.underlying39 hi8 hz0 hz1 _ _ _ T rfl rfl rfl (by rw [hz2]; omega) (by unfold maxLen; omega) (Nat.le_refl _) ?_; intro w2 ho2 hg2; have HO2 := hid ho2; have HB2 : Hid (Below w.heap.size w w2) := below_of_grown hg2; clear ho2 hg2)
  have hB0 : w.heap.size ≤ w2.heap.size := HB2.out.size
  clear e8 t1 t0
  go_loopw [3, 13] (fun v i wr => ∃ k : Nat, k ≤ n ∧ i = .int .i64 k ∧ wr.ownsRow w.heap.size 5 1 v (8 * k) (bl F (8 * k)) ∧ Below w.heap.size w wr) (fun _ i _ => n - (intOf i).toNat)
  case atStart => exact ⟨0, by omega, rfl, HO2.out, HB2.out⟩
  case round =>
    obtain ⟨k, hk, rfl, hown, hb⟩ := hrel
    by_cases hlt : k < n
    · have bq : decide (k < n) = true := by simp; omega
      have k1 : (k : Int) < (n : Int) := by omega
      have k2 : (0 : Int) ≤ (k : Int) := by omega
      rcases HN.out wr hb with h | ⟨b, off, rfl, hb1, hc⟩
      · omega
      have ck := hc k hlt
      have hzk := HZ.out k hlt
      have hby := fun W => Z.bytes_any (zs k) W hzk.1 hzk.2
      rw [bt_nmB] at hby
      have EJ := hid (EJ0.out k)
      obtain ⟨x, ex⟩ : ∃ x, zs k = x := ⟨_, rfl⟩
      rw [ex] at ck hby EJ
      obtain ⟨cc, ecc⟩ : ∃ cc, nmB x = cc := ⟨_, rfl⟩
      rw [ecc] at hby EJ
      have HBY := hid hby
      have sv := fun W => sv8_newv W (fun _ => 0) cc
      have hzz := hb.size
      have HO := hid hown
      have HB := hid hb
      clear hown hb hc hby ex ecc hzk hb1
      go_wp2_with (first
        | (go_at_call 60; refine (HBY.out wr).mono ?_; rintro e w3 ⟨rfl, hb3⟩; have HB3 := hid hb3; have hz3 := hb3.size; clear hb3)
        | (at_builtin; refine wpList_append_bys _ rfl _ _ rfl w.heap.size _ (8 * k) (bl F (8 * k)) rfl ((ownsRow_below HO.out HB3.out).alloc _) _ 8 8 cc rfl (bys_new (heap_new rfl) (by omega)) (by omega) (by simp; omega) ?_; intro v4 w4 ho4 hg4))
      go_roundw
      case rel =>
        refine ⟨k + 1, by omega, by go_num, ?_, below_grown ((HB.out.trans (HB3.out.mono hzz)).alloc (by omega) _) ((ownsRow_below HO.out HB3.out).alloc _) (by simp; omega) hg4⟩
        rw [EJ.out] at ho4
        exact ho4
      case measure => simp [intOf]; omega
    · obtain rfl : n = k := by omega
      have bq : decide (n < n) = false := by simp
      have HO := hid hown
      have HB := hid hb
      clear hown hb
      go_wp2
      go_ret
      rw [← ET.out]
      exact ⟨_, rfl, HO.out, HB.out⟩

set_option maxHeartbeats 1000000 in
theorem rtsS (f : Nat → Int) (a : Option Addr) (n c : Nat) (w : World) (hn : Rts w a n c f) (hnb : n ≤ 65536) :
    Calls Try.prog 26 #[.slice a n c] w fun e w' => ∃ v, e = .returned v ∧ w'.ownsRow w.heap.size 5 1 v (32 * n) (bl f (32 * n)) ∧ Below w.heap.size w w' := by
  have HN : Hid (∀ X, Below w.heap.size w X → Rts X a n c f) := fun X h => hn.below h
  obtain ⟨T, eT⟩ : ∃ T, 32 * n = T := ⟨_, rfl⟩
  have e8 : (n : Int) * 32 = (T : Int) := by omega
  have n1 : (n : Int) ≤ 65536 := by omega
  have n0 : (0 : Int) ≤ (n : Int) := by omega
  have t1 : (T : Int) ≤ 2097152 := by omega
  have t0 : (0 : Int) ≤ (T : Int) := by omega
  have ET := hid eT
  obtain ⟨i8, hi8, hz0, hz1, hz2⟩ := info_parts info8
  have z := zero_root
  clear hn eT
  go_enter Try.func26, Try.ntmps26
  go_upto_region 3 with (at_make; refine wpList_make_own _ rfl _ _ 39 rfl w.heap.size 5 i8 (.int .u8 0) 1 Try.underlying39 hi8 hz0 hz1 _ _ _ T rfl rfl rfl (by rw [hz2]; omega) (by unfold maxLen; omega) (Nat.le_refl _) ?_; intro w2 ho2 hg2; have HO2 := hid ho2; have HB2 : Hid (Below w.heap.size w w2) := below_of_grown hg2; clear ho2 hg2)
  have hB0 : w.heap.size ≤ w2.heap.size := HB2.out.size
  clear e8 t1 t0
  go_loopw [3, 12] (fun v i wr => ∃ k : Nat, k ≤ n ∧ i = .int .i64 k ∧ wr.ownsRow w.heap.size 5 1 v (32 * k) (bl f (32 * k)) ∧ Below w.heap.size w wr) (fun _ i _ => n - (intOf i).toNat)
  case atStart => exact ⟨0, by omega, rfl, HO2.out, HB2.out⟩
  case round =>
    obtain ⟨k, hk, rfl, hown, hb⟩ := hrel
    by_cases hlt : k < n
    · have bq : decide (k < n) = true := by simp; omega
      have k1 : (k : Int) < (n : Int) := by omega
      have k2 : (0 : Int) ≤ (k : Int) := by omega
      rcases HN.out wr hb with ⟨_, h, _⟩ | ⟨_, _, h⟩ | ⟨b, off, rfl, _, hb1, hc⟩
      · omega
      · omega
      have lv : (lv24 ⟨b, off + 32 * k, none⟩).run Try.prog wr = .ok (.agg (vs .u8 32 fun j => f (32 * k + j))) wr := lv24_mid fun j hj => by
        rw [Nat.add_assoc]
        exact hc (32 * k + j) (by omega)
      have ix := fun W => ix22_run W b off n c k hlt
      obtain ⟨P, eP⟩ : ∃ P, off + 32 * k = P := ⟨_, rfl⟩
      rw [eP] at lv
      simp only [eP] at ix
      have EJ := hid (show bl f (32 * k) ++ bl (fun j => f (32 * k + j)) 32 = bl f (32 * (k + 1)) from by rw [bl_two, Nat.mul_add, Nat.mul_one])
      obtain ⟨cc, ecc⟩ : ∃ cc, (fun j => f (32 * k + j)) = cc := ⟨_, rfl⟩
      rw [ecc] at lv EJ
      have sv := fun W => sv24_newv W (fun _ => 0) cc
      have hzz := hb.size
      have HO := hid hown
      have HB := hid hb
      clear hown hb hc ecc hb1 eP
      go_wp2_with (at_builtin; refine wpList_append_bys _ rfl _ _ rfl w.heap.size _ (32 * k) (bl f (32 * k)) rfl (HO.out.alloc _) _ 32 32 cc rfl (bys_new (heap_new rfl) (by omega)) (by omega) (by simp; omega) ?_; intro v4 w4 ho4 hg4)
      go_roundw
      case rel =>
        refine ⟨k + 1, by omega, by go_num, ?_, below_grown (HB.out.alloc (by omega) _) (HO.out.alloc _) (by simp; omega) hg4⟩
        rw [EJ.out] at ho4
        exact ho4
      case measure => simp [intOf]; omega
    · obtain rfl : n = k := by omega
      have bq : decide (n < n) = false := by simp
      have HO := hid hown
      have HB := hid hb
      clear hown hb
      go_wp2
      go_ret
      rw [← ET.out]
      exact ⟨_, rfl, HO.out, HB.out⟩

/-- The place of an element of the type Eth1 in a slice; such an element. -/
def ixEth1 (x i : Value) : Sem Value := Instr.indexAt 35 x i

theorem ixEth1_eq (x i : Value) : Instr.indexAt 35 x i = ixEth1 x i := rfl

theorem sizeEth1 (w : World) : (sizeOf 34).run Try.prog w = .ok 65 w := by
  have hi : (Try.prog.info? 34).map (·.size) = some 65 := by kernel_rfl
  cases hq : Try.prog.info? 34 with
  | none => simp [hq] at hi
  | some i => simp [hq] at hi; simp [sizeOf, typeInfo, hq, hi]

theorem ixEth1_run (w : World) (b off len cap i : Nat) (h : i < len) : (ixEth1 (.slice (some ⟨b, off, none⟩) len cap) (.int .i64 i)).run Try.prog w = .ok (.pointer (some ⟨b, off + 65 * i, none⟩)) w := by
  unfold ixEth1 Instr.indexAt
  have h1 : (0 : Int) ≤ (i : Int) ∧ (i : Int) < (len : Int) := by omega
  simp only [asIntOf, Sem.run_bind, Sem.run_pure, Result.andThen_ok, run_underlying Try.underlying35, if_pos h1, sizeEth1, Addr.add_mid, Int.toNat_natCast]
  rw [Nat.mul_comm]

theorem lvEth1_at {w : World} {g o : Nat} {x : VEth1} (h : w.rangeAt g o (celL (sEth1 x))) : (lvEth1 ⟨g, o, none⟩).run Try.prog w = .ok (.agg (cel (sEth1 x))) w :=
  loadAt_var (run_loadAt_mid w g o 34 _ _ h Try.underlying34 rfl (by rw [celL_len, show slen (sEth1 x) = 65 from rfl]; kernel_rfl))

attribute [local go_sem ↓] lvEth1_eq svEth1_eq ixEth1_eq

set_option maxHeartbeats 1000000 in
theorem lstEth1 (zs : Nat → VEth1) (a : Option Addr) (n c : Nat) (w : World) (hn : Els w a n 65 (fun i => celL (sEth1 (zs i)))) (hz : ∀ j, j < n → OkEth1 (zs j)) (hnb : n ≤ 65536) :
    Calls Try.prog 28 #[.slice a n c, (.func (.func 27) #[] #[])] w fun e w' => ∃ v, e = .returned v ∧ w'.ownsRow w.heap.size 5 1 v (72 * n) (bl (eB 72 fun i => ct7 (eEth1 (zs i))) (72 * n)) ∧ Below w.heap.size w w' := by
  have HN : Hid (∀ X, Below w.heap.size w X → Els X a n 65 (fun i => celL (sEth1 (zs i)))) := fun X h => hn.below h
  have HZ := hid hz
  obtain ⟨F, eF⟩ : ∃ F, (eB 72 fun i => ct7 (eEth1 (zs i))) = F := ⟨_, rfl⟩
  have EJ0 : Hid (∀ k, bl F (72 * k) ++ bl (ct7 (eEth1 (zs k))) 72 = bl F (72 * (k + 1))) := fun k => by rw [← eF]; exact bl_each 72 (by omega) (fun i => ct7 (eEth1 (zs i))) k
  rw [eF]
  have n1 : (n : Int) ≤ 65536 := by omega
  have n0 : (0 : Int) ≤ (n : Int) := by omega
  have z := zeroEth1
  clear hn hz eF
  go_enter Try.func28, Try.ntmps28
  go_upto_region 3 with fail
  go_loopw [5, 10] (fun v i wr => ∃ k : Nat, k ≤ n ∧ i = .int .i64 k ∧ wr.ownsRow w.heap.size 5 1 v (72 * k) (bl F (72 * k)) ∧ Below w.heap.size w wr) (fun _ i _ => n - (intOf i).toNat)
  case atStart => exact ⟨0, by omega, rfl, ⟨rfl, .inl ⟨rfl, rfl⟩⟩, Below.refl _ _⟩
  case round =>
    obtain ⟨k, hk, rfl, hown, hb⟩ := hrel
    by_cases hlt : k < n
    · have bq : decide (k < n) = true := by simp; omega
      have k1 : (k : Int) < (n : Int) := by omega
      have k2 : (0 : Int) ≤ (k : Int) := by omega
      rcases HN.out wr hb with h | ⟨b, off, rfl, hb1, hc⟩
      · omega
      have lv := lvEth1_at (hc k hlt)
      have ix := fun W => ixEth1_run W b off n c k hlt
      obtain ⟨P, eP⟩ : ∃ P, off + 65 * k = P := ⟨_, rfl⟩
      rw [eP] at lv
      simp only [eP] at ix
      have hzk := HZ.out k hlt
      have hen := fun W => encEth1_any (zs k) W hzk
      have EJ := hid (EJ0.out k)
      obtain ⟨x, ex⟩ : ∃ x, zs k = x := ⟨_, rfl⟩
      rw [ex] at lv EJ
      simp only [ex] at hen
      obtain ⟨cc, ecc⟩ : ∃ cc, ct7 (eEth1 x) = cc := ⟨_, rfl⟩
      rw [ecc] at EJ
      simp only [ecc] at hen
      have HEN := hid hen
      have sv := svEth1_newv wr oEth1 x
      obtain ⟨W1, hW1⟩ : ∃ W, wr.alloc (.cells (cel (sEth1 x)) 34) = W := ⟨_, rfl⟩
      rw [hW1] at sv
      have r1 : W1.heap[wr.heap.size]? = some (.cells (cel (sEth1 x)) 34) := by rw [← hW1]; exact heap_new rfl
      have lw := lvEth1_mid r1 0 (take_all _) rfl
      have hB1 : Below wr.heap.size wr W1 := by rw [← hW1]; exact (Below.refl _ _).alloc (Nat.le_refl _) _
      have hzz := hb.size
      have hz1 := hB1.size
      have HO := hid (ownsRow_below hown hB1)
      have HB := hid (hb.trans (hB1.mono hzz))
      obtain ⟨y, ey⟩ : ∃ y, wr.heap.size = y := ⟨_, rfl⟩
      rw [ey] at sv lw hzz hz1
      clear hown hb hc ex ecc hzk hb1 eP hen r1 hB1
      go_upto_region 5 with fail
      clear hW1 ey
      go_wp2_with (first
        | (go_at_call 27; refine (HEN.out W1).mono ?_; rintro e w3 ⟨v3, rfl, ho3, hb3⟩; obtain ⟨a3, c3, rfl, hy3⟩ := own_at ho3; have HY3 := hid hy3; have HB3 := hid hb3; have hz3 := hb3.size; clear hb3 ho3 hy3)
        | (at_builtin; refine wpList_append_bys _ rfl _ _ rfl w.heap.size _ (72 * k) (bl F (72 * k)) rfl (ownsRow_below HO.out HB3.out) _ 72 c3 cc rfl HY3.out (by omega) (by omega) ?_; intro v4 w4 ho4 hg4))
      go_roundw
      case rel =>
        refine ⟨k + 1, by omega, by go_num, ?_, below_grown (HB.out.trans (HB3.out.mono (by omega))) (ownsRow_below HO.out HB3.out) (by omega) hg4⟩
        rw [EJ.out] at ho4
        exact ho4
      case measure => simp [intOf]; omega
    · obtain rfl : n = k := by omega
      have bq : decide (n < n) = false := by simp
      have HO := hid hown
      have HB := hid hb
      clear hown hb
      go_wp2
      go_ret
      exact ⟨_, rfl, HO.out, HB.out⟩

/-- The place of an element of the type Validator in a slice; such an element. -/
def ixValidator (x i : Value) : Sem Value := Instr.indexAt 36 x i

theorem ixValidator_eq (x i : Value) : Instr.indexAt 36 x i = ixValidator x i := rfl

theorem sizeValidator (w : World) : (sizeOf 64).run Try.prog w = .ok 86 w := by
  have hi : (Try.prog.info? 64).map (·.size) = some 86 := by kernel_rfl
  cases hq : Try.prog.info? 64 with
  | none => simp [hq] at hi
  | some i => simp [hq] at hi; simp [sizeOf, typeInfo, hq, hi]

theorem ixValidator_run (w : World) (b off len cap i : Nat) (h : i < len) : (ixValidator (.slice (some ⟨b, off, none⟩) len cap) (.int .i64 i)).run Try.prog w = .ok (.pointer (some ⟨b, off + 86 * i, none⟩)) w := by
  unfold ixValidator Instr.indexAt
  have h1 : (0 : Int) ≤ (i : Int) ∧ (i : Int) < (len : Int) := by omega
  simp only [asIntOf, Sem.run_bind, Sem.run_pure, Result.andThen_ok, run_underlying Try.underlying36, if_pos h1, sizeValidator, Addr.add_mid, Int.toNat_natCast]
  rw [Nat.mul_comm]

theorem lvValidator_at {w : World} {g o : Nat} {x : VValidator} (h : w.rangeAt g o (celL (sValidator x))) : (lvValidator ⟨g, o, none⟩).run Try.prog w = .ok (.agg (cel (sValidator x))) w :=
  loadAt_var (run_loadAt_mid w g o 64 _ _ h Try.underlying64 rfl (by rw [celL_len, show slen (sValidator x) = 86 from rfl]; kernel_rfl))

attribute [local go_sem ↓] lvValidator_eq svValidator_eq ixValidator_eq

set_option maxHeartbeats 1000000 in
theorem lstValidator (zs : Nat → VValidator) (a : Option Addr) (n c : Nat) (w : World) (hn : Els w a n 86 (fun i => celL (sValidator (zs i)))) (hz : ∀ j, j < n → OkValidator (zs j)) (hnb : n ≤ 65536) :
    Calls Try.prog 29 #[.slice a n c, (.func (.func 30) #[] #[])] w fun e w' => ∃ v, e = .returned v ∧ w'.ownsRow w.heap.size 5 1 v (121 * n) (bl (eB 121 fun i => ct7 (eValidator (zs i))) (121 * n)) ∧ Below w.heap.size w w' := by
  have HN : Hid (∀ X, Below w.heap.size w X → Els X a n 86 (fun i => celL (sValidator (zs i)))) := fun X h => hn.below h
  have HZ := hid hz
  obtain ⟨F, eF⟩ : ∃ F, (eB 121 fun i => ct7 (eValidator (zs i))) = F := ⟨_, rfl⟩
  have EJ0 : Hid (∀ k, bl F (121 * k) ++ bl (ct7 (eValidator (zs k))) 121 = bl F (121 * (k + 1))) := fun k => by rw [← eF]; exact bl_each 121 (by omega) (fun i => ct7 (eValidator (zs i))) k
  rw [eF]
  have n1 : (n : Int) ≤ 65536 := by omega
  have n0 : (0 : Int) ≤ (n : Int) := by omega
  have z := zeroValidator
  clear hn hz eF
  go_enter Try.func29, Try.ntmps29
  go_upto_region 3 with fail
  go_loopw [5, 10] (fun v i wr => ∃ k : Nat, k ≤ n ∧ i = .int .i64 k ∧ wr.ownsRow w.heap.size 5 1 v (121 * k) (bl F (121 * k)) ∧ Below w.heap.size w wr) (fun _ i _ => n - (intOf i).toNat)
  case atStart => exact ⟨0, by omega, rfl, ⟨rfl, .inl ⟨rfl, rfl⟩⟩, Below.refl _ _⟩
  case round =>
    obtain ⟨k, hk, rfl, hown, hb⟩ := hrel
    by_cases hlt : k < n
    · have bq : decide (k < n) = true := by simp; omega
      have k1 : (k : Int) < (n : Int) := by omega
      have k2 : (0 : Int) ≤ (k : Int) := by omega
      rcases HN.out wr hb with h | ⟨b, off, rfl, hb1, hc⟩
      · omega
      have lv := lvValidator_at (hc k hlt)
      have ix := fun W => ixValidator_run W b off n c k hlt
      obtain ⟨P, eP⟩ : ∃ P, off + 86 * k = P := ⟨_, rfl⟩
      rw [eP] at lv
      simp only [eP] at ix
      have hzk := HZ.out k hlt
      have hen := fun W => encValidator_any (zs k) W hzk
      have EJ := hid (EJ0.out k)
      obtain ⟨x, ex⟩ : ∃ x, zs k = x := ⟨_, rfl⟩
      rw [ex] at lv EJ
      simp only [ex] at hen
      obtain ⟨cc, ecc⟩ : ∃ cc, ct7 (eValidator x) = cc := ⟨_, rfl⟩
      rw [ecc] at EJ
      simp only [ecc] at hen
      have HEN := hid hen
      have sv := svValidator_newv wr oValidator x
      obtain ⟨W1, hW1⟩ : ∃ W, wr.alloc (.cells (cel (sValidator x)) 64) = W := ⟨_, rfl⟩
      rw [hW1] at sv
      have r1 : W1.heap[wr.heap.size]? = some (.cells (cel (sValidator x)) 64) := by rw [← hW1]; exact heap_new rfl
      have lw := lvValidator_mid r1 0 (take_all _) rfl
      have hB1 : Below wr.heap.size wr W1 := by rw [← hW1]; exact (Below.refl _ _).alloc (Nat.le_refl _) _
      have hzz := hb.size
      have hz1 := hB1.size
      have HO := hid (ownsRow_below hown hB1)
      have HB := hid (hb.trans (hB1.mono hzz))
      obtain ⟨y, ey⟩ : ∃ y, wr.heap.size = y := ⟨_, rfl⟩
      rw [ey] at sv lw hzz hz1
      clear hown hb hc ex ecc hzk hb1 eP hen r1 hB1
      go_upto_region 5 with fail
      clear hW1 ey
      go_wp2_with (first
        | (go_at_call 30; refine (HEN.out W1).mono ?_; rintro e w3 ⟨v3, rfl, ho3, hb3⟩; obtain ⟨a3, c3, rfl, hy3⟩ := own_at ho3; have HY3 := hid hy3; have HB3 := hid hb3; have hz3 := hb3.size; clear hb3 ho3 hy3)
        | (at_builtin; refine wpList_append_bys _ rfl _ _ rfl w.heap.size _ (121 * k) (bl F (121 * k)) rfl (ownsRow_below HO.out HB3.out) _ 121 c3 cc rfl HY3.out (by omega) (by omega) ?_; intro v4 w4 ho4 hg4))
      go_roundw
      case rel =>
        refine ⟨k + 1, by omega, by go_num, ?_, below_grown (HB.out.trans (HB3.out.mono (by omega))) (ownsRow_below HO.out HB3.out) (by omega) hg4⟩
        rw [EJ.out] at ho4
        exact ho4
      case measure => simp [intOf]; omega
    · obtain rfl : n = k := by omega
      have bq : decide (n < n) = false := by simp
      have HO := hid hown
      have HB := hid hb
      clear hown hb
      go_wp2
      go_ret
      exact ⟨_, rfl, HO.out, HB.out⟩

end Go.Proofs.Ytehpfemlcjcabaa
