/-
  What the program's RootAt, Leak and Seed answer.
-/

import Derived.Test.YtmbgidfngefniaaLkM
import Derived.Test.YtmbgidfngefniaaMaC
import Derived.Test.YtmbgidfngefniaaHaE
import Derived.Test.YtmbgidfngefniaaHaA
import Derived.Test.YtmbgidfngefniaaHaD
import Derived.Test.YtmbgidfngefniaaMaA
import Derived.ArgAppend

namespace Go.Proofs.Ytmbgidfngefniaa

open Go.RowKit

set_option linter.unusedVariables false

set_option linter.unusedSimpArgs false

set_option maxRecDepth 20000

/-- One number behind another, 0 where it is below. -/
theorem lessR_any (a b : Int) (w : World) (ha : 0 ≤ a) (ha' : a < 18446744073709551616) (hb : 0 ≤ b) (hb' : b < 18446744073709551616) :
    Calls Try.prog 24 #[.int .u64 a, .int .u64 b] w fun e w' => e = .returned (.int .u64 (lesV a b)) ∧ w' = w := by
  by_cases h : a < b
  · have e0 : lesV a b = 0 := by unfold lesV; rw [if_pos h]
    rw [e0]
    clear e0
    go_enter Try.func24, Try.ntmps24
    go_wp2
    go_ret
    exact ⟨rfl, rfl⟩
  · have e0 : lesV a b = a - b := by unfold lesV; rw [if_neg h]
    rw [e0]
    clear e0
    go_enter Try.func24, Try.ntmps24
    go_wp2
    go_ret
    exact ⟨rfl, rfl⟩

attribute [local go_sem ↓] lvState_eq svState_eq bdState_eq lvValidator_eq svValidator_eq ixValidator_eq sv24_eq lv24_eq bd27_eq ix31_eq

set_option maxHeartbeats 1000000 in
theorem rootat_any (x : VState) (s : Int) (w : World) (hx : OkState x) (hs : 0 ≤ s) :
    Calls Try.prog 26 #[.agg (cel (sState x)), .int .u64 s] w fun e' w' => e' = .returned (.tuple #[.agg (vs .u8 32 (rtV x s)), .int .i64 (rtE x s)]) ∧ Below w.heap.size w w' := by
  obtain ⟨W0, hW0⟩ : ∃ W, (w.alloc (.cells (cel (sState x)) 49)).alloc (.cells (vs .u8 32 fun _ => 0) 24) = W := ⟨_, rfl⟩
  have r0 : W0.heap[w.heap.size]? = some (.cells (cel (sState x)) 49) := by rw [← hW0]; exact (heap_old (by simp)).trans (heap_new rfl)
  have r1 : W0.heap[w.heap.size + 1]? = some (.cells (vs .u8 32 fun _ => 0) 24) := by rw [← hW0]; exact heap_new (by simp)
  have hB0 : Below w.heap.size w W0 := by rw [← hW0]; exact ((Below.refl _ _).alloc (Nat.le_refl _) _).alloc (by simp) _
  have c2 := cS2 r0
  have hv : rtV x s = if s < x.f2 ∧ x.f2 - s ≤ 8 then (fun j => x.f5 (32 * (s % 8).toNat + j)) else fun _ => 0 := rfl
  have hE : rtE x s = if s < x.f2 ∧ x.f2 - s ≤ 8 then 0 else 1 := rfl
  obtain ⟨k, hk⟩ : ∃ k : Nat, s % 8 = (k : Int) := ⟨(s % 8).toNat, by omega⟩
  have hk8 : k < 8 := by omega
  have o2 := hx.o2
  rw [hk, Int.toNat_natCast] at hv
  have hl : (lv24 ⟨w.heap.size, 141 + 32 * k, none⟩).run Try.prog W0 = .ok (.agg (vs .u8 32 fun j => x.f5 (32 * k + j))) W0 := lv24_mid (fun j hj => by
    rcases cS5 r0 with ⟨h, _⟩ | ⟨_, _, h⟩ | ⟨b, off, h1, _, _, _, h5⟩
    · cases h
    · cases h
    · cases h1
      rw [Nat.add_assoc]
      exact h5 (32 * k + j) (by omega))
  have ix := fun W => ix31_run W w.heap.size 141 k hk8
  obtain ⟨O, eO⟩ : ∃ O, 141 + 32 * k = O := ⟨_, rfl⟩
  rw [eO] at hl
  simp only [eO] at ix
  obtain ⟨C, eC⟩ : ∃ C : Nat → Int, (fun j => x.f5 (32 * k + j)) = C := ⟨_, rfl⟩
  rw [eC] at hl hv
  have s0 := sv24_run r1 (fun _ => 0)
  have s1 := sv24_run r1 C
  have b0 := bd27_0
  have z := zero_root
  generalize rtV x s = RV at *
  generalize rtE x s = RE at *
  generalize x.f2 = p at *
  have k1 : (0 : Int) ≤ (k : Int) := by omega
  have k2 : (k : Int) < 8 := by omega
  have HR := hid r1
  have HB := hid hB0
  have HW := hid hW0
  have HV := hid hv
  have HE := hid hE
  clear r0 r1 hB0 hW0 hv hE hx eC eO
  obtain ⟨o20, o21⟩ := o2
  by_cases h1 : p ≤ s
  · have d1 : decide (p ≤ s) = true := by simp [h1]
    go_enter Try.func26, Try.ntmps26
    go_upto_region 1 with fail
    rw [HW.out]
    clear HW
    go_wp2
    refine ret24s 4 5 (w.heap.size + 1) (fun _ => 0) 24 (.int .i64 1) rfl rfl rfl rfl (setRow_at HR.out) ⟨by rw [HV.out, HE.out, if_neg (by omega), if_neg (by omega)], ?_⟩
    exact below_row HB.out (by omega) _
  · have d1 : decide (p ≤ s) = false := by simp; omega
    have ws : IntKind.u64.wrap (p - s) = p - s := by rw [IntKind.wrap_u64]; omega
    by_cases h2 : 8 < p - s
    · have d2 : decide (8 < p - s) = true := by simp; omega
      go_enter Try.func26, Try.ntmps26
      go_upto_region 1 with fail
      rw [HW.out]
      clear HW
      go_wp2
      refine ret24s 4 5 (w.heap.size + 1) (fun _ => 0) 24 (.int .i64 1) rfl rfl rfl rfl (setRow_at HR.out) ⟨by rw [HV.out, HE.out, if_neg (by omega), if_neg (by omega)], ?_⟩
      exact below_row HB.out (by omega) _
    · have d2 : decide (8 < p - s) = false := by simp; omega
      go_enter Try.func26, Try.ntmps26
      go_upto_region 1 with fail
      rw [HW.out]
      clear HW
      go_wp2
      refine ret24s 4 5 (w.heap.size + 1) C 24 (.int .i64 0) rfl rfl rfl rfl (setRow_at HR.out) ⟨by rw [HV.out, HE.out, if_pos (by omega), if_pos (by omega)], ?_⟩
      exact below_row HB.out (by omega) _

end Go.Proofs.Ytmbgidfngefniaa
