/-
  What the document's RootAt, Leak and Seed answer.
-/

import Derived.Test.YtmbgidfngefniaaLkJ
import Derived.Test.YtmbgidfngefniaaMaE
import Derived.Test.YtmbgidfngefniaaHaE
import Derived.Test.YtmbgidfngefniaaHaA
import Derived.Test.YtmbgidfngefniaaHaD
import Derived.Deep.Onto

namespace Go.Proofs.Ytmbgidfngefniaa

open Go.RowKit

set_option linter.unusedVariables false

set_option linter.unusedSimpArgs false

set_option maxRecDepth 20000

def ix31 (x i : Value) : Sem Value := Instr.indexAt 31 x i

theorem ix31_eq (x i : Value) : Instr.indexAt 31 x i = ix31 x i := rfl

theorem sizeRoot (w : World) : (sizeOf 24).run Try.prog w = .ok 32 w := by
  have hi : (Try.prog.info? 24).map (·.size) = some 32 := by kernel_rfl
  obtain ⟨i, h1, h2⟩ := Option.map_eq_some_iff.1 hi
  simp [sizeOf, typeInfo, h1, h2]

theorem ix31_run (w : World) (g o k : Nat) (h : k < 8) : (ix31 (.pointer (some ⟨g, o, none⟩)) (.int .u64 k)).run Try.prog w = .ok (.pointer (some ⟨g, o + 32 * k, none⟩)) w := by
  unfold ix31 Instr.indexAt
  have h1 : (0 : Int) ≤ (k : Int) ∧ (k : Int) < 8 := by omega
  simp only [asIntOf, Sem.run_bind, Sem.run_pure, Result.andThen_ok, run_underlying Try.underlying31]
  simp [h1.2, sizeRoot, Instr.sureAddr, asAddr, addr_add, Nat.mul_comm]

/-- A root at a slot; the error. -/
def rtV (x : VState) (s : Int) : Nat → Int := if s < x.f2 ∧ x.f2 - s ≤ 8 then (fun j => x.f5 (32 * (s % 8).toNat + j)) else fun _ => 0

def rtE (x : VState) (s : Int) : Int := if s < x.f2 ∧ x.f2 - s ≤ 8 then 0 else 1

/-- Less; the epoch ahead; the leak. -/
def lesV (a b : Int) : Int := if a < b then 0 else a - b

attribute [local go_sem ↓] lvState_eq svState_eq bdState_eq lvValidator_eq svValidator_eq ixValidator_eq sv24_eq lv24_eq bd27_eq ix31_eq

set_option maxHeartbeats 1000000 in
theorem rrootat_any (x : VState) (s : Int) (w : World) (hx : OkState x) (hs : 0 ≤ s) :
    Calls Try.prog 29 #[.agg (cel (sState x)), .int .u64 s] w fun e' w' => e' = .returned (.tuple #[.agg (vs .u8 32 (rtV x s)), .int .i64 (rtE x s)]) ∧ Below w.heap.size w w' := by
  obtain ⟨W0, hW0⟩ : ∃ W, (w.alloc (.cells (cel (sState x)) 49)).alloc (.cells (vs .u8 32 fun _ => 0) 24) = W := ⟨_, rfl⟩
  have r0 : W0.heap[w.heap.size]? = some (.cells (cel (sState x)) 49) := by rw [← hW0]; exact (heap_old (by simp)).trans (heap_new rfl)
  have r1 : W0.heap[w.heap.size + 1]? = some (.cells (vs .u8 32 fun _ => 0) 24) := by rw [← hW0]; exact heap_new (by simp)
  have hB0 : Below w.heap.size w W0 := by rw [← hW0]; exact ((Below.refl _ _).alloc (Nat.le_refl _) _).alloc (by simp) _
  have c2 := cS2 r0
  have hv : rtV x s = if s < x.f2 ∧ x.f2 - s ≤ 8 then (fun j => x.f5 (32 * (s % 8).toNat + j)) else fun _ => 0 := rfl
  have hE : rtE x s = if s < x.f2 ∧ x.f2 - s ≤ 8 then 0 else 1 := rfl
  obtain ⟨k, hk⟩ : ∃ k : Nat, s % 8 = (k : Int) := ⟨(s % 8).toNat, by omega⟩
  have hk8 : k < 8 := by omega
  have o2 := hx.o2
  rw [hk, Int.toNat_natCast] at hv
  have hl : (lv24 ⟨w.heap.size, 141 + 32 * k, none⟩).run Try.prog W0 = .ok (.agg (vs .u8 32 fun j => x.f5 (32 * k + j))) W0 := lv24_mid (fun j hj => by
    rcases cS5 r0 with ⟨h, _⟩ | ⟨_, _, h⟩ | ⟨b, off, h1, _, _, _, h5⟩
    · cases h
    · cases h
    · cases h1
      rw [Nat.add_assoc]
      exact h5 (32 * k + j) (by omega))
  have ix := fun W => ix31_run W w.heap.size 141 k hk8
  obtain ⟨O, eO⟩ : ∃ O, 141 + 32 * k = O := ⟨_, rfl⟩
  rw [eO] at hl
  simp only [eO] at ix
  obtain ⟨C, eC⟩ : ∃ C : Nat → Int, (fun j => x.f5 (32 * k + j)) = C := ⟨_, rfl⟩
  rw [eC] at hl hv
  have s0 := sv24_run r1 (fun _ => 0)
  have s1 := sv24_run r1 C
  have b0 := bd27_0
  have z := zero_root
  generalize rtV x s = RV at *
  generalize rtE x s = RE at *
  generalize x.f2 = p at *
  have k1 : (0 : Int) ≤ (k : Int) := by omega
  have k2 : (k : Int) < 8 := by omega
  have HR := hid r1
  have HB := hid hB0
  have HW := hid hW0
  have HV := hid hv
  have HE := hid hE
  clear r0 r1 hB0 hW0 hv hE hx eC eO
  obtain ⟨o20, o21⟩ := o2
  by_cases h1 : p ≤ s
  · have d1 : decide (p ≤ s) = true := by simp [h1]
    go_enter Try.func29, Try.ntmps29
    go_upto_region 1 with fail
    rw [HW.out]
    clear HW
    go_wp2
    refine ret24s 4 5 (w.heap.size + 1) (fun _ => 0) 24 (.int .i64 1) rfl rfl rfl rfl (setRow_at HR.out) ⟨by rw [HV.out, HE.out, if_neg (by omega), if_neg (by omega)], ?_⟩
    exact below_row HB.out (by omega) _
  · have d1 : decide (p ≤ s) = false := by simp; omega
    have ws : IntKind.u64.wrap (p - s) = p - s := by rw [IntKind.wrap_u64]; omega
    by_cases h2 : 8 < p - s
    · have d2 : decide (8 < p - s) = true := by simp; omega
      go_enter Try.func29, Try.ntmps29
      go_upto_region 1 with fail
      rw [HW.out]
      clear HW
      go_wp2
      refine ret24s 4 5 (w.heap.size + 1) (fun _ => 0) 24 (.int .i64 1) rfl rfl rfl rfl (setRow_at HR.out) ⟨by rw [HV.out, HE.out, if_neg (by omega), if_neg (by omega)], ?_⟩
      exact below_row HB.out (by omega) _
    · have d2 : decide (8 < p - s) = false := by simp; omega
      go_enter Try.func29, Try.ntmps29
      go_upto_region 1 with fail
      rw [HW.out]
      clear HW
      go_wp2
      refine ret24s 4 5 (w.heap.size + 1) C 24 (.int .i64 0) rfl rfl rfl rfl (setRow_at HR.out) ⟨by rw [HV.out, HE.out, if_pos (by omega), if_pos (by omega)], ?_⟩
      exact below_row HB.out (by omega) _

theorem rless_any (a b : Int) (w : World) (a0 : 0 ≤ a) (a1 : a < 18446744073709551616) (b0 : 0 ≤ b) (b1 : b < 18446744073709551616) :
    Calls Try.prog 31 #[.int .u64 a, .int .u64 b] w fun e w' => e = .returned (.int .u64 (lesV a b)) ∧ w' = w := by
  have hE : lesV a b = if a < b then 0 else a - b := rfl
  have HE := hid hE
  clear hE
  by_cases h : a < b
  · go_enter Try.func31, Try.ntmps31
    go_wp2
    go_ret
    exact ⟨ret_int (by rw [HE.out, if_pos h]), rfl⟩
  · go_enter Try.func31, Try.ntmps31
    go_wp2
    go_ret
    exact ⟨ret_int (by rw [HE.out, if_neg (by omega)]), rfl⟩

set_option maxHeartbeats 1000000 in
theorem rbefore_any (x : VState) (w : World) (hx : Lk w x) :
    Calls Try.prog 28 #[.agg (cel (sState x))] w fun e' w' => e' = .returned (.int .u64 (lesV (x.f2 / 4) 1)) ∧ Below w.heap.size w w' := by
  obtain ⟨W0, hW0⟩ : ∃ W, w.alloc (.cells (cel (sState x)) 49) = W := ⟨_, rfl⟩
  have r0 : W0.heap[w.heap.size]? = some (.cells (cel (sState x)) 49) := by rw [← hW0]; exact heap_new rfl
  have hB0 : Below w.heap.size w W0 := by rw [← hW0]; exact (Below.refl _ _).alloc (Nat.le_refl _) _
  have z0 : w.heap.size < W0.heap.size := (Array.getElem?_eq_some_iff.1 r0).1
  have hld : ∀ W : World, Below W0.heap.size W0 W → (lvState ⟨w.heap.size, 0, none⟩).run Try.prog W = .ok (.agg (cel (sState x))) W := fun W h => lvState_run ((h.block _ z0).trans r0)
  have hx0 := hx.below hB0
  have hep := fun W : World => repoch_any x W hx.sl.1 hx.sl.2
  have hsl := hx.sl
  have hls := fun W : World => rless_any (x.f2 / 4) 1 W (by omega) (by omega) (by omega) (by omega)
  have l0 := hld W0 (Below.refl _ _)
  generalize lesV (x.f2 / 4) 1 = R at *
  generalize x.f2 / 4 = E at *
  have HB := hid hB0
  have HW := hid hW0
  have HEP := hid hep
  have HLS := hid hls
  clear hB0 hW0 hld hep hls hx hx0 r0 hsl
  go_enter Try.func28, Try.ntmps28
  go_upto_region 1 with fail
  rw [HW.out]
  clear HW
  go_wp2_with (first
    | (go_at_call 27; refine (HEP.out _).mono ?_; rintro e' w1 ⟨rfl, hb1⟩)
    | (go_at_call 31; refine (HLS.out _).mono ?_; rintro e' w2 ⟨rfl, hw2⟩; obtain rfl := hw2.symm))
  go_ret
  exact ⟨ret_int rfl, HB.out.trans (hb1.mono (by omega))⟩

end Go.Proofs.Ytmbgidfngefniaa
