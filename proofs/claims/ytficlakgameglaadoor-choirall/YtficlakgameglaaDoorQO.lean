/-
  What the document's All and Churn answer.
  What the document's Root answers: bit by bit.
  What the document's Per, Reward and Same answer.
  What LookActives answers, by what the program's functions answer.
  What the program's Active, CanSlash, Actives and Total answer.
-/
import Derived.Test.YtficlakgameglaaDoorQG
import Derived.Test.YtficlakgameglaaDoorStY
import Derived.Laws.Bits64b

namespace Go.Proofs.YtficlakgameglaaDoor

open Go.RowKit

set_option linter.unusedVariables false

set_option linter.unusedSimpArgs false

set_option maxRecDepth 20000

attribute [local go_sem ↓] lvState_eq svState_eq bdState_eq lvValidator_eq svValidator_eq ixValidator_eq

/-- The actives of a state's epoch; their sum; how many may come. -/
def acS (x : VState) : List Int := acL x.f11.z (x.f2 / 4) x.f11.n

def allS (x : VState) : Int := lst (ttl x.f11.z x.f11.n (fun j => (acS x).getD j 0) (acS x).length)

def chuS (x : VState) : Int := if ((acS x).length : Int) / 32 < 2 then 2 else ((acS x).length : Int) / 32

theorem acS_bd (x : VState) (hn : x.f11.n ≤ 65536) : ∀ j, j < (acS x).length → 0 ≤ (acS x).getD j 0 ∧ (acS x).getD j 0 < 18446744073709551616 := fun j hj => by
  have := acL_bd x.f11.z (x.f2 / 4) x.f11.n ((acS x).getD j 0) (by rw [List.getD_eq_getElem?_getD, List.getElem?_eq_getElem hj]; exact List.getElem_mem hj)
  omega

theorem allS_bd (x : VState) (hn : x.f11.n ≤ 65536) (hz : ∀ j, j < x.f11.n → 0 ≤ (x.f11.z j).f2 ∧ (x.f11.z j).f2 ≤ 32000000000) : 1000000000 ≤ allS x ∧ allS x ≤ 2097152000000000 := by
  have h1 := acL_len x.f11.z (x.f2 / 4) x.f11.n
  have h2 := ttl_bd x.f11.z x.f11.n (fun j => (acS x).getD j 0) hz (acS x).length (fun j hj => (acS_bd x hn j hj).1)
  have h3 : (acS x).length ≤ 65536 := Nat.le_trans h1 hn
  unfold allS lst
  split <;> omega

set_option maxHeartbeats 2000000 in
theorem rall_any (x : VState) (w : World) (hx : Lk w x) :
    Calls Tryd.prog 14 #[.agg (cel (sState x))] w fun e' w' => e' = .returned (.int .u64 (allS x)) ∧ Below w.heap.size w w' := by
  obtain ⟨W0, hW0⟩ : ∃ W, w.alloc (.cells (cel (sState x)) 49) = W := ⟨_, rfl⟩
  have r0 : W0.heap[w.heap.size]? = some (.cells (cel (sState x)) 49) := by rw [← hW0]; exact heap_new rfl
  have hB0 : Below w.heap.size w W0 := by rw [← hW0]; exact (Below.refl _ _).alloc (Nat.le_refl _) _
  have z0 : w.heap.size < W0.heap.size := (Array.getElem?_eq_some_iff.1 r0).1
  have hld : ∀ W : World, Below W0.heap.size W0 W → (lvState ⟨w.heap.size, 0, none⟩).run Tryd.prog W = .ok (.agg (cel (sState x))) W := fun W h => lvState_run ((h.block _ z0).trans r0)
  have hx0 := hx.below hB0
  have hep := fun W : World => repoch_any x W hx.sl.1 hx.sl.2
  have hac : ∀ W : World, Below W0.heap.size W0 W → Calls Tryd.prog 34 #[.agg (cel (sState x)), .int .u64 (x.f2 / 4)] W fun e' w' => ∃ a c, e' = .returned (.slice a (acS x).length c) ∧ Nml w' a (acS x) ∧ Below W.heap.size W w' := fun W h => ractives_any x (x.f2 / 4) W (hx0.below h)
  have hto : ∀ (W : World) a c, Below W0.heap.size W0 W → Nml W a (acS x) → Calls Tryd.prog 33 #[.agg (cel (sState x)), .slice a (acS x).length c] W fun e' w' => e' = .returned (.int .u64 (allS x)) ∧ Below W.heap.size W w' := fun W a c h hn => rtotal_any x a (acS x).length c (fun j => (acS x).getD j 0) W (hx0.below h) hn (acS_bd x hx.nb) (Nat.le_trans (acL_len _ _ _) hx.nb)
  generalize allS x = R at *
  generalize x.f2 / 4 = E at *
  generalize (acS x) = L at *
  have hdr : Below W0.heap.size W0 W0.drew := (Below.refl _ _).drew
  have HDR := hid hdr
  have HB := hid hB0
  have HW := hid hW0
  have HLD := hid hld
  have HEP := hid hep
  have HAC := hid hac
  have HTO := hid hto
  clear hdr hB0 hW0 hld hep hac hto hx hx0 r0
  go_enter Tryd.func14, Tryd.ntmps14
  go_upto_region 1 with fail
  rw [HW.out]
  clear HW
  refine wp_region_noPanic ?_
  refine wp_region_held_drew (S := fun W => Below W0.heap.size W0 W) (by kernel_rfl) (HDR.out) (fun hHeld => ?_)
  refine tk 0 (v := ?v1) ?y1 hHeld ?r1
  case y1 => intro w hSw; have ld := HLD.out _ hSw; go_simp; try with_reducible rfl
  refine tk 1 (v := ?v2) ?y2 hHeld ?r2
  case y2 => intro w hSw; have ld := HLD.out _ hSw; go_simp; try with_reducible rfl
  refine tk 2 (v := ?v3) ?y3 hHeld ?r3
  case y3 => intro w hSw; have ld := HLD.out _ hSw; go_simp; try with_reducible rfl
  try simp only [Act.put, List.setIfInBounds_toArray, List.set_cons_zero, List.set_cons_succ, Array.toArray_toList, List.getElem_toArray, List.getElem_cons_zero, List.getElem_cons_succ]
  refine wpAnyH_ready (rs := [3]) (by kernel_rfl) (by simp) ?_
  refine AllReadyH.cons rfl (fun K hK => ?_) AllReadyH.nil
  go_simp
  refine (HEP.out _).mono ?_
  rintro e' w1 ⟨rfl, hb1⟩
  dsimp only
  have hB1 : Below W0.heap.size W0 w1 := HDR.out.trans hb1
  refine hK.out _ _ (hB1) (fun hHeld => ?_)
  clear hK K
  try simp only [Act.put, List.setIfInBounds_toArray, List.set_cons_zero, List.set_cons_succ, Array.toArray_toList, List.getElem_toArray, List.getElem_cons_zero, List.getElem_cons_succ]
  refine wpAnyH_ready (rs := [4]) (by kernel_rfl) (by simp) ?_
  refine AllReadyH.cons rfl (fun K hK => ?_) AllReadyH.nil
  go_simp
  refine (HAC.out _ hB1).mono ?_
  rintro e' w2 ⟨a2, c2, rfl, hn2, hb2⟩
  dsimp only
  have hB2 : Below W0.heap.size W0 w2 := hB1.trans (hb2.mono hB1.size)
  refine hK.out _ _ (hB2) (fun hHeld => ?_)
  clear hK K
  try simp only [Act.put, List.setIfInBounds_toArray, List.set_cons_zero, List.set_cons_succ, Array.toArray_toList, List.getElem_toArray, List.getElem_cons_zero, List.getElem_cons_succ]
  refine wpAnyH_ready (rs := [5]) (by kernel_rfl) (by simp) ?_
  refine AllReadyH.cons rfl (fun K hK => ?_) AllReadyH.nil
  go_simp
  refine (HTO.out _ a2 c2 hB2 hn2).mono ?_
  rintro e' w3 ⟨rfl, hb3⟩
  dsimp only
  have hB3 : Below W0.heap.size W0 w3 := hB2.trans (hb3.mono hB2.size)
  refine hK.out _ _ (hB3) (fun hHeld => ?_)
  clear hK K
  try simp only [Act.put, List.setIfInBounds_toArray, List.set_cons_zero, List.set_cons_succ, Array.toArray_toList, List.getElem_toArray, List.getElem_cons_zero, List.getElem_cons_succ]
  refine tk 6 (v := ?v4) ?y4 hHeld ?r4
  case y4 => intro w hSw; go_simp; try with_reducible rfl
  try simp only [Act.put, List.setIfInBounds_toArray, List.set_cons_zero, List.set_cons_succ, Array.toArray_toList, List.getElem_toArray, List.getElem_cons_zero, List.getElem_cons_succ]
  refine wpAnyH_done (by kernel_rfl) ?_ _
  refine NoPanic.normal ?_
  go_wp2
  go_ret
  exact ⟨ret_int rfl, HB.out.trans (hB3.mono (by omega))⟩

end Go.Proofs.YtficlakgameglaaDoor

namespace Go.Proofs.YtficlakgameglaaDoor

open Go.RowKit

set_option linter.unusedVariables false

set_option linter.unusedSimpArgs false

set_option maxRecDepth 20000

/-- r is the root of n. -/
def IsRut (n r : Int) : Prop := 0 ≤ r ∧ r * r ≤ n ∧ n < (r + 1) * (r + 1)

theorem rut_unique {n r s : Int} (hr : IsRut n r) (hs : IsRut n s) : r = s := by
  obtain ⟨a0, a1, a2⟩ := hr
  obtain ⟨b0, b1, b2⟩ := hs
  by_cases h1 : r < s
  · have : (r + 1) * (r + 1) ≤ s * s := Int.mul_le_mul (by omega) (by omega) (by omega) b0
    omega
  · by_cases h2 : s < r
    · have : (s + 1) * (s + 1) ≤ r * r := Int.mul_le_mul (by omega) (by omega) (by omega) a0
      omega
    · omega

/-- What stands with k bits to go. -/
def RtJ (n : Int) (k : Nat) (r : Int) : Prop := 0 ≤ r ∧ r * r ≤ n ∧ n < (r + 2 ^ k) * (r + 2 ^ k) ∧ (∃ q : Nat, r = (2 : Int) ^ k * q) ∧ r + 2 ^ k ≤ 4294967296

theorem or_bit2 (k : Nat) (r : Int) (q : Nat) (h : r = (2 : Int) ^ (k + 1) * q) (hr : r + 2 ^ (k + 1) ≤ 4294967296) : bits .or .u64 r ((2 : Int) ^ k) = r + 2 ^ k := by
  have e1 : r = ((2 ^ (k + 1) * q : Nat) : Int) := by rw [h]; simp
  have e2 : ((2 : Int) ^ k) = ((2 ^ k : Nat) : Int) := by simp
  have hp : (2 ^ (k + 1) : Nat) = 2 * 2 ^ k := by rw [Nat.pow_succ, Nat.mul_comm]
  have e3 : (2 : Int) ^ (k + 1) = ((2 ^ (k + 1) : Nat) : Int) := by simp
  have hlt : 2 ^ k < 2 ^ (k + 1) := by have : 0 < 2 ^ k := Nat.pos_of_ne_zero (by simp); omega
  rw [e3, e1] at hr
  rw [e1, e2]
  have hb := bits_or_u64_nat (2 ^ (k + 1) * q) (2 ^ k) (by omega) (by omega)
  rw [hb, ← Nat.two_pow_add_eq_or_of_lt hlt q]
  omega

theorem rtJ_up {n : Int} {k : Nat} {r : Int} (h : RtJ n (k + 1) r) (ht : (r + 2 ^ k) * (r + 2 ^ k) ≤ n) : RtJ n k (r + 2 ^ k) := by
  obtain ⟨h0, h1, h2, ⟨q, hq⟩, h3⟩ := h
  have hp : (2 : Int) ^ (k + 1) = 2 * 2 ^ k := by rw [Int.pow_succ, Int.mul_comm]
  have hpos : (0 : Int) < 2 ^ k := Int.pow_pos (by decide)
  rw [hp] at h2 h3 hq
  refine ⟨by omega, ht, ?_, ⟨2 * q + 1, ?_⟩, by omega⟩
  · rwa [show r + 2 ^ k + 2 ^ k = r + 2 * 2 ^ k by omega]
  · rw [hq, show ((2 * q + 1 : Nat) : Int) = 2 * (q : Int) + 1 by omega, Int.mul_add, Int.mul_one, Int.mul_comm 2 (2 ^ k), Int.mul_assoc]

theorem rtJ_dn {n : Int} {k : Nat} {r : Int} (h : RtJ n (k + 1) r) (ht : n < (r + 2 ^ k) * (r + 2 ^ k)) : RtJ n k r := by
  obtain ⟨h0, h1, h2, ⟨q, hq⟩, h3⟩ := h
  have hp : (2 : Int) ^ (k + 1) = 2 * 2 ^ k := by rw [Int.pow_succ, Int.mul_comm]
  have hpos : (0 : Int) < 2 ^ k := Int.pow_pos (by decide)
  rw [hp] at h2 h3 hq
  refine ⟨h0, h1, ht, ⟨2 * q, ?_⟩, by omega⟩
  rw [hq, show ((2 * q : Nat) : Int) = 2 * (q : Int) by omega, Int.mul_comm 2 (2 ^ k), Int.mul_assoc]

set_option maxHeartbeats 1000000 in
theorem rroot_any (n : Int) (w : World) (h0 : 0 ≤ n) (h1 : n < 18446744073709551616) :
    Calls Tryd.prog 36 #[.int .u64 n] w fun e w' => ∃ r, e = .returned (.int .u64 r) ∧ IsRut n r ∧ w' = w := by
  go_enter Tryd.func36, Tryd.ntmps36
  go_wp2
  go_loopw [3, 4] (fun v c wr => ∃ (k : Nat) (r : Int), k ≤ 32 ∧ v = .int .u64 r ∧ c = .int .i64 ((k : Int) - 1) ∧ RtJ n k r ∧ wr = w) (fun _ c _ => (intOf c + 1).toNat)
  case atStart => exact ⟨32, 0, by omega, rfl, rfl, ⟨by omega, by omega, by omega, ⟨0, by simp⟩, by omega⟩, rfl⟩
  case round =>
    obtain ⟨k, r, hk, rfl, rfl, hr, rfl⟩ := hrel
    cases k with
    | zero =>
      have hz := hr
      have HR := hid hr
      clear hr hz
      have c0 : ¬ (0 : Int) ≤ ((0 : Nat) : Int) - 1 := by omega
      go_wp2
      go_ret
      obtain ⟨a0, a1, a2, _, _⟩ := HR.out
      exact ⟨r, rfl, ⟨a0, a1, a2⟩, rfl⟩
    | succ k =>
      have ek : ((k + 1 : Nat) : Int) - 1 = (k : Int) := by omega
      rw [ek]
      obtain ⟨h0', h1', h2', ⟨q, hq⟩, h3'⟩ := hr
      have ho := or_bit2 k r q hq h3'
      have hpos : (0 : Int) < 2 ^ k := Int.pow_pos (by decide)
      have hp : (2 : Int) ^ (k + 1) = 2 * 2 ^ k := by rw [Int.pow_succ, Int.mul_comm]
      have hJ : RtJ n (k + 1) r := ⟨h0', h1', h2', ⟨q, hq⟩, h3'⟩
      have hup := fun ht => rtJ_up hJ ht
      have hdn := fun ht => rtJ_dn hJ ht
      obtain ⟨P, hP⟩ : ∃ P, (2 : Int) ^ k = P := ⟨_, rfl⟩
      rw [hp, hP] at h3'
      rw [hP] at ho hpos hup hdn
      obtain ⟨T, hT⟩ : ∃ T, r + P = T := ⟨_, rfl⟩
      rw [hT] at ho hup hdn
      have hTT : T * T < 18446744073709551616 := by
        have : T * T ≤ 4294967295 * 4294967295 := Int.mul_le_mul (by omega) (by omega) (by omega) (by omega)
        omega
      have hT0 : 0 ≤ T * T := Int.mul_nonneg (by omega) (by omega)
      obtain ⟨U, hU⟩ : ∃ U, T * T = U := ⟨_, rfl⟩
      rw [hU] at hTT hT0 hup hdn
      have k1 : (0 : Int) ≤ (k : Int) := by omega
      have k2 : (k : Int) < 32 := by omega
      have kw : IntKind.u64.wrap (k : Int) = (k : Int) := by rw [IntKind.wrap_u64]; omega
      have pw : IntKind.u64.wrap P = P := by rw [IntKind.wrap_u64]; omega
      have uw : IntKind.u64.wrap U = U := by rw [IntKind.wrap_u64]; omega
      have HUP := hid hup
      have HDN := hid hdn
      clear hup hdn hJ h1' h2' hq hp ek
      go_upto_region 6 with fail
      by_cases hle : U ≤ n
      · go_wp2
        go_roundw
        case rel => exact ⟨k, T, by omega, rfl, by go_num, HUP.out hle, trivial⟩
        case measure => simp [intOf]
      · go_wp2
        go_roundw
        case rel => exact ⟨k, r, by omega, rfl, by go_num, HDN.out (by omega), trivial⟩
        case measure => simp [intOf]

/-- There is a root. -/
theorem root_ex (n : Nat) : ∃ r : Int, IsRut n r := by
  induction n with
  | zero => exact ⟨0, by unfold IsRut; omega⟩
  | succ n ih =>
    obtain ⟨r, h0, h1, h2⟩ := ih
    by_cases h : (r + 1) * (r + 1) ≤ ((n + 1 : Nat) : Int)
    · have e : (r + 1 + 1) * (r + 1 + 1) = (r + 1) * (r + 1) + 2 * (r + 1) + 1 := by rw [Int.add_mul (r + 1) 1, Int.mul_add]; omega
      exact ⟨r + 1, by omega, h, by rw [e]; omega⟩
    · exact ⟨r, h0, by omega, by omega⟩

end Go.Proofs.YtficlakgameglaaDoor

namespace Go.Proofs.YtficlakgameglaaDoor

open Go.RowKit

set_option linter.unusedVariables false

set_option linter.unusedSimpArgs false

set_option maxRecDepth 20000

attribute [local go_sem ↓] lvState_eq svState_eq bdState_eq lvValidator_eq svValidator_eq ixValidator_eq

theorem root_pos {n r : Int} (h : IsRut n r) (hn : 1000000000 ≤ n) : 31622 ≤ r := by
  obtain ⟨h0, h1, h2⟩ := h
  by_cases hr : 31622 ≤ r
  · exact hr
  · have : (r + 1) * (r + 1) ≤ 31622 * 31622 := Int.mul_le_mul (by omega) (by omega) (by omega) (by omega)
    omega

theorem root_sm {n r : Int} (h : IsRut n r) (hn : n ≤ 2097152000000000) : r ≤ 45794673 := by
  obtain ⟨h0, h1, h2⟩ := h
  by_cases hr : r ≤ 45794673
  · exact hr
  · have : 45794674 * 45794674 ≤ r * r := Int.mul_le_mul (by omega) (by omega) (by omega) (by omega)
    omega

theorem per_bd {r : Int} (h : 31622 ≤ r) : 0 ≤ 64000000000 / r ∧ 64000000000 / r ≤ 64000000000 := ⟨Int.ediv_nonneg (by omega) (by omega), Int.ediv_le_self r (by omega)⟩

set_option maxHeartbeats 2000000 in
theorem rper_any (x : VState) (r : Int) (w : World) (hx : Lk w x) (hr : IsRut (allS x) r) :
    Calls Tryd.prog 15 #[.agg (cel (sState x))] w fun e' w' => e' = .returned (.int .u64 (64000000000 / r)) ∧ Below w.heap.size w w' := by
  obtain ⟨W0, hW0⟩ : ∃ W, w.alloc (.cells (cel (sState x)) 49) = W := ⟨_, rfl⟩
  have r0 : W0.heap[w.heap.size]? = some (.cells (cel (sState x)) 49) := by rw [← hW0]; exact heap_new rfl
  have hB0 : Below w.heap.size w W0 := by rw [← hW0]; exact (Below.refl _ _).alloc (Nat.le_refl _) _
  have z0 : w.heap.size < W0.heap.size := (Array.getElem?_eq_some_iff.1 r0).1
  have hld : ∀ W : World, Below W0.heap.size W0 W → (lvState ⟨w.heap.size, 0, none⟩).run Tryd.prog W = .ok (.agg (cel (sState x))) W := fun W h => lvState_run ((h.block _ z0).trans r0)
  have hx0 := hx.below hB0
  have hal := rall_any x W0 hx0
  have hab := allS_bd x hx.nb hx.ef
  have hro : ∀ W : World, Calls Tryd.prog 36 #[.int .u64 (allS x)] W fun e w' => e = .returned (.int .u64 r) ∧ w' = W := fun W => by
    refine (rroot_any (allS x) W (by omega) (by omega)).mono ?_
    rintro e w' ⟨r', rfl, h, rfl⟩
    exact ⟨by rw [rut_unique hr h], rfl⟩
  have hrp := root_pos hr hab.1
  have hrs := root_sm hr hab.2
  have l0 := hld W0 (Below.refl _ _)
  generalize allS x = R at *
  have HB := hid hB0
  have HW := hid hW0
  have HAL := hid hal
  have HRO := hid hro
  clear hB0 hW0 hld hal hro hx hx0 r0 hr
  go_enter Tryd.func15, Tryd.ntmps15
  go_upto_region 1 with fail
  rw [HW.out]
  clear HW
  go_wp2_with (first
    | (go_at_call 14; refine HAL.out.mono ?_; rintro e' w1 ⟨rfl, hb1⟩)
    | (go_at_call 36; refine (HRO.out _).mono ?_; rintro e' w2 ⟨rfl, hw2⟩; obtain rfl := hw2.symm))
  go_ret
  exact ⟨ret_int (by first | rfl | (rw [IntKind.wrap_u64]; have := per_bd hrp; omega)), HB.out.trans (hb1.mono (by omega))⟩

end Go.Proofs.YtficlakgameglaaDoor

namespace Go.Proofs.YtficlakgameglaaDoor

open Go.RowKit

set_option linter.unusedVariables false

set_option linter.unusedSimpArgs false

set_option maxRecDepth 20000

attribute [local go_sem ↓] lvState_eq svState_eq bdState_eq lvValidator_eq svValidator_eq ixValidator_eq

def PActives : Prop := ∀ (x : VState) (e : Int) (w : World), Lk w x → (∀ j, j < x.f11.n → OkValidator (x.f11.z j)) → Calls Tryd.prog 28 #[.agg (cel (sState x)), .int .u64 e] w fun e' w' => ∃ a c, e' = .returned (.slice a (acL x.f11.z e x.f11.n).length c) ∧ Nml w' a (acL x.f11.z e x.f11.n) ∧ Below w.heap.size w w'

theorem RtO.lk {x : VState} (h : RtO x) {w : World} (hx : OkState x) (hw : InW w x) : Lk w x := by
  refine ⟨hw.i11, h.c0, fun j hj => ?_, hx.o2.1, h.c7⟩
  have hv := h.cv j hj
  have ho := (hx.o11 j hj).2.2.1
  unfold vldB at hv
  simp only [Bool.and_eq_true, decide_eq_true_eq] at hv
  exact ⟨ho.1, hv.2.1⟩

theorem lvValidator_row {w : World} {b : Nat} {x : VValidator} {t : TypeId} (h : w.heap[b]? = some (.cells (cel (sValidator x)) t)) : (lvValidator ⟨b, 0, none⟩).run Tryd.prog w = .ok (.agg (cel (sValidator x))) w :=
  loadAt_var (load_row h 82 _ Tryd.underlying82 rfl (by rw [cel_size, slValidator]; kernel_rfl))

theorem OkState.r' {x : VState} (h : OkState x) : OkR x := ⟨h.o2, h.o11, h.o12, h.o14, h.o21⟩

theorem InW.r' {w : World} {x : VState} (h : InW w x) : InR w x := ⟨h.i11, h.i12, h.i21⟩

end Go.Proofs.YtficlakgameglaaDoor

namespace Go.Proofs.YtficlakgameglaaDoor

open Go.RowKit

set_option linter.unusedVariables false

set_option linter.unusedSimpArgs false

set_option maxRecDepth 20000

attribute [local go_sem ↓] lvState_eq svState_eq bdState_eq lvValidator_eq svValidator_eq ixValidator_eq

set_option maxHeartbeats 1000000 in
theorem active_any (v : VValidator) (e : Int) (w : World) :
    Calls Tryd.prog 57 #[.agg (cel (sValidator v)), .int .u64 e] w fun e' w' => e' = .returned (.bool (actB v e)) ∧ Below w.heap.size w w' := by
  obtain ⟨W0, hW0⟩ : ∃ W, w.alloc (.cells (cel (sValidator v)) 82) = W := ⟨_, rfl⟩
  have r0 : W0.heap[w.heap.size]? = some (.cells (cel (sValidator v)) 82) := by rw [← hW0]; exact heap_new rfl
  have hB0 : Below w.heap.size w W0 := by rw [← hW0]; exact (Below.refl _ _).alloc (Nat.le_refl _) _
  have l5 := seg_nu r0 5 v.f5 rfl 83 rfl
  have l6 := seg_nu r0 6 v.f6 rfl 84 rfl
  have hE : actB v e = (decide (v.f5 ≤ e) && decide (e < v.f6)) := rfl
  generalize v.f5 = p at *
  generalize v.f6 = q at *
  have HB := hid hB0
  have HW := hid hW0
  have HE := hid hE
  clear hB0 hW0 r0 hE
  by_cases h : p ≤ e
  · have d1 : decide (p ≤ e) = true := by simp [h]
    go_enter Tryd.func57, Tryd.ntmps57
    go_upto_region 1 with fail
    rw [HW.out]
    clear HW
    go_wp2
    go_ret
    exact ⟨ret_bool (by rw [HE.out, d1, Bool.true_and]), HB.out⟩
  · have d1 : decide (p ≤ e) = false := by simp [h]
    go_enter Tryd.func57, Tryd.ntmps57
    go_upto_region 1 with fail
    rw [HW.out]
    clear HW
    go_wp2
    go_ret
    exact ⟨ret_bool (by rw [HE.out, d1, Bool.false_and]), HB.out⟩

set_option maxHeartbeats 2000000 in
theorem actives_any (x : VState) (e : Int) (w : World) (hx : Lk w x) :
    Calls Tryd.prog 28 #[.agg (cel (sState x)), .int .u64 e] w fun e' w' => ∃ a c, e' = .returned (.slice a (acL x.f11.z e x.f11.n).length c) ∧ Nml w' a (acL x.f11.z e x.f11.n) ∧ Below w.heap.size w w' := by
  obtain ⟨W0, hW0⟩ : ∃ W, w.alloc (.cells (cel (sState x)) 49) = W := ⟨_, rfl⟩
  have r0 : W0.heap[w.heap.size]? = some (.cells (cel (sState x)) 49) := by rw [← hW0]; exact heap_new rfl
  have hB0 : Below w.heap.size w W0 := by rw [← hW0]; exact (Below.refl _ _).alloc (Nat.le_refl _) _
  have z0 : w.heap.size < W0.heap.size := (Array.getElem?_eq_some_iff.1 r0).1
  have hcs : ∀ W : World, Below W0.heap.size W0 W → W.cell? ⟨w.heap.size, 721, none⟩ = some (.slice x.f11.a x.f11.n x.f11.c) := fun W h => cS11 ((h.block _ z0).trans r0)
  have hel := hx.el.below hB0
  have hnb := hx.nb
  generalize x.f11.a = A at *
  generalize x.f11.n = n at *
  generalize x.f11.c = C at *
  generalize x.f11.z = z at *
  have HB := hid hB0
  have HW := hid hW0
  have HC := hid hcs
  have HE := hid hel
  clear hB0 hW0 r0 hcs hel hx
  go_enter Tryd.func28, Tryd.ntmps28
  go_upto_region 1 with fail
  rw [HW.out]
  clear HW
  have cc := HC.out W0 (Below.refl _ _)
  have zv := zeroValidator
  go_wp2
  go_loopw [5, 11] (fun v c wr => ∃ (k : Nat) (v' : Value), k ≤ n ∧ v = v' ∧ c = .int .i64 k ∧ wr.ownsRow W0.heap.size 22 1 v' (acL z e k).length (iv6 (acL z e k)) ∧ Below W0.heap.size W0 wr) (fun _ c _ => n - (intOf c).toNat)
  case atStart => exact ⟨0, _, by omega, rfl, rfl, World.ownsRow_nil _ _ _ _, Below.refl _ _⟩
  case round =>
    obtain ⟨k, v, hk, ev, rfl, ho, hw⟩ := hrel
    obtain rfl := ev.symm
    clear ev
    have c0 := HC.out wr hw
    by_cases hkn : k < n
    · have k1 : (k : Int) < (n : Int) := by omega
      have k2 : (0 : Int) ≤ (k : Int) := by omega
      have kw : IntKind.u64.wrap (k : Int) = (k : Int) := by rw [IntKind.wrap_u64]; omega
      rcases HE.out.below hw with h0 | ⟨b, off, ea, hbl, hc⟩
      · omega
      subst ea
      have lv := lvValidator_at (hc k hkn)
      have ix := fun W => ixValidator_run W b off n C k hkn
      obtain ⟨P, eP⟩ : ∃ P, off + 86 * k = P := ⟨_, rfl⟩
      rw [eP] at lv
      simp only [eP] at ix
      have hact := fun W : World => active_any (z k) e W
      have hln := acL_len z e k
      have hstep : acL z e (k + 1) = if actB (z k) e = true then acL z e k ++ [(k : Int)] else acL z e k := rfl
      obtain ⟨b', hb'⟩ : ∃ b, actB (z k) e = b := ⟨_, rfl⟩
      rw [hb'] at hact hstep
      obtain ⟨V, hV⟩ : ∃ V, z k = V := ⟨_, rfl⟩
      rw [hV] at lv hact
      have HACT := hid hact
      have HO := hid ho
      have HW := hid hw
      have HST := hid hstep
      have sv := svValidator_newv wr oValidator V
      obtain ⟨W1, hW1⟩ : ∃ W, wr.alloc (.cells (cel (sValidator V)) 82) = W := ⟨_, rfl⟩
      rw [hW1] at sv
      have r1 : W1.heap[wr.heap.size]? = some (.cells (cel (sValidator V)) 82) := by rw [← hW1]; exact heap_new rfl
      have hE1 : Below wr.heap.size wr W1 := by rw [← hW1]; exact (Below.refl _ _).alloc (Nat.le_refl _) _
      obtain ⟨y, ey⟩ : ∃ y, wr.heap.size = y := ⟨_, rfl⟩
      rw [ey] at sv r1
      have lw := lvValidator_row r1
      have ho' := own_below HO.out hE1
      have hw' := HW.out.trans (hE1.mono HW.out.size)
      clear HO HW
      have HO := hid ho'
      have HW := hid hw'
      clear hact ho hw hstep hc hbl eP hb' hV ho' hw' hE1 r1
      go_upto_region 5 with fail
      clear sv lv ix c0 hW1 ey
      cases b'
      · go_wp2_with (go_at_call 57; refine (HACT.out _).mono ?_; rintro e' w1 ⟨rfl, hb1⟩)
        have ho1 := own_below HO.out hb1
        have hw1 := HW.out.trans (hb1.mono HW.out.size)
        go_roundw
        case rel => exact ⟨k + 1, _, by omega, rfl, by go_num, by rw [HST.out]; exact ho1, hw1⟩
        case measure => simp [intOf]; omega
      · go_upto_region 6 with (go_at_call 57; refine (HACT.out _).mono ?_; rintro e' w1 ⟨rfl, hb1⟩)
        have ho1 := own_below HO.out hb1
        have hw1 := HW.out.trans (hb1.mono HW.out.size)
        have HO1 := hid ho1
        have HW1 := hid hw1
        clear ho1 hw1 hb1 HO HW lw
        go_wp2_with (at_builtin; (refine wpList_append_one w1 rfl _ _ rfl W0.heap.size v (acL z e k) (k : Int) rfl HO1.out rfl (by omega) HW1.out.size ?_); intro v2 w2 ho2 hg2)
        have hb2 := below_grown HW1.out HO1.out HW1.out.size hg2
        go_roundw
        case rel => exact ⟨k + 1, _, by omega, rfl, by go_num, by rw [HST.out]; exact ho2, hb2⟩
        case measure => simp [intOf]; omega
    · obtain rfl : k = n := by omega
      have HW := hid hw
      have HO := hid ho
      clear hw ho
      go_wp2
      obtain ⟨a', C', rfl, hn⟩ := own_nml HO.out
      go_ret
      exact ⟨a', C', rfl, hn, HB.out.trans (HW.out.mono (by omega))⟩

set_option maxHeartbeats 1000000 in
theorem isThere_any (x : VState) (i : Int) (w : World) (hn : x.f11.n ≤ 65536) :
    Calls Tryd.prog 56 #[.agg (cel (sState x)), .int .u64 i] w fun e' w' => e' = .returned (.bool (decide (i < (x.f11.n : Int)))) ∧ Below w.heap.size w w' := by
  obtain ⟨W0, hW0⟩ : ∃ W, w.alloc (.cells (cel (sState x)) 49) = W := ⟨_, rfl⟩
  have r0 : W0.heap[w.heap.size]? = some (.cells (cel (sState x)) 49) := by rw [← hW0]; exact heap_new rfl
  have hB0 : Below w.heap.size w W0 := by rw [← hW0]; exact (Below.refl _ _).alloc (Nat.le_refl _) _
  have c0 := cS11 r0
  generalize x.f11.a = A at *
  generalize x.f11.n = n at *
  generalize x.f11.c = C at *
  have nw : IntKind.u64.wrap (n : Int) = (n : Int) := by rw [IntKind.wrap_u64]; omega
  have HB := hid hB0
  have HW := hid hW0
  clear hB0 hW0 r0
  go_enter Tryd.func56, Tryd.ntmps56
  go_upto_region 1 with fail
  rw [HW.out]
  clear HW
  go_wp2
  go_ret
  exact ⟨ret_bool rfl, HB.out⟩

set_option maxHeartbeats 2000000 in
theorem total_any (x : VState) (a : Option Addr) (m cap : Nat) (f : Nat → Int) (w : World) (hx : Lk w x) (hf : Z.Nms .u64 w a m f) (hf0 : ∀ j, j < m → 0 ≤ f j ∧ f j < 18446744073709551616) (hm : m ≤ 65536) :
    Calls Tryd.prog 27 #[.agg (cel (sState x)), .slice a m cap] w fun e' w' => e' = .returned (.int .u64 (lst (ttl x.f11.z x.f11.n f m))) ∧ Below w.heap.size w w' := by
  obtain ⟨W0, hW0⟩ : ∃ W, w.alloc (.cells (cel (sState x)) 49) = W := ⟨_, rfl⟩
  have r0 : W0.heap[w.heap.size]? = some (.cells (cel (sState x)) 49) := by rw [← hW0]; exact heap_new rfl
  have hB0 : Below w.heap.size w W0 := by rw [← hW0]; exact (Below.refl _ _).alloc (Nat.le_refl _) _
  have z0 : w.heap.size < W0.heap.size := (Array.getElem?_eq_some_iff.1 r0).1
  have hcs : ∀ W : World, Below W0.heap.size W0 W → W.cell? ⟨w.heap.size, 721, none⟩ = some (.slice x.f11.a x.f11.n x.f11.c) := fun W h => cS11 ((h.block _ z0).trans r0)
  have hld : ∀ W : World, Below W0.heap.size W0 W → (lvState ⟨w.heap.size, 0, none⟩).run Tryd.prog W = .ok (.agg (cel (sState x))) W := fun W h => lvState_run ((h.block _ z0).trans r0)
  have his : ∀ (i : Int) (W : World), Calls Tryd.prog 56 #[.agg (cel (sState x)), .int .u64 i] W fun e' w' => e' = .returned (.bool (decide (i < (x.f11.n : Int)))) ∧ Below W.heap.size W w' := fun i W => isThere_any x i W hx.nb
  have hel := hx.el.below hB0
  have hnb := hx.nb
  have hef := hx.ef
  have hfb := hf.below hB0
  generalize x.f11.a = A at *
  generalize x.f11.n = n at *
  generalize x.f11.c = C at *
  generalize x.f11.z = z at *
  have hbd := fun k (hk : k ≤ m) => ttl_bd z n f hef k (fun j hj => (hf0 j (by omega)).1)
  have nw : IntKind.u64.wrap (n : Int) = (n : Int) := by rw [IntKind.wrap_u64]; omega
  have HB := hid hB0
  have HW := hid hW0
  have HC := hid hcs
  have HE := hid hel
  have HF := hid hfb
  have HF0 := hid hf0
  have HBD := hid hbd
  have HEF := hid hef
  have HLD := hid hld
  have HIS := hid his
  clear hld his hB0 hW0 r0 hcs hel hx hf hfb hf0 hbd hef
  go_enter Tryd.func27, Tryd.ntmps27
  go_upto_region 1 with fail
  rw [HW.out]
  clear HW
  go_wp2
  go_loopw [5, 10] (fun v c wr => ∃ (k : Nat), k ≤ m ∧ v = .int .u64 (ttl z n f k) ∧ c = .int .i64 k ∧ Below W0.heap.size W0 wr) (fun _ c _ => m - (intOf c).toNat)
  case atStart => exact ⟨0, by omega, rfl, rfl, Below.refl _ _⟩
  case round =>
    obtain ⟨k, hk, rfl, rfl, hw⟩ := hrel
    have hT := HBD.out k hk
    have hstep : ttl z n f (k + 1) = if f k < (n : Int) then ttl z n f k + (z (f k).toNat).f2 else ttl z n f k := rfl
    obtain ⟨T, eT⟩ : ∃ T, ttl z n f k = T := ⟨_, rfl⟩
    rw [eT] at hT hstep ⊢
    obtain ⟨t0, t1⟩ := hT
    by_cases hkm : k < m
    · have lx := HLD.out wr hw
      have k1 : (k : Int) < (m : Int) := by omega
      have k2 : (0 : Int) ≤ (k : Int) := by omega
      rcases HF.out.below hw with h0 | ⟨b2, o2, ea, hbl2, hc2⟩
      · omega
      subst ea
      have cf := hc2 k hkm
      have hfk := HF0.out k hkm
      have hef := HEF.out
      obtain ⟨q, hq⟩ : ∃ q : Nat, f k = (q : Int) := ⟨(f k).toNat, by omega⟩
      rw [hq] at cf hstep
      rw [Int.toNat_natCast] at hstep
      by_cases hqn : q < n
      · rcases HE.out.below hw with h0 | ⟨b, off, ea, hbl, hc⟩
        · omega
        subst ea
        have q1 : (q : Int) < (n : Int) := by omega
        have q2 : (0 : Int) ≤ (q : Int) := by omega
        have cv := val_eff (hc q hqn)
        have ix := fun W => ixValidator_u W b off n C q hqn
        obtain ⟨P, eP⟩ : ∃ P, off + 86 * q = P := ⟨_, rfl⟩
        rw [eP] at cv
        simp only [eP] at ix
        have hv := hef q hqn
        rw [if_pos q1] at hstep
        obtain ⟨V, eV⟩ : ∃ V, (z q).f2 = V := ⟨_, rfl⟩
        rw [eV] at cv hstep hv
        have wa : IntKind.u64.wrap (T + V) = T + V := by rw [IntKind.wrap_u64]; omega
        have HST := hid hstep
        have HW := hid hw
        have hat := fun W : World => HIS.out q W
        rw [show decide ((q : Int) < (n : Int)) = true by simp [q1]] at hat
        have HAT := hid hat
        have HCV := hid cv
        have HBL := hid hbl
        clear hat hstep hw hc hbl hc2 hbl2 hef eP eV eT hfk hq hv cv
        go_upto_region 6 with (go_at_call 56; refine (HAT.out _).mono ?_; rintro e' w1 ⟨rfl, hb1⟩)
        have hw1 := HW.out.trans (hb1.mono HW.out.size)
        have c0 := HC.out w1 hw1
        have cv := (below_cell hb1 HBL.out).trans HCV.out
        have HW1 := hid hw1
        clear hw1 hb1 HCV HBL lx cf
        go_wp2
        go_roundw
        case rel => exact ⟨k + 1, by omega, by rw [HST.out], by go_num, HW1.out⟩
        case measure => simp [intOf]; omega
      · have q1 : ¬ (q : Int) < (n : Int) := by omega
        rw [if_neg q1] at hstep
        have HST := hid hstep
        have HW := hid hw
        have hat := fun W : World => HIS.out q W
        rw [show decide ((q : Int) < (n : Int)) = false by simp [q1]] at hat
        have HAT := hid hat
        clear hat hstep hw hc2 hbl2 hef eT hfk hq
        go_wp2_with (go_at_call 56; refine (HAT.out _).mono ?_; rintro e' w1 ⟨rfl, hb1⟩)
        have hw1 := HW.out.trans (hb1.mono HW.out.size)
        go_roundw
        case rel => exact ⟨k + 1, by omega, by rw [HST.out], by go_num, hw1⟩
        case measure => simp [intOf]; omega
    · obtain rfl : k = m := by omega
      have eL : lst (ttl z n f k) = lst T := by rw [eT]
      have HW := hid hw
      have HEL := hid eL
      clear hw eT eL hstep
      by_cases hT : T < 1000000000
      · go_wp2
        go_ret
        exact ⟨ret_int (by rw [HEL.out]; unfold lst; split <;> omega), HB.out.trans (HW.out.mono (by omega))⟩
      · go_wp2
        go_ret
        exact ⟨ret_int (by rw [HEL.out]; unfold lst; split <;> omega), HB.out.trans (HW.out.mono (by omega))⟩

end Go.Proofs.YtficlakgameglaaDoor
