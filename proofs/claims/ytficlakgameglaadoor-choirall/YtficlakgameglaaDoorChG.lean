/-
  ChoirAll.
-/

import Derived.Test.YtficlakgameglaaDoorChF
import Derived.Test.YtficlakgameglaaDoorQQ
import Derived.Test.YtficlakgameglaaDoorQR
import Derived.BigQuiet
import Derived.Deep.QuietTactic
import Derived.BigRegion
import Derived.Test.YtficlakgameglaaDoorHaD
import Derived.Test.YtficlakgameglaaDoorQE
import Derived.Test.YtficlakgameglaaDoorQM
import Derived.ChangeKeysEq
import Derived.OpenShut
import Derived.WideShapes
namespace Go.Proofs.YtficlakgameglaaDoor

open Go.RowKit

set_option linter.unusedVariables false

set_option linter.unusedSimpArgs false

set_option maxRecDepth 20000

theorem open_bytes {H : Type} {enc : TypeId × Value → H} {P : Program} {W w : World} {r : Reach} {base b0 : Nat} {sp : Nat → Bool} {held : Bool} {t e : TypeId} {n : Nat} {v : Value} {d : DataW H} {p : List MemPlace}
    (ht : P.underlying t = some (.array n e)) (he : P.underlying e = some (.int .u8)) (hce : P.cellsOf e = 1) (hct : P.cellsOf t = n)
    (hv : Value.okWide P W r base t v) (h : DataW.Trod enc P w b0 sp held t v d p) : ∃ f : Nat → Int, v = .agg (vs .u8 n f) ∧ ∀ j, j < n → 0 ≤ f j ∧ f j < 256 := by
  unfold Value.okWide at hv
  rw [ht] at hv
  obtain ⟨cs, rfl, hs, _⟩ := hv
  rw [hct] at hs
  obtain ⟨fuel, hf⟩ := h
  obtain ⟨xs, m, rfl, _, _, hxl, hat⟩ := DataW.trod_array ht hf
  have hcell : ∀ i, i < n → ∃ z, cs[i]? = some (.int .u8 z) ∧ (Lit.int .u8 z).wf = true := by
    intro i hi
    have ha := hat i hi
    rw [List.getElem?_eq_getElem (by omega)] at ha
    obtain ⟨z, hc, _, hwf⟩ := DataW.trod_int he ha
    refine ⟨z, ?_, hwf⟩
    have := congrArg (·[0]?) hc
    simpa [hce, List.getElem?_take, List.getElem?_drop, Value.cells] using this
  refine ⟨byteOf cs, ?_, fun j hj => ?_⟩
  · congr 1
    apply Array.ext_getElem?
    intro i
    by_cases hi : i < n
    · obtain ⟨z, hz, _⟩ := hcell i hi
      rw [vs_get _ _ _ _ hi, hz]
      unfold byteOf
      rw [hz]
    · rw [vs_get_none _ _ _ _ (by omega), Array.getElem?_eq_none (by omega)]
  · obtain ⟨z, hz, hwf⟩ := hcell j hj
    have := bounds_u8 hwf
    unfold byteOf
    rw [hz]
    show 0 ≤ z ∧ z < 256
    omega

def svSyncAggregate (a : Addr) (v : Value) : Sem Unit := storeVar 58 a v

theorem svSyncAggregate_eq (a : Addr) (v : Value) : storeVar 58 a v = svSyncAggregate a v := rfl

theorem zeroSyncAggregate (W : World) : (zeroValue 58).run Tryd.prog W = .ok (.agg (cel (sSyncAggregate oSyncAggregate))) W := by kernel_rfl


theorem svSyncAggregate_newv (W : World) (o c : VSyncAggregate) : (svSyncAggregate ⟨W.heap.size, 0, none⟩ (.agg (cel (sSyncAggregate c)))).run Tryd.prog (W.alloc (.cells (cel (sSyncAggregate o)) 58)) = .ok () (W.alloc (.cells (cel (sSyncAggregate c)) 58)) :=
  run_storeVar_new W 58 _ _ (by rw [cel_size, slSyncAggregate]; kernel_rfl) (by rw [cel_size, cel_size, slSyncAggregate, slSyncAggregate]) (cel_one _)
theorem w64_in {n : Int} (h0 : 0 ≤ n) (h1 : n < 18446744073709551616) : w64 n = n := by unfold w64; rw [IntKind.wrap_u64]; omega

/-- What is paid changes balances alone. -/
theorem py_rest (x : VState) (m q : Int) (p : Nat) (b : Nat → Bool) : ∀ k, ∃ z, pyS x m q p b k = { x with f12 := ⟨x.f12.a, x.f12.n, x.f12.c, z⟩ }
  | 0 => ⟨x.f12.z, rfl⟩
  | k + 1 => by
    obtain ⟨z, e⟩ := py_rest x m q p b k
    cases hb : b k
    · rw [py_no x m q p hb, e]
      exact ⟨_, rfl⟩
    · rw [py_yes x m q p hb, e]
      exact ⟨_, rfl⟩

def b12 (X x : VState) : VState := { X with f12 := x.f12 }

theorem py_back {x X : VState} {m q : Int} {p : Nat} {b : Nat → Bool} {k : Nat} (h : SimF (pyS x m q p b k) X) : SimF x (b12 X x) := by
  obtain ⟨z, e⟩ := py_rest x m q p b k
  rw [e] at h
  exact ⟨h.e0, h.e1, h.e2, h.e3, h.e4, h.e5, h.e6, h.l7, h.z7, h.e8, h.l9, h.z9, h.e10, h.l11, h.z11, rfl, rfl, h.e13, h.e14, h.l15, h.z15, h.l16, h.z16, h.e17, h.e18, h.e19, h.e20, h.l21, h.z21, h.e22, h.e23⟩

/-- Of all that sign nobody loses; of none that signs nobody wins. -/
theorem py_up {x : VState} {m q : Int} (hm : 0 ≤ m ∧ m ≤ 4145152000) (hq : 0 ≤ q ∧ q ≤ 592164571) (p : Nat) {b : Nat → Bool} (hb : ∀ j, b j = true) (hz : ∀ j, j < x.f12.n → 0 ≤ x.f12.z j ∧ x.f12.z j ≤ 144115188075855872) (hl : x.f12.n = x.f11.n) (hp : p < x.f11.n) : ∀ k, k ≤ 8 → skA x k = true → ∀ j, j < x.f12.n → x.f12.z j ≤ (pyS x m q p b k).f12.z j ∧ (pyS x m q p b k).f12.z j ≤ x.f12.z j + 5000000000 * k
  | 0, _, _, j, _ => ⟨Int.le_refl _, by show x.f12.z j ≤ _; omega⟩
  | k + 1, hk, ha, j, hj => by
    have ha' : (skA x k && decide (skO x k < x.f11.n)) = true := ha
    simp only [Bool.and_eq_true, decide_eq_true_eq] at ha'
    have ih := py_up hm hq p hb hz hl hp k (by omega) ha'.1
    rw [py_yes x m q p (hb k)]
    generalize hZ : pyS x m q p b k = Z at *
    obtain ⟨o, eo⟩ : ∃ o, skO x k = o := ⟨_, rfl⟩
    rw [eo] at ha' ⊢
    have io := ih o (by omega)
    have zo := hz o (by omega)
    have ip := ih p (by omega)
    have zp := hz p (by omega)
    have ij := ih j hj
    have zj := hz j hj
    have w1 : w64 (Z.f12.z o + m) = Z.f12.z o + m := w64_in (by omega) (by omega)
    show x.f12.z j ≤ (if j = p then w64 ((if p = o then w64 (Z.f12.z o + m) else Z.f12.z p) + q) else if j = o then w64 (Z.f12.z o + m) else Z.f12.z j) ∧ (if j = p then w64 ((if p = o then w64 (Z.f12.z o + m) else Z.f12.z p) + q) else if j = o then w64 (Z.f12.z o + m) else Z.f12.z j) ≤ _
    rw [w1]
    by_cases h1 : j = p
    · rw [if_pos h1]
      subst h1
      by_cases h2 : j = o
      · rw [if_pos h2, w64_in (by omega) (by omega)]
        subst h2
        omega
      · rw [if_neg h2, w64_in (by omega) (by omega)]
        omega
    · rw [if_neg h1]
      by_cases h2 : j = o
      · rw [if_pos h2]
        subst h2
        omega
      · rw [if_neg h2]
        omega

theorem py_dn {x : VState} {m q : Int} (h : OkState x) (hl : x.f12.n = x.f11.n) (hm : 0 ≤ m) (p : Nat) {b : Nat → Bool} (hb : ∀ j, b j = false) : ∀ k, skA x k = true → ∀ j, j < x.f12.n → (pyS x m q p b k).f12.z j ≤ x.f12.z j
  | 0, _, j, _ => Int.le_refl _
  | k + 1, ha, j, hj => by
    have ha' : (skA x k && decide (skO x k < x.f11.n)) = true := ha
    simp only [Bool.and_eq_true, decide_eq_true_eq] at ha'
    have ih := py_dn (q := q) h hl hm p hb k ha'.1
    have hok := py_ok h hl (q := q) hm p b k ha'.1
    have hz := hok.o12 (skO x k) (by rw [(py_f x m q p b k).2.2.2.1]; omega)
    rw [py_no x m q p (hb k)]
    generalize hZ : pyS x m q p b k = Z at *
    show (if j = skO x k then lesV (Z.f12.z (skO x k)) m else Z.f12.z j) ≤ _
    by_cases h1 : j = skO x k
    · rw [if_pos h1]
      subst h1
      have := ih _ hj
      unfold lesV
      split <;> omega
    · rw [if_neg h1]
      exact ih j hj

/-- As many of all; what a balance is at most. -/
theorem py_asM {x : VState} {n : Nat} (h : AsM n x) (m q : Int) (p : Nat) (b : Nat → Bool) (k : Nat) : AsM n (pyS x m q p b k) := by
  obtain ⟨z, e⟩ := py_rest x m q p b k
  rw [e]
  exact ⟨h.m11, h.m12, h.m15, h.m16, h.m21⟩

theorem sum_ge {z : Nat → Int} : ∀ n, (∀ j, j < n → 0 ≤ z j) → 0 ≤ sumZ z n ∧ ∀ j, j < n → z j ≤ sumZ z n
  | 0, _ => ⟨Int.le_refl _, fun j hj => absurd hj (Nat.not_lt_zero _)⟩
  | n + 1, h => by
    have ih := sum_ge n fun j hj => h j (by omega)
    have hn := h n (by omega)
    have e : sumZ z (n + 1) = sumZ z n + z n := rfl
    rw [e]
    refine ⟨by omega, fun j hj => ?_⟩
    by_cases hj' : j < n
    · have := ih.2 j hj'
      omega
    · obtain rfl : j = n := by omega
      omega

theorem bal_most {x : VState} (hx : OkState x) (hR : rightB x = true) (j : Nat) (hj : j < x.f12.n) : 0 ≤ x.f12.z j ∧ x.f12.z j ≤ 144115188075855872 := by
  obtain ⟨b1, b2, b3, b4, b5, b6, b7, b8⟩ := and8 hR
  unfold togB at b7
  have h1 := of_decide_eq_true b7
  have h2 := (sum_ge x.f12.n fun i hi => (hx.o12 i hi).1).2 j hj
  exact ⟨(hx.o12 j hj).1, by omega⟩

/-- A state whose balances are laid back lies in memory. -/
theorem b12_in {w : World} {X x : VState} (h : InW w X) (hx : InW w x) : InW w (b12 X x) := ⟨h.i7, h.i9, h.i11, hx.i12, h.i15, h.i16, h.i21⟩

/-- An aggregate of all, one bit behind the other. -/
def agK (s : Nat → Int) (k : Nat) : VSyncAggregate := ⟨fun j => decide (j < k), s⟩

def agT (s : Nat → Int) : VSyncAggregate := ⟨fun _ => true, s⟩

theorem ag_sig0 (W : World) (s : Nat → Int) : (bdSyncAggregate #[(1, .agg (vs .u8 96 s))]).run Tryd.prog W = .ok (.agg (cel (sSyncAggregate (agK s 0)))) W := by kernel_rfl

theorem ag_put (s : Nat → Int) (k : Nat) (hk : k < 8) : (cel (sSyncAggregate (agK s k))).setIfInBounds k (.bool true) = cel (sSyncAggregate (agK s (k + 1))) := by
  rcases (by omega : k = 0 ∨ k = 1 ∨ k = 2 ∨ k = 3 ∨ k = 4 ∨ k = 5 ∨ k = 6 ∨ k = 7) with rfl | rfl | rfl | rfl | rfl | rfl | rfl | rfl
  all_goals kernel_rfl

theorem ag_8 (s : Nat → Int) : cel (sSyncAggregate (agK s 8)) = cel (sSyncAggregate (agT s)) := by kernel_rfl

theorem cyB_T (s : Nat → Int) : cyB (agT s) = false := by
  have h : skN (agT s).f0 8 = 8 := skN_all fun _ _ => rfl
  unfold cyB
  rw [h]
  rfl

theorem cyB_em : cyB emA = true := by kernel_rfl

theorem st12_put (X x : VState) (hn : X.f12.n = x.f12.n) : (cel (sState X)).setIfInBounds 722 (.slice x.f12.a x.f12.n x.f12.c) = cel (sState (b12 X x)) := by kernel_rfl

/-- What both of them answer. -/
structure CaF (x : VState) (r : Int) (s : Nat → Int) (E F : Int) : Prop where
  no : ¬ E = 0 → cyS x (agT s) r (fun _ => 0) 0 = oState ∧ (F = 0 → E = 2)
  yes : E = 0 → F = 0 ∧ cyK x (agT s) = 1 ∧ cyK x emA = 0 ∧ rightB x = true ∧ skA x 8 = true ∧ (∃ p : Nat, p < x.f11.n ∧ cyS x (agT s) r (fun _ => 0) 0 = pyS x (shM x r) (shQ x r) p (fun _ => true) 8 ∧ cyS x emA r (fun _ => 0) 0 = pyS x (shM x r) (shQ x r) p (fun _ => false) 8)

theorem ca_facts (x : VState) (r : Int) (s : Nat → Int) (hx : OkState x) (hr : rightB x = true → IsRut (allS x) r) : CaF x r s (cyE x (agT s) r (fun _ => 0) 0) (cyE x emA r (fun _ => 0) 0) := by
  have hg : gdB (cyQ x (agT s)) (fun _ => 0) 0 = true := rfl
  cases hR : rightB x
  · have e1 : cyE x (agT s) r (fun _ => 0) 0 = 1 := by unfold cyE; rw [hR]; rfl
    have e2 : cyE x emA r (fun _ => 0) 0 = 1 := by unfold cyE; rw [hR]; rfl
    refine ⟨fun _ => ⟨by unfold cyS; rw [e1]; rfl, fun h => ?_⟩, fun h => ?_⟩
    · rw [e2] at h; omega
    · rw [e1] at h; omega
  · by_cases h2 : x.f2 = 0
    · have e1 : cyE x (agT s) r (fun _ => 0) 0 = 20 := by unfold cyE; rw [hR, if_pos rfl, if_pos h2]
      have e2 : cyE x emA r (fun _ => 0) 0 = 20 := by unfold cyE; rw [hR, if_pos rfl, if_pos h2]
      refine ⟨fun _ => ⟨by unfold cyS; rw [e1]; rfl, fun h => ?_⟩, fun h => ?_⟩
      · rw [e2] at h; omega
      · rw [e1] at h; omega
    · have e1 : cyE x (agT s) r (fun _ => 0) 0 = pdE x r (fun _ => true) := by unfold cyE; rw [hR, if_pos rfl, if_neg h2, cyB_T, if_neg (by decide), if_pos hg]; rfl
      have e2 : cyE x emA r (fun _ => 0) 0 = pdE x r (fun _ => false) := by unfold cyE; rw [hR, if_pos rfl, if_neg h2, cyB_em, if_pos rfl]; rfl
      have hk1 : cyK x (agT s) = 1 := by unfold cyK; rw [hR, if_pos rfl, if_neg h2, cyB_T]; rfl
      have hk2 : cyK x emA = 0 := by unfold cyK; rw [hR, if_pos rfl, if_neg h2, cyB_em]; rfl
      have hrg := (rightB_out hR).rg hx
      have hsb := sh_bd hrg (hr hR)
      have hno : ∀ E, ¬ E = 0 → pdE x r (fun _ => true) = E → cyS x (agT s) r (fun _ => 0) 0 = oState := fun E h h' => by
        unfold cyS
        rw [e1, h', if_neg h]
      by_cases hp : prE x = 0
      · obtain ⟨p, hpv, hpn⟩ := pr_in hp
        have hpt : (prV x).toNat = p := by rw [hpv]; rfl
        cases hA : skA x 8
        · have p1 : ∀ b, pdE x r b = 27 := fun b => by unfold pdE; rw [hp, if_pos rfl, hA]; rfl
          rw [e1, e2, p1, p1]
          refine ⟨fun _ => ⟨hno 27 (by decide) (p1 _), fun h => ?_⟩, fun h => ?_⟩
          · omega
          · omega
        · have p1 : ∀ b, pdE x r b = if rightB (pyS x (shM x r) (shQ x r) p b 8) = true then 0 else 2 := fun b => by unfold pdE; rw [hp, if_pos rfl, hA, if_pos rfl, hpt]
          have hdn := py_dn (q := shQ x r) hx hrg.ln hsb.1.1 p (b := fun _ => false) (fun _ => rfl) 8 hA
          have hR2 : rightB (pyS x (shM x r) (shQ x r) p (fun _ => false) 8) = true := by
            obtain ⟨z, e⟩ := py_rest x (shM x r) (shQ x r) p (fun _ => false) 8
            rw [e] at hdn ⊢
            exact right_less (z12 := z) (z21 := x.f21.z) (s14 := x.f14) (sl := x.f4.f0) hR hdn (fun _ _ => Int.le_refl _) (fun _ _ => Int.le_refl _) (Int.le_refl _)
          rw [e1, e2]
          have e0 : pdE x r (fun _ => false) = 0 := by rw [p1, hR2]; rfl
          rw [e0]
          cases hR1 : rightB (pyS x (shM x r) (shQ x r) p (fun _ => true) 8)
          · have e3 : pdE x r (fun _ => true) = 2 := by rw [p1, hR1]; rfl
            rw [e3]
            refine ⟨fun _ => ⟨hno 2 (by decide) e3, fun _ => rfl⟩, fun h => ?_⟩
            omega
          · have e3 : pdE x r (fun _ => true) = 0 := by rw [p1, hR1]; rfl
            rw [e3]
            refine ⟨fun h => absurd rfl h, fun _ => ⟨rfl, hk1, hk2, hR, hA, p, hpn, ?_, ?_⟩⟩
            · unfold cyS
              rw [e1, e3, if_pos rfl]
              unfold pdS
              rw [show pdE x r (agT s).f0 = 0 from e3, if_pos rfl, hpt]
              rfl
            · unfold cyS
              rw [e2, e0, if_pos rfl]
              unfold pdS
              rw [show pdE x r emA.f0 = 0 from e0, if_pos rfl, hpt]
              rfl
      · have p1 : ∀ b, pdE x r b = prE x := fun b => by unfold pdE; rw [if_neg hp]
        rw [e1, e2, p1, p1]
        exact ⟨fun _ => ⟨hno _ hp (p1 _), fun h => absurd h hp⟩, fun h => absurd h hp⟩

attribute [local go_sem ↓] lvState_eq svState_eq bdState_eq lvSyncAggregate_eq svSyncAggregate_eq bdSyncAggregate_eq bdSg_eq lvSg_eq ixU_eq

set_option maxHeartbeats 16000000 in
theorem choirAll_law (x : VState) (s : Nat → Int) (w : World) (hx : OkState x) (hw : InW w x) (hn : NilW x) (hl : Lns x) (hs : ∀ j, j < 96 → 0 ≤ s j ∧ s j < 256) (hS : Sh w) :
    Calls Tryd.prog 4 #[.agg (cel (sState x)), .agg (vs .u8 96 s)] w fun e' w' => e' = .returned (.bool true) ∧ Below w.heap.size w w' := by
  obtain ⟨W0, hW0⟩ : ∃ W, (w.alloc (.cells (cel (sState x)) 49)).alloc (.cells (vs .u8 96 s) 55) = W := ⟨_, rfl⟩
  have r0 : W0.heap[w.heap.size]? = some (.cells (cel (sState x)) 49) := by rw [← hW0]; exact (heap_old (by simp)).trans (heap_new rfl)
  have r1 : W0.heap[w.heap.size + 1]? = some (.cells (vs .u8 96 s) 55) := by rw [← hW0]; exact heap_new (by simp)
  have hB0 : Up w W0 := by rw [← hW0]; exact ((Below.refl _ _).alloc (Nat.le_refl _) _).alloc (by simp) _
  have haw := awake21 W0 (hS.below hB0)
  obtain ⟨r, hr⟩ : ∃ r, IsRut (allS x) r := by
    have h0 : 1000000000 ≤ allS x := by unfold allS lst; split <;> omega
    obtain ⟨r, hr⟩ := root_ex (allS x).toNat
    exact ⟨r, by rw [Int.toNat_of_nonneg (by omega)] at hr; exact hr⟩
  have hcf := ca_facts x r s hx fun _ => hr
  have h1 : ∀ W, Up w W → Calls Tryd.prog 8 #[.agg (cel (sState x)), .agg (cel (sSyncAggregate (agT s))), .slice none 0 0] W fun e' w' => ∃ (X : VState) (a : Option Addr) (c : Nat), e' = .returned (.tuple #[.agg (cel (sState X)), .slice a (cyK x (agT s)) c, .int .i64 (cyE x (agT s) r (fun _ => 0) 0)]) ∧ Res W.heap.size w' (cyS x (agT s) r (fun _ => 0) 0) X ∧ Below W.heap.size W w' := fun W h => by
    refine (csync_prog x (agT s) r none 0 0 (fun _ => 0) W hx (hw.below h) hn hl hs hr (.inl ⟨rfl, rfl, rfl⟩) (by omega) (hS.below h)).mono ?_
    rintro e' w' ⟨X, a, c, he, hres, _, _, hb⟩
    exact ⟨X, a, c, he, hres, hb⟩
  have h2 : ∀ W, Up w W → Calls Tryd.prog 8 #[.agg (cel (sState x)), .agg (cel (sSyncAggregate emA)), .slice none 0 0] W fun e' w' => ∃ (X : VState) (a : Option Addr) (c : Nat), e' = .returned (.tuple #[.agg (cel (sState X)), .slice a (cyK x emA) c, .int .i64 (cyE x emA r (fun _ => 0) 0)]) ∧ Res W.heap.size w' (cyS x emA r (fun _ => 0) 0) X ∧ Below W.heap.size W w' := fun W h => by
    refine (csync_prog x emA r none 0 0 (fun _ => 0) W hx (hw.below h) hn hl (fun j _ => emG_bd j) hr (.inl ⟨rfl, rfl, rfl⟩) (by omega) (hS.below h)).mono ?_
    rintro e' w' ⟨X, a, c, he, hres, _, _, hb⟩
    exact ⟨X, a, c, he, hres, hb⟩
  obtain ⟨E, eE⟩ : ∃ e, cyE x (agT s) r (fun _ => 0) 0 = e := ⟨_, rfl⟩
  obtain ⟨F, eF⟩ : ∃ e, cyE x emA r (fun _ => 0) 0 = e := ⟨_, rfl⟩
  rw [eE, eF] at hcf
  simp only [eE] at h1
  simp only [eF] at h2
  obtain ⟨K1, eK1⟩ : ∃ e, cyK x (agT s) = e := ⟨_, rfl⟩
  obtain ⟨K2, eK2⟩ : ∃ e, cyK x emA = e := ⟨_, rfl⟩
  simp only [eK1] at h1
  simp only [eK2] at h2
  have hlx : ∀ W, Up W0 W → (lvState ⟨w.heap.size, 0, none⟩).run Tryd.prog W = .ok (.agg (cel (sState x))) W := fun W h => lvState_run (upR h r0)
  have hls : ∀ W, Up W0 W → (lvSg ⟨w.heap.size + 1, 0, none⟩).run Tryd.prog W = .ok (.agg (vs .u8 96 s)) W := fun W h => lvSg_run (upR h r1)
  have hel := (hw.below hB0).i12
  have HAW := hid haw
  have HCF := hid hcf
  have H1 := hid h1
  have H2 := hid h2
  have HLX := hid hlx
  have HLS := hid hls
  have HEL := hid hel
  have HB := hid hB0
  have HW := hid hW0
  have HX := hid hx
  have HIW := hid (hw.below hB0)
  have HRR := hid hr
  have HK1 := hid eK1
  have HK2 := hid eK2
  have R0 := hid r0
  have b2 := bdSg_192
  have b3 := bdAg_em
  have b4 := fun W => ag_sig0 W s
  have z := zeroState
  obtain ⟨xo, exo⟩ : ∃ q, oState = q := ⟨_, rfl⟩
  rw [exo] at z
  have HXO := hid exo
  have z0 : w.heap.size + 1 < W0.heap.size := some_ltK r1
  clear haw hcf h1 h2 hlx hls hel hB0 hW0 r0 r1 hx hw hn hl hs hS hr eE eF eK1 eK2 exo
  obtain ⟨EG, eEG⟩ : ∃ q, vs .u8 96 emG = q := ⟨_, rfl⟩
  rw [eEG] at b2 b3
  clear eEG
  go_enter Tryd.func4, Tryd.ntmps4
  go_upto_region 1 with fail
  rw [HW.out]
  clear HW
  go_upto_region 3 with (go_at_call 5; refine HAW.out.mono ?_; rintro e' w1 ⟨rfl, hb1⟩; have ls1 := HLS.out w1 hb1)
  have zA := zeroSyncAggregate
  have sv := svSyncAggregate_newv w1 oSyncAggregate (agK s 0)
  go_upto_region 4 with fail
  obtain ⟨V1, y5, hV1, ey5, r5, hd1, hy5⟩ := upN2 hb1 (.cells (cel (sSyncAggregate (agK s 0))) 58)
  rw [hV1, ey5]
  have HU1 := hid (upT hb1 hd1)
  have HY5 := hid (show W0.heap.size ≤ y5 by have := hb1.size; omega)
  have R5 := hid r5
  clear hV1 ey5 r5 hd1 hy5 hb1 HAW HLS zA sv ls1 b4
  go_wp2
  go_loopw [6] (fun i wr => ∃ k : Nat, k ≤ 8 ∧ i = .int .i64 k ∧ wr.heap[y5]? = some (.cells (cel (sSyncAggregate (agK s k))) 58) ∧ Up W0 wr) (fun i _ => 8 - (intOf i).toNat)
  case atStart => exact ⟨0, by omega, rfl, R5.out, HU1.out⟩
  case round =>
    obtain ⟨k, hk, rfl, hrk, hu⟩ := hrel
    by_cases hk8 : k < 8
    · have k1 : (k : Int) < 8 := by omega
      have k0 : (0 : Int) ≤ (k : Int) := by omega
      have fz := row_frozen hrk k
      have ck := ag_bit hrk k hk8
      have hnx : (wr.setCell ⟨y5, k, none⟩ (.bool true)).heap[y5]? = some (.cells (cel (sSyncAggregate (agK s (k + 1)))) 58) := (row_set hrk k _).trans (congrArg (fun c => some (Obj.cells c 58)) (ag_put s k hk8))
      have hux : Up W0 (wr.setCell ⟨y5, k, none⟩ (.bool true)) := hu.trans (((Kept.refl y5 wr).setCell k (.bool true)).below (B := W0.heap.size) HY5.out hu.size)
      have HNX := hid hnx
      have HUX := hid hux
      clear hrk hu hnx hux
      go_wp2
      go_roundw
      case rel => exact ⟨k + 1, by omega, by go_num, HNX.out, HUX.out⟩
      case measure => simp [intOf]; omega
    · obtain rfl : k = 8 := by omega
      have kN : ¬ ((8 : Nat) : Int) < 8 := by omega
      rw [ag_8] at hrk
      have la := lvAg_run hrk
      have lx := HLX.out wr hu
      have H1w := hid (H1.out wr (upT HB.out hu))
      have HU8 := hid hu
      clear hrk hu H1 R5 HU1
      go_upto_region 9 with (go_at_call 8; refine H1w.out.mono ?_; rintro e' w2 ⟨X, a1, c1, rfl, hres, hb2⟩; have sv := svState_newv w2 xo X; have HRX := hid hres; have HAW2 := hid (fun (y : Nat) (h : w2.heap.size ≤ y) => hres.inw.aw h); have HB2 := hid hb2; clear hres hb2)
      obtain ⟨V2, y7, hV2, ey7, r7, hd2, hy7⟩ := upN2 HB2.out (.cells (cel (sState X)) 49)
      have hy7' : w2.heap.size ≤ y7 := Nat.le_of_eq ey7
      rw [hV2, ey7]
      have hd2z : w2.heap.size ≤ V2.heap.size := hd2.size
      have HRX2 := hid (HRX.out.below hd2)
      have ly7z : y7 < V2.heap.size := some_ltK r7
      have HAX7 := hid (HAW2.out y7 hy7')
      have hu2 := upT HU8.out (upT HB2.out hd2)
      have lx2 := HLX.out V2 hu2
      have R7 := hid r7
      have HU2 := hid hu2
      have HY7 := hid (show W0.heap.size ≤ y7 by have := HU8.out.size; omega)
      have H2w := hid (H2.out V2 (upT HB.out hu2))
      clear hV2 ey7 r7 hd2 hy7 hy7' hu2 HRX HB2 sv H2 H1w la lx HU8
      go_upto_region 10 with (go_at_call 8; refine H2w.out.mono ?_; rintro e' w3 ⟨Z, a2, c2, rfl, hres, hb3⟩; have sv := svState_newv w3 xo Z; have HRZ := hid hres; have HAW3 := hid (fun (y : Nat) (h : w3.heap.size ≤ y) => hres.inw.aw h); have HB3 := hid hb3; clear hres hb3)
      obtain ⟨V3, y10, hV3, ey10, r10, hd3, hy10⟩ := upN2 HB3.out (.cells (cel (sState Z)) 49)
      rw [hV3, ey10]
      have hy10' : w3.heap.size ≤ y10 := Nat.le_of_eq ey10
      have HRZ3 := hid (HRZ.out.below hd3)
      have HAZ10 := hid (HAW3.out y10 hy10')
      have HAZ7 := hid (HRZ.out.new.aw ly7z)
      have HAX10 := hid (HAW2.out y10 (by have := hd2z; have := HB3.out.size; omega))
      have h23 := upT HB3.out hd3
      have hu3 := upT HU2.out h23
      have R73 := hid (upR h23 R7.out)
      have HRX3 := hid (HRX2.out.below h23)
      have R10 := hid r10
      have HU3 := hid hu3
      have hne : y10 ≠ y7 := by
        have := some_ltK R7.out
        have := HB3.out.size
        omega
      have HNE := hid hne
      have HY10 := hid (show W0.heap.size ≤ y10 by have := HU2.out.size; have := HB3.out.size; omega)
      clear hV3 ey10 r10 hd3 hy10 hy10' h23 hu3 hne hd2z ly7z HAW2 HAW3 HRX2 HRZ HB3 sv H2w lx2 HU2 R7 b2 b3
      by_cases hE : E = 0
      · subst hE
        obtain ⟨rfl, hk1, hk2, hRt, hA, p, hpn, hS1, hS2⟩ := HCF.out.yes rfl
        have eK1 := HK1.out.symm.trans hk1
        have eK2 := HK2.out.symm.trans hk2
        subst eK1 eK2
        have hX := HRX3.out.sim
        rw [hS1] at hX
        have hZ := HRZ3.out.sim
        rw [hS2] at hZ
        have hrg := (rightB_out hRt).rg HX.out
        have hsb := sh_bd hrg HRR.out
        have hall := (rightB_out hRt).asM
        have hln := hrg.ln
        have hup := py_up hsb.1 hsb.2 p (b := fun _ => true) (fun _ => rfl) (fun j hj => bal_most HX.out hRt j hj) hln hpn 8 (Nat.le_refl _) hA
        have hdn := py_dn (q := shQ x r) HX.out hln hsb.1.1 p (b := fun _ => false) (fun _ => rfl) 8 hA
        have hXn : X.f12.n = x.f12.n := by rw [hX.l12]; exact (py_f x _ _ _ _ 8).2.2.2.1
        have hZn : Z.f12.n = x.f12.n := by rw [hZ.l12]; exact (py_f x _ _ _ _ 8).2.2.2.1
        have hXz : ∀ j, j < x.f12.n → x.f12.z j ≤ X.f12.z j := fun j hj => by rw [hX.z12]; exact (hup j hj).1
        have hZz : ∀ j, j < x.f12.n → Z.f12.z j ≤ x.f12.z j := fun j hj => by rw [hZ.z12]; exact hdn j hj
        have hbX := py_back hX
        have hbZ := py_back hZ
        have hl1 := fun W => rlike_any x X x.f11.n W hall ((py_asM hall _ _ _ _ _).sim hX)
        have hl2 := fun W => rlike_any x Z x.f11.n W hall ((py_asM hall _ _ _ _ _).sim hZ)
        have hokX : OkState (b12 X x) := okF_sim hbX HX.out
        have hokZ : OkState (b12 Z x) := okF_sim hbZ HX.out
        have hs1 := fun (W : World) (hix : InW W x) (hiy : InW W (b12 X x)) => rsame_sim x (b12 X x) W HX.out hix hiy hbX
        have hs2 := fun (W : World) (hix : InW W x) (hiy : InW W (b12 Z x)) => rsame_sim x (b12 Z x) W HX.out hix hiy hbZ
        have HL1 := hid hl1
        have HL2 := hid hl2
        have HS1 := hid hs1
        have HS2 := hid hs2
        have HXZ := hid hXz
        have HZZ := hid hZz
        have HXN := hid hXn
        have HNB := hid (show x.f12.n ≤ 65536 by rw [hln]; exact hrg.nb)
        have HZN := hid hZn
        clear hS1 hS2 hX hZ hrg hsb hall hln hup hdn hXn hZn hXz hZz hbX hbZ hl1 hl2 hokX hokZ hs1 hs2 hA hk1 hk2 HCF
        have lx3 := HLX.out V3 HU3.out
        have ly3 := lvState_run R73.out
        go_upto_region 14 with (first
          | (go_at_call 9; (fail_if_success (have hq9 := hb4)); refine (HL1.out _).mono ?_; rintro e' w4 ⟨rfl, hb4⟩; have lx4 := HLX.out w4 (upT HU3.out hb4); have lz4 := lvState_run (upR hb4 R10.out))
          | (go_at_call 9; refine (HL2.out _).mono ?_; rintro e' w5 ⟨rfl, hb5⟩))
        have h35 := upT hb4 hb5
        have HU5 := hid (upT HU3.out h35)
        have R75 := hid (upR h35 R73.out)
        have R105 := hid (upR h35 R10.out)
        have HRX5 := hid (HRX3.out.below h35)
        have HRZ5 := hid (HRZ3.out.below h35)
        obtain ⟨V5, eV5⟩ : ∃ V, w5 = V := ⟨_, rfl⟩
        rw [eV5] at HU5 R75 R105 HRX5 HRZ5 ⊢
        clear eV5 hb4 hb5 h35 lx4 lz4 lx3 ly3 HL1 HL2 HRX3 HRZ3 R73 R10 HU3
        go_wp2
        go_loopw [13] (fun i wr => ∃ k : Nat, k ≤ x.f12.n ∧ i = .int .i64 k ∧ Up V5 wr) (fun i _ => x.f12.n - (intOf i).toNat)
        case atStart => exact ⟨0, by omega, rfl, Below.refl _ _⟩
        case round =>
          obtain ⟨k, hk, rfl, hu⟩ := hrel
          have HUW := hid hu
          by_cases hkn : k < x.f12.n
          · have hvx := HXZ.out k hkn
            have hvz := HZZ.out k hkn
            have k1 : (k : Int) < (x.f12.n : Int) := by omega
            have hc12 := fun m => cS12 (upR (upT HU5.out (below_drewN hu m)) R0.out)
            have hy12 := fun m => cS12 (upR (below_drewN hu m) R75.out)
            have hz12 := fun m => cS12 (upR (below_drewN hu m) R105.out)
            have c12 := cS12 (upR (upT HU5.out hu) R0.out)
            rw [HXN.out] at hy12
            rw [HZN.out] at hz12
            rcases HEL.out with h0 | ⟨bx, ox, ex, hbx, hcx⟩
            · omega
            rcases HRX5.out.inw.i12 with h0 | ⟨by', oy, ey, hby, hcy⟩
            · have := HXN.out; omega
            rcases HRZ5.out.inw.i12 with h0 | ⟨bz, oz, ez, hbz, hcz⟩
            · have := HZN.out; omega
            rw [ex] at c12
            simp only [ex] at hc12
            simp only [ey] at hy12
            simp only [ez] at hz12
            have vx := fun m => (below_cell (upT HU5.out (below_drewN hu m)) hbx).trans (hcx k hkn)
            have vy := fun m => (below_cell (below_drewN hu m) hby).trans (hcy k (by rw [HXN.out]; exact hkn))
            have vz := fun m => (below_cell (below_drewN hu m) hbz).trans (hcz k (by rw [HZN.out]; exact hkn))
            have i1 := fun W => ixU_run W bx ox x.f12.n x.f12.c k hkn
            have i2 := fun W => ixU_run W by' oy x.f12.n X.f12.c k hkn
            have i3 := fun W => ixU_run W bz oz x.f12.n Z.f12.c k hkn
            obtain ⟨VX, eVX⟩ : ∃ v, x.f12.z k = v := ⟨_, rfl⟩
            obtain ⟨VY, eVY⟩ : ∃ v, X.f12.z k = v := ⟨_, rfl⟩
            obtain ⟨VZ, eVZ⟩ : ∃ v, Z.f12.z k = v := ⟨_, rfl⟩
            rw [eVX, eVY] at hvx
            rw [eVX, eVZ] at hvz
            simp only [eVX] at vx
            simp only [eVY] at vy
            simp only [eVZ] at vz
            obtain ⟨PX, ePX⟩ : ∃ v, ox + k = v := ⟨_, rfl⟩
            obtain ⟨PY, ePY⟩ : ∃ v, oy + k = v := ⟨_, rfl⟩
            obtain ⟨PZ, ePZ⟩ : ∃ v, oz + k = v := ⟨_, rfl⟩
            simp only [ePX] at vx i1
            simp only [ePY] at vy i2
            simp only [ePZ] at vz i3
            have kw : IntKind.i64.wrap ((k : Int) + 1) = (k : Int) + 1 := by rw [IntKind.wrap_i64]; have := HNB.out; omega
            have n1 : ¬ VY < VX := by omega
            have n2 : ¬ VX < VZ := by omega
            clear hu hcx hcy hcz hbx hby hbz ex ey ez ePX ePY ePZ eVX eVY eVZ
            go_upto_region 17 with fail
            clear c12
            go_quiet (fail)
            go_wp2
            go_roundw
            case rel => exact ⟨k + 1, by omega, by go_num, below_drewN HUW.out _⟩
            case measure => simp [intOf]; omega
          · obtain rfl : k = x.f12.n := by omega
            have kN : ¬ (x.f12.n : Int) < (x.f12.n : Int) := by omega
            have c12 := cS12 (upR (upT HU5.out hu) R0.out)
            have r7w := upR hu R75.out
            have fz7 := row_frozen r7w 722
            have cy7 := cS12 r7w
            have hn7 : (wr.setCell ⟨y7, 722, none⟩ (.slice x.f12.a x.f12.n x.f12.c)).heap[y7]? = some (.cells (cel (sState (b12 X x))) 49) := (row_set r7w 722 _).trans (congrArg (fun c => some (Obj.cells c 49)) (st12_put X x HXN.out))
            have k7 : Kept y7 wr (wr.setCell ⟨y7, 722, none⟩ (.slice x.f12.a x.f12.n x.f12.c)) := (Kept.refl y7 wr).setCell _ _
            have hu0 := upT HU5.out hu
            have hu6 : Up W0 (wr.setCell ⟨y7, 722, none⟩ (.slice x.f12.a x.f12.n x.f12.c)) := hu0.trans (k7.below (B := W0.heap.size) HY7.out hu0.size)
            have r10w := (k7.block y10 (some_ltK (upR hu R105.out)) HNE.out).trans (upR hu R105.out)
            have hix := (HRX5.out.inw.below hu).kept (HAX7.out) k7
            have hiz := (HRZ5.out.inw.below hu).kept (HAZ7.out) k7
            have HR7 := hid hn7
            have HU6 := hid hu6
            have HR10 := hid r10w
            have HIX := hid hix
            have HIZ := hid hiz
            clear hu hn7 k7 hu0 hu6 r10w hix hiz r7w HUW
            go_upto_region 20 with fail
            obtain ⟨V6, hV6⟩ : ∃ V, wr.setCell ⟨y7, 722, none⟩ (.slice x.f12.a x.f12.n x.f12.c) = V := ⟨_, rfl⟩
            rw [hV6] at HR7 HU6 HR10 HIX HIZ ⊢
            clear hV6 c12 fz7 cy7
            have c12 := cS12 (upR HU6.out R0.out)
            have fz10 := row_frozen HR10.out 722
            have cz10 := cS12 HR10.out
            have hn10 : (V6.setCell ⟨y10, 722, none⟩ (.slice x.f12.a x.f12.n x.f12.c)).heap[y10]? = some (.cells (cel (sState (b12 Z x))) 49) := (row_set HR10.out 722 _).trans (congrArg (fun c => some (Obj.cells c 49)) (st12_put Z x HZN.out))
            have k10 : Kept y10 V6 (V6.setCell ⟨y10, 722, none⟩ (.slice x.f12.a x.f12.n x.f12.c)) := (Kept.refl y10 V6).setCell _ _
            have hu7 : Up W0 (V6.setCell ⟨y10, 722, none⟩ (.slice x.f12.a x.f12.n x.f12.c)) := HU6.out.trans (k10.below (B := W0.heap.size) HY10.out HU6.out.size)
            have r7x := (k10.block y7 (some_ltK HR7.out) (Ne.symm HNE.out)).trans HR7.out
            have hix := b12_in (HIX.out.kept HAX10.out k10) (HIW.out.below hu7)
            have hiz := b12_in (HIZ.out.kept HAZ10.out k10) (HIW.out.below hu7)
            have hi0 := HIW.out.below hu7
            have HR10' := hid hn10
            have HU7 := hid hu7
            have HR7' := hid r7x
            have HIX' := hid hix
            have HIZ' := hid hiz
            have HI0 := hid hi0
            clear hn10 k10 hu7 r7x hix hiz hi0 HIX HIZ HR7
            go_upto_region 21 with fail
            obtain ⟨V7, hV7⟩ : ∃ V, V6.setCell ⟨y10, 722, none⟩ (.slice x.f12.a x.f12.n x.f12.c) = V := ⟨_, rfl⟩
            rw [hV7] at HR10' HU7 HR7' HIX' HIZ' HI0 ⊢
            clear hV7 c12 fz10 cz10
            have lx7 := HLX.out V7 HU7.out
            have ly7 := lvState_run HR7'.out
            have hS1 := HS1.out V7 HI0.out HIX'.out
            have HSA := hid hS1
            have HSB := hid (fun (W : World) (h : Up V7 W) => HS2.out W (HI0.out.below h) (HIZ'.out.below h))
            clear hS1 HS1 HS2
            go_wp2_with (first
              | (go_at_call 10; (fail_if_success (have hq9 := hb8)); refine HSA.out.mono ?_; rintro e' w8 ⟨rfl, hb8⟩; have lx8 := HLX.out w8 (upT HU7.out hb8); have lz8 := lvState_run (upR hb8 HR10'.out))
              | (go_at_call 10; refine (HSB.out w8 hb8).mono ?_; rintro e' w9 ⟨rfl, hb9⟩))
            go_ret
            exact ⟨rfl, upT HB.out (upT HU7.out (upT hb8 hb9))⟩
      · obtain ⟨hS1, hF2⟩ := HCF.out.no hE
        have hE2 : (E != 0) = true := by simp [hE]
        have hX := HRX3.out.sim
        rw [hS1] at hX
        have hn0 : X.f11.n = 0 := hX.l11
        have c11 := cS11 R73.out
        rw [hn0] at c11
        clear hS1 hX hn0 HCF
        by_cases hF : F = 0
        · subst hF
          obtain rfl := hF2 rfl
          go_wp2
          go_ret
          exact ⟨rfl, upT HB.out HU3.out⟩
        · have hF2 : (F != 0) = true := by simp [hF]
          go_wp2
          go_ret
          exact ⟨rfl, upT HB.out HU3.out⟩

end Go.Proofs.YtficlakgameglaaDoor
