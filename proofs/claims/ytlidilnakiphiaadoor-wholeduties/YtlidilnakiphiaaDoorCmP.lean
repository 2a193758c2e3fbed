/-
  What the program's Count and Of answer (the code of faf6342).
-/

import Derived.Test.YtlidilnakiphiaaDoorCmD
import Derived.Test.YtlidilnakiphiaaDoorLkR
import Derived.Test.YtlidilnakiphiaaDoorLkP
import Derived.BigQuiet

import Derived.Deep.QuietTactic

namespace Go.Proofs.YtlidilnakiphiaaDoor

open Go.RowKit

set_option linter.unusedVariables false

set_option linter.unusedSimpArgs false

set_option maxRecDepth 20000

/-- A slice of numbers cut, whole. -/
def slU (x : Value) (lo hi : Option Value) : Sem Value := Instr.sliceAt 37 x lo hi none

theorem slU_eq (x : Value) (lo hi : Option Value) : Instr.sliceAt 37 x lo hi none = slU x lo hi := rfl

theorem slU_run (W : World) (ao : Option Addr) (len cap lo hi : Nat) (h1 : lo ≤ hi) (h2 : hi ≤ cap) :
    (slU (.slice ao len cap) (some (.int .u64 lo)) (some (.int .u64 hi))).run Tryd.prog W = .ok (.slice (if cap = lo then ao else ao.map (·.add lo)) (hi - lo) (cap - lo)) W := by
  have hi8 : ∃ i, Tryd.prog.info? 22 = some i ∧ i.size = 1 := by
    obtain ⟨i, hi, _, hz, _⟩ := info_parts info64
    exact ⟨i, hi, hz⟩
  obtain ⟨i, hi8, hz⟩ := hi8
  have b1 : ∀ (k n : Nat) (c : BoundsCode), k ≤ n → (Instr.sliceBound (.int .u64 (k : Int)) n c).run Tryd.prog W = .ok k W := by
    intro k n c hk
    have h0 : (k : Int) ≤ (n : Int) := by omega
    simp [Instr.sliceBound, asIntOf, h0]
  have c1 := fun c => b1 lo hi c h1
  have c2 := fun c => b1 hi cap c (by omega)
  unfold slU Instr.sliceAt
  simp [run_underlying Tryd.underlying37, Instr.slice, Instr.sliceBounds, c1, c2, sizeOf, typeInfo, hi8, hz]

theorem n64_part {w : World} {ao : Option Addr} {len cap : Nat} {m : Nat → Int} (h : N64 w ao len m) (hc : len ≤ cap) (lo hi : Nat) (h1 : lo ≤ hi) (h2 : hi ≤ len) :
    N64 w (if cap = lo then ao else ao.map (·.add lo)) (hi - lo) (fun j => m (lo + j)) := by
  rcases h with rfl | ⟨b, off, rfl, h5, h6⟩
  · exact .inl (by omega)
  · by_cases hq : cap = lo
    · exact .inl (by omega)
    · rw [if_neg hq]
      refine .inr ⟨b, off + lo, by rw [Option.map_some, addr_add], h5, fun j hj => ?_⟩
      rw [Nat.add_assoc]
      exact h6 (lo + j) (by omega)

/-- shuf.List, with the room of its answer. -/
theorem list_full (s : Nat → Int) (a : Option Addr) (n cap : Nat) (f : Nat → Int) (w : World) (hs : ∀ j, j < 32 → 0 ≤ s j ∧ s j < 256) (ha : N64 w a n f) (h1 : n ≤ 65536) (hS : Sh w) :
    Calls Tryd.prog 22 #[.slice a n cap, .agg (vs .u8 32 s)] w fun e w' => ∃ a' c', e = .returned (.tuple #[.slice a' n c', .int .i64 0]) ∧ n ≤ c' ∧ (N64 w' a' n fun j => f (plV s n 6 j).toNat) ∧ Below w.heap.size w w' := by
  by_cases h0 : n = 0
  · subst h0
    refine (list_zero s a cap w).mono ?_
    rintro e w' ⟨rfl, hb⟩
    exact ⟨none, 0, rfl, Nat.le_refl _, .inl rfl, hb⟩
  · refine (list_ok s a n cap f w hs ha (by omega) h1 hS).mono ?_
    rintro e w' ⟨g, rfl, hb, _, hr⟩
    exact ⟨_, _, rfl, Nat.le_refl _, n64_row hr, hb⟩

theorem eqnil64 (w : World) (a : Option Addr) (l c : Nat) : (binOp .eql 37 (.slice a l c) (.slice none 0 0)).run Tryd.prog w = .ok (.bool a.isNone) w := by
  simp only [binOp]
  simp [run_equal_slice_nil w 37 22 a l c Tryd.underlying37]

/-- A clone of numbers. -/
theorem clone64_any (a : Option Addr) (n cap : Nat) (f : Nat → Int) (w : World) (ha : N64 w a n f) (hn : n ≤ 17592186044416) :
    Calls Tryd.prog 32 #[.slice a n cap] w fun e w' => ∃ a' c', e = .returned (.slice a' n c') ∧ N64 w' a' n f ∧ Below w.heap.size w w' := by
  cases a with
  | none =>
    obtain rfl : n = 0 := by
      rcases ha with h | ⟨_, _, h, _⟩
      · exact h
      · cases h
    have q := eqnil64 w none 0 cap
    clear ha
    go_enter Tryd.func32, Tryd.ntmps32
    go_wp2
    go_ret
    exact ⟨none, 0, rfl, .inl rfl, Below.refl _ _⟩
  | some x =>
    have hL : L64 w (some x) n cap f := by
      rcases ha with h | h
      · exact .inr (.inl ⟨x, rfl, h⟩)
      · exact .inr (.inr h)
    have q := eqnil64 w (some x) n cap
    have hap := fun ty => ap64_copy w w (some x) n cap f hL (Below.refl _ _) hn ty
    have HAP := hid hap
    clear ha hL hap
    go_enter Tryd.func32, Tryd.ntmps32
    go_wp2_with (at_builtin; obtain ⟨v1, w1, hr1, ho1, hb1⟩ := HAP.out 37; refine wpL_append_is rfl _ _ rfl _ _ v1 w1 rfl rfl hr1 ?_)
    obtain ⟨a1, C1, rfl, _, _, hm⟩ := own_n64 ho1
    go_ret
    exact ⟨_, _, rfl, hm, hb1⟩

attribute [local go_sem ↓] lvState_eq svState_eq bdState_eq lvValidator_eq svValidator_eq ixValidator_eq sv24_eq lv24_eq slU_eq

set_option maxHeartbeats 1000000 in
theorem piece_any (a : Option Addr) (n cap : Nat) (m : Nat → Int) (k S M N : Int) (lo hi : Nat) (w : World) (ha : N64 w a n m) (hc : n ≤ cap) (hn : n ≤ 65536) (h1 : lo ≤ hi) (h2 : hi ≤ n) (eM : (n : Int) * k = M) (eN : (n : Int) * (k + 1) = N)
    (m1 : 0 ≤ M) (m2 : M ≤ 524288) (n1 : 0 ≤ N) (n2 : N ≤ 524288) (k1 : 0 ≤ k) (k2 : k ≤ 7) (S1 : 4 ≤ S) (S2 : S ≤ 8) (fL : M / S = (lo : Int)) (fH : N / S = (hi : Int)) :
    Calls Tryd.prog 23 #[.slice a n cap, .int .u64 k, .int .u64 S] w fun e w' => ∃ a' c', e = .returned (.slice a' (hi - lo) c') ∧ N64 w' a' (hi - lo) (fun j => m (lo + j)) ∧ Below w.heap.size w w' := by
  have sr := fun W => slU_run W a n cap lo hi h1 (by omega)
  have hpa := n64_part ha hc lo hi h1 h2
  have nw : IntKind.u64.wrap (n : Int) = (n : Int) := by rw [IntKind.wrap_u64]; omega
  generalize (if cap = lo then a else a.map (·.add lo)) = A at sr hpa
  have hcl : ∀ W, Below w.heap.size w W → Calls Tryd.prog 32 #[.slice A (hi - lo) (cap - lo)] W fun e w' => ∃ a' c', e = .returned (.slice a' (hi - lo) c') ∧ N64 w' a' (hi - lo) (fun j => m (lo + j)) ∧ Below W.heap.size W w' := fun W hb => clone64_any A (hi - lo) (cap - lo) _ W (hpa.below hb) (by omega)
  have s0 : ¬ S = 0 := by omega
  have wM : IntKind.u64.wrap M = M := by rw [IntKind.wrap_u64]; omega
  have wN : IntKind.u64.wrap N = N := by rw [IntKind.wrap_u64]; omega
  have wk : IntKind.u64.wrap (k + 1) = k + 1 := by rw [IntKind.wrap_u64]; omega
  have wl : IntKind.u64.wrap (lo : Int) = (lo : Int) := by rw [IntKind.wrap_u64]; omega
  have wh : IntKind.u64.wrap (hi : Int) = (hi : Int) := by rw [IntKind.wrap_u64]; omega
  have dM : M.tdiv S = (lo : Int) := by rw [Int.tdiv_eq_ediv_of_nonneg m1]; exact fL
  have dN : N.tdiv S = (hi : Int) := by rw [Int.tdiv_eq_ediv_of_nonneg n1]; exact fH
  have SR := hid sr
  have HCL := hid hcl
  clear sr hpa hcl ha fL fH
  go_enter Tryd.func23, Tryd.ntmps23
  go_upto_region 2 with fail
  refine wp_region_noPanic ?_
  refine wp_region_held_drew (S := fun W => Below w.heap.size w W) (by kernel_rfl) ((Below.refl _ _).drew) (fun hHeld => ?_)
  refine tk 0 (v := ?v1) ?y1 hHeld ?r1
  case y1 => intro w hSw; go_simp; try with_reducible rfl
  refine tk 1 (v := ?v2) ?y2 hHeld ?r2
  case y2 => intro w hSw; go_simp; try with_reducible rfl
  refine tk 2 (v := ?v3) ?y3 hHeld ?r3
  case y3 => intro w hSw; go_simp; try with_reducible rfl
  refine tk 3 (v := ?v4) ?y4 hHeld ?r4
  case y4 => intro w hSw; go_simp; try with_reducible rfl
  refine tk 4 (v := ?v5) ?y5 hHeld ?r5
  case y5 => intro w hSw; go_simp; try with_reducible rfl
  refine tk 5 (v := ?v6) ?y6 hHeld ?r6
  case y6 => intro w hSw; go_simp; try with_reducible rfl
  refine tk 6 (v := ?v7) ?y7 hHeld ?r7
  case y7 => intro w hSw; go_simp; try with_reducible rfl
  refine tk 7 (v := ?v8) ?y8 hHeld ?r8
  case y8 => intro w hSw; go_simp; try with_reducible rfl
  refine tk 8 (v := ?v9) ?y9 hHeld ?r9
  case y9 => intro w hSw; go_simp; try with_reducible rfl
  refine tk 9 (v := ?v10) ?y10 hHeld ?r10
  case y10 => intro w hSw; go_simp; try with_reducible rfl
  refine tk 10 (v := ?v11) ?y11 hHeld ?r11
  case y11 => intro w hSw; go_simp; try with_reducible rfl
  refine tk 11 (v := ?v12) ?y12 hHeld ?r12
  case y12 => intro w hSw; go_simp; try with_reducible rfl
  refine tk 12 (v := ?v13) ?y13 hHeld ?r13
  case y13 => intro w hSw; have ld := SR.out w; go_simp; try with_reducible rfl
  try simp only [Act.put, List.setIfInBounds_toArray, List.set_cons_zero, List.set_cons_succ, Array.toArray_toList, List.getElem_toArray, List.getElem_cons_zero, List.getElem_cons_succ]
  refine wpAnyH_ready (rs := [13]) (by kernel_rfl) (by simp) ?_
  refine AllReadyH.cons rfl (fun K hK => ?_) AllReadyH.nil
  go_simp
  refine (HCL.out _ (Below.refl _ _).drew).mono ?_
  rintro e' w1 ⟨a1, c1, rfl, hn1, hb1⟩
  dsimp only
  replace hb1 : Below w.heap.size w w1 := (Below.refl _ _).drew.trans (hb1.mono (Nat.le_refl _))
  refine hK.out _ _ (hb1) (fun hHeld => ?_)
  clear hK K
  try simp only [Act.put, List.setIfInBounds_toArray, List.set_cons_zero, List.set_cons_succ, Array.toArray_toList, List.getElem_toArray, List.getElem_cons_zero, List.getElem_cons_succ]
  refine tk 14 (v := ?v14) ?y14 hHeld ?r14
  case y14 => intro w hSw; go_simp; try with_reducible rfl
  try simp only [Act.put, List.setIfInBounds_toArray, List.set_cons_zero, List.set_cons_succ, Array.toArray_toList, List.getElem_toArray, List.getElem_cons_zero, List.getElem_cons_succ]
  refine wpAnyH_done (by kernel_rfl) ?_ _
  refine NoPanic.normal ?_
  go_wp2
  go_ret
  exact ⟨_, _, rfl, hn1, hb1⟩

set_option maxHeartbeats 1000000 in
theorem countFor_any (n : Nat) (w : World) (hn : n ≤ 65536) :
    Calls Tryd.prog 14 #[.int .i64 (n : Int)] w fun e' w' => e' = .returned (.int .u64 (cnt n : Nat)) ∧ w' = w := by
  have hch : cnt n = if n / 8 < 1 then 1 else if 2 < n / 8 then 2 else n / 8 := rfl
  generalize cnt n = R at *
  have n0 : (0 : Int) ≤ (n : Int) := by omega
  have n1 : (n : Int) ≤ 65536 := by omega
  have nw : IntKind.u64.wrap (n : Int) = (n : Int) := by rw [IntKind.wrap_u64]; omega
  have HCH := hid hch
  clear hch
  by_cases h1 : (n : Int) / 4 / 2 < 1
  · go_enter Tryd.func14, Tryd.ntmps14
    go_wp2
    go_ret
    exact ⟨ret_int (by rw [HCH.out]; split <;> (try split) <;> omega), rfl⟩
  · by_cases h2 : (n : Int) / 4 / 2 ≤ 2
    · go_enter Tryd.func14, Tryd.ntmps14
      go_wp2
      all_goals
        go_ret
        exact ⟨ret_int (by rw [HCH.out]; split <;> (try split) <;> omega), rfl⟩
    · go_enter Tryd.func14, Tryd.ntmps14
      go_wp2
      all_goals
        go_ret
        exact ⟨ret_int (by rw [HCH.out]; split <;> (try split) <;> omega), rfl⟩

set_option maxHeartbeats 1000000 in
theorem count_any (x : VState) (e : Int) (w : World) (hx : Lk w x) :
    Calls Tryd.prog 5 #[.agg (cel (sState x)), .int .u64 e] w fun e' w' => e' = .returned (.int .u64 (cnt (acE x e).length : Nat)) ∧ Below w.heap.size w w' := by
  obtain ⟨W0, hW0⟩ : ∃ W, w.alloc (.cells (cel (sState x)) 49) = W := ⟨_, rfl⟩
  have r0 : W0.heap[w.heap.size]? = some (.cells (cel (sState x)) 49) := by rw [← hW0]; exact heap_new rfl
  have hB0 : Below w.heap.size w W0 := by rw [← hW0]; exact (Below.refl _ _).alloc (Nat.le_refl _) _
  have l0 : (lvState ⟨w.heap.size, 0, none⟩).run Tryd.prog W0 = .ok (.agg (cel (sState x))) W0 := lvState_run r0
  have hac : Calls Tryd.prog 15 #[.agg (cel (sState x)), .int .u64 e] W0 fun e' w' => ∃ a c, e' = .returned (.slice a (acE x e).length c) ∧ Nml w' a (acE x e) ∧ Below W0.heap.size W0 w' := actives_any x e W0 (hx.below hB0)
  have hlen := acE_len (e := e) hx.nb
  have hcf := fun W => countFor_any (acE x e).length W hlen
  generalize acE x e = L at *
  obtain ⟨n, hn⟩ : ∃ n, L.length = n := ⟨_, rfl⟩
  rw [hn] at hac hlen hcf ⊢
  have nw : IntKind.u64.wrap (n : Int) = (n : Int) := by rw [IntKind.wrap_u64]; omega
  have HB := hid hB0
  have HW := hid hW0
  have HAC := hid hac
  have HCF := hid hcf
  clear hB0 hW0 hac hx r0 hn hcf
  go_enter Tryd.func5, Tryd.ntmps5
  go_upto_region 1 with fail
  rw [HW.out]
  clear HW
  go_wp2_with (first
    | (go_at_call 15; refine HAC.out.mono ?_; rintro e' w2 ⟨a2, c2, rfl, hn2, hb2⟩)
    | (go_at_call 14; refine (HCF.out _).mono ?_; rintro e' w3 ⟨rfl, hw3⟩; subst hw3))
  go_ret
  exact ⟨rfl, HB.out.trans (hb2.mono HB.out.size)⟩

theorem count_prog : PCount := fun x e w _ hx _ _ => count_any x e w hx

set_option maxHeartbeats 4000000 in
theorem of_any (x : VState) (sl ix : Int) (w : World) (ho : OkState x) (hx : Lk w x) (hS : Sh w) (s0 : 0 ≤ sl) (s1 : sl < 18446744073709551616) (i0 : 0 ≤ ix) :
    Calls Tryd.prog 7 #[.agg (cel (sState x)), .int .u64 sl, .int .u64 ix] w (OfA x sl ix w) := by
  obtain ⟨W0, hW0⟩ : ∃ W, w.alloc (.cells (cel (sState x)) 49) = W := ⟨_, rfl⟩
  have r0 : W0.heap[w.heap.size]? = some (.cells (cel (sState x)) 49) := by rw [← hW0]; exact heap_new rfl
  have hB0 : Below w.heap.size w W0 := by rw [← hW0]; exact (Below.refl _ _).alloc (Nat.le_refl _) _
  have z0 : w.heap.size < W0.heap.size := (Array.getElem?_eq_some_iff.1 r0).1
  have hld : ∀ W : World, Below W0.heap.size W0 W → (lvState ⟨w.heap.size, 0, none⟩).run Tryd.prog W = .ok (.agg (cel (sState x))) W := fun W h => lvState_run ((h.block _ z0).trans r0)
  have hx0 := hx.below hB0
  have hS0 := hS.below hB0
  have hac : Calls Tryd.prog 15 #[.agg (cel (sState x)), .int .u64 (sl / 4)] W0 fun e' w' => ∃ a c, e' = .returned (.slice a (acE x (sl / 4)).length c) ∧ Nml w' a (acE x (sl / 4)) ∧ Below W0.heap.size W0 w' := actives_any x (sl / 4) W0 hx0
  have hse : ∀ W, Below W0.heap.size W0 W → Calls Tryd.prog 12 #[.agg (cel (sState x)), .int .u64 (sl / 4), .int .i64 1] W fun e' w' => e' = .returned (.agg (vs .u8 32 (seedV x (sl / 4) 1))) ∧ Below W.heap.size W w' := fun W h => seed_prog x (sl / 4) 1 W ho (by omega) (by omega) (by omega) (by omega) (hS0.below h)
  have hlen := acE_len (e := sl / 4) hx.nb
  have hcf := fun W => countFor_any (acE x (sl / 4)).length W hlen
  have hc := cnt_bd (acE x (sl / 4)).length
  have hli : ∀ (W : World) a c, Below W0.heap.size W0 W → Nml W a (acE x (sl / 4)) → Calls Tryd.prog 22 #[.slice a (acE x (sl / 4)).length c, .agg (vs .u8 32 (seedV x (sl / 4) 1))] W fun e w' => ∃ a' c', e = .returned (.tuple #[.slice a' (acE x (sl / 4)).length c', .int .i64 0]) ∧ (acE x (sl / 4)).length ≤ c' ∧ (N64 w' a' (acE x (sl / 4)).length fun j => (acE x (sl / 4)).getD (plV (seedV x (sl / 4) 1) (acE x (sl / 4)).length 6 j).toNat 0) ∧ Below W.heap.size W w' := fun W a c h hn => list_full _ a _ c (fun j => (acE x (sl / 4)).getD j 0) W (fun j _ => seedV_bd ..) hn hlen (hS0.below h)
  have nlb : ∀ (W W' : World) (a : Option Addr), Nml W a (acE x (sl / 4)) → Below W.heap.size W W' → Nml W' a (acE x (sl / 4)) := fun W W' a h hb => Z.Nms.below h hb
  obtain ⟨E, eE⟩ : ∃ E, sl / 4 = E := ⟨_, rfl⟩
  by_cases h : ix < (cnt (acE x (sl / 4)).length : Int)
  · have hN : cmN (acE x (sl / 4)).length sl ix = cut (acE x (sl / 4)).length (pcK (acE x (sl / 4)).length sl ix + 1) - cut (acE x (sl / 4)).length (pcK (acE x (sl / 4)).length sl ix) := by unfold cmN; rw [if_pos h]
    have hE : cmE (acE x (sl / 4)).length ix = 0 := by unfold cmE; rw [if_pos h]
    have hF : cmF (acE x (sl / 4)) (seedV x (sl / 4) 1) sl ix = fun j => (acE x (sl / 4)).getD (plV (seedV x (sl / 4) 1) (acE x (sl / 4)).length 6 ((cut (acE x (sl / 4)).length (pcK (acE x (sl / 4)).length sl ix) + j : Nat) : Int)).toNat 0 := rfl
    have hkb := pcK_lt (sl := sl) i0 h
    have hcl := cut_le (acE x (sl / 4)).length (k := pcK (acE x (sl / 4)).length sl ix + 1) (by omega)
    have hcm := cut_mono (acE x (sl / 4)).length (j := pcK (acE x (sl / 4)).length sl ix) (k := pcK (acE x (sl / 4)).length sl ix + 1) (by omega)
    have hk : pcK (acE x (sl / 4)).length sl ix = (sl % 4).toNat * cnt (acE x (sl / 4)).length + ix.toNat := rfl
    have hlo : cut (acE x (sl / 4)).length (pcK (acE x (sl / 4)).length sl ix) = (acE x (sl / 4)).length * pcK (acE x (sl / 4)).length sl ix / (4 * cnt (acE x (sl / 4)).length) := rfl
    have hhi : cut (acE x (sl / 4)).length (pcK (acE x (sl / 4)).length sl ix + 1) = (acE x (sl / 4)).length * (pcK (acE x (sl / 4)).length sl ix + 1) / (4 * cnt (acE x (sl / 4)).length) := rfl
    have hend : ∀ (W : World) a c, N64 W a (cut (acE x (sl / 4)).length (pcK (acE x (sl / 4)).length sl ix + 1) - cut (acE x (sl / 4)).length (pcK (acE x (sl / 4)).length sl ix)) (fun j => (acE x (sl / 4)).getD (plV (seedV x (sl / 4) 1) (acE x (sl / 4)).length 6 ((cut (acE x (sl / 4)).length (pcK (acE x (sl / 4)).length sl ix) + j : Nat) : Int)).toNat 0) → Below w.heap.size w W → OfA x sl ix w (.returned (.tuple #[.slice a (cut (acE x (sl / 4)).length (pcK (acE x (sl / 4)).length sl ix + 1) - cut (acE x (sl / 4)).length (pcK (acE x (sl / 4)).length sl ix)) c, .int .i64 0])) W := fun W a c h1 h2 => by
      unfold OfA
      rw [hN, hE, hF]
      exact ⟨a, c, rfl, h1, h2⟩
    generalize seedV x (sl / 4) 1 = SD at hse hli hend
    rw [eE] at hac hse hlen hcf hc hli nlb h hkb hcl hcm hk hlo hhi hend
    generalize acE x E = L at hac hlen hcf hc hli nlb h hkb hcl hcm hk hlo hhi hend
    obtain ⟨n, hn⟩ : ∃ n, L.length = n := ⟨_, rfl⟩
    rw [hn] at hac hlen hcf hc hli h hkb hcl hcm hk hlo hhi hend
    generalize cnt n = C at hcf hc h hkb hk hlo hhi
    generalize pcK n sl ix = K at hkb hcl hcm hk hlo hhi hend
    generalize cut n (K + 1) = hi at hcl hcm hhi hend
    generalize cut n K = lo at hcm hlo hend
    have fT : 0 ≤ sl % 4 ∧ sl % 4 ≤ 3 := by omega
    have fL : (n : Int) * (K : Int) / (4 * (C : Int)) = (lo : Int) := by rw [hlo, Int.natCast_ediv, Int.natCast_mul, Int.natCast_mul]; rfl
    have fH : (n : Int) * ((K : Int) + 1) / (4 * (C : Int)) = (hi : Int) := by rw [hhi, Int.natCast_ediv, Int.natCast_mul, Int.natCast_mul]; rfl
    have fM : n * K ≤ 65536 * 8 := Nat.mul_le_mul hlen (by omega)
    have fM2 : n * (K + 1) ≤ 65536 * 8 := Nat.mul_le_mul hlen (by omega)
    have fm : (n : Int) * (K : Int) = ((n * K : Nat) : Int) := by rw [Int.natCast_mul]
    have fm2 : (n : Int) * ((K : Int) + 1) = ((n * (K + 1) : Nat) : Int) := by rw [Int.natCast_mul]; rfl
    have fU : sl % 4 * (C : Int) + ix = (K : Int) ∧ 0 ≤ sl % 4 * (C : Int) ∧ sl % 4 * (C : Int) ≤ 6 := by
      obtain rfl | rfl : C = 1 ∨ C = 2 := by omega
      all_goals omega
    obtain ⟨T, eT⟩ : ∃ T, sl % 4 = T := ⟨_, rfl⟩
    rw [eT] at fT fU
    obtain ⟨k, ek⟩ : ∃ k, (K : Int) = k := ⟨_, rfl⟩
    rw [ek] at fL fH fm fm2 fU
    obtain ⟨c, ec⟩ : ∃ c, (C : Int) = c := ⟨_, rfl⟩
    rw [ec] at fL fH fU hcf h
    have cb : 1 ≤ c ∧ c ≤ 2 := by omega
    obtain ⟨U, eU⟩ : ∃ U, T * c = U := ⟨_, rfl⟩
    rw [eU] at fU
    obtain ⟨S, eS⟩ : ∃ S, 4 * c = S := ⟨_, rfl⟩
    rw [eS] at fL fH
    have sb : 4 ≤ S ∧ S ≤ 8 := by omega
    obtain ⟨M, eM⟩ : ∃ M, (n : Int) * k = M := ⟨_, rfl⟩
    rw [eM] at fL fm
    obtain ⟨N, eN⟩ : ∃ N, (n : Int) * (k + 1) = N := ⟨_, rfl⟩
    rw [eN] at fH fm2
    have mb : 0 ≤ M ∧ M ≤ 524288 := by omega
    have nb : 0 ≤ N ∧ N ≤ 524288 := by omega
    have kb : 0 ≤ k ∧ k ≤ 7 := by omega
    obtain ⟨U1, U2, U3⟩ := fU
    obtain ⟨T1, T2⟩ := fT
    obtain ⟨m1, m2⟩ := mb
    obtain ⟨n1, n2⟩ := nb
    obtain ⟨k1, k2⟩ := kb
    obtain ⟨c1, c2⟩ := cb
    obtain ⟨S1, S2⟩ := sb
    have nw : IntKind.u64.wrap (n : Int) = (n : Int) := by rw [IntKind.wrap_u64]; omega
    have l0 := hld W0 (Below.refl _ _)
    have HLD := hid hld
    have HAC := hid hac
    have HSE := hid hse
    have HLI := hid hli
    have HCF := hid hcf
    have NLB := hid nlb
    have HB0 := hid hB0
    have HW0 := hid hW0
    have HLH := hid (And.intro hcl (And.intro hcm hlen))
    have HEND := hid hend
    clear hend hld hac hse hli hcf nlb hB0 hW0 hx0 hS0 hx hS ho r0 hN hE hF hk hlo hhi hkb hcl hcm fM fM2 fm fm2 ek ec hc hn hlen
    go_enter Tryd.func7, Tryd.ntmps7
    go_upto_region 1 with fail
    rw [HW0.out]
    clear HW0
    go_upto_region 3 with (go_at_call 15; refine HAC.out.mono ?_; rintro e' w2 ⟨a2, c2, rfl, hn2, hb2⟩)
    have l2 := HLD.out w2 hb2
    have HB2 := hid hb2
    have HN2 := hid hn2
    clear l0 hb2 hn2
    go_upto_region 6 with (go_at_call 14; refine (HCF.out _).mono ?_; rintro e' w3 ⟨rfl, hw3⟩; subst hw3)
    go_upto_region 7 with (first
      | (go_at_call 12; refine (HSE.out _ HB2.out).mono ?_; rintro e' w4 ⟨rfl, hb4⟩; have hB4 := HB2.out.trans (hb4.mono HB2.out.size))
      | (go_at_call 22; refine (HLI.out w4 _ _ hB4 (NLB.out _ _ _ HN2.out hb4)).mono ?_; rintro e' w5 ⟨a5, p5, rfl, hp5, hn5, hb5⟩))
    have hB5 := hB4.trans (hb5.mono hB4.size)
    obtain ⟨q1, q2, q3⟩ := HLH.out
    have hpc := piece_any a5 n p5 _ k S M N lo hi w5 hn5 hp5 q3 q2 q1 eM eN m1 m2 n1 n2 k1 k2 S1 S2 fL fH
    have HPC := hid hpc
    have HB5 := hid hB5
    clear hpc hB5 hB4 hb4 hb5 hn5 l2 HB2 HN2 fL fH eM eN
    go_wp2_with (go_at_call 23; refine HPC.out.mono ?_; rintro e' w6 ⟨a6, p6, rfl, hn6, hb6⟩)
    go_ret2
    exact HEND.out _ _ _ hn6 (HB0.out.trans ((HB5.out.trans (hb6.mono HB5.out.size)).mono HB0.out.size))
  · have hN : cmN (acE x (sl / 4)).length sl ix = 0 := by unfold cmN; rw [if_neg h]
    have hE : cmE (acE x (sl / 4)).length ix = 1 := by unfold cmE; rw [if_neg h]
    unfold OfA
    rw [hN, hE]
    rw [eE] at hac hlen hcf hc h ⊢
    generalize cmF (acE x E) (seedV x E 1) sl ix = F
    generalize acE x E = L at hac hlen hcf hc h
    obtain ⟨n, hn⟩ : ∃ n, L.length = n := ⟨_, rfl⟩
    rw [hn] at hac hlen hcf hc h
    obtain ⟨c, ec⟩ : ∃ c : Int, (cnt n : Int) = c := ⟨_, rfl⟩
    rw [ec] at hcf h
    have h2 : c ≤ ix := by omega
    have nw : IntKind.u64.wrap (n : Int) = (n : Int) := by rw [IntKind.wrap_u64]; omega
    have l0 := hld W0 (Below.refl _ _)
    have HAC := hid hac
    have HCF := hid hcf
    have HB0 := hid hB0
    have HW0 := hid hW0
    clear hld hac hse hli hcf nlb hB0 hW0 hx0 hS0 hx hS ho r0 hN hE hc hn ec
    go_enter Tryd.func7, Tryd.ntmps7
    go_upto_region 1 with fail
    rw [HW0.out]
    clear HW0
    go_wp2_with (first
      | (go_at_call 15; refine HAC.out.mono ?_; rintro e' w2 ⟨a2, c2, rfl, hn2, hb2⟩)
      | (go_at_call 14; refine (HCF.out _).mono ?_; rintro e' w3 ⟨rfl, hw3⟩; subst hw3))
    go_ret2
    exact ⟨none, 0, rfl, .inl rfl, HB0.out.trans (hb2.mono HB0.out.size)⟩

theorem of_prog : POf := fun x sl ix w ho hx hS s0 s1 i0 _ => of_any x sl ix w ho hx hS s0 s1 i0

end Go.Proofs.YtlidilnakiphiaaDoor
