/-
  What the reading of a state calls.
-/

import Derived.Test.YtehpfemlcjcabaaStF
import Derived.Test.YtehpfemlcjcabaaSkC
import Derived.Test.YtehpfemlcjcabaaThQ
namespace Go.Proofs.Ytehpfemlcjcabaa

open Go.RowKit

set_option linter.unusedVariables false

set_option linter.unusedSimpArgs false

set_option maxRecDepth 20000

theorem seg_put (N p n : Nat) (g z : Nat → Int) (h : p + n ≤ N) : (bl g N).take p ++ (bl z n ++ (bl g N).drop (p + n)) = bl (fun j => if p ≤ j ∧ j < p + n then z (j - p) else g j) N := by
  apply List.ext_getElem?
  intro i
  by_cases h1 : i < p
  · rw [List.getElem?_append_left (by rw [List.length_take, bl_len]; omega), List.getElem?_take_of_lt h1, bl_at _ _ _ (by omega), bl_at _ _ _ (by omega), if_neg (by omega)]
  · rw [List.getElem?_append_right (by rw [List.length_take, bl_len]; omega), List.length_take, bl_len, Nat.min_eq_left (by omega)]
    by_cases h2 : i < p + n
    · rw [List.getElem?_append_left (by rw [bl_len]; omega), bl_at _ _ _ (by omega), bl_at _ _ _ (by omega), if_pos (by omega)]
    · rw [List.getElem?_append_right (by rw [bl_len]; omega), bl_len, List.getElem?_drop, show p + n + (i - p - n) = i by omega]
      by_cases h3 : i < N
      · rw [bl_at _ _ _ h3, bl_at _ _ _ h3, if_neg (by omega)]
      · rw [List.getElem?_eq_none (by rw [bl_len]; omega), List.getElem?_eq_none (by rw [bl_len]; omega)]

theorem cel_by_put (l1 l2 : List Seg) (N p n : Nat) (g z : Nat → Int) (h : p + n ≤ N) : ((cel (l1 ++ [.by N g] ++ l2)).toList.take (slen l1 + p) ++ bl z n ++ (cel (l1 ++ [.by N g] ++ l2)).toList.drop (slen l1 + p + n)).toArray = cel (l1 ++ [.by N (fun j => if p ≤ j ∧ j < p + n then z (j - p) else g j)] ++ l2) := by
  have e : ∀ u, celL [.by N u] = bl u N := fun u => by
    show (List.range N).map _ ++ [] = _
    rw [List.append_nil]
    rfl
  have hl : (bl g N).length = N := bl_len g N
  unfold cel
  rw [celL_app, celL_app, celL_app, celL_app, e, e, ← seg_put N p n g z h, ← celL_len l1]
  simp only [List.append_assoc]
  rw [put_in _ _ _ _ p n (by omega)]

theorem info_out {P : Program} {t : TypeId} {z : Value} {s b : Nat} (h : (P.info? t).map (fun i => (i.zero, i.size, i.bytes)) = some (some z, s, b)) : ∃ i, P.info? t = some i ∧ i.zero = some z ∧ i.size = s ∧ i.bytes = b := by
  cases hq : P.info? t with
  | none => simp [hq] at h
  | some i => simp [hq] at h; exact ⟨i, rfl, h.1, h.2.1, h.2.2⟩

set_option maxHeartbeats 1000000 in
theorem re0Root (m : Nat → Int) (a : Option Addr) (c : Nat) (w : World) (hb : Bys w a 0 c m) :
    Calls Try.prog 70 #[.slice a 0 c, .int .i64 32, .int .i64 1024, (.func (.func 71) #[] #[])] w fun e w' => ∃ g, e = .returned (.tuple #[.slice (some ⟨g, 0, none⟩) 0 0, .int .i64 0]) ∧ Below w.heap.size w w' := by
  have he := Z.each_ok m a 0 c 32 0 1024 w hb (by omega) (by omega) (by omega) (by omega) (by omega) (by omega) (by omega)
  have HE : Hid (Calls Try.prog 92 #[.slice a 0 c, .int .i64 32, .int .i64 1024] w fun e w' => ∃ gp, e = .returned (.tuple #[.slice (some ⟨gp, 0, none⟩) 0 0, .int .i64 0]) ∧ Below w.heap.size w w') := by
    refine he.mono ?_
    rintro e w' ⟨ga, gp, rfl, x1, x2, x3, x4⟩
    exact ⟨gp, rfl, x4⟩
  obtain ⟨ii, hi, hz0, hz1, hz2⟩ := info_out (P := Try.prog) (t := 24) (z := .agg (vs .u8 32 fun _ => 0)) (s := 32) (b := 32) (by kernel_rfl)
  clear he hb
  go_enter Try.func70, Try.ntmps70
  go_upto_region 6 with (first
    | (go_at_call 92; refine HE.out.mono ?_; rintro e w1 ⟨gp, rfl, hb1⟩; have HB1 := hid hb1; clear hb1)
    | (at_make; refine wpList_make_own _ rfl _ _ 32 rfl w1.heap.size 24 ii (.agg (vs .u8 32 fun _ => 0)) 32 Try.underlying32 hi hz0 hz1 _ _ _ 0 rfl rfl rfl (by omega) (by unfold maxLen; omega) (Nat.le_refl _) ?_; intro w2 ho2 hg2; have HB2 : Hid (Below w1.heap.size w1 w2) := below_of_grown hg2; clear ho2 hg2))
  obtain ⟨g, eg⟩ : ∃ g, w1.heap.size = g := ⟨_, rfl⟩
  have HB : Hid (Below w.heap.size w w2) := HB1.out.trans (HB2.out.mono HB1.out.size)
  rw [eg]
  clear HB1 HB2 hi hz0 hz1 hz2 eg
  go_loopw [30] (fun i wr => i = .int .i64 0 ∧ Below w.heap.size w wr) (fun _ _ => 0)
  case atStart => exact ⟨rfl, HB.out⟩
  case round =>
    obtain ⟨rfl, hb⟩ := hrel
    have HBw := hid hb
    clear hb
    go_wp2
    go_ret2
    exact ⟨g, rfl, HBw.out⟩

set_option maxHeartbeats 1000000 in
theorem re0Eth1 (m : Nat → Int) (a : Option Addr) (c : Nat) (w : World) (hb : Bys w a 0 c m) :
    Calls Try.prog 72 #[.slice a 0 c, .int .i64 72, .int .i64 8, (.func (.func 42) #[] #[])] w fun e w' => ∃ g, e = .returned (.tuple #[.slice (some ⟨g, 0, none⟩) 0 0, .int .i64 0]) ∧ Below w.heap.size w w' := by
  have he := Z.each_ok m a 0 c 72 0 8 w hb (by omega) (by omega) (by omega) (by omega) (by omega) (by omega) (by omega)
  have HE : Hid (Calls Try.prog 92 #[.slice a 0 c, .int .i64 72, .int .i64 8] w fun e w' => ∃ gp, e = .returned (.tuple #[.slice (some ⟨gp, 0, none⟩) 0 0, .int .i64 0]) ∧ Below w.heap.size w w') := by
    refine he.mono ?_
    rintro e w' ⟨ga, gp, rfl, x1, x2, x3, x4⟩
    exact ⟨gp, rfl, x4⟩
  obtain ⟨ii, hi, hz0, hz1, hz2⟩ := info_out (P := Try.prog) (t := 34) (z := .agg (cel (sEth1 oEth1))) (s := 65) (b := 72) (by kernel_rfl)
  clear he hb
  go_enter Try.func72, Try.ntmps72
  go_upto_region 6 with (first
    | (go_at_call 92; refine HE.out.mono ?_; rintro e w1 ⟨gp, rfl, hb1⟩; have HB1 := hid hb1; clear hb1)
    | (at_make; refine wpList_make_own _ rfl _ _ 35 rfl w1.heap.size 34 ii (.agg (cel (sEth1 oEth1))) 65 Try.underlying35 hi hz0 hz1 _ _ _ 0 rfl rfl rfl (by omega) (by unfold maxLen; omega) (Nat.le_refl _) ?_; intro w2 ho2 hg2; have HB2 : Hid (Below w1.heap.size w1 w2) := below_of_grown hg2; clear ho2 hg2))
  obtain ⟨g, eg⟩ : ∃ g, w1.heap.size = g := ⟨_, rfl⟩
  have HB : Hid (Below w.heap.size w w2) := HB1.out.trans (HB2.out.mono HB1.out.size)
  rw [eg]
  clear HB1 HB2 hi hz0 hz1 hz2 eg
  go_loopw [30] (fun i wr => i = .int .i64 0 ∧ Below w.heap.size w wr) (fun _ _ => 0)
  case atStart => exact ⟨rfl, HB.out⟩
  case round =>
    obtain ⟨rfl, hb⟩ := hrel
    have HBw := hid hb
    clear hb
    go_wp2
    go_ret2
    exact ⟨g, rfl, HBw.out⟩

set_option maxHeartbeats 1000000 in
theorem re0Validator (m : Nat → Int) (a : Option Addr) (c : Nat) (w : World) (hb : Bys w a 0 c m) :
    Calls Try.prog 73 #[.slice a 0 c, .int .i64 121, .int .i64 65536, (.func (.func 74) #[] #[])] w fun e w' => ∃ g, e = .returned (.tuple #[.slice (some ⟨g, 0, none⟩) 0 0, .int .i64 0]) ∧ Below w.heap.size w w' := by
  have he := Z.each_ok m a 0 c 121 0 65536 w hb (by omega) (by omega) (by omega) (by omega) (by omega) (by omega) (by omega)
  have HE : Hid (Calls Try.prog 92 #[.slice a 0 c, .int .i64 121, .int .i64 65536] w fun e w' => ∃ gp, e = .returned (.tuple #[.slice (some ⟨gp, 0, none⟩) 0 0, .int .i64 0]) ∧ Below w.heap.size w w') := by
    refine he.mono ?_
    rintro e w' ⟨ga, gp, rfl, x1, x2, x3, x4⟩
    exact ⟨gp, rfl, x4⟩
  obtain ⟨ii, hi, hz0, hz1, hz2⟩ := info_out (P := Try.prog) (t := 64) (z := .agg (cel (sValidator oValidator))) (s := 86) (b := 128) (by kernel_rfl)
  clear he hb
  go_enter Try.func73, Try.ntmps73
  go_upto_region 6 with (first
    | (go_at_call 92; refine HE.out.mono ?_; rintro e w1 ⟨gp, rfl, hb1⟩; have HB1 := hid hb1; clear hb1)
    | (at_make; refine wpList_make_own _ rfl _ _ 36 rfl w1.heap.size 64 ii (.agg (cel (sValidator oValidator))) 86 Try.underlying36 hi hz0 hz1 _ _ _ 0 rfl rfl rfl (by omega) (by unfold maxLen; omega) (Nat.le_refl _) ?_; intro w2 ho2 hg2; have HB2 : Hid (Below w1.heap.size w1 w2) := below_of_grown hg2; clear ho2 hg2))
  obtain ⟨g, eg⟩ : ∃ g, w1.heap.size = g := ⟨_, rfl⟩
  have HB : Hid (Below w.heap.size w w2) := HB1.out.trans (HB2.out.mono HB1.out.size)
  rw [eg]
  clear HB1 HB2 hi hz0 hz1 hz2 eg
  go_loopw [30] (fun i wr => i = .int .i64 0 ∧ Below w.heap.size w wr) (fun _ _ => 0)
  case atStart => exact ⟨rfl, HB.out⟩
  case round =>
    obtain ⟨rfl, hb⟩ := hrel
    have HBw := hid hb
    clear hb
    go_wp2
    go_ret2
    exact ⟨g, rfl, HBw.out⟩

set_option maxHeartbeats 1000000 in
theorem re0U64 (m : Nat → Int) (a : Option Addr) (c : Nat) (w : World) (hb : Bys w a 0 c m) :
    Calls Try.prog 75 #[.slice a 0 c, .int .i64 8, .int .i64 65536, (.func (.func 38) #[] #[])] w fun e w' => ∃ g, e = .returned (.tuple #[.slice (some ⟨g, 0, none⟩) 0 0, .int .i64 0]) ∧ Below w.heap.size w w' := by
  have he := Z.each_ok m a 0 c 8 0 65536 w hb (by omega) (by omega) (by omega) (by omega) (by omega) (by omega) (by omega)
  have HE : Hid (Calls Try.prog 92 #[.slice a 0 c, .int .i64 8, .int .i64 65536] w fun e w' => ∃ gp, e = .returned (.tuple #[.slice (some ⟨gp, 0, none⟩) 0 0, .int .i64 0]) ∧ Below w.heap.size w w') := by
    refine he.mono ?_
    rintro e w' ⟨ga, gp, rfl, x1, x2, x3, x4⟩
    exact ⟨gp, rfl, x4⟩
  obtain ⟨ii, hi, hz0, hz1, hz2⟩ := info_out (P := Try.prog) (t := 22) (z := .int .u64 0) (s := 1) (b := 8) (by kernel_rfl)
  clear he hb
  go_enter Try.func75, Try.ntmps75
  go_upto_region 6 with (first
    | (go_at_call 92; refine HE.out.mono ?_; rintro e w1 ⟨gp, rfl, hb1⟩; have HB1 := hid hb1; clear hb1)
    | (at_make; refine wpList_make_own _ rfl _ _ 37 rfl w1.heap.size 22 ii (.int .u64 0) 1 Try.underlying37 hi hz0 hz1 _ _ _ 0 rfl rfl rfl (by omega) (by unfold maxLen; omega) (Nat.le_refl _) ?_; intro w2 ho2 hg2; have HB2 : Hid (Below w1.heap.size w1 w2) := below_of_grown hg2; clear ho2 hg2))
  obtain ⟨g, eg⟩ : ∃ g, w1.heap.size = g := ⟨_, rfl⟩
  have HB : Hid (Below w.heap.size w w2) := HB1.out.trans (HB2.out.mono HB1.out.size)
  rw [eg]
  clear HB1 HB2 hi hz0 hz1 hz2 eg
  go_loopw [30] (fun i wr => i = .int .i64 0 ∧ Below w.heap.size w wr) (fun _ _ => 0)
  case atStart => exact ⟨rfl, HB.out⟩
  case round =>
    obtain ⟨rfl, hb⟩ := hrel
    have HBw := hid hb
    clear hb
    go_wp2
    go_ret2
    exact ⟨g, rfl, HBw.out⟩

set_option maxHeartbeats 1000000 in
theorem rfl0 (m : Nat → Int) (a : Option Addr) (c : Nat) (w : World) (hb : Bys w a 0 c m) :
    Calls Try.prog 76 #[.slice a 0 c] w fun e w' => ∃ b d, e = .returned (.tuple #[.slice b 0 d, .int .i64 0]) ∧ Below w.heap.size w w' := by
  have hc := Z.clone_any m a 0 c w hb (by omega)
  have HC := hid hc
  clear hc hb
  go_enter Try.func76, Try.ntmps76
  go_wp2_with (go_at_call 89; refine HC.out.mono ?_; rintro e w1 ⟨v, rfl, ho, hb1⟩; obtain ⟨b, d, rfl, hy⟩ := own_at ho; clear ho hy)
  go_ret2
  exact ⟨b, d, rfl, hb1⟩

/-- Bytes copied into a field. -/
theorem copy_in (W : World) (g p n : Nat) (l1 l2 : List Seg) (N : Nat) (u z : Nat → Int) (x : Addr) (m cap dcap o : Nat) (t : TypeId) (hg : W.heap[g]? = some (.cells (cel (l1 ++ [.by N u] ++ l2)) t)) (ho : slen l1 + p = o) (hp : p + n ≤ N) (hnm : n ≤ m) (hx : ∀ j, j < n → W.cell? (x.add j) = some (.int .u8 (z j))) :
    ∀ ty, (Builtin.copy_ #[39, 39] ty #[.slice (some ⟨g, o, none⟩) n dcap, .slice (some x) m cap]).run Try.prog W = .ok (.int .i64 n) (W.setRow g (cel (l1 ++ [.by N (fun j => if p ≤ j ∧ j < p + n then z (j - p) else u j)] ++ l2))) := by
  intro ty
  have hsz : slen (l1 ++ [.by N u] ++ l2) = slen l1 + N + slen l2 := by
    rw [← celL_len, celL_app, celL_app, List.length_append, List.length_append, celL_len, celL_len, celL_len]
    rfl
  have hrun := run_copy_row (P := Try.prog) W 39 39 ty 5 g o n dcap x m cap (cel (l1 ++ [.by N u] ++ l2)) t (bl z n) Try.underlying39 (by kernel_rfl) hg (by rw [bl_len]; exact (Nat.min_eq_right hnm).symm)
    (fun j v hj => by
      obtain ⟨h1, rfl⟩ := bl_get z n j v hj
      exact hx j h1) (by rw [bl_len, cel_size, hsz]; omega) (bl_one z n)
  rw [hrun, bl_len, ← ho, cel_by_put l1 l2 N p n u z hp]
  rfl

attribute [local go_sem ↓] ix22_eq sl22_eq

set_option maxHeartbeats 2000000 in
theorem fillR (l1 l2 : List Seg) (u f : Nat → Int) (y o gb ob cb : Nat) (t : TypeId) (w : World) (ho : slen l1 = o) (hy : w.heap[y]? = some (.cells (cel (l1 ++ [.by 256 u] ++ l2)) t)) (hb : Bys w (some ⟨gb, ob, none⟩) 256 cb f) (hne : gb ≠ y) :
    Calls Try.prog 41 #[.slice (some ⟨y, o, none⟩) 8 8, .slice (some ⟨gb, ob, none⟩) 256 cb] w fun e w' => e = .returned (.tuple #[]) ∧ Kept y w w' ∧ ∃ u', w'.heap[y]? = some (.cells (cel (l1 ++ [.by 256 u'] ++ l2)) t) := by
  obtain ⟨b', o', e', hgb, hcp, hcs⟩ := bys_at hb (by omega)
  cases e'
  have HSRC : Hid (∀ X, Kept y w X → ∀ j, j < 256 → X.cell? ⟨gb, ob + j, none⟩ = some (.int .u8 (f j))) := fun X h j hj => (h.cell hgb hne).trans (hcs j hj)
  have HY := hid hy
  clear hcs hb hy
  go_enter Try.func41, Try.ntmps41
  go_upto_region 1 with fail
  go_loopw [7] (fun i wr => ∃ k : Nat, k ≤ 8 ∧ i = .int .i64 k ∧ Kept y w wr ∧ ∃ u', wr.heap[y]? = some (.cells (cel (l1 ++ [.by 256 u'] ++ l2)) t)) (fun i _ => 8 - (intOf i).toNat)
  case atStart => exact ⟨0, by omega, rfl, Kept.refl _ _, u, HY.out⟩
  case round =>
    obtain ⟨k, hk, rfl, hkp, u', rn⟩ := hrel
    by_cases hlt : k < 8
    · have bq : decide (k < 8) = true := by simp; omega
      have k1 : (k : Int) < 8 := by omega
      have k2 : (0 : Int) ≤ (k : Int) := by omega
      obtain ⟨p, ep⟩ : ∃ p : Nat, p = 32 * k := ⟨_, rfl⟩
      have q1 : (k : Int) * 32 = (p : Int) := by omega
      have q2 : IntKind.i64.wrap (p : Int) = (p : Int) := by rw [IntKind.wrap_i64]; omega
      have ix := fun W => ix22_run W y o 8 8 k hlt
      rw [← ep] at ix
      have sr := fun W => sl22_run W (some ⟨gb, ob, none⟩) 256 cb p 256 (some (.int .i64 p)) none (.inl rfl) (.inr ⟨rfl, rfl⟩) (by omega) (Nat.le_refl _) hcp
      rw [if_neg (by omega), Option.map_some, Addr.add_mid] at sr
      obtain ⟨L, eL⟩ : ∃ L, 256 - p = L := ⟨_, rfl⟩
      obtain ⟨CC, eC⟩ : ∃ L, cb - p = L := ⟨_, rfl⟩
      rw [eL, eC] at sr
      obtain ⟨q, eq⟩ : ∃ q, o + p = q := ⟨_, rfl⟩
      have hcopy := copy_in wr.drew y p 32 l1 l2 256 u' (fun j => f (p + j)) ⟨gb, ob + p, none⟩ L CC 32 q t rn (by rw [ho]; exact eq) (by omega) (by omega)
        (fun j hj => by
          rw [Addr.add_mid, Nat.add_assoc]
          exact HSRC.out wr.drew hkp.drew (p + j) (by omega))
      rw [eq] at ix
      obtain ⟨u2, eu2⟩ : ∃ u, (fun j => if p ≤ j ∧ j < p + 32 then (fun j => f (p + j)) (j - p) else u' j) = u := ⟨_, rfl⟩
      obtain ⟨C2, eC2⟩ : ∃ C, cel (l1 ++ [.by 256 u2] ++ l2) = C := ⟨_, rfl⟩
      rw [eu2, eC2] at hcopy
      have EC2 := hid eC2
      have HCP := hid hcopy
      have HK := hid hkp
      have RN := hid rn
      clear hcopy hkp rn ep eL eC eq eu2 eC2
      go_upto_region 3 with fail
      refine wp_region_noPanic ?_
      refine wp_region_held_drew (S := fun _ => True) (by kernel_rfl) (trivial) (fun hHeld => ?_)
      refine tk 0 (v := ?v1) ?y1 hHeld ?r1
      case y1 => intro w hSw; go_simp; try with_reducible rfl
      refine tk 1 (v := ?v2) ?y2 hHeld ?r2
      case y2 => intro w hSw; go_simp; try with_reducible rfl
      refine tk 2 (v := ?v3) ?y3 hHeld ?r3
      case y3 => intro w hSw; go_simp; try with_reducible rfl
      refine tk 3 (v := ?v4) ?y4 hHeld ?r4
      case y4 => intro w hSw; go_simp; try with_reducible rfl
      refine tk 4 (v := ?v5) ?y5 hHeld ?r5
      case y5 => intro w hSw; go_simp; try with_reducible rfl
      refine tk 5 (v := ?v6) ?y6 hHeld ?r6
      case y6 => intro w hSw; go_simp; try with_reducible rfl
      refine tk 6 (v := ?v7) ?y7 hHeld ?r7
      case y7 => intro w hSw; go_simp; try with_reducible rfl
      refine tk 7 (v := ?v8) ?y8 hHeld ?r8
      case y8 => intro w hSw; go_simp; try with_reducible rfl
      try simp only [Act.put, List.setIfInBounds_toArray, List.set_cons_zero, List.set_cons_succ, Array.toArray_toList, List.getElem_toArray, List.getElem_cons_zero, List.getElem_cons_succ]
      refine wpAnyH_ready (rs := [8]) (by kernel_rfl) (by simp) ?_
      refine AllReadyH.cons rfl (fun K hK => ?_) AllReadyH.nil
      refine step_copy_is (by rfl) _ _ 39 39 (by rfl) _ _ _ _ (by rfl) (by rfl) HCP.out ?_
      refine hK.out _ _ trivial (fun hHeld => ?_)
      clear hK K
      try simp only [Act.put, List.setIfInBounds_toArray, List.set_cons_zero, List.set_cons_succ, Array.toArray_toList, List.getElem_toArray, List.getElem_cons_zero, List.getElem_cons_succ]
      refine wpAnyH_done (by kernel_rfl) ?_ _
      refine NoPanic.normal ?_
      go_wp2
      go_roundw
      case rel => exact ⟨k + 1, by omega, by go_num, HK.out.drew.setRow _, u2, by rw [EC2.out]; exact setRow_at (w := wr.drew) RN.out⟩
      case measure => simp [intOf]; omega
    · obtain rfl : k = 8 := by omega
      have bq : decide (8 < 8) = false := by decide
      have HK := hid hkp
      have RN := hid rn
      clear hkp rn
      go_wp2
      go_end0
      exact ⟨rfl, HK.out, u', RN.out⟩

/-- A number stored among the eight. -/
theorem na_set (x : VState) (k : Nat) (hk : k < 8) (n : Int) : (cel (sState x)).setIfInBounds (979 + k) (.int .u64 n) = cel (sState { x with f14 := fun j => if j = k then n else x.f14 j }) := by
  rcases (by omega : k = 0 ∨ k = 1 ∨ k = 2 ∨ k = 3 ∨ k = 4 ∨ k = 5 ∨ k = 6 ∨ k = 7) with rfl | rfl | rfl | rfl | rfl | rfl | rfl | rfl
  · exact st_14_0 x n
  · exact st_14_1 x n
  · exact st_14_2 x n
  · exact st_14_3 x n
  · exact st_14_4 x n
  · exact st_14_5 x n
  · exact st_14_6 x n
  · exact st_14_7 x n

def ixU (x i : Value) : Sem Value := Instr.indexAt 37 x i

theorem ixU_eq (x i : Value) : Instr.indexAt 37 x i = ixU x i := rfl

theorem size_u64 (w : World) : (sizeOf 22).run Try.prog w = .ok 1 w := by
  obtain ⟨i, hi, _, hs, _⟩ := info_out (P := Try.prog) (t := 22) (z := .int .u64 0) (s := 1) (b := 8) (by kernel_rfl)
  simp [sizeOf, typeInfo, hi, hs]

theorem ixU_run (w : World) (b off len cap i : Nat) (h : i < len) : (ixU (.slice (some ⟨b, off, none⟩) len cap) (.int .i64 i)).run Try.prog w = .ok (.pointer (some ⟨b, off + i, none⟩)) w := by
  unfold ixU Instr.indexAt
  have h1 : (0 : Int) ≤ (i : Int) ∧ (i : Int) < (len : Int) := by omega
  simp only [asIntOf, Sem.run_bind, Sem.run_pure, Result.andThen_ok, run_underlying Try.underlying37, if_pos h1, size_u64, Addr.add_mid, Int.toNat_natCast, Nat.mul_one]

theorem wread8 (a : Option Addr) (cap : Nat) (f : Nat → Int) (w : World) (hb : Bys w a 8 cap f) (hf : ∀ j, j < 8 → 0 ≤ f j ∧ f j < 256) :
    Calls Try.prog 38 #[.slice a 8 cap] w fun e w' => e = .returned (.tuple #[.int .u64 (rdN f), .int .i64 0]) ∧ w' = w := by
  obtain ⟨b, off, rfl, _, _, hc⟩ := bys_at hb (by omega)
  have h0 := hf 0 (by omega)
  have h1 := hf 1 (by omega)
  have h2 := hf 2 (by omega)
  have h3 := hf 3 (by omega)
  have h4 := hf 4 (by omega)
  have h5 := hf 5 (by omega)
  have h6 := hf 6 (by omega)
  have h7 := hf 7 (by omega)
  exact Z.read8 b off cap (f 0) (f 1) (f 2) (f 3) (f 4) (f 5) (f 6) (f 7) w (hc 0 (by omega)) h0.1 (by omega) (hc 1 (by omega)) h1.1 (by omega) (hc 2 (by omega)) h2.1 (by omega) (hc 3 (by omega)) h3.1 (by omega) (hc 4 (by omega)) h4.1 (by omega) (hc 5 (by omega)) h5.1 (by omega) (hc 6 (by omega)) h6.1 (by omega) (hc 7 (by omega)) h7.1 (by omega)

attribute [local go_sem ↓] ixU_eq

set_option maxHeartbeats 2000000 in
theorem fillN (x : VState) (f : Nat → Int) (y gb ob cb : Nat) (t : TypeId) (w : World) (hy : w.heap[y]? = some (.cells (cel (sState x)) t)) (hb : Bys w (some ⟨gb, ob, none⟩) 64 cb f) (hf : ∀ j, 0 ≤ f j ∧ f j < 256) (hne : gb ≠ y) :
    Calls Try.prog 43 #[.slice (some ⟨y, 979, none⟩) 8 8, .slice (some ⟨gb, ob, none⟩) 64 cb] w fun e w' => e = .returned (.tuple #[]) ∧ Kept y w w' ∧ ∃ u', w'.heap[y]? = some (.cells (cel (sState { x with f14 := u' })) t) := by
  obtain ⟨b', o', e', hgb, hcp, hcs⟩ := bys_at hb (by omega)
  cases e'
  have hcm : cb ≤ 9223372036854775807 := by
    rcases hb with ⟨h, _⟩ | ⟨_, _, h⟩ | ⟨_, _, _, _, h, _⟩
    · cases h
    · omega
    · exact h
  have HSRC : Hid (∀ X, Kept y w X → Bys X (some ⟨gb, ob, none⟩) 64 cb f) := fun X h => .inr (.inr ⟨gb, ob, rfl, hcp, hcm, Nat.lt_of_lt_of_le hgb h.size, fun j hj => (h.cell hgb hne).trans (hcs j hj)⟩)
  have HY := hid hy
  clear hcs hb hy
  go_enter Try.func43, Try.ntmps43
  go_upto_region 1 with fail
  go_loopw [7] (fun i wr => ∃ k : Nat, k ≤ 8 ∧ i = .int .i64 k ∧ Kept y w wr ∧ ∃ u', wr.heap[y]? = some (.cells (cel (sState { x with f14 := u' })) t)) (fun i _ => 8 - (intOf i).toNat)
  case atStart => exact ⟨0, by omega, rfl, Kept.refl _ _, x.f14, HY.out⟩
  case round =>
    obtain ⟨k, hk, rfl, hkp, u', rn⟩ := hrel
    by_cases hlt : k < 8
    · have bq : decide (k < 8) = true := by simp; omega
      have k1 : (k : Int) < 8 := by omega
      have k2 : (0 : Int) ≤ (k : Int) := by omega
      obtain ⟨p, ep⟩ : ∃ p : Nat, p = 8 * k := ⟨_, rfl⟩
      obtain ⟨q, eq⟩ : ∃ q : Nat, q = 8 * k + 8 := ⟨_, rfl⟩
      have q1 : (k : Int) * 8 = (p : Int) := by omega
      have q3 : ((k : Int) + 1) * 8 = (q : Int) := by omega
      have q2 : IntKind.i64.wrap (p : Int) = (p : Int) := by rw [IntKind.wrap_i64]; omega
      have q4 : IntKind.i64.wrap (q : Int) = (q : Int) := by rw [IntKind.wrap_i64]; omega
      have ix := fun W => ixU_run W y 979 8 8 k hlt
      have sr := fun W => sl22_run W (some ⟨gb, ob, none⟩) 64 cb p q (some (.int .i64 p)) (some (.int .i64 q)) (.inl rfl) (.inl rfl) (by omega) (by omega) hcp
      have hpart := Z.bys_part (HSRC.out wr hkp) p q (by omega) (by omega)
      rw [if_neg (by omega), Option.map_some, Addr.add_mid] at sr hpart
      rw [show q - p = 8 by omega] at sr hpart
      obtain ⟨CC, eC⟩ : ∃ L, cb - p = L := ⟨_, rfl⟩
      rw [eC] at sr hpart
      have hrd := wread8 _ CC (fun j => f (p + j)) wr hpart (fun j _ => hf _)
      obtain ⟨D, eD⟩ : ∃ D, rdN (fun j => f (p + j)) = D := ⟨_, rfl⟩
      rw [eD] at hrd
      obtain ⟨P, eP⟩ : ∃ P, 979 + k = P := ⟨_, rfl⟩
      have c2 : wr.cell? ⟨y, P, none⟩ = some (.int .u64 (u' k)) := by
        rcases seg_na rn with h | ⟨b, off, e, _, hc⟩
        · omega
        · cases e
          rw [← eP]
          exact hc k hlt
      have f2 := row_frozen rn P
      have RN : Hid ((wr.setCell ⟨y, P, none⟩ (.int .u64 D)).heap[y]? = some (.cells (cel (sState { x with f14 := fun j => if j = k then D else u' j })) t)) := by
        rw [← eP]
        exact (row_set rn _ _).trans (congrArg (fun c => some (Obj.cells c t)) (na_set { x with f14 := u' } k hlt D))
      have KN : Hid (Kept y w (wr.setCell ⟨y, P, none⟩ (.int .u64 D))) := hkp.setCell _ _
      rw [eP] at ix
      have HRD := hid hrd
      clear hrd hpart rn hkp ep eq eC eD eP
      go_wp2_with (go_at_call 38; refine HRD.out.mono ?_; rintro e w1 ⟨rfl, hw1⟩; obtain rfl := hw1.symm)
      go_roundw
      case rel => exact ⟨k + 1, by omega, by go_num, KN.out, _, RN.out⟩
      case measure => simp [intOf]; omega
    · obtain rfl : k = 8 := by omega
      have bq : decide (8 < 8) = false := by decide
      have HK := hid hkp
      have RN := hid rn
      clear hkp rn
      go_wp2
      go_end0
      exact ⟨rfl, HK.out, u', RN.out⟩

end Go.Proofs.Ytehpfemlcjcabaa
