/-
  What Pack makes of bytes.
  What Mix and Holds answer.
  The fixed answers that every statement of layer 5 asks first are right.
  What MerkleMixes answers.
-/
import Derived.Test.YtficlakgameglaaDoorMaB
import Derived.Laws.MakeOwn
namespace Go.Proofs.YtficlakgameglaaDoor

open Go.RowKit

set_option linter.unusedVariables false

set_option linter.unusedSimpArgs false

/-- Slices of bytes, whole. -/
def sl22 (x : Value) (lo hi : Option Value) : Sem Value := Instr.sliceAt 39 x lo hi none

theorem sl22_eq (x : Value) (lo hi : Option Value) : Instr.sliceAt 39 x lo hi none = sl22 x lo hi := rfl

theorem sl22_run (W : World) (ao : Option Addr) (len cap lo hi : Nat) (l h : Option Value) (hl : l = some (.int .i64 lo) ∨ l = none ∧ lo = 0) (hh : h = some (.int .i64 hi) ∨ h = none ∧ hi = len) (h1 : lo ≤ hi) (h2 : hi ≤ len) (h3 : len ≤ cap) :
    (sl22 (.slice ao len cap) l h).run Tryd.prog W = .ok (.slice (if cap = lo then ao else ao.map (·.add lo)) (hi - lo) (cap - lo)) W := by
  obtain ⟨i, hi8, _, hz, _⟩ := info_parts info8
  have b1 : ∀ (k n : Nat) (c : BoundsCode), k ≤ n → (Instr.sliceBound (.int .i64 (k : Int)) n c).run Tryd.prog W = .ok k W := by
    intro k n c hk
    have h0 : (k : Int) ≤ (n : Int) := by omega
    simp [Instr.sliceBound, asIntOf, h0]
  have c1 := fun c => b1 lo hi c h1
  have c2 := fun c => b1 hi cap c (by omega)
  unfold sl22 Instr.sliceAt
  rcases hl with rfl | ⟨rfl, rfl⟩ <;> rcases hh with rfl | ⟨rfl, rfl⟩ <;>
    simp [run_underlying Tryd.underlying39, Instr.slice, Instr.sliceBounds, c1, c2, sizeOf, typeInfo, hi8, hz]

/-- Roots made. -/
def mk22 (x y : Value) : Sem Value := Instr.makeSlice 32 x y

theorem mk22_eq (x y : Value) : Instr.makeSlice 32 x y = mk22 x y := rfl

theorem made_rts (n : Nat) : madeCells (vs .u8 32 fun _ => 0) (n * 32) = vs .u8 (32 * n) (fun _ => 0) := by
  apply Array.ext_getElem?
  intro j
  by_cases hj : j < 32 * n
  · rw [vs_get _ _ _ _ hj]
    have hs : (vs .u8 32 fun _ => 0).size = 32 := vs_size _ _ _
    have hj2 : j < n * 32 := by omega
    simp [madeCells, hj2]
    have h3 := vs_get .u8 32 (fun _ => 0) (j % (vs .u8 32 fun _ => 0).size) (by rw [hs]; omega)
    rw [getElem!_def, h3]
  · rw [Array.getElem?_eq_none (by rw [size_madeCells]; omega), Array.getElem?_eq_none (by rw [vs_size]; omega)]

theorem mk22_run (W : World) (n : Nat) (hn : 32 * n ≤ 281474976710656) : (mk22 (.int .i64 n) (.int .i64 n)).run Tryd.prog W = .ok (.slice (some ⟨W.heap.size, 0, none⟩) n n) (W.alloc (.cells (vs .u8 (32 * n) (fun _ => 0)) 24)) := by
  obtain ⟨i, hi, hz0, hz1, hz2⟩ := infoR
  have h := run_make (P := Tryd.prog) W 32 24 i _ Tryd.underlying32 hi hz0 .i64 .i64 n n (by omega) (Int.le_refl _) (by rw [hz2]; omega) (by omega)
  rw [hz1, Int.toNat_natCast] at h
  unfold mk22
  rw [h]
  have e : (Value.agg (vs .u8 32 fun _ => 0)).cells = vs .u8 32 fun _ => 0 := rfl
  rw [e, made_rts]

/-- Bytes copied into a row of bytes. -/
theorem copy_to (W : World) (g N : Nat) (f z : Nat → Int) (p c : Nat) (x : Addr) (len cap dl dcap : Nat) (t : TypeId) (hg : W.heap[g]? = some (.cells (vs .u8 N f) t)) (hp : p + c ≤ N) (hc : c = Nat.min len dl) (hx : ∀ j, j < c → W.cell? (x.add j) = some (.int .u8 (z j))) :
    ∀ ty, (Builtin.copy_ #[39, 39] ty #[.slice (some ⟨g, p, none⟩) dl dcap, .slice (some x) len cap]).run Tryd.prog W = .ok (.int .i64 c) (W.setRow g (vs .u8 N (over f z p c))) := by
  intro ty
  have hrun := run_copy_row (P := Tryd.prog) W 39 39 ty 5 g p dl dcap x len cap (vs .u8 N f) t (bl z c) Tryd.underlying39 (by kernel_rfl) hg (by rw [bl_len]; exact hc)
    (fun j v hj => by
      obtain ⟨h1, rfl⟩ := bl_get z c j v hj
      exact hx j h1) (by rw [bl_len, vs_size]; exact hp) (bl_one z c)
  rw [hrun, bl_len]
  have e : ((vs .u8 N f).toList.take p ++ bl z c ++ (vs .u8 N f).toList.drop (p + c)).toArray = vs .u8 N (over f z p c) := by
    apply Array.ext_getElem?
    intro j
    rw [List.getElem?_toArray, List.append_assoc]
    have hl1 : ((vs .u8 N f).toList.take p).length = p := by rw [List.length_take, Array.length_toList, vs_size]; omega
    by_cases h1 : j < p
    · rw [List.getElem?_append_left (by omega), List.getElem?_take_of_lt h1, Array.getElem?_toList, vs_get _ _ _ _ (by omega), vs_get _ _ _ _ (by omega)]
      unfold over
      rw [if_neg (by omega)]
    · rw [List.getElem?_append_right (by omega), hl1]
      by_cases h2 : j < p + c
      · rw [List.getElem?_append_left (by rw [bl_len]; omega), bl_at _ _ _ (by omega), vs_get _ _ _ _ (by omega)]
        unfold over
        rw [if_pos (by omega)]
      · rw [List.getElem?_append_right (by rw [bl_len]; omega), bl_len, List.getElem?_drop, Array.getElem?_toList, show p + c + (j - p - c) = j by omega]
        by_cases h3 : j < N
        · rw [vs_get _ _ _ _ h3, vs_get _ _ _ _ h3]
          unfold over
          rw [if_neg (by omega)]
        · rw [vs_get_none _ _ _ _ (by omega), vs_get_none _ _ _ _ (by omega)]
  rw [e]
  rfl

/-- The packed bytes, k chunks written. -/
def pkU (m : Nat → Int) (len k : Nat) (q : Nat) : Int := if q < 32 * k ∧ q < len then m q else 0

theorem pkU_step (m : Nat → Int) (len k : Nat) (hk : 32 * k < len) (q : Nat) : over (pkU m len k) (fun j => m (32 * k + j)) (32 * k) (Nat.min (len - 32 * k) 32) q = pkU m len (k + 1) q := by
  have h32 : Nat.min (len - 32 * k) 32 = if len - 32 * k ≤ 32 then len - 32 * k else 32 := by
    by_cases h : len - 32 * k ≤ 32
    · rw [if_pos h]; exact Nat.min_eq_left h
    · rw [if_neg h]; exact Nat.min_eq_right (by omega)
  generalize Nat.min (len - 32 * k) 32 = c at h32
  unfold over pkU
  by_cases h1 : 32 * k ≤ q ∧ q < 32 * k + c
  · rw [if_pos h1, if_pos (by split at h32 <;> omega)]
    show m (32 * k + (q - 32 * k)) = m q
    rw [show 32 * k + (q - 32 * k) = q by omega]
  · rw [if_neg h1]
    by_cases h2 : q < 32 * k ∧ q < len
    · rw [if_pos h2, if_pos (by omega)]
    · rw [if_neg h2, if_neg (by split at h32 <;> omega)]

/-- The packed bytes. -/
def pk (m : Nat → Int) (len : Nat) (q : Nat) : Int := if q < len then m q else 0

theorem pk_bd {m : Nat → Int} {len : Nat} (h : ∀ q, q < len → 0 ≤ m q ∧ m q < 256) (n : Nat) : ByB (pk m len) n := fun q _ => by
  unfold pk
  by_cases hq : q < len
  · rw [if_pos hq]; exact h q hq
  · rw [if_neg hq]; omega

attribute [local go_sem ↓] sv24_eq lv24_eq ix22_eq slr_eq lv48_eq sv48_eq bd48_eq bd27_eq bs22_eq sl22_eq mk22_eq

set_option maxRecDepth 20000 in
set_option maxHeartbeats 2000000 in
theorem pack_any (a : Option Addr) (len cap : Nat) (m : Nat → Int) (w : World) (hb : Bys w a len cap m) (hl : len ≤ 140737488355328) :
    Calls Tryd.prog 90 #[.slice a len cap] w fun e w' => e = .returned (.slice (some ⟨w.heap.size, 0, none⟩) ((len + 31) / 32) ((len + 31) / 32)) ∧ Below w.heap.size w w' ∧ w'.heap.size = w.heap.size + 1 ∧ w'.heap[w.heap.size]? = some (.cells (vs .u8 (32 * ((len + 31) / 32)) (pk m len)) 24) := by
  obtain ⟨cnt, ec⟩ : ∃ c, c = (len + 31) / 32 := ⟨_, rfl⟩
  rw [← ec]
  obtain ⟨q0, eq0⟩ : ∃ c, c = len / 32 := ⟨_, rfl⟩
  have t1 : (len : Int).tdiv 32 = (q0 : Int) := by rw [Int.tdiv_eq_ediv_of_nonneg (by omega)]; omega
  have t2 : (len : Int) / 32 = (q0 : Int) := by omega
  obtain ⟨r0, er0⟩ : ∃ c, c = len % 32 := ⟨_, rfl⟩
  have t3 : (len : Int).tmod 32 = (r0 : Int) := by rw [Int.tmod_eq_emod_of_nonneg (by omega)]; omega
  have t4 : (len : Int) % 32 = (r0 : Int) := by omega
  have mk := fun W => mk22_run W cnt (by omega)
  have HBY := hid hb
  have hcap : len ≤ cap ∧ (0 < len → ∃ b off, a = some ⟨b, off, none⟩ ∧ b < w.heap.size ∧ ∀ j, j < len → w.cell? ⟨b, off + j, none⟩ = some (.int .u8 (m j))) := by
    rcases hb with ⟨_, h1, h2⟩ | ⟨x, _, h⟩ | ⟨b, off, h1, h2, h3, h4, h5⟩
    · exact ⟨by omega, fun h => by omega⟩
    · exact ⟨by omega, fun h0 => by omega⟩
    · exact ⟨h2, fun _ => ⟨b, off, h1, h4, h5⟩⟩
  have HCP0 := hid hcap
  have hcc : cnt * 32 ≤ 140737488355360 := by omega
  have HE := hid (And.intro ec (And.intro eq0 er0))
  have tail : (((r0 : Int) == 0) = true ∧ (q0 : Int) = (cnt : Int)) ∨ (((r0 : Int) == 0) = false ∧ (q0 : Int) + 1 = (cnt : Int)) := by
    by_cases h : r0 = 0
    · exact .inl ⟨by simp; omega, by omega⟩
    · exact .inr ⟨by simp; omega, by omega⟩
  clear hb hcap ec eq0 er0
  rcases tail with ⟨t5, t6⟩ | ⟨t5, t6⟩
  · go_enter Tryd.func90, Tryd.ntmps90
    go_wp2
    go_loopw [19] (fun i wr => ∃ k : Nat, k ≤ cnt ∧ i = .int .i64 k ∧ Below w.heap.size w wr ∧ wr.heap.size = w.heap.size + 1 ∧ wr.heap[w.heap.size]? = some (.cells (vs .u8 (32 * cnt) (pkU m len k)) 24)) (fun i _ => cnt - (intOf i).toNat)
    case atStart =>
      refine ⟨0, by omega, rfl, by go_grown, by simp, (heap_new rfl).trans (congrArg (fun c => some (Obj.cells c 24)) (vs_congr fun q _ => ?_))⟩
      unfold pkU
      rw [if_neg (by omega)]
    case round =>
      clear mk t1 t2 t3 t4 t5 t6
      obtain ⟨k, hk, rfl, hB, hz, r⟩ := hrel
      by_cases hlt : k < cnt
      · have hkl : 32 * k < len := by have := HE.out; omega
        obtain ⟨hcp, hbb⟩ := HCP0.out
        obtain ⟨b, off, rfl, hbw, hc⟩ := hbb (by omega)
        have b3 : decide (k < cnt) = true := by simp; omega
        obtain ⟨p, ep⟩ : ∃ p : Nat, p = 32 * k := ⟨_, rfl⟩
        have q1 : (k : Int) * 32 = (p : Int) := by omega
        have q2 : IntKind.i64.wrap (p : Int) = (p : Int) := by rw [IntKind.wrap_i64]; omega
        have ixf := fun W => ix22_run W w.heap.size 0 cnt cnt k hlt
        rw [Nat.zero_add, ← ep] at ixf
        have sr := fun W => sl22_run W (some ⟨b, off, none⟩) len cap p len (some (.int .i64 p)) none (.inl rfl) (.inr ⟨rfl, rfl⟩) (by omega) (Nat.le_refl _) hcp
        rw [if_neg (by omega), Option.map_some, Addr.add_mid] at sr
        obtain ⟨c, ecc⟩ : ∃ c, c = Nat.min (len - p) 32 := ⟨_, rfl⟩
        have hc1 : c ≤ len - p := by rw [ecc]; exact Nat.min_le_left _ _
        have hc2 : c ≤ 32 := by rw [ecc]; exact Nat.min_le_right _ _
        have hcopy := copy_to wr.drew w.heap.size (32 * cnt) (pkU m len k) (fun j => m (32 * k + j)) p c ⟨b, off + p, none⟩ (len - p) (cap - p) 32 32 24 r (by omega) ecc
          (fun j hj => by
            rw [Addr.add_mid, Nat.add_assoc, ← ep]
            exact (below_cell hB hbw).trans (hc _ (by omega)))
        have HCP := hid hcopy
        have HB := hid hB
        have R := hid r
        have EP := hid (And.intro ep ecc)
        have HZ := hid hz
        clear hcopy hB r ep hz hc ecc
        go_upto_region 8 with fail
        refine wp_region_noPanic ?_
        refine wp_region_held_drew (S := fun _ => True) (by kernel_rfl) (trivial) (fun hHeld => ?_)
        refine tk 0 (v := ?v1) ?y1 hHeld ?r1
        case y1 => intro w hSw; go_simp; try with_reducible rfl
        refine tk 1 (v := ?v2) ?y2 hHeld ?r2
        case y2 => intro w hSw; go_simp; try with_reducible rfl
        refine tk 2 (v := ?v3) ?y3 hHeld ?r3
        case y3 => intro w hSw; go_simp; try with_reducible rfl
        refine tk 3 (v := ?v4) ?y4 hHeld ?r4
        case y4 => intro w hSw; go_simp; try with_reducible rfl
        refine tk 4 (v := ?v5) ?y5 hHeld ?r5
        case y5 => intro w hSw; go_simp; try with_reducible rfl
        refine tk 5 (v := ?v6) ?y6 hHeld ?r6
        case y6 => intro w hSw; go_simp; try with_reducible rfl
        refine tk 6 (v := ?v7) ?y7 hHeld ?r7
        case y7 => intro w hSw; go_simp; try with_reducible rfl
        refine tk 7 (v := ?v8) ?y8 hHeld ?r8
        case y8 => intro w hSw; go_simp; try with_reducible rfl
        try simp only [Act.put, List.setIfInBounds_toArray, List.set_cons_zero, List.set_cons_succ, Array.toArray_toList, List.getElem_toArray, List.getElem_cons_zero, List.getElem_cons_succ]
        refine wpAnyH_ready (rs := [8]) (by kernel_rfl) (by simp) ?_
        refine AllReadyH.cons rfl (fun K hK => ?_) AllReadyH.nil
        refine step_copy_is (by rfl) _ _ 39 39 (by rfl) _ _ _ _ (by rfl) (by rfl) HCP.out ?_
        refine hK.out _ _ trivial (fun hHeld => ?_)
        clear hK K
        try simp only [Act.put, List.setIfInBounds_toArray, List.set_cons_zero, List.set_cons_succ, Array.toArray_toList, List.getElem_toArray, List.getElem_cons_zero, List.getElem_cons_succ]
        refine wpAnyH_done (by kernel_rfl) ?_ _
        refine NoPanic.normal ?_
        go_wp2
        go_roundw
        case rel =>
          refine ⟨k + 1, by omega, by go_num, below_row HB.out.drew (Nat.le_refl _) _, by simpa using HZ.out, (setRow_at (w := wr.drew) R.out).trans (congrArg (fun c => some (Obj.cells c 24)) (vs_congr fun q _ => ?_))⟩
          rw [EP.out.2, EP.out.1]
          exact pkU_step m len k hkl q
        case measure => simp [intOf]; omega
      · have ek : k = cnt := by omega
        subst ek
        have b3 : decide (k < k) = false := by simp
        go_wp2
        go_ret
        refine ⟨rfl, hB, hz, r.trans (congrArg (fun c => some (Obj.cells c 24)) (vs_congr fun q hq => ?_))⟩
        unfold pkU pk
        by_cases h : q < len
        · rw [if_pos ⟨hq, h⟩, if_pos h]
        · rw [if_neg (fun x => h x.2), if_neg h]
  · go_enter Tryd.func90, Tryd.ntmps90
    go_wp2
    go_loopw [19] (fun i wr => ∃ k : Nat, k ≤ cnt ∧ i = .int .i64 k ∧ Below w.heap.size w wr ∧ wr.heap.size = w.heap.size + 1 ∧ wr.heap[w.heap.size]? = some (.cells (vs .u8 (32 * cnt) (pkU m len k)) 24)) (fun i _ => cnt - (intOf i).toNat)
    case atStart =>
      refine ⟨0, by omega, rfl, by go_grown, by simp, (heap_new rfl).trans (congrArg (fun c => some (Obj.cells c 24)) (vs_congr fun q _ => ?_))⟩
      unfold pkU
      rw [if_neg (by omega)]
    case round =>
      clear mk t1 t2 t3 t4 t5 t6
      obtain ⟨k, hk, rfl, hB, hz, r⟩ := hrel
      by_cases hlt : k < cnt
      · have hkl : 32 * k < len := by have := HE.out; omega
        obtain ⟨hcp, hbb⟩ := HCP0.out
        obtain ⟨b, off, rfl, hbw, hc⟩ := hbb (by omega)
        have b3 : decide (k < cnt) = true := by simp; omega
        obtain ⟨p, ep⟩ : ∃ p : Nat, p = 32 * k := ⟨_, rfl⟩
        have q1 : (k : Int) * 32 = (p : Int) := by omega
        have q2 : IntKind.i64.wrap (p : Int) = (p : Int) := by rw [IntKind.wrap_i64]; omega
        have ixf := fun W => ix22_run W w.heap.size 0 cnt cnt k hlt
        rw [Nat.zero_add, ← ep] at ixf
        have sr := fun W => sl22_run W (some ⟨b, off, none⟩) len cap p len (some (.int .i64 p)) none (.inl rfl) (.inr ⟨rfl, rfl⟩) (by omega) (Nat.le_refl _) hcp
        rw [if_neg (by omega), Option.map_some, Addr.add_mid] at sr
        obtain ⟨c, ecc⟩ : ∃ c, c = Nat.min (len - p) 32 := ⟨_, rfl⟩
        have hc1 : c ≤ len - p := by rw [ecc]; exact Nat.min_le_left _ _
        have hc2 : c ≤ 32 := by rw [ecc]; exact Nat.min_le_right _ _
        have hcopy := copy_to wr.drew w.heap.size (32 * cnt) (pkU m len k) (fun j => m (32 * k + j)) p c ⟨b, off + p, none⟩ (len - p) (cap - p) 32 32 24 r (by omega) ecc
          (fun j hj => by
            rw [Addr.add_mid, Nat.add_assoc, ← ep]
            exact (below_cell hB hbw).trans (hc _ (by omega)))
        have HCP := hid hcopy
        have HB := hid hB
        have R := hid r
        have EP := hid (And.intro ep ecc)
        have HZ := hid hz
        clear hcopy hB r ep hz hc ecc
        go_upto_region 8 with fail
        refine wp_region_noPanic ?_
        refine wp_region_held_drew (S := fun _ => True) (by kernel_rfl) (trivial) (fun hHeld => ?_)
        refine tk 0 (v := ?v9) ?y9 hHeld ?r9
        case y9 => intro w hSw; go_simp; try with_reducible rfl
        refine tk 1 (v := ?v10) ?y10 hHeld ?r10
        case y10 => intro w hSw; go_simp; try with_reducible rfl
        refine tk 2 (v := ?v11) ?y11 hHeld ?r11
        case y11 => intro w hSw; go_simp; try with_reducible rfl
        refine tk 3 (v := ?v12) ?y12 hHeld ?r12
        case y12 => intro w hSw; go_simp; try with_reducible rfl
        refine tk 4 (v := ?v13) ?y13 hHeld ?r13
        case y13 => intro w hSw; go_simp; try with_reducible rfl
        refine tk 5 (v := ?v14) ?y14 hHeld ?r14
        case y14 => intro w hSw; go_simp; try with_reducible rfl
        refine tk 6 (v := ?v15) ?y15 hHeld ?r15
        case y15 => intro w hSw; go_simp; try with_reducible rfl
        refine tk 7 (v := ?v16) ?y16 hHeld ?r16
        case y16 => intro w hSw; go_simp; try with_reducible rfl
        try simp only [Act.put, List.setIfInBounds_toArray, List.set_cons_zero, List.set_cons_succ, Array.toArray_toList, List.getElem_toArray, List.getElem_cons_zero, List.getElem_cons_succ]
        refine wpAnyH_ready (rs := [8]) (by kernel_rfl) (by simp) ?_
        refine AllReadyH.cons rfl (fun K hK => ?_) AllReadyH.nil
        refine step_copy_is (by rfl) _ _ 39 39 (by rfl) _ _ _ _ (by rfl) (by rfl) HCP.out ?_
        refine hK.out _ _ trivial (fun hHeld => ?_)
        clear hK K
        try simp only [Act.put, List.setIfInBounds_toArray, List.set_cons_zero, List.set_cons_succ, Array.toArray_toList, List.getElem_toArray, List.getElem_cons_zero, List.getElem_cons_succ]
        refine wpAnyH_done (by kernel_rfl) ?_ _
        refine NoPanic.normal ?_
        go_wp2
        go_roundw
        case rel =>
          refine ⟨k + 1, by omega, by go_num, below_row HB.out.drew (Nat.le_refl _) _, by simpa using HZ.out, (setRow_at (w := wr.drew) R.out).trans (congrArg (fun c => some (Obj.cells c 24)) (vs_congr fun q _ => ?_))⟩
          rw [EP.out.2, EP.out.1]
          exact pkU_step m len k hkl q
        case measure => simp [intOf]; omega
      · have ek : k = cnt := by omega
        subst ek
        have b3 : decide (k < k) = false := by simp
        go_wp2
        go_ret
        refine ⟨rfl, hB, hz, r.trans (congrArg (fun c => some (Obj.cells c 24)) (vs_congr fun q hq => ?_))⟩
        unfold pkU pk
        by_cases h : q < len
        · rw [if_pos ⟨hq, h⟩, if_pos h]
        · rw [if_neg (fun x => h x.2), if_neg h]

end Go.Proofs.YtficlakgameglaaDoor

namespace Go.Proofs.YtficlakgameglaaDoor

open Go.RowKit

set_option linter.unusedVariables false

set_option linter.unusedSimpArgs false

attribute [local go_sem ↓] sv24_eq lv24_eq ix22_eq slr_eq lv48_eq sv48_eq bd48_eq bd27_eq bs22_eq sl22_eq mk22_eq

/-- A number as a chunk. -/
def nmB (n : Int) (j : Nat) : Int := n / 2 ^ (8 * j) % 256

/-- Roots compared. -/
def eqR (c d : Nat → Int) : Bool := (List.range 32).all fun j => c j == d j

theorem eq32g (w : World) (c d : Nat → Int) : (Op.equalIn 10000 24 (.agg (vs .u8 32 c)) (.agg (vs .u8 32 d))).run Tryd.prog w = .ok (eqR c d) w := by
  have hi : ∃ i, Tryd.prog.info? 5 = some i := Option.isSome_iff_exists.1 (by kernel_rfl)
  obtain ⟨i, hi⟩ := hi
  have hc : Tryd.prog.cellsOf 5 = 1 := by kernel_rfl
  rw [run_equalIn_array w 9999 _ _ Tryd.underlying24 hi, hc]
  exact run_eqItems_ints (P := Tryd.prog) 9998 5 .u8 .u8 Tryd.underlying5 agg_u8 (vs .u8 32 c) (vs .u8 32 d) c d w (List.range 32) (by
    intro j hj
    have hj := List.mem_range.1 hj
    exact ⟨vs_get _ _ _ _ hj, vs_get _ _ _ _ hj⟩)

end Go.Proofs.YtficlakgameglaaDoor

namespace Go.Proofs.YtficlakgameglaaDoor

open Go.RowKit

set_option linter.unusedVariables false

set_option linter.unusedSimpArgs false

attribute [local go_sem ↓] sv24_eq lv24_eq ix22_eq slr_eq lv48_eq sv48_eq bd48_eq bd27_eq bs22_eq sl22_eq mk22_eq

theorem rts_row {w : World} {g n : Nat} {f : Nat → Int} {t : TypeId} (h : w.heap[g]? = some (.cells (vs .u8 (32 * n) f) t)) : Rts w (some ⟨g, 0, none⟩) n n f :=
  .inr (.inr ⟨g, 0, rfl, Nat.le_refl _, (Array.getElem?_eq_some_iff.1 h).1, fun j hj => by rw [Nat.zero_add]; exact row_int h j hj⟩)

end Go.Proofs.YtficlakgameglaaDoor

namespace Go.Proofs.YtficlakgameglaaDoor

open Go.RowKit

set_option linter.unusedVariables false

set_option linter.unusedSimpArgs false

/-- Roots compared, whole. -/
def eqo (x y : Value) : Sem Value := binOp .eql 24 x y

theorem eqo_eq (x y : Value) : binOp .eql 24 x y = eqo x y := rfl

theorem eqo_run (w : World) (c d : Nat → Int) : (eqo (.agg (vs .u8 32 c)) (.agg (vs .u8 32 d))).run Tryd.prog w = .ok (.bool (eqR c d)) w := by
  have h := eq32g w c d
  unfold eqo
  have h2 : (Op.equalIn Op.maxDepth 24 (.agg (vs .u8 32 c)) (.agg (vs .u8 32 d))).run Tryd.prog w = .ok (eqR c d) w := h
  simp [binOp, Op.equal, h2]

theorem yields_eqo {ops : Array Oper} {S : World → Prop} {op : Oper} {a : Act} (hw : Region.wanted op (yielded ops a.tmps) = true) (x y : Operand) (rt : TypeId) (ho : op.op = .binOp .eql 24 x y rt) (c d : Nat → Int)
    (hx : a.eval x = .agg (vs .u8 32 c)) (hy : a.eval y = .agg (vs .u8 32 d)) : YieldsIf Tryd.prog ops S op (.bool (eqR c d)) a :=
  .inl ⟨hw, fun w _ => by
    have h := eqo_run w c d
    unfold eqo at h
    unfold execOp
    simp [ho, hx, hy, eqGuard, h]⟩

attribute [local go_sem ↓] sv24_eq lv24_eq ix22_eq slr_eq lv48_eq sv48_eq bd48_eq bd27_eq bs22_eq sl22_eq mk22_eq eqo_eq

theorem own_bys {w : World} {B : Nat} {v : Value} {n : Nat} {m : Nat → Int} (h : w.ownsRow B 5 1 v n (bl m n)) : ∃ a cap, v = .slice a n cap ∧ Bys w a n cap m ∧ (a = none → n = 0) := by
  rcases h with ⟨h0, ⟨rfl, rfl⟩ | ⟨g, cap, cur, rfl, h1, h2, h3, h4, h5, h6⟩⟩
  · exact ⟨none, 0, rfl, .inl ⟨rfl, rfl, rfl⟩, fun _ => rfl⟩
  · have hg := (Array.getElem?_eq_some_iff.1 h2).1
    unfold maxLen at h4
    refine ⟨_, cap, rfl, .inr (.inr ⟨g, 0, rfl, h3, by omega, hg, fun j hj => ?_⟩), fun h => by cases h⟩
    have h7 : (cur.toList.take (n * 1))[j]? = (bl m n)[j]? := by rw [h6]
    rw [List.getElem?_take_of_lt (by omega), bl_at _ _ _ hj, Array.getElem?_toList] at h7
    rw [Nat.zero_add, row_cell h2, h7]

end Go.Proofs.YtficlakgameglaaDoor
