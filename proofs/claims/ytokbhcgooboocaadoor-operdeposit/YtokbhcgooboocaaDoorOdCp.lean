/-
  readProof; what ReadDeposit answers.
-/
import Derived.Test.YtokbhcgooboocaaDoorOdAp
import Derived.Test.YtokbhcgooboocaaDoorThDepositDatap
import Derived.Test.YtokbhcgooboocaaDoorCoCp
namespace Go.Proofs.YtokbhcgooboocaaDoor
open Go.RowKit
set_option linter.unusedVariables false
set_option linter.unusedSimpArgs false
set_option maxRecDepth 20000

def svProof (a : Addr) (v : Value) : Sem Unit := storeVar 55 a v
theorem svProof_eq (a : Addr) (v : Value) : storeVar 55 a v = svProof a v := rfl
theorem svProof_run {w : World} {b : Nat} {o : Nat → Int} {t : TypeId} (h : w.heap[b]? = some (.cells (vs .u8 224 o) t)) (c : Nat → Int) : (svProof ⟨b, 0, none⟩ (.agg (vs .u8 224 c))).run Tryd.prog w = .ok () (w.setRow b (vs .u8 224 c)) :=
  run_storeVar_row w b t 55 _ _ h (by rw [vs_size]; kernel_rfl) (by rw [vs_size, vs_size]) (vs_one _ _ _)
theorem lvProof_run {w : World} {b : Nat} {c : Nat → Int} {t : TypeId} (h : w.heap[b]? = some (.cells (vs .u8 224 c) t)) : (lvProof ⟨b, 0, none⟩).run Tryd.prog w = .ok (.agg (vs .u8 224 c)) w :=
  loadAt_var (load_row h 55 _ Tryd.underlying55 rfl (by rw [vs_size]; kernel_rfl))
theorem retProof {fn : Func} {R : Ending → World → Prop} {a : Act} {w' : World} (t : Tmp) (b : Nat) (c : Nat → Int) (ty : TypeId) (h : fn.results = #[.cell t 55]) (hd : a.defers = []) (ht : a.tmps.getD t undef = .pointer (some ⟨b, 0, none⟩)) (hr : w'.heap[b]? = some (.cells (vs .u8 224 c) ty))
    (hR : R (.returned (.agg (vs .u8 224 c))) w') : bodyPost Tryd.prog fn R .ret a w' :=
  bodyPost_ret (results_cell h a.tmps _ b _ ht (load_row hr 55 _ Tryd.underlying55 rfl (by rw [vs_size]; kernel_rfl))) hd hR
theorem zero_proof : ∀ w : World, (zeroValue 55).run Tryd.prog w = .ok (.agg (vs .u8 224 fun _ => 0)) w := (zero_of_info (n := 224) (by kernel_rfl)).1

attribute [local go_sem ↓] lvProof_eq svProof_eq sl22_eq

set_option maxRecDepth 20000 in
set_option maxHeartbeats 1000000 in
theorem rproof_any (m : Nat → Int) (b0 o0 c0 : Nat) (w : World) (hb : Bys w (some ⟨b0, o0, none⟩) 224 c0 m) :
    Calls Tryd.prog 61 #[.slice (some ⟨b0, o0, none⟩) 224 c0] w fun e w' => e = .returned (.agg (vs .u8 224 m)) ∧ Below w.heap.size w w' := by
  obtain ⟨b', o', e', hbl, hcp, hcs⟩ := bys_at hb (by omega)
  cases e'
  have z := zero_proof
  obtain ⟨y, ey⟩ : ∃ y, w.heap.size = y := ⟨_, rfl⟩
  obtain ⟨W1, hW1⟩ : ∃ W, w.alloc (.cells (vs .u8 224 fun _ => 0) 55) = W := ⟨_, rfl⟩
  obtain ⟨W2, hW2⟩ : ∃ W, W1.alloc (.cells (vs .u8 224 fun _ => 0) 55) = W := ⟨_, rfl⟩
  have z1 : W1.heap.size = y + 1 := by rw [← hW1, ← ey]; simp
  have z2 : W2.heap.size = y + 2 := by rw [← hW2]; simp [z1]
  have hB2 : Below w.heap.size w W2 := by rw [← hW2, ← hW1]; exact ((Below.refl _ _).alloc (Nat.le_refl _) _).alloc (by simp) _
  have r1 : W2.heap[y]? = some (.cells (vs .u8 224 fun _ => 0) 55) := by rw [← hW2]; refine (heap_old (by omega)).trans ?_; rw [← hW1]; exact heap_new ey.symm
  have r2 : W2.heap[y + 1]? = some (.cells (vs .u8 224 fun q => if q < 32 * 0 then m q else 0) 55) := by rw [← hW2]; exact (heap_new z1.symm).trans (congrArg (fun c => some (Obj.cells c 55)) (vs_congr fun q _ => by rw [if_neg (by omega)]))
  have HSRC : Hid (∀ X, Kept (y + 1) W2 X → ∀ j, j < 224 → X.cell? ⟨b0, o0 + j, none⟩ = some (.int .u8 (m j))) := fun X h j hj => (h.cell (by omega) (by omega)).trans ((below_cell hB2 (by omega)).trans (hcs j hj))
  obtain ⟨g, eg⟩ : ∃ g, y + 1 = g := ⟨_, rfl⟩
  rw [eg] at r2 HSRC
  have HB2 := hid hB2
  have R1 := hid r1
  have R2 := hid r2
  have EY := hid ey
  have EG := hid eg
  have Z2 := hid z2
  clear hb hbl hcs hB2 r1 r2
  go_enter Tryd.func61, Tryd.ntmps61
  go_upto_region 3 with fail
  clear hW1 hW2 z1 z2 ey eg z
  go_loopw [5] (fun i wr => ∃ k : Nat, k ≤ 7 ∧ i = .int .i64 k ∧ Kept g W2 wr ∧ wr.heap[g]? = some (.cells (vs .u8 224 fun q => if q < 32 * k then m q else 0) 55)) (fun i _ => 7 - (intOf i).toNat)
  case atStart => exact ⟨0, by omega, rfl, Kept.refl _ _, R2.out⟩
  case round =>
    obtain ⟨k, hk, rfl, hkp, rn⟩ := hrel
    by_cases hlt : k < 7
    · have bq : decide (k < 7) = true := by simp; omega
      have k1 : (k : Int) < 7 := by omega
      have k2 : (0 : Int) ≤ (k : Int) := by omega
      obtain ⟨p, ep⟩ : ∃ p : Nat, p = 32 * k := ⟨_, rfl⟩
      have q1 : (k : Int) * 32 = (p : Int) := by omega
      have q2 : IntKind.i64.wrap (p : Int) = (p : Int) := by rw [IntKind.wrap_i64]; omega
      have sr := fun W => sl22_run W (some ⟨b0, o0, none⟩) 224 c0 p 224 (some (.int .i64 p)) none (.inl rfl) (.inr ⟨rfl, rfl⟩) (by omega) (Nat.le_refl _) hcp
      rw [if_neg (by omega), Option.map_some, Addr.add_mid] at sr
      obtain ⟨L, eL⟩ : ∃ L, 224 - p = L := ⟨_, rfl⟩
      obtain ⟨CC, eC⟩ : ∃ L, c0 - p = L := ⟨_, rfl⟩
      rw [eL, eC] at sr
      have hcopy := copy_to wr.drew g 224 (fun q => if q < 32 * k then m q else 0) (fun j => m (p + j)) (k * 32) 32 ⟨b0, o0 + p, none⟩ L CC 32 32 55 rn (by omega) (Nat.min_eq_right (show 32 ≤ L by omega)).symm
        (fun j hj => by
          rw [Addr.add_mid, Nat.add_assoc]
          exact HSRC.out wr.drew hkp.drew (p + j) (by omega))
      have HCP := hid hcopy
      have HK := hid hkp
      have RN := hid rn
      have EP := hid ep
      clear hcopy hkp rn ep eL eC
      go_upto_region 5 with fail
      refine wp_region_noPanic ?_
      refine wp_region_held_drew (S := fun _ => True) (by kernel_rfl) (trivial) (fun hHeld => ?_)
      refine wpAnyH_take (i := 0) (v := ?v288) rfl (by kernel_rfl) (by kernel_rfl) (by kernel_rfl) (fun _ _ _ h => h) (Or.inl ⟨by rfl, ?hy288⟩) hHeld ?rest288
      case hy288 =>
        intro w hSw
        go_simp
        try with_reducible rfl
      try simp only [Act.put, List.setIfInBounds_toArray, List.set_cons_zero, List.set_cons_succ, Array.toArray_toList, List.getElem_toArray, List.getElem_cons_zero, List.getElem_cons_succ]
      refine wpAnyH_take (i := 1) (v := ?v289) rfl (by kernel_rfl) (by kernel_rfl) (by kernel_rfl) (fun _ _ _ h => h) (Or.inl ⟨by rfl, ?hy289⟩) hHeld ?rest289
      case hy289 =>
        intro w hSw
        go_simp
        try with_reducible rfl
      try simp only [Act.put, List.setIfInBounds_toArray, List.set_cons_zero, List.set_cons_succ, Array.toArray_toList, List.getElem_toArray, List.getElem_cons_zero, List.getElem_cons_succ]
      refine wpAnyH_take (i := 2) (v := ?v290) rfl (by kernel_rfl) (by kernel_rfl) (by kernel_rfl) (fun _ _ _ h => h) (Or.inl ⟨by rfl, ?hy290⟩) hHeld ?rest290
      case hy290 =>
        intro w hSw
        go_simp
        try with_reducible rfl
      try simp only [Act.put, List.setIfInBounds_toArray, List.set_cons_zero, List.set_cons_succ, Array.toArray_toList, List.getElem_toArray, List.getElem_cons_zero, List.getElem_cons_succ]
      refine wpAnyH_take (i := 3) (v := ?v291) rfl (by kernel_rfl) (by kernel_rfl) (by kernel_rfl) (fun _ _ _ h => h) (Or.inl ⟨by rfl, ?hy291⟩) hHeld ?rest291
      case hy291 =>
        intro w hSw
        go_simp
        try with_reducible rfl
      try simp only [Act.put, List.setIfInBounds_toArray, List.set_cons_zero, List.set_cons_succ, Array.toArray_toList, List.getElem_toArray, List.getElem_cons_zero, List.getElem_cons_succ]
      refine wpAnyH_take (i := 4) (v := ?v292) rfl (by kernel_rfl) (by kernel_rfl) (by kernel_rfl) (fun _ _ _ h => h) (Or.inl ⟨by rfl, ?hy292⟩) hHeld ?rest292
      case hy292 =>
        intro w hSw
        go_simp
        try with_reducible rfl
      try simp only [Act.put, List.setIfInBounds_toArray, List.set_cons_zero, List.set_cons_succ, Array.toArray_toList, List.getElem_toArray, List.getElem_cons_zero, List.getElem_cons_succ]
      refine wpAnyH_take (i := 5) (v := ?v293) rfl (by kernel_rfl) (by kernel_rfl) (by kernel_rfl) (fun _ _ _ h => h) (Or.inl ⟨by rfl, ?hy293⟩) hHeld ?rest293
      case hy293 =>
        intro w hSw
        go_simp
        try with_reducible rfl
      try simp only [Act.put, List.setIfInBounds_toArray, List.set_cons_zero, List.set_cons_succ, Array.toArray_toList, List.getElem_toArray, List.getElem_cons_zero, List.getElem_cons_succ]
      refine wpAnyH_take (i := 6) (v := ?v294) rfl (by kernel_rfl) (by kernel_rfl) (by kernel_rfl) (fun _ _ _ h => h) (Or.inl ⟨by rfl, ?hy294⟩) hHeld ?rest294
      case hy294 =>
        intro w hSw
        go_simp
        try with_reducible rfl
      try simp only [Act.put, List.setIfInBounds_toArray, List.set_cons_zero, List.set_cons_succ, Array.toArray_toList, List.getElem_toArray, List.getElem_cons_zero, List.getElem_cons_succ]
      refine wpAnyH_ready (rs := [7]) (by kernel_rfl) (by simp) ?_
      refine AllReadyH.cons rfl (fun K hK => ?_) AllReadyH.nil
      refine step_copy_is (by rfl) _ _ 34 34 (by rfl) _ _ _ _ (by rfl) (by rfl) HCP.out ?_
      refine hK.out _ _ trivial (fun hHeld => ?_)
      clear hK K
      try simp only [Act.put, List.setIfInBounds_toArray, List.set_cons_zero, List.set_cons_succ, Array.toArray_toList, List.getElem_toArray, List.getElem_cons_zero, List.getElem_cons_succ]
      refine wpAnyH_done (by kernel_rfl) ?_ _
      refine NoPanic.normal ?_
      go_wp2
      go_roundw
      case rel =>
        refine ⟨k + 1, by omega, by go_num, HK.out.drew.setRow _, (setRow_at (w := wr.drew) RN.out).trans (congrArg (fun c => some (Obj.cells c 55)) (vs_congr fun q _ => ?_))⟩
        have e0 := EP.out
        unfold over
        by_cases h : k * 32 ≤ q ∧ q < k * 32 + 32
        · rw [if_pos h, if_pos (by omega)]
          exact congrArg m (by omega)
        · rw [if_neg h]
          show (if q < 32 * k then m q else 0) = _
          by_cases h2 : q < 32 * k
          · rw [if_pos h2, if_pos (by omega)]
          · rw [if_neg h2, if_neg (by omega)]
      case measure => simp [intOf]; omega
    · obtain rfl : k = 7 := by omega
      have bq : decide (7 < 7) = false := by decide
      have e0 := EG.out
      have e1 := Z2.out
      have rv : wr.heap[g]? = some (.cells (vs .u8 224 m) 55) := rn.trans (congrArg (fun c => some (Obj.cells c 55)) (vs_congr fun q hq => if_pos (by omega)))
      have rr := (hkp.block y (by omega) (by omega)).trans R1.out
      have lv := lvProof_run rv
      have sv := svProof_run rr m
      have RR := hid rr
      have HK := hid hkp
      clear rn rv rr hkp e0 e1
      go_wp2
      refine retProof _ y m 55 rfl rfl rfl (setRow_at RR.out) ⟨rfl, ?_⟩
      have e0 := EG.out
      have e1 := Z2.out
      have e2 := EY.out
      exact below_row (HB2.out.trans (HK.out.below (by omega) (by omega))) (by omega) _

theorem svDepositData_mid {w : World} {b : Nat} {C : Array Value} {t : TypeId} (h : w.heap[b]? = some (.cells C t)) (o : Nat) (c : VDepositData) (hn : o + 177 ≤ C.size) :
    (svDepositData ⟨b, o, none⟩ (.agg (cel (sDepositData c)))).run Tryd.prog w = .ok () (w.setCells b o (celL (sDepositData c))) := by
  have h1 := run_storeVar_mid (P := Tryd.prog) w b o 59 (cel (sDepositData c)) (by rw [cel_size, slDepositData]; exact there_row h o 177 hn) (by rw [cel_size, slDepositData]; kernel_rfl) (cel_one _)
  exact h1

attribute [local go_sem ↓] ixP_eq lvDepositData_eq svDepositData_eq lvDeposit_eq svDeposit_eq bdDeposit_eq

set_option maxHeartbeats 2000000 in
theorem readDeposit_no (m : Nat → Int) (ao : Option Addr) (len cap : Nat) (w : World) (hb : Bys w ao len cap m) (hm : ∀ j, 0 ≤ m j ∧ m j < 256) (hlc : len ≤ cap) (hcap : cap ≤ 9223372036854775807) (hlen : len ≤ 140737488351232) (hN : ¬ len = 408) :
    Calls Tryd.prog 23 #[.slice ao len cap] w fun e w' => e = .returned (.tuple #[.agg (cel (sDeposit oDeposit)), .int .i64 4]) ∧ Below w.heap.size w w' := by
  have z := zeroDeposit
  obtain ⟨W1, hW1⟩ : ∃ W, w.alloc (.cells (cel (sDeposit oDeposit)) 61) = W := ⟨_, rfl⟩
  obtain ⟨W2, hW2⟩ : ∃ W, W1.alloc (.cells (vs .i64 2 zDeposit) 3) = W := ⟨_, rfl⟩
  have hB1 : Below w.heap.size w W1 := by rw [← hW1]; exact (Below.refl _ _).alloc (Nat.le_refl _) _
  have z1 : W1.heap.size = w.heap.size + 1 := by rw [← hW1]; simp
  have z2 : W2.heap.size = w.heap.size + 2 := by rw [← hW2]; simp [z1]
  have hB2 : Below w.heap.size w W2 := by rw [← hW2]; exact hB1.alloc (by omega) _
  have r1 : W1.heap[w.heap.size]? = some (.cells (cel (sDeposit oDeposit)) 61) := by rw [← hW1]; exact heap_new rfl
  have r2 : W2.heap[w.heap.size]? = some (.cells (cel (sDeposit oDeposit)) 61) := by rw [← hW2]; exact (heap_old (by omega)).trans r1
  have g2 : W2.heap[W1.heap.size]? = some (.cells (vs .i64 2 zDeposit) 3) := by rw [← hW2]; exact heap_new rfl
  have hsz : Calls Tryd.prog 56 #[] W1 fun e w' => e = .returned (.slice (some ⟨W1.heap.size, 0, none⟩) 2 2) ∧ w' = W2 := by rw [← hW2]; exact dsz_any W1
  have hcut := cut7_no fixDeposit m ao len cap W1.heap.size W2 (hb.below hB2) hm hlen hlc hcap g2 (by omega) hN
  obtain ⟨y, ey⟩ : ∃ y, w.heap.size = y := ⟨_, rfl⟩
  obtain ⟨y1, ey1⟩ : ∃ y, W1.heap.size = y := ⟨_, rfl⟩
  rw [ey1] at hcut hsz
  have hy : y < W2.heap.size := by omega
  rw [ey] at r2
  have HCUT := hid hcut
  have HSZ := hid hsz
  have R2 := hid r2
  have HB2 := hid hB2
  have HY := hid hy
  have EY := hid ey
  clear hcut hsz r2 hB2 hy r1 g2 hB1 z1 z2 hlc hcap hb hlen hN
  go_enter Tryd.func23, Tryd.ntmps23
  go_upto_region 2 with (first
    | (go_at_call 56; refine HSZ.out.mono ?_; rintro e w0 ⟨rfl, hw0⟩; obtain rfl := hw0.symm)
    | (go_at_call 40; refine HCUT.out.mono ?_; rintro e w1 ⟨a1, rfl, hb1⟩))
  clear hW1 hW2 ey ey1
  have rr := (hb1.block _ HY.out).trans R2.out
  have sv := svDeposit_run rr oDeposit
  have bd := bdDeposit_0
  have RR := hid rr
  have HB1 := hid hb1
  clear rr hb1
  go_wp2
  refine retDeposit _ _ y oDeposit 61 _ rfl rfl rfl rfl (setRow_at RR.out) ⟨rfl, ?_⟩
  have e0 := EY.out
  have e1 := HB2.out.size
  exact below_row (HB2.out.trans (HB1.out.mono (by omega))) (by omega) _

set_option maxHeartbeats 2000000 in
theorem readDeposit_ok (m : Nat → Int) (ao : Option Addr) (cap : Nat) (w : World) (hb : Bys w ao 408 cap m) (hm : ∀ j, 0 ≤ m j ∧ m j < 256) (hlc : 408 ≤ cap) (hcap : cap ≤ 9223372036854775807) :
    Calls Tryd.prog 23 #[.slice ao 408 cap] w fun e w' => e = .returned (.tuple #[.agg (cel (sDeposit (pDeposit m))), .int .i64 0]) ∧ Below w.heap.size w w' := by
  have z := zeroDeposit
  obtain ⟨W1, hW1⟩ : ∃ W, w.alloc (.cells (cel (sDeposit oDeposit)) 61) = W := ⟨_, rfl⟩
  obtain ⟨W2, hW2⟩ : ∃ W, W1.alloc (.cells (vs .i64 2 zDeposit) 3) = W := ⟨_, rfl⟩
  have hB1 : Below w.heap.size w W1 := by rw [← hW1]; exact (Below.refl _ _).alloc (Nat.le_refl _) _
  have z1 : W1.heap.size = w.heap.size + 1 := by rw [← hW1]; simp
  have z2 : W2.heap.size = w.heap.size + 2 := by rw [← hW2]; simp [z1]
  have hB2 : Below w.heap.size w W2 := by rw [← hW2]; exact hB1.alloc (by omega) _
  have r1 : W1.heap[w.heap.size]? = some (.cells (cel (sDeposit oDeposit)) 61) := by rw [← hW1]; exact heap_new rfl
  have r2 : W2.heap[w.heap.size]? = some (.cells (cel (sDeposit oDeposit)) 61) := by rw [← hW2]; exact (heap_old (by omega)).trans r1
  have g2 : W2.heap[W1.heap.size]? = some (.cells (vs .i64 2 zDeposit) 3) := by rw [← hW2]; exact heap_new rfl
  have hsz : Calls Tryd.prog 56 #[] W1 fun e w' => e = .returned (.slice (some ⟨W1.heap.size, 0, none⟩) 2 2) ∧ w' = W2 := by rw [← hW2]; exact dsz_any W1
  have hcut := cut7_ok fixDeposit m ao cap W1.heap.size W2 (hb.below hB2) hm (by omega) hlc hcap g2 (by omega) zposDeposit (by omega)
  obtain ⟨y, ey⟩ : ∃ y, w.heap.size = y := ⟨_, rfl⟩
  obtain ⟨y1, ey1⟩ : ∃ y, W1.heap.size = y := ⟨_, rfl⟩
  rw [ey1] at hcut hsz
  have hy : y < W2.heap.size := by omega
  rw [ey] at r2
  have HCUT := hid hcut
  have HSZ := hid hsz
  have R2 := hid r2
  have HB2 := hid hB2
  have HY := hid hy
  have EY := hid ey
  clear hcut hsz r2 hB2 hy r1 g2 hB1 z1 z2 hlc hcap hb
  go_enter Tryd.func23, Tryd.ntmps23
  go_upto_region 2 with (first
    | (go_at_call 56; refine HSZ.out.mono ?_; rintro e w0 ⟨rfl, hw0⟩; obtain rfl := hw0.symm)
    | (go_at_call 40; refine HCUT.out.mono ?_; rintro e wc ⟨gp, o, rfl, hgp, hcu, hbC⟩))
  clear hW1 hW2 ey ey1
  obtain ⟨b0, o0, c0, l0, q0⟩ := hcu 0 (by omega)
  replace l0 : wc.cell? ⟨gp, o + 0, none⟩ = some (.slice (some ⟨b0, o0, none⟩) 224 c0) := l0
  replace q0 : Bys wc (some ⟨b0, o0, none⟩) 224 c0 (fun q => m (0 + q)) := q0
  obtain ⟨P0, eP0⟩ : ∃ P, o + 0 = P := ⟨_, rfl⟩
  rw [eP0] at l0
  have ix0 : ∀ X : World, (ixP (.slice (some ⟨gp, o, none⟩) 2 2) (.int .i64 0)).run Tryd.prog X = .ok (.pointer (some ⟨gp, P0, none⟩)) X := fun X => by rw [← eP0]; exact ixP_run X gp o 2 2 0 (by omega)
  obtain ⟨b1, o1, c1, l1, q1⟩ := hcu 1 (by omega)
  replace l1 : wc.cell? ⟨gp, o + 1, none⟩ = some (.slice (some ⟨b1, o1, none⟩) 184 c1) := l1
  replace q1 : Bys wc (some ⟨b1, o1, none⟩) 184 c1 (fun q => m (224 + q)) := q1
  obtain ⟨P1, eP1⟩ : ∃ P, o + 1 = P := ⟨_, rfl⟩
  rw [eP1] at l1
  have ix1 : ∀ X : World, (ixP (.slice (some ⟨gp, o, none⟩) 2 2) (.int .i64 1)).run Tryd.prog X = .ok (.pointer (some ⟨gp, P1, none⟩)) X := fun X => by rw [← eP1]; exact ixP_run X gp o 2 2 1 (by omega)
  have hv := rproof_any (fun q => m (0 + q)) b0 o0 c0 wc q0
  obtain ⟨N0, eN0⟩ : ∃ N : VProof, pProof (fun q => m (0 + q)) = N := ⟨_, rfl⟩
  have ev0 : vs .u8 224 (fun q => m (0 + q)) = cel (sProof N0) := by rw [← eN0]; exact (cel_one_by 224 _).symm
  rw [ev0] at hv
  obtain ⟨N1, eN1⟩ : ∃ N, pDepositData (fun q => m (224 + q)) = N := ⟨_, rfl⟩
  have hn1 : ∀ X, Below wc.heap.size wc X → Calls Tryd.prog 62 #[.slice (some ⟨b1, o1, none⟩) 184 c1] X fun e w' => e = .returned (.tuple #[.agg (cel (sDepositData N1)), .int .i64 0]) ∧ Below X.heap.size X w' := fun X h => by
    rw [← eN1]
    exact readDepositData_ok _ _ c1 X (q1.below h) (fun j => hm _) (bys_le (q1.below h) (by omega)) (bys_cap (q1.below h) (by omega))
  have HV := hid hv
  have HN1 := hid hn1
  have EN0 := hid eN0
  have EN1 := hid eN1
  have HL1 := hid l1
  have HL0 := hid l0
  have HBC := hid hbC
  have HGPC := hid hgp
  have bd : ∀ X : World, (bdDeposit #[(0, .agg (cel (sProof N0)))]).run Tryd.prog X = .ok (.agg (cel (sDeposit ⟨N0, oDepositData⟩))) X := fun X => by kernel_rfl
  have svv := fun W => svDeposit_newv W oDeposit ⟨N0, oDepositData⟩
  clear hv hn1 q0 q1 hbC hgp hcu eP0 eP1 ev0 eN0 eN1 l1
  go_upto_region 4 with fail
  have ld := HL0.out
  go_upto_region 5 with (go_at_call 61; refine HV.out.mono ?_; rintro e w1 ⟨rfl, hbv⟩)
  have l1 : w1.cell? ⟨gp, P1, none⟩ = some (.slice (some ⟨b1, o1, none⟩) 184 c1) := (below_cell hbv HGPC.out).trans HL1.out
  have L1 := hid l1
  have HN2 : Hid (∀ X, Below w1.heap.size w1 X → Calls Tryd.prog 62 #[.slice (some ⟨b1, o1, none⟩) 184 c1] X fun e w' => e = .returned (.tuple #[.agg (cel (sDepositData N1)), .int .i64 0]) ∧ Below X.heap.size X w') := fun X h => HN1.out X (hbv.trans (h.mono hbv.size))
  have HB1 := hid (HBC.out.trans (hbv.mono HBC.out.size))
  have HGP := hid (Nat.lt_of_lt_of_le HGPC.out hbv.size)
  obtain ⟨V0, hV0⟩ : ∃ V, w1.alloc (.cells (cel (sDeposit ⟨N0, oDepositData⟩)) 61) = V := ⟨_, rfl⟩
  rw [hV0]
  have rV0 : V0.heap[w1.heap.size]? = some (.cells (cel (sDeposit ⟨N0, oDepositData⟩)) 61) := by rw [← hV0]; exact heap_new rfl
  have hBV : Below w1.heap.size w1 V0 := by rw [← hV0]; exact (Below.refl _ _).alloc (Nat.le_refl _) _
  obtain ⟨g, eg⟩ : ∃ g, w1.heap.size = g := ⟨_, rfl⟩
  rw [eg] at rV0 hBV ⊢
  have EG := hid eg
  have RV1 := hid rV0
  have HV1 := hid hBV
  clear rV0 hBV l1 hbv hV0 eg z bd svv ld
  have ld := (below_cell HV1.out (by rw [← EG.out]; exact HGP.out)).trans L1.out
  have HRC := hid (HN2.out _ (by rw [EG.out]; exact HV1.out))
  go_upto_region 6 with (go_at_call 62; refine HRC.out.mono ?_; rintro e u2 ⟨rfl, hbc⟩; have rg := (hbc.block g (Array.getElem?_eq_some_iff.1 RV1.out).1).trans RV1.out; have sv := svDepositData_mid rg 224 N1 (by rw [cel_size, slDeposit]; omega); have RG := hid rg; have HBC2 := hid hbc; clear rg hbc)
  obtain ⟨V2, hV⟩ : ∃ V, u2.setCells g 224 (celL (sDepositData N1)) = V := ⟨_, rfl⟩
  have RV2 : Hid (V2.heap[g]? = some (.cells (cel (sDeposit ⟨N0, N1⟩)) 61)) := by rw [← hV]; exact (setCells_row _ _ RG.out).trans (congrArg (fun c => some (Obj.cells c 61)) (by kernel_rfl))
  have HV2 : Hid (Below g w1 V2) := by rw [← hV]; exact (HV1.out.trans (HBC2.out.mono (Nat.le_of_lt (Array.getElem?_eq_some_iff.1 RV1.out).1))).trans ((setCells_kept _ _ (Kept.refl g u2)).below (Nat.le_refl _) (Nat.le_of_lt (Array.getElem?_eq_some_iff.1 RG.out).1))
  rw [hV]
  clear hV ld sv RG HBC2 HRC
  obtain ⟨vv, ev⟩ : ∃ v : VDeposit, ⟨N0, N1⟩ = v := ⟨_, rfl⟩
  have rv := RV2.out
  rw [ev] at rv
  have rr : V2.heap[y]? = some (.cells (cel (sDeposit oDeposit)) 61) := (HV2.out.block _ (by rw [← EG.out]; exact Nat.lt_of_lt_of_le HY.out HB1.out.size)).trans ((HB1.out.block _ HY.out).trans R2.out)
  have sv := svDeposit_run rr vv
  have lv := lvDeposit_mid (x := vv) rv 0 (take_all _) (slDeposit vv)
  have RR := hid rr
  have EV := hid ev
  clear rr rv ev
  go_wp2
  refine retDeposit _ _ y vv 61 _ rfl rfl rfl rfl (setRow_at RR.out) ⟨?_, ?_⟩
  · rw [← EV.out, ← EN0.out, ← EN1.out]
    rfl
  have e0 := EY.out
  have e1 := HB2.out.size
  have e2 := HB1.out.size
  have e3 := EG.out
  exact below_row (HB2.out.trans ((HB1.out.mono (by omega)).trans (HV2.out.mono (by omega)))) (by omega) _

end Go.Proofs.YtokbhcgooboocaaDoor
