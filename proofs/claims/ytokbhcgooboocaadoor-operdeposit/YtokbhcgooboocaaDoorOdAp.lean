/-
  A Deposit: its values, a proof in bytes, what Enc answers.
-/
import Derived.Test.YtokbhcgooboocaaDoorOhAp
import Derived.Test.YtokbhcgooboocaaDoorTeDepositDatap
namespace Go.Proofs.YtokbhcgooboocaaDoor
open Go.RowKit
set_option linter.unusedVariables false
set_option linter.unusedSimpArgs false
set_option maxRecDepth 20000

structure VProof where
  f0 : Nat → Int
def sProof (x : VProof) : List Seg := [.by 224 x.f0]
def OkProof (x : VProof) : Prop := ∀ j, j < 224 → 0 ≤ x.f0 j ∧ x.f0 j < 256
def eProof (x : VProof) : List (Nat × (Nat → Int)) := [(224, x.f0)]
def oProof : VProof := ⟨fun _ => 0⟩
def pProof (m : Nat → Int) : VProof := ⟨m⟩
/-- A Deposit. -/
structure VDeposit where
  f0 : VProof
  f1 : VDepositData
def sDeposit (x : VDeposit) : List Seg := sProof x.f0 ++ sDepositData x.f1
def OkDeposit (x : VDeposit) : Prop := OkProof x.f0 ∧ OkDepositData x.f1
def eDeposit (x : VDeposit) : List (Nat × (Nat → Int)) := [(224, ct7 (eProof x.f0)), (184, ct7 (eDepositData x.f1))]
theorem cel_one_by (n : Nat) (f : Nat → Int) : cel [.by n f] = vs .u8 n f := by
  apply Array.ext'
  rw [vs_list]
  show (List.range n).map _ ++ [] = _
  rw [List.append_nil]
  rfl
def lvProof (a : Addr) : Sem Value := loadVar 55 a
theorem lvProof_eq (a : Addr) : loadVar 55 a = lvProof a := rfl
theorem lvProof_mid {w : World} {g : Nat} {C : Array Value} {t : TypeId} {x : VProof} (h : w.heap[g]? = some (.cells C t)) (o : Nat) (hl : (C.toList.drop o).take (celL (sProof x)).length = celL (sProof x)) (hs : slen (sProof x) = 224) : (lvProof ⟨g, o, none⟩).run Tryd.prog w = .ok (.agg (cel (sProof x))) w :=
  loadAt_var (run_loadAt_mid w g o 55 _ _ (sub_range h hl) Tryd.underlying55 rfl (by rw [celL_len, hs]; kernel_rfl))
def lvDeposit (a : Addr) : Sem Value := loadVar 61 a
theorem lvDeposit_eq (a : Addr) : loadVar 61 a = lvDeposit a := rfl
theorem lvDeposit_mid {w : World} {g : Nat} {C : Array Value} {t : TypeId} {x : VDeposit} (h : w.heap[g]? = some (.cells C t)) (o : Nat) (hl : (C.toList.drop o).take (celL (sDeposit x)).length = celL (sDeposit x)) (hs : slen (sDeposit x) = 401) : (lvDeposit ⟨g, o, none⟩).run Tryd.prog w = .ok (.agg (cel (sDeposit x))) w :=
  loadAt_var (run_loadAt_mid w g o 61 _ _ (sub_range h hl) Tryd.underlying61 rfl (by rw [celL_len, hs]; kernel_rfl))
def ixR7 (x i : Value) : Sem Value := Instr.index 55 x i
theorem ixR7_eq (x i : Value) : Instr.index 55 x i = ixR7 x i := rfl
theorem ixR7_run (W : World) (f : Nat → Int) (k : Nat) (hk : k < 7) : (ixR7 (.agg (vs .u8 224 f)) (.int .i64 k)).run Tryd.prog W = .ok (.agg (vs .u8 32 (fun q => f (32 * k + q)))) W := by
  rcases (by omega : k = 0 ∨ k = 1 ∨ k = 2 ∨ k = 3 ∨ k = 4 ∨ k = 5 ∨ k = 6) with rfl | rfl | rfl | rfl | rfl | rfl | rfl
  all_goals kernel_rfl
theorem bl_join (f : Nat → Int) (n k : Nat) : bl f n ++ bl (fun q => f (n + q)) k = bl f (n + k) := by
  unfold bl
  rw [List.range_add, List.map_append, List.map_map]
  rfl

attribute [local go_sem ↓] sv24_eq ixR7_eq lvProof_eq

set_option maxRecDepth 20000 in
set_option maxHeartbeats 1000000 in
theorem pbytes_any (f : Nat → Int) (w : World) :
    Calls Tryd.prog 54 #[.agg (vs .u8 224 f)] w fun e w' => ∃ v, e = .returned v ∧ w'.ownsRow w.heap.size 5 1 v 224 (bl f 224) ∧ Below w.heap.size w w' := by
  obtain ⟨W0, hW0⟩ : ∃ W, w.alloc (.cells (vs .u8 224 f) 55) = W := ⟨_, rfl⟩
  have hB0 : Below w.heap.size w W0 := by rw [← hW0]; exact (Below.refl _ _).alloc (Nat.le_refl _) _
  have r0 : W0.heap[w.heap.size]? = some (.cells (vs .u8 224 f) 55) := by rw [← hW0]; exact heap_new rfl
  have z0 : w.heap.size < W0.heap.size := by rw [← hW0]; simp
  obtain ⟨y, ey⟩ : ∃ y, w.heap.size = y := ⟨_, rfl⟩
  have HLX : Hid (∀ X, Below W0.heap.size W0 X → (lvProof ⟨y, 0, none⟩).run Tryd.prog X = .ok (.agg (vs .u8 224 f)) X) := fun X h => by
    rw [← ey]
    have := lvProof_mid (x := ⟨f⟩) (w := X) (C := cel (sProof ⟨f⟩)) ((h.block _ z0).trans (r0.trans (congrArg (fun c => some (Obj.cells c 55)) (cel_one_by 224 f).symm))) 0 (take_all _) rfl
    rw [show cel (sProof ⟨f⟩) = vs .u8 224 f from cel_one_by 224 f] at this
    exact this
  obtain ⟨i8, hi8, hz0, hz1, hz2⟩ := info_parts info8
  have HB0 := hid hB0
  clear hB0 r0 z0
  go_enter Tryd.func54, Tryd.ntmps54
  go_upto_region 1 with fail
  clear hW0
  go_upto_region 2 with (at_make; refine wpList_make_own _ rfl _ _ 34 rfl W0.heap.size 5 i8 (.int .u8 0) 1 Tryd.underlying34 hi8 hz0 hz1 _ _ _ 224 rfl rfl rfl (by rw [hz2]; omega) (by unfold maxLen; omega) (Nat.le_refl _) ?_; intro w2 ho2 hg2; have HO2 := hid ho2; have HB2 : Hid (Below W0.heap.size W0 w2) := ⟨hg2.os, hg2.tape, hg2.output, hg2.size, fun k hk => hg2.block k hk (by intro h; cases h)⟩; clear ho2 hg2)
  have l := HLX.out _ HB2.out
  have hB2 : W0.heap.size ≤ w2.heap.size := HB2.out.size
  go_upto_region 3 with fail
  clear l ey
  go_loopw [3, 8] (fun v i wr => ∃ k : Nat, k ≤ 7 ∧ i = .int .i64 k ∧ wr.ownsRow W0.heap.size 5 1 v (32 * k) (bl f (32 * k)) ∧ Below W0.heap.size W0 wr) (fun _ i _ => 7 - (intOf i).toNat)
  case atStart => exact ⟨0, by omega, rfl, HO2.out, HB2.out⟩
  case round =>
    obtain ⟨k, hk, rfl, hown, hb⟩ := hrel
    by_cases hlt : k < 7
    · have bq : decide (k < 7) = true := by simp; omega
      have k1 : (k : Int) < 7 := by omega
      have k2 : (0 : Int) ≤ (k : Int) := by omega
      have ix := ixR7_run wr f k hlt
      have z := zero_root
      have sv := sv24_newv wr (fun _ => 0) (fun q => f (32 * k + q))
      have hz := hb.size
      have HO := hid hown
      have HB := hid hb
      obtain ⟨c, ec⟩ : ∃ c : Nat → Int, (fun q => f (32 * k + q)) = c := ⟨_, rfl⟩
      rw [ec] at ix sv
      have EC := hid ec
      clear hown hb ec
      go_wp2_with (at_builtin; go_loud (refine wpList_append_bys _ rfl _ _ rfl W0.heap.size _ (32 * k) (bl f (32 * k)) rfl (HO.out.alloc _) _ 32 32 c rfl (bys_new (heap_new rfl) (by omega)) (by omega) (by simp; omega) ?_; intro v3 w3 ho3 hg3))
      go_roundw
      case rel =>
        refine ⟨k + 1, by omega, by go_num, ?_, below_grown (HB.out.alloc hz _) (HO.out.alloc _) (by simp; omega) hg3⟩
        rw [← EC.out, bl_join f (32 * k) 32] at ho3
        exact ho3
      case measure => simp [intOf]; omega
    · obtain rfl : k = 7 := by omega
      have bq : decide (7 < 7) = false := by decide
      have HO := hid hown
      have HB := hid hb
      clear hown hb
      go_wp2
      go_ret
      have e1 := HB0.out.size
      exact ⟨_, rfl, HO.out.mono e1, HB0.out.trans (HB.out.mono e1)⟩

theorem encProof_any (x : VProof) (w : World) (hx : OkProof x) :
    Calls Tryd.prog 54 #[.agg (cel (sProof x))] w fun e w' => ∃ v, e = .returned v ∧ w'.ownsRow w.heap.size 5 1 v 224 (bl (ct7 (eProof x)) 224) ∧ Below w.heap.size w w' := by
  have h := pbytes_any x.f0 w
  rw [← cel_one_by 224 x.f0] at h
  refine h.mono ?_
  rintro e w' ⟨v, rfl, ho, hb⟩
  refine ⟨v, rfl, ?_, hb⟩
  rw [bl_congr (m := ct7 (eProof x)) (m' := x.f0) (fun q hq => if_pos hq)]
  exact ho

/-- The value of nothing but zeros; the value that bytes are. -/
def oDeposit : VDeposit := ⟨oProof, oDepositData⟩
def pDeposit (m : Nat → Int) : VDeposit := ⟨pProof (fun q => m (0 + q)), pDepositData (fun q => m (224 + q))⟩
def zDeposit : Nat → Int := zl7 [224, 184]
theorem fixDeposit : FixS zDeposit 2 408 := ⟨by kernel_rfl, by kernel_rfl, by kernel_rfl, fun r hr => by
  rcases (by omega : r = 0 ∨ r = 1) with rfl | rfl
  all_goals (intro h; exact absurd h (by decide))⟩
theorem zposDeposit (r : Nat) (hr : r < 2) : 0 < zDeposit r := by
  rcases (by omega : r = 0 ∨ r = 1) with rfl | rfl
  all_goals decide
theorem bsI_Deposit (W : World) : (bsI 2 #[(0, .int .i64 224), (1, .int .i64 184)]).run Tryd.prog W = .ok (.slice (some ⟨W.heap.size, 0, none⟩) 2 2) (W.alloc (.cells (vs .i64 2 zDeposit) 3)) := by kernel_rfl
def svDeposit (a : Addr) (v : Value) : Sem Unit := storeVar 61 a v
theorem svDeposit_eq (a : Addr) (v : Value) : storeVar 61 a v = svDeposit a v := rfl
def bdDeposit (ps : Array (Nat × Value)) : Sem Value := Instr.build 61 ps
theorem bdDeposit_eq (ps : Array (Nat × Value)) : Instr.build 61 ps = bdDeposit ps := rfl
theorem bdDeposit_0 (W : World) : (bdDeposit #[]).run Tryd.prog W = .ok (.agg (cel (sDeposit oDeposit))) W := by kernel_rfl
theorem zeroDeposit (W : World) : (zeroValue 61).run Tryd.prog W = .ok (.agg (cel (sDeposit oDeposit))) W := by kernel_rfl
set_option maxRecDepth 20000 in
theorem slDeposit (x : VDeposit) : slen (sDeposit x) = 401 := rfl
theorem svDeposit_run {w : World} {b : Nat} {o : VDeposit} {t : TypeId} (h : w.heap[b]? = some (.cells (cel (sDeposit o)) t)) (c : VDeposit) : (svDeposit ⟨b, 0, none⟩ (.agg (cel (sDeposit c)))).run Tryd.prog w = .ok () (w.setRow b (cel (sDeposit c))) :=
  run_storeVar_row w b t 61 _ _ h (by rw [cel_size, slDeposit]; kernel_rfl) (by rw [cel_size, cel_size, slDeposit, slDeposit]) (cel_one _)
theorem svDeposit_newv (W : World) (o c : VDeposit) : (svDeposit ⟨W.heap.size, 0, none⟩ (.agg (cel (sDeposit c)))).run Tryd.prog (W.alloc (.cells (cel (sDeposit o)) 61)) = .ok () (W.alloc (.cells (cel (sDeposit c)) 61)) :=
  run_storeVar_new W 61 _ _ (by rw [cel_size, slDeposit]; kernel_rfl) (by rw [cel_size, cel_size, slDeposit, slDeposit]) (cel_one _)
theorem retDeposit {fn : Func} {R : Ending → World → Prop} {a : Act} {w' : World} (t s : Tmp) (b : Nat) (c : VDeposit) (ty : TypeId) (v : Value) (h : fn.results = #[.cell t 61, .tmp s]) (hd : a.defers = []) (ht : a.tmps.getD t undef = .pointer (some ⟨b, 0, none⟩)) (hs : a.tmps.getD s undef = v) (hr : w'.heap[b]? = some (.cells (cel (sDeposit c)) ty))
    (hR : R (.returned (.tuple #[.agg (cel (sDeposit c)), v])) w') : bodyPost Tryd.prog fn R .ret a w' := by
  refine bodyPost_ret ?_ hd hR
  have hl := loadAt_var (load_row (P := Tryd.prog) hr 61 _ Tryd.underlying61 rfl (by rw [cel_size, slDeposit]; kernel_rfl))
  rw [Array.getD_eq_getD_getElem?] at ht hs
  simp [results, h, ht, hs, hl, asAddr]
theorem dsz_any (w : World) :
    Calls Tryd.prog 56 #[] w fun e w' => e = .returned (.slice (some ⟨w.heap.size, 0, none⟩) 2 2) ∧ w' = w.alloc (.cells (vs .i64 2 zDeposit) 3) := by
  go_enter Tryd.func56, Tryd.ntmps56
  go_wp2
  go_ret
  exact ⟨rfl, rfl⟩

attribute [local go_sem ↓] bsP_eq lvDepositData_eq

set_option maxHeartbeats 2000000 in
theorem encDeposit_any (x : VDeposit) (w : World) (hx : OkDeposit x) :
    Calls Tryd.prog 19 #[.agg (cel (sDeposit x))] w fun e w' => ∃ v, e = .returned (.tuple #[v, .int .i64 0]) ∧ w'.ownsRow w.heap.size 5 1 v 408 (bl (ct7 (eDeposit x)) 408) ∧ Below w.heap.size w w' := by
  have HX := hid hx
  obtain ⟨W0, hW0⟩ : ∃ W, w.alloc (.cells (cel (sDeposit x)) 61) = W := ⟨_, rfl⟩
  have hB0 : Below w.heap.size w W0 := by rw [← hW0]; exact (Below.refl _ _).alloc (Nat.le_refl _) _
  have r0 : W0.heap[w.heap.size]? = some (.cells (cel (sDeposit x)) 61) := by rw [← hW0]; exact heap_new rfl
  have z0 : w.heap.size < W0.heap.size := by rw [← hW0]; simp
  obtain ⟨y, ey⟩ : ∃ y, w.heap.size = y := ⟨_, rfl⟩
  have hry : ∀ X, Below W0.heap.size W0 X → X.heap[y]? = some (.cells (cel (sDeposit x)) 61) := fun X h => by rw [← ey]; exact (h.block _ z0).trans r0
  have HL0 : Hid (∀ X, Below W0.heap.size W0 X → (lvProof ⟨y, 0, none⟩).run Tryd.prog X = .ok (.agg (cel (sProof x.f0))) X) := fun X h => lvProof_mid (hry X h) 0 rfl rfl
  have HL1 : Hid (∀ X, Below W0.heap.size W0 X → (lvDepositData ⟨y, 224, none⟩).run Tryd.prog X = .ok (.agg (cel (sDepositData x.f1))) X) := fun X h => lvDepositData_mid (hry X h) 224 rfl rfl
  have hdr : Below W0.heap.size W0 W0.drew := (Below.refl _ _).drew
  have S0 := hid hdr
  have HB0w := hid hB0
  have EY := hid ey
  obtain ⟨V, eV⟩ : ∃ V, ct7 (eDeposit x) = V := ⟨_, rfl⟩
  have hFL : ∀ (P : World) gp gs a1 c1 a2 c2, P.heap[gp]? = some (.cells (([(a1, 224, c1, ct7 (eProof x.f0)), (a2, 184, c2, ct7 (eDepositData x.f1))] : List Pt).map ptv).toArray 34) → P.heap[gs]? = some (.cells (vs .i64 2 zDeposit) 3) → Bys P a1 224 c1 (ct7 (eProof x.f0)) → Bys P a2 184 c2 (ct7 (eDepositData x.f1)) → Calls Tryd.prog 25 #[.slice (some ⟨gp, 0, none⟩) 2 2, .slice (some ⟨gs, 0, none⟩) 2 2] P fun e w' => ∃ v, e = .returned (.tuple #[v, .int .i64 0]) ∧ w'.ownsRow P.heap.size 5 1 v 408 (bl V 408) ∧ Below P.heap.size P w' := fun P gp gs a1 c1 a2 c2 h1 h2 h3 h4 => by
    rw [← eV]
    have c2' : ∀ (Q : Nat → Prop), Q 0 → Q 1 → ∀ r, r < 2 → Q r := fun Q q0 q1 r hr => by
      rcases (by omega : r = 0 ∨ r = 1) with rfl | rfl
      · exact q0
      · exact q1
    exact olayF [(a1, 224, c1, ct7 (eProof x.f0)), (a2, 184, c2, ct7 (eDepositData x.f1))] zDeposit 2 gp gs P rfl (by decide) (by decide) (c2' _ ⟨rfl, Nat.le_of_ble_eq_true rfl, Nat.le_of_ble_eq_true rfl⟩ ⟨rfl, Nat.le_of_ble_eq_true rfl, Nat.le_of_ble_eq_true rfl⟩) h1 h2 (c2' _ h3 h4) (Nat.lt_of_lt_of_le (show 408 < 409 by omega) (Nat.le_of_ble_eq_true rfl))
  rw [eV]
  have HFL := hid hFL
  clear hdr hB0 r0 hry hx hFL eV
  go_enter Tryd.func19, Tryd.ntmps19
  go_upto_region 1 with fail
  clear hW0 ey z0
  refine wp_region_noPanic ?_
  refine wp_region_held_drew (S := fun X => Below W0.heap.size W0 X) (by kernel_rfl) (S0.out) (fun hHeld => ?_)
  refine wpAnyH_take (i := 0) (v := ?v167) rfl (by kernel_rfl) (by kernel_rfl) (by kernel_rfl) (fun _ _ _ h => h) (Or.inl ⟨by rfl, ?hy167⟩) hHeld ?rest167
  case hy167 =>
    intro w hSw
    go_simp
    try with_reducible rfl
  try simp only [Act.put, List.setIfInBounds_toArray, List.set_cons_zero, List.set_cons_succ, Array.toArray_toList, List.getElem_toArray, List.getElem_cons_zero, List.getElem_cons_succ]
  refine wpAnyH_take (i := 1) (v := ?v168) rfl (by kernel_rfl) (by kernel_rfl) (by kernel_rfl) (fun _ _ _ h => h) (Or.inl ⟨by rfl, ?hy168⟩) hHeld ?rest168
  case hy168 =>
    intro w hSw
    have ld := HL0.out _ hSw
    go_simp
    try with_reducible rfl
  try simp only [Act.put, List.setIfInBounds_toArray, List.set_cons_zero, List.set_cons_succ, Array.toArray_toList, List.getElem_toArray, List.getElem_cons_zero, List.getElem_cons_succ]
  refine wpAnyH_take (i := 3) (v := ?v169) rfl (by kernel_rfl) (by kernel_rfl) (by kernel_rfl) (fun _ _ _ h => h) (Or.inl ⟨by rfl, ?hy169⟩) hHeld ?rest169
  case hy169 =>
    intro w hSw
    go_simp
    try with_reducible rfl
  try simp only [Act.put, List.setIfInBounds_toArray, List.set_cons_zero, List.set_cons_succ, Array.toArray_toList, List.getElem_toArray, List.getElem_cons_zero, List.getElem_cons_succ]
  refine wpAnyH_take (i := 4) (v := ?v170) rfl (by kernel_rfl) (by kernel_rfl) (by kernel_rfl) (fun _ _ _ h => h) (Or.inl ⟨by rfl, ?hy170⟩) hHeld ?rest170
  case hy170 =>
    intro w hSw
    have ld := HL1.out _ hSw
    go_simp
    try with_reducible rfl
  try simp only [Act.put, List.setIfInBounds_toArray, List.set_cons_zero, List.set_cons_succ, Array.toArray_toList, List.getElem_toArray, List.getElem_cons_zero, List.getElem_cons_succ]
  refine wpAnyH_ready (rs := [2]) (by kernel_rfl) (by simp) ?_
  refine AllReadyH.cons rfl (fun K hK => ?_) AllReadyH.nil
  go_simp
  refine (encProof_any x.f0 _ HX.out.1).mono ?_
  rintro e X1 ⟨v1, rfl, ho1, hb1⟩
  dsimp only
  have S1 := hid (S0.out.trans (hb1.mono S0.out.size))
  obtain ⟨a1, c1, rfl, hr1⟩ := own_at ho1
  have R0 := hid (show ∀ X, Below X1.heap.size X1 X → Bys X a1 224 c1 (ct7 (eProof x.f0)) from fun X h => hr1.below h)
  clear hb1 hr1 ho1
  refine hK.out _ _ (S1.out) (fun hHeld => ?_)
  clear hK K
  try simp only [Act.put, List.setIfInBounds_toArray, List.set_cons_zero, List.set_cons_succ, Array.toArray_toList, List.getElem_toArray, List.getElem_cons_zero, List.getElem_cons_succ]
  refine wpAnyH_ready (rs := [5]) (by kernel_rfl) (by simp) ?_
  refine AllReadyH.cons rfl (fun K hK => ?_) AllReadyH.nil
  go_simp
  refine (encDepositData_any x.f1 _ HX.out.2).mono ?_
  rintro e X2 ⟨v2, rfl, ho2, hb2⟩
  dsimp only
  have S2 := hid (S1.out.trans (hb2.mono S1.out.size))
  have K1 := hid hb2
  obtain ⟨a2, c2, rfl, hr2⟩ := own_at ho2
  have R1 := hid (show ∀ X, Below X2.heap.size X2 X → Bys X a2 184 c2 (ct7 (eDepositData x.f1)) from fun X h => hr2.below h)
  clear hb2 hr2 ho2
  refine hK.out _ _ (S2.out) (fun hHeld => ?_)
  clear hK K
  try simp only [Act.put, List.setIfInBounds_toArray, List.set_cons_zero, List.set_cons_succ, Array.toArray_toList, List.getElem_toArray, List.getElem_cons_zero, List.getElem_cons_succ]
  have hbs : ∀ P : World, (bsP 2 #[(0, Value.slice a1 224 c1), (1, Value.slice a2 184 c2)]).run Tryd.prog P = .ok (.slice (some ⟨P.heap.size, 0, none⟩) 2 2) (P.alloc (.cells (([(a1, 224, c1, ct7 (eProof x.f0)), (a2, 184, c2, ct7 (eDepositData x.f1))] : List Pt).map ptv).toArray 34)) := fun P => bsP_2 P (a1, 224, c1, ct7 (eProof x.f0)) (a2, 184, c2, ct7 (eDepositData x.f1))
  obtain ⟨CP, eCP⟩ : ∃ CP, (([(a1, 224, c1, ct7 (eProof x.f0)), (a2, 184, c2, ct7 (eDepositData x.f1))] : List Pt).map ptv).toArray = CP := ⟨_, rfl⟩
  have HFM : Hid (∀ (P : World) gp gs, Below X2.heap.size X2 P → P.heap[gp]? = some (.cells CP 34) → P.heap[gs]? = some (.cells (vs .i64 2 zDeposit) 3) → Calls Tryd.prog 25 #[.slice (some ⟨gp, 0, none⟩) 2 2, .slice (some ⟨gs, 0, none⟩) 2 2] P fun e w' => ∃ v, e = .returned (.tuple #[v, .int .i64 0]) ∧ w'.ownsRow P.heap.size 5 1 v 408 (bl V 408) ∧ Below P.heap.size P w') := fun P gp gs hP h1 h2 => HFL.out P gp gs a1 c1 a2 c2 (by rw [eCP]; exact h1) h2 (R0.out P (K1.out.trans (hP.mono K1.out.size))) (R1.out P hP)
  rw [eCP] at hbs
  have HBS := hid hbs
  clear hbs eCP
  refine wpAnyH_ready (rs := [6, 7]) (by kernel_rfl) (by simp) ?_
  refine AllReadyH.cons rfl (fun K hK => ?_) (AllReadyH.cons rfl (fun K hK => ?_) AllReadyH.nil)
  · have bs := HBS.out X2
    go_simp
    have hQ : Below X2.heap.size X2 (X2.alloc (.cells CP 34)) := (Below.refl _ _).alloc (Nat.le_refl _) _
    have HQ := hid hQ
    clear hQ
    refine hK.out _ _ (S2.out.trans (HQ.out.mono S2.out.size)) (fun hHeld => ?_)
    clear hK K bs
    try simp only [Act.put, List.setIfInBounds_toArray, List.set_cons_zero, List.set_cons_succ, Array.toArray_toList, List.getElem_toArray, List.getElem_cons_zero, List.getElem_cons_succ]
    refine wpAnyH_ready (rs := [7]) (by kernel_rfl) (by simp) ?_
    refine AllReadyH.cons rfl (fun K hK => ?_) AllReadyH.nil
    go_simp
    refine (dsz_any _).mono ?_
    rintro e P ⟨rfl, hP⟩
    dsimp only
    have HP : Hid (Below X2.heap.size X2 P) := by rw [hP]; exact HQ.out.alloc (by simp) _
    have FL := hid (HFM.out P X2.heap.size (X2.heap.size + 1) HP.out (by rw [hP]; exact (heap_old (by simp)).trans (heap_new rfl)) (by rw [hP]; exact heap_new (by simp)))
    rw [show (X2.alloc (.cells CP 34)).heap.size = X2.heap.size + 1 by simp]
    clear hP
    refine hK.out _ _ (S2.out.trans (HP.out.mono S2.out.size)) (fun hHeld => ?_)
    clear hK K
    try simp only [Act.put, List.setIfInBounds_toArray, List.set_cons_zero, List.set_cons_succ, Array.toArray_toList, List.getElem_toArray, List.getElem_cons_zero, List.getElem_cons_succ]
    refine wpAnyH_ready (rs := [8]) (by kernel_rfl) (by simp) ?_
    refine AllReadyH.cons rfl (fun K hK => ?_) AllReadyH.nil
    go_simp
    refine (FL.out).mono ?_
    rintro e Y ⟨v, rfl, ho, hbY⟩
    dsimp only
    refine hK.out _ _ (S2.out.trans ((HP.out.mono S2.out.size).trans (hbY.mono (by have := S2.out.size; have := HP.out.size; omega)))) (fun hHeld => ?_)
    clear hK K
    try simp only [Act.put, List.setIfInBounds_toArray, List.set_cons_zero, List.set_cons_succ, Array.toArray_toList, List.getElem_toArray, List.getElem_cons_zero, List.getElem_cons_succ]
    refine wpAnyH_take (i := 9) (v := ?v171) rfl (by kernel_rfl) (by kernel_rfl) (by kernel_rfl) (fun _ _ _ h => h) (Or.inl ⟨by rfl, ?hy171⟩) hHeld ?rest171
    case hy171 =>
      intro w hSw
      go_simp
      try with_reducible rfl
    try simp only [Act.put, List.setIfInBounds_toArray, List.set_cons_zero, List.set_cons_succ, Array.toArray_toList, List.getElem_toArray, List.getElem_cons_zero, List.getElem_cons_succ]
    refine wpAnyH_take (i := 10) (v := ?v172) rfl (by kernel_rfl) (by kernel_rfl) (by kernel_rfl) (fun _ _ _ h => h) (Or.inl ⟨by rfl, ?hy172⟩) hHeld ?rest172
    case hy172 =>
      intro w hSw
      go_simp
      try with_reducible rfl
    try simp only [Act.put, List.setIfInBounds_toArray, List.set_cons_zero, List.set_cons_succ, Array.toArray_toList, List.getElem_toArray, List.getElem_cons_zero, List.getElem_cons_succ]
    refine wpAnyH_take (i := 11) (v := ?v173) rfl (by kernel_rfl) (by kernel_rfl) (by kernel_rfl) (fun _ _ _ h => h) (Or.inl ⟨by rfl, ?hy173⟩) hHeld ?rest173
    case hy173 =>
      intro w hSw
      go_simp
      try with_reducible rfl
    try simp only [Act.put, List.setIfInBounds_toArray, List.set_cons_zero, List.set_cons_succ, Array.toArray_toList, List.getElem_toArray, List.getElem_cons_zero, List.getElem_cons_succ]
    refine wpAnyH_take (i := 12) (v := ?v174) rfl (by kernel_rfl) (by kernel_rfl) (by kernel_rfl) (fun _ _ _ h => h) (Or.inl ⟨by rfl, ?hy174⟩) hHeld ?rest174
    case hy174 =>
      intro w hSw
      go_simp
      try with_reducible rfl
    try simp only [Act.put, List.setIfInBounds_toArray, List.set_cons_zero, List.set_cons_succ, Array.toArray_toList, List.getElem_toArray, List.getElem_cons_zero, List.getElem_cons_succ]
    refine wpAnyH_done (by kernel_rfl) ?_ _
    refine NoPanic.normal ?_
    go_wp2
    go_ret2
    have e0 := EY.out
    have e1 := HB0w.out.size
    have e2 := S2.out.size
    have e3 := HP.out.size
    exact ⟨v, rfl, (ho.mono (by omega) : _), HB0w.out.trans ((S2.out.mono (by omega)).trans ((HP.out.mono (by omega)).trans (hbY.mono (by omega))))⟩
  · go_simp
    refine (dsz_any _).mono ?_
    rintro e Q ⟨rfl, hQ⟩
    dsimp only
    have HQ : Hid (Below X2.heap.size X2 Q) := by rw [hQ]; exact (Below.refl _ _).alloc (Nat.le_refl _) _
    have sQ : Q.heap.size = X2.heap.size + 1 := by rw [hQ]; simp
    have rQ : Q.heap[X2.heap.size]? = some (.cells (vs .i64 2 zDeposit) 3) := by rw [hQ]; exact heap_new rfl
    have SQ := hid sQ
    have RQ := hid rQ
    clear hQ sQ rQ
    refine hK.out _ _ (S2.out.trans (HQ.out.mono S2.out.size)) (fun hHeld => ?_)
    clear hK K
    try simp only [Act.put, List.setIfInBounds_toArray, List.set_cons_zero, List.set_cons_succ, Array.toArray_toList, List.getElem_toArray, List.getElem_cons_zero, List.getElem_cons_succ]
    refine wpAnyH_ready (rs := [6]) (by kernel_rfl) (by simp) ?_
    refine AllReadyH.cons rfl (fun K hK => ?_) AllReadyH.nil
    have bs := HBS.out Q
    go_simp
    obtain ⟨P, hP⟩ : ∃ P, Q.alloc (.cells CP 34) = P := ⟨_, rfl⟩
    rw [hP]
    have HP : Hid (Below X2.heap.size X2 P) := by rw [← hP]; exact HQ.out.alloc (by have := SQ.out; omega) _
    have FL := hid (HFM.out P Q.heap.size X2.heap.size HP.out (by rw [← hP]; exact heap_new rfl) (by rw [← hP]; exact (heap_old (by have := SQ.out; omega)).trans RQ.out))
    clear hP bs
    refine hK.out _ _ (S2.out.trans (HP.out.mono S2.out.size)) (fun hHeld => ?_)
    clear hK K
    try simp only [Act.put, List.setIfInBounds_toArray, List.set_cons_zero, List.set_cons_succ, Array.toArray_toList, List.getElem_toArray, List.getElem_cons_zero, List.getElem_cons_succ]
    refine wpAnyH_ready (rs := [8]) (by kernel_rfl) (by simp) ?_
    refine AllReadyH.cons rfl (fun K hK => ?_) AllReadyH.nil
    go_simp
    refine (FL.out).mono ?_
    rintro e Y ⟨v, rfl, ho, hbY⟩
    dsimp only
    refine hK.out _ _ (S2.out.trans ((HP.out.mono S2.out.size).trans (hbY.mono (by have := S2.out.size; have := HP.out.size; omega)))) (fun hHeld => ?_)
    clear hK K
    try simp only [Act.put, List.setIfInBounds_toArray, List.set_cons_zero, List.set_cons_succ, Array.toArray_toList, List.getElem_toArray, List.getElem_cons_zero, List.getElem_cons_succ]
    refine wpAnyH_take (i := 9) (v := ?v175) rfl (by kernel_rfl) (by kernel_rfl) (by kernel_rfl) (fun _ _ _ h => h) (Or.inl ⟨by rfl, ?hy175⟩) hHeld ?rest175
    case hy175 =>
      intro w hSw
      go_simp
      try with_reducible rfl
    try simp only [Act.put, List.setIfInBounds_toArray, List.set_cons_zero, List.set_cons_succ, Array.toArray_toList, List.getElem_toArray, List.getElem_cons_zero, List.getElem_cons_succ]
    refine wpAnyH_take (i := 10) (v := ?v176) rfl (by kernel_rfl) (by kernel_rfl) (by kernel_rfl) (fun _ _ _ h => h) (Or.inl ⟨by rfl, ?hy176⟩) hHeld ?rest176
    case hy176 =>
      intro w hSw
      go_simp
      try with_reducible rfl
    try simp only [Act.put, List.setIfInBounds_toArray, List.set_cons_zero, List.set_cons_succ, Array.toArray_toList, List.getElem_toArray, List.getElem_cons_zero, List.getElem_cons_succ]
    refine wpAnyH_take (i := 11) (v := ?v177) rfl (by kernel_rfl) (by kernel_rfl) (by kernel_rfl) (fun _ _ _ h => h) (Or.inl ⟨by rfl, ?hy177⟩) hHeld ?rest177
    case hy177 =>
      intro w hSw
      go_simp
      try with_reducible rfl
    try simp only [Act.put, List.setIfInBounds_toArray, List.set_cons_zero, List.set_cons_succ, Array.toArray_toList, List.getElem_toArray, List.getElem_cons_zero, List.getElem_cons_succ]
    refine wpAnyH_take (i := 12) (v := ?v178) rfl (by kernel_rfl) (by kernel_rfl) (by kernel_rfl) (fun _ _ _ h => h) (Or.inl ⟨by rfl, ?hy178⟩) hHeld ?rest178
    case hy178 =>
      intro w hSw
      go_simp
      try with_reducible rfl
    try simp only [Act.put, List.setIfInBounds_toArray, List.set_cons_zero, List.set_cons_succ, Array.toArray_toList, List.getElem_toArray, List.getElem_cons_zero, List.getElem_cons_succ]
    refine wpAnyH_done (by kernel_rfl) ?_ _
    refine NoPanic.normal ?_
    go_wp2
    go_ret2
    have e0 := EY.out
    have e1 := HB0w.out.size
    have e2 := S2.out.size
    have e3 := HP.out.size
    exact ⟨v, rfl, (ho.mono (by omega) : _), HB0w.out.trans ((S2.out.mono (by omega)).trans ((HP.out.mono (by omega)).trans (hbY.mono (by omega))))⟩

end Go.Proofs.YtokbhcgooboocaaDoor
