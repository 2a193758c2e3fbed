/-
  Committee: its values, keys in bytes, roots of keys, what Enc and Root answer.
-/

import Derived.Test.YtehpfemlcjcabaaCoC
namespace Go.Proofs.Ytehpfemlcjcabaa

open Go.RowKit

set_option linter.unusedVariables false

set_option linter.unusedSimpArgs false

structure VKeys where
  f0 : Nat → Int

def sKeys (x : VKeys) : List Seg := [.by 384 x.f0]

def OkKeys (x : VKeys) : Prop := ∀ j, j < 384 → 0 ≤ x.f0 j ∧ x.f0 j < 256

def eKeys (x : VKeys) : List (Nat × (Nat → Int)) := [(384, x.f0)]

structure VCommittee where
  f0 : VKeys
  f1 : Nat → Int

def sCommittee (x : VCommittee) : List Seg := sKeys x.f0 ++ [.by 48 x.f1]

def OkCommittee (x : VCommittee) : Prop := OkKeys x.f0 ∧ (∀ j, j < 48 → 0 ≤ x.f1 j ∧ x.f1 j < 256)

def eCommittee (x : VCommittee) : List (Nat × (Nat → Int)) := [(384, ct7 (eKeys x.f0)), (48, x.f1)]

theorem cel_one_by (n : Nat) (f : Nat → Int) : cel [.by n f] = vs .u8 n f := by
  apply Array.ext'
  rw [vs_list]
  show (List.range n).map _ ++ [] = _
  rw [List.append_nil]
  rfl

def lvKeys (a : Addr) : Sem Value := loadVar 45 a

theorem lvKeys_eq (a : Addr) : loadVar 45 a = lvKeys a := rfl

theorem lvKeys_mid {w : World} {g : Nat} {C : Array Value} {t : TypeId} {x : VKeys} (h : w.heap[g]? = some (.cells C t)) (o : Nat) (hl : (C.toList.drop o).take (celL (sKeys x)).length = celL (sKeys x)) (hs : slen (sKeys x) = 384) : (lvKeys ⟨g, o, none⟩).run Try.prog w = .ok (.agg (cel (sKeys x))) w :=
  loadAt_var (run_loadAt_mid w g o 45 _ _ (sub_range h hl) Try.underlying45 rfl (by rw [celL_len, hs]; kernel_rfl))

def lvCommittee (a : Addr) : Sem Value := loadVar 47 a

theorem lvCommittee_eq (a : Addr) : loadVar 47 a = lvCommittee a := rfl

theorem lvCommittee_mid {w : World} {g : Nat} {C : Array Value} {t : TypeId} {x : VCommittee} (h : w.heap[g]? = some (.cells C t)) (o : Nat) (hl : (C.toList.drop o).take (celL (sCommittee x)).length = celL (sCommittee x)) (hs : slen (sCommittee x) = 432) : (lvCommittee ⟨g, o, none⟩).run Try.prog w = .ok (.agg (cel (sCommittee x))) w :=
  loadAt_var (run_loadAt_mid w g o 47 _ _ (sub_range h hl) Try.underlying47 rfl (by rw [celL_len, hs]; kernel_rfl))

/-- A key stored, a key of eight. -/
def svKy (a : Addr) (v : Value) : Sem Unit := storeVar 44 a v

theorem svKy_eq (a : Addr) (v : Value) : storeVar 44 a v = svKy a v := rfl

theorem svKy_newv (W : World) (o c : Nat → Int) : (svKy ⟨W.heap.size, 0, none⟩ (.agg (vs .u8 48 c))).run Try.prog (W.alloc (.cells (vs .u8 48 o) 44)) = .ok () (W.alloc (.cells (vs .u8 48 c) 44)) :=
  run_storeVar_new W 44 _ _ (by rw [vs_size]; kernel_rfl) (by rw [vs_size, vs_size]) (vs_one _ _ _)

theorem zero_48 : ∀ w : World, (zeroValue 44).run Try.prog w = .ok (.agg (vs .u8 48 fun _ => 0)) w := (zero_of_info (n := 48) (by kernel_rfl)).1

def ixK (x i : Value) : Sem Value := Instr.index 45 x i

theorem ixK_eq (x i : Value) : Instr.index 45 x i = ixK x i := rfl

theorem ixK_run (W : World) (f : Nat → Int) (k : Nat) (hk : k < 8) : (ixK (.agg (vs .u8 384 f)) (.int .i64 k)).run Try.prog W = .ok (.agg (vs .u8 48 (fun q => f (48 * k + q)))) W := by
  rcases (by omega : k = 0 ∨ k = 1 ∨ k = 2 ∨ k = 3 ∨ k = 4 ∨ k = 5 ∨ k = 6 ∨ k = 7) with rfl | rfl | rfl | rfl | rfl | rfl | rfl | rfl
  all_goals kernel_rfl

theorem bl_join (f : Nat → Int) (n k : Nat) : bl f n ++ bl (fun q => f (n + q)) k = bl f (n + k) := by
  unfold bl
  rw [List.range_add, List.map_append, List.map_map]
  rfl

attribute [local go_sem ↓] svKy_eq ixK_eq lvKeys_eq

set_option maxRecDepth 20000 in
set_option maxHeartbeats 1000000 in
theorem kbytes_any (f : Nat → Int) (w : World) :
    Calls Try.prog 66 #[.agg (vs .u8 384 f)] w fun e w' => ∃ v, e = .returned v ∧ w'.ownsRow w.heap.size 5 1 v 384 (bl f 384) ∧ Below w.heap.size w w' := by
  obtain ⟨W0, hW0⟩ : ∃ W, w.alloc (.cells (vs .u8 384 f) 45) = W := ⟨_, rfl⟩
  have hB0 : Below w.heap.size w W0 := by rw [← hW0]; exact (Below.refl _ _).alloc (Nat.le_refl _) _
  have r0 : W0.heap[w.heap.size]? = some (.cells (vs .u8 384 f) 45) := by rw [← hW0]; exact heap_new rfl
  have z0 : w.heap.size < W0.heap.size := by rw [← hW0]; simp
  obtain ⟨y, ey⟩ : ∃ y, w.heap.size = y := ⟨_, rfl⟩
  have HLX : Hid (∀ X, Below W0.heap.size W0 X → (lvKeys ⟨y, 0, none⟩).run Try.prog X = .ok (.agg (vs .u8 384 f)) X) := fun X h => by
    rw [← ey]
    have := lvKeys_mid (x := ⟨f⟩) (w := X) (C := cel (sKeys ⟨f⟩)) ((h.block _ z0).trans (r0.trans (congrArg (fun c => some (Obj.cells c 45)) (cel_one_by 384 f).symm))) 0 (take_all _) rfl
    rw [show cel (sKeys ⟨f⟩) = vs .u8 384 f from cel_one_by 384 f] at this
    exact this
  obtain ⟨i8, hi8, hz0, hz1, hz2⟩ := info_parts info8
  have HB0 := hid hB0
  clear hB0 r0 z0
  go_enter Try.func66, Try.ntmps66
  go_upto_region 1 with fail
  clear hW0
  go_upto_region 2 with (at_make; refine wpList_make_own _ rfl _ _ 39 rfl W0.heap.size 5 i8 (.int .u8 0) 1 Try.underlying39 hi8 hz0 hz1 _ _ _ 384 rfl rfl rfl (by rw [hz2]; omega) (by unfold maxLen; omega) (Nat.le_refl _) ?_; intro w2 ho2 hg2; have HO2 := hid ho2; have HB2 : Hid (Below W0.heap.size W0 w2) := ⟨hg2.os, hg2.tape, hg2.output, hg2.size, fun k hk => hg2.block k hk (by intro h; cases h)⟩; clear ho2 hg2)
  have l := HLX.out _ HB2.out
  have hB2 : W0.heap.size ≤ w2.heap.size := HB2.out.size
  go_upto_region 3 with fail
  clear l ey
  go_loopw [3, 8] (fun v i wr => ∃ k : Nat, k ≤ 8 ∧ i = .int .i64 k ∧ wr.ownsRow W0.heap.size 5 1 v (48 * k) (bl f (48 * k)) ∧ Below W0.heap.size W0 wr) (fun _ i _ => 8 - (intOf i).toNat)
  case atStart => exact ⟨0, by omega, rfl, HO2.out, HB2.out⟩
  case round =>
    obtain ⟨k, hk, rfl, hown, hb⟩ := hrel
    by_cases hlt : k < 8
    · have bq : decide (k < 8) = true := by simp; omega
      have k1 : (k : Int) < 8 := by omega
      have k2 : (0 : Int) ≤ (k : Int) := by omega
      have ix := ixK_run wr f k hlt
      have z := zero_48
      have sv := svKy_newv wr (fun _ => 0) (fun q => f (48 * k + q))
      have hz := hb.size
      have HO := hid hown
      have HB := hid hb
      obtain ⟨c, ec⟩ : ∃ c : Nat → Int, (fun q => f (48 * k + q)) = c := ⟨_, rfl⟩
      rw [ec] at ix sv
      have EC := hid ec
      clear hown hb ec
      go_wp2_with (at_builtin; go_loud (refine wpList_append_bys _ rfl _ _ rfl W0.heap.size _ (48 * k) (bl f (48 * k)) rfl (HO.out.alloc _) _ 48 48 c rfl (bys_new (heap_new rfl) (by omega)) (by omega) (by simp; omega) ?_; intro v3 w3 ho3 hg3))
      go_roundw
      case rel =>
        refine ⟨k + 1, by omega, by go_num, ?_, below_grown (HB.out.alloc hz _) (HO.out.alloc _) (by simp; omega) hg3⟩
        rw [← EC.out, bl_join f (48 * k) 48] at ho3
        exact ho3
      case measure => simp [intOf]; omega
    · obtain rfl : k = 8 := by omega
      have bq : decide (8 < 8) = false := by decide
      have HO := hid hown
      have HB := hid hb
      clear hown hb
      go_wp2
      go_ret
      have e1 := HB0.out.size
      exact ⟨_, rfl, HO.out.mono e1, HB0.out.trans (HB.out.mono e1)⟩

theorem encKeys_any (x : VKeys) (w : World) (hx : OkKeys x) :
    Calls Try.prog 66 #[.agg (cel (sKeys x))] w fun e w' => ∃ v, e = .returned v ∧ w'.ownsRow w.heap.size 5 1 v 384 (bl (ct7 (eKeys x)) 384) ∧ Below w.heap.size w w' := by
  have h := kbytes_any x.f0 w
  rw [← cel_one_by 384 x.f0] at h
  refine h.mono ?_
  rintro e w' ⟨v, rfl, ho, hb⟩
  refine ⟨v, rfl, ?_, hb⟩
  rw [bl_congr (m := ct7 (eKeys x)) (m' := x.f0) (fun q hq => if_pos hq)]
  exact ho

attribute [local go_sem ↓] sv24_eq lv24_eq ix22_eq mk22_eq

/-- The value of nothing but zeros; the value that bytes are. -/
def oCommittee : VCommittee := ⟨⟨fun _ => 0⟩, fun _ => 0⟩

def pCommittee (m : Nat → Int) : VCommittee := ⟨⟨m⟩, fun q => m (384 + q)⟩

def zCommittee : Nat → Int := zl7 [384, 48]

theorem fixCommittee : FixS zCommittee 2 432 := ⟨by kernel_rfl, by kernel_rfl, by kernel_rfl, fun r hr => by
  rcases (by omega : r = 0 ∨ r = 1) with rfl | rfl
  all_goals (intro h; exact absurd h (by decide))⟩

theorem zposCommittee (r : Nat) (hr : r < 2) : 0 < zCommittee r := by
  rcases (by omega : r = 0 ∨ r = 1) with rfl | rfl
  all_goals decide

theorem bsI_Committee (W : World) : (bsI 2 #[(0, .int .i64 384), (1, .int .i64 48)]).run Try.prog W = .ok (.slice (some ⟨W.heap.size, 0, none⟩) 2 2) (W.alloc (.cells (vs .i64 2 zCommittee) 3)) := by kernel_rfl

def svCommittee (a : Addr) (v : Value) : Sem Unit := storeVar 47 a v

theorem svCommittee_eq (a : Addr) (v : Value) : storeVar 47 a v = svCommittee a v := rfl

def bdCommittee (ps : Array (Nat × Value)) : Sem Value := Instr.build 47 ps

theorem bdCommittee_eq (ps : Array (Nat × Value)) : Instr.build 47 ps = bdCommittee ps := rfl

theorem zeroCommittee (W : World) : (zeroValue 47).run Try.prog W = .ok (.agg (cel (sCommittee oCommittee))) W := by kernel_rfl

set_option maxRecDepth 20000 in
theorem slCommittee (x : VCommittee) : slen (sCommittee x) = 432 := rfl

theorem svCommittee_run {w : World} {b : Nat} {o : VCommittee} {t : TypeId} (h : w.heap[b]? = some (.cells (cel (sCommittee o)) t)) (c : VCommittee) : (svCommittee ⟨b, 0, none⟩ (.agg (cel (sCommittee c)))).run Try.prog w = .ok () (w.setRow b (cel (sCommittee c))) :=
  run_storeVar_row w b t 47 _ _ h (by rw [cel_size, slCommittee]; kernel_rfl) (by rw [cel_size, cel_size, slCommittee, slCommittee]) (cel_one _)

theorem svCommittee_newv (W : World) (o c : VCommittee) : (svCommittee ⟨W.heap.size, 0, none⟩ (.agg (cel (sCommittee c)))).run Try.prog (W.alloc (.cells (cel (sCommittee o)) 47)) = .ok () (W.alloc (.cells (cel (sCommittee c)) 47)) :=
  run_storeVar_new W 47 _ _ (by rw [cel_size, slCommittee]; kernel_rfl) (by rw [cel_size, cel_size, slCommittee, slCommittee]) (cel_one _)

theorem retCommittee {fn : Func} {R : Ending → World → Prop} {a : Act} {w' : World} (t s : Tmp) (b : Nat) (c : VCommittee) (ty : TypeId) (v : Value) (h : fn.results = #[.cell t 47, .tmp s]) (hd : a.defers = []) (ht : a.tmps.getD t undef = .pointer (some ⟨b, 0, none⟩)) (hs : a.tmps.getD s undef = v) (hr : w'.heap[b]? = some (.cells (cel (sCommittee c)) ty))
    (hR : R (.returned (.tuple #[.agg (cel (sCommittee c)), v])) w') : bodyPost Try.prog fn R .ret a w' := by
  refine bodyPost_ret ?_ hd hR
  have hl := loadAt_var (load_row (P := Try.prog) hr 47 _ Try.underlying47 rfl (by rw [cel_size, slCommittee]; kernel_rfl))
  rw [Array.getD_eq_getD_getElem?] at ht hs
  simp [results, h, ht, hs, hl, asAddr]

attribute [local go_sem ↓] sv24_eq lv24_eq ix22_eq slr_eq bd27_eq bs22_eq sv8_eq mkI_eq ixI_eq ixP_eq bsP_eq bsI_eq lvKeys_eq

set_option maxRecDepth 20000 in
set_option maxHeartbeats 2000000 in
theorem encCommittee_any (x : VCommittee) (w : World) (hx : OkCommittee x) :
    Calls Try.prog 34 #[.agg (cel (sCommittee x))] w fun e w' => ∃ v, e = .returned v ∧ w'.ownsRow w.heap.size 5 1 v 432 (bl (ct7 (eCommittee x)) 432) ∧ Below w.heap.size w w' := by
  have HX := hid hx
  obtain ⟨W0, hW0⟩ : ∃ W, w.alloc (.cells (cel (sCommittee x)) 47) = W := ⟨_, rfl⟩
  have hB0 : Below w.heap.size w W0 := by rw [← hW0]; exact (Below.refl _ _).alloc (Nat.le_refl _) _
  have r0 : W0.heap[w.heap.size]? = some (.cells (cel (sCommittee x)) 47) := by rw [← hW0]; exact heap_new rfl
  have z0 : w.heap.size < W0.heap.size := by rw [← hW0]; simp
  obtain ⟨y, ey⟩ : ∃ y, w.heap.size = y := ⟨_, rfl⟩
  have hry : ∀ X, Below W0.heap.size W0 X → X.heap[y]? = some (.cells (cel (sCommittee x)) 47) := fun X h => by rw [← ey]; exact (h.block _ z0).trans r0
  have HL0 : Hid (∀ X, Below W0.heap.size W0 X → (lvKeys ⟨y, 0, none⟩).run Try.prog X = .ok (.agg (cel (sKeys x.f0))) X) := fun X h => lvKeys_mid (hry X h) 0 rfl rfl
  have HB1 : Hid (∀ X, Below W0.heap.size W0 X → Bys X (some ⟨y, 384, none⟩) 48 48 x.f1) := fun X h => seg_bys (hry X h) 1 48 x.f1 rfl 384 rfl (by omega)
  have hdr : Below W0.heap.size W0 W0.drew := (Below.refl _ _).drew
  have S0 := hid hdr
  have HB0w := hid hB0
  have EY := hid ey
  clear hdr hB0 r0 hry hx
  go_enter Try.func34, Try.ntmps34
  go_upto_region 1 with fail
  clear hW0 ey z0
  refine wp_region_noPanic ?_
  refine wp_region_held_drew (S := fun X => Below W0.heap.size W0 X) (by kernel_rfl) (S0.out) (fun hHeld => ?_)
  refine tk 0 (v := ?v365) ?y365 hHeld ?r365
  case y365 => intro w hSw; go_simp; try with_reducible rfl
  refine tk 1 (v := ?v366) ?y366 hHeld ?r366
  case y366 => intro w hSw; have ld := HL0.out _ hSw; go_simp; try with_reducible rfl
  refine tk 3 (v := ?v367) ?y367 hHeld ?r367
  case y367 => intro w hSw; go_simp; try with_reducible rfl
  refine tk 4 (v := ?v368) ?y368 hHeld ?r368
  case y368 => intro w hSw; go_simp; try with_reducible rfl
  try simp only [Act.put, List.setIfInBounds_toArray, List.set_cons_zero, List.set_cons_succ, Array.toArray_toList, List.getElem_toArray, List.getElem_cons_zero, List.getElem_cons_succ]
  refine wpAnyH_ready (rs := [2]) (by kernel_rfl) (by simp) ?_
  refine AllReadyH.cons rfl (fun K hK => ?_) AllReadyH.nil
  go_simp
  refine (encKeys_any x.f0 _ HX.out.1).mono ?_
  rintro e X1 ⟨v1, rfl, ho1, hb1⟩
  dsimp only
  have S1 := hid (S0.out.trans (hb1.mono S0.out.size))
  obtain ⟨a1, c1, rfl, hr1⟩ := own_at ho1
  have R0 := hid (show ∀ X, Below X1.heap.size X1 X → Bys X a1 384 c1 (ct7 (eKeys x.f0)) from fun X h => hr1.below h)
  clear hb1 hr1 ho1
  refine hK.out _ _ (S1.out) (fun hHeld => ?_)
  clear hK K
  try simp only [Act.put, List.setIfInBounds_toArray, List.set_cons_zero, List.set_cons_succ, Array.toArray_toList, List.getElem_toArray, List.getElem_cons_zero, List.getElem_cons_succ]
  have bs : (bsP 2 #[(0, Value.slice a1 384 c1), (1, Value.slice (some ⟨y, 384, none⟩) 48 48)]).run Try.prog X1 = .ok (.slice (some ⟨X1.heap.size, 0, none⟩) 2 2) (X1.alloc (.cells (([(a1, 384, c1, ct7 (eKeys x.f0)), (some ⟨y, 384, none⟩, 48, 48, x.f1)] : List Pt).map ptv).toArray 39)) := bsP_2 X1 (a1, 384, c1, ct7 (eKeys x.f0)) (some ⟨y, 384, none⟩, 48, 48, x.f1)
  have hBn : Below X1.heap.size X1 (X1.alloc (.cells (([(a1, 384, c1, ct7 (eKeys x.f0)), (some ⟨y, 384, none⟩, 48, 48, x.f1)] : List Pt).map ptv).toArray 39)) := (Below.refl _ _).alloc (Nat.le_refl _) _
  have hla := lay7 ([(a1, 384, c1, ct7 (eKeys x.f0)), (some ⟨y, 384, none⟩, 48, 48, x.f1)] : List Pt) X1.heap.size (X1.alloc (.cells (([(a1, 384, c1, ct7 (eKeys x.f0)), (some ⟨y, 384, none⟩, 48, 48, x.f1)] : List Pt).map ptv).toArray 39)) (heap_new rfl) (fun r hr => by
    have hr' : r < 2 := hr
    rcases (by omega : r = 0 ∨ r = 1) with rfl | rfl
    · exact R0.out _ hBn
    · exact HB1.out _ (S1.out.trans (hBn.mono S1.out.size))
  ) (fun r hr => by
    have hr' : r < 2 := hr
    rcases (by omega : r = 0 ∨ r = 1) with rfl | rfl
    all_goals exact ⟨Nat.le_of_ble_eq_true rfl, Nat.le_of_ble_eq_true rfl⟩) (Nat.le_of_ble_eq_true rfl) (Nat.le_of_ble_eq_true rfl)
  have HLA := hid hla
  have HBN := hid hBn
  clear hla hBn
  refine wpAnyH_ready (rs := [5]) (by kernel_rfl) (by simp) ?_
  refine AllReadyH.cons rfl (fun K hK => ?_) AllReadyH.nil
  go_simp
  refine hK.out _ _ (S1.out.trans (HBN.out.mono S1.out.size)) (fun hHeld => ?_)
  clear hK K bs
  try simp only [Act.put, List.setIfInBounds_toArray, List.set_cons_zero, List.set_cons_succ, Array.toArray_toList, List.getElem_toArray, List.getElem_cons_zero, List.getElem_cons_succ]
  refine wpAnyH_ready (rs := [6]) (by kernel_rfl) (by simp) ?_
  refine AllReadyH.cons rfl (fun K hK => ?_) AllReadyH.nil
  go_simp
  refine (HLA.out).mono ?_
  rintro e Y ⟨v, rfl, ho, hbY⟩
  dsimp only
  refine hK.out _ _ (S1.out.trans ((HBN.out.mono S1.out.size).trans (hbY.mono (by have := S1.out.size; have := HBN.out.size; omega)))) (fun hHeld => ?_)
  clear hK K
  try simp only [Act.put, List.setIfInBounds_toArray, List.set_cons_zero, List.set_cons_succ, Array.toArray_toList, List.getElem_toArray, List.getElem_cons_zero, List.getElem_cons_succ]
  refine tk 7 (v := ?v369) ?y369 hHeld ?r369
  case y369 => intro w hSw; go_simp; try with_reducible rfl
  try simp only [Act.put, List.setIfInBounds_toArray, List.set_cons_zero, List.set_cons_succ, Array.toArray_toList, List.getElem_toArray, List.getElem_cons_zero, List.getElem_cons_succ]
  refine wpAnyH_done (by kernel_rfl) ?_ _
  refine NoPanic.normal ?_
  go_wp2
  go_ret
  have e0 := EY.out
  have e1 := HB0w.out.size
  have e2 := S1.out.size
  have e3 := HBN.out.size
  exact ⟨v, rfl, (ho.mono (by omega) : _), HB0w.out.trans ((S1.out.mono (by omega)).trans ((HBN.out.mono (by omega)).trans (hbY.mono (by omega))))⟩

end Go.Proofs.Ytehpfemlcjcabaa
