/-
  Committee: its values, keys in bytes, roots of keys, what Enc and Root answer.
-/
import Derived.Test.YtaodonmbanpieabDoorCoC
namespace Go.Proofs.YtaodonmbanpieabDoor
open Go.RowKit
set_option linter.unusedVariables false
set_option linter.unusedSimpArgs false

structure VKeys where
  f0 : Nat → Int
def sKeys (x : VKeys) : List Seg := [.by 384 x.f0]
def OkKeys (x : VKeys) : Prop := ∀ j, j < 384 → 0 ≤ x.f0 j ∧ x.f0 j < 256
def eKeys (x : VKeys) : List (Nat × (Nat → Int)) := [(384, x.f0)]
structure VCommittee where
  f0 : VKeys
  f1 : Nat → Int
def sCommittee (x : VCommittee) : List Seg := sKeys x.f0 ++ [.by 48 x.f1]
def OkCommittee (x : VCommittee) : Prop := OkKeys x.f0 ∧ (∀ j, j < 48 → 0 ≤ x.f1 j ∧ x.f1 j < 256)
def eCommittee (x : VCommittee) : List (Nat × (Nat → Int)) := [(384, ct7 (eKeys x.f0)), (48, x.f1)]
theorem cel_one_by (n : Nat) (f : Nat → Int) : cel [.by n f] = vs .u8 n f := by
  apply Array.ext'
  rw [vs_list]
  show (List.range n).map _ ++ [] = _
  rw [List.append_nil]
  rfl
def lvKeys (a : Addr) : Sem Value := loadVar 82 a
theorem lvKeys_eq (a : Addr) : loadVar 82 a = lvKeys a := rfl
theorem lvKeys_mid {w : World} {g : Nat} {C : Array Value} {t : TypeId} {x : VKeys} (h : w.heap[g]? = some (.cells C t)) (o : Nat) (hl : (C.toList.drop o).take (celL (sKeys x)).length = celL (sKeys x)) (hs : slen (sKeys x) = 384) : (lvKeys ⟨g, o, none⟩).run Tryd.prog w = .ok (.agg (cel (sKeys x))) w :=
  loadAt_var (run_loadAt_mid w g o 82 _ _ (sub_range h hl) Tryd.underlying82 rfl (by rw [celL_len, hs]; kernel_rfl))
def lvCommittee (a : Addr) : Sem Value := loadVar 84 a
theorem lvCommittee_eq (a : Addr) : loadVar 84 a = lvCommittee a := rfl
theorem lvCommittee_mid {w : World} {g : Nat} {C : Array Value} {t : TypeId} {x : VCommittee} (h : w.heap[g]? = some (.cells C t)) (o : Nat) (hl : (C.toList.drop o).take (celL (sCommittee x)).length = celL (sCommittee x)) (hs : slen (sCommittee x) = 432) : (lvCommittee ⟨g, o, none⟩).run Tryd.prog w = .ok (.agg (cel (sCommittee x))) w :=
  loadAt_var (run_loadAt_mid w g o 84 _ _ (sub_range h hl) Tryd.underlying84 rfl (by rw [celL_len, hs]; kernel_rfl))
/-- A key stored, a key of eight. -/
def svKy (a : Addr) (v : Value) : Sem Unit := storeVar 44 a v
theorem svKy_eq (a : Addr) (v : Value) : storeVar 44 a v = svKy a v := rfl
theorem svKy_newv (W : World) (o c : Nat → Int) : (svKy ⟨W.heap.size, 0, none⟩ (.agg (vs .u8 48 c))).run Tryd.prog (W.alloc (.cells (vs .u8 48 o) 44)) = .ok () (W.alloc (.cells (vs .u8 48 c) 44)) :=
  run_storeVar_new W 44 _ _ (by rw [vs_size]; kernel_rfl) (by rw [vs_size, vs_size]) (vs_one _ _ _)
theorem zero_48 : ∀ w : World, (zeroValue 44).run Tryd.prog w = .ok (.agg (vs .u8 48 fun _ => 0)) w := (zero_of_info (n := 48) (by kernel_rfl)).1
def ixK (x i : Value) : Sem Value := Instr.index 82 x i
theorem ixK_eq (x i : Value) : Instr.index 82 x i = ixK x i := rfl
theorem ixK_run (W : World) (f : Nat → Int) (k : Nat) (hk : k < 8) : (ixK (.agg (vs .u8 384 f)) (.int .i64 k)).run Tryd.prog W = .ok (.agg (vs .u8 48 (fun q => f (48 * k + q)))) W := by
  rcases (by omega : k = 0 ∨ k = 1 ∨ k = 2 ∨ k = 3 ∨ k = 4 ∨ k = 5 ∨ k = 6 ∨ k = 7) with rfl | rfl | rfl | rfl | rfl | rfl | rfl | rfl
  all_goals kernel_rfl
theorem bl_join (f : Nat → Int) (n k : Nat) : bl f n ++ bl (fun q => f (n + q)) k = bl f (n + k) := by
  unfold bl
  rw [List.range_add, List.map_append, List.map_map]
  rfl

attribute [local go_sem ↓] svKy_eq ixK_eq lvKeys_eq

set_option maxRecDepth 20000 in
set_option maxHeartbeats 1000000 in
theorem kbytes_any (f : Nat → Int) (w : World) :
    Calls Tryd.prog 72 #[.agg (vs .u8 384 f)] w fun e w' => ∃ v, e = .returned v ∧ w'.ownsRow w.heap.size 5 1 v 384 (bl f 384) ∧ Below w.heap.size w w' := by
  obtain ⟨W0, hW0⟩ : ∃ W, w.alloc (.cells (vs .u8 384 f) 82) = W := ⟨_, rfl⟩
  have hB0 : Below w.heap.size w W0 := by rw [← hW0]; exact (Below.refl _ _).alloc (Nat.le_refl _) _
  have r0 : W0.heap[w.heap.size]? = some (.cells (vs .u8 384 f) 82) := by rw [← hW0]; exact heap_new rfl
  have z0 : w.heap.size < W0.heap.size := by rw [← hW0]; simp
  obtain ⟨y, ey⟩ : ∃ y, w.heap.size = y := ⟨_, rfl⟩
  have HLX : Hid (∀ X, Below W0.heap.size W0 X → (lvKeys ⟨y, 0, none⟩).run Tryd.prog X = .ok (.agg (vs .u8 384 f)) X) := fun X h => by
    rw [← ey]
    have := lvKeys_mid (x := ⟨f⟩) (w := X) (C := cel (sKeys ⟨f⟩)) ((h.block _ z0).trans (r0.trans (congrArg (fun c => some (Obj.cells c 82)) (cel_one_by 384 f).symm))) 0 (take_all _) rfl
    rw [show cel (sKeys ⟨f⟩) = vs .u8 384 f from cel_one_by 384 f] at this
    exact this
  obtain ⟨i8, hi8, hz0, hz1, hz2⟩ := info_parts info8
  have HB0 := hid hB0
  clear hB0 r0 z0
  go_enter Tryd.func72, Tryd.ntmps72
  go_upto_region 1 with fail
  clear hW0
  go_upto_region 2 with (at_make; refine wpList_make_own _ rfl _ _ 31 rfl W0.heap.size 5 i8 (.int .u8 0) 1 Tryd.underlying31 hi8 hz0 hz1 _ _ _ 384 rfl rfl rfl (by rw [hz2]; omega) (by unfold maxLen; omega) (Nat.le_refl _) ?_; intro w2 ho2 hg2; have HO2 := hid ho2; have HB2 : Hid (Below W0.heap.size W0 w2) := ⟨hg2.os, hg2.tape, hg2.output, hg2.size, fun k hk => hg2.block k hk (by intro h; cases h)⟩; clear ho2 hg2)
  have l := HLX.out _ HB2.out
  have hB2 : W0.heap.size ≤ w2.heap.size := HB2.out.size
  go_upto_region 3 with fail
  clear l ey
  go_loopw [3, 8] (fun v i wr => ∃ k : Nat, k ≤ 8 ∧ i = .int .i64 k ∧ wr.ownsRow W0.heap.size 5 1 v (48 * k) (bl f (48 * k)) ∧ Below W0.heap.size W0 wr) (fun _ i _ => 8 - (intOf i).toNat)
  case atStart => exact ⟨0, by omega, rfl, HO2.out, HB2.out⟩
  case round =>
    obtain ⟨k, hk, rfl, hown, hb⟩ := hrel
    by_cases hlt : k < 8
    · have bq : decide (k < 8) = true := by simp; omega
      have k1 : (k : Int) < 8 := by omega
      have k2 : (0 : Int) ≤ (k : Int) := by omega
      have ix := ixK_run wr f k hlt
      have z := zero_48
      have sv := svKy_newv wr (fun _ => 0) (fun q => f (48 * k + q))
      have hz := hb.size
      have HO := hid hown
      have HB := hid hb
      obtain ⟨c, ec⟩ : ∃ c : Nat → Int, (fun q => f (48 * k + q)) = c := ⟨_, rfl⟩
      rw [ec] at ix sv
      have EC := hid ec
      clear hown hb ec
      go_wp2_with (at_builtin; go_loud (refine wpList_append_bys _ rfl _ _ rfl W0.heap.size _ (48 * k) (bl f (48 * k)) rfl (HO.out.alloc _) _ 48 48 c rfl (bys_new (heap_new rfl) (by omega)) (by omega) (by simp; omega) ?_; intro v3 w3 ho3 hg3))
      go_roundw
      case rel =>
        refine ⟨k + 1, by omega, by go_num, ?_, below_grown (HB.out.alloc hz _) (HO.out.alloc _) (by simp; omega) hg3⟩
        rw [← EC.out, bl_join f (48 * k) 48] at ho3
        exact ho3
      case measure => simp [intOf]; omega
    · obtain rfl : k = 8 := by omega
      have bq : decide (8 < 8) = false := by decide
      have HO := hid hown
      have HB := hid hb
      clear hown hb
      go_wp2
      go_ret
      have e1 := HB0.out.size
      exact ⟨_, rfl, HO.out.mono e1, HB0.out.trans (HB.out.mono e1)⟩

theorem encKeys_any (x : VKeys) (w : World) (hx : OkKeys x) :
    Calls Tryd.prog 72 #[.agg (cel (sKeys x))] w fun e w' => ∃ v, e = .returned v ∧ w'.ownsRow w.heap.size 5 1 v 384 (bl (ct7 (eKeys x)) 384) ∧ Below w.heap.size w w' := by
  have h := kbytes_any x.f0 w
  rw [← cel_one_by 384 x.f0] at h
  refine h.mono ?_
  rintro e w' ⟨v, rfl, ho, hb⟩
  refine ⟨v, rfl, ?_, hb⟩
  rw [bl_congr (m := ct7 (eKeys x)) (m' := x.f0) (fun q hq => if_pos hq)]
  exact ho

/-- The root of a key, the roots of eight keys, their root. -/
def kyR (f : Nat → Int) (i : Nat) : Nat → Int := bR (fun q => f (48 * i + q)) 48
def lk (f : Nat → Int) (k : Nat) : List (Nat → Int) := [if 0 < k then kyR f 0 else fun _ => 0, if 1 < k then kyR f 1 else fun _ => 0, if 2 < k then kyR f 2 else fun _ => 0, if 3 < k then kyR f 3 else fun _ => 0, if 4 < k then kyR f 4 else fun _ => 0, if 5 < k then kyR f 5 else fun _ => 0, if 6 < k then kyR f 6 else fun _ => 0, if 7 < k then kyR f 7 else fun _ => 0]
theorem lk_set (f : Nat → Int) (k : Nat) (hk : k < 8) : (lk f k).set k (kyR f k) = lk f (k + 1) := by
  rcases (by omega : k = 0 ∨ k = 1 ∨ k = 2 ∨ k = 3 ∨ k = 4 ∨ k = 5 ∨ k = 6 ∨ k = 7) with rfl | rfl | rfl | rfl | rfl | rfl | rfl | rfl
  all_goals rfl
def hKeys (x : VKeys) : Nat → Int := treeV (fl7 (lk x.f0 8)) 8 (8 : Nat)
theorem kyR_bd {f : Nat → Int} (hf : ∀ j, j < 384 → 0 ≤ f j ∧ f j < 256) (i : Nat) (hi : i < 8) (j : Nat) (hj : j < 32) : 0 ≤ kyR f i j ∧ kyR f i j < 256 := by
  unfold kyR bR
  exact treeV_bd (pk_bd (fun q hq => hf (48 * i + q) (by omega)) _) _ j hj
theorem lk_bd {f : Nat → Int} (hf : ∀ j, j < 384 → 0 ≤ f j ∧ f j < 256) : ∀ c ∈ lk f 8, ∀ j, j < 32 → 0 ≤ c j ∧ c j < 256 := by
  intro c hc
  simp only [lk, List.mem_cons, List.not_mem_nil, or_false] at hc
  rcases hc with rfl | rfl | rfl | rfl | rfl | rfl | rfl | rfl
  · exact kyR_bd hf 0 (by omega)
  · exact kyR_bd hf 1 (by omega)
  · exact kyR_bd hf 2 (by omega)
  · exact kyR_bd hf 3 (by omega)
  · exact kyR_bd hf 4 (by omega)
  · exact kyR_bd hf 5 (by omega)
  · exact kyR_bd hf 6 (by omega)
  · exact kyR_bd hf 7 (by omega)
theorem hKeys_bd {x : VKeys} (hx : OkKeys x) (j : Nat) (hj : j < 32) : 0 ≤ hKeys x j ∧ hKeys x j < 256 := treeV_bd (fl7_bd (lk_bd hx) _) _ j hj

attribute [local go_sem ↓] sv24_eq lv24_eq ix22_eq mk22_eq

set_option maxRecDepth 20000 in
set_option maxHeartbeats 1000000 in
theorem kroot_any (x : VKeys) (w : World) (hx : OkKeys x) (hS : Sh w) :
    Calls Tryd.prog 73 #[.agg (vs .u8 384 x.f0)] w fun e w' => e = .returned (.agg (vs .u8 32 (hKeys x))) ∧ Below w.heap.size w w' := by
  have z := zero_root
  obtain ⟨f, ef⟩ : ∃ f, x.f0 = f := ⟨_, rfl⟩
  have hf : ∀ j, j < 384 → 0 ≤ f j ∧ f j < 256 := by rw [← ef]; exact hx
  have eh : hKeys x = treeV (fl7 (lk f 8)) 8 (8 : Nat) := by unfold hKeys; rw [ef]
  rw [ef]
  obtain ⟨y, ey⟩ : ∃ y, w.heap.size = y := ⟨_, rfl⟩
  obtain ⟨W1, hW1⟩ : ∃ W, w.alloc (.cells (vs .u8 384 f) 82) = W := ⟨_, rfl⟩
  obtain ⟨W2, hW2⟩ : ∃ W, W1.alloc (.cells (vs .u8 32 fun _ => 0) 24) = W := ⟨_, rfl⟩
  obtain ⟨V0, hV0⟩ : ∃ W, W2.alloc (.cells (vs .u8 (32 * 8) fun _ => 0) 24) = W := ⟨_, rfl⟩
  have z1 : W1.heap.size = y + 1 := by rw [← hW1, ← ey]; simp
  have z2 : W2.heap.size = y + 2 := by rw [← hW2]; simp [z1]
  have z3 : V0.heap.size = y + 3 := by rw [← hV0]; simp [z2]
  have hB0 : Below w.heap.size w V0 := by rw [← hV0, ← hW2, ← hW1]; exact (((Below.refl _ _).alloc (Nat.le_refl _) _).alloc (by simp) _).alloc (by simp; omega) _
  have r1 : V0.heap[y]? = some (.cells (vs .u8 384 f) 82) := by rw [← hV0]; refine (heap_old (by omega)).trans ?_; rw [← hW2]; refine (heap_old (by omega)).trans ?_; rw [← hW1]; exact heap_new ey.symm
  have r2 : V0.heap[y + 1]? = some (.cells (vs .u8 32 fun _ => 0) 24) := by rw [← hV0]; refine (heap_old (by omega)).trans ?_; rw [← hW2]; exact heap_new z1.symm
  have r3 : V0.heap[y + 2]? = some (.cells (vs .u8 (32 * 8) (fl7 (lk f 0))) 24) := by
    rw [← hV0]
    refine (heap_new z2.symm).trans (congrArg (fun c => some (Obj.cells c 24)) (vs_congr fun q hq => ?_))
    unfold fl7 lk
    rcases (by omega : q / 32 = 0 ∨ q / 32 = 1 ∨ q / 32 = 2 ∨ q / 32 = 3 ∨ q / 32 = 4 ∨ q / 32 = 5 ∨ q / 32 = 6 ∨ q / 32 = 7) with h | h | h | h | h | h | h | h
    all_goals (rw [h]; rfl)
  have mk : (mk22 (.int .i64 8) (.int .i64 8)).run Tryd.prog W2 = .ok (.slice (some ⟨y + 2, 0, none⟩) 8 8) V0 := by
    have := mk22_run W2 8 (by omega)
    rw [hV0, z2] at this
    exact this
  have lx : (lvKeys ⟨y, 0, none⟩).run Tryd.prog V0 = .ok (.agg (vs .u8 384 f)) V0 := by
    have := lvKeys_mid (x := ⟨f⟩) (w := V0) (C := cel (sKeys ⟨f⟩)) (r1.trans (congrArg (fun c => some (Obj.cells c 82)) (cel_one_by 384 f).symm)) 0 (take_all _) rfl
    rw [show cel (sKeys ⟨f⟩) = vs .u8 384 f from cel_one_by 384 f] at this
    exact this
  have hrr : ∀ X, Below (y + 2) V0 X → X.heap[y + 1]? = some (.cells (vs .u8 32 fun _ => 0) 24) := fun X h => (h.block _ (by omega)).trans r2
  have hSh : ∀ X, Below (y + 2) V0 X → Sh X := fun X h => hS.below (hB0.trans (h.mono (by omega)))
  have hro : ∀ X, Below (y + 2) V0 X → X.heap[y + 2]? = some (.cells (vs .u8 (32 * 8) (fl7 (lk f 8))) 24) → Calls Tryd.prog 50 #[.slice (some ⟨y + 2, 0, none⟩) 8 8] X fun e w' => e = .returned (.agg (vs .u8 32 (hKeys x))) ∧ Below X.heap.size X w' := fun X h h2 => by
    rw [eh]
    exact rootof_any (some ⟨y + 2, 0, none⟩) 8 8 (fl7 (lk f 8)) X (rts_row (n := 8) h2) (by omega) (fl7_bd (lk_bd hf) _) (hSh X h)
  obtain ⟨D, eD⟩ : ∃ D, hKeys x = D := ⟨_, rfl⟩
  rw [eD] at hro ⊢
  obtain ⟨u, eu⟩ : ∃ u, y + 2 = u := ⟨_, rfl⟩
  rw [eu] at hro mk r3
  have HU := hid eu
  have HRO := hid hro
  have HRR := hid hrr
  have HSH := hid hSh
  have HB0 := hid hB0
  have EY := hid ey
  have Z3 := hid z3
  have HF := hid hf
  have RV0 := hid r3
  clear hro hrr hSh hB0 z3 r1 r2 r3 hf hS hx eh ef eD
  go_enter Tryd.func73, Tryd.ntmps73
  go_upto_region 3 with fail
  clear hW1 hW2 hV0 z1 z2 ey z mk lx eu
  go_loopw [8] (fun i wr => ∃ k : Nat, k ≤ 8 ∧ i = .int .i64 k ∧ wr.heap[u]? = some (.cells (vs .u8 (32 * 8) (fl7 (lk f k))) 24) ∧ Below (y + 2) V0 wr) (fun i _ => 8 - (intOf i).toNat)
  case atStart => exact ⟨0, by omega, rfl, RV0.out, Below.refl _ _⟩
  case round =>
    obtain ⟨k, hk, rfl, hr, hb⟩ := hrel
    by_cases hlt : k < 8
    · have bq : decide (k < 8) = true := by simp; omega
      have k1 : (k : Int) < 8 := by omega
      have k2 : (0 : Int) ≤ (k : Int) := by omega
      have ix := ixK_run wr f k hlt
      have z := zero_48
      have sv := svKy_newv wr (fun _ => 0) (fun q => f (48 * k + q))
      have ix2 : ∀ W : World, (ix22 (.slice (some ⟨u, 0, none⟩) 8 8) (.int .i64 k)).run Tryd.prog W = .ok (.pointer (some ⟨u, 32 * k, none⟩)) W := fun W => by
        have := ix22_run W u 0 8 8 k hlt
        rw [Nat.zero_add] at this
        exact this
      obtain ⟨c, ec⟩ : ∃ c : Nat → Int, (fun q => f (48 * k + q)) = c := ⟨_, rfl⟩
      rw [ec] at ix sv
      obtain ⟨U, hU⟩ : ∃ U, wr.alloc (.cells (vs .u8 48 c) 44) = U := ⟨_, rfl⟩
      have hus := (Array.getElem?_eq_some_iff.1 hr).1
      have hbU : Below (y + 2) V0 U := by rw [← hU]; exact hb.alloc (by have := HU.out; omega) _
      have rU : U.heap[u]? = some (.cells (vs .u8 (32 * 8) (fl7 (lk f k))) 24) := by rw [← hU]; exact (heap_old hus).trans hr
      have gU : U.heap[wr.heap.size]? = some (.cells (vs .u8 48 c) 44) := by rw [← hU]; exact heap_new rfl
      rw [hU] at sv
      obtain ⟨b, eb⟩ : ∃ b, wr.heap.size = b := ⟨_, rfl⟩
      rw [eb] at sv gU
      have hcr : Calls Tryd.prog 52 #[.slice (some ⟨b, 0, none⟩) 48 48] U fun e w' => e = .returned (.agg (vs .u8 32 (kyR f k))) ∧ Below U.heap.size U w' := by
        unfold kyR
        rw [ec]
        exact broot_any _ 48 48 c U (bys_new gU (by omega)) (by omega) (fun j hj => by rw [← ec]; exact HF.out (48 * k + j) (by omega)) (HSH.out U hbU)
      obtain ⟨R, eR⟩ : ∃ R, kyR f k = R := ⟨_, rfl⟩
      rw [eR] at hcr
      have HCR := hid hcr
      have ER := hid eR
      have RU := hid rU
      have HBU := hid hbU
      clear hr hb ec hus hbU rU gU hcr eR
      go_wp2_with (go_at_call 52; refine HCR.out.mono ?_; rintro e w3 ⟨rfl, hb3⟩; have r3 := (hb3.block u (Array.getElem?_eq_some_iff.1 RU.out).1).trans RU.out; obtain ⟨s3, n3, b3⟩ := put7 (l := lk f k) (n := 8) (HBU.out.trans (hb3.mono (by have := (Array.getElem?_eq_some_iff.1 RU.out).1; have := HU.out; omega))) (by have := HU.out; omega) r3 k R hlt rfl; have N3 := hid n3; have B3 := hid b3; clear n3 b3 r3 hb3)
      go_roundw
      case rel =>
        refine ⟨k + 1, by omega, by go_num, ?_, B3.out⟩
        have := N3.out
        rw [← ER.out, lk_set f k hlt] at this
        rw [← ER.out]
        exact this
      case measure => simp [intOf]; omega
    · obtain rfl : k = 8 := by omega
      have bq : decide (8 < 8) = false := by decide
      have HM := hid (HRO.out _ (by rw [← HU.out]; exact hb) hr)
      have HB := hid hb
      clear hr hb
      go_wp2_with (go_at_call 50; refine HM.out.mono ?_; rintro e Y ⟨rfl, hbY⟩; have sy := HB.out.trans (hbY.mono (by have h2 := Z3.out; have h3 := HB.out.size; omega)); have rY := HRR.out _ sy; have s1 := sv24_run rY D; have RY := hid rY; have SY := hid sy; clear rY sy hbY)
      refine ret24 _ (y + 1) _ 24 rfl rfl rfl (setRow_at RY.out) ⟨rfl, ?_⟩
      have e0 := EY.out
      exact below_row (HB0.out.trans (SY.out.mono (by omega))) (by omega) _

theorem rootKeys_any (x : VKeys) (w : World) (hx : OkKeys x) (hS : Sh w) :
    Calls Tryd.prog 73 #[.agg (cel (sKeys x))] w fun e w' => e = .returned (.agg (vs .u8 32 (hKeys x))) ∧ Below w.heap.size w w' := by
  have h := kroot_any x w hx hS
  rw [← cel_one_by 384 x.f0] at h
  exact h

/-- The root of a value. -/
def hCommittee (x : VCommittee) : Nat → Int := treeV (fl7 [hKeys x.f0, bR x.f1 48]) 2 (2 : Nat)
/-- The value of nothing but zeros; the value that bytes are. -/
def oCommittee : VCommittee := ⟨⟨fun _ => 0⟩, fun _ => 0⟩
def pCommittee (m : Nat → Int) : VCommittee := ⟨⟨m⟩, fun q => m (384 + q)⟩
def zCommittee : Nat → Int := zl7 [384, 48]
theorem fixCommittee : FixS zCommittee 2 432 := ⟨by kernel_rfl, by kernel_rfl, by kernel_rfl, fun r hr => by
  rcases (by omega : r = 0 ∨ r = 1) with rfl | rfl
  all_goals (intro h; exact absurd h (by decide))⟩
theorem zposCommittee (r : Nat) (hr : r < 2) : 0 < zCommittee r := by
  rcases (by omega : r = 0 ∨ r = 1) with rfl | rfl
  all_goals decide
theorem bsI_Committee (W : World) : (bsI 2 #[(0, .int .i64 384), (1, .int .i64 48)]).run Tryd.prog W = .ok (.slice (some ⟨W.heap.size, 0, none⟩) 2 2) (W.alloc (.cells (vs .i64 2 zCommittee) 3)) := by kernel_rfl
def svCommittee (a : Addr) (v : Value) : Sem Unit := storeVar 84 a v
theorem svCommittee_eq (a : Addr) (v : Value) : storeVar 84 a v = svCommittee a v := rfl
def bdCommittee (ps : Array (Nat × Value)) : Sem Value := Instr.build 84 ps
theorem bdCommittee_eq (ps : Array (Nat × Value)) : Instr.build 84 ps = bdCommittee ps := rfl
theorem bdCommittee_0 (W : World) : (bdCommittee #[]).run Tryd.prog W = .ok (.agg (cel (sCommittee oCommittee))) W := by kernel_rfl
theorem zeroCommittee (W : World) : (zeroValue 84).run Tryd.prog W = .ok (.agg (cel (sCommittee oCommittee))) W := by kernel_rfl
set_option maxRecDepth 20000 in
theorem slCommittee (x : VCommittee) : slen (sCommittee x) = 432 := rfl
theorem svCommittee_run {w : World} {b : Nat} {o : VCommittee} {t : TypeId} (h : w.heap[b]? = some (.cells (cel (sCommittee o)) t)) (c : VCommittee) : (svCommittee ⟨b, 0, none⟩ (.agg (cel (sCommittee c)))).run Tryd.prog w = .ok () (w.setRow b (cel (sCommittee c))) :=
  run_storeVar_row w b t 84 _ _ h (by rw [cel_size, slCommittee]; kernel_rfl) (by rw [cel_size, cel_size, slCommittee, slCommittee]) (cel_one _)
theorem svCommittee_newv (W : World) (o c : VCommittee) : (svCommittee ⟨W.heap.size, 0, none⟩ (.agg (cel (sCommittee c)))).run Tryd.prog (W.alloc (.cells (cel (sCommittee o)) 84)) = .ok () (W.alloc (.cells (cel (sCommittee c)) 84)) :=
  run_storeVar_new W 84 _ _ (by rw [cel_size, slCommittee]; kernel_rfl) (by rw [cel_size, cel_size, slCommittee, slCommittee]) (cel_one _)
theorem retCommittee {fn : Func} {R : Ending → World → Prop} {a : Act} {w' : World} (t s : Tmp) (b : Nat) (c : VCommittee) (ty : TypeId) (v : Value) (h : fn.results = #[.cell t 84, .tmp s]) (hd : a.defers = []) (ht : a.tmps.getD t undef = .pointer (some ⟨b, 0, none⟩)) (hs : a.tmps.getD s undef = v) (hr : w'.heap[b]? = some (.cells (cel (sCommittee c)) ty))
    (hR : R (.returned (.tuple #[.agg (cel (sCommittee c)), v])) w') : bodyPost Tryd.prog fn R .ret a w' := by
  refine bodyPost_ret ?_ hd hR
  have hl := loadAt_var (load_row (P := Tryd.prog) hr 84 _ Tryd.underlying84 rfl (by rw [cel_size, slCommittee]; kernel_rfl))
  rw [Array.getD_eq_getD_getElem?] at ht hs
  simp [results, h, ht, hs, hl, asAddr]

attribute [local go_sem ↓] sv24_eq lv24_eq ix22_eq slr_eq bd27_eq bs22_eq sv8_eq mkI_eq ixI_eq ixP_eq bsP_eq bsI_eq lvKeys_eq

set_option maxRecDepth 20000 in
set_option maxHeartbeats 2000000 in
theorem encCommittee_any (x : VCommittee) (w : World) (hx : OkCommittee x) :
    Calls Tryd.prog 40 #[.agg (cel (sCommittee x))] w fun e w' => ∃ v, e = .returned v ∧ w'.ownsRow w.heap.size 5 1 v 432 (bl (ct7 (eCommittee x)) 432) ∧ Below w.heap.size w w' := by
  have HX := hid hx
  obtain ⟨W0, hW0⟩ : ∃ W, w.alloc (.cells (cel (sCommittee x)) 84) = W := ⟨_, rfl⟩
  have hB0 : Below w.heap.size w W0 := by rw [← hW0]; exact (Below.refl _ _).alloc (Nat.le_refl _) _
  have r0 : W0.heap[w.heap.size]? = some (.cells (cel (sCommittee x)) 84) := by rw [← hW0]; exact heap_new rfl
  have z0 : w.heap.size < W0.heap.size := by rw [← hW0]; simp
  obtain ⟨y, ey⟩ : ∃ y, w.heap.size = y := ⟨_, rfl⟩
  have hry : ∀ X, Below W0.heap.size W0 X → X.heap[y]? = some (.cells (cel (sCommittee x)) 84) := fun X h => by rw [← ey]; exact (h.block _ z0).trans r0
  have HL0 : Hid (∀ X, Below W0.heap.size W0 X → (lvKeys ⟨y, 0, none⟩).run Tryd.prog X = .ok (.agg (cel (sKeys x.f0))) X) := fun X h => lvKeys_mid (hry X h) 0 rfl rfl
  have HB1 : Hid (∀ X, Below W0.heap.size W0 X → Bys X (some ⟨y, 384, none⟩) 48 48 x.f1) := fun X h => seg_bys (hry X h) 1 48 x.f1 rfl 384 rfl (by omega)
  have hdr : Below W0.heap.size W0 W0.drew := (Below.refl _ _).drew
  have S0 := hid hdr
  have HB0w := hid hB0
  have EY := hid ey
  clear hdr hB0 r0 hry hx
  go_enter Tryd.func40, Tryd.ntmps40
  go_upto_region 1 with fail
  clear hW0 ey z0
  refine wp_region_noPanic ?_
  refine wp_region_held_drew (S := fun X => Below W0.heap.size W0 X) (by kernel_rfl) (S0.out) (fun hHeld => ?_)
  refine wpAnyH_take (i := 0) (v := ?v365) rfl (by kernel_rfl) (by kernel_rfl) (by kernel_rfl) (fun _ _ _ h => h) (Or.inl ⟨by rfl, ?hy365⟩) hHeld ?rest365
  case hy365 =>
    intro w hSw
    go_simp
    try with_reducible rfl
  try simp only [Act.put, List.setIfInBounds_toArray, List.set_cons_zero, List.set_cons_succ, Array.toArray_toList, List.getElem_toArray, List.getElem_cons_zero, List.getElem_cons_succ]
  refine wpAnyH_take (i := 1) (v := ?v366) rfl (by kernel_rfl) (by kernel_rfl) (by kernel_rfl) (fun _ _ _ h => h) (Or.inl ⟨by rfl, ?hy366⟩) hHeld ?rest366
  case hy366 =>
    intro w hSw
    have ld := HL0.out _ hSw
    go_simp
    try with_reducible rfl
  try simp only [Act.put, List.setIfInBounds_toArray, List.set_cons_zero, List.set_cons_succ, Array.toArray_toList, List.getElem_toArray, List.getElem_cons_zero, List.getElem_cons_succ]
  refine wpAnyH_take (i := 3) (v := ?v367) rfl (by kernel_rfl) (by kernel_rfl) (by kernel_rfl) (fun _ _ _ h => h) (Or.inl ⟨by rfl, ?hy367⟩) hHeld ?rest367
  case hy367 =>
    intro w hSw
    go_simp
    try with_reducible rfl
  try simp only [Act.put, List.setIfInBounds_toArray, List.set_cons_zero, List.set_cons_succ, Array.toArray_toList, List.getElem_toArray, List.getElem_cons_zero, List.getElem_cons_succ]
  refine wpAnyH_take (i := 4) (v := ?v368) rfl (by kernel_rfl) (by kernel_rfl) (by kernel_rfl) (fun _ _ _ h => h) (Or.inl ⟨by rfl, ?hy368⟩) hHeld ?rest368
  case hy368 =>
    intro w hSw
    go_simp
    try with_reducible rfl
  try simp only [Act.put, List.setIfInBounds_toArray, List.set_cons_zero, List.set_cons_succ, Array.toArray_toList, List.getElem_toArray, List.getElem_cons_zero, List.getElem_cons_succ]
  refine wpAnyH_ready (rs := [2]) (by kernel_rfl) (by simp) ?_
  refine AllReadyH.cons rfl (fun K hK => ?_) AllReadyH.nil
  go_simp
  refine (encKeys_any x.f0 _ HX.out.1).mono ?_
  rintro e X1 ⟨v1, rfl, ho1, hb1⟩
  dsimp only
  have S1 := hid (S0.out.trans (hb1.mono S0.out.size))
  obtain ⟨a1, c1, rfl, hr1⟩ := own_at ho1
  have R0 := hid (show ∀ X, Below X1.heap.size X1 X → Bys X a1 384 c1 (ct7 (eKeys x.f0)) from fun X h => hr1.below h)
  clear hb1 hr1 ho1
  refine hK.out _ _ (S1.out) (fun hHeld => ?_)
  clear hK K
  try simp only [Act.put, List.setIfInBounds_toArray, List.set_cons_zero, List.set_cons_succ, Array.toArray_toList, List.getElem_toArray, List.getElem_cons_zero, List.getElem_cons_succ]
  have bs : (bsP 2 #[(0, Value.slice a1 384 c1), (1, Value.slice (some ⟨y, 384, none⟩) 48 48)]).run Tryd.prog X1 = .ok (.slice (some ⟨X1.heap.size, 0, none⟩) 2 2) (X1.alloc (.cells (([(a1, 384, c1, ct7 (eKeys x.f0)), (some ⟨y, 384, none⟩, 48, 48, x.f1)] : List Pt).map ptv).toArray 31)) := bsP_2 X1 (a1, 384, c1, ct7 (eKeys x.f0)) (some ⟨y, 384, none⟩, 48, 48, x.f1)
  have hBn : Below X1.heap.size X1 (X1.alloc (.cells (([(a1, 384, c1, ct7 (eKeys x.f0)), (some ⟨y, 384, none⟩, 48, 48, x.f1)] : List Pt).map ptv).toArray 31)) := (Below.refl _ _).alloc (Nat.le_refl _) _
  have hla := lay7 ([(a1, 384, c1, ct7 (eKeys x.f0)), (some ⟨y, 384, none⟩, 48, 48, x.f1)] : List Pt) X1.heap.size (X1.alloc (.cells (([(a1, 384, c1, ct7 (eKeys x.f0)), (some ⟨y, 384, none⟩, 48, 48, x.f1)] : List Pt).map ptv).toArray 31)) (heap_new rfl) (fun r hr => by
    have hr' : r < 2 := hr
    rcases (by omega : r = 0 ∨ r = 1) with rfl | rfl
    · exact R0.out _ hBn
    · exact HB1.out _ (S1.out.trans (hBn.mono S1.out.size))
  ) (fun r hr => by
    have hr' : r < 2 := hr
    rcases (by omega : r = 0 ∨ r = 1) with rfl | rfl
    all_goals exact ⟨Nat.le_of_ble_eq_true rfl, Nat.le_of_ble_eq_true rfl⟩) (Nat.le_of_ble_eq_true rfl) (Nat.le_of_ble_eq_true rfl)
  have HLA := hid hla
  have HBN := hid hBn
  clear hla hBn
  refine wpAnyH_ready (rs := [5]) (by kernel_rfl) (by simp) ?_
  refine AllReadyH.cons rfl (fun K hK => ?_) AllReadyH.nil
  go_simp
  refine hK.out _ _ (S1.out.trans (HBN.out.mono S1.out.size)) (fun hHeld => ?_)
  clear hK K bs
  try simp only [Act.put, List.setIfInBounds_toArray, List.set_cons_zero, List.set_cons_succ, Array.toArray_toList, List.getElem_toArray, List.getElem_cons_zero, List.getElem_cons_succ]
  refine wpAnyH_ready (rs := [6]) (by kernel_rfl) (by simp) ?_
  refine AllReadyH.cons rfl (fun K hK => ?_) AllReadyH.nil
  go_simp
  refine (HLA.out).mono ?_
  rintro e Y ⟨v, rfl, ho, hbY⟩
  dsimp only
  refine hK.out _ _ (S1.out.trans ((HBN.out.mono S1.out.size).trans (hbY.mono (by have := S1.out.size; have := HBN.out.size; omega)))) (fun hHeld => ?_)
  clear hK K
  try simp only [Act.put, List.setIfInBounds_toArray, List.set_cons_zero, List.set_cons_succ, Array.toArray_toList, List.getElem_toArray, List.getElem_cons_zero, List.getElem_cons_succ]
  refine wpAnyH_take (i := 7) (v := ?v369) rfl (by kernel_rfl) (by kernel_rfl) (by kernel_rfl) (fun _ _ _ h => h) (Or.inl ⟨by rfl, ?hy369⟩) hHeld ?rest369
  case hy369 =>
    intro w hSw
    go_simp
    try with_reducible rfl
  try simp only [Act.put, List.setIfInBounds_toArray, List.set_cons_zero, List.set_cons_succ, Array.toArray_toList, List.getElem_toArray, List.getElem_cons_zero, List.getElem_cons_succ]
  refine wpAnyH_done (by kernel_rfl) ?_ _
  refine NoPanic.normal ?_
  go_wp2
  go_ret
  have e0 := EY.out
  have e1 := HB0w.out.size
  have e2 := S1.out.size
  have e3 := HBN.out.size
  exact ⟨v, rfl, (ho.mono (by omega) : _), HB0w.out.trans ((S1.out.mono (by omega)).trans ((HBN.out.mono (by omega)).trans (hbY.mono (by omega))))⟩

set_option maxRecDepth 20000 in
set_option maxHeartbeats 2000000 in
theorem rootCommittee_any (x : VCommittee) (w : World) (hx : OkCommittee x) (hS : Sh w) :
    Calls Tryd.prog 41 #[.agg (cel (sCommittee x))] w fun e w' => e = .returned (.agg (vs .u8 32 (hCommittee x))) ∧ Below w.heap.size w w' := by
  have z := zero_root
  obtain ⟨W1, hW1⟩ : ∃ W, w.alloc (.cells (cel (sCommittee x)) 84) = W := ⟨_, rfl⟩
  obtain ⟨W0, hW0⟩ : ∃ W, W1.alloc (.cells (vs .u8 32 fun _ => 0) 24) = W := ⟨_, rfl⟩
  have hB1 : Below w.heap.size w W1 := by rw [← hW1]; exact (Below.refl _ _).alloc (Nat.le_refl _) _
  have z1 : W1.heap.size = w.heap.size + 1 := by rw [← hW1]; simp
  have z0 : W0.heap.size = w.heap.size + 2 := by rw [← hW0]; simp [z1]
  have hB0 : Below w.heap.size w W0 := by rw [← hW0]; exact hB1.alloc (by omega) _
  have r1 : W1.heap[w.heap.size]? = some (.cells (cel (sCommittee x)) 84) := by rw [← hW1]; exact heap_new rfl
  have r0 : W0.heap[w.heap.size]? = some (.cells (cel (sCommittee x)) 84) := by rw [← hW0]; exact (heap_old (by omega)).trans r1
  have rr : W0.heap[w.heap.size + 1]? = some (.cells (vs .u8 32 fun _ => 0) 24) := by rw [← hW0]; exact heap_new (by omega)
  obtain ⟨y, ey⟩ : ∃ y, w.heap.size = y := ⟨_, rfl⟩
  have hy1 : y + 1 ≤ W0.heap.size := by omega
  have hry : ∀ X, Below (y + 1) W0 X → X.heap[y]? = some (.cells (cel (sCommittee x)) 84) := fun X h => by rw [← ey]; exact (h.block _ (by omega)).trans r0
  have hrr : ∀ X, Below W0.heap.size W0 X → X.heap[y + 1]? = some (.cells (vs .u8 32 fun _ => 0) 24) := fun X h => by rw [← ey]; exact (h.block _ (by omega)).trans rr
  have hSh : ∀ X, Below W0.heap.size W0 X → Sh X := fun X h => (hS.below hB0).below h
  have hc0 : ∀ X, Below W0.heap.size W0 X → Calls Tryd.prog 73 #[.agg (cel (sKeys x.f0))] X fun e w' => e = .returned (.agg (vs .u8 32 (hKeys x.f0))) ∧ Below X.heap.size X w' := fun X h => rootKeys_any x.f0 X hx.1 (hSh X h)
  have hd0 : ∀ j, j < 32 → 0 ≤ (hKeys x.f0) j ∧ (hKeys x.f0) j < 256 := fun j hj => hKeys_bd hx.1 j hj
  have HL0 : Hid (∀ X, Below (y + 1) W0 X → (lvKeys ⟨y, 0, none⟩).run Tryd.prog X = .ok (.agg (cel (sKeys x.f0))) X) := fun X h => lvKeys_mid (hry X h) 0 rfl rfl
  have hc1 : ∀ X, Below W0.heap.size W0 X → Calls Tryd.prog 52 #[.slice (some ⟨y, 384, none⟩) 48 48] X fun e w' => e = .returned (.agg (vs .u8 32 (bR x.f1 48))) ∧ Below X.heap.size X w' := fun X h => broot_any _ 48 48 x.f1 X (seg_bys (hry X (h.mono hy1)) 1 48 x.f1 rfl 384 rfl (by omega)) (by omega) hx.2 (hSh X h)
  have hd1 : ∀ j, j < 32 → 0 ≤ (bR x.f1 48) j ∧ (bR x.f1 48) j < 256 := fun j hj => treeV_bd (pk_bd hx.2 _) _ j hj
  have eh : hCommittee x = treeV (fl7 [hKeys x.f0, bR x.f1 48]) 2 (2 : Nat) := rfl
  obtain ⟨C0, eC0⟩ : ∃ C, hKeys x.f0 = C := ⟨_, rfl⟩
  rw [eC0] at hc0 hd0 eh
  obtain ⟨C1, eC1⟩ : ∃ C, bR x.f1 48 = C := ⟨_, rfl⟩
  rw [eC1] at hc1 hd1 eh
  have hro : ∀ X g, Below W0.heap.size W0 X → X.heap[g]? = some (.cells (vs .u8 64 (fl7 [C0, C1])) 24) → Calls Tryd.prog 50 #[.slice (some ⟨g, 0, none⟩) 2 2] X fun e w' => e = .returned (.agg (vs .u8 32 (hCommittee x))) ∧ Below X.heap.size X w' := fun X g h h2 => by
    rw [eh]
    exact rootof_any (some ⟨g, 0, none⟩) 2 2 (fl7 [C0, C1]) X (rts_row (n := 2) h2) (by omega) (fl7_bd (fun c hc => by
      simp only [List.mem_cons, List.not_mem_nil, or_false] at hc
      rcases hc with rfl | rfl
      · exact hd0
      · exact hd1
      ) _) (hSh X h)
  obtain ⟨D, eD⟩ : ∃ D, hCommittee x = D := ⟨_, rfl⟩
  rw [eD] at hro ⊢
  have HC0 := hid hc0
  have HC1 := hid hc1
  have HRO := hid hro
  have HRR := hid hrr
  have hdr : Below W0.heap.size W0 W0.drew := (Below.refl _ _).drew
  have S0 := hid hdr
  have HB0w := hid hB0
  have EY := hid ey
  have Z0 := hid z0
  have HY1 := hid hy1
  clear hy1 hdr hB0 r0 r1 rr hry hrr hx hro hSh hS hB1 hc0 hd0 eC0 hc1 hd1 eC1 eh eD
  go_enter Tryd.func41, Tryd.ntmps41
  go_upto_region 1 with fail
  clear hW0 hW1 ey z0 z1 z
  refine wp_region_noPanic ?_
  refine wp_region_held_drew (S := fun X => Below (y + 1) W0 X) (by kernel_rfl) (S0.out.mono HY1.out) (fun hHeld => ?_)
  refine wpAnyH_take (i := 0) (v := ?v370) rfl (by kernel_rfl) (by kernel_rfl) (by kernel_rfl) (fun _ _ _ h => h) (Or.inl ⟨by rfl, ?hy370⟩) hHeld ?rest370
  case hy370 =>
    intro w hSw
    go_simp
    try with_reducible rfl
  try simp only [Act.put, List.setIfInBounds_toArray, List.set_cons_zero, List.set_cons_succ, Array.toArray_toList, List.getElem_toArray, List.getElem_cons_zero, List.getElem_cons_succ]
  refine wpAnyH_take (i := 1) (v := ?v371) rfl (by kernel_rfl) (by kernel_rfl) (by kernel_rfl) (fun _ _ _ h => h) (Or.inl ⟨by rfl, ?hy371⟩) hHeld ?rest371
  case hy371 =>
    intro w hSw
    have ld := HL0.out _ hSw
    go_simp
    try with_reducible rfl
  try simp only [Act.put, List.setIfInBounds_toArray, List.set_cons_zero, List.set_cons_succ, Array.toArray_toList, List.getElem_toArray, List.getElem_cons_zero, List.getElem_cons_succ]
  refine wpAnyH_take (i := 3) (v := ?v372) rfl (by kernel_rfl) (by kernel_rfl) (by kernel_rfl) (fun _ _ _ h => h) (Or.inl ⟨by rfl, ?hy372⟩) hHeld ?rest372
  case hy372 =>
    intro w hSw
    go_simp
    try with_reducible rfl
  try simp only [Act.put, List.setIfInBounds_toArray, List.set_cons_zero, List.set_cons_succ, Array.toArray_toList, List.getElem_toArray, List.getElem_cons_zero, List.getElem_cons_succ]
  refine wpAnyH_take (i := 4) (v := ?v373) rfl (by kernel_rfl) (by kernel_rfl) (by kernel_rfl) (fun _ _ _ h => h) (Or.inl ⟨by rfl, ?hy373⟩) hHeld ?rest373
  case hy373 =>
    intro w hSw
    go_simp
    try with_reducible rfl
  try simp only [Act.put, List.setIfInBounds_toArray, List.set_cons_zero, List.set_cons_succ, Array.toArray_toList, List.getElem_toArray, List.getElem_cons_zero, List.getElem_cons_succ]
  refine wpAnyH_ready (rs := [2]) (by kernel_rfl) (by simp) ?_
  refine AllReadyH.cons rfl (fun K hK => ?_) AllReadyH.nil
  go_simp
  refine (HC0.out _ S0.out).mono ?_
  rintro e X1 ⟨rfl, hb1⟩
  dsimp only
  have S1 := hid (S0.out.trans (hb1.mono S0.out.size))
  clear hb1
  refine hK.out _ _ (S1.out.mono HY1.out) (fun hHeld => ?_)
  clear hK K
  try simp only [Act.put, List.setIfInBounds_toArray, List.set_cons_zero, List.set_cons_succ, Array.toArray_toList, List.getElem_toArray, List.getElem_cons_zero, List.getElem_cons_succ]
  refine wpAnyH_ready (rs := [5]) (by kernel_rfl) (by simp) ?_
  refine AllReadyH.cons rfl (fun K hK => ?_) AllReadyH.nil
  go_simp
  refine (HC1.out _ S1.out).mono ?_
  rintro e X2 ⟨rfl, hb2⟩
  dsimp only
  have S2 := hid (S1.out.trans (hb2.mono S1.out.size))
  clear hb2
  refine hK.out _ _ (S2.out.mono HY1.out) (fun hHeld => ?_)
  clear hK K
  try simp only [Act.put, List.setIfInBounds_toArray, List.set_cons_zero, List.set_cons_succ, Array.toArray_toList, List.getElem_toArray, List.getElem_cons_zero, List.getElem_cons_succ]
  have bs := bs22_2 X2 C0 C1
  have hBn : Below X2.heap.size X2 (X2.alloc (.cells (vs .u8 64 (fl7 [C0, C1])) 24)) := (Below.refl _ _).alloc (Nat.le_refl _) _
  have HBN := hid (S2.out.trans (hBn.mono S2.out.size))
  have HLA := hid (HRO.out (X2.alloc (.cells (vs .u8 64 (fl7 [C0, C1])) 24)) X2.heap.size HBN.out (heap_new rfl))
  clear hBn
  refine wpAnyH_ready (rs := [6]) (by kernel_rfl) (by simp) ?_
  refine AllReadyH.cons rfl (fun K hK => ?_) AllReadyH.nil
  go_simp
  refine hK.out _ _ (HBN.out.mono HY1.out) (fun hHeld => ?_)
  clear hK K bs
  try simp only [Act.put, List.setIfInBounds_toArray, List.set_cons_zero, List.set_cons_succ, Array.toArray_toList, List.getElem_toArray, List.getElem_cons_zero, List.getElem_cons_succ]
  refine wpAnyH_ready (rs := [7]) (by kernel_rfl) (by simp) ?_
  refine AllReadyH.cons rfl (fun K hK => ?_) AllReadyH.nil
  go_simp
  refine (HLA.out).mono ?_
  rintro e Y ⟨rfl, hbY⟩
  dsimp only
  have HY := hid (HBN.out.trans (hbY.mono HBN.out.size))
  clear hbY
  refine hK.out _ _ (HY.out.mono HY1.out) (fun hHeld => ?_)
  clear hK K
  try simp only [Act.put, List.setIfInBounds_toArray, List.set_cons_zero, List.set_cons_succ, Array.toArray_toList, List.getElem_toArray, List.getElem_cons_zero, List.getElem_cons_succ]
  have rY := HRR.out _ HY.out
  have s1 := sv24_run rY D
  have RY := hid rY
  clear rY
  refine wpAnyH_ready (rs := [8]) (by kernel_rfl) (by simp) ?_
  refine AllReadyH.cons rfl (fun K hK => ?_) AllReadyH.nil
  go_simp
  refine hK.out _ _ (below_row (HY.out.mono HY1.out) (Nat.le_refl _) _) (fun hHeld => ?_)
  clear hK K s1
  try simp only [Act.put, List.setIfInBounds_toArray, List.set_cons_zero, List.set_cons_succ, Array.toArray_toList, List.getElem_toArray, List.getElem_cons_zero, List.getElem_cons_succ]
  refine wpAnyH_done (by kernel_rfl) ?_ _
  refine NoPanic.normal ?_
  go_wp2
  refine ret24 _ (y + 1) _ 24 rfl rfl rfl (setRow_at RY.out) ⟨rfl, ?_⟩
  have e0 := EY.out
  have e1 := Z0.out
  exact below_row (HB0w.out.trans (HY.out.mono (by omega))) (by omega) _

end Go.Proofs.YtaodonmbanpieabDoor
