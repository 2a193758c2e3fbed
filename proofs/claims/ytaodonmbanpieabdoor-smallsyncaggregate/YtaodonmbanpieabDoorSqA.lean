/-
  SyncAggregate: its values, what Enc and Root answer, and the reference.
-/
import Derived.Test.YtaodonmbanpieabDoorCoC
import Derived.Test.YtaodonmbanpieabDoorBzA
namespace Go.Proofs.YtaodonmbanpieabDoor
open Go.RowKit
set_option linter.unusedVariables false
set_option linter.unusedSimpArgs false

/-- The byte of eight bits. -/
def vb (f : Nat → Bool) (q : Nat) : Int := (Z.byt f 8 q : Int)
theorem vb_bd (f : Nat → Bool) (j : Nat) : 0 ≤ vb f j ∧ vb f j < 256 := by
  have := Z.byt_lt f 8 j
  unfold vb
  omega
structure VSyncAggregate where
  f0 : Nat → Bool
  f1 : Nat → Int
def sSyncAggregate (x : VSyncAggregate) : List Seg := [.bo (x.f0 0), .bo (x.f0 1), .bo (x.f0 2), .bo (x.f0 3), .bo (x.f0 4), .bo (x.f0 5), .bo (x.f0 6), .bo (x.f0 7), .by 96 x.f1]
def OkSyncAggregate (x : VSyncAggregate) : Prop := True ∧ (∀ j, j < 96 → 0 ≤ x.f1 j ∧ x.f1 j < 256)
def eSyncAggregate (x : VSyncAggregate) : List (Nat × (Nat → Int)) := [(1, vb x.f0), (96, x.f1)]
theorem seg_bt {w : World} {g : Nat} {t : TypeId} {x : VSyncAggregate} {l : List Seg} (h : w.heap[g]? = some (.cells (cel l) t)) (hl : l = sSyncAggregate x) : Z.Bls w (some ⟨g, 0, none⟩) 8 8 x.f0 := by
  subst hl
  refine .inr (.inr ⟨g, 0, rfl, Nat.le_refl _, by omega, (Array.getElem?_eq_some_iff.1 h).1, fun j hj => ?_⟩)
  rw [Nat.zero_add, row_cell h]
  rcases (by omega : j = 0 ∨ j = 1 ∨ j = 2 ∨ j = 3 ∨ j = 4 ∨ j = 5 ∨ j = 6 ∨ j = 7) with rfl | rfl | rfl | rfl | rfl | rfl | rfl | rfl
  all_goals rfl
theorem vec8 (f : Nat → Bool) (a : Option Addr) (w : World) (h : Z.Bls w a 8 8 f) :
    Calls Tryd.prog 68 #[.slice a 8 8] w fun e w' => ∃ g, e = .returned (.slice (some ⟨g, 0, none⟩) 1 1) ∧ Below w.heap.size w w' ∧ Bys w' (some ⟨g, 0, none⟩) 1 1 (vb f) := by
  refine (Z.vector_any f a 8 8 w h (by omega)).mono ?_
  rintro e w' ⟨rfl, hr, hb, _⟩
  exact ⟨w.heap.size, rfl, hb, bys_new hr (by omega)⟩
theorem rvec8 (f : Nat → Bool) (a : Option Addr) (w : World) (h : Z.Bls w a 8 8 f) :
    Calls Tryd.prog 69 #[.slice a 8 8] w fun e w' => ∃ g, e = .returned (.slice (some ⟨g, 0, none⟩) 1 1) ∧ Below w.heap.size w w' ∧ Bys w' (some ⟨g, 0, none⟩) 1 1 (vb f) := by
  refine (Z.rvector_any f a 8 8 w h (by omega)).mono ?_
  rintro e w' ⟨rfl, hr, hb, _⟩
  exact ⟨w.heap.size, rfl, hb, bys_new hr (by omega)⟩
def lvSyncAggregate (a : Addr) : Sem Value := loadVar 74 a
theorem lvSyncAggregate_eq (a : Addr) : loadVar 74 a = lvSyncAggregate a := rfl
theorem lvSyncAggregate_mid {w : World} {g : Nat} {C : Array Value} {t : TypeId} {x : VSyncAggregate} (h : w.heap[g]? = some (.cells C t)) (o : Nat) (hl : (C.toList.drop o).take (celL (sSyncAggregate x)).length = celL (sSyncAggregate x)) (hs : slen (sSyncAggregate x) = 104) : (lvSyncAggregate ⟨g, o, none⟩).run Tryd.prog w = .ok (.agg (cel (sSyncAggregate x))) w :=
  loadAt_var (run_loadAt_mid w g o 74 _ _ (sub_range h hl) Tryd.underlying74 rfl (by rw [celL_len, hs]; kernel_rfl))
/-- The root of a value. -/
def hSyncAggregate (x : VSyncAggregate) : Nat → Int := treeV (fl7 [bR (vb x.f0) 1, bR x.f1 96]) 2 (2 : Nat)
/-- The value of nothing but zeros; the value that bytes are. -/
def oSyncAggregate : VSyncAggregate := ⟨fun _ => false, fun _ => 0⟩
def pSyncAggregate (m : Nat → Int) : VSyncAggregate := ⟨Z.tb (fun q => (m q).toNat), fun q => m (1 + q)⟩
def zSyncAggregate : Nat → Int := zl7 [1, 96]
theorem fixSyncAggregate : FixS zSyncAggregate 2 97 := ⟨by kernel_rfl, by kernel_rfl, by kernel_rfl, fun r hr => by
  rcases (by omega : r = 0 ∨ r = 1) with rfl | rfl
  all_goals (intro h; exact absurd h (by decide))⟩
theorem zposSyncAggregate (r : Nat) (hr : r < 2) : 0 < zSyncAggregate r := by
  rcases (by omega : r = 0 ∨ r = 1) with rfl | rfl
  all_goals decide
theorem bsI_SyncAggregate (W : World) : (bsI 2 #[(0, .int .i64 1), (1, .int .i64 96)]).run Tryd.prog W = .ok (.slice (some ⟨W.heap.size, 0, none⟩) 2 2) (W.alloc (.cells (vs .i64 2 zSyncAggregate) 3)) := by kernel_rfl
def svSyncAggregate (a : Addr) (v : Value) : Sem Unit := storeVar 74 a v
theorem svSyncAggregate_eq (a : Addr) (v : Value) : storeVar 74 a v = svSyncAggregate a v := rfl
def bdSyncAggregate (ps : Array (Nat × Value)) : Sem Value := Instr.build 74 ps
theorem bdSyncAggregate_eq (ps : Array (Nat × Value)) : Instr.build 74 ps = bdSyncAggregate ps := rfl
theorem bdSyncAggregate_0 (W : World) : (bdSyncAggregate #[]).run Tryd.prog W = .ok (.agg (cel (sSyncAggregate oSyncAggregate))) W := by kernel_rfl
theorem zeroSyncAggregate (W : World) : (zeroValue 74).run Tryd.prog W = .ok (.agg (cel (sSyncAggregate oSyncAggregate))) W := by kernel_rfl
theorem slSyncAggregate (x : VSyncAggregate) : slen (sSyncAggregate x) = 104 := rfl
theorem svSyncAggregate_run {w : World} {b : Nat} {o : VSyncAggregate} {t : TypeId} (h : w.heap[b]? = some (.cells (cel (sSyncAggregate o)) t)) (c : VSyncAggregate) : (svSyncAggregate ⟨b, 0, none⟩ (.agg (cel (sSyncAggregate c)))).run Tryd.prog w = .ok () (w.setRow b (cel (sSyncAggregate c))) :=
  run_storeVar_row w b t 74 _ _ h (by rw [cel_size, slSyncAggregate]; kernel_rfl) (by rw [cel_size, cel_size, slSyncAggregate, slSyncAggregate]) (cel_one _)
theorem svSyncAggregate_newv (W : World) (o c : VSyncAggregate) : (svSyncAggregate ⟨W.heap.size, 0, none⟩ (.agg (cel (sSyncAggregate c)))).run Tryd.prog (W.alloc (.cells (cel (sSyncAggregate o)) 74)) = .ok () (W.alloc (.cells (cel (sSyncAggregate c)) 74)) :=
  run_storeVar_new W 74 _ _ (by rw [cel_size, slSyncAggregate]; kernel_rfl) (by rw [cel_size, cel_size, slSyncAggregate, slSyncAggregate]) (cel_one _)
theorem retSyncAggregate {fn : Func} {R : Ending → World → Prop} {a : Act} {w' : World} (t s : Tmp) (b : Nat) (c : VSyncAggregate) (ty : TypeId) (v : Value) (h : fn.results = #[.cell t 74, .tmp s]) (hd : a.defers = []) (ht : a.tmps.getD t undef = .pointer (some ⟨b, 0, none⟩)) (hs : a.tmps.getD s undef = v) (hr : w'.heap[b]? = some (.cells (cel (sSyncAggregate c)) ty))
    (hR : R (.returned (.tuple #[.agg (cel (sSyncAggregate c)), v])) w') : bodyPost Tryd.prog fn R .ret a w' := by
  refine bodyPost_ret ?_ hd hR
  have hl := loadAt_var (load_row (P := Tryd.prog) hr 74 _ Tryd.underlying74 rfl (by rw [cel_size, slSyncAggregate]; kernel_rfl))
  rw [Array.getD_eq_getD_getElem?] at ht hs
  simp [results, h, ht, hs, hl, asAddr]

attribute [local go_sem ↓] sv24_eq lv24_eq ix22_eq slr_eq bd27_eq bs22_eq sv8_eq mkI_eq ixI_eq ixP_eq bsP_eq bsI_eq

set_option maxRecDepth 20000 in
set_option maxHeartbeats 2000000 in
theorem encSyncAggregate_any (x : VSyncAggregate) (w : World) (hx : OkSyncAggregate x) :
    Calls Tryd.prog 34 #[.agg (cel (sSyncAggregate x))] w fun e w' => ∃ v, e = .returned v ∧ w'.ownsRow w.heap.size 5 1 v 97 (bl (ct7 (eSyncAggregate x)) 97) ∧ Below w.heap.size w w' := by
  have HX := hid hx
  obtain ⟨W0, hW0⟩ : ∃ W, w.alloc (.cells (cel (sSyncAggregate x)) 74) = W := ⟨_, rfl⟩
  have hB0 : Below w.heap.size w W0 := by rw [← hW0]; exact (Below.refl _ _).alloc (Nat.le_refl _) _
  have r0 : W0.heap[w.heap.size]? = some (.cells (cel (sSyncAggregate x)) 74) := by rw [← hW0]; exact heap_new rfl
  have z0 : w.heap.size < W0.heap.size := by rw [← hW0]; simp
  obtain ⟨y, ey⟩ : ∃ y, w.heap.size = y := ⟨_, rfl⟩
  have hry : ∀ X, Below W0.heap.size W0 X → X.heap[y]? = some (.cells (cel (sSyncAggregate x)) 74) := fun X h => by rw [← ey]; exact (h.block _ z0).trans r0
  have HB0 : Hid (∀ X, Below W0.heap.size W0 X → Z.Bls X (some ⟨y, 0, none⟩) 8 8 x.f0) := fun X h => seg_bt (hry X h) rfl
  have HB1 : Hid (∀ X, Below W0.heap.size W0 X → Bys X (some ⟨y, 8, none⟩) 96 96 x.f1) := fun X h => seg_bys (hry X h) 8 96 x.f1 rfl 8 rfl (by omega)
  have hdr : Below W0.heap.size W0 W0.drew := (Below.refl _ _).drew
  have S0 := hid hdr
  have HB0w := hid hB0
  have EY := hid ey
  clear hdr hB0 r0 hry hx
  go_enter Tryd.func34, Tryd.ntmps34
  go_upto_region 1 with fail
  clear hW0 ey z0
  refine wp_region_noPanic ?_
  refine wp_region_held_drew (S := fun X => Below W0.heap.size W0 X) (by kernel_rfl) (S0.out) (fun hHeld => ?_)
  refine wpAnyH_take (i := 0) (v := ?v365) rfl (by kernel_rfl) (by kernel_rfl) (by kernel_rfl) (fun _ _ _ h => h) (Or.inl ⟨by rfl, ?hy365⟩) hHeld ?rest365
  case hy365 =>
    intro w hSw
    go_simp
    try with_reducible rfl
  try simp only [Act.put, List.setIfInBounds_toArray, List.set_cons_zero, List.set_cons_succ, Array.toArray_toList, List.getElem_toArray, List.getElem_cons_zero, List.getElem_cons_succ]
  refine wpAnyH_take (i := 1) (v := ?v366) rfl (by kernel_rfl) (by kernel_rfl) (by kernel_rfl) (fun _ _ _ h => h) (Or.inl ⟨by rfl, ?hy366⟩) hHeld ?rest366
  case hy366 =>
    intro w hSw
    go_simp
    try with_reducible rfl
  try simp only [Act.put, List.setIfInBounds_toArray, List.set_cons_zero, List.set_cons_succ, Array.toArray_toList, List.getElem_toArray, List.getElem_cons_zero, List.getElem_cons_succ]
  refine wpAnyH_take (i := 3) (v := ?v367) rfl (by kernel_rfl) (by kernel_rfl) (by kernel_rfl) (fun _ _ _ h => h) (Or.inl ⟨by rfl, ?hy367⟩) hHeld ?rest367
  case hy367 =>
    intro w hSw
    go_simp
    try with_reducible rfl
  try simp only [Act.put, List.setIfInBounds_toArray, List.set_cons_zero, List.set_cons_succ, Array.toArray_toList, List.getElem_toArray, List.getElem_cons_zero, List.getElem_cons_succ]
  refine wpAnyH_take (i := 4) (v := ?v368) rfl (by kernel_rfl) (by kernel_rfl) (by kernel_rfl) (fun _ _ _ h => h) (Or.inl ⟨by rfl, ?hy368⟩) hHeld ?rest368
  case hy368 =>
    intro w hSw
    go_simp
    try with_reducible rfl
  try simp only [Act.put, List.setIfInBounds_toArray, List.set_cons_zero, List.set_cons_succ, Array.toArray_toList, List.getElem_toArray, List.getElem_cons_zero, List.getElem_cons_succ]
  refine wpAnyH_ready (rs := [2]) (by kernel_rfl) (by simp) ?_
  refine AllReadyH.cons rfl (fun K hK => ?_) AllReadyH.nil
  go_simp
  refine (vec8 x.f0 _ _ (HB0.out _ S0.out)).mono ?_
  rintro e X1 ⟨g1, rfl, hb1, hr1⟩
  dsimp only
  have S1 := hid (S0.out.trans (hb1.mono S0.out.size))
  have R0 := hid (show ∀ X, Below X1.heap.size X1 X → Bys X (some ⟨g1, 0, none⟩) 1 1 (vb x.f0) from fun X h => hr1.below h)
  clear hb1 hr1
  refine hK.out _ _ (S1.out) (fun hHeld => ?_)
  clear hK K
  try simp only [Act.put, List.setIfInBounds_toArray, List.set_cons_zero, List.set_cons_succ, Array.toArray_toList, List.getElem_toArray, List.getElem_cons_zero, List.getElem_cons_succ]
  have bs : (bsP 2 #[(0, Value.slice (some ⟨g1, 0, none⟩) 1 1), (1, Value.slice (some ⟨y, 8, none⟩) 96 96)]).run Tryd.prog X1 = .ok (.slice (some ⟨X1.heap.size, 0, none⟩) 2 2) (X1.alloc (.cells (([(some ⟨g1, 0, none⟩, 1, 1, vb x.f0), (some ⟨y, 8, none⟩, 96, 96, x.f1)] : List Pt).map ptv).toArray 31)) := bsP_2 X1 (some ⟨g1, 0, none⟩, 1, 1, vb x.f0) (some ⟨y, 8, none⟩, 96, 96, x.f1)
  have hBn : Below X1.heap.size X1 (X1.alloc (.cells (([(some ⟨g1, 0, none⟩, 1, 1, vb x.f0), (some ⟨y, 8, none⟩, 96, 96, x.f1)] : List Pt).map ptv).toArray 31)) := (Below.refl _ _).alloc (Nat.le_refl _) _
  have hla := lay7 ([(some ⟨g1, 0, none⟩, 1, 1, vb x.f0), (some ⟨y, 8, none⟩, 96, 96, x.f1)] : List Pt) X1.heap.size (X1.alloc (.cells (([(some ⟨g1, 0, none⟩, 1, 1, vb x.f0), (some ⟨y, 8, none⟩, 96, 96, x.f1)] : List Pt).map ptv).toArray 31)) (heap_new rfl) (fun r hr => by
    have hr' : r < 2 := hr
    rcases (by omega : r = 0 ∨ r = 1) with rfl | rfl
    · exact R0.out _ hBn
    · exact HB1.out _ (S1.out.trans (hBn.mono S1.out.size))
  ) (fun r hr => by
    have hr' : r < 2 := hr
    rcases (by omega : r = 0 ∨ r = 1) with rfl | rfl
    all_goals exact ⟨Nat.le_of_ble_eq_true rfl, Nat.le_of_ble_eq_true rfl⟩) (Nat.le_of_ble_eq_true rfl) (Nat.le_of_ble_eq_true rfl)
  have HLA := hid hla
  have HBN := hid hBn
  clear hla hBn
  refine wpAnyH_ready (rs := [5]) (by kernel_rfl) (by simp) ?_
  refine AllReadyH.cons rfl (fun K hK => ?_) AllReadyH.nil
  go_simp
  refine hK.out _ _ (S1.out.trans (HBN.out.mono S1.out.size)) (fun hHeld => ?_)
  clear hK K bs
  try simp only [Act.put, List.setIfInBounds_toArray, List.set_cons_zero, List.set_cons_succ, Array.toArray_toList, List.getElem_toArray, List.getElem_cons_zero, List.getElem_cons_succ]
  refine wpAnyH_ready (rs := [6]) (by kernel_rfl) (by simp) ?_
  refine AllReadyH.cons rfl (fun K hK => ?_) AllReadyH.nil
  go_simp
  refine (HLA.out).mono ?_
  rintro e Y ⟨v, rfl, ho, hbY⟩
  dsimp only
  refine hK.out _ _ (S1.out.trans ((HBN.out.mono S1.out.size).trans (hbY.mono (by have := S1.out.size; have := HBN.out.size; omega)))) (fun hHeld => ?_)
  clear hK K
  try simp only [Act.put, List.setIfInBounds_toArray, List.set_cons_zero, List.set_cons_succ, Array.toArray_toList, List.getElem_toArray, List.getElem_cons_zero, List.getElem_cons_succ]
  refine wpAnyH_take (i := 7) (v := ?v369) rfl (by kernel_rfl) (by kernel_rfl) (by kernel_rfl) (fun _ _ _ h => h) (Or.inl ⟨by rfl, ?hy369⟩) hHeld ?rest369
  case hy369 =>
    intro w hSw
    go_simp
    try with_reducible rfl
  try simp only [Act.put, List.setIfInBounds_toArray, List.set_cons_zero, List.set_cons_succ, Array.toArray_toList, List.getElem_toArray, List.getElem_cons_zero, List.getElem_cons_succ]
  refine wpAnyH_done (by kernel_rfl) ?_ _
  refine NoPanic.normal ?_
  go_wp2
  go_ret
  have e0 := EY.out
  have e1 := HB0w.out.size
  have e2 := S1.out.size
  have e3 := HBN.out.size
  exact ⟨v, rfl, (ho.mono (by omega) : _), HB0w.out.trans ((S1.out.mono (by omega)).trans ((HBN.out.mono (by omega)).trans (hbY.mono (by omega))))⟩

set_option maxRecDepth 20000 in
set_option maxHeartbeats 2000000 in
theorem rootSyncAggregate_any (x : VSyncAggregate) (w : World) (hx : OkSyncAggregate x) (hS : Sh w) :
    Calls Tryd.prog 35 #[.agg (cel (sSyncAggregate x))] w fun e w' => e = .returned (.agg (vs .u8 32 (hSyncAggregate x))) ∧ Below w.heap.size w w' := by
  have z := zero_root
  obtain ⟨W1, hW1⟩ : ∃ W, w.alloc (.cells (cel (sSyncAggregate x)) 74) = W := ⟨_, rfl⟩
  obtain ⟨W0, hW0⟩ : ∃ W, W1.alloc (.cells (vs .u8 32 fun _ => 0) 24) = W := ⟨_, rfl⟩
  have hB1 : Below w.heap.size w W1 := by rw [← hW1]; exact (Below.refl _ _).alloc (Nat.le_refl _) _
  have z1 : W1.heap.size = w.heap.size + 1 := by rw [← hW1]; simp
  have z0 : W0.heap.size = w.heap.size + 2 := by rw [← hW0]; simp [z1]
  have hB0 : Below w.heap.size w W0 := by rw [← hW0]; exact hB1.alloc (by omega) _
  have r1 : W1.heap[w.heap.size]? = some (.cells (cel (sSyncAggregate x)) 74) := by rw [← hW1]; exact heap_new rfl
  have r0 : W0.heap[w.heap.size]? = some (.cells (cel (sSyncAggregate x)) 74) := by rw [← hW0]; exact (heap_old (by omega)).trans r1
  have rr : W0.heap[w.heap.size + 1]? = some (.cells (vs .u8 32 fun _ => 0) 24) := by rw [← hW0]; exact heap_new (by omega)
  obtain ⟨y, ey⟩ : ∃ y, w.heap.size = y := ⟨_, rfl⟩
  have hy1 : y + 1 ≤ W0.heap.size := by omega
  have hry : ∀ X, Below (y + 1) W0 X → X.heap[y]? = some (.cells (cel (sSyncAggregate x)) 74) := fun X h => by rw [← ey]; exact (h.block _ (by omega)).trans r0
  have hrr : ∀ X, Below W0.heap.size W0 X → X.heap[y + 1]? = some (.cells (vs .u8 32 fun _ => 0) 24) := fun X h => by rw [← ey]; exact (h.block _ (by omega)).trans rr
  have hSh : ∀ X, Below W0.heap.size W0 X → Sh X := fun X h => (hS.below hB0).below h
  have hc0 : ∀ X g, Below W0.heap.size W0 X → Bys X (some ⟨g, 0, none⟩) 1 1 (vb x.f0) → Calls Tryd.prog 52 #[.slice (some ⟨g, 0, none⟩) 1 1] X fun e w' => e = .returned (.agg (vs .u8 32 (bR (vb x.f0) 1))) ∧ Below X.heap.size X w' := fun X g h hb => broot_any _ 1 1 (vb x.f0) X hb (by omega) (fun j _ => vb_bd _ j) (hSh X h)
  have hd0 : ∀ j, j < 32 → 0 ≤ (bR (vb x.f0) 1) j ∧ (bR (vb x.f0) 1) j < 256 := fun j hj => treeV_bd (pk_bd (fun j _ => vb_bd _ j) _) _ j hj
  have HB0 : Hid (∀ X, Below (y + 1) W0 X → Z.Bls X (some ⟨y, 0, none⟩) 8 8 x.f0) := fun X h => seg_bt (hry X h) rfl
  have hc1 : ∀ X, Below W0.heap.size W0 X → Calls Tryd.prog 52 #[.slice (some ⟨y, 8, none⟩) 96 96] X fun e w' => e = .returned (.agg (vs .u8 32 (bR x.f1 96))) ∧ Below X.heap.size X w' := fun X h => broot_any _ 96 96 x.f1 X (seg_bys (hry X (h.mono hy1)) 8 96 x.f1 rfl 8 rfl (by omega)) (by omega) hx.2 (hSh X h)
  have hd1 : ∀ j, j < 32 → 0 ≤ (bR x.f1 96) j ∧ (bR x.f1 96) j < 256 := fun j hj => treeV_bd (pk_bd hx.2 _) _ j hj
  have eh : hSyncAggregate x = treeV (fl7 [bR (vb x.f0) 1, bR x.f1 96]) 2 (2 : Nat) := rfl
  obtain ⟨C0, eC0⟩ : ∃ C, bR (vb x.f0) 1 = C := ⟨_, rfl⟩
  rw [eC0] at hc0 hd0 eh
  obtain ⟨C1, eC1⟩ : ∃ C, bR x.f1 96 = C := ⟨_, rfl⟩
  rw [eC1] at hc1 hd1 eh
  have hro : ∀ X g, Below W0.heap.size W0 X → X.heap[g]? = some (.cells (vs .u8 64 (fl7 [C0, C1])) 24) → Calls Tryd.prog 50 #[.slice (some ⟨g, 0, none⟩) 2 2] X fun e w' => e = .returned (.agg (vs .u8 32 (hSyncAggregate x))) ∧ Below X.heap.size X w' := fun X g h h2 => by
    rw [eh]
    exact rootof_any (some ⟨g, 0, none⟩) 2 2 (fl7 [C0, C1]) X (rts_row (n := 2) h2) (by omega) (fl7_bd (fun c hc => by
      simp only [List.mem_cons, List.not_mem_nil, or_false] at hc
      rcases hc with rfl | rfl
      · exact hd0
      · exact hd1
      ) _) (hSh X h)
  obtain ⟨D, eD⟩ : ∃ D, hSyncAggregate x = D := ⟨_, rfl⟩
  rw [eD] at hro ⊢
  have HC0 := hid hc0
  have HC1 := hid hc1
  have HRO := hid hro
  have HRR := hid hrr
  have hdr : Below W0.heap.size W0 W0.drew := (Below.refl _ _).drew
  have S0 := hid hdr
  have HB0w := hid hB0
  have EY := hid ey
  have Z0 := hid z0
  have HY1 := hid hy1
  clear hy1 hdr hB0 r0 r1 rr hry hrr hx hro hSh hS hB1 hc0 hd0 eC0 hc1 hd1 eC1 eh eD
  go_enter Tryd.func35, Tryd.ntmps35
  go_upto_region 1 with fail
  clear hW0 hW1 ey z0 z1 z
  refine wp_region_noPanic ?_
  refine wp_region_held_drew (S := fun X => Below (y + 1) W0 X) (by kernel_rfl) (S0.out.mono HY1.out) (fun hHeld => ?_)
  refine wpAnyH_take (i := 0) (v := ?v370) rfl (by kernel_rfl) (by kernel_rfl) (by kernel_rfl) (fun _ _ _ h => h) (Or.inl ⟨by rfl, ?hy370⟩) hHeld ?rest370
  case hy370 =>
    intro w hSw
    go_simp
    try with_reducible rfl
  try simp only [Act.put, List.setIfInBounds_toArray, List.set_cons_zero, List.set_cons_succ, Array.toArray_toList, List.getElem_toArray, List.getElem_cons_zero, List.getElem_cons_succ]
  refine wpAnyH_take (i := 1) (v := ?v371) rfl (by kernel_rfl) (by kernel_rfl) (by kernel_rfl) (fun _ _ _ h => h) (Or.inl ⟨by rfl, ?hy371⟩) hHeld ?rest371
  case hy371 =>
    intro w hSw
    go_simp
    try with_reducible rfl
  try simp only [Act.put, List.setIfInBounds_toArray, List.set_cons_zero, List.set_cons_succ, Array.toArray_toList, List.getElem_toArray, List.getElem_cons_zero, List.getElem_cons_succ]
  refine wpAnyH_take (i := 4) (v := ?v372) rfl (by kernel_rfl) (by kernel_rfl) (by kernel_rfl) (fun _ _ _ h => h) (Or.inl ⟨by rfl, ?hy372⟩) hHeld ?rest372
  case hy372 =>
    intro w hSw
    go_simp
    try with_reducible rfl
  try simp only [Act.put, List.setIfInBounds_toArray, List.set_cons_zero, List.set_cons_succ, Array.toArray_toList, List.getElem_toArray, List.getElem_cons_zero, List.getElem_cons_succ]
  refine wpAnyH_take (i := 5) (v := ?v373) rfl (by kernel_rfl) (by kernel_rfl) (by kernel_rfl) (fun _ _ _ h => h) (Or.inl ⟨by rfl, ?hy373⟩) hHeld ?rest373
  case hy373 =>
    intro w hSw
    go_simp
    try with_reducible rfl
  try simp only [Act.put, List.setIfInBounds_toArray, List.set_cons_zero, List.set_cons_succ, Array.toArray_toList, List.getElem_toArray, List.getElem_cons_zero, List.getElem_cons_succ]
  refine wpAnyH_ready (rs := [2]) (by kernel_rfl) (by simp) ?_
  refine AllReadyH.cons rfl (fun K hK => ?_) AllReadyH.nil
  go_simp
  refine (vec8 x.f0 _ _ (HB0.out _ (S0.out.mono HY1.out))).mono ?_
  rintro e X1 ⟨g1, rfl, hb1, hr1⟩
  dsimp only
  have S1 := hid (S0.out.trans (hb1.mono S0.out.size))
  have R0 := hid (HC0.out X1 g1 S1.out hr1)
  clear hb1 hr1
  refine hK.out _ _ (S1.out.mono HY1.out) (fun hHeld => ?_)
  clear hK K
  try simp only [Act.put, List.setIfInBounds_toArray, List.set_cons_zero, List.set_cons_succ, Array.toArray_toList, List.getElem_toArray, List.getElem_cons_zero, List.getElem_cons_succ]
  refine wpAnyH_ready (rs := [3]) (by kernel_rfl) (by simp) ?_
  refine AllReadyH.cons rfl (fun K hK => ?_) AllReadyH.nil
  go_simp
  refine (R0.out).mono ?_
  rintro e X2 ⟨rfl, hb2⟩
  dsimp only
  have S2 := hid (S1.out.trans (hb2.mono S1.out.size))
  clear hb2
  refine hK.out _ _ (S2.out.mono HY1.out) (fun hHeld => ?_)
  clear hK K
  try simp only [Act.put, List.setIfInBounds_toArray, List.set_cons_zero, List.set_cons_succ, Array.toArray_toList, List.getElem_toArray, List.getElem_cons_zero, List.getElem_cons_succ]
  refine wpAnyH_ready (rs := [6]) (by kernel_rfl) (by simp) ?_
  refine AllReadyH.cons rfl (fun K hK => ?_) AllReadyH.nil
  go_simp
  refine (HC1.out _ S2.out).mono ?_
  rintro e X3 ⟨rfl, hb3⟩
  dsimp only
  have S3 := hid (S2.out.trans (hb3.mono S2.out.size))
  clear hb3
  refine hK.out _ _ (S3.out.mono HY1.out) (fun hHeld => ?_)
  clear hK K
  try simp only [Act.put, List.setIfInBounds_toArray, List.set_cons_zero, List.set_cons_succ, Array.toArray_toList, List.getElem_toArray, List.getElem_cons_zero, List.getElem_cons_succ]
  have bs := bs22_2 X3 C0 C1
  have hBn : Below X3.heap.size X3 (X3.alloc (.cells (vs .u8 64 (fl7 [C0, C1])) 24)) := (Below.refl _ _).alloc (Nat.le_refl _) _
  have HBN := hid (S3.out.trans (hBn.mono S3.out.size))
  have HLA := hid (HRO.out (X3.alloc (.cells (vs .u8 64 (fl7 [C0, C1])) 24)) X3.heap.size HBN.out (heap_new rfl))
  clear hBn
  refine wpAnyH_ready (rs := [7]) (by kernel_rfl) (by simp) ?_
  refine AllReadyH.cons rfl (fun K hK => ?_) AllReadyH.nil
  go_simp
  refine hK.out _ _ (HBN.out.mono HY1.out) (fun hHeld => ?_)
  clear hK K bs
  try simp only [Act.put, List.setIfInBounds_toArray, List.set_cons_zero, List.set_cons_succ, Array.toArray_toList, List.getElem_toArray, List.getElem_cons_zero, List.getElem_cons_succ]
  refine wpAnyH_ready (rs := [8]) (by kernel_rfl) (by simp) ?_
  refine AllReadyH.cons rfl (fun K hK => ?_) AllReadyH.nil
  go_simp
  refine (HLA.out).mono ?_
  rintro e Y ⟨rfl, hbY⟩
  dsimp only
  have HY := hid (HBN.out.trans (hbY.mono HBN.out.size))
  clear hbY
  refine hK.out _ _ (HY.out.mono HY1.out) (fun hHeld => ?_)
  clear hK K
  try simp only [Act.put, List.setIfInBounds_toArray, List.set_cons_zero, List.set_cons_succ, Array.toArray_toList, List.getElem_toArray, List.getElem_cons_zero, List.getElem_cons_succ]
  have rY := HRR.out _ HY.out
  have s1 := sv24_run rY D
  have RY := hid rY
  clear rY
  refine wpAnyH_ready (rs := [9]) (by kernel_rfl) (by simp) ?_
  refine AllReadyH.cons rfl (fun K hK => ?_) AllReadyH.nil
  go_simp
  refine hK.out _ _ (below_row (HY.out.mono HY1.out) (Nat.le_refl _) _) (fun hHeld => ?_)
  clear hK K s1
  try simp only [Act.put, List.setIfInBounds_toArray, List.set_cons_zero, List.set_cons_succ, Array.toArray_toList, List.getElem_toArray, List.getElem_cons_zero, List.getElem_cons_succ]
  refine wpAnyH_done (by kernel_rfl) ?_ _
  refine NoPanic.normal ?_
  go_wp2
  refine ret24 _ (y + 1) _ 24 rfl rfl rfl (setRow_at RY.out) ⟨rfl, ?_⟩
  have e0 := EY.out
  have e1 := Z0.out
  exact below_row (HB0w.out.trans (HY.out.mono (by omega))) (by omega) _

set_option maxRecDepth 20000 in
set_option maxHeartbeats 2000000 in
theorem rencSyncAggregate_any (x : VSyncAggregate) (w : World) (hx : OkSyncAggregate x) :
    Calls Tryd.prog 36 #[.agg (cel (sSyncAggregate x))] w fun e w' => ∃ v, e = .returned (.tuple #[v, .int .i64 0]) ∧ w'.ownsRow w.heap.size 5 1 v 97 (bl (ct7 (eSyncAggregate x)) 97) ∧ Below w.heap.size w w' := by
  have HX := hid hx
  obtain ⟨W0, hW0⟩ : ∃ W, w.alloc (.cells (cel (sSyncAggregate x)) 74) = W := ⟨_, rfl⟩
  have hB0 : Below w.heap.size w W0 := by rw [← hW0]; exact (Below.refl _ _).alloc (Nat.le_refl _) _
  have r0 : W0.heap[w.heap.size]? = some (.cells (cel (sSyncAggregate x)) 74) := by rw [← hW0]; exact heap_new rfl
  have z0 : w.heap.size < W0.heap.size := by rw [← hW0]; simp
  obtain ⟨y, ey⟩ : ∃ y, w.heap.size = y := ⟨_, rfl⟩
  have hry : ∀ X, Below W0.heap.size W0 X → X.heap[y]? = some (.cells (cel (sSyncAggregate x)) 74) := fun X h => by rw [← ey]; exact (h.block _ z0).trans r0
  have HB0 : Hid (∀ X, Below W0.heap.size W0 X → Z.Bls X (some ⟨y, 0, none⟩) 8 8 x.f0) := fun X h => seg_bt (hry X h) rfl
  have HB1 : Hid (∀ X, Below W0.heap.size W0 X → Bys X (some ⟨y, 8, none⟩) 96 96 x.f1) := fun X h => seg_bys (hry X h) 8 96 x.f1 rfl 8 rfl (by omega)
  have S0 := hid (Below.refl W0.heap.size W0)
  have HB0w := hid hB0
  have EY := hid ey
  clear hB0 r0 hry hx
  go_enter Tryd.func36, Tryd.ntmps36
  go_upto_region 4 with fail
  clear hW0 ey z0
  go_upto_region 5 with (go_at_call 69; refine (rvec8 x.f0 _ _ (HB0.out _ S0.out)).mono ?_; rintro e X1 ⟨gb1, rfl, hb1, hr1⟩)
  have S1 := hid (S0.out.trans (hb1.mono S0.out.size))
  have R0 := hid (show ∀ X, Below X1.heap.size X1 X → Bys X (some ⟨gb1, 0, none⟩) 1 1 (vb x.f0) from fun X h => hr1.below h)
  clear hb1 hr1
  go_upto_region 6 with (at_builtin; refine wpList_append_bys _ rfl _ _ rfl X1.heap.size _ 0 [] rfl (World.ownsRow_made _ #[] 0 (Nat.le_refl _) (Nat.zero_le _) rfl) _ 96 96 x.f1 rfl (HB1.out _ (S1.out.alloc S1.out.size _)) (by omega) (by simp) ?_; intro v2 X2 ho2 hg2; rw [Nat.zero_add, List.nil_append] at ho2)
  have hb2 := below_grown ((Below.refl X1.heap.size X1).alloc (Nat.le_refl _) (.cells #[] 5)) (World.ownsRow_made _ #[] 0 (Nat.le_refl _) (Nat.zero_le _) rfl) (by simp) hg2
  obtain ⟨a2, c2, rfl, hr2⟩ := own_at ho2
  clear hg2 ho2
  have S2 := hid (S1.out.trans (hb2.mono S1.out.size))
  have K1 := hid (show Below X1.heap.size X1 X2 from hb2)
  have R1 := hid (show ∀ X, Below X2.heap.size X2 X → Bys X a2 96 c2 (x.f1) from fun X h => hr2.below h)
  clear hb2 hr2
  obtain ⟨ps, eps⟩ : ∃ ps : List Pt, ([(some ⟨gb1, 0, none⟩, 1, 1, vb x.f0), (a2, 96, c2, x.f1)] : List Pt) = ps := ⟨_, rfl⟩
  obtain ⟨Y1, hY1⟩ : ∃ Y, X2.alloc (.cells (ps.map ptv).toArray 31) = Y := ⟨_, rfl⟩
  obtain ⟨Y2, hY2⟩ : ∃ Y, Y1.alloc (.cells (vs .i64 2 zSyncAggregate) 3) = Y := ⟨_, rfl⟩
  have hy1 : Below X2.heap.size X2 Y1 := by rw [← hY1]; exact (Below.refl _ _).alloc (Nat.le_refl _) _
  have hy2 : Below X2.heap.size X2 Y2 := by rw [← hY2]; exact hy1.alloc hy1.size _
  have g1 : Y2.heap[X2.heap.size]? = some (.cells (ps.map ptv).toArray 31) := by
    rw [← hY2, ← hY1]
    exact (heap_old (by simp)).trans (heap_new rfl)
  have g2 : Y2.heap[Y1.heap.size]? = some (.cells (vs .i64 2 zSyncAggregate) 3) := by rw [← hY2]; exact heap_new rfl
  have bs1 := bsP_2 X2 (some ⟨gb1, 0, none⟩, 1, 1, vb x.f0) (a2, 96, c2, x.f1)
  have bs2 := bsI_SyncAggregate Y1
  have hla := rlay7 ps zSyncAggregate 2 X2.heap.size Y1.heap.size Y2 (by rw [← eps]; rfl) g1 g2 (fun r hr => by
    rw [← eps]
    rcases (by omega : r = 0 ∨ r = 1) with rfl | rfl
    · exact R0.out _ (K1.out.trans (hy2.mono K1.out.size))
    · exact R1.out _ hy2
    ) (fun r hr => by
    rw [← eps]
    rcases (by omega : r = 0 ∨ r = 1) with rfl | rfl
    all_goals exact ⟨rfl, Nat.le_of_ble_eq_true rfl, Nat.le_of_ble_eq_true rfl⟩) (by omega) (by omega) (by rw [← eps]; exact Nat.le_of_ble_eq_true rfl)
  have e1 : ln7 (ps.map ptb) = 97 := by rw [← eps]; rfl
  have e2 : ct7 (ps.map ptb) = ct7 (eSyncAggregate x) := by rw [← eps]; rfl
  rw [e1, e2] at hla
  rw [eps, hY1] at bs1
  rw [hY2] at bs2
  obtain ⟨u1, eu1⟩ : ∃ u, X2.heap.size = u := ⟨_, rfl⟩
  obtain ⟨u2, eu2⟩ : ∃ u, Y1.heap.size = u := ⟨_, rfl⟩
  rw [eu1] at bs1 hla
  rw [eu2] at bs2 hla
  replace bs1 : (bsP 2 #[(0, Value.slice (some ⟨gb1, 0, none⟩) 1 1), (1, Value.slice a2 96 c2)]).run Tryd.prog X2 = .ok (.slice (some ⟨u1, 0, none⟩) 2 2) Y1 := bs1
  have HLA := hid hla
  have HY2 := hid hy2
  clear hla hy1 hy2 g1 g2 e1 e2 eps hY1 hY2 eu1 eu2
  go_wp2_with (go_at_call 54; refine HLA.out.mono ?_; rintro e Y ⟨v, rfl, ho, hbY⟩)
  go_ret2
  have e0 := EY.out
  have e1 := HB0w.out.size
  have e2 := S2.out.size
  have e3 := HY2.out.size
  exact ⟨v, rfl, (ho.mono (by omega) : _), HB0w.out.trans ((S2.out.mono (by omega)).trans ((HY2.out.mono (by omega)).trans (hbY.mono (by omega))))⟩

set_option maxRecDepth 20000 in
set_option maxHeartbeats 2000000 in
theorem rrootSyncAggregate_any (x : VSyncAggregate) (w : World) (hx : OkSyncAggregate x) (hC : Rc w) :
    Calls Tryd.prog 37 #[.agg (cel (sSyncAggregate x))] w fun e w' => e = .returned (.tuple #[.agg (vs .u8 32 (hSyncAggregate x)), .int .i64 0]) ∧ Below w.heap.size w w' := by
  have z := zero_root
  have zc : ∀ W : World, (zeroValue 109).run Tryd.prog W = .ok (.agg (vs .u8 64 (fl7 [fun _ => 0, fun _ => 0]))) W := (zero_of_info (n := 64) (by kernel_rfl)).1
  obtain ⟨y, ey⟩ : ∃ y, w.heap.size = y := ⟨_, rfl⟩
  obtain ⟨W1, hW1⟩ : ∃ W, w.alloc (.cells (cel (sSyncAggregate x)) 74) = W := ⟨_, rfl⟩
  obtain ⟨W2, hW2⟩ : ∃ W, W1.alloc (.cells (vs .u8 32 fun _ => 0) 24) = W := ⟨_, rfl⟩
  obtain ⟨V0, hV0⟩ : ∃ W, W2.alloc (.cells (vs .u8 64 (fl7 [fun _ => 0, fun _ => 0])) 109) = W := ⟨_, rfl⟩
  have z1 : W1.heap.size = y + 1 := by rw [← hW1, ← ey]; simp
  have z2 : W2.heap.size = y + 2 := by rw [← hW2]; simp [z1]
  have z3 : V0.heap.size = y + 3 := by rw [← hV0]; simp [z2]
  have hB0 : Below w.heap.size w V0 := by rw [← hV0, ← hW2, ← hW1]; exact (((Below.refl _ _).alloc (Nat.le_refl _) _).alloc (by simp) _).alloc (by simp; omega) _
  have r1 : V0.heap[y]? = some (.cells (cel (sSyncAggregate x)) 74) := by rw [← hV0]; refine (heap_old (by omega)).trans ?_; rw [← hW2]; refine (heap_old (by omega)).trans ?_; rw [← hW1]; exact heap_new ey.symm
  have r2 : V0.heap[y + 1]? = some (.cells (vs .u8 32 fun _ => 0) 24) := by rw [← hV0]; refine (heap_old (by omega)).trans ?_; rw [← hW2]; exact heap_new z1.symm
  have r3 : V0.heap[y + 2]? = some (.cells (vs .u8 (32 * 2) (fl7 [fun _ => 0, fun _ => 0])) 109) := by rw [← hV0]; exact heap_new z2.symm
  have hry : ∀ X, Below (y + 2) V0 X → X.heap[y]? = some (.cells (cel (sSyncAggregate x)) 74) := fun X h => (h.block _ (by omega)).trans r1
  have hrr : ∀ X, Below (y + 2) V0 X → X.heap[y + 1]? = some (.cells (vs .u8 32 fun _ => 0) 24) := fun X h => (h.block _ (by omega)).trans r2
  have hRc : ∀ X, Below (y + 2) V0 X → Rc X := fun X h => hC.below (hB0.trans (h.mono (by omega)))
  have hc0 : ∀ X a c, Below (y + 2) V0 X → Bys X a 1 c (vb x.f0) → Calls Tryd.prog 65 #[.slice a 1 c] X fun e w' => e = .returned (.agg (vs .u8 32 (bR (vb x.f0) 1))) ∧ Below X.heap.size X w' := fun X a c h hb => chunk7 a 1 c (vb x.f0) X (hRc X h) hb (by omega) (by omega) (fun j _ => vb_bd _ j)
  have HB0 : Hid (∀ X, Below (y + 2) V0 X → Z.Bls X (some ⟨y, 0, none⟩) 8 8 x.f0) := fun X h => seg_bt (hry X h) rfl
  have hd0 : ∀ j, j < 32 → 0 ≤ (bR (vb x.f0) 1) j ∧ (bR (vb x.f0) 1) j < 256 := fun j hj => treeV_bd (pk_bd (fun j _ => vb_bd _ j) _) _ j hj
  have hk1 : ∀ X, Below (y + 2) V0 X → Calls Tryd.prog 57 #[.slice (some ⟨y, 8, none⟩) 96 96] X fun e w' => ∃ a' cap', e = .returned (.slice a' 3 cap') ∧ Below X.heap.size X w' ∧ Rts w' a' 3 cap' (pk x.f1 96) := fun X h => rpack_any _ 96 96 x.f1 X (seg_bys (hry X h) 8 96 x.f1 rfl 8 rfl (by omega)) (by omega)
  have hc1 : ∀ X a c, Below (y + 2) V0 X → Rts X a 3 c (pk x.f1 96) → Calls Tryd.prog 56 #[.slice a 3 c, .int .i64 3] X fun e w' => e = .returned (.agg (vs .u8 32 (bR x.f1 96))) ∧ Below X.heap.size X w' := fun X a c h hr => must7 a 3 c (pk x.f1 96) 3 X (hRc X h) hr (rts_cap hr (by omega)) (pk_bd hx.2 _) (by decide) (by decide) (by decide)
  have hd1 : ∀ j, j < 32 → 0 ≤ (bR x.f1 96) j ∧ (bR x.f1 96) j < 256 := fun j hj => treeV_bd (pk_bd hx.2 _) _ j hj
  have eh : ∀ j, j < 32 → treeV (fl7 [bR (vb x.f0) 1, bR x.f1 96]) 2 (2 : Nat) j = hSyncAggregate x j := fun j hj => treeV_congr (fun q hq => by
    unfold fl7
    have hq5 := Nat.mod_lt q (show 0 < 32 by omega)
    rcases (by omega : q / 32 = 0 ∨ q / 32 = 1) with e | e
    · first | (rw [e]; done) | (rw [e]; rfl)
    · first | (rw [e]; done) | (rw [e]; rfl)
    ) _ j hj
  obtain ⟨C0, eC0⟩ : ∃ C, bR (vb x.f0) 1 = C := ⟨_, rfl⟩
  rw [eC0] at hd0 hc0
  simp only [eC0] at eh
  have HC0 := hid hc0
  obtain ⟨C1, eC1⟩ : ∃ C, bR x.f1 96 = C := ⟨_, rfl⟩
  rw [eC1] at hd1 hc1
  simp only [eC1] at eh
  have HC1 := hid hc1
  have HK1 := hid hk1
  have hmu : ∀ X, Below (y + 2) V0 X → X.heap[y + 2]? = some (.cells (vs .u8 (32 * 2) (fl7 [C0, C1])) 109) → Calls Tryd.prog 56 #[.slice (some ⟨y + 2, 0, none⟩) 2 2, .int .i64 2] X fun e w' => e = .returned (.agg (vs .u8 32 (hSyncAggregate x))) ∧ Below X.heap.size X w' := fun X h h2 => by
    have := must7 (some ⟨y + 2, 0, none⟩) 2 2 (fl7 [C0, C1]) (2 : Nat) X (hRc X h) (rts_row h2) (by omega) (fl7_bd (fun c hc => by
      simp only [List.mem_cons, List.not_mem_nil, or_false] at hc
      rcases hc with rfl | rfl
      · exact hd0
      · exact hd1
      ) _) (by decide) (by decide) (by decide)
    rw [vs_congr (fun j hj => eh j hj)] at this
    exact this
  obtain ⟨D, eD⟩ : ∃ D, hSyncAggregate x = D := ⟨_, rfl⟩
  rw [eD] at hmu ⊢
  obtain ⟨u, eu⟩ : ∃ u, y + 2 = u := ⟨_, rfl⟩
  rw [eu] at hmu
  have HU := hid eu
  have HMU := hid hmu
  have HRR := hid hrr
  have HB0w := hid hB0
  have EY := hid ey
  have Z3 := hid z3
  have HX := hid hx
  have RV0 := hid r3
  have SV0 := hid (Below.refl (y + 2) V0)
  rw [eu] at RV0
  clear hmu hrr hB0 z3 r1 r2 r3 hry hRc hx hC eh eD hd0 eC0 hc0 hd1 eC1 hc1 hk1
  go_enter Tryd.func37, Tryd.ntmps37
  go_upto_region 3 with fail
  clear hW1 hW2 hV0 z1 z2 ey z zc
  try rw [eu]
  clear eu
  go_upto_region 4 with (first
    | (go_at_call 69; refine (rvec8 x.f0 _ _ (HB0.out _ SV0.out)).mono ?_; rintro e Y ⟨g, rfl, hb, hr⟩; have SY := hid (SV0.out.trans (hb.mono (by have h1 := HU.out; have h2 := Z3.out; have h3 := SV0.out.size; omega))); have RY := hid ((hb.block _ (Array.getElem?_eq_some_iff.1 RV0.out).1).trans RV0.out); have CY := hid (HC0.out _ _ _ SY.out hr); clear hr hb)
    | (go_at_call 65; refine CY.out.mono ?_; rintro e X0 ⟨rfl, hb⟩; have sb := SY.out.trans (hb.mono (by have h1 := HU.out; have h2 := Z3.out; have h3 := SY.out.size; omega)); have rb := (hb.block _ (Array.getElem?_eq_some_iff.1 RY.out).1).trans RY.out; obtain ⟨sv, nr, nb⟩ := put7 (l := [fun _ => 0, fun _ => 0]) (n := 2) sb (by rw [← HU.out]; exact Nat.le_refl _) rb 0 C0 (by omega) rfl; have NR := hid nr; have NB := hid nb; clear nr nb sb rb hb))
  clear CY
  obtain ⟨V1, hV⟩ : ∃ V, X0.setCells u 0 (bl C0 32) = V := ⟨_, rfl⟩
  have RV1 : Hid (V1.heap[u]? = some (.cells (vs .u8 (32 * 2) (fl7 [C0, fun _ => 0])) 109)) := by rw [← hV]; exact NR.out
  have SV1 : Hid (Below (y + 2) V0 V1) := by rw [← hV]; exact NB.out
  rw [hV]
  clear hV NR NB sv
  go_upto_region 5 with (first
    | (go_at_call 57; refine (HK1.out _ SV1.out).mono ?_; rintro e Y ⟨a, c, rfl, hb, hr⟩; have SY := hid (SV1.out.trans (hb.mono (by have h1 := HU.out; have h2 := Z3.out; have h3 := SV1.out.size; omega))); have RY := hid ((hb.block _ (Array.getElem?_eq_some_iff.1 RV1.out).1).trans RV1.out); have CY := hid (HC1.out _ _ _ SY.out hr); clear hr hb)
    | (go_at_call 56; refine CY.out.mono ?_; rintro e X1 ⟨rfl, hb⟩; have sb := SY.out.trans (hb.mono (by have h1 := HU.out; have h2 := Z3.out; have h3 := SY.out.size; omega)); have rb := (hb.block _ (Array.getElem?_eq_some_iff.1 RY.out).1).trans RY.out; obtain ⟨sv, nr, nb⟩ := put7 (l := [C0, fun _ => 0]) (n := 2) sb (by rw [← HU.out]; exact Nat.le_refl _) rb 1 C1 (by omega) rfl; have NR := hid nr; have NB := hid nb; clear nr nb sb rb hb))
  clear CY
  obtain ⟨V2, hV⟩ : ∃ V, X1.setCells u 32 (bl C1 32) = V := ⟨_, rfl⟩
  have RV2 : Hid (V2.heap[u]? = some (.cells (vs .u8 (32 * 2) (fl7 [C0, C1])) 109)) := by rw [← hV]; exact NR.out
  have SV2 : Hid (Below (y + 2) V0 V2) := by rw [← hV]; exact NB.out
  rw [hV]
  clear hV NR NB sv
  have HM := hid (HMU.out _ (by have := SV2.out; rw [HU.out] at this; exact this) RV2.out)
  go_wp2_with (go_at_call 56; refine HM.out.mono ?_; rintro e Y ⟨rfl, hb⟩; have sy := SV2.out.trans (hb.mono (by have h1 := HU.out; have h2 := Z3.out; have h3 := SV2.out.size; omega)); have rY := HRR.out _ sy; have s1 := sv24_run rY D; have RY := hid rY; have SY := hid sy; clear rY sy hb)
  refine ret24s _ _ (y + 1) _ 24 _ rfl rfl rfl rfl (setRow_at RY.out) ⟨rfl, ?_⟩
  have e0 := EY.out
  exact below_row (HB0w.out.trans (SY.out.mono (by omega))) (by omega) _

end Go.Proofs.YtaodonmbanpieabDoor
