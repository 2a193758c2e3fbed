/-
  What lowest makes; what Zero and Tree answer.
-/
import Derived.Test.YtjimdkpppgjokaaDoorMkF
namespace Go.Proofs.YtjimdkpppgjokaaDoor
open Go.RowKit
set_option linter.unusedVariables false
set_option linter.unusedSimpArgs false

/-- A row's block read and written whole. -/
def lv48 (a : Addr) : Sem Value := loadVar 68 a
def sv48 (a : Addr) (v : Value) : Sem Unit := storeVar 68 a v
theorem lv48_eq (a : Addr) : loadVar 68 a = lv48 a := rfl
theorem sv48_eq (a : Addr) (v : Value) : storeVar 68 a v = sv48 a v := rfl
theorem zero_row : ∀ w : World, (zeroValue 68).run Tryd.prog w = .ok (.agg (rwA (.slice none 0 0) 0 (fun _ => 0) 0)) w := (zero_of_info (n := 35) (by kernel_rfl)).1
theorem rwA_one (a : Option Addr) (len cap : Nat) (d : Int) (z : Nat → Int) (zd : Int) : (rwA (.slice a len cap) d z zd).all (·.oneCell') = true := by
  unfold rwA
  rw [Array.all_append, Array.all_append, vs_one]
  simp [Value.oneCell']
theorem sv48_new (W : World) (a a' : Option Addr) (len cap len' cap' : Nat) (d d' zd zd' : Int) (z z' : Nat → Int) : (sv48 ⟨W.heap.size, 0, none⟩ (.agg (rwA (.slice a len cap) d z zd))).run Tryd.prog (W.alloc (.cells (rwA (.slice a' len' cap') d' z' zd') 68)) = .ok () (W.alloc (.cells (rwA (.slice a len cap) d z zd) 68)) :=
  run_storeVar_new W 68 _ _ (by rw [rwA_size]; kernel_rfl) (by rw [rwA_size, rwA_size]) (rwA_one _ _ _ _ _ _)
theorem sv48_run {w : World} {b : Nat} {C : Array Value} {t : TypeId} (h : w.heap[b]? = some (.cells C t)) (hC : C.size = 35) (a : Option Addr) (len cap : Nat) (d : Int) (z : Nat → Int) (zd : Int) : (sv48 ⟨b, 0, none⟩ (.agg (rwA (.slice a len cap) d z zd))).run Tryd.prog w = .ok () (w.setRow b (rwA (.slice a len cap) d z zd)) :=
  run_storeVar_row w b t 68 _ _ h (by rw [rwA_size]; kernel_rfl) (by rw [rwA_size, hC]) (rwA_one _ _ _ _ _ _)
theorem lv48_load {w : World} {b : Nat} {v : Value} {d zd : Int} {z : Nat → Int} {t : TypeId} (h : w.heap[b]? = some (.cells (rwA v d z zd) t)) : (Instr.loadAt 68 (.pointer (some ⟨b, 0, none⟩))).run Tryd.prog w = .ok (.agg (rwA v d z zd)) w :=
  load_row h 68 _ Tryd.underlying68 rfl (by rw [rwA_size]; kernel_rfl)

/-- Values built, whole. -/
def bd48 (ps : Array (Nat × Value)) : Sem Value := Instr.build 68 ps
theorem bd48_eq (ps : Array (Nat × Value)) : Instr.build 68 ps = bd48 ps := rfl
theorem bd48_0 (W : World) (a : Option Addr) (len cap : Nat) : (bd48 #[(0, .slice a len cap)]).run Tryd.prog W = .ok (.agg (rwA (.slice a len cap) 0 (fun _ => 0) 0)) W := by kernel_rfl
theorem bd48_1 (W : World) (d : Int) : (bd48 #[(1, .int .i64 d)]).run Tryd.prog W = .ok (.agg (rwA (.slice none 0 0) d (fun _ => 0) 0)) W := by kernel_rfl
def bd27 (ps : Array (Nat × Value)) : Sem Value := Instr.build 33 ps
theorem bd27_eq (ps : Array (Nat × Value)) : Instr.build 33 ps = bd27 ps := rfl
theorem bd27_0 (W : World) : (bd27 #[]).run Tryd.prog W = .ok (.agg (vs .u8 32 fun _ => 0)) W := by kernel_rfl
def bs22 (n : Nat) (ps : Array (Nat × Value)) : Sem Value := Instr.buildSlice 26 n ps
theorem bs22_eq (n : Nat) (ps : Array (Nat × Value)) : Instr.buildSlice 26 n ps = bs22 n ps := rfl
theorem bs22_1 (W : World) (c : Nat → Int) : (bs22 1 #[(0, .agg (vs .u8 32 c))]).run Tryd.prog W = .ok (.slice (some ⟨W.heap.size, 0, none⟩) 1 1) (W.alloc (.cells (vs .u8 32 c) 33)) := by kernel_rfl
theorem sv24_newv (W : World) (o c : Nat → Int) : (sv24 ⟨W.heap.size, 0, none⟩ (.agg (vs .u8 32 c))).run Tryd.prog (W.alloc (.cells (vs .u8 32 o) 33)) = .ok () (W.alloc (.cells (vs .u8 32 c) 33)) :=
  run_storeVar_new W 33 _ _ (by rw [vs_size]; kernel_rfl) (by rw [vs_size, vs_size]) (vs_one _ _ _)
theorem zero_root : ∀ w : World, (zeroValue 33).run Tryd.prog w = .ok (.agg (vs .u8 32 fun _ => 0)) w := (zero_of_info (n := 32) (by kernel_rfl)).1

attribute [local go_sem ↓] sv24_eq lv24_eq ix22_eq slr_eq lv48_eq sv48_eq bd48_eq bd27_eq bs22_eq

theorem RowR.setRow {w : World} {B g k : Nat} {a : Option Addr} {len cap : Nat} {f : Nat → Int} (h : RowR w B g a len cap f) (hk : k < B) (c : Array Value) : RowR (w.setRow k c) B g a len cap f := by
  rcases h with ⟨hc, h | ⟨b, C, h1, h2, h3, h4, h5, h6⟩⟩
  · exact ⟨hc, .inl h⟩
  · exact ⟨hc, .inr ⟨b, C, h1, h2, h3, (setRow_other w k b c (by omega)).trans h4, h5, h6⟩⟩

set_option maxRecDepth 20000 in
set_option maxHeartbeats 1000000 in
theorem lowest_any (a : Option Addr) (len cap : Nat) (f : Nat → Int) (w : World) (hr : Rts w a len cap f) (hl : 32 * len ≤ 140737488355328) :
    Calls Tryd.prog 35 #[.slice a len cap] w fun e w' => ∃ a' cap', e = .returned (.agg (rwA (.slice a' len cap') 0 (zr 0) 0)) ∧ Below w.heap.size w w' ∧ RowR w' w.heap.size w'.heap.size a' len cap' f := by
  have HR := hid hr
  have z := zero_row
  clear hr
  go_enter Tryd.func35, Tryd.ntmps35
  go_upto_region 1 with fail
  obtain ⟨W0, hW0⟩ : ∃ W, w.alloc (.cells (rwA (.slice none 0 0) 0 (fun _ => 0) 0) 68) = W := ⟨_, rfl⟩
  rw [hW0]
  have hB0 : Below w.heap.size w W0 := by rw [← hW0]; exact (Below.refl _ _).alloc (Nat.le_refl _) _
  have r0 : W0.heap[w.heap.size]? = some (.cells (rwA (.slice none 0 0) 0 (fun _ => 0) 0) 68) := by rw [← hW0]; exact heap_new rfl
  have z0 : w.heap.size < W0.heap.size := by rw [← hW0]; simp
  have hc := rclone_any a len cap f W0 (HR.out.below hB0) hl
  have HC := hid hc
  have HB := hid hB0
  have R0 := hid r0
  clear hc hB0 r0 hW0
  have b0 := fun W a' cap' => bd48_0 W a' len cap'
  go_wp2_with (go_at_call 28; refine HC.out.mono ?_; rintro e w1 ⟨a', cap', rfl, hb1, hrow⟩; have s1 := sv48_run ((hb1.block _ z0).trans R0.out) (rwA_size _ _ _ _) a' len cap' 0 (fun _ => 0) 0)
  have z1 := hb1.size
  refine bodyPost_ret (results_cell (by rfl) _ _ w.heap.size _ (by rfl) (lv48_load (setRow_at ((hb1.block _ z0).trans R0.out)))) (by rfl) ?_
  refine ⟨a', cap', rfl, below_row (HB.out.trans (hb1.mono (by omega))) (Nat.le_refl _) _, ?_⟩
  have hs : (w1.setRow w.heap.size (rwA (.slice a' len cap') 0 (fun _ => 0) 0)).heap.size = w1.heap.size := by simp
  rw [hs]
  exact (hrow.setRow z0 _).down (by omega)

/-- The nodes of a level in a row. -/
def ndf (f : Nat → Int) (len k : Nat) (q : Nat) : Int := nd f len k (q / 32) (q % 32)
theorem ndf_get (f : Nat → Int) (len k i j : Nat) (hj : j < 32) : gt32 (ndf f len k) (up len k) k i j = nd f len k i j := by
  unfold gt32
  by_cases h : i < up len k
  · rw [if_pos h]
    unfold rt32 ndf
    rw [show (32 * i + j) / 32 = i by omega, show (32 * i + j) % 32 = j by omega]
  · rw [if_neg h, nd_zero f len k i (by omega)]
theorem ndf_up (f : Nat → Int) (len k q : Nat) : upf (ndf f len k) (up len k) k q = ndf f len (k + 1) q := by
  unfold upf
  exact tw_congr (fun j hj => ndf_get f len k _ j hj) (fun j hj => ndf_get f len k _ j hj) _ (by omega)
theorem ndf_zero (f : Nat → Int) (len q : Nat) (hq : q < 32 * len) : f q = ndf f len 0 q := by
  unfold ndf nd
  rw [if_pos (by omega)]
  unfold rt32
  rw [show 32 * (q / 32) + q % 32 = q by omega]
theorem ndf_bd {f : Nat → Int} {len : Nat} (hf : ByB f (32 * len)) (k n : Nat) : ByB (ndf f len k) n := fun q _ => nd_bd hf k _ _ (by omega)

theorem ret24s {fn : Func} {R : Ending → World → Prop} {a : Act} {w' : World} (t s : Tmp) (b : Nat) (c : Nat → Int) (ty : TypeId) (v : Value) (h : fn.results = #[.cell t 33, .tmp s]) (hd : a.defers = []) (ht : a.tmps.getD t undef = .pointer (some ⟨b, 0, none⟩)) (hs : a.tmps.getD s undef = v) (hr : w'.heap[b]? = some (.cells (vs .u8 32 c) ty))
    (hR : R (.returned (.tuple #[.agg (vs .u8 32 c), v])) w') : bodyPost Tryd.prog fn R .ret a w' := by
  refine bodyPost_ret ?_ hd hR
  have hl := loadAt_var (load_row (P := Tryd.prog) hr 33 _ Tryd.underlying33 rfl (by rw [vs_size]; kernel_rfl))
  rw [Array.getD_eq_getD_getElem?] at ht hs
  simp [results, h, ht, hs, hl, asAddr]

/-- Zero's answer: the root and the error. -/
def zeroV (d : Int) : Nat → Int := if 0 ≤ d ∧ d ≤ 40 then zr d.toNat else fun _ => 0
def zeroE (d : Int) : Int := if 0 ≤ d ∧ d ≤ 40 then 0 else 1

end Go.Proofs.YtjimdkpppgjokaaDoor
