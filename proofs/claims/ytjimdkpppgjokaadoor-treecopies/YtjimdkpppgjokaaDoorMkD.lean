/-
  What a row tells at any place; slices of roots; rows of the call's own.
-/
import Derived.Test.YtjimdkpppgjokaaDoorMkC
namespace Go.Proofs.YtjimdkpppgjokaaDoor
open Go.RowKit
set_option linter.unusedVariables false
set_option linter.unusedSimpArgs false

attribute [local go_sem ↓] sv24_eq lv24_eq ix22_eq

set_option maxRecDepth 20000 in
set_option maxHeartbeats 1000000 in
theorem at_in (g : Nat) (a : Option Addr) (len cap i : Nat) (d zd : Int) (z f : Nat → Int) (w : World) (hg : w.heap[g]? = some (.cells (rwA (.slice a len cap) d z zd) 68)) (hr : Rts w a len cap f) (hi : i < len) (hm : i ≤ 9223372036854775807) :
    Calls Tryd.prog 38 #[.pointer (some ⟨g, 0, none⟩), .int .i64 i] w fun e w' => e = .returned (.agg (vs .u8 32 (rt32 f i))) ∧ Below w.heap.size w w' := by
  obtain ⟨b, o, hb, hx, hc⟩ := hr.at i hi
  have hgl : g < w.heap.size := (Array.getElem?_eq_some_iff.1 hg).1
  have c0 := row_cell hg 0
  rw [rwA_0] at c0
  have hbt : decide (i < len) = true := by simp; omega
  have HG := hid hg
  have HC := hid hc
  clear hg hc hr
  go_enter Tryd.func38, Tryd.ntmps38
  go_upto_region 2 with fail
  change Code.wp _ _ _ _ (w.alloc (.cells (vs .u8 32 fun _ => 0) 33))
  obtain ⟨W, hW⟩ : ∃ W, w.alloc (.cells (vs .u8 32 fun _ => 0) 33) = W := ⟨_, rfl⟩
  have hB : Below w.heap.size w W := by rw [← hW]; exact (Below.refl _ _).alloc (Nat.le_refl _) _
  have r0 : W.heap[w.heap.size]? = some (.cells (vs .u8 32 fun _ => 0) 33) := by rw [← hW]; exact heap_new rfl
  rw [hW]
  have c1 : W.cell? ⟨g, 0, none⟩ = some (.slice a len cap) := (below_cell hB hgl).trans c0
  have l2 := lv24_mid (w := W) (b := b) (o := o) (c := rt32 f i) (fun j hj => (below_cell hB hb).trans (HC.out j hj))
  have s2 := sv24_run r0 (rt32 f i)
  have HB := hid hB
  have R0 := hid r0
  clear hB r0 hW c0
  go_wp2
  refine ret24 4 w.heap.size _ 33 rfl rfl rfl (setRow_at R0.out) ⟨rfl, ?_⟩
  exact below_row HB.out (Nat.le_refl _) _

/-- The root at a place of a row. -/
def gt32 (f : Nat → Int) (len d i : Nat) : Nat → Int := if i < len then rt32 f i else zr d
theorem gt32_bd {f : Nat → Int} {len : Nat} (hf : ByB f (32 * len)) (d i : Nat) : ∀ j, j < 32 → 0 ≤ gt32 f len d i j ∧ gt32 f len d i j < 256 := by
  intro j hj
  unfold gt32
  by_cases h : i < len
  · rw [if_pos h]; exact hf _ (by omega)
  · rw [if_neg h]; exact zr_bd _ _

theorem at_any (g : Nat) (a : Option Addr) (len cap d zd i : Nat) (f : Nat → Int) (w : World) (hS : Sh w) (hg : w.heap[g]? = some (.cells (rwA (.slice a len cap) d (zr zd) zd) 68)) (h0 : 0 ≠ g) (h1 : 1 ≠ g)
    (hr : Rts w a len cap f) (hm : i ≤ 9223372036854775807) (hz : zd ≤ d) (hd : d ≤ 1000) :
    Calls Tryd.prog 38 #[.pointer (some ⟨g, 0, none⟩), .int .i64 i] w fun e w' => e = .returned (.agg (vs .u8 32 (gt32 f len d i))) ∧ Kept g w w' ∧ ∃ z, z ≤ d ∧ w'.heap[g]? = some (.cells (rwA (.slice a len cap) d (zr z) z) 68) := by
  by_cases hi : i < len
  · refine (at_in g a len cap i d zd (zr zd) f w hg hr hi hm).mono ?_
    rintro e w' ⟨rfl, hb⟩
    refine ⟨by unfold gt32; rw [if_pos hi], Kept.ofBelow hb, zd, hz, (hb.block g (Array.getElem?_eq_some_iff.1 hg).1).trans hg⟩
  · refine (at_out g a len cap d zd i w hS hg h0 h1 (by omega) hm hz hd).mono ?_
    rintro e w' ⟨rfl, hk, hg'⟩
    exact ⟨by unfold gt32; rw [if_neg hi], hk, d, Nat.le_refl _, hg'⟩

/-- Slices of roots, whole. -/
def slr (x : Value) (lo hi : Option Value) : Sem Value := Instr.sliceAt 26 x lo hi none
theorem slr_eq (x : Value) (lo hi : Option Value) : Instr.sliceAt 26 x lo hi none = slr x lo hi := rfl
def ofs (a : Option Addr) (cap lo : Nat) : Option Addr := if cap = lo then a else a.map (·.add (lo * 32))
theorem slr_run (W : World) (ao : Option Addr) (len cap lo hi : Nat) (l h : Option Value) (hl : l = some (.int .i64 lo) ∨ l = none ∧ lo = 0) (hh : h = some (.int .i64 hi) ∨ h = none ∧ hi = len) (h1 : lo ≤ hi) (h2 : hi ≤ len) (h3 : len ≤ cap) :
    (slr (.slice ao len cap) l h).run Tryd.prog W = .ok (.slice (ofs ao cap lo) (hi - lo) (cap - lo)) W := by
  have b1 : ∀ (k n : Nat) (c : BoundsCode), k ≤ n → (Instr.sliceBound (.int .i64 (k : Int)) n c).run Tryd.prog W = .ok k W := by
    intro k n c hk
    have h0 : (k : Int) ≤ (n : Int) := by omega
    simp [Instr.sliceBound, asIntOf, h0]
  have c1 := fun c => b1 lo hi c h1
  have c2 := fun c => b1 hi cap c (by omega)
  unfold slr Instr.sliceAt ofs
  rcases hl with rfl | ⟨rfl, rfl⟩ <;> rcases hh with rfl | ⟨rfl, rfl⟩ <;>
    simp [run_underlying Tryd.underlying26, Instr.slice, Instr.sliceBounds, c1, c2, size_root]
theorem Rts.part {w : World} {a : Option Addr} {len cap : Nat} {f : Nat → Int} (h : Rts w a len cap f) (lo hi : Nat) (h1 : lo ≤ hi) (h2 : hi ≤ len) :
    Rts w (ofs a cap lo) (hi - lo) (cap - lo) (fun q => f (32 * lo + q)) := by
  unfold ofs
  rcases h with ⟨rfl, rfl, rfl⟩ | ⟨x, rfl, rfl⟩ | ⟨b, off, rfl, h3, h4, h5⟩
  · exact .inl ⟨by simp, by omega, by omega⟩
  · by_cases hc : cap = lo
    · rw [if_pos hc]; exact .inr (.inl ⟨x, rfl, by omega⟩)
    · rw [if_neg hc]; exact .inr (.inl ⟨x.add (lo * 32), rfl, by omega⟩)
  · by_cases hc : cap = lo
    · rw [if_pos hc]; exact .inr (.inl ⟨_, rfl, by omega⟩)
    · rw [if_neg hc]
      refine .inr (.inr ⟨b, off + lo * 32, by rw [Option.map_some, Addr.add_mid], by omega, h4, fun j hj => ?_⟩)
      rw [show off + lo * 32 + j = off + (32 * lo + j) by omega]
      exact h5 _ (by omega)

/-- The roots of a row's own, from block B on, not in block g. -/
def RowR (w : World) (B g : Nat) (a : Option Addr) (len cap : Nat) (f : Nat → Int) : Prop :=
  len ≤ cap ∧ (len = 0 ∧ (a = none → cap = 0) ∨ ∃ b C, a = some ⟨b, 0, none⟩ ∧ B ≤ b ∧ b ≠ g ∧ w.heap[b]? = some (.cells C 33) ∧ 32 * len ≤ C.size ∧ ∀ q, q < 32 * len → C[q]? = some (.int .u8 (f q)))
theorem RowR.rts {w : World} {B g : Nat} {a : Option Addr} {len cap : Nat} {f : Nat → Int} (h : RowR w B g a len cap f) : Rts w a len cap f := by
  rcases h with ⟨hc, ⟨h1, h2⟩ | ⟨b, C, rfl, h2, h3, h4, h5, h6⟩⟩
  · cases a with
    | none => exact .inl ⟨rfl, h1, h2 rfl⟩
    | some x => exact .inr (.inl ⟨x, rfl, h1⟩)
  · exact .inr (.inr ⟨b, 0, rfl, hc, (Array.getElem?_eq_some_iff.1 h4).1, fun j hj => by rw [Nat.zero_add, row_cell h4]; exact h6 j hj⟩)
theorem RowR.kept {w w' : World} {B g : Nat} {a : Option Addr} {len cap : Nat} {f : Nat → Int} (h : RowR w B g a len cap f) (hk : Kept g w w') : RowR w' B g a len cap f := by
  rcases h with ⟨hc, h | ⟨b, C, h1, h2, h3, h4, h5, h6⟩⟩
  · exact ⟨hc, .inl h⟩
  · exact ⟨hc, .inr ⟨b, C, h1, h2, h3, (hk.block b (Array.getElem?_eq_some_iff.1 h4).1 h3).trans h4, h5, h6⟩⟩
theorem RowR.below {w w' : World} {B g : Nat} {a : Option Addr} {len cap : Nat} {f : Nat → Int} (h : RowR w B g a len cap f) (hk : Below w.heap.size w w') : RowR w' B g a len cap f := h.kept (Kept.ofBelow hk)
theorem RowR.cut {w : World} {B g : Nat} {a : Option Addr} {len cap n : Nat} {f : Nat → Int} (h : RowR w B g a len cap f) (hn : n ≤ len) : RowR w B g a n cap f := by
  rcases h with ⟨hc, ⟨h1, h2⟩ | ⟨b, C, h1, h2, h3, h4, h5, h6⟩⟩
  · exact ⟨by omega, .inl ⟨by omega, h2⟩⟩
  · exact ⟨by omega, .inr ⟨b, C, h1, h2, h3, h4, by omega, fun q hq => h6 q (by omega)⟩⟩
theorem RowR.congr {w : World} {B g : Nat} {a : Option Addr} {len cap : Nat} {f f' : Nat → Int} (h : RowR w B g a len cap f) (hf : ∀ q, q < 32 * len → f q = f' q) : RowR w B g a len cap f' := by
  rcases h with ⟨hc, h | ⟨b, C, h1, h2, h3, h4, h5, h6⟩⟩
  · exact ⟨hc, .inl h⟩
  · exact ⟨hc, .inr ⟨b, C, h1, h2, h3, h4, h5, fun q hq => by rw [h6 q hq, hf q hq]⟩⟩
theorem size_cells (b : Nat) (l : List Value) : ∀ (o : Nat) (w : World), (w.setCells b o l).heap.size = w.heap.size := by
  induction l with
  | nil => intro o w; rfl
  | cons v r ih => intro o w; show ((w.setCell _ v).setCells b (o + 1) r).heap.size = _; rw [ih, size_s]
/-- A root stored in the row. -/
theorem RowR.store {w : World} {B g : Nat} {a : Option Addr} {len cap i : Nat} {f : Nat → Int} (h : RowR w B g a len cap f) (hi : i < len) (c : Nat → Int) (hBw : B ≤ w.heap.size) :
    ∃ b w', (∀ W : World, (ix22 (.slice a len cap) (.int .i64 i)).run Tryd.prog W = .ok (.pointer (some ⟨b, 32 * i, none⟩)) W) ∧ (sv24 ⟨b, 32 * i, none⟩ (.agg (vs .u8 32 c))).run Tryd.prog w = .ok () w' ∧ Below B w w' ∧ RowR w' B g a len cap (over f c (32 * i) 32) ∧ w'.heap[g]? = w.heap[g]? ∧ w'.heap.size = w.heap.size := by
  rcases h with ⟨hc, ⟨h1, h2⟩ | ⟨b, C, rfl, h2, h3, h4, h5, h6⟩⟩
  · omega
  · have hb := (Array.getElem?_eq_some_iff.1 h4).1
    have hk := setCells_kept (bl c 32) (32 * i) (Kept.refl b w)
    refine ⟨b, w.setCells b (32 * i) (bl c 32), fun W => by rw [ix22_run W b 0 len cap i hi, Nat.zero_add], sv24_mid h4 (32 * i) c (by omega), hk.below h2 hBw, ?_, ?_, ?_⟩
    · refine ⟨hc, .inr ⟨b, putL C (32 * i) (bl c 32), rfl, h2, h3, setCells_row (bl c 32) (32 * i) h4, by rw [putL_size]; exact h5, fun q hq => ?_⟩⟩
      rw [putL_get _ _ _ _ (by rw [bl_len]; omega), bl_len]
      unfold over
      by_cases hq2 : 32 * i ≤ q ∧ q < 32 * i + 32
      · rw [if_pos hq2, if_pos hq2, bl_at _ _ _ (by omega)]
      · rw [if_neg hq2, if_neg hq2, h6 q hq]
    · by_cases hg : g < w.heap.size
      · exact hk.block g hg (fun h => h3 h.symm)
      · rw [Array.getElem?_eq_none (by rw [size_cells]; omega), Array.getElem?_eq_none (by omega)]
    · exact size_cells _ _ _ _

end Go.Proofs.YtjimdkpppgjokaaDoor
