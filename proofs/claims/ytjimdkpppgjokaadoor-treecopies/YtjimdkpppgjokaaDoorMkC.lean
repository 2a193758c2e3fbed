/-
  What a row tells at a place.
-/
import Derived.Test.YtjimdkpppgjokaaDoorMkB
namespace Go.Proofs.YtjimdkpppgjokaaDoor
open Go.RowKit
set_option linter.unusedVariables false
set_option linter.unusedSimpArgs false

attribute [local go_sem ↓] sv24_eq lv24_eq ix22_eq

/-- The two tables of package sha. -/
def Sh (w : World) : Prop := Tab w 0 8 HW ∧ Tab w 1 64 KW
theorem Sh.below {w w' : World} (h : Sh w) (hb : Below w.heap.size w w') : Sh w' := ⟨h.1.below hb, h.2.below hb⟩
theorem Sh.kept {w w' : World} {g : Nat} (h : Sh w) (hb : Kept g w w') (h0 : 0 ≠ g) (h1 : 1 ≠ g) : Sh w' := ⟨hb.tab h.1 h0, hb.tab h.2 h1⟩
theorem two_tw (a b : Nat → Int) (w : World) (hS : Sh w) (ha : ∀ j, j < 32 → 0 ≤ a j ∧ a j < 256) (hb : ∀ j, j < 32 → 0 ≤ b j ∧ b j < 256) :
    Calls Tryd.prog 25 #[.agg (vs .u8 32 a), .agg (vs .u8 32 b)] w fun e w' => e = .returned (.agg (vs .u8 32 (tw a b))) ∧ Below w.heap.size w w' :=
  two_any KW HW a b w hS.1 hS.2 HW_bd ha hb

theorem Kept.setNew {g k : Nat} {a b : World} (h : Kept g a b) (hk : a.heap.size ≤ k) (c : Array Value) : Kept g a (b.setRow k c) :=
  ⟨h.os, h.tape, h.output, by have := h.size; simpa using this, fun i hi hn => (setRow_other b k i c (by omega)).trans (h.block i hi hn)⟩

/-- A row's block: its roots, its depth, the zero root of a depth not below. -/
def zdOf (w : World) (g : Nat) : Nat := match w.cell? ⟨g, 34, none⟩ with | some (.int _ z) => z.toNat | _ => 0

set_option maxRecDepth 20000 in
set_option maxHeartbeats 1000000 in
theorem at_out (g : Nat) (a : Option Addr) (len cap d zd i : Nat) (w : World) (hS : Sh w) (hg : w.heap[g]? = some (.cells (rwA (.slice a len cap) d (zr zd) zd) 68)) (h0 : 0 ≠ g) (h1 : 1 ≠ g)
    (hi : len ≤ i) (hm : i ≤ 9223372036854775807) (hz : zd ≤ d) (hd : d ≤ 1000) :
    Calls Tryd.prog 38 #[.pointer (some ⟨g, 0, none⟩), .int .i64 i] w fun e w' => e = .returned (.agg (vs .u8 32 (zr d))) ∧ Kept g w w' ∧ w'.heap[g]? = some (.cells (rwA (.slice a len cap) d (zr d) d) 68) := by
  have hgl : g < w.heap.size := (Array.getElem?_eq_some_iff.1 hg).1
  have c0 := row_cell hg 0
  rw [rwA_0] at c0
  have HG := hid hg
  have HS := hid hS
  have hb : decide (i < len) = false := by simp; omega
  clear hg hS
  go_enter Tryd.func38, Tryd.ntmps38
  go_wp2
  change Code.wp _ _ _ _ (w.alloc (.cells (vs .u8 32 fun _ => 0) 33))
  go_loopw [46] (fun _ wr => ∃ z : Nat, z ≤ d ∧ Kept g w wr ∧ w.heap.size < wr.heap.size ∧ wr.heap[w.heap.size]? = some (.cells (vs .u8 32 fun _ => 0) 33) ∧ wr.heap[g]? = some (.cells (rwA (.slice a len cap) d (zr z) z) 68)) (fun _ wr => d - zdOf wr g)
  case atStart =>
    refine ⟨zd, hz, Kept.ofBelow ((Below.refl _ _).alloc (Nat.le_refl _) _), by simp, heap_new rfl, (heap_old hgl).trans HG.out⟩
  case round =>
    clear HG c0
    obtain ⟨z, hzd, hkp, hsz, r0, rg⟩ := hrel
    have c1 := row_cell rg 1
    rw [rwA_1] at c1
    have c34 := row_cell rg 34
    rw [rwA_34] at c34
    have HKP := hid hkp
    have R0 := hid r0
    have RG := hid rg
    clear hkp r0 rg
    by_cases hlt : z < d
    · have hb2 : decide (z < d) = true := by simp; omega
      go_wp2
      go_region
      go_upto_region 4 with fail
      have l2 := lv24_mid (w := wr.drew.drew) (b := g) (o := 2) (c := zr z) (fun j hj => (row_cell (w := wr.drew.drew) RG.out (2 + j)).trans (rwA_z _ _ _ _ j hj))
      have hs2 : Sh wr.drew.drew := (HS.out.kept HKP.out.drew.drew h0 h1)
      have hgl2 : g < wr.drew.drew.heap.size := Nat.lt_of_lt_of_le hgl HKP.out.size
      have HS2 := hid hs2
      have HZ2 := hid hgl2
      clear hs2 hgl2
      go_region_with (go_at_call 25; refine (two_tw (zr z) (zr z) _ HS2.out (fun j _ => zr_bd z j) (fun j _ => zr_bd z j)).mono ?_; rintro e w1 ⟨rfl, hb1⟩; have s2 := sv24_mid ((hb1.block g HZ2.out).trans RG.out) 2 (tw (zr z) (zr z)) (by rw [rwA_size]; omega))
      all_goals
        have rg1 : w1.heap[g]? = some (.cells (rwA (.slice a len cap) d (zr z) z) 68) := (hb1.block g HZ2.out).trans RG.out
        have rg2 := setCells_row (bl (tw (zr z) (zr z)) 32) 2 rg1
        rw [rwA_put] at rg2
        have hk1 : Kept g w w1 := (HKP.out.drew.drew).trans (Kept.ofBelow hb1)
        have hk2 := setCells_kept (bl (tw (zr z) (zr z)) 32) 2 hk1
        have r01 : (w1.setCells g 2 (bl (tw (zr z) (zr z)) 32)).heap[w.heap.size]? = some (.cells (vs .u8 32 fun _ => 0) 33) := ((setCells_kept (bl (tw (zr z) (zr z)) 32) 2 (Kept.ofBelow hb1)).block w.heap.size hsz (by omega)).trans R0.out
        have hz2 : w.heap.size < (w1.setCells g 2 (bl (tw (zr z) (zr z)) 32)).heap.size := Nat.lt_of_lt_of_le hsz (setCells_kept (bl (tw (zr z) (zr z)) 32) 2 (Kept.ofBelow (g := g) hb1)).size
        obtain ⟨W2, hW2⟩ : ∃ W, w1.setCells g 2 (bl (tw (zr z) (zr z)) 32) = W := ⟨_, rfl⟩
        rw [hW2] at rg2 hk2 r01 hz2 ⊢
        have d34 := row_cell rg2 34
        rw [rwA_34] at d34
        have f34 := row_frozen rg2 34
        have HRG2 := hid rg2
        have HK2 := hid hk2
        have HR2 := hid r01
        clear rg1 rg2 hk1 hk2 r01 l2 s2 hW2
        go_wp2
        go_roundw
        case rel =>
          refine ⟨z + 1, by omega, HK2.out.setCell 34 _, by rw [size_s]; exact hz2, (heap_set_other (by omega)).trans HR2.out, ?_⟩
          refine (row_set HRG2.out 34 _).trans ?_
          rw [rwA_set34]
          rfl
        case measure =>
          have e1 : zdOf (W2.setCell ⟨g, 34, none⟩ (.int .i64 ((z : Int) + 1))) g = z + 1 := by
            unfold zdOf
            rw [row_cell (row_set HRG2.out 34 _), rwA_set34, rwA_34]
            show ((z : Int) + 1).toNat = z + 1
            omega
          have e2 : zdOf wr g = z := by
            unfold zdOf
            rw [c34]
            show ((z : Int)).toNat = z
            omega
          rw [e1, e2]
          omega
    · have ez : z = d := by omega
      subst ez
      have hb2 : decide (z < z) = false := by simp
      go_wp2
      go_region
      go_upto_region 6 with fail
      have l2 := lv24_mid (w := wr.drew) (b := g) (o := 2) (c := zr z) (fun j hj => (row_cell (w := wr.drew) RG.out (2 + j)).trans (rwA_z _ _ _ _ j hj))
      have s2 := sv24_run (w := wr.drew) R0.out (zr z)
      go_wp2
      refine ret24 4 w.heap.size _ 33 rfl rfl rfl (setRow_at (w := wr.drew) R0.out) ⟨rfl, ?_, ?_⟩
      · exact HKP.out.drew.setNew (Nat.le_refl _) _
      · exact (setRow_other _ _ _ _ (by omega)).trans RG.out

end Go.Proofs.YtjimdkpppgjokaaDoor
