/-
  What the containers of layer 7 share.
  What the reference's Enc, Root and Read answer.
  What the reference's Enc, Root and Read answer.
  SyncAggregate: its values, what Enc and Root answer, and the reference.
-/
import Derived.Test.YtficlakgameglaaDoorQA
import Derived.Test.YtficlakgameglaaDoorCoB
import Derived.Test.YtficlakgameglaaDoorQC
import Derived.ChangeArms

import Derived.OpenShut

import Derived.WideShapes

namespace Go.Proofs.YtficlakgameglaaDoor

open Go.RowKit

set_option linter.unusedVariables false

set_option linter.unusedSimpArgs false

attribute [local go_sem ↓] sv24_eq lv24_eq ix22_eq slr_eq bd27_eq bs22_eq

end Go.Proofs.YtficlakgameglaaDoor

namespace Go.Proofs.YtficlakgameglaaDoor

open Go.RowKit

set_option linter.unusedVariables false

set_option linter.unusedSimpArgs false

attribute [local go_sem ↓] sv24_eq lv24_eq ix22_eq slr_eq bd27_eq bs22_eq

attribute [local go_sem ↓] sv8_eq

set_option maxRecDepth 20000 in
set_option maxHeartbeats 1000000 in
theorem rnumber7 (n : Int) (w : World) (h0 : 0 ≤ n) (h1 : n < 18446744073709551616) :
    Calls Tryd.prog 75 #[.int .u64 n] w fun e w' => ∃ v, e = .returned v ∧ w'.ownsRow w.heap.size 5 1 v 8 (bl (nmB n) 8) ∧ Below w.heap.size w w' := by
  have hb := rbytes_any n w h0 (by omega)
  have HB := hid hb
  have sv := fun W => sv8_newv W (fun _ => 0) (nmB n)
  have z := zero_8
  clear hb
  go_enter Tryd.func75, Tryd.ntmps75
  go_upto_region 2 with (go_at_call 74; refine HB.out.mono ?_; rintro e w1 ⟨rfl, hb1⟩)
  obtain ⟨W2, hW2⟩ : ∃ W, w1.alloc (.cells (vs .u8 8 (nmB n)) 128) = W := ⟨_, rfl⟩
  rw [hW2]
  have r1 : W2.heap[w1.heap.size]? = some (.cells (vs .u8 8 (nmB n)) 128) := by rw [← hW2]; exact heap_new rfl
  have hB2 : Below w.heap.size w W2 := by rw [← hW2]; exact hb1.alloc hb1.size _
  have HBY := hid (bys_new r1 (by omega))
  have HB2 := hid hB2
  clear r1 hW2 hB2 sv z hb1
  go_wp2_with (at_builtin; refine wpList_append_bys _ rfl _ _ rfl W2.heap.size _ 0 [] rfl (World.ownsRow_made _ #[] 0 (Nat.le_refl _) (Nat.zero_le _) rfl) _ 8 8 (nmB n) rfl (HBY.out.below (by go_grown)) (by omega) (by simp) ?_; intro v1 w3 ho1 hg1; rw [Nat.zero_add, List.nil_append] at ho1)
  go_ret
  have hb3 := below_grown ((Below.refl W2.heap.size W2).alloc (Nat.le_refl _) (.cells #[] 5)) (World.ownsRow_made _ #[] 0 (Nat.le_refl _) (Nat.zero_le _) rfl) (by simp) hg1
  exact ⟨v1, rfl, ho1.mono HB2.out.size, HB2.out.trans (hb3.mono HB2.out.size)⟩

end Go.Proofs.YtficlakgameglaaDoor

namespace Go.Proofs.YtficlakgameglaaDoor

open Go.RowKit

set_option linter.unusedVariables false

set_option linter.unusedSimpArgs false

theorem rlay7 (ps : List Pt) (zs : Nat → Int) (n g sa : Nat) (W : World) (en : ps.length = n) (hg : W.heap[g]? = some (.cells (ps.map ptv).toArray 39)) (hs : W.heap[sa]? = some (.cells (vs .i64 n zs) 3)) (hb : ∀ r, r < n → Bys W (ps.getD r nilP).1 (ps.getD r nilP).2.1 (ps.getD r nilP).2.2.1 (ps.getD r nilP).2.2.2) (hl : ∀ r, r < n → zs r = ((ps.getD r nilP).2.1 : Int) ∧ 1 ≤ (ps.getD r nilP).2.1 ∧ (ps.getD r nilP).2.1 ≤ 65536) (h1 : 1 ≤ n) (h2 : n ≤ 64) (hsum : ln7 (ps.map ptb) ≤ 4194304) :
    Calls Tryd.prog 54 #[.slice (some ⟨g, 0, none⟩) n n, .slice (some ⟨sa, 0, none⟩) n n] W fun e w' => ∃ v, e = .returned (.tuple #[v, .int .i64 0]) ∧ w'.ownsRow W.heap.size 5 1 v (ln7 (ps.map ptb)) (bl (ct7 (ps.map ptb)) (ln7 (ps.map ptb))) ∧ Below W.heap.size W w' := by
  obtain ⟨L, eL⟩ : ∃ L : Nat → Nat, (fun r => (ps.getD r nilP).2.1) = L := ⟨_, rfl⟩
  have hL : ∀ r, (ps.getD r nilP).2.1 = L r := fun r => congrFun eL r
  have hgl := (Array.getElem?_eq_some_iff.1 hg).1
  have hz : ∀ r, r < ps.length → zs r = ((ps.getD r nilP).2.1 : Int) ∧ 1 ≤ (ps.getD r nilP).2.1 := fun r hr => ⟨(hl r (by omega)).1, (hl r (by omega)).2.1⟩
  have hz0 : ∀ r, r < ps.length → zs r ≠ 0 := fun r hr => by have := hz r hr; omega
  have eh := lay_hdL ps zs hz ps.length (Nat.le_refl _)
  rw [List.take_of_length_le (Nat.le_refl _), en] at eh
  have el := lay_lo zs (fun r => (ps.getD r nilP).2.2.2) L n (fun r hr => hz0 r (by omega))
  have ec := lay_head ps zs (Z.hdL zs n) hz0 ps.length (Nat.le_refl _)
  rw [List.take_of_length_le (Nat.le_refl _), en, eL] at ec
  have hpar : Z.Parts W (some ⟨g, 0, none⟩) n (fun r => (ps.getD r nilP).1) L (fun r => (ps.getD r nilP).2.2.1) (fun r => (ps.getD r nilP).2.2.2) := by
    refine .inr ⟨g, 0, rfl, hgl, fun r hr => ⟨?_, ?_⟩⟩
    · rw [Nat.zero_add, pt_cell hg r (by omega), ← hL r]
      rfl
    · have := hb r hr
      rw [hL r] at this
      exact this
  have hnm : Z.Nms .i64 W (some ⟨sa, 0, none⟩) n zs := .inr ⟨sa, 0, rfl, (Array.getElem?_eq_some_iff.1 hs).1, fun j hj => by rw [Nat.zero_add]; exact row_int hs j hj⟩
  have hfit : Z.Fits zs L n := fun r hr _ => by rw [(hl r hr).1, hL r]
  refine (Z.rlay_ok zs (some ⟨g, 0, none⟩) n n _ L _ _ (some ⟨sa, 0, none⟩) n W hpar hnm (Z.szB_true h1 h2 (fun i hi => ⟨by have := hl i hi; omega, by have := hl i hi; omega⟩)) (fun r hr => by have := (hl r hr).2.2; rw [hL r] at this; omega) (by rw [eh, el.1]; omega) hfit).mono ?_
  rintro e w' ⟨v, rfl, ho, hbw⟩
  refine ⟨v, rfl, ?_, hbw⟩
  rw [el.1, Nat.add_zero, eh] at ho
  have e3 : Z.layC zs (fun r => (ps.getD r nilP).2.2.2) L n = cl7 (ps.map ptb) := by
    unfold Z.layC
    rw [el.2, List.append_nil]
    exact ec
  rw [e3, ← bl_ct7] at ho
  exact ho

end Go.Proofs.YtficlakgameglaaDoor

namespace Go.Proofs.YtficlakgameglaaDoor

open Go.RowKit

set_option linter.unusedVariables false

set_option linter.unusedSimpArgs false

attribute [local go_sem ↓] sv24_eq lv24_eq ix22_eq slr_eq bd27_eq bs22_eq bsP_eq bsI_eq lvCheckpoint_eq

theorem flag7 (b : Bool) (w : World) : Calls Tryd.prog 76 #[.bool b] w fun e w' => ∃ g, e = .returned (.slice (some ⟨g, 0, none⟩) 1 1) ∧ Below w.heap.size w w' ∧ Bys w' (some ⟨g, 0, none⟩) 1 1 (bbB b) := by
  cases b with
  | true =>
    go_enter Tryd.func76, Tryd.ntmps76
    go_wp2
    go_ret
    exact ⟨w.heap.size, rfl, (Below.refl _ _).alloc (Nat.le_refl _) _, .inr (.inr ⟨w.heap.size, 0, rfl, Nat.le_refl _, by omega, by simp, fun j hj => by
      obtain rfl : j = 0 := by omega
      exact row_cell (heap_new rfl) 0⟩)⟩
  | false =>
    go_enter Tryd.func76, Tryd.ntmps76
    go_wp2
    go_ret
    exact ⟨w.heap.size, rfl, (Below.refl _ _).alloc (Nat.le_refl _) _, .inr (.inr ⟨w.heap.size, 0, rfl, Nat.le_refl _, by omega, by simp, fun j hj => by
      obtain rfl : j = 0 := by omega
      exact row_cell (heap_new rfl) 0⟩)⟩

end Go.Proofs.YtficlakgameglaaDoor

namespace Go.Proofs.YtficlakgameglaaDoor

open Go.RowKit

set_option linter.unusedVariables false

set_option linter.unusedSimpArgs false

end Go.Proofs.YtficlakgameglaaDoor

namespace Go.Proofs.YtficlakgameglaaDoor

open Go.RowKit

set_option linter.unusedVariables false

set_option linter.unusedSimpArgs false

namespace Z

end Z

end Go.Proofs.YtficlakgameglaaDoor

namespace Go.Proofs.YtficlakgameglaaDoor

open Go.RowKit

set_option linter.unusedVariables false

set_option linter.unusedSimpArgs false

end Go.Proofs.YtficlakgameglaaDoor

namespace Go.Proofs.YtficlakgameglaaDoor

open Go.RowKit

set_option linter.unusedVariables false

set_option linter.unusedSimpArgs false

end Go.Proofs.YtficlakgameglaaDoor

namespace Go.Proofs.YtficlakgameglaaDoor

open Go.RowKit

set_option linter.unusedVariables false

set_option linter.unusedSimpArgs false

theorem lst_by {H : Type} {enc : TypeId × Value → H} {P : Program} {w : World} {b0 fuel : Nat} {sp : Nat → Bool} {held : Bool} {t e : TypeId} {n : Nat} {cs : List Value} {x : DataW H × List MemPlace}
    (ht : P.underlying t = some (.array n e)) (he : P.underlying e = some (.int .u8)) (hce : P.cellsOf e = 1) (hl : cs.length = n) (h : DataW.trod enc P w b0 sp held fuel t cs = some x) :
    ∃ f : Nat → Int, cs = (List.range n).map (fun j => Value.int .u8 (f j)) ∧ ∀ j, j < n → 0 ≤ f j ∧ f j < 256 := by
  obtain ⟨xs, m, rfl, _, _, hxl, hat⟩ := DataW.trod_array ht h
  have hcell : ∀ i, i < n → ∃ z, cs[i]? = some (.int .u8 z) ∧ (Lit.int .u8 z).wf = true := by
    intro i hi
    have ha := hat i hi
    rw [List.getElem?_eq_getElem (by omega)] at ha
    obtain ⟨z, hc, _, hwf⟩ := DataW.trod_int he ha
    refine ⟨z, ?_, hwf⟩
    have := congrArg (·[0]?) hc
    simpa [hce, List.getElem?_take, List.getElem?_drop] using this
  refine ⟨byteOf cs.toArray, ?_, fun j hj => ?_⟩
  · apply List.ext_getElem?
    intro i
    rw [List.getElem?_map]
    by_cases hi : i < n
    · obtain ⟨z, hz, _⟩ := hcell i hi
      rw [List.getElem?_range hi, hz]
      show some _ = some (Value.int .u8 (byteOf cs.toArray i))
      unfold byteOf
      rw [List.getElem?_toArray, hz]
    · rw [List.getElem?_eq_none (by omega), List.getElem?_eq_none (by simpa using hi)]
      rfl
  · obtain ⟨z, hz, hwf⟩ := hcell j hj
    have := bounds_u8 hwf
    unfold byteOf
    rw [List.getElem?_toArray, hz]
    show 0 ≤ z ∧ z < 256
    omega

theorem cut_list (l : List Value) (o k : Nat) : l.drop o = (l.drop o).take k ++ l.drop (o + k) := by
  have := (List.take_append_drop k (l.drop o)).symm
  rw [List.drop_drop] at this
  exact this

theorem open_str {H : Type} {enc : TypeId × Value → H} {P : Program} {W w : World} {r : Reach} {base b0 : Nat} {sp : Nat → Bool} {held : Bool} {t : TypeId} {fs : Array Field} {v : Value} {d : DataW H} {p : List MemPlace}
    (ht : P.underlying t = some (.struct fs)) (hv : Value.okWide P W r base t v) (h : DataW.Trod enc P w b0 sp held t v d p) :
    ∃ cs : Array Value, v = .agg cs ∧ cs.size = P.cellsOf t ∧ ∃ (xs : List (DataW H × List MemPlace)) (n : Nat), xs.length = fs.size ∧ ∀ (i : Nat) (f : Field), fs[i]? = some f → DataW.trod enc P w b0 sp held n f.type ((cs.toList.drop f.offset).take (P.cellsOf f.type)) = xs[i]? := by
  unfold Value.okWide at hv
  rw [ht] at hv
  obtain ⟨cs, rfl, hs, _⟩ := hv
  obtain ⟨fuel, hf⟩ := h
  obtain ⟨xs, n, _, _, hl, hxl, hat⟩ := DataW.trod_struct ht hf
  exact ⟨cs, rfl, hs, xs, n, hxl, hat⟩

end Go.Proofs.YtficlakgameglaaDoor

namespace Go.Proofs.YtficlakgameglaaDoor

open Go.RowKit

set_option linter.unusedVariables false

set_option linter.unusedSimpArgs false

end Go.Proofs.YtficlakgameglaaDoor

namespace Go.Proofs.YtficlakgameglaaDoor

open Go.RowKit

set_option linter.unusedVariables false

set_option linter.unusedSimpArgs false

end Go.Proofs.YtficlakgameglaaDoor

namespace Go.Proofs.YtficlakgameglaaDoor

open Go.RowKit

set_option linter.unusedVariables false

set_option linter.unusedSimpArgs false

attribute [local go_sem ↓] sv24_eq lv24_eq ix22_eq slr_eq bd27_eq bs22_eq bsP_eq bsI_eq lvCheckpoint_eq

set_option maxRecDepth 20000 in
set_option maxHeartbeats 2000000 in
theorem rencFork_any (x : VFork) (w : World) (hx : OkFork x) :
    Calls Tryd.prog 47 #[.agg (cel (sFork x))] w fun e w' => ∃ v, e = .returned (.tuple #[v, .int .i64 0]) ∧ w'.ownsRow w.heap.size 5 1 v 16 (bl (ct7 (eFork x)) 16) ∧ Below w.heap.size w w' := by
  have HX := hid hx
  obtain ⟨W0, hW0⟩ : ∃ W, w.alloc (.cells (cel (sFork x)) 28) = W := ⟨_, rfl⟩
  have hB0 : Below w.heap.size w W0 := by rw [← hW0]; exact (Below.refl _ _).alloc (Nat.le_refl _) _
  have r0 : W0.heap[w.heap.size]? = some (.cells (cel (sFork x)) 28) := by rw [← hW0]; exact heap_new rfl
  have z0 : w.heap.size < W0.heap.size := by rw [← hW0]; simp
  obtain ⟨y, ey⟩ : ∃ y, w.heap.size = y := ⟨_, rfl⟩
  have hry : ∀ X, Below W0.heap.size W0 X → X.heap[y]? = some (.cells (cel (sFork x)) 28) := fun X h => by rw [← ey]; exact (h.block _ z0).trans r0
  have HB0 : Hid (∀ X, Below W0.heap.size W0 X → Bys X (some ⟨y, 0, none⟩) 4 4 x.f0) := fun X h => seg_bys (hry X h) 0 4 x.f0 rfl 0 rfl (by omega)
  have HB1 : Hid (∀ X, Below W0.heap.size W0 X → Bys X (some ⟨y, 4, none⟩) 4 4 x.f1) := fun X h => seg_bys (hry X h) 1 4 x.f1 rfl 4 rfl (by omega)
  have HL2 : Hid (∀ X, Below W0.heap.size W0 X → X.cell? ⟨y, 8, none⟩ = some (.int .u64 x.f2)) := fun X h => seg_nu (hry X h) 2 x.f2 rfl 8 rfl
  have S0 := hid (Below.refl W0.heap.size W0)
  have HB0w := hid hB0
  have EY := hid ey
  clear hB0 r0 hry hx
  go_enter Tryd.func47, Tryd.ntmps47
  go_upto_region 5 with fail
  clear hW0 ey z0
  go_upto_region 6 with (at_builtin; refine wpList_append_bys _ rfl _ _ rfl W0.heap.size _ 0 [] rfl (World.ownsRow_made _ #[] 0 (Nat.le_refl _) (Nat.zero_le _) rfl) _ 4 4 x.f0 rfl (HB0.out _ (S0.out.alloc S0.out.size _)) (by omega) (by simp) ?_; intro v1 X1 ho1 hg1; rw [Nat.zero_add, List.nil_append] at ho1)
  have hb1 := below_grown ((Below.refl W0.heap.size W0).alloc (Nat.le_refl _) (.cells #[] 5)) (World.ownsRow_made _ #[] 0 (Nat.le_refl _) (Nat.zero_le _) rfl) (by simp) hg1
  obtain ⟨a1, c1, rfl, hr1⟩ := own_at ho1
  clear hg1 ho1
  have S1 := hid (S0.out.trans (hb1.mono S0.out.size))
  have R0 := hid (show ∀ X, Below X1.heap.size X1 X → Bys X a1 4 c1 (x.f0) from fun X h => hr1.below h)
  clear hb1 hr1
  go_upto_region 7 with (at_builtin; refine wpList_append_bys _ rfl _ _ rfl X1.heap.size _ 0 [] rfl (World.ownsRow_made _ #[] 0 (Nat.le_refl _) (Nat.zero_le _) rfl) _ 4 4 x.f1 rfl (HB1.out _ (S1.out.alloc S1.out.size _)) (by omega) (by simp) ?_; intro v2 X2 ho2 hg2; rw [Nat.zero_add, List.nil_append] at ho2)
  have hb2 := below_grown ((Below.refl X1.heap.size X1).alloc (Nat.le_refl _) (.cells #[] 5)) (World.ownsRow_made _ #[] 0 (Nat.le_refl _) (Nat.zero_le _) rfl) (by simp) hg2
  obtain ⟨a2, c2, rfl, hr2⟩ := own_at ho2
  clear hg2 ho2
  have S2 := hid (S1.out.trans (hb2.mono S1.out.size))
  have K1 := hid (show Below X1.heap.size X1 X2 from hb2)
  have R1 := hid (show ∀ X, Below X2.heap.size X2 X → Bys X a2 4 c2 (x.f1) from fun X h => hr2.below h)
  clear hb2 hr2
  have ld2 := HL2.out _ S2.out
  go_upto_region 8 with (go_at_call 75; refine (rnumber7 x.f2 _ HX.out.2.2.1 HX.out.2.2.2).mono ?_; rintro e X3 ⟨v3, rfl, ho3, hb3⟩)
  obtain ⟨a3, c3, rfl, hr3⟩ := own_at ho3
  clear ho3 ld2
  have S3 := hid (S2.out.trans (hb3.mono S2.out.size))
  replace K1 := hid (K1.out.trans (hb3.mono K1.out.size))
  have K2 := hid (show Below X2.heap.size X2 X3 from hb3)
  have R2 := hid (show ∀ X, Below X3.heap.size X3 X → Bys X a3 8 c3 (nmB x.f2) from fun X h => hr3.below h)
  clear hb3 hr3
  obtain ⟨ps, eps⟩ : ∃ ps : List Pt, ([(a1, 4, c1, x.f0), (a2, 4, c2, x.f1), (a3, 8, c3, nmB x.f2)] : List Pt) = ps := ⟨_, rfl⟩
  obtain ⟨Y1, hY1⟩ : ∃ Y, X3.alloc (.cells (ps.map ptv).toArray 39) = Y := ⟨_, rfl⟩
  obtain ⟨Y2, hY2⟩ : ∃ Y, Y1.alloc (.cells (vs .i64 3 zFork) 3) = Y := ⟨_, rfl⟩
  have hy1 : Below X3.heap.size X3 Y1 := by rw [← hY1]; exact (Below.refl _ _).alloc (Nat.le_refl _) _
  have hy2 : Below X3.heap.size X3 Y2 := by rw [← hY2]; exact hy1.alloc hy1.size _
  have g1 : Y2.heap[X3.heap.size]? = some (.cells (ps.map ptv).toArray 39) := by
    rw [← hY2, ← hY1]
    exact (heap_old (by simp)).trans (heap_new rfl)
  have g2 : Y2.heap[Y1.heap.size]? = some (.cells (vs .i64 3 zFork) 3) := by rw [← hY2]; exact heap_new rfl
  have bs1 := bsP_3 X3 (a1, 4, c1, x.f0) (a2, 4, c2, x.f1) (a3, 8, c3, nmB x.f2)
  have bs2 := bsI_Fork Y1
  have hla := rlay7 ps zFork 3 X3.heap.size Y1.heap.size Y2 (by rw [← eps]; rfl) g1 g2 (fun r hr => by
    rw [← eps]
    rcases (by omega : r = 0 ∨ r = 1 ∨ r = 2) with rfl | rfl | rfl
    · exact R0.out _ (K1.out.trans (hy2.mono K1.out.size))
    · exact R1.out _ (K2.out.trans (hy2.mono K2.out.size))
    · exact R2.out _ hy2
    ) (fun r hr => by
    rw [← eps]
    rcases (by omega : r = 0 ∨ r = 1 ∨ r = 2) with rfl | rfl | rfl
    all_goals exact ⟨rfl, Nat.le_of_ble_eq_true rfl, Nat.le_of_ble_eq_true rfl⟩) (by omega) (by omega) (by rw [← eps]; exact Nat.le_of_ble_eq_true rfl)
  have e1 : ln7 (ps.map ptb) = 16 := by rw [← eps]; rfl
  have e2 : ct7 (ps.map ptb) = ct7 (eFork x) := by rw [← eps]; rfl
  rw [e1, e2] at hla
  rw [eps, hY1] at bs1
  rw [hY2] at bs2
  obtain ⟨u1, eu1⟩ : ∃ u, X3.heap.size = u := ⟨_, rfl⟩
  obtain ⟨u2, eu2⟩ : ∃ u, Y1.heap.size = u := ⟨_, rfl⟩
  rw [eu1] at bs1 hla
  rw [eu2] at bs2 hla
  replace bs1 : (bsP 3 #[(0, Value.slice a1 4 c1), (1, Value.slice a2 4 c2), (2, Value.slice a3 8 c3)]).run Tryd.prog X3 = .ok (.slice (some ⟨u1, 0, none⟩) 3 3) Y1 := bs1
  have HLA := hid hla
  have HY2 := hid hy2
  clear hla hy1 hy2 g1 g2 e1 e2 eps hY1 hY2 eu1 eu2
  go_wp2_with (go_at_call 54; refine HLA.out.mono ?_; rintro e Y ⟨v, rfl, ho, hbY⟩)
  go_ret2
  have e0 := EY.out
  have e1 := HB0w.out.size
  have e2 := S3.out.size
  have e3 := HY2.out.size
  exact ⟨v, rfl, (ho.mono (by omega) : _), HB0w.out.trans ((S3.out.mono (by omega)).trans ((HY2.out.mono (by omega)).trans (hbY.mono (by omega))))⟩

end Go.Proofs.YtficlakgameglaaDoor

namespace Go.Proofs.YtficlakgameglaaDoor

open Go.RowKit

set_option linter.unusedVariables false

set_option linter.unusedSimpArgs false

attribute [local go_sem ↓] sv24_eq lv24_eq ix22_eq slr_eq bd27_eq bs22_eq

end Go.Proofs.YtficlakgameglaaDoor

namespace Go.Proofs.YtficlakgameglaaDoor

open Go.RowKit

set_option linter.unusedVariables false

set_option linter.unusedSimpArgs false

attribute [local go_sem ↓] sv24_eq lv24_eq ix22_eq slr_eq bd27_eq bs22_eq mkI_eq ixI_eq ixP_eq bsP_eq bsI_eq lvFork_eq svFork_eq bdFork_eq lvCheckpoint_eq svCheckpoint_eq bdCheckpoint_eq lvValidator_eq svValidator_eq bdValidator_eq lvEth1_eq svEth1_eq bdEth1_eq lvHeader_eq svHeader_eq bdHeader_eq

end Go.Proofs.YtficlakgameglaaDoor

namespace Go.Proofs.YtficlakgameglaaDoor

open Go.RowKit

set_option linter.unusedVariables false

set_option linter.unusedSimpArgs false

attribute [local go_sem ↓] sv24_eq lv24_eq ix22_eq slr_eq bd27_eq bs22_eq bsP_eq bsI_eq lvCheckpoint_eq

set_option maxRecDepth 20000 in
set_option maxHeartbeats 2000000 in
theorem rencCheckpoint_any (x : VCheckpoint) (w : World) (hx : OkCheckpoint x) :
    Calls Tryd.prog 52 #[.agg (cel (sCheckpoint x))] w fun e w' => ∃ v, e = .returned (.tuple #[v, .int .i64 0]) ∧ w'.ownsRow w.heap.size 5 1 v 40 (bl (ct7 (eCheckpoint x)) 40) ∧ Below w.heap.size w w' := by
  have HX := hid hx
  obtain ⟨W0, hW0⟩ : ∃ W, w.alloc (.cells (cel (sCheckpoint x)) 42) = W := ⟨_, rfl⟩
  have hB0 : Below w.heap.size w W0 := by rw [← hW0]; exact (Below.refl _ _).alloc (Nat.le_refl _) _
  have r0 : W0.heap[w.heap.size]? = some (.cells (cel (sCheckpoint x)) 42) := by rw [← hW0]; exact heap_new rfl
  have z0 : w.heap.size < W0.heap.size := by rw [← hW0]; simp
  obtain ⟨y, ey⟩ : ∃ y, w.heap.size = y := ⟨_, rfl⟩
  have hry : ∀ X, Below W0.heap.size W0 X → X.heap[y]? = some (.cells (cel (sCheckpoint x)) 42) := fun X h => by rw [← ey]; exact (h.block _ z0).trans r0
  have HL0 : Hid (∀ X, Below W0.heap.size W0 X → X.cell? ⟨y, 0, none⟩ = some (.int .u64 x.f0)) := fun X h => seg_nu (hry X h) 0 x.f0 rfl 0 rfl
  have HB1 : Hid (∀ X, Below W0.heap.size W0 X → Bys X (some ⟨y, 1, none⟩) 32 32 x.f1) := fun X h => seg_bys (hry X h) 1 32 x.f1 rfl 1 rfl (by omega)
  have S0 := hid (Below.refl W0.heap.size W0)
  have HB0w := hid hB0
  have EY := hid ey
  clear hB0 r0 hry hx
  go_enter Tryd.func52, Tryd.ntmps52
  go_upto_region 4 with fail
  clear hW0 ey z0
  have ld0 := HL0.out _ S0.out
  go_upto_region 5 with (go_at_call 75; refine (rnumber7 x.f0 _ HX.out.1.1 HX.out.1.2).mono ?_; rintro e X1 ⟨v1, rfl, ho1, hb1⟩)
  obtain ⟨a1, c1, rfl, hr1⟩ := own_at ho1
  clear ho1 ld0
  have S1 := hid (S0.out.trans (hb1.mono S0.out.size))
  have R0 := hid (show ∀ X, Below X1.heap.size X1 X → Bys X a1 8 c1 (nmB x.f0) from fun X h => hr1.below h)
  clear hb1 hr1
  go_upto_region 6 with (at_builtin; refine wpList_append_bys _ rfl _ _ rfl X1.heap.size _ 0 [] rfl (World.ownsRow_made _ #[] 0 (Nat.le_refl _) (Nat.zero_le _) rfl) _ 32 32 x.f1 rfl (HB1.out _ (S1.out.alloc S1.out.size _)) (by omega) (by simp) ?_; intro v2 X2 ho2 hg2; rw [Nat.zero_add, List.nil_append] at ho2)
  have hb2 := below_grown ((Below.refl X1.heap.size X1).alloc (Nat.le_refl _) (.cells #[] 5)) (World.ownsRow_made _ #[] 0 (Nat.le_refl _) (Nat.zero_le _) rfl) (by simp) hg2
  obtain ⟨a2, c2, rfl, hr2⟩ := own_at ho2
  clear hg2 ho2
  have S2 := hid (S1.out.trans (hb2.mono S1.out.size))
  have K1 := hid (show Below X1.heap.size X1 X2 from hb2)
  have R1 := hid (show ∀ X, Below X2.heap.size X2 X → Bys X a2 32 c2 (x.f1) from fun X h => hr2.below h)
  clear hb2 hr2
  obtain ⟨ps, eps⟩ : ∃ ps : List Pt, ([(a1, 8, c1, nmB x.f0), (a2, 32, c2, x.f1)] : List Pt) = ps := ⟨_, rfl⟩
  obtain ⟨Y1, hY1⟩ : ∃ Y, X2.alloc (.cells (ps.map ptv).toArray 39) = Y := ⟨_, rfl⟩
  obtain ⟨Y2, hY2⟩ : ∃ Y, Y1.alloc (.cells (vs .i64 2 zCheckpoint) 3) = Y := ⟨_, rfl⟩
  have hy1 : Below X2.heap.size X2 Y1 := by rw [← hY1]; exact (Below.refl _ _).alloc (Nat.le_refl _) _
  have hy2 : Below X2.heap.size X2 Y2 := by rw [← hY2]; exact hy1.alloc hy1.size _
  have g1 : Y2.heap[X2.heap.size]? = some (.cells (ps.map ptv).toArray 39) := by
    rw [← hY2, ← hY1]
    exact (heap_old (by simp)).trans (heap_new rfl)
  have g2 : Y2.heap[Y1.heap.size]? = some (.cells (vs .i64 2 zCheckpoint) 3) := by rw [← hY2]; exact heap_new rfl
  have bs1 := bsP_2 X2 (a1, 8, c1, nmB x.f0) (a2, 32, c2, x.f1)
  have bs2 := bsI_Checkpoint Y1
  have hla := rlay7 ps zCheckpoint 2 X2.heap.size Y1.heap.size Y2 (by rw [← eps]; rfl) g1 g2 (fun r hr => by
    rw [← eps]
    rcases (by omega : r = 0 ∨ r = 1) with rfl | rfl
    · exact R0.out _ (K1.out.trans (hy2.mono K1.out.size))
    · exact R1.out _ hy2
    ) (fun r hr => by
    rw [← eps]
    rcases (by omega : r = 0 ∨ r = 1) with rfl | rfl
    all_goals exact ⟨rfl, Nat.le_of_ble_eq_true rfl, Nat.le_of_ble_eq_true rfl⟩) (by omega) (by omega) (by rw [← eps]; exact Nat.le_of_ble_eq_true rfl)
  have e1 : ln7 (ps.map ptb) = 40 := by rw [← eps]; rfl
  have e2 : ct7 (ps.map ptb) = ct7 (eCheckpoint x) := by rw [← eps]; rfl
  rw [e1, e2] at hla
  rw [eps, hY1] at bs1
  rw [hY2] at bs2
  obtain ⟨u1, eu1⟩ : ∃ u, X2.heap.size = u := ⟨_, rfl⟩
  obtain ⟨u2, eu2⟩ : ∃ u, Y1.heap.size = u := ⟨_, rfl⟩
  rw [eu1] at bs1 hla
  rw [eu2] at bs2 hla
  replace bs1 : (bsP 2 #[(0, Value.slice a1 8 c1), (1, Value.slice a2 32 c2)]).run Tryd.prog X2 = .ok (.slice (some ⟨u1, 0, none⟩) 2 2) Y1 := bs1
  have HLA := hid hla
  have HY2 := hid hy2
  clear hla hy1 hy2 g1 g2 e1 e2 eps hY1 hY2 eu1 eu2
  go_wp2_with (go_at_call 54; refine HLA.out.mono ?_; rintro e Y ⟨v, rfl, ho, hbY⟩)
  go_ret2
  have e0 := EY.out
  have e1 := HB0w.out.size
  have e2 := S2.out.size
  have e3 := HY2.out.size
  exact ⟨v, rfl, (ho.mono (by omega) : _), HB0w.out.trans ((S2.out.mono (by omega)).trans ((HY2.out.mono (by omega)).trans (hbY.mono (by omega))))⟩

end Go.Proofs.YtficlakgameglaaDoor

namespace Go.Proofs.YtficlakgameglaaDoor

open Go.RowKit

set_option linter.unusedVariables false

set_option linter.unusedSimpArgs false

attribute [local go_sem ↓] sv24_eq lv24_eq ix22_eq slr_eq bd27_eq bs22_eq

end Go.Proofs.YtficlakgameglaaDoor

namespace Go.Proofs.YtficlakgameglaaDoor

open Go.RowKit

set_option linter.unusedVariables false

set_option linter.unusedSimpArgs false

attribute [local go_sem ↓] sv24_eq lv24_eq ix22_eq slr_eq bd27_eq bs22_eq mkI_eq ixI_eq ixP_eq bsP_eq bsI_eq lvFork_eq svFork_eq bdFork_eq lvCheckpoint_eq svCheckpoint_eq bdCheckpoint_eq lvValidator_eq svValidator_eq bdValidator_eq lvEth1_eq svEth1_eq bdEth1_eq lvHeader_eq svHeader_eq bdHeader_eq

end Go.Proofs.YtficlakgameglaaDoor

namespace Go.Proofs.YtficlakgameglaaDoor

open Go.RowKit

set_option linter.unusedVariables false

set_option linter.unusedSimpArgs false

structure VSyncAggregate where
  f0 : Nat → Bool
  f1 : Nat → Int

def sSyncAggregate (x : VSyncAggregate) : List Seg := [.bo (x.f0 0), .bo (x.f0 1), .bo (x.f0 2), .bo (x.f0 3), .bo (x.f0 4), .bo (x.f0 5), .bo (x.f0 6), .bo (x.f0 7), .by 96 x.f1]

def lvSyncAggregate (a : Addr) : Sem Value := loadVar 58 a

theorem lvSyncAggregate_eq (a : Addr) : loadVar 58 a = lvSyncAggregate a := rfl

/-- The value of nothing but zeros; the value that bytes are. -/
def oSyncAggregate : VSyncAggregate := ⟨fun _ => false, fun _ => 0⟩

def bdSyncAggregate (ps : Array (Nat × Value)) : Sem Value := Instr.build 58 ps

theorem bdSyncAggregate_eq (ps : Array (Nat × Value)) : Instr.build 58 ps = bdSyncAggregate ps := rfl

theorem bdSyncAggregate_0 (W : World) : (bdSyncAggregate #[]).run Tryd.prog W = .ok (.agg (cel (sSyncAggregate oSyncAggregate))) W := by kernel_rfl

theorem slSyncAggregate (x : VSyncAggregate) : slen (sSyncAggregate x) = 104 := rfl

attribute [local go_sem ↓] sv24_eq lv24_eq ix22_eq slr_eq bd27_eq bs22_eq sv8_eq mkI_eq ixI_eq ixP_eq bsP_eq bsI_eq

end Go.Proofs.YtficlakgameglaaDoor
