/-
  AttesterSlashing: Cut by its sizes; what Read answers.
-/
import Derived.Test.YtokbhcgooboocaaGreatDoorOaAp
import Derived.Test.YtokbhcgooboocaaGreatDoorOiVp
import Derived.Test.YtokbhcgooboocaaGreatDoorOpEp
namespace Go.Proofs.YtokbhcgooboocaaGreatDoor
open Go.RowKit
set_option linter.unusedVariables false
set_option linter.unusedSimpArgs false
set_option maxRecDepth 20000

theorem nmsA {w : World} {sa : Nat} (g2 : w.heap[sa]? = some (.cells (vs .i64 2 zA) 3)) : Z.Nms .i64 w (some ⟨sa, 0, none⟩) 2 zA :=
  .inr ⟨sa, 0, rfl, (Array.getElem?_eq_some_iff.1 g2).1, fun j hj => by rw [Nat.zero_add]; exact row_int g2 j hj⟩
/-- The error of a cut, the parts' lengths and bytes. -/
def eA (m : Nat → Int) (len : Nat) : Int := Z.cutE zA m 2 len
def pA (m : Nat → Int) (len r : Nat) : Nat := Z.cLn zA m 2 len r
def fA (m : Nat → Int) (r : Nat) : Nat → Int := Z.cFn zA m 2 r
theorem pA_sum {m : Nat → Int} {len : Nat} (h : eA m len = 0) : 8 + pA m len 0 + pA m len 1 = len := by
  have h1 := Z.cut_total (Z.cutE_ok h)
  have h2 : Z.hdL zA 2 + Z.loL zA (Z.cLn zA m 2 len) 2 = 8 + (0 + pA m len 0 + pA m len 1) := rfl
  omega
theorem cutA_no (m : Nat → Int) (ao : Option Addr) (len cap sa : Nat) (w : World) (hb : Bys w ao len cap m) (hm : ∀ j, 0 ≤ m j ∧ m j < 256) (hlen : len ≤ 140737488351232) (hlc : len ≤ cap) (hcap : cap ≤ 9223372036854775807) (g2 : w.heap[sa]? = some (.cells (vs .i64 2 zA) 3)) (h : eA m len ≠ 0) :
    Calls Tryz.prog 37 #[.slice ao len cap, .slice (some ⟨sa, 0, none⟩) 2 2] w fun e w' => ∃ a1, e = .returned (.tuple #[.slice a1 0 0, .int .i64 (eA m len)]) ∧ Below w.heap.size w w' := by
  refine (Z.cut_any zA m ao len cap (some ⟨sa, 0, none⟩) 2 2 w hb hm hlen hlc hcap (nmsA g2) (by omega)).mono ?_
  rintro e w' ⟨a', N', A', rfl, hN, _, hbw⟩
  have hN' : N' = 0 := hN.trans (if_neg h)
  subst hN'
  exact ⟨a', rfl, hbw⟩
theorem cutA_ok (m : Nat → Int) (ao : Option Addr) (len cap sa : Nat) (w : World) (hb : Bys w ao len cap m) (hm : ∀ j, 0 ≤ m j ∧ m j < 256) (hlen : len ≤ 140737488351232) (hlc : len ≤ cap) (hcap : cap ≤ 9223372036854775807) (g2 : w.heap[sa]? = some (.cells (vs .i64 2 zA) 3)) (h : eA m len = 0) :
    Calls Tryz.prog 37 #[.slice ao len cap, .slice (some ⟨sa, 0, none⟩) 2 2] w fun e w' => ∃ gp o A0 A1, e = .returned (.tuple #[.slice (some ⟨gp, o, none⟩) 2 2, .int .i64 0]) ∧ gp < w'.heap.size ∧ w'.cell? ⟨gp, o, none⟩ = some (.slice A0 (pA m len 0) (pA m len 0)) ∧ Bys w' A0 (pA m len 0) (pA m len 0) (fA m 0) ∧ w'.cell? ⟨gp, o + 1, none⟩ = some (.slice A1 (pA m len 1) (pA m len 1)) ∧ Bys w' A1 (pA m len 1) (pA m len 1) (fA m 1) ∧ Below w.heap.size w w' := by
  have hc := Z.cut_any zA m ao len cap (some ⟨sa, 0, none⟩) 2 2 w hb hm hlen hlc hcap (nmsA g2) (by omega)
  rw [show Z.cutE zA m 2 len = 0 from h] at hc
  refine hc.mono ?_
  rintro e w' ⟨a', N', A', rfl, hN, hp, hbw⟩
  rw [if_pos rfl] at hN
  subst hN
  obtain ⟨b0, o0, ea, hb0, c0, y0⟩ := Z.parts_at hp 0 (by omega)
  obtain ⟨b1, o1, ea1, _, c1, y1⟩ := Z.parts_at hp 1 (by omega)
  subst ea
  cases ea1
  rw [Nat.add_zero] at c0
  exact ⟨b0, o0, _, _, rfl, hb0, c0, y0, c1, y1, hbw⟩

theorem nms_set {k : IntKind} {w X : World} {B n : Nat} {a : Option Addr} {zs : Nat → Int} (h : Z.Nms k w a n zs) (hf : Frs B a) (hz : w.heap.size ≤ X.heap.size) (hX : ∀ b, B ≤ b → b < w.heap.size → X.heap[b]? = w.heap[b]?) : Z.Nms k X a n zs := by
  rcases h with h | ⟨b, off, rfl, h1, h2⟩
  · exact .inl h
  · exact .inr ⟨b, off, rfl, Nat.lt_of_lt_of_le h1 hz, fun j hj => (World.cell?_of_block (w := w) (hX b (hf b off rfl) h1)).trans (h2 j hj)⟩

attribute [local go_sem ↓] ixP_eq lvIndexed_eq svIndexed_eq lvAttesterSlashing_eq svAttesterSlashing_eq bdAttesterSlashing_eq

set_option maxRecDepth 20000 in
set_option maxHeartbeats 2000000 in
theorem readAttesterSlashing_no (m : Nat → Int) (ao : Option Addr) (len cap : Nat) (w : World) (hb : Bys w ao len cap m) (hm : ∀ j, 0 ≤ m j ∧ m j < 256) (hlc : len ≤ cap) (hcap : cap ≤ 9223372036854775807) (hlen : len ≤ 140737488351232) (hE : eA m len ≠ 0) :
    Calls Tryz.prog 16 #[.slice ao len cap] w fun e w' => e = .returned (.tuple #[.agg (cel (sAttesterSlashing oAttesterSlashing)), .int .i64 (eA m len)]) ∧ Below w.heap.size w w' := by
  have z := zeroAttesterSlashing
  obtain ⟨W1, hW1⟩ : ∃ W, w.alloc (.cells (cel (sAttesterSlashing oAttesterSlashing)) 48) = W := ⟨_, rfl⟩
  obtain ⟨W2, hW2⟩ : ∃ W, W1.alloc (.cells (vs .i64 2 zA) 3) = W := ⟨_, rfl⟩
  have hB1 : Below w.heap.size w W1 := by rw [← hW1]; exact (Below.refl _ _).alloc (Nat.le_refl _) _
  have z1 : W1.heap.size = w.heap.size + 1 := by rw [← hW1]; simp
  have z2 : W2.heap.size = w.heap.size + 2 := by rw [← hW2]; simp [z1]
  have hB2 : Below w.heap.size w W2 := by rw [← hW2]; exact hB1.alloc (by omega) _
  have r1 : W1.heap[w.heap.size]? = some (.cells (cel (sAttesterSlashing oAttesterSlashing)) 48) := by rw [← hW1]; exact heap_new rfl
  have r2 : W2.heap[w.heap.size]? = some (.cells (cel (sAttesterSlashing oAttesterSlashing)) 48) := by rw [← hW2]; exact (heap_old (by omega)).trans r1
  have g2 : W2.heap[W1.heap.size]? = some (.cells (vs .i64 2 zA) 3) := by rw [← hW2]; exact heap_new rfl
  have hsz : Calls Tryz.prog 43 #[] W1 fun e w' => e = .returned (.slice (some ⟨W1.heap.size, 0, none⟩) 2 2) ∧ w' = W2 := by rw [← hW2]; exact aasz_any W1
  have hcut := cutA_no m ao len cap W1.heap.size W2 (hb.below hB2) hm hlen hlc hcap g2 hE
  obtain ⟨y, ey⟩ : ∃ y, w.heap.size = y := ⟨_, rfl⟩
  obtain ⟨y1, ey1⟩ : ∃ y, W1.heap.size = y := ⟨_, rfl⟩
  rw [ey1] at hcut hsz
  have hy : y < W2.heap.size := by omega
  rw [ey] at r2
  have HCUT := hid hcut
  have HSZ := hid hsz
  have R2 := hid r2
  have HB2 := hid hB2
  have HY := hid hy
  have EY := hid ey
  clear hcut hsz r2 hB2 hy r1 g2 hB1 z1 z2 hlc hcap hb hlen
  go_enter Tryz.func16, Tryz.ntmps16
  obtain ⟨E, eE⟩ : ∃ E, eA m len = E := ⟨_, rfl⟩
  rw [eE] at HCUT hE ⊢
  have q0 : (E != 0) = true := by rw [bne_iff_ne]; exact hE
  clear eE hE
  go_upto_region 2 with (first
    | (go_at_call 43; refine HSZ.out.mono ?_; rintro e w0 ⟨rfl, hw0⟩; obtain rfl := hw0.symm)
    | (go_at_call 37; refine HCUT.out.mono ?_; rintro e w1 ⟨a1, rfl, hb1⟩))
  clear hW1 hW2 ey ey1
  have rr := (hb1.block _ HY.out).trans R2.out
  have sv := svAttesterSlashing_run rr oAttesterSlashing
  have bd := bdAttesterSlashing_0
  have RR := hid rr
  have HB1 := hid hb1
  clear rr hb1
  go_wp2
  refine retAttesterSlashing _ _ y oAttesterSlashing 48 _ rfl rfl rfl rfl (setRow_at RR.out) ⟨rfl, ?_⟩
  have e0 := EY.out
  have e1 := HB2.out.size
  exact below_row (HB2.out.trans (HB1.out.mono (by omega))) (by omega) _

set_option maxRecDepth 20000 in
set_option maxHeartbeats 2000000 in
theorem readAttesterSlashing_bad0 (m : Nat → Int) (ao : Option Addr) (len cap : Nat) (w : World) (hb : Bys w ao len cap m) (hm : ∀ j, 0 ≤ m j ∧ m j < 256) (hlc : len ≤ cap) (hcap : cap ≤ 9223372036854775807) (hlen : len ≤ 140737488351232) (hA : eA m len = 0) (E : Int) (hE : E ≠ 0) (v0 : VIndexed) (h0 : ∀ W a c, Bys W a (pA m len 0) c (fA m 0) → pA m len 0 ≤ c → c ≤ 9223372036854775807 → Calls Tryz.prog 19 #[.slice a (pA m len 0) c] W fun e w' => ∃ a' c', e = .returned (.tuple #[.agg (cel (sIndexed (ati v0 a' c'))), .int .i64 E]) ∧ Z.Nms .u64 w' a' v0.n v0.zs ∧ Frs W.heap.size a' ∧ Below W.heap.size W w') :
    Calls Tryz.prog 16 #[.slice ao len cap] w fun e w' => e = .returned (.tuple #[.agg (cel (sAttesterSlashing oAttesterSlashing)), .int .i64 E]) ∧ Below w.heap.size w w' := by
  have z := zeroAttesterSlashing
  obtain ⟨W1, hW1⟩ : ∃ W, w.alloc (.cells (cel (sAttesterSlashing oAttesterSlashing)) 48) = W := ⟨_, rfl⟩
  obtain ⟨W2, hW2⟩ : ∃ W, W1.alloc (.cells (vs .i64 2 zA) 3) = W := ⟨_, rfl⟩
  have hB1 : Below w.heap.size w W1 := by rw [← hW1]; exact (Below.refl _ _).alloc (Nat.le_refl _) _
  have z1 : W1.heap.size = w.heap.size + 1 := by rw [← hW1]; simp
  have z2 : W2.heap.size = w.heap.size + 2 := by rw [← hW2]; simp [z1]
  have hB2 : Below w.heap.size w W2 := by rw [← hW2]; exact hB1.alloc (by omega) _
  have r1 : W1.heap[w.heap.size]? = some (.cells (cel (sAttesterSlashing oAttesterSlashing)) 48) := by rw [← hW1]; exact heap_new rfl
  have r2 : W2.heap[w.heap.size]? = some (.cells (cel (sAttesterSlashing oAttesterSlashing)) 48) := by rw [← hW2]; exact (heap_old (by omega)).trans r1
  have g2 : W2.heap[W1.heap.size]? = some (.cells (vs .i64 2 zA) 3) := by rw [← hW2]; exact heap_new rfl
  have hsz : Calls Tryz.prog 43 #[] W1 fun e w' => e = .returned (.slice (some ⟨W1.heap.size, 0, none⟩) 2 2) ∧ w' = W2 := by rw [← hW2]; exact aasz_any W1
  have hcut := cutA_ok m ao len cap W1.heap.size W2 (hb.below hB2) hm hlen hlc hcap g2 hA
  have hps := pA_sum hA
  have HPB := hid (show pA m len 0 ≤ 9223372036854775807 ∧ pA m len 1 ≤ 9223372036854775807 by omega)
  obtain ⟨y, ey⟩ : ∃ y, w.heap.size = y := ⟨_, rfl⟩
  obtain ⟨y1, ey1⟩ : ∃ y, W1.heap.size = y := ⟨_, rfl⟩
  rw [ey1] at hcut hsz
  have hy : y < W2.heap.size := by omega
  rw [ey] at r2
  have HCUT := hid hcut
  have HSZ := hid hsz
  have R2 := hid r2
  have HB2 := hid hB2
  have HY := hid hy
  have EY := hid ey
  clear hcut hsz r2 hB2 hy r1 g2 hB1 z1 z2 hlc hcap hb hlen
  obtain ⟨P0, eP0⟩ : ∃ P, pA m len 0 = P := ⟨_, rfl⟩
  obtain ⟨P1, eP1⟩ : ∃ P, pA m len 1 = P := ⟨_, rfl⟩
  rw [eP0, eP1] at HPB
  rw [eP0] at h0
  have q9 : (E != 0) = true := by rw [bne_iff_ne]; exact hE
  go_enter Tryz.func16, Tryz.ntmps16
  rw [eP0, eP1] at HCUT
  go_upto_region 2 with (first
    | (go_at_call 43; refine HSZ.out.mono ?_; rintro e w0 ⟨rfl, hw0⟩; obtain rfl := hw0.symm)
    | (go_at_call 37; refine HCUT.out.mono ?_; rintro e w1 ⟨gp, o, A0, A1, rfl, hgp, l0, q0, l1, q1, hb1⟩))
  clear hW1 hW2 ey ey1
  have ix0 : ∀ X : World, (ixP (.slice (some ⟨gp, o, none⟩) 2 2) (.int .i64 0)).run Tryz.prog X = .ok (.pointer (some ⟨gp, o, none⟩)) X := fun X => ixP_run X gp o 2 2 0 (by omega)
  have ix1 : ∀ X : World, (ixP (.slice (some ⟨gp, o, none⟩) 2 2) (.int .i64 1)).run Tryz.prog X = .ok (.pointer (some ⟨gp, o + 1, none⟩)) X := fun X => ixP_run X gp o 2 2 1 (by omega)
  obtain ⟨o1, eo1⟩ : ∃ p, o + 1 = p := ⟨_, rfl⟩
  rw [eo1] at ix1 l1
  have zI' := zeroIndexed
  have svi := fun W v => svIndexed_newv W oIndexed v
  have HC0 := hid (h0 w1 A0 P0 q0 (Nat.le_refl _) HPB.out.1)
  have HR2 := hid ((hb1.block _ HY.out).trans R2.out)
  have HY2 := hid (show y < w1.heap.size from Nat.lt_of_lt_of_le HY.out hb1.size)
  have HB1 := hid hb1
  have L1 := hid l1
  have Q1 := hid q1
  have HGP := hid hgp
  clear q0 hb1 l1 q1 hgp eo1 hps
  go_upto_region 5 with (go_at_call 19; refine HC0.out.mono ?_; rintro e w2 ⟨a0, c0, rfl, hn0, hf0, hbx⟩)
  obtain ⟨Y1, hY⟩ : ∃ Y, w2.alloc (.cells (cel (sIndexed (ati v0 a0 c0))) 46) = Y := ⟨_, rfl⟩
  rw [hY]
  have rY1 : Y1.heap[w2.heap.size]? = some (.cells (cel (sIndexed (ati v0 a0 c0))) 46) := by rw [← hY]; exact heap_new rfl
  have kY1 : Below w2.heap.size w2 Y1 := by rw [← hY]; exact (Below.refl _ _).alloc (Nat.le_refl _) _
  obtain ⟨b1, eb⟩ : ∃ b, w2.heap.size = b := ⟨_, rfl⟩
  rw [eb] at rY1 ⊢
  have RY1 := hid rY1
  have B1 := hid (hbx.trans (kY1.mono hbx.size))
  clear hbx kY1 rY1 hY eb l0 hn0 hf0 z zI' svi
  have RR := hid ((B1.out.block y HY2.out).trans HR2.out)
  have sv := svAttesterSlashing_run RR.out oAttesterSlashing
  have bd := bdAttesterSlashing_0
  go_wp2
  refine retAttesterSlashing _ _ y oAttesterSlashing 48 _ rfl rfl rfl rfl (setRow_at RR.out) ⟨rfl, ?_⟩
  have e0 := EY.out
  have e1 := HB2.out.size
  have e2 := HB1.out.size
  exact below_row (HB2.out.trans ((HB1.out.mono (by omega)).trans (B1.out.mono (by omega)))) (by omega) _

set_option maxRecDepth 20000 in
set_option maxHeartbeats 2000000 in
theorem readAttesterSlashing_bad1 (m : Nat → Int) (ao : Option Addr) (len cap : Nat) (w : World) (hb : Bys w ao len cap m) (hm : ∀ j, 0 ≤ m j ∧ m j < 256) (hlc : len ≤ cap) (hcap : cap ≤ 9223372036854775807) (hlen : len ≤ 140737488351232) (hA : eA m len = 0) (E : Int) (hE : E ≠ 0) (v0 : VIndexed) (h0 : ∀ W a c, Bys W a (pA m len 0) c (fA m 0) → pA m len 0 ≤ c → c ≤ 9223372036854775807 → Calls Tryz.prog 19 #[.slice a (pA m len 0) c] W fun e w' => ∃ a' c', e = .returned (.tuple #[.agg (cel (sIndexed (ati v0 a' c'))), .int .i64 0]) ∧ Z.Nms .u64 w' a' v0.n v0.zs ∧ Frs W.heap.size a' ∧ Below W.heap.size W w') (v1 : VIndexed) (h1 : ∀ W a c, Bys W a (pA m len 1) c (fA m 1) → pA m len 1 ≤ c → c ≤ 9223372036854775807 → Calls Tryz.prog 19 #[.slice a (pA m len 1) c] W fun e w' => ∃ a' c', e = .returned (.tuple #[.agg (cel (sIndexed (ati v1 a' c'))), .int .i64 E]) ∧ Z.Nms .u64 w' a' v1.n v1.zs ∧ Frs W.heap.size a' ∧ Below W.heap.size W w') :
    Calls Tryz.prog 16 #[.slice ao len cap] w fun e w' => e = .returned (.tuple #[.agg (cel (sAttesterSlashing oAttesterSlashing)), .int .i64 E]) ∧ Below w.heap.size w w' := by
  have z := zeroAttesterSlashing
  obtain ⟨W1, hW1⟩ : ∃ W, w.alloc (.cells (cel (sAttesterSlashing oAttesterSlashing)) 48) = W := ⟨_, rfl⟩
  obtain ⟨W2, hW2⟩ : ∃ W, W1.alloc (.cells (vs .i64 2 zA) 3) = W := ⟨_, rfl⟩
  have hB1 : Below w.heap.size w W1 := by rw [← hW1]; exact (Below.refl _ _).alloc (Nat.le_refl _) _
  have z1 : W1.heap.size = w.heap.size + 1 := by rw [← hW1]; simp
  have z2 : W2.heap.size = w.heap.size + 2 := by rw [← hW2]; simp [z1]
  have hB2 : Below w.heap.size w W2 := by rw [← hW2]; exact hB1.alloc (by omega) _
  have r1 : W1.heap[w.heap.size]? = some (.cells (cel (sAttesterSlashing oAttesterSlashing)) 48) := by rw [← hW1]; exact heap_new rfl
  have r2 : W2.heap[w.heap.size]? = some (.cells (cel (sAttesterSlashing oAttesterSlashing)) 48) := by rw [← hW2]; exact (heap_old (by omega)).trans r1
  have g2 : W2.heap[W1.heap.size]? = some (.cells (vs .i64 2 zA) 3) := by rw [← hW2]; exact heap_new rfl
  have hsz : Calls Tryz.prog 43 #[] W1 fun e w' => e = .returned (.slice (some ⟨W1.heap.size, 0, none⟩) 2 2) ∧ w' = W2 := by rw [← hW2]; exact aasz_any W1
  have hcut := cutA_ok m ao len cap W1.heap.size W2 (hb.below hB2) hm hlen hlc hcap g2 hA
  have hps := pA_sum hA
  have HPB := hid (show pA m len 0 ≤ 9223372036854775807 ∧ pA m len 1 ≤ 9223372036854775807 by omega)
  obtain ⟨y, ey⟩ : ∃ y, w.heap.size = y := ⟨_, rfl⟩
  obtain ⟨y1, ey1⟩ : ∃ y, W1.heap.size = y := ⟨_, rfl⟩
  rw [ey1] at hcut hsz
  have hy : y < W2.heap.size := by omega
  rw [ey] at r2
  have HCUT := hid hcut
  have HSZ := hid hsz
  have R2 := hid r2
  have HB2 := hid hB2
  have HY := hid hy
  have EY := hid ey
  clear hcut hsz r2 hB2 hy r1 g2 hB1 z1 z2 hlc hcap hb hlen
  obtain ⟨P0, eP0⟩ : ∃ P, pA m len 0 = P := ⟨_, rfl⟩
  obtain ⟨P1, eP1⟩ : ∃ P, pA m len 1 = P := ⟨_, rfl⟩
  rw [eP0, eP1] at HPB
  rw [eP0] at h0
  rw [eP1] at h1
  have q9 : (E != 0) = true := by rw [bne_iff_ne]; exact hE
  go_enter Tryz.func16, Tryz.ntmps16
  rw [eP0, eP1] at HCUT
  go_upto_region 2 with (first
    | (go_at_call 43; refine HSZ.out.mono ?_; rintro e w0 ⟨rfl, hw0⟩; obtain rfl := hw0.symm)
    | (go_at_call 37; refine HCUT.out.mono ?_; rintro e w1 ⟨gp, o, A0, A1, rfl, hgp, l0, q0, l1, q1, hb1⟩))
  clear hW1 hW2 ey ey1
  have ix0 : ∀ X : World, (ixP (.slice (some ⟨gp, o, none⟩) 2 2) (.int .i64 0)).run Tryz.prog X = .ok (.pointer (some ⟨gp, o, none⟩)) X := fun X => ixP_run X gp o 2 2 0 (by omega)
  have ix1 : ∀ X : World, (ixP (.slice (some ⟨gp, o, none⟩) 2 2) (.int .i64 1)).run Tryz.prog X = .ok (.pointer (some ⟨gp, o + 1, none⟩)) X := fun X => ixP_run X gp o 2 2 1 (by omega)
  obtain ⟨o1, eo1⟩ : ∃ p, o + 1 = p := ⟨_, rfl⟩
  rw [eo1] at ix1 l1
  have zI' := zeroIndexed
  have svi := fun W v => svIndexed_newv W oIndexed v
  have HC0 := hid (h0 w1 A0 P0 q0 (Nat.le_refl _) HPB.out.1)
  have HR2 := hid ((hb1.block _ HY.out).trans R2.out)
  have HY2 := hid (show y < w1.heap.size from Nat.lt_of_lt_of_le HY.out hb1.size)
  have HB1 := hid hb1
  have L1 := hid l1
  have Q1 := hid q1
  have HGP := hid hgp
  clear q0 hb1 l1 q1 hgp eo1 hps
  go_upto_region 7 with (go_at_call 19; refine HC0.out.mono ?_; rintro e w2 ⟨a0, c0, rfl, hn0, hf0, hbx⟩)
  obtain ⟨Y1, hY⟩ : ∃ Y, w2.alloc (.cells (cel (sIndexed (ati v0 a0 c0))) 46) = Y := ⟨_, rfl⟩
  rw [hY]
  have rY1 : Y1.heap[w2.heap.size]? = some (.cells (cel (sIndexed (ati v0 a0 c0))) 46) := by rw [← hY]; exact heap_new rfl
  have kY1 : Below w2.heap.size w2 Y1 := by rw [← hY]; exact (Below.refl _ _).alloc (Nat.le_refl _) _
  obtain ⟨b1, eb⟩ : ∃ b, w2.heap.size = b := ⟨_, rfl⟩
  rw [eb] at rY1 ⊢
  have RY1 := hid rY1
  have B1 := hid (hbx.trans (kY1.mono hbx.size))
  have HN0 := hid hn0
  have HF0 := hid hf0
  have KA := hid kY1
  clear hbx kY1 rY1 hY eb l0 hn0 hf0
  have l1 := (below_cell B1.out HGP.out).trans L1.out
  have HC1 := hid (h1 Y1 A1 P1 (Q1.out.below B1.out) (Nat.le_refl _) HPB.out.2)
  go_upto_region 8 with (go_at_call 19; refine HC1.out.mono ?_; rintro e w3 ⟨a1, c1, rfl, hn1, hf1, hbx⟩)
  obtain ⟨Y2, hY⟩ : ∃ Y, w3.alloc (.cells (cel (sIndexed (ati v1 a1 c1))) 46) = Y := ⟨_, rfl⟩
  rw [hY]
  have rY2 : Y2.heap[w3.heap.size]? = some (.cells (cel (sIndexed (ati v1 a1 c1))) 46) := by rw [← hY]; exact heap_new rfl
  have kY2 : Below w3.heap.size w3 Y2 := by rw [← hY]; exact (Below.refl _ _).alloc (Nat.le_refl _) _
  obtain ⟨b2, eb⟩ : ∃ b, w3.heap.size = b := ⟨_, rfl⟩
  rw [eb] at rY2 ⊢
  have RY2 := hid rY2
  have B2 := hid (B1.out.trans ((hbx.trans (kY2.mono hbx.size)).mono B1.out.size))
  clear hbx kY2 rY2 hY eb l1 hn1 hf1 z zI' svi
  have RR := hid ((B2.out.block y HY2.out).trans HR2.out)
  have sv := svAttesterSlashing_run RR.out oAttesterSlashing
  have bd := bdAttesterSlashing_0
  go_wp2
  refine retAttesterSlashing _ _ y oAttesterSlashing 48 _ rfl rfl rfl rfl (setRow_at RR.out) ⟨rfl, ?_⟩
  have e0 := EY.out
  have e1 := HB2.out.size
  have e2 := HB1.out.size
  exact below_row (HB2.out.trans ((HB1.out.mono (by omega)).trans (B2.out.mono (by omega)))) (by omega) _

set_option maxRecDepth 20000 in
set_option maxHeartbeats 2000000 in
theorem readAttesterSlashing_ok (m : Nat → Int) (ao : Option Addr) (len cap : Nat) (w : World) (hb : Bys w ao len cap m) (hm : ∀ j, 0 ≤ m j ∧ m j < 256) (hlc : len ≤ cap) (hcap : cap ≤ 9223372036854775807) (hlen : len ≤ 140737488351232) (hA : eA m len = 0) (v0 : VIndexed) (h0 : ∀ W a c, Bys W a (pA m len 0) c (fA m 0) → pA m len 0 ≤ c → c ≤ 9223372036854775807 → Calls Tryz.prog 19 #[.slice a (pA m len 0) c] W fun e w' => ∃ a' c', e = .returned (.tuple #[.agg (cel (sIndexed (ati v0 a' c'))), .int .i64 0]) ∧ Z.Nms .u64 w' a' v0.n v0.zs ∧ Frs W.heap.size a' ∧ Below W.heap.size W w') (v1 : VIndexed) (h1 : ∀ W a c, Bys W a (pA m len 1) c (fA m 1) → pA m len 1 ≤ c → c ≤ 9223372036854775807 → Calls Tryz.prog 19 #[.slice a (pA m len 1) c] W fun e w' => ∃ a' c', e = .returned (.tuple #[.agg (cel (sIndexed (ati v1 a' c'))), .int .i64 0]) ∧ Z.Nms .u64 w' a' v1.n v1.zs ∧ Frs W.heap.size a' ∧ Below W.heap.size W w') :
    Calls Tryz.prog 16 #[.slice ao len cap] w fun e w' => ∃ a0 c0 a1 c1, e = .returned (.tuple #[.agg (cel (sAttesterSlashing ⟨ati v0 a0 c0, ati v1 a1 c1⟩)), .int .i64 0]) ∧ Z.Nms .u64 w' a0 v0.n v0.zs ∧ Z.Nms .u64 w' a1 v1.n v1.zs ∧ Below w.heap.size w w' := by
  have z := zeroAttesterSlashing
  obtain ⟨W1, hW1⟩ : ∃ W, w.alloc (.cells (cel (sAttesterSlashing oAttesterSlashing)) 48) = W := ⟨_, rfl⟩
  obtain ⟨W2, hW2⟩ : ∃ W, W1.alloc (.cells (vs .i64 2 zA) 3) = W := ⟨_, rfl⟩
  have hB1 : Below w.heap.size w W1 := by rw [← hW1]; exact (Below.refl _ _).alloc (Nat.le_refl _) _
  have z1 : W1.heap.size = w.heap.size + 1 := by rw [← hW1]; simp
  have z2 : W2.heap.size = w.heap.size + 2 := by rw [← hW2]; simp [z1]
  have hB2 : Below w.heap.size w W2 := by rw [← hW2]; exact hB1.alloc (by omega) _
  have r1 : W1.heap[w.heap.size]? = some (.cells (cel (sAttesterSlashing oAttesterSlashing)) 48) := by rw [← hW1]; exact heap_new rfl
  have r2 : W2.heap[w.heap.size]? = some (.cells (cel (sAttesterSlashing oAttesterSlashing)) 48) := by rw [← hW2]; exact (heap_old (by omega)).trans r1
  have g2 : W2.heap[W1.heap.size]? = some (.cells (vs .i64 2 zA) 3) := by rw [← hW2]; exact heap_new rfl
  have hsz : Calls Tryz.prog 43 #[] W1 fun e w' => e = .returned (.slice (some ⟨W1.heap.size, 0, none⟩) 2 2) ∧ w' = W2 := by rw [← hW2]; exact aasz_any W1
  have hcut := cutA_ok m ao len cap W1.heap.size W2 (hb.below hB2) hm hlen hlc hcap g2 hA
  have hps := pA_sum hA
  have HPB := hid (show pA m len 0 ≤ 9223372036854775807 ∧ pA m len 1 ≤ 9223372036854775807 by omega)
  obtain ⟨y, ey⟩ : ∃ y, w.heap.size = y := ⟨_, rfl⟩
  obtain ⟨y1, ey1⟩ : ∃ y, W1.heap.size = y := ⟨_, rfl⟩
  rw [ey1] at hcut hsz
  have hy : y < W2.heap.size := by omega
  rw [ey] at r2
  have HCUT := hid hcut
  have HSZ := hid hsz
  have R2 := hid r2
  have HB2 := hid hB2
  have HY := hid hy
  have EY := hid ey
  clear hcut hsz r2 hB2 hy r1 g2 hB1 z1 z2 hlc hcap hb hlen
  obtain ⟨P0, eP0⟩ : ∃ P, pA m len 0 = P := ⟨_, rfl⟩
  obtain ⟨P1, eP1⟩ : ∃ P, pA m len 1 = P := ⟨_, rfl⟩
  rw [eP0, eP1] at HPB
  rw [eP0] at h0
  rw [eP1] at h1
  go_enter Tryz.func16, Tryz.ntmps16
  rw [eP0, eP1] at HCUT
  go_upto_region 2 with (first
    | (go_at_call 43; refine HSZ.out.mono ?_; rintro e w0 ⟨rfl, hw0⟩; obtain rfl := hw0.symm)
    | (go_at_call 37; refine HCUT.out.mono ?_; rintro e w1 ⟨gp, o, A0, A1, rfl, hgp, l0, q0, l1, q1, hb1⟩))
  clear hW1 hW2 ey ey1
  have ix0 : ∀ X : World, (ixP (.slice (some ⟨gp, o, none⟩) 2 2) (.int .i64 0)).run Tryz.prog X = .ok (.pointer (some ⟨gp, o, none⟩)) X := fun X => ixP_run X gp o 2 2 0 (by omega)
  have ix1 : ∀ X : World, (ixP (.slice (some ⟨gp, o, none⟩) 2 2) (.int .i64 1)).run Tryz.prog X = .ok (.pointer (some ⟨gp, o + 1, none⟩)) X := fun X => ixP_run X gp o 2 2 1 (by omega)
  obtain ⟨o1, eo1⟩ : ∃ p, o + 1 = p := ⟨_, rfl⟩
  rw [eo1] at ix1 l1
  have zI' := zeroIndexed
  have svi := fun W v => svIndexed_newv W oIndexed v
  have HC0 := hid (h0 w1 A0 P0 q0 (Nat.le_refl _) HPB.out.1)
  have HR2 := hid ((hb1.block _ HY.out).trans R2.out)
  have HY2 := hid (show y < w1.heap.size from Nat.lt_of_lt_of_le HY.out hb1.size)
  have HB1 := hid hb1
  have L1 := hid l1
  have Q1 := hid q1
  have HGP := hid hgp
  clear q0 hb1 l1 q1 hgp eo1 hps
  go_upto_region 7 with (go_at_call 19; refine HC0.out.mono ?_; rintro e w2 ⟨a0, c0, rfl, hn0, hf0, hbx⟩)
  obtain ⟨Y1, hY⟩ : ∃ Y, w2.alloc (.cells (cel (sIndexed (ati v0 a0 c0))) 46) = Y := ⟨_, rfl⟩
  rw [hY]
  have rY1 : Y1.heap[w2.heap.size]? = some (.cells (cel (sIndexed (ati v0 a0 c0))) 46) := by rw [← hY]; exact heap_new rfl
  have kY1 : Below w2.heap.size w2 Y1 := by rw [← hY]; exact (Below.refl _ _).alloc (Nat.le_refl _) _
  obtain ⟨b1, eb⟩ : ∃ b, w2.heap.size = b := ⟨_, rfl⟩
  rw [eb] at rY1 ⊢
  have RY1 := hid rY1
  have B1 := hid (hbx.trans (kY1.mono hbx.size))
  have HN0 := hid hn0
  have HF0 := hid hf0
  have KA := hid kY1
  clear hbx kY1 rY1 hY eb l0 hn0 hf0
  have l1 := (below_cell B1.out HGP.out).trans L1.out
  have HC1 := hid (h1 Y1 A1 P1 (Q1.out.below B1.out) (Nat.le_refl _) HPB.out.2)
  go_upto_region 10 with (go_at_call 19; refine HC1.out.mono ?_; rintro e w3 ⟨a1, c1, rfl, hn1, hf1, hbx⟩)
  obtain ⟨Y2, hY⟩ : ∃ Y, w3.alloc (.cells (cel (sIndexed (ati v1 a1 c1))) 46) = Y := ⟨_, rfl⟩
  rw [hY]
  have rY2 : Y2.heap[w3.heap.size]? = some (.cells (cel (sIndexed (ati v1 a1 c1))) 46) := by rw [← hY]; exact heap_new rfl
  have kY2 : Below w3.heap.size w3 Y2 := by rw [← hY]; exact (Below.refl _ _).alloc (Nat.le_refl _) _
  obtain ⟨b2, eb⟩ : ∃ b, w3.heap.size = b := ⟨_, rfl⟩
  rw [eb] at rY2 ⊢
  have RY2 := hid rY2
  have K2 := hid (hbx.trans (kY2.mono hbx.size))
  have B2 := hid (B1.out.trans (K2.out.mono B1.out.size))
  have HN1 := hid (hn1.below kY2)
  have HF1 := hid hf1
  have HN0' := hid (HN0.out.below (KA.out.trans (K2.out.mono KA.out.size)))
  have q1 := (K2.out.block b1 (Array.getElem?_eq_some_iff.1 RY1.out).1).trans RY1.out
  have ll0 := lvIndexed_mid (x := ati v0 a0 c0) q1 0 (take_all _) rfl
  have ll1 := lvIndexed_mid (x := ati v1 a1 c1) RY2.out 0 (take_all _) rfl
  have RR := hid ((B2.out.block y HY2.out).trans HR2.out)
  obtain ⟨u0, eu0⟩ : ∃ u, ati v0 a0 c0 = u := ⟨_, rfl⟩
  obtain ⟨u1, eu1⟩ : ∃ u, ati v1 a1 c1 = u := ⟨_, rfl⟩
  rw [eu0] at ll0
  rw [eu1] at ll1
  have bd := bdAttesterSlashing_2 Y2 u0 u1
  obtain ⟨vv, ev⟩ : ∃ v : VAttesterSlashing, ⟨u0, u1⟩ = v := ⟨_, rfl⟩
  rw [ev] at bd
  have sv := svAttesterSlashing_run RR.out vv
  have EV := hid (And.intro eu0 (And.intro eu1 ev))
  clear hbx kY2 rY2 hY eb l1 hn1 hf1 z zI' svi q1 eu0 eu1 ev
  go_wp2
  refine retAttesterSlashing _ _ y vv 48 _ rfl rfl rfl rfl (setRow_at RR.out) ⟨a0, c0, a1, c1, ?_, ?_, ?_, ?_⟩
  · obtain ⟨h1, h2, h3⟩ := EV.out
    rw [h1, h2, h3]
    rfl
  · have h1 := HY2.out
    exact nms_set HN0'.out HF0.out (by simp) (fun b hb1 hb2 => setRow_other _ y b _ (by omega))
  · have h1 := HY2.out
    have h2 := B1.out.size
    exact nms_set HN1.out HF1.out (by simp) (fun b hb1 hb2 => setRow_other _ y b _ (by omega))
  have e0 := EY.out
  have e1 := HB2.out.size
  have e2 := HB1.out.size
  exact below_row (HB2.out.trans ((HB1.out.mono (by omega)).trans (B2.out.mono (by omega)))) (by omega) _

end Go.Proofs.YtokbhcgooboocaaGreatDoor

namespace Go.Proofs.YtokbhcgooboocaaGreatDoor
open Go.RowKit
set_option linter.unusedVariables false
set_option linter.unusedSimpArgs false
set_option maxRecDepth 20000

theorem rcutA_no (m : Nat → Int) (ao : Option Addr) (len cap sa : Nat) (w : World) (hb : Bys w ao len cap m) (hm : ∀ j, 0 ≤ m j ∧ m j < 256) (hlen : len ≤ 140737488351232) (hlc : len ≤ cap) (hcap : cap ≤ 9223372036854775807) (g2 : w.heap[sa]? = some (.cells (vs .i64 2 zA) 3)) (h : eA m len ≠ 0) :
    Calls Tryz.prog 40 #[.slice ao len cap, .slice (some ⟨sa, 0, none⟩) 2 2] w fun e w' => ∃ a1 c1, e = .returned (.tuple #[.slice a1 0 c1, .int .i64 (eA m len)]) ∧ Below w.heap.size w w' := by
  refine (Z.rcutF_wide zA m ao len cap (some ⟨sa, 0, none⟩) 2 2 w hb hm hlen hlc hcap (nmsA g2) (by omega)).mono ?_
  rintro e w' ⟨a', N', c', A', C', rfl, h1, h2, h3, h8⟩
  have hN' : N' = 0 := h1.trans (if_neg h)
  subst hN'
  exact ⟨a', c', rfl, h3⟩
theorem rcutA_ok (m : Nat → Int) (ao : Option Addr) (len cap sa : Nat) (w : World) (hb : Bys w ao len cap m) (hm : ∀ j, 0 ≤ m j ∧ m j < 256) (hlen : len ≤ 140737488351232) (hlc : len ≤ cap) (hcap : cap ≤ 9223372036854775807) (g2 : w.heap[sa]? = some (.cells (vs .i64 2 zA) 3)) (h : eA m len = 0) :
    Calls Tryz.prog 40 #[.slice ao len cap, .slice (some ⟨sa, 0, none⟩) 2 2] w fun e w' => ∃ gp o cp A0 C0 A1 C1, e = .returned (.tuple #[.slice (some ⟨gp, o, none⟩) 2 cp, .int .i64 0]) ∧ gp < w'.heap.size ∧ (w'.cell? ⟨gp, o, none⟩ = some (.slice A0 (pA m len 0) C0) ∧ Bys w' A0 (pA m len 0) C0 (fA m 0) ∧ Frs w.heap.size A0) ∧ (w'.cell? ⟨gp, o + 1, none⟩ = some (.slice A1 (pA m len 1) C1) ∧ Bys w' A1 (pA m len 1) C1 (fA m 1) ∧ Frs w.heap.size A1) ∧ Below w.heap.size w w' := by
  have hc := Z.rcutF_wide zA m ao len cap (some ⟨sa, 0, none⟩) 2 2 w hb hm hlen hlc hcap (nmsA g2) (by omega)
  refine hc.mono ?_
  rintro e w' ⟨a', N', c', A', C', rfl, h1, h2, h3, h8⟩
  have h0 : Z.cutE zA m 2 len = 0 := h
  rw [h0] at h1 ⊢
  rw [if_pos rfl] at h1
  subst h1
  rcases h2 with h2 | ⟨b, off, rfl, h4, h5⟩
  · omega
  obtain ⟨h6, h7⟩ := h5 0 (by omega)
  obtain ⟨h9, h10⟩ := h5 1 (by omega)
  exact ⟨b, off, c', A' 0, C' 0, A' 1, C' 1, rfl, h4, ⟨h6, h7, h8 0 (by omega)⟩, ⟨h9, h10, h8 1 (by omega)⟩, h3⟩
theorem cel_noA {w : World} {g gp j : Nat} {t : TypeId} {a : Addr} {n c : Nat} (h : w.heap[g]? = some (.cells (cel (sAttesterSlashing oAttesterSlashing)) t)) (hc : w.cell? ⟨gp, j, none⟩ = some (.slice (some a) n c)) : gp ≠ g := by
  intro e
  subst e
  rw [row_cell h] at hc
  unfold cel at hc
  rw [List.getElem?_toArray] at hc
  have hm := List.mem_of_getElem? hc
  have hm' : Value.slice (some a) n c ∈ ([Value.slice none 0 0] ++ celL (sData oData ++ [.by 96 fun _ => 0])) ++ ([Value.slice none 0 0] ++ celL (sData oData ++ [.by 96 fun _ => 0])) := hm
  have key : Value.slice (some a) n c ∉ [Value.slice none 0 0] ++ celL (sData oData ++ [.by 96 fun _ => 0]) := by
    intro hk
    rw [List.mem_append] at hk
    rcases hk with h1 | h1
    · rw [List.mem_singleton] at h1
      cases h1
    · exact celL_no (some a) n c _ rfl h1
  rw [List.mem_append] at hm'
  rcases hm' with h1 | h1
  · exact key h1
  · exact key h1
theorem bys_kept {w X : World} {A : Option Addr} {L C g : Nat} {f : Nat → Int} (h : Bys w A L C f) (hf : ∀ b off, A = some ⟨b, off, none⟩ → b ≠ g) (hk : Kept g w X) : Bys X A L C f := by
  rcases h with h | h | ⟨b, off, h1, h2, h3, h4, h5⟩
  · exact .inl h
  · exact .inr (.inl h)
  · exact .inr (.inr ⟨b, off, h1, h2, h3, Nat.lt_of_lt_of_le h4 hk.size, fun j hj => (hk.cell h4 (hf b off h1)).trans (h5 j hj)⟩)
/-- The room of a part. -/
theorem cp_le {w : World} {A : Option Addr} {L C : Nat} {f : Nat → Int} (h : Bys w A L C f) : L ≤ C ∧ (0 < L → C ≤ 9223372036854775807) := ⟨by
  rcases h with ⟨_, h1, h2⟩ | ⟨_, _, h1⟩ | ⟨_, _, _, h1, _⟩
  · omega
  · omega
  · exact h1, fun h0 => bys_cap h h0⟩

attribute [local go_sem ↓] ixP_eq bsI_eq lvIndexed_eq svIndexed_eq lvAttesterSlashing_eq svAttesterSlashing_eq bdAttesterSlashing_eq

set_option maxHeartbeats 2000000 in
theorem rreadAttesterSlashing_no (m : Nat → Int) (ao : Option Addr) (len cap : Nat) (w : World) (hb : Bys w ao len cap m) (hm : ∀ j, 0 ≤ m j ∧ m j < 256) (hlc : len ≤ cap) (hcap : cap ≤ 9223372036854775807) (hlen : len ≤ 140737488351232) (hE : eA m len ≠ 0) :
    Calls Tryz.prog 17 #[.slice ao len cap] w fun e w' => e = .returned (.tuple #[.agg (cel (sAttesterSlashing oAttesterSlashing)), .int .i64 (eA m len)]) ∧ Below w.heap.size w w' := by
  have z := zeroAttesterSlashing
  obtain ⟨y, ey⟩ : ∃ y, w.heap.size = y := ⟨_, rfl⟩
  obtain ⟨W1, hW1⟩ : ∃ W, w.alloc (.cells (cel (sAttesterSlashing oAttesterSlashing)) 48) = W := ⟨_, rfl⟩
  obtain ⟨W2, hW2⟩ : ∃ W, W1.alloc (.cells (cel (sAttesterSlashing oAttesterSlashing)) 48) = W := ⟨_, rfl⟩
  obtain ⟨W3, hW3⟩ : ∃ W, W2.alloc (.cells (vs .i64 2 zA) 3) = W := ⟨_, rfl⟩
  have z1 : W1.heap.size = y + 1 := by rw [← hW1, ← ey]; simp
  have z2 : W2.heap.size = y + 2 := by rw [← hW2]; simp [z1]
  have z3 : W3.heap.size = y + 3 := by rw [← hW3]; simp [z2]
  have hB3 : Below w.heap.size w W3 := by rw [← hW3, ← hW2, ← hW1]; exact (((Below.refl _ _).alloc (Nat.le_refl _) _).alloc (by simp) _).alloc (by simp; omega) _
  have r1 : W3.heap[y]? = some (.cells (cel (sAttesterSlashing oAttesterSlashing)) 48) := by rw [← hW3]; refine (heap_old (by omega)).trans ?_; rw [← hW2]; refine (heap_old (by omega)).trans ?_; rw [← hW1]; exact heap_new ey.symm
  have r2 : W3.heap[y + 1]? = some (.cells (cel (sAttesterSlashing oAttesterSlashing)) 48) := by rw [← hW3]; refine (heap_old (by omega)).trans ?_; rw [← hW2]; exact heap_new z1.symm
  have g3 : W3.heap[y + 2]? = some (.cells (vs .i64 2 zA) 3) := by rw [← hW3]; exact heap_new z2.symm
  have bsi := bsI_zA W2
  rw [hW3, z2] at bsi
  have hcut := rcutA_no m ao len cap (y + 2) W3 (hb.below hB3) hm hlen hlc hcap g3 hE
  obtain ⟨g, eg⟩ : ∃ g, y + 1 = g := ⟨_, rfl⟩
  obtain ⟨u, eu⟩ : ∃ u, y + 2 = u := ⟨_, rfl⟩
  rw [eu] at bsi hcut
  rw [eg] at r2
  have HCUT := hid hcut
  have R1 := hid r1
  have R2 := hid r2
  have HB3 := hid hB3
  have EY := hid ey
  have EG := hid eg
  have Z3 := hid z3
  clear hcut r1 r2 hB3 g3 z3 hlc hcap hb
  obtain ⟨E, eE⟩ : ∃ E, eA m len = E := ⟨_, rfl⟩
  rw [eE] at HCUT hE ⊢
  have q0 : (E != 0) = true := by rw [bne_iff_ne]; exact hE
  clear eE hE hlen
  go_enter Tryz.func17, Tryz.ntmps17
  go_upto_region 3 with (go_at_call 40; refine HCUT.out.mono ?_; rintro e w1 ⟨a1, c1, rfl, hb1⟩)
  clear hW1 hW2 hW3 ey eg eu bsi z1 z2 z
  have z3 := Z3.out
  have e0 := EG.out
  have rr := (hb1.block y (by omega)).trans R1.out
  have rx := (hb1.block g (by omega)).trans R2.out
  have sv := svAttesterSlashing_run rr oAttesterSlashing
  have lv := lvAttesterSlashing_mid (x := oAttesterSlashing) rx 0 (take_all _) (slAttesterSlashing _)
  have RR := hid rr
  have HB1 := hid hb1
  clear rr hb1 rx z3 e0
  go_wp2
  refine retAttesterSlashing _ _ y oAttesterSlashing 48 _ rfl rfl rfl rfl (setRow_at RR.out) ⟨rfl, ?_⟩
  have e0 := EY.out
  have e1 := HB3.out.size
  exact below_row (HB3.out.trans (HB1.out.mono (by omega))) (by omega) _

set_option maxHeartbeats 2000000 in
theorem rreadAttesterSlashing_bad0 (m : Nat → Int) (ao : Option Addr) (len cap : Nat) (w : World) (hb : Bys w ao len cap m) (hm : ∀ j, 0 ≤ m j ∧ m j < 256) (hlc : len ≤ cap) (hcap : cap ≤ 9223372036854775807) (hlen : len ≤ 140737488351232) (hA : eA m len = 0) (E : Int) (hE : E ≠ 0) (v0 : VIndexed) (h0 : ∀ W a c, Bys W a (pA m len 0) c (fA m 0) → pA m len 0 ≤ c → (0 < pA m len 0 → c ≤ 9223372036854775807) → Calls Tryz.prog 47 #[.slice a (pA m len 0) c] W fun e w' => ∃ a' c', e = .returned (.tuple #[.agg (cel (sIndexed (ati v0 a' c'))), .int .i64 E]) ∧ Z.Nms .u64 w' a' v0.n v0.zs ∧ Frs W.heap.size a' ∧ Below W.heap.size W w') :
    Calls Tryz.prog 17 #[.slice ao len cap] w fun e w' => e = .returned (.tuple #[.agg (cel (sAttesterSlashing oAttesterSlashing)), .int .i64 E]) ∧ Below w.heap.size w w' := by
  have z := zeroAttesterSlashing
  obtain ⟨y, ey⟩ : ∃ y, w.heap.size = y := ⟨_, rfl⟩
  obtain ⟨W1, hW1⟩ : ∃ W, w.alloc (.cells (cel (sAttesterSlashing oAttesterSlashing)) 48) = W := ⟨_, rfl⟩
  obtain ⟨W2, hW2⟩ : ∃ W, W1.alloc (.cells (cel (sAttesterSlashing oAttesterSlashing)) 48) = W := ⟨_, rfl⟩
  obtain ⟨W3, hW3⟩ : ∃ W, W2.alloc (.cells (vs .i64 2 zA) 3) = W := ⟨_, rfl⟩
  have z1 : W1.heap.size = y + 1 := by rw [← hW1, ← ey]; simp
  have z2 : W2.heap.size = y + 2 := by rw [← hW2]; simp [z1]
  have z3 : W3.heap.size = y + 3 := by rw [← hW3]; simp [z2]
  have hB3 : Below w.heap.size w W3 := by rw [← hW3, ← hW2, ← hW1]; exact (((Below.refl _ _).alloc (Nat.le_refl _) _).alloc (by simp) _).alloc (by simp; omega) _
  have r1 : W3.heap[y]? = some (.cells (cel (sAttesterSlashing oAttesterSlashing)) 48) := by rw [← hW3]; refine (heap_old (by omega)).trans ?_; rw [← hW2]; refine (heap_old (by omega)).trans ?_; rw [← hW1]; exact heap_new ey.symm
  have r2 : W3.heap[y + 1]? = some (.cells (cel (sAttesterSlashing oAttesterSlashing)) 48) := by rw [← hW3]; refine (heap_old (by omega)).trans ?_; rw [← hW2]; exact heap_new z1.symm
  have g3 : W3.heap[y + 2]? = some (.cells (vs .i64 2 zA) 3) := by rw [← hW3]; exact heap_new z2.symm
  have bsi := bsI_zA W2
  rw [hW3, z2] at bsi
  have hcut := rcutA_ok m ao len cap (y + 2) W3 (hb.below hB3) hm hlen hlc hcap g3 hA
  obtain ⟨g, eg⟩ : ∃ g, y + 1 = g := ⟨_, rfl⟩
  obtain ⟨u, eu⟩ : ∃ u, y + 2 = u := ⟨_, rfl⟩
  rw [eu] at bsi hcut
  rw [eg] at r2
  have HCUT := hid hcut
  have R1 := hid r1
  have R2 := hid r2
  have HB3 := hid hB3
  have EY := hid ey
  have EG := hid eg
  have Z3 := hid z3
  clear hcut r1 r2 hB3 g3 z3 hlc hcap hb
  have hps := pA_sum hA
  obtain ⟨P0, eP0⟩ : ∃ P, pA m len 0 = P := ⟨_, rfl⟩
  obtain ⟨P1, eP1⟩ : ∃ P, pA m len 1 = P := ⟨_, rfl⟩
  rw [eP0, eP1] at HCUT hps
  rw [eP0] at h0
  have q9 : (E != 0) = true := by rw [bne_iff_ne]; exact hE
  clear hlen
  go_enter Tryz.func17, Tryz.ntmps17
  go_upto_region 3 with (go_at_call 40; refine HCUT.out.mono ?_; rintro e w1 ⟨gp, o, cp, A0, C0, A1, C1, rfl, hgp, ⟨l0, q0, f0⟩, ⟨l1, q1, f1⟩, hb1⟩)
  clear hW1 hW2 hW3 ey eg eu bsi z1 z2
  have ix0 : ∀ X : World, (ixP (.slice (some ⟨gp, o, none⟩) 2 cp) (.int .i64 0)).run Tryz.prog X = .ok (.pointer (some ⟨gp, o, none⟩)) X := fun X => ixP_run X gp o 2 cp 0 (by omega)
  have ix1 : ∀ X : World, (ixP (.slice (some ⟨gp, o, none⟩) 2 cp) (.int .i64 1)).run Tryz.prog X = .ok (.pointer (some ⟨gp, o + 1, none⟩)) X := fun X => ixP_run X gp o 2 cp 1 (by omega)
  obtain ⟨o1, eo1⟩ : ∃ p, o + 1 = p := ⟨_, rfl⟩
  rw [eo1] at ix1 l1
  have z3 := Z3.out
  have e0 := EG.out
  have hgw : g < w1.heap.size := by have := hb1.size; omega
  have rx : w1.heap[g]? = some (.cells (cel (sAttesterSlashing ⟨oIndexed, oIndexed⟩)) 48) := (hb1.block g (by omega)).trans R2.out
  have rr1 : w1.heap[y]? = some (.cells (cel (sAttesterSlashing oAttesterSlashing)) 48) := (hb1.block y (by omega)).trans R1.out
  have HRX := hid rx
  have HRY := hid rr1
  have HGW := hid hgw
  have HB1 := hid hb1
  have HYW := hid (show y < w1.heap.size by have := hb1.size; omega)
  have HC0 := hid (h0 w1 A0 C0 q0 (cp_le q0).1 (cp_le q0).2)
  clear rx rr1 hgw hb1 q0 f0 q1 f1 l1 hgp eo1 z3 e0 ix1 hps hA
  go_upto_region 6 with (go_at_call 47; refine HC0.out.mono ?_; rintro e w2 ⟨a0, c0, rfl, hn0, hf0, hbc⟩; have rg := (hbc.block g (Array.getElem?_eq_some_iff.1 HRX.out).1).trans HRX.out; have sv := svIndexed_mid rg 0 (ati v0 a0 c0) (by rw [cel_size, slAttesterSlashing]; omega); have RG := hid rg; have HBC := hid hbc; clear rg hbc)
  obtain ⟨V1, hV⟩ : ∃ V, w2.setCells g 0 (celL (sIndexed (ati v0 a0 c0))) = V := ⟨_, rfl⟩
  rw [hV]
  have KV1 : Hid (Kept g w1 V1) := by rw [← hV]; exact setCells_kept _ _ (Kept.ofBelow HBC.out)
  clear hV l0 sv RG HBC hn0 hf0
  have z3 := Z3.out
  have e0 := EG.out
  have RR := hid ((KV1.out.block y HYW.out (by omega)).trans HRY.out)
  have sv := svAttesterSlashing_run RR.out oAttesterSlashing
  have bd := bdAttesterSlashing_0
  clear z3 e0 z
  go_wp2
  refine retAttesterSlashing _ _ y oAttesterSlashing 48 _ rfl rfl rfl rfl (setRow_at RR.out) ⟨rfl, ?_⟩
  have e0 := EY.out
  have e1 := HB3.out.size
  have e2 := HB1.out.size
  have e3 := EG.out
  have z3 := Z3.out
  exact below_row (HB3.out.trans ((HB1.out.mono (by omega)).trans (KV1.out.below (by omega) (by omega)))) (by omega) _

set_option maxHeartbeats 2000000 in
theorem rreadAttesterSlashing_bad1 (m : Nat → Int) (ao : Option Addr) (len cap : Nat) (w : World) (hb : Bys w ao len cap m) (hm : ∀ j, 0 ≤ m j ∧ m j < 256) (hlc : len ≤ cap) (hcap : cap ≤ 9223372036854775807) (hlen : len ≤ 140737488351232) (hA : eA m len = 0) (E : Int) (hE : E ≠ 0) (hP0 : 0 < pA m len 0) (v0 : VIndexed) (h0 : ∀ W a c, Bys W a (pA m len 0) c (fA m 0) → pA m len 0 ≤ c → (0 < pA m len 0 → c ≤ 9223372036854775807) → Calls Tryz.prog 47 #[.slice a (pA m len 0) c] W fun e w' => ∃ a' c', e = .returned (.tuple #[.agg (cel (sIndexed (ati v0 a' c'))), .int .i64 0]) ∧ Z.Nms .u64 w' a' v0.n v0.zs ∧ Frs W.heap.size a' ∧ Below W.heap.size W w') (v1 : VIndexed) (h1 : ∀ W a c, Bys W a (pA m len 1) c (fA m 1) → pA m len 1 ≤ c → (0 < pA m len 1 → c ≤ 9223372036854775807) → Calls Tryz.prog 47 #[.slice a (pA m len 1) c] W fun e w' => ∃ a' c', e = .returned (.tuple #[.agg (cel (sIndexed (ati v1 a' c'))), .int .i64 E]) ∧ Z.Nms .u64 w' a' v1.n v1.zs ∧ Frs W.heap.size a' ∧ Below W.heap.size W w') :
    Calls Tryz.prog 17 #[.slice ao len cap] w fun e w' => e = .returned (.tuple #[.agg (cel (sAttesterSlashing oAttesterSlashing)), .int .i64 E]) ∧ Below w.heap.size w w' := by
  have z := zeroAttesterSlashing
  obtain ⟨y, ey⟩ : ∃ y, w.heap.size = y := ⟨_, rfl⟩
  obtain ⟨W1, hW1⟩ : ∃ W, w.alloc (.cells (cel (sAttesterSlashing oAttesterSlashing)) 48) = W := ⟨_, rfl⟩
  obtain ⟨W2, hW2⟩ : ∃ W, W1.alloc (.cells (cel (sAttesterSlashing oAttesterSlashing)) 48) = W := ⟨_, rfl⟩
  obtain ⟨W3, hW3⟩ : ∃ W, W2.alloc (.cells (vs .i64 2 zA) 3) = W := ⟨_, rfl⟩
  have z1 : W1.heap.size = y + 1 := by rw [← hW1, ← ey]; simp
  have z2 : W2.heap.size = y + 2 := by rw [← hW2]; simp [z1]
  have z3 : W3.heap.size = y + 3 := by rw [← hW3]; simp [z2]
  have hB3 : Below w.heap.size w W3 := by rw [← hW3, ← hW2, ← hW1]; exact (((Below.refl _ _).alloc (Nat.le_refl _) _).alloc (by simp) _).alloc (by simp; omega) _
  have r1 : W3.heap[y]? = some (.cells (cel (sAttesterSlashing oAttesterSlashing)) 48) := by rw [← hW3]; refine (heap_old (by omega)).trans ?_; rw [← hW2]; refine (heap_old (by omega)).trans ?_; rw [← hW1]; exact heap_new ey.symm
  have r2 : W3.heap[y + 1]? = some (.cells (cel (sAttesterSlashing oAttesterSlashing)) 48) := by rw [← hW3]; refine (heap_old (by omega)).trans ?_; rw [← hW2]; exact heap_new z1.symm
  have g3 : W3.heap[y + 2]? = some (.cells (vs .i64 2 zA) 3) := by rw [← hW3]; exact heap_new z2.symm
  have bsi := bsI_zA W2
  rw [hW3, z2] at bsi
  have hcut := rcutA_ok m ao len cap (y + 2) W3 (hb.below hB3) hm hlen hlc hcap g3 hA
  obtain ⟨g, eg⟩ : ∃ g, y + 1 = g := ⟨_, rfl⟩
  obtain ⟨u, eu⟩ : ∃ u, y + 2 = u := ⟨_, rfl⟩
  rw [eu] at bsi hcut
  rw [eg] at r2
  have HCUT := hid hcut
  have R1 := hid r1
  have R2 := hid r2
  have HB3 := hid hB3
  have EY := hid ey
  have EG := hid eg
  have Z3 := hid z3
  clear hcut r1 r2 hB3 g3 z3 hlc hcap hb
  have hps := pA_sum hA
  obtain ⟨P0, eP0⟩ : ∃ P, pA m len 0 = P := ⟨_, rfl⟩
  obtain ⟨P1, eP1⟩ : ∃ P, pA m len 1 = P := ⟨_, rfl⟩
  rw [eP0, eP1] at HCUT hps
  rw [eP0] at h0 hP0
  rw [eP1] at h1
  have q9 : (E != 0) = true := by rw [bne_iff_ne]; exact hE
  clear hlen
  go_enter Tryz.func17, Tryz.ntmps17
  go_upto_region 3 with (go_at_call 40; refine HCUT.out.mono ?_; rintro e w1 ⟨gp, o, cp, A0, C0, A1, C1, rfl, hgp, ⟨l0, q0, f0⟩, ⟨l1, q1, f1⟩, hb1⟩)
  clear hW1 hW2 hW3 ey eg eu bsi z1 z2
  have ix0 : ∀ X : World, (ixP (.slice (some ⟨gp, o, none⟩) 2 cp) (.int .i64 0)).run Tryz.prog X = .ok (.pointer (some ⟨gp, o, none⟩)) X := fun X => ixP_run X gp o 2 cp 0 (by omega)
  have ix1 : ∀ X : World, (ixP (.slice (some ⟨gp, o, none⟩) 2 cp) (.int .i64 1)).run Tryz.prog X = .ok (.pointer (some ⟨gp, o + 1, none⟩)) X := fun X => ixP_run X gp o 2 cp 1 (by omega)
  obtain ⟨o1, eo1⟩ : ∃ p, o + 1 = p := ⟨_, rfl⟩
  rw [eo1] at ix1 l1
  have z3 := Z3.out
  have e0 := EG.out
  have hgw : g < w1.heap.size := by have := hb1.size; omega
  have rx : w1.heap[g]? = some (.cells (cel (sAttesterSlashing ⟨oIndexed, oIndexed⟩)) 48) := (hb1.block g (by omega)).trans R2.out
  have rr1 : w1.heap[y]? = some (.cells (cel (sAttesterSlashing oAttesterSlashing)) 48) := (hb1.block y (by omega)).trans R1.out
  have HRX := hid rx
  have HRY := hid rr1
  have HGW := hid hgw
  have HB1 := hid hb1
  have HYW := hid (show y < w1.heap.size by have := hb1.size; omega)
  have HC0 := hid (h0 w1 A0 C0 q0 (cp_le q0).1 (cp_le q0).2)
  have hn' : 0 < P0 := hP0
  obtain ⟨bq, oq, eq0, _, _, _⟩ := bys_at q0 hn'
  rw [eq0] at l0
  have hne : gp ≠ g := cel_noA rx l0
  have HL1 : Hid (∀ X, Kept g w1 X → X.cell? ⟨gp, o1, none⟩ = some (.slice A1 P1 C1)) := fun X h => (h.cell hgp hne).trans l1
  have HQ1 : Hid (∀ X, Kept g w1 X → Bys X A1 P1 C1 (fA m 1)) := fun X h => bys_kept q1 (fun b off e => by have := f1 b off e; omega) h
  rw [eq0] at HC0
  clear rx rr1 hgw hb1 q0 f0 q1 f1 l1 hgp eo1 z3 e0 hps hA hne hn' eq0
  go_upto_region 8 with (go_at_call 47; refine HC0.out.mono ?_; rintro e w2 ⟨a0, c0, rfl, hn0, hf0, hbc⟩; have rg := (hbc.block g (Array.getElem?_eq_some_iff.1 HRX.out).1).trans HRX.out; have sv := svIndexed_mid rg 0 (ati v0 a0 c0) (by rw [cel_size, slAttesterSlashing]; omega); have RG := hid rg; have HBC := hid hbc; clear rg hbc)
  obtain ⟨V1, hV⟩ : ∃ V, w2.setCells g 0 (celL (sIndexed (ati v0 a0 c0))) = V := ⟨_, rfl⟩
  rw [hV]
  have RV1 : Hid (V1.heap[g]? = some (.cells (cel (sAttesterSlashing ⟨ati v0 a0 c0, oIndexed⟩)) 48)) := by rw [← hV]; exact (setCells_row _ _ RG.out).trans (congrArg (fun c => some (Obj.cells c 48)) (by kernel_rfl))
  have KV1 : Hid (Kept g w1 V1) := by rw [← hV]; exact setCells_kept _ _ (Kept.ofBelow HBC.out)
  have HN0 := hid hn0
  have HF0 := hid hf0
  have HBC0 := hid HBC.out
  have HNV : Hid (Z.Nms .u64 V1 a0 v0.n v0.zs) := by rw [← hV]; exact nms_set hn0 hf0 (setCells_kept _ _ (Kept.refl g w2)).size (fun b hb1 hb2 => (setCells_kept _ _ (Kept.refl g w2)).block b hb2 (by have := HGW.out; omega))
  clear hV l0 sv RG HBC hn0 hf0
  have l1 := HL1.out _ KV1.out
  have HC1 := hid (h1 V1 A1 C1 (HQ1.out _ KV1.out) (cp_le (HQ1.out _ KV1.out)).1 (cp_le (HQ1.out _ KV1.out)).2)
  go_upto_region 9 with (go_at_call 47; refine HC1.out.mono ?_; rintro e w3 ⟨a1, c1, rfl, hn1, hf1, hbc⟩; have rg := (hbc.block g (Array.getElem?_eq_some_iff.1 RV1.out).1).trans RV1.out; have sv := svIndexed_mid rg 197 (ati v1 a1 c1) (by rw [cel_size, slAttesterSlashing]; omega); have RG := hid rg; have HBC := hid hbc; clear rg hbc)
  obtain ⟨V2, hV⟩ : ∃ V, w3.setCells g 197 (celL (sIndexed (ati v1 a1 c1))) = V := ⟨_, rfl⟩
  rw [hV]
  have KV2 : Hid (Kept g w1 V2) := by rw [← hV]; exact setCells_kept _ _ (KV1.out.trans (Kept.ofBelow HBC.out))
  clear hV l1 sv RG HBC hn1 hf1
  have z3 := Z3.out
  have e0 := EG.out
  have RR := hid ((KV2.out.block y HYW.out (by omega)).trans HRY.out)
  have sv := svAttesterSlashing_run RR.out oAttesterSlashing
  have bd := bdAttesterSlashing_0
  clear z3 e0 z
  go_wp2
  refine retAttesterSlashing _ _ y oAttesterSlashing 48 _ rfl rfl rfl rfl (setRow_at RR.out) ⟨rfl, ?_⟩
  have e0 := EY.out
  have e1 := HB3.out.size
  have e2 := HB1.out.size
  have e3 := EG.out
  have z3 := Z3.out
  exact below_row (HB3.out.trans ((HB1.out.mono (by omega)).trans (KV2.out.below (by omega) (by omega)))) (by omega) _

set_option maxHeartbeats 2000000 in
theorem rreadAttesterSlashing_ok (m : Nat → Int) (ao : Option Addr) (len cap : Nat) (w : World) (hb : Bys w ao len cap m) (hm : ∀ j, 0 ≤ m j ∧ m j < 256) (hlc : len ≤ cap) (hcap : cap ≤ 9223372036854775807) (hlen : len ≤ 140737488351232) (hA : eA m len = 0) (hP0 : 0 < pA m len 0) (v0 : VIndexed) (h0 : ∀ W a c, Bys W a (pA m len 0) c (fA m 0) → pA m len 0 ≤ c → (0 < pA m len 0 → c ≤ 9223372036854775807) → Calls Tryz.prog 47 #[.slice a (pA m len 0) c] W fun e w' => ∃ a' c', e = .returned (.tuple #[.agg (cel (sIndexed (ati v0 a' c'))), .int .i64 0]) ∧ Z.Nms .u64 w' a' v0.n v0.zs ∧ Frs W.heap.size a' ∧ Below W.heap.size W w') (v1 : VIndexed) (h1 : ∀ W a c, Bys W a (pA m len 1) c (fA m 1) → pA m len 1 ≤ c → (0 < pA m len 1 → c ≤ 9223372036854775807) → Calls Tryz.prog 47 #[.slice a (pA m len 1) c] W fun e w' => ∃ a' c', e = .returned (.tuple #[.agg (cel (sIndexed (ati v1 a' c'))), .int .i64 0]) ∧ Z.Nms .u64 w' a' v1.n v1.zs ∧ Frs W.heap.size a' ∧ Below W.heap.size W w') :
    Calls Tryz.prog 17 #[.slice ao len cap] w fun e w' => ∃ a0 c0 a1 c1, e = .returned (.tuple #[.agg (cel (sAttesterSlashing ⟨ati v0 a0 c0, ati v1 a1 c1⟩)), .int .i64 0]) ∧ Z.Nms .u64 w' a0 v0.n v0.zs ∧ Z.Nms .u64 w' a1 v1.n v1.zs ∧ Below w.heap.size w w' := by
  have z := zeroAttesterSlashing
  obtain ⟨y, ey⟩ : ∃ y, w.heap.size = y := ⟨_, rfl⟩
  obtain ⟨W1, hW1⟩ : ∃ W, w.alloc (.cells (cel (sAttesterSlashing oAttesterSlashing)) 48) = W := ⟨_, rfl⟩
  obtain ⟨W2, hW2⟩ : ∃ W, W1.alloc (.cells (cel (sAttesterSlashing oAttesterSlashing)) 48) = W := ⟨_, rfl⟩
  obtain ⟨W3, hW3⟩ : ∃ W, W2.alloc (.cells (vs .i64 2 zA) 3) = W := ⟨_, rfl⟩
  have z1 : W1.heap.size = y + 1 := by rw [← hW1, ← ey]; simp
  have z2 : W2.heap.size = y + 2 := by rw [← hW2]; simp [z1]
  have z3 : W3.heap.size = y + 3 := by rw [← hW3]; simp [z2]
  have hB3 : Below w.heap.size w W3 := by rw [← hW3, ← hW2, ← hW1]; exact (((Below.refl _ _).alloc (Nat.le_refl _) _).alloc (by simp) _).alloc (by simp; omega) _
  have r1 : W3.heap[y]? = some (.cells (cel (sAttesterSlashing oAttesterSlashing)) 48) := by rw [← hW3]; refine (heap_old (by omega)).trans ?_; rw [← hW2]; refine (heap_old (by omega)).trans ?_; rw [← hW1]; exact heap_new ey.symm
  have r2 : W3.heap[y + 1]? = some (.cells (cel (sAttesterSlashing oAttesterSlashing)) 48) := by rw [← hW3]; refine (heap_old (by omega)).trans ?_; rw [← hW2]; exact heap_new z1.symm
  have g3 : W3.heap[y + 2]? = some (.cells (vs .i64 2 zA) 3) := by rw [← hW3]; exact heap_new z2.symm
  have bsi := bsI_zA W2
  rw [hW3, z2] at bsi
  have hcut := rcutA_ok m ao len cap (y + 2) W3 (hb.below hB3) hm hlen hlc hcap g3 hA
  obtain ⟨g, eg⟩ : ∃ g, y + 1 = g := ⟨_, rfl⟩
  obtain ⟨u, eu⟩ : ∃ u, y + 2 = u := ⟨_, rfl⟩
  rw [eu] at bsi hcut
  rw [eg] at r2
  have HCUT := hid hcut
  have R1 := hid r1
  have R2 := hid r2
  have HB3 := hid hB3
  have EY := hid ey
  have EG := hid eg
  have Z3 := hid z3
  clear hcut r1 r2 hB3 g3 z3 hlc hcap hb
  have hps := pA_sum hA
  obtain ⟨P0, eP0⟩ : ∃ P, pA m len 0 = P := ⟨_, rfl⟩
  obtain ⟨P1, eP1⟩ : ∃ P, pA m len 1 = P := ⟨_, rfl⟩
  rw [eP0, eP1] at HCUT hps
  rw [eP0] at h0 hP0
  rw [eP1] at h1
  clear hlen
  go_enter Tryz.func17, Tryz.ntmps17
  go_upto_region 3 with (go_at_call 40; refine HCUT.out.mono ?_; rintro e w1 ⟨gp, o, cp, A0, C0, A1, C1, rfl, hgp, ⟨l0, q0, f0⟩, ⟨l1, q1, f1⟩, hb1⟩)
  clear hW1 hW2 hW3 ey eg eu bsi z1 z2
  have ix0 : ∀ X : World, (ixP (.slice (some ⟨gp, o, none⟩) 2 cp) (.int .i64 0)).run Tryz.prog X = .ok (.pointer (some ⟨gp, o, none⟩)) X := fun X => ixP_run X gp o 2 cp 0 (by omega)
  have ix1 : ∀ X : World, (ixP (.slice (some ⟨gp, o, none⟩) 2 cp) (.int .i64 1)).run Tryz.prog X = .ok (.pointer (some ⟨gp, o + 1, none⟩)) X := fun X => ixP_run X gp o 2 cp 1 (by omega)
  obtain ⟨o1, eo1⟩ : ∃ p, o + 1 = p := ⟨_, rfl⟩
  rw [eo1] at ix1 l1
  have z3 := Z3.out
  have e0 := EG.out
  have hgw : g < w1.heap.size := by have := hb1.size; omega
  have rx : w1.heap[g]? = some (.cells (cel (sAttesterSlashing ⟨oIndexed, oIndexed⟩)) 48) := (hb1.block g (by omega)).trans R2.out
  have rr1 : w1.heap[y]? = some (.cells (cel (sAttesterSlashing oAttesterSlashing)) 48) := (hb1.block y (by omega)).trans R1.out
  have HRX := hid rx
  have HRY := hid rr1
  have HGW := hid hgw
  have HB1 := hid hb1
  have HYW := hid (show y < w1.heap.size by have := hb1.size; omega)
  have HC0 := hid (h0 w1 A0 C0 q0 (cp_le q0).1 (cp_le q0).2)
  have hn' : 0 < P0 := hP0
  obtain ⟨bq, oq, eq0, _, _, _⟩ := bys_at q0 hn'
  rw [eq0] at l0
  have hne : gp ≠ g := cel_noA rx l0
  have HL1 : Hid (∀ X, Kept g w1 X → X.cell? ⟨gp, o1, none⟩ = some (.slice A1 P1 C1)) := fun X h => (h.cell hgp hne).trans l1
  have HQ1 : Hid (∀ X, Kept g w1 X → Bys X A1 P1 C1 (fA m 1)) := fun X h => bys_kept q1 (fun b off e => by have := f1 b off e; omega) h
  rw [eq0] at HC0
  clear rx rr1 hgw hb1 q0 f0 q1 f1 l1 hgp eo1 z3 e0 hps hA hne hn' eq0
  go_upto_region 8 with (go_at_call 47; refine HC0.out.mono ?_; rintro e w2 ⟨a0, c0, rfl, hn0, hf0, hbc⟩; have rg := (hbc.block g (Array.getElem?_eq_some_iff.1 HRX.out).1).trans HRX.out; have sv := svIndexed_mid rg 0 (ati v0 a0 c0) (by rw [cel_size, slAttesterSlashing]; omega); have RG := hid rg; have HBC := hid hbc; clear rg hbc)
  obtain ⟨V1, hV⟩ : ∃ V, w2.setCells g 0 (celL (sIndexed (ati v0 a0 c0))) = V := ⟨_, rfl⟩
  rw [hV]
  have RV1 : Hid (V1.heap[g]? = some (.cells (cel (sAttesterSlashing ⟨ati v0 a0 c0, oIndexed⟩)) 48)) := by rw [← hV]; exact (setCells_row _ _ RG.out).trans (congrArg (fun c => some (Obj.cells c 48)) (by kernel_rfl))
  have KV1 : Hid (Kept g w1 V1) := by rw [← hV]; exact setCells_kept _ _ (Kept.ofBelow HBC.out)
  have HN0 := hid hn0
  have HF0 := hid hf0
  have HBC0 := hid HBC.out
  have HNV : Hid (Z.Nms .u64 V1 a0 v0.n v0.zs) := by rw [← hV]; exact nms_set hn0 hf0 (setCells_kept _ _ (Kept.refl g w2)).size (fun b hb1 hb2 => (setCells_kept _ _ (Kept.refl g w2)).block b hb2 (by have := HGW.out; omega))
  clear hV l0 sv RG HBC hn0 hf0
  have l1 := HL1.out _ KV1.out
  have HC1 := hid (h1 V1 A1 C1 (HQ1.out _ KV1.out) (cp_le (HQ1.out _ KV1.out)).1 (cp_le (HQ1.out _ KV1.out)).2)
  go_upto_region 11 with (go_at_call 47; refine HC1.out.mono ?_; rintro e w3 ⟨a1, c1, rfl, hn1, hf1, hbc⟩; have rg := (hbc.block g (Array.getElem?_eq_some_iff.1 RV1.out).1).trans RV1.out; have sv := svIndexed_mid rg 197 (ati v1 a1 c1) (by rw [cel_size, slAttesterSlashing]; omega); have RG := hid rg; have HBC := hid hbc; clear rg hbc)
  obtain ⟨V2, hV⟩ : ∃ V, w3.setCells g 197 (celL (sIndexed (ati v1 a1 c1))) = V := ⟨_, rfl⟩
  rw [hV]
  have RV2 : Hid (V2.heap[g]? = some (.cells (cel (sAttesterSlashing ⟨ati v0 a0 c0, ati v1 a1 c1⟩)) 48)) := by rw [← hV]; exact (setCells_row _ _ RG.out).trans (congrArg (fun c => some (Obj.cells c 48)) (by kernel_rfl))
  have KV2 : Hid (Kept g w1 V2) := by rw [← hV]; exact setCells_kept _ _ (KV1.out.trans (Kept.ofBelow HBC.out))
  have HF1 := hid hf1
  have hz1 := KV1.out.size
  have HNV1 : Hid (Z.Nms .u64 V2 a1 v1.n v1.zs) := by rw [← hV]; exact nms_set hn1 hf1 (setCells_kept _ _ (Kept.refl g w3)).size (fun b hb1 hb2 => (setCells_kept _ _ (Kept.refl g w3)).block b hb2 (by have := HGW.out; omega))
  have HNV0 : Hid (Z.Nms .u64 V2 a0 v0.n v0.zs) := by rw [← hV]; exact nms_set (HNV.out.below HBC.out) HF0.out (setCells_kept _ _ (Kept.refl g w3)).size (fun b hb1 hb2 => (setCells_kept _ _ (Kept.refl g w3)).block b hb2 (by have := HGW.out; omega))
  clear hV l1 sv RG HBC hn1 hf1 hz1
  obtain ⟨vv, ev⟩ : ∃ v : VAttesterSlashing, ⟨ati v0 a0 c0, ati v1 a1 c1⟩ = v := ⟨_, rfl⟩
  have rv := RV2.out
  rw [ev] at rv
  have z3 := Z3.out
  have e0 := EG.out
  have RR := hid ((KV2.out.block y HYW.out (by omega)).trans HRY.out)
  have sv := svAttesterSlashing_run RR.out vv
  have lv := lvAttesterSlashing_mid (x := vv) rv 0 (take_all _) (slAttesterSlashing _)
  have EV := hid ev
  clear rv ev z3 e0 z
  go_wp2
  refine retAttesterSlashing _ _ y vv 48 _ rfl rfl rfl rfl (setRow_at RR.out) ⟨a0, c0, a1, c1, ?_, ?_, ?_, ?_⟩
  · rw [EV.out]
    rfl
  · have h1 := HYW.out
    exact nms_set HNV0.out HF0.out (by simp) (fun b hb1 hb2 => setRow_other _ y b _ (by omega))
  · have h1 := HYW.out
    have h2 := KV1.out.size
    exact nms_set HNV1.out HF1.out (by simp) (fun b hb1 hb2 => setRow_other _ y b _ (by omega))
  have e0 := EY.out
  have e1 := HB3.out.size
  have e2 := HB1.out.size
  have e3 := EG.out
  have z3 := Z3.out
  exact below_row (HB3.out.trans ((HB1.out.mono (by omega)).trans (KV2.out.below (by omega) (by omega)))) (by omega) _

end Go.Proofs.YtokbhcgooboocaaGreatDoor
