/-
  What ReadAttest answers.
-/
import Derived.Test.YtokbhcgooboocaaGreatDoorOtAp
import Derived.Test.YtokbhcgooboocaaGreatDoorOpEp
import Derived.Test.YtokbhcgooboocaaGreatDoorOpFp
import Derived.Test.YtokbhcgooboocaaGreatDoorOiVp
namespace Go.Proofs.YtokbhcgooboocaaGreatDoor
open Go.RowKit
set_option linter.unusedVariables false
set_option linter.unusedSimpArgs false
set_option maxRecDepth 20000

/-- Bits that lie elsewhere than a row without bits. -/
def noBo : List Seg → Bool
  | [] => true
  | .bo _ :: _ => false
  | .by _ _ :: r => noBo r
  | .nu _ :: r => noBo r
  | .sl _ _ _ :: r => noBo r
theorem celL_noB (b : Bool) : ∀ l, noBo l = true → Value.bool b ∉ celL l
  | [], _, h => by cases h
  | s :: r, hl, h => by
    have hr : noBo r = true := by cases s <;> first | exact hl | cases hl
    have h' : Value.bool b ∈ (List.range s.len).map s.get ++ celL r := h
    rw [List.mem_append] at h'
    rcases h' with h' | h'
    · obtain ⟨j, _, e⟩ := List.mem_map.1 h'
      cases s <;> first | (cases e; done) | cases hl
    · exact celL_noB b r hr h'
theorem bls_other {X X' : World} {a : Option Addr} {n c y : Nat} {f : Nat → Bool} {l : List Seg} {t : TypeId} (h : Z.Bls X a n c f) (hy : X.heap[y]? = some (.cells (cel l) t)) (hl : noBo l = true) (hz : X.heap.size ≤ X'.heap.size) (hX : ∀ b, b ≠ y → b < X.heap.size → X'.heap[b]? = X.heap[b]?) : Z.Bls X' a n c f := by
  rcases h with h | h | ⟨b, off, h1, h2, h3, h4, h5⟩
  · exact .inl h
  · exact .inr (.inl h)
  · by_cases hn : n = 0
    · exact .inr (.inl ⟨_, h1, hn⟩)
    · have hne : b ≠ y := by
        intro e
        subst e
        have hc := h5 0 (by omega)
        rw [row_cell hy] at hc
        unfold cel at hc
        rw [List.getElem?_toArray] at hc
        exact celL_noB (f 0) l hl (List.mem_of_getElem? hc)
      exact .inr (.inr ⟨b, off, h1, h2, h3, Nat.lt_of_lt_of_le h4 hz, fun j hj => (World.cell?_of_block (w := X) (hX b hne h4)).trans (h5 j hj)⟩)

attribute [local go_sem ↓] ixP_eq lvData_eq svData_eq lvAttest_eq svAttest_eq bdAttest_eq

set_option maxRecDepth 20000 in
set_option maxHeartbeats 2000000 in
theorem readAttest_no (m : Nat → Int) (ao : Option Addr) (len cap : Nat) (w : World) (hb : Bys w ao len cap m) (hm : ∀ j, 0 ≤ m j ∧ m j < 256) (hlc : len ≤ cap) (hcap : cap ≤ 9223372036854775807) (hlen : len ≤ 140737488351232) (hE : cI m len ≠ 0) :
    Calls Tryz.prog 10 #[.slice ao len cap] w fun e w' => e = .returned (.tuple #[.agg (cel (sAttest oAttest)), .int .i64 (cI m len)]) ∧ Below w.heap.size w w' := by
  have z := zeroAttest
  obtain ⟨W1, hW1⟩ : ∃ W, w.alloc (.cells (cel (sAttest oAttest)) 33) = W := ⟨_, rfl⟩
  obtain ⟨W2, hW2⟩ : ∃ W, W1.alloc (.cells (vs .i64 3 zI) 3) = W := ⟨_, rfl⟩
  have hB1 : Below w.heap.size w W1 := by rw [← hW1]; exact (Below.refl _ _).alloc (Nat.le_refl _) _
  have z1 : W1.heap.size = w.heap.size + 1 := by rw [← hW1]; simp
  have z2 : W2.heap.size = w.heap.size + 2 := by rw [← hW2]; simp [z1]
  have hB2 : Below w.heap.size w W2 := by rw [← hW2]; exact hB1.alloc (by omega) _
  have r1 : W1.heap[w.heap.size]? = some (.cells (cel (sAttest oAttest)) 33) := by rw [← hW1]; exact heap_new rfl
  have r2 : W2.heap[w.heap.size]? = some (.cells (cel (sAttest oAttest)) 33) := by rw [← hW2]; exact (heap_old (by omega)).trans r1
  have g2 : W2.heap[W1.heap.size]? = some (.cells (vs .i64 3 zI) 3) := by rw [← hW2]; exact heap_new rfl
  have hsz : Calls Tryz.prog 23 #[] W1 fun e w' => e = .returned (.slice (some ⟨W1.heap.size, 0, none⟩) 3 3) ∧ w' = W2 := by rw [← hW2]; exact asz_any W1
  have hcut := cutI_no m ao len cap W1.heap.size W2 (hb.below hB2) hm hlen hlc hcap g2 hE
  obtain ⟨y, ey⟩ : ∃ y, w.heap.size = y := ⟨_, rfl⟩
  obtain ⟨y1, ey1⟩ : ∃ y, W1.heap.size = y := ⟨_, rfl⟩
  rw [ey1] at hcut hsz
  have hy : y < W2.heap.size := by omega
  rw [ey] at r2
  have HCUT := hid hcut
  have HSZ := hid hsz
  have R2 := hid r2
  have HB2 := hid hB2
  have HY := hid hy
  have EY := hid ey
  clear hcut hsz r2 hB2 hy r1 g2 hB1 z1 z2 hlc hcap hb hlen
  go_enter Tryz.func10, Tryz.ntmps10
  obtain ⟨E, eE⟩ : ∃ E, cI m len = E := ⟨_, rfl⟩
  rw [eE] at HCUT hE ⊢
  have q0 : (E != 0) = true := by rw [bne_iff_ne]; exact hE
  clear eE hE
  go_upto_region 2 with (first
    | (go_at_call 23; refine HSZ.out.mono ?_; rintro e w0 ⟨rfl, hw0⟩; obtain rfl := hw0.symm)
    | (go_at_call 37; refine HCUT.out.mono ?_; rintro e w1 ⟨a1, rfl, hb1⟩))
  clear hW1 hW2 ey ey1
  have rr := (hb1.block _ HY.out).trans R2.out
  have sv := svAttest_run rr oAttest
  have bd := bdAttest_0
  have RR := hid rr
  have HB1 := hid hb1
  clear rr hb1
  go_wp2
  refine retAttest _ _ y oAttest 33 _ rfl rfl rfl rfl (setRow_at RR.out) ⟨rfl, ?_⟩
  have e0 := EY.out
  have e1 := HB2.out.size
  exact below_row (HB2.out.trans (HB1.out.mono (by omega))) (by omega) _

set_option maxRecDepth 20000 in
set_option maxHeartbeats 2000000 in
theorem readAttest_bad (m : Nat → Int) (ao : Option Addr) (len cap : Nat) (w : World) (hb : Bys w ao len cap m) (hm : ∀ j, 0 ≤ m j ∧ m j < 256) (hlc : len ≤ cap) (hcap : cap ≤ 9223372036854775807) (hlen : len ≤ 140737488351232) (h228 : 228 ≤ len) (hoff : oN m = 228) (E : Int) (hE : E ≠ 0) (hrn : ∀ (X : World) A, Bys X A (len - 228) (len - 228) (fun q => m (228 + q)) → Calls Tryz.prog 38 #[.slice A (len - 228) (len - 228), .int .i64 64] X fun e w' => ∃ a c, e = .returned (.tuple #[.slice a 0 c, .int .i64 E]) ∧ Below X.heap.size X w') :
    Calls Tryz.prog 10 #[.slice ao len cap] w fun e w' => e = .returned (.tuple #[.agg (cel (sAttest oAttest)), .int .i64 E]) ∧ Below w.heap.size w w' := by
  have z := zeroAttest
  obtain ⟨W1, hW1⟩ : ∃ W, w.alloc (.cells (cel (sAttest oAttest)) 33) = W := ⟨_, rfl⟩
  obtain ⟨W2, hW2⟩ : ∃ W, W1.alloc (.cells (vs .i64 3 zI) 3) = W := ⟨_, rfl⟩
  have hB1 : Below w.heap.size w W1 := by rw [← hW1]; exact (Below.refl _ _).alloc (Nat.le_refl _) _
  have z1 : W1.heap.size = w.heap.size + 1 := by rw [← hW1]; simp
  have z2 : W2.heap.size = w.heap.size + 2 := by rw [← hW2]; simp [z1]
  have hB2 : Below w.heap.size w W2 := by rw [← hW2]; exact hB1.alloc (by omega) _
  have r1 : W1.heap[w.heap.size]? = some (.cells (cel (sAttest oAttest)) 33) := by rw [← hW1]; exact heap_new rfl
  have r2 : W2.heap[w.heap.size]? = some (.cells (cel (sAttest oAttest)) 33) := by rw [← hW2]; exact (heap_old (by omega)).trans r1
  have g2 : W2.heap[W1.heap.size]? = some (.cells (vs .i64 3 zI) 3) := by rw [← hW2]; exact heap_new rfl
  have hsz : Calls Tryz.prog 23 #[] W1 fun e w' => e = .returned (.slice (some ⟨W1.heap.size, 0, none⟩) 3 3) ∧ w' = W2 := by rw [← hW2]; exact asz_any W1
  have hcut := cutI_ok m ao len cap W1.heap.size W2 (hb.below hB2) hm hlen hlc hcap g2 h228 hoff
  obtain ⟨y, ey⟩ : ∃ y, w.heap.size = y := ⟨_, rfl⟩
  obtain ⟨y1, ey1⟩ : ∃ y, W1.heap.size = y := ⟨_, rfl⟩
  rw [ey1] at hcut hsz
  have hy : y < W2.heap.size := by omega
  rw [ey] at r2
  have HCUT := hid hcut
  have HSZ := hid hsz
  have R2 := hid r2
  have HB2 := hid hB2
  have HY := hid hy
  have EY := hid ey
  clear hcut hsz r2 hB2 hy r1 g2 hB1 z1 z2 hlc hcap hb hlen h228 hoff
  go_enter Tryz.func10, Tryz.ntmps10
  have e0 : (E != 0) = true := by rw [bne_iff_ne]; exact hE
  have HRN := hid hrn
  clear hE hrn
  go_upto_region 2 with (first
    | (go_at_call 23; refine HSZ.out.mono ?_; rintro e w0 ⟨rfl, hw0⟩; obtain rfl := hw0.symm)
    | (go_at_call 37; refine HCUT.out.mono ?_; rintro e w1 ⟨gp, o, rfl, hgp, ⟨⟨A0, l0, q0⟩, ⟨A1, l1, q1⟩, ⟨A2, l2, q2⟩⟩, hb1⟩))
  clear hW1 hW2 ey ey1
  have ix0 : ∀ X : World, (ixP (.slice (some ⟨gp, o, none⟩) 3 3) (.int .i64 0)).run Tryz.prog X = .ok (.pointer (some ⟨gp, o, none⟩)) X := fun X => ixP_run X gp o 3 3 0 (by omega)
  obtain ⟨L0, eL0⟩ : ∃ L, len - 228 = L := ⟨_, rfl⟩
  rw [eL0] at l0 HRN q0
  have HR1 := hid (HRN.out _ _ q0)
  have HYR := hid ((hb1.block _ HY.out).trans R2.out)
  have HYS := hid (Nat.lt_of_lt_of_le HY.out hb1.size)
  have bd := bdAttest_0
  have HB1 := hid hb1
  clear hb1 eL0 q0 q1 q2 l1 l2
  go_wp2_with (go_at_call 38; refine HR1.out.mono ?_; rintro e w2 ⟨a2, c2, rfl, hb2⟩; have rr := (hb2.block y HYS.out).trans HYR.out; have sv := svAttest_run rr oAttest; have RR := hid rr; have HB9 := hid hb2; clear rr hb2)
  refine retAttest _ _ y oAttest 33 _ rfl rfl rfl rfl (setRow_at RR.out) ⟨rfl, ?_⟩
  have e0 := EY.out
  have e1 := HB2.out.size
  have e2 := HB1.out.size
  exact below_row (HB2.out.trans ((HB1.out.mono (by omega)).trans (HB9.out.mono (by omega)))) (by omega) _

set_option maxRecDepth 20000 in
set_option maxHeartbeats 2000000 in
theorem readAttest_ok (m : Nat → Int) (ao : Option Addr) (len cap : Nat) (w : World) (hb : Bys w ao len cap m) (hm : ∀ j, 0 ≤ m j ∧ m j < 256) (hlc : len ≤ cap) (hcap : cap ≤ 9223372036854775807) (hlen : len ≤ 140737488351232) (h228 : 228 ≤ len) (hoff : oN m = 228) (n : Nat) (R : Nat → Bool) (hrl : ∀ (X : World) A, Bys X A (len - 228) (len - 228) (fun q => m (228 + q)) → Calls Tryz.prog 38 #[.slice A (len - 228) (len - 228), .int .i64 64] X fun e w' => ∃ a c, e = .returned (.tuple #[.slice a n c, .int .i64 0]) ∧ Z.Bls w' a n c R ∧ Below X.heap.size X w') :
    Calls Tryz.prog 10 #[.slice ao len cap] w fun e w' => ∃ a c, e = .returned (.tuple #[.agg (cel (sAttest ⟨a, n, c, R, pData (fun q => m (4 + q)), fun q => m (132 + q)⟩)), .int .i64 0]) ∧ Z.Bls w' a n c R ∧ Below w.heap.size w w' := by
  obtain ⟨N0, eN0⟩ : ∃ N, pData (fun q => m (4 + q)) = N := ⟨_, rfl⟩
  rw [eN0]
  have HRL := hid hrl
  have EN0 := hid eN0
  clear hrl eN0
  have z := zeroAttest
  obtain ⟨W1, hW1⟩ : ∃ W, w.alloc (.cells (cel (sAttest oAttest)) 33) = W := ⟨_, rfl⟩
  obtain ⟨W2, hW2⟩ : ∃ W, W1.alloc (.cells (vs .i64 3 zI) 3) = W := ⟨_, rfl⟩
  have hB1 : Below w.heap.size w W1 := by rw [← hW1]; exact (Below.refl _ _).alloc (Nat.le_refl _) _
  have z1 : W1.heap.size = w.heap.size + 1 := by rw [← hW1]; simp
  have z2 : W2.heap.size = w.heap.size + 2 := by rw [← hW2]; simp [z1]
  have hB2 : Below w.heap.size w W2 := by rw [← hW2]; exact hB1.alloc (by omega) _
  have r1 : W1.heap[w.heap.size]? = some (.cells (cel (sAttest oAttest)) 33) := by rw [← hW1]; exact heap_new rfl
  have r2 : W2.heap[w.heap.size]? = some (.cells (cel (sAttest oAttest)) 33) := by rw [← hW2]; exact (heap_old (by omega)).trans r1
  have g2 : W2.heap[W1.heap.size]? = some (.cells (vs .i64 3 zI) 3) := by rw [← hW2]; exact heap_new rfl
  have hsz : Calls Tryz.prog 23 #[] W1 fun e w' => e = .returned (.slice (some ⟨W1.heap.size, 0, none⟩) 3 3) ∧ w' = W2 := by rw [← hW2]; exact asz_any W1
  have hcut := cutI_ok m ao len cap W1.heap.size W2 (hb.below hB2) hm hlen hlc hcap g2 h228 hoff
  obtain ⟨y, ey⟩ : ∃ y, w.heap.size = y := ⟨_, rfl⟩
  obtain ⟨y1, ey1⟩ : ∃ y, W1.heap.size = y := ⟨_, rfl⟩
  rw [ey1] at hcut hsz
  have hy : y < W2.heap.size := by omega
  rw [ey] at r2
  have HCUT := hid hcut
  have HSZ := hid hsz
  have R2 := hid r2
  have HB2 := hid hB2
  have HY := hid hy
  have EY := hid ey
  clear hcut hsz r2 hB2 hy r1 g2 hB1 z1 z2 hlc hcap hb h228 hoff
  go_enter Tryz.func10, Tryz.ntmps10
  go_upto_region 2 with (first
    | (go_at_call 23; refine HSZ.out.mono ?_; rintro e w0 ⟨rfl, hw0⟩; obtain rfl := hw0.symm)
    | (go_at_call 37; refine HCUT.out.mono ?_; rintro e w1 ⟨gp, o, rfl, hgp, ⟨⟨A0, l0, q0⟩, ⟨A1, l1, q1⟩, ⟨A2, l2, q2⟩⟩, hb1⟩))
  clear hW1 hW2 ey ey1
  have ix0 : ∀ X : World, (ixP (.slice (some ⟨gp, o, none⟩) 3 3) (.int .i64 0)).run Tryz.prog X = .ok (.pointer (some ⟨gp, o, none⟩)) X := fun X => ixP_run X gp o 3 3 0 (by omega)
  have ix1 : ∀ X : World, (ixP (.slice (some ⟨gp, o, none⟩) 3 3) (.int .i64 1)).run Tryz.prog X = .ok (.pointer (some ⟨gp, o + 1, none⟩)) X := fun X => ixP_run X gp o 3 3 1 (by omega)
  have ix2 : ∀ X : World, (ixP (.slice (some ⟨gp, o, none⟩) 3 3) (.int .i64 2)).run Tryz.prog X = .ok (.pointer (some ⟨gp, o + 2, none⟩)) X := fun X => ixP_run X gp o 3 3 2 (by omega)
  obtain ⟨o1, eo1⟩ : ∃ p, o + 1 = p := ⟨_, rfl⟩
  obtain ⟨o2, eo2⟩ : ∃ p, o + 2 = p := ⟨_, rfl⟩
  rw [eo1] at ix1 l1
  rw [eo2] at ix2 l2
  obtain ⟨L0, eL0⟩ : ∃ L, len - 228 = L := ⟨_, rfl⟩
  rw [eL0] at l0 q0
  have hrn := HRL.out w1 A0
  rw [eL0] at hrn
  replace hrn := hrn q0
  have hn0 : ∀ X, Below w1.heap.size w1 X → Calls Tryz.prog 39 #[.slice A1 128 128] X fun e w' => e = .returned (.tuple #[.agg (cel (sData N0)), .int .i64 0]) ∧ Below X.heap.size X w' := fun X h => by
    rw [← EN0.out]
    exact readData_ok _ _ 128 X (q1.below h) (fun j => hm _) (by omega) (by omega)
  obtain ⟨b2, p2, eA2, _, _, _⟩ := bys_at q2 (by omega)
  subst eA2
  have HRN := hid hrn
  have HN0 := hid hn0
  have Q2 := hid q2
  have L1 := hid l1
  have L2 := hid l2
  have HB1 := hid hb1
  have HGP := hid hgp
  clear hrn hn0 q0 q1 q2 l1 l2 eo1 eo2 eL0 hb1 hgp hlen
  go_upto_region 7 with (go_at_call 38; refine HRN.out.mono ?_; rintro e w2 ⟨ga, gc, rfl, hrg, hb2⟩; have HRG := hid hrg; have HB2n := hid hb2; clear hrg hb2)
  clear l0 ix0 HRN
  obtain ⟨g, eg⟩ : ∃ g, w2.heap.size = g := ⟨_, rfl⟩
  have bd := fun W => bdAttest_1 W ga n gc R
  obtain ⟨V0, hV0⟩ : ∃ V, w2.alloc (.cells (cel (sAttest ⟨ga, n, gc, R, oData, fun _ => 0⟩)) 33) = V := ⟨_, rfl⟩
  have sv0 := svAttest_newv w2 oAttest ⟨ga, n, gc, R, oData, fun _ => 0⟩
  rw [hV0, eg] at sv0
  have hB0 : Below g w2 V0 := by rw [← hV0, ← eg]; exact (Below.refl _ _).alloc (Nat.le_refl _) _
  have rV0 : V0.heap[g]? = some (.cells (cel (sAttest ⟨ga, n, gc, R, oData, fun _ => 0⟩)) 33) := by rw [← hV0]; exact heap_new eg.symm
  obtain ⟨vi, evi⟩ : ∃ v : VAttest, ⟨ga, n, gc, R, oData, fun _ => 0⟩ = v := ⟨_, rfl⟩
  rw [evi] at sv0 rV0 bd
  have EVI := hid evi
  have EG := hid eg
  have RV0 := hid rV0
  have HV0 := hid hB0
  clear rV0 hB0 hV0 evi
  go_upto_region 8 with fail
  clear eg z bd sv0
  have hg1 : w1.heap.size ≤ g := by rw [← EG.out]; exact HB2n.out.size
  have HG1 := hid hg1
  have ld := (below_cell (HB2n.out.trans (HV0.out.mono hg1)) HGP.out).trans L1.out
  have HRC := hid (HN0.out _ (HB2n.out.trans (HV0.out.mono hg1)))
  clear hg1
  go_upto_region 9 with (go_at_call 39; refine HRC.out.mono ?_; rintro e w3 ⟨rfl, hbc⟩; have rg := (hbc.block g (Array.getElem?_eq_some_iff.1 RV0.out).1).trans RV0.out; have sv := svData_mid rg 1 N0 (by rw [cel_size, slAttest]; omega); have RG := hid rg; have HBC := hid hbc; clear rg hbc)
  obtain ⟨V1, hV⟩ : ∃ V, w3.setCells g 1 (celL (sData N0)) = V := ⟨_, rfl⟩
  have RV1 : Hid (V1.heap[g]? = some (.cells (cel (sAttest ⟨ga, n, gc, R, N0, fun _ => 0⟩)) 33)) := by rw [← hV]; refine (setCells_row _ _ RG.out).trans (congrArg (fun c => some (Obj.cells c 33)) ?_); rw [← EVI.out]; kernel_rfl
  have HV1 : Hid (Below g w2 V1) := by rw [← hV]; exact (HV0.out.trans (HBC.out.mono (Nat.le_of_lt (Array.getElem?_eq_some_iff.1 RV0.out).1))).trans ((setCells_kept _ _ (Kept.refl g w3)).below (Nat.le_refl _) (Nat.le_of_lt (Array.getElem?_eq_some_iff.1 RG.out).1))
  rw [hV]
  clear hV ld sv RG HBC HRC
  have HS : Hid (∀ X, Below g w2 X → Below w1.heap.size w1 X) := fun X h => HB2n.out.trans (h.mono HG1.out)
  have hsrc : ∀ j, j < 96 → (V1.drew).cell? (Addr.add ⟨b2, p2, none⟩ j) = some (.int .u8 (m (132 + j))) := fun j hj => by
    obtain ⟨b', o', e', _, _, h'⟩ := bys_at (Q2.out.below (w' := V1.drew) (HS.out _ HV1.out.drew)) (by omega)
    cases e'
    rw [Addr.add_mid]
    exact h' j hj
  have HCP := hid (copy_seg V1.drew g 101 96 (sAttest ⟨ga, n, gc, R, N0, fun _ => 0⟩) (sAttest ⟨ga, n, gc, R, N0, fun q => m (132 + q)⟩) (fun q => m (132 + q)) ⟨b2, p2, none⟩ 96 96 33 RV1.out (by rw [slAttest]; omega) hsrc (by kernel_rfl))
  clear hsrc
  refine wp_region_noPanic ?_
  refine wp_region_held_drew (S := fun X => Below g w2 X) (by kernel_rfl) (HV1.out.drew) (fun hHeld => ?_)
  refine wpAnyH_take (i := 0) (v := ?v95) rfl (by kernel_rfl) (by kernel_rfl) (by kernel_rfl) (fun _ _ _ h => h) (Or.inl ⟨by rfl, ?hy95⟩) hHeld ?rest95
  case hy95 =>
    intro w hSw
    go_simp
    try with_reducible rfl
  try simp only [Act.put, List.setIfInBounds_toArray, List.set_cons_zero, List.set_cons_succ, Array.toArray_toList, List.getElem_toArray, List.getElem_cons_zero, List.getElem_cons_succ]
  refine wpAnyH_take (i := 1) (v := ?v96) rfl (by kernel_rfl) (by kernel_rfl) (by kernel_rfl) (fun _ _ _ h => h) (Or.inl ⟨by rfl, ?hy96⟩) hHeld ?rest96
  case hy96 =>
    intro w hSw
    go_simp
    try with_reducible rfl
  try simp only [Act.put, List.setIfInBounds_toArray, List.set_cons_zero, List.set_cons_succ, Array.toArray_toList, List.getElem_toArray, List.getElem_cons_zero, List.getElem_cons_succ]
  refine wpAnyH_take (i := 2) (v := ?v97) rfl (by kernel_rfl) (by kernel_rfl) (by kernel_rfl) (fun _ _ _ h => h) (Or.inl ⟨by rfl, ?hy97⟩) hHeld ?rest97
  case hy97 =>
    intro w hSw
    go_simp
    try with_reducible rfl
  try simp only [Act.put, List.setIfInBounds_toArray, List.set_cons_zero, List.set_cons_succ, Array.toArray_toList, List.getElem_toArray, List.getElem_cons_zero, List.getElem_cons_succ]
  refine wpAnyH_take (i := 3) (v := ?v98) rfl (by kernel_rfl) (by kernel_rfl) (by kernel_rfl) (fun _ _ _ h => h) (Or.inl ⟨by rfl, ?hy98⟩) hHeld ?rest98
  case hy98 =>
    intro w hSw
    go_simp
    try with_reducible rfl
  try simp only [Act.put, List.setIfInBounds_toArray, List.set_cons_zero, List.set_cons_succ, Array.toArray_toList, List.getElem_toArray, List.getElem_cons_zero, List.getElem_cons_succ]
  refine wpAnyH_take (i := 4) (v := ?v99) rfl (by kernel_rfl) (by kernel_rfl) (by kernel_rfl) (fun _ _ _ h => h) (Or.inl ⟨by rfl, ?hy99⟩) hHeld ?rest99
  case hy99 =>
    intro w hSw
    have ld := (below_cell (HS.out _ hSw) HGP.out).trans L2.out
    go_simp
    try with_reducible rfl
  try simp only [Act.put, List.setIfInBounds_toArray, List.set_cons_zero, List.set_cons_succ, Array.toArray_toList, List.getElem_toArray, List.getElem_cons_zero, List.getElem_cons_succ]
  refine wpAnyH_ready (rs := [5]) (by kernel_rfl) (by simp) ?_
  refine AllReadyH.cons rfl (fun K hK => ?_) AllReadyH.nil
  refine step_copy_is (by rfl) _ _ 34 34 (by rfl) _ _ _ _ (by rfl) (by rfl) HCP.out ?_
  refine hK.out _ _ (below_row HV1.out.drew (Nat.le_refl _) _) (fun hHeld => ?_)
  clear hK K
  try simp only [Act.put, List.setIfInBounds_toArray, List.set_cons_zero, List.set_cons_succ, Array.toArray_toList, List.getElem_toArray, List.getElem_cons_zero, List.getElem_cons_succ]
  refine wpAnyH_done (by kernel_rfl) ?_ _
  refine NoPanic.normal ?_
  obtain ⟨V2, hV2⟩ : ∃ V, (V1.drew).setRow g (cel (sAttest ⟨ga, n, gc, R, N0, fun q => m (132 + q)⟩)) = V := ⟨_, rfl⟩
  have RV2 : Hid (V2.heap[g]? = some (.cells (cel (sAttest ⟨ga, n, gc, R, N0, fun q => m (132 + q)⟩)) 33)) := by rw [← hV2]; exact setRow_at (w := V1.drew) RV1.out
  have HV2 : Hid (Below g w2 V2) := by rw [← hV2]; exact below_row HV1.out.drew (Nat.le_refl _) _
  rw [hV2]
  clear hV2
  obtain ⟨vv, ev⟩ : ∃ v : VAttest, ⟨ga, n, gc, R, N0, fun q => m (132 + q)⟩ = v := ⟨_, rfl⟩
  have rv := RV2.out
  rw [ev] at rv
  have rr : V2.heap[y]? = some (.cells (cel (sAttest oAttest)) 33) := ((HS.out _ HV2.out).block _ (Nat.lt_of_lt_of_le HY.out HB1.out.size)).trans ((HB1.out.block _ HY.out).trans R2.out)
  have sv := svAttest_run rr vv
  have lv := lvAttest_mid (x := vv) rv 0 (take_all _) (slAttest vv)
  have RR := hid rr
  have EV := hid ev
  clear rr rv ev
  go_wp2
  refine retAttest _ _ y vv 33 _ rfl rfl rfl rfl (setRow_at RR.out) ?_
  have e0 := EY.out
  have e1 := HB2.out.size
  have e2 := HB1.out.size
  have e3 := EG.out
  have hbv : Z.Bls V2 ga n gc R := HRG.out.below (by rw [EG.out]; exact HV2.out)
  refine ⟨ga, gc, by rw [EV.out]; rfl, bls_other hbv RR.out rfl (by simp) (fun b h1 h2 => setRow_other _ y b _ h1), below_row (HB2.out.trans ((HB1.out.mono (by omega)).trans ((HS.out _ HV2.out).mono (by omega)))) (by omega) _⟩

end Go.Proofs.YtokbhcgooboocaaGreatDoor

namespace Go.Proofs.YtokbhcgooboocaaGreatDoor
open Go.RowKit
set_option linter.unusedVariables false
set_option linter.unusedSimpArgs false
set_option maxRecDepth 20000

theorem cel_noT {w : World} {g gp j : Nat} {t : TypeId} {a : Addr} {n c : Nat} (h : w.heap[g]? = some (.cells (cel (sAttest oAttest)) t)) (hc : w.cell? ⟨gp, j, none⟩ = some (.slice (some a) n c)) : gp ≠ g := by
  intro e
  subst e
  rw [row_cell h] at hc
  unfold cel at hc
  rw [List.getElem?_toArray] at hc
  have hm := List.mem_of_getElem? hc
  have hm' : Value.slice (some a) n c ∈ [Value.slice none 0 0] ++ celL (sData oData ++ [.by 96 fun _ => 0]) := hm
  rw [List.mem_append] at hm'
  rcases hm' with h1 | h1
  · rw [List.mem_singleton] at h1
    cases h1
  · exact celL_no (some a) n c _ rfl h1
theorem setT_who (a a' : Option Addr) (n n' c c' : Nat) (R R' : Nat → Bool) : (cel (sAttest ⟨a, n, c, R, oData, fun _ => 0⟩)).setIfInBounds 0 (.slice a' n' c') = cel (sAttest ⟨a', n', c', R', oData, fun _ => 0⟩) := by kernel_rfl

attribute [local go_sem ↓] ixP_eq bsI_eq lvData_eq svData_eq lvAttest_eq svAttest_eq bdAttest_eq

set_option maxHeartbeats 2000000 in
theorem rreadAttest_no (m : Nat → Int) (ao : Option Addr) (len cap : Nat) (w : World) (hb : Bys w ao len cap m) (hm : ∀ j, 0 ≤ m j ∧ m j < 256) (hlc : len ≤ cap) (hcap : 0 < len → cap ≤ 9223372036854775807) (hlen : len ≤ 140737488351232) (hE : cI m len ≠ 0) :
    Calls Tryz.prog 11 #[.slice ao len cap] w fun e w' => e = .returned (.tuple #[.agg (cel (sAttest oAttest)), .int .i64 (cI m len)]) ∧ Below w.heap.size w w' := by
  have z := zeroAttest
  obtain ⟨y, ey⟩ : ∃ y, w.heap.size = y := ⟨_, rfl⟩
  obtain ⟨W1, hW1⟩ : ∃ W, w.alloc (.cells (cel (sAttest oAttest)) 33) = W := ⟨_, rfl⟩
  obtain ⟨W2, hW2⟩ : ∃ W, W1.alloc (.cells (cel (sAttest oAttest)) 33) = W := ⟨_, rfl⟩
  obtain ⟨W3, hW3⟩ : ∃ W, W2.alloc (.cells (vs .i64 3 zI) 3) = W := ⟨_, rfl⟩
  have z1 : W1.heap.size = y + 1 := by rw [← hW1, ← ey]; simp
  have z2 : W2.heap.size = y + 2 := by rw [← hW2]; simp [z1]
  have z3 : W3.heap.size = y + 3 := by rw [← hW3]; simp [z2]
  have hB3 : Below w.heap.size w W3 := by rw [← hW3, ← hW2, ← hW1]; exact (((Below.refl _ _).alloc (Nat.le_refl _) _).alloc (by simp) _).alloc (by simp; omega) _
  have r1 : W3.heap[y]? = some (.cells (cel (sAttest oAttest)) 33) := by rw [← hW3]; refine (heap_old (by omega)).trans ?_; rw [← hW2]; refine (heap_old (by omega)).trans ?_; rw [← hW1]; exact heap_new ey.symm
  have r2 : W3.heap[y + 1]? = some (.cells (cel (sAttest oAttest)) 33) := by rw [← hW3]; refine (heap_old (by omega)).trans ?_; rw [← hW2]; exact heap_new z1.symm
  have g3 : W3.heap[y + 2]? = some (.cells (vs .i64 3 zI) 3) := by rw [← hW3]; exact heap_new z2.symm
  have bsi := bsI_zI W2
  rw [hW3, z2] at bsi
  have hcut := rcutI_no m ao len cap (y + 2) W3 (hb.below hB3) hm hlen hlc hcap g3 hE
  obtain ⟨g, eg⟩ : ∃ g, y + 1 = g := ⟨_, rfl⟩
  obtain ⟨u, eu⟩ : ∃ u, y + 2 = u := ⟨_, rfl⟩
  rw [eu] at bsi hcut
  rw [eg] at r2
  have HCUT := hid hcut
  have R1 := hid r1
  have R2 := hid r2
  have HB3 := hid hB3
  have EY := hid ey
  have EG := hid eg
  have Z3 := hid z3
  clear hcut r1 r2 hB3 g3 z3 hlc hcap hb
  obtain ⟨E, eE⟩ : ∃ E, cI m len = E := ⟨_, rfl⟩
  rw [eE] at HCUT hE ⊢
  have q0 : (E != 0) = true := by rw [bne_iff_ne]; exact hE
  clear eE hE hlen
  go_enter Tryz.func11, Tryz.ntmps11
  go_upto_region 3 with (go_at_call 40; refine HCUT.out.mono ?_; rintro e w1 ⟨a1, c1, rfl, hb1⟩)
  clear hW1 hW2 hW3 ey eg eu bsi z1 z2 z
  have z3 := Z3.out
  have e0 := EG.out
  have rr := (hb1.block y (by omega)).trans R1.out
  have rx := (hb1.block g (by omega)).trans R2.out
  have sv := svAttest_run rr oAttest
  have lv := lvAttest_mid (x := oAttest) rx 0 (take_all _) rfl
  have RR := hid rr
  have HB1 := hid hb1
  clear rr hb1 rx z3 e0
  go_wp2
  refine retAttest _ _ y oAttest 33 _ rfl rfl rfl rfl (setRow_at RR.out) ⟨rfl, ?_⟩
  have e0 := EY.out
  have e1 := HB3.out.size
  exact below_row (HB3.out.trans (HB1.out.mono (by omega))) (by omega) _

set_option maxHeartbeats 2000000 in
theorem rreadAttest_bad (m : Nat → Int) (ao : Option Addr) (len cap : Nat) (w : World) (hb : Bys w ao len cap m) (hm : ∀ j, 0 ≤ m j ∧ m j < 256) (hlc : len ≤ cap) (hcap : cap ≤ 9223372036854775807) (hlen : len ≤ 140737488351232) (h228 : 228 ≤ len) (hoff : oN m = 228) (E : Int) (hE : E ≠ 0) (hre : ∀ (X : World) A C, Bys X A (len - 228) C (fun q => m (228 + q)) → Calls Tryz.prog 41 #[.slice A (len - 228) C, .int .i64 64] X fun e w' => ∃ a c, e = .returned (.tuple #[.slice a 0 c, .int .i64 E]) ∧ Below X.heap.size X w') :
    Calls Tryz.prog 11 #[.slice ao len cap] w fun e w' => e = .returned (.tuple #[.agg (cel (sAttest oAttest)), .int .i64 E]) ∧ Below w.heap.size w w' := by
  have z := zeroAttest
  obtain ⟨y, ey⟩ : ∃ y, w.heap.size = y := ⟨_, rfl⟩
  obtain ⟨W1, hW1⟩ : ∃ W, w.alloc (.cells (cel (sAttest oAttest)) 33) = W := ⟨_, rfl⟩
  obtain ⟨W2, hW2⟩ : ∃ W, W1.alloc (.cells (cel (sAttest oAttest)) 33) = W := ⟨_, rfl⟩
  obtain ⟨W3, hW3⟩ : ∃ W, W2.alloc (.cells (vs .i64 3 zI) 3) = W := ⟨_, rfl⟩
  have z1 : W1.heap.size = y + 1 := by rw [← hW1, ← ey]; simp
  have z2 : W2.heap.size = y + 2 := by rw [← hW2]; simp [z1]
  have z3 : W3.heap.size = y + 3 := by rw [← hW3]; simp [z2]
  have hB3 : Below w.heap.size w W3 := by rw [← hW3, ← hW2, ← hW1]; exact (((Below.refl _ _).alloc (Nat.le_refl _) _).alloc (by simp) _).alloc (by simp; omega) _
  have r1 : W3.heap[y]? = some (.cells (cel (sAttest oAttest)) 33) := by rw [← hW3]; refine (heap_old (by omega)).trans ?_; rw [← hW2]; refine (heap_old (by omega)).trans ?_; rw [← hW1]; exact heap_new ey.symm
  have r2 : W3.heap[y + 1]? = some (.cells (cel (sAttest oAttest)) 33) := by rw [← hW3]; refine (heap_old (by omega)).trans ?_; rw [← hW2]; exact heap_new z1.symm
  have g3 : W3.heap[y + 2]? = some (.cells (vs .i64 3 zI) 3) := by rw [← hW3]; exact heap_new z2.symm
  have bsi := bsI_zI W2
  rw [hW3, z2] at bsi
  have hcut := rcutI_ok m ao len cap (y + 2) W3 (hb.below hB3) hm hlen hlc hcap g3 h228 hoff
  obtain ⟨g, eg⟩ : ∃ g, y + 1 = g := ⟨_, rfl⟩
  obtain ⟨u, eu⟩ : ∃ u, y + 2 = u := ⟨_, rfl⟩
  rw [eu] at bsi hcut
  rw [eg] at r2
  have HCUT := hid hcut
  have R1 := hid r1
  have R2 := hid r2
  have HB3 := hid hB3
  have EY := hid ey
  have EG := hid eg
  have Z3 := hid z3
  clear hcut r1 r2 hB3 g3 z3 hlc hcap hb
  have q9 : (E != 0) = true := by rw [bne_iff_ne]; exact hE
  clear hE hlen h228 hoff
  go_enter Tryz.func11, Tryz.ntmps11
  go_upto_region 3 with (go_at_call 40; refine HCUT.out.mono ?_; rintro e w1 ⟨gp, o, cp, rfl, hgp, ⟨⟨A0, c0, l0, q0, f0⟩, ⟨b1, p1, c1, l1, q1, f1⟩, ⟨b2, p2, c2, l2, q2, f2⟩⟩, hb1⟩)
  clear hW1 hW2 hW3 ey eg eu bsi z1 z2
  have ix0 : ∀ X : World, (ixP (.slice (some ⟨gp, o, none⟩) 3 cp) (.int .i64 0)).run Tryz.prog X = .ok (.pointer (some ⟨gp, o, none⟩)) X := fun X => ixP_run X gp o 3 cp 0 (by omega)
  have ix1 : ∀ X : World, (ixP (.slice (some ⟨gp, o, none⟩) 3 cp) (.int .i64 1)).run Tryz.prog X = .ok (.pointer (some ⟨gp, o + 1, none⟩)) X := fun X => ixP_run X gp o 3 cp 1 (by omega)
  have ix2 : ∀ X : World, (ixP (.slice (some ⟨gp, o, none⟩) 3 cp) (.int .i64 2)).run Tryz.prog X = .ok (.pointer (some ⟨gp, o + 2, none⟩)) X := fun X => ixP_run X gp o 3 cp 2 (by omega)
  obtain ⟨o1, eo1⟩ : ∃ p, o + 1 = p := ⟨_, rfl⟩
  obtain ⟨o2, eo2⟩ : ∃ p, o + 2 = p := ⟨_, rfl⟩
  rw [eo1] at ix1 l1
  rw [eo2] at ix2 l2
  obtain ⟨L0, eL0⟩ : ∃ L, len - 228 = L := ⟨_, rfl⟩
  rw [eL0] at l0 q0
  rw [eL0] at hre
  have HRE := hid (hre w1 A0 c0 q0)
  have z3 := Z3.out
  have e0 := EG.out
  have HRR := hid ((hb1.block y (by omega)).trans R1.out)
  have HRX := hid ((hb1.block g (by omega)).trans R2.out)
  have HYS := hid (show y < w1.heap.size by have := hb1.size; omega)
  have HGS := hid (show g < w1.heap.size by have := hb1.size; omega)
  have HB1 := hid hb1
  clear hre q0 f0 q1 f1 q2 f2 hgp l1 l2 ix1 ix2 eo1 eo2 eL0 hb1 z3 z e0
  go_upto_region 6 with (go_at_call 41; refine HRE.out.mono ?_; rintro e w2 ⟨a2, c2', rfl, hb2⟩; have rg := (hb2.block g HGS.out).trans HRX.out; have cs : w2.cell? ⟨g, 0, none⟩ = some (.slice none 0 0) := seg_sl rg 0 none 0 0 rfl 0 rfl; have fs := row_frozen rg 0; have RG := hid rg; have HB2 := hid hb2; clear hb2 rg)
  obtain ⟨V1, hV⟩ : ∃ V, w2.setCell ⟨g, 0, none⟩ (.slice a2 0 c2') = V := ⟨_, rfl⟩
  have KV1 : Hid (Kept g w1 V1) := by rw [← hV]; exact (Kept.ofBelow HB2.out).setCell _ _
  rw [hV]
  clear hV cs fs
  have z3 := Z3.out
  have e0 := EG.out
  have RR := hid ((KV1.out.block y HYS.out (by omega)).trans HRR.out)
  have sv := svAttest_run RR.out oAttest
  clear z3 e0
  have bd := bdAttest_0
  go_wp2
  refine retAttest _ _ y oAttest 33 _ rfl rfl rfl rfl (setRow_at RR.out) ⟨rfl, ?_⟩
  have e0 := EY.out
  have e1 := HB3.out.size
  have e2 := HB1.out.size
  have e3 := EG.out
  have z3 := Z3.out
  exact below_row (HB3.out.trans ((HB1.out.mono (by omega)).trans (KV1.out.below (by omega) (by omega)))) (by omega) _

set_option maxHeartbeats 2000000 in
theorem rreadAttest_ok (m : Nat → Int) (ao : Option Addr) (len cap : Nat) (w : World) (hb : Bys w ao len cap m) (hm : ∀ j, 0 ≤ m j ∧ m j < 256) (hlc : len ≤ cap) (hcap : cap ≤ 9223372036854775807) (hlen : len ≤ 140737488351232) (h228 : 228 ≤ len) (hoff : oN m = 228) (n : Nat) (R : Nat → Bool) (hrl : ∀ (X : World) A C, Bys X A (len - 228) C (fun q => m (228 + q)) → Calls Tryz.prog 41 #[.slice A (len - 228) C, .int .i64 64] X fun e w' => ∃ a c, e = .returned (.tuple #[.slice a n c, .int .i64 0]) ∧ Z.Bls w' a n c R ∧ Below X.heap.size X w') :
    Calls Tryz.prog 11 #[.slice ao len cap] w fun e w' => ∃ a c, e = .returned (.tuple #[.agg (cel (sAttest ⟨a, n, c, R, pData (fun q => m (4 + q)), fun q => m (132 + q)⟩)), .int .i64 0]) ∧ Z.Bls w' a n c R ∧ Below w.heap.size w w' := by
  obtain ⟨N1, eN1⟩ : ∃ N, pData (fun q => m (4 + q)) = N := ⟨_, rfl⟩
  rw [eN1]
  have EN1 := hid eN1
  clear eN1
  have z := zeroAttest
  obtain ⟨y, ey⟩ : ∃ y, w.heap.size = y := ⟨_, rfl⟩
  obtain ⟨W1, hW1⟩ : ∃ W, w.alloc (.cells (cel (sAttest oAttest)) 33) = W := ⟨_, rfl⟩
  obtain ⟨W2, hW2⟩ : ∃ W, W1.alloc (.cells (cel (sAttest oAttest)) 33) = W := ⟨_, rfl⟩
  obtain ⟨W3, hW3⟩ : ∃ W, W2.alloc (.cells (vs .i64 3 zI) 3) = W := ⟨_, rfl⟩
  have z1 : W1.heap.size = y + 1 := by rw [← hW1, ← ey]; simp
  have z2 : W2.heap.size = y + 2 := by rw [← hW2]; simp [z1]
  have z3 : W3.heap.size = y + 3 := by rw [← hW3]; simp [z2]
  have hB3 : Below w.heap.size w W3 := by rw [← hW3, ← hW2, ← hW1]; exact (((Below.refl _ _).alloc (Nat.le_refl _) _).alloc (by simp) _).alloc (by simp; omega) _
  have r1 : W3.heap[y]? = some (.cells (cel (sAttest oAttest)) 33) := by rw [← hW3]; refine (heap_old (by omega)).trans ?_; rw [← hW2]; refine (heap_old (by omega)).trans ?_; rw [← hW1]; exact heap_new ey.symm
  have r2 : W3.heap[y + 1]? = some (.cells (cel (sAttest oAttest)) 33) := by rw [← hW3]; refine (heap_old (by omega)).trans ?_; rw [← hW2]; exact heap_new z1.symm
  have g3 : W3.heap[y + 2]? = some (.cells (vs .i64 3 zI) 3) := by rw [← hW3]; exact heap_new z2.symm
  have bsi := bsI_zI W2
  rw [hW3, z2] at bsi
  have hcut := rcutI_ok m ao len cap (y + 2) W3 (hb.below hB3) hm hlen hlc hcap g3 h228 hoff
  obtain ⟨g, eg⟩ : ∃ g, y + 1 = g := ⟨_, rfl⟩
  obtain ⟨u, eu⟩ : ∃ u, y + 2 = u := ⟨_, rfl⟩
  rw [eu] at bsi hcut
  rw [eg] at r2
  have HCUT := hid hcut
  have R1 := hid r1
  have R2 := hid r2
  have HB3 := hid hB3
  have EY := hid ey
  have EG := hid eg
  have Z3 := hid z3
  clear hcut r1 r2 hB3 g3 z3 hlc hcap hb
  clear hlen h228 hoff
  go_enter Tryz.func11, Tryz.ntmps11
  go_upto_region 3 with (go_at_call 40; refine HCUT.out.mono ?_; rintro e w1 ⟨gp, o, cp, rfl, hgp, ⟨⟨A0, c0, l0, q0, f0⟩, ⟨b1, p1, c1, l1, q1, f1⟩, ⟨b2, p2, c2, l2, q2, f2⟩⟩, hb1⟩)
  clear hW1 hW2 hW3 ey eg eu bsi z1 z2
  have ix0 : ∀ X : World, (ixP (.slice (some ⟨gp, o, none⟩) 3 cp) (.int .i64 0)).run Tryz.prog X = .ok (.pointer (some ⟨gp, o, none⟩)) X := fun X => ixP_run X gp o 3 cp 0 (by omega)
  have ix1 : ∀ X : World, (ixP (.slice (some ⟨gp, o, none⟩) 3 cp) (.int .i64 1)).run Tryz.prog X = .ok (.pointer (some ⟨gp, o + 1, none⟩)) X := fun X => ixP_run X gp o 3 cp 1 (by omega)
  have ix2 : ∀ X : World, (ixP (.slice (some ⟨gp, o, none⟩) 3 cp) (.int .i64 2)).run Tryz.prog X = .ok (.pointer (some ⟨gp, o + 2, none⟩)) X := fun X => ixP_run X gp o 3 cp 2 (by omega)
  obtain ⟨o1, eo1⟩ : ∃ p, o + 1 = p := ⟨_, rfl⟩
  obtain ⟨o2, eo2⟩ : ∃ p, o + 2 = p := ⟨_, rfl⟩
  rw [eo1] at ix1 l1
  rw [eo2] at ix2 l2
  obtain ⟨L0, eL0⟩ : ∃ L, len - 228 = L := ⟨_, rfl⟩
  rw [eL0] at l0 q0
  have z3 := Z3.out
  have e0 := EG.out
  have rx : w1.heap[g]? = some (.cells (cel (sAttest oAttest)) 33) := (hb1.block g (by omega)).trans R2.out
  have hgw : g < w1.heap.size := by have := hb1.size; omega
  have hne : gp ≠ g := cel_noT rx l1
  have nb1 : b1 ≠ g := by omega
  have nb2 : b2 ≠ g := by omega
  have hre := hrl w1 A0 c0
  rw [eL0] at hre
  replace hre := hre q0
  have HQ1 : Hid (∀ X, Kept g w1 X → Bys X (some ⟨b1, p1, none⟩) 128 c1 (fun q => m (4 + q))) := fun X h => by
    obtain ⟨b', o', e', h1, h2, h3⟩ := bys_at q1 (by omega)
    cases e'
    exact .inr (.inr ⟨_, _, rfl, h2, bys_cap q1 (by omega), Nat.lt_of_lt_of_le h1 h.size, fun j hj => (h.cell h1 nb1).trans (h3 j hj)⟩)
  have HQ2 : Hid (∀ X, Kept g w1 X → ∀ j, j < 96 → X.cell? ⟨b2, p2 + j, none⟩ = some (.int .u8 (m (132 + j)))) := fun X h j hj => by
    obtain ⟨b', o', e', h1, h2, h3⟩ := bys_at q2 (by omega)
    cases e'
    exact (h.cell h1 nb2).trans (h3 j hj)
  have HL1 : Hid (∀ X, Kept g w1 X → X.cell? ⟨gp, o1, none⟩ = some (.slice (some ⟨b1, p1, none⟩) 128 c1)) := fun X h => (h.cell hgp hne).trans l1
  have HL2 : Hid (∀ X, Kept g w1 X → X.cell? ⟨gp, o2, none⟩ = some (.slice (some ⟨b2, p2, none⟩) 96 c2)) := fun X h => (h.cell hgp hne).trans l2
  have HN1 : Hid (∀ X, Kept g w1 X → Calls Tryz.prog 42 #[.slice (some ⟨b1, p1, none⟩) 128 c1] X fun e w' => e = .returned (.tuple #[.agg (cel (sData N1)), .int .i64 0]) ∧ Below X.heap.size X w') := fun X h => by
    rw [← EN1.out]
    exact rreadData_ok _ _ c1 X (HQ1.out X h) (fun j => hm _) (bys_le (HQ1.out X h) (by omega)) (bys_cap (HQ1.out X h) (by omega))
  have HRE := hid hre
  have HRX := hid rx
  have HGW := hid hgw
  have HB1 := hid hb1
  clear hre rx hgw hb1 hne nb1 nb2 q0 q1 q2 f0 f1 f2 hgp l1 l2 eo1 eo2 eL0 z3 e0
  go_upto_region 8 with (go_at_call 41; refine HRE.out.mono ?_; rintro e w2 ⟨a, c, rfl, hbl, hb2⟩; have rg := (hb2.block g HGW.out).trans HRX.out; have cs : w2.cell? ⟨g, 0, none⟩ = some (.slice none 0 0) := seg_sl rg 0 none 0 0 rfl 0 rfl; have fs := row_frozen rg 0; have RG := hid rg; have HB2 := hid hb2; have HBL := hid hbl; clear hb2 rg hbl)
  obtain ⟨wo, hwo⟩ : ∃ V, w2.setCell ⟨g, 0, none⟩ (.slice a n c) = V := ⟨_, rfl⟩
  have RW : Hid (wo.heap[g]? = some (.cells (cel (sAttest ⟨a, n, c, R, oData, fun _ => 0⟩)) 33)) := by rw [← hwo]; exact (row_set RG.out _ _).trans (congrArg (fun c => some (Obj.cells c 33)) (setT_who _ _ _ _ _ _ _ _))
  have RWX := hid RW.out
  have KW : Hid (Kept g w1 wo) := by rw [← hwo]; exact (Kept.ofBelow HB2.out).setCell _ _
  have HBW : Hid (Z.Bls wo a n c R) := by rw [← hwo]; exact bls_other HBL.out RG.out rfl (by simp [World.setCell]) (fun b h1 h2 => heap_set_other h1)
  rw [hwo]
  clear l0 ix0 HRE z hwo cs fs
  have ld := HL1.out _ KW.out
  go_upto_region 11 with (go_at_call 42; refine (HN1.out _ KW.out).mono ?_; rintro e w4 ⟨rfl, hbc⟩; have rg := (hbc.block g (Array.getElem?_eq_some_iff.1 RW.out).1).trans RW.out; have sv := svData_mid rg 1 N1 (by rw [cel_size, slAttest]; omega); have RG := hid rg; have HBC := hid hbc; clear rg hbc)
  obtain ⟨V2, hV⟩ : ∃ V, w4.setCells g 1 (celL (sData N1)) = V := ⟨_, rfl⟩
  have RV2 : Hid (V2.heap[g]? = some (.cells (cel (sAttest ⟨a, n, c, R, N1, fun _ => 0⟩)) 33)) := by rw [← hV]; refine (setCells_row _ _ RG.out).trans (congrArg (fun c => some (Obj.cells c 33)) ?_); kernel_rfl
  have KV2 : Hid (Kept g wo V2) := by rw [← hV]; exact setCells_kept _ _ (Kept.ofBelow HBC.out)
  rw [hV]
  clear hV ld sv RG HBC RW
  go_upto_region 12 with fail
  go_loopw [7] (fun i wr => ∃ j : Nat, j ≤ 96 ∧ i = .int .i64 j ∧ Kept g wo wr ∧ wr.heap[g]? = some (.cells (cel (sAttest ⟨a, n, c, R, N1, fun q => if q < j then m (132 + q) else 0⟩)) 33)) (fun i _ => 96 - (intOf i).toNat)
  case atStart => exact ⟨0, by omega, rfl, KV2.out, RV2.out.trans (congrArg (fun c => some (Obj.cells c 33)) (by kernel_rfl))⟩
  case round =>
    obtain ⟨j, hj, rfl, hkp, rn⟩ := hrel
    by_cases hlt : j < 96
    · have bq : decide (j < 96) = true := by simp; omega
      have k1 : (j : Int) < 96 := by omega
      have k2 : (0 : Int) ≤ (j : Int) := by omega
      have cs : wr.cell? ⟨g, 101 + j, none⟩ = some (.int .u8 (if j < j then m (132 + j) else 0)) := (row_cell rn _).trans (cel_at (sAttest ⟨a, n, c, R, N1, fun q => if q < j then m (132 + q) else 0⟩) 8 j (Seg.by 96 (fun q => if q < j then m (132 + q) else 0)) rfl hlt)
      have fs := row_frozen rn (101 + j)
      have ld := HL2.out _ (KW.out.trans hkp)
      have lc : wr.cell? ⟨b2, p2 + j, none⟩ = some (.int .u8 (m (132 + j))) := HQ2.out _ (KW.out.trans hkp) j hlt
      have RN := hid rn
      have HK := hid hkp
      obtain ⟨M, eM⟩ : ∃ M, m (132 + j) = M := ⟨_, rfl⟩
      rw [eM] at lc
      have EM := hid eM
      clear rn hkp eM
      go_wp2
      go_roundw
      case rel =>
        refine ⟨j + 1, by omega, by go_num, HK.out.setCell _ _, (row_set RN.out _ _).trans (congrArg (fun c => some (Obj.cells c 33)) ?_)⟩
        refine Eq.trans ?_ ((cel_set (l := sAttest ⟨a, n, c, R, N1, fun q => if q < j then m (132 + q) else 0⟩) 8 96 j (fun q => if q < j then m (132 + q) else 0) M rfl hlt).trans ?_)
        · rfl
        · rw [← EM.out, up_step]
          rfl
      case measure => simp [intOf]; omega
    · obtain rfl : j = 96 := by omega
      have bq : decide (96 < 96) = false := by decide
      obtain ⟨vv, ev⟩ : ∃ v : VAttest, ⟨a, n, c, R, N1, fun q => m (132 + q)⟩ = v := ⟨_, rfl⟩
      have rv : wr.heap[g]? = some (.cells (cel (sAttest vv)) 33) := by
        rw [← ev]
        exact rn.trans (congrArg (fun c => some (Obj.cells c 33)) (by kernel_rfl))
      have z3 := Z3.out
      have e0 := EG.out
      have e2 := HB1.out.size
      have rr : wr.heap[y]? = some (.cells (cel (sAttest oAttest)) 33) := ((KW.out.trans hkp).block y (by omega) (by omega)).trans ((HB1.out.block y (by omega)).trans R1.out)
      have sv := svAttest_run rr vv
      have lv := lvAttest_mid (x := vv) rv 0 (take_all _) rfl
      have RR := hid rr
      have EV := hid ev
      have HKP := hid hkp
      have HBX : Hid (Z.Bls wr a n c R) := bls_other HBW.out RWX.out rfl hkp.size (fun b h1 h2 => hkp.block b h2 h1)
      clear rr rv ev z3 e0 e2 rn hkp
      go_wp2
      have hbx : Z.Bls wr a n c R := HBX.out
      refine retAttest _ _ y vv 33 _ rfl rfl rfl rfl (setRow_at RR.out) ⟨a, c, ?_, bls_other hbx RR.out rfl (by simp) (fun b h1 h2 => setRow_other _ y b _ h1), ?_⟩
      · rw [← EV.out]
        rfl
      have e0 := EY.out
      have e1 := HB3.out.size
      have e2 := HB1.out.size
      have e3 := EG.out
      have z3 := Z3.out
      exact below_row (HB3.out.trans ((HB1.out.mono (by omega)).trans ((KW.out.trans HKP.out).below (by omega) (by omega)))) (by omega) _
end Go.Proofs.YtokbhcgooboocaaGreatDoor
