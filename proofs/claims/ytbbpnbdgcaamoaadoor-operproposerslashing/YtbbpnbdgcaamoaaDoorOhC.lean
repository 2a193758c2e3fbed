/-
  What ReadProposerSlashing answers.
-/
import Derived.Test.YtbbpnbdgcaamoaaDoorOhA
import Derived.Test.YtbbpnbdgcaamoaaDoorThSignedHeader
namespace Go.Proofs.YtbbpnbdgcaamoaaDoor
open Go.RowKit
set_option linter.unusedVariables false
set_option linter.unusedSimpArgs false
set_option maxRecDepth 20000

def lvProposerSlashing (a : Addr) : Sem Value := loadVar 49 a
theorem lvProposerSlashing_eq (a : Addr) : loadVar 49 a = lvProposerSlashing a := rfl
theorem lvProposerSlashing_mid {w : World} {g : Nat} {C : Array Value} {t : TypeId} {x : VProposerSlashing} (h : w.heap[g]? = some (.cells C t)) (o : Nat) (hl : (C.toList.drop o).take (celL (sProposerSlashing x)).length = celL (sProposerSlashing x)) (hs : slen (sProposerSlashing x) = 388) : (lvProposerSlashing ⟨g, o, none⟩).run Tryd.prog w = .ok (.agg (cel (sProposerSlashing x))) w :=
  loadAt_var (run_loadAt_mid w g o 49 _ _ (sub_range h hl) Tryd.underlying49 rfl (by rw [celL_len, hs]; kernel_rfl))
theorem svSignedHeader_mid {w : World} {b : Nat} {C : Array Value} {t : TypeId} (h : w.heap[b]? = some (.cells C t)) (o : Nat) (c : VSignedHeader) (hn : o + 194 ≤ C.size) :
    (svSignedHeader ⟨b, o, none⟩ (.agg (cel (sSignedHeader c)))).run Tryd.prog w = .ok () (w.setCells b o (celL (sSignedHeader c))) := by
  have h1 := run_storeVar_mid (P := Tryd.prog) w b o 47 (cel (sSignedHeader c)) (by rw [cel_size, slSignedHeader]; exact there_row h o 194 hn) (by rw [cel_size, slSignedHeader]; kernel_rfl) (cel_one _)
  exact h1

attribute [local go_sem ↓] ixP_eq lvSignedHeader_eq svSignedHeader_eq lvProposerSlashing_eq svProposerSlashing_eq bdProposerSlashing_eq

set_option maxHeartbeats 2000000 in
theorem readProposerSlashing_no (m : Nat → Int) (ao : Option Addr) (len cap : Nat) (w : World) (hb : Bys w ao len cap m) (hm : ∀ j, 0 ≤ m j ∧ m j < 256) (hlc : len ≤ cap) (hcap : cap ≤ 9223372036854775807) (hlen : len ≤ 140737488351232) (hN : ¬ len = 416) :
    Calls Tryd.prog 17 #[.slice ao len cap] w fun e w' => e = .returned (.tuple #[.agg (cel (sProposerSlashing oProposerSlashing)), .int .i64 4]) ∧ Below w.heap.size w w' := by
  have z := zeroProposerSlashing
  obtain ⟨W1, hW1⟩ : ∃ W, w.alloc (.cells (cel (sProposerSlashing oProposerSlashing)) 49) = W := ⟨_, rfl⟩
  obtain ⟨W2, hW2⟩ : ∃ W, W1.alloc (.cells (vs .i64 2 zProposerSlashing) 3) = W := ⟨_, rfl⟩
  have hB1 : Below w.heap.size w W1 := by rw [← hW1]; exact (Below.refl _ _).alloc (Nat.le_refl _) _
  have z1 : W1.heap.size = w.heap.size + 1 := by rw [← hW1]; simp
  have z2 : W2.heap.size = w.heap.size + 2 := by rw [← hW2]; simp [z1]
  have hB2 : Below w.heap.size w W2 := by rw [← hW2]; exact hB1.alloc (by omega) _
  have r1 : W1.heap[w.heap.size]? = some (.cells (cel (sProposerSlashing oProposerSlashing)) 49) := by rw [← hW1]; exact heap_new rfl
  have r2 : W2.heap[w.heap.size]? = some (.cells (cel (sProposerSlashing oProposerSlashing)) 49) := by rw [← hW2]; exact (heap_old (by omega)).trans r1
  have g2 : W2.heap[W1.heap.size]? = some (.cells (vs .i64 2 zProposerSlashing) 3) := by rw [← hW2]; exact heap_new rfl
  have hsz : Calls Tryd.prog 48 #[] W1 fun e w' => e = .returned (.slice (some ⟨W1.heap.size, 0, none⟩) 2 2) ∧ w' = W2 := by rw [← hW2]; exact psz_any W1
  have hcut := cut7_no fixProposerSlashing m ao len cap W1.heap.size W2 (hb.below hB2) hm hlen hlc hcap g2 (by omega) hN
  obtain ⟨y, ey⟩ : ∃ y, w.heap.size = y := ⟨_, rfl⟩
  obtain ⟨y1, ey1⟩ : ∃ y, W1.heap.size = y := ⟨_, rfl⟩
  rw [ey1] at hcut hsz
  have hy : y < W2.heap.size := by omega
  rw [ey] at r2
  have HCUT := hid hcut
  have HSZ := hid hsz
  have R2 := hid r2
  have HB2 := hid hB2
  have HY := hid hy
  have EY := hid ey
  clear hcut hsz r2 hB2 hy r1 g2 hB1 z1 z2 hlc hcap hb hlen hN
  go_enter Tryd.func17, Tryd.ntmps17
  go_upto_region 2 with (first
    | (go_at_call 48; refine HSZ.out.mono ?_; rintro e w0 ⟨rfl, hw0⟩; obtain rfl := hw0.symm)
    | (go_at_call 40; refine HCUT.out.mono ?_; rintro e w1 ⟨a1, rfl, hb1⟩))
  clear hW1 hW2 ey ey1
  have rr := (hb1.block _ HY.out).trans R2.out
  have sv := svProposerSlashing_run rr oProposerSlashing
  have bd := bdProposerSlashing_0
  have RR := hid rr
  have HB1 := hid hb1
  clear rr hb1
  go_wp2
  refine retProposerSlashing _ _ y oProposerSlashing 49 _ rfl rfl rfl rfl (setRow_at RR.out) ⟨rfl, ?_⟩
  have e0 := EY.out
  have e1 := HB2.out.size
  exact below_row (HB2.out.trans (HB1.out.mono (by omega))) (by omega) _

set_option maxHeartbeats 2000000 in
theorem readProposerSlashing_ok (m : Nat → Int) (ao : Option Addr) (cap : Nat) (w : World) (hb : Bys w ao 416 cap m) (hm : ∀ j, 0 ≤ m j ∧ m j < 256) (hlc : 416 ≤ cap) (hcap : cap ≤ 9223372036854775807) :
    Calls Tryd.prog 17 #[.slice ao 416 cap] w fun e w' => e = .returned (.tuple #[.agg (cel (sProposerSlashing (pProposerSlashing m))), .int .i64 0]) ∧ Below w.heap.size w w' := by
  have z := zeroProposerSlashing
  obtain ⟨W1, hW1⟩ : ∃ W, w.alloc (.cells (cel (sProposerSlashing oProposerSlashing)) 49) = W := ⟨_, rfl⟩
  obtain ⟨W2, hW2⟩ : ∃ W, W1.alloc (.cells (vs .i64 2 zProposerSlashing) 3) = W := ⟨_, rfl⟩
  have hB1 : Below w.heap.size w W1 := by rw [← hW1]; exact (Below.refl _ _).alloc (Nat.le_refl _) _
  have z1 : W1.heap.size = w.heap.size + 1 := by rw [← hW1]; simp
  have z2 : W2.heap.size = w.heap.size + 2 := by rw [← hW2]; simp [z1]
  have hB2 : Below w.heap.size w W2 := by rw [← hW2]; exact hB1.alloc (by omega) _
  have r1 : W1.heap[w.heap.size]? = some (.cells (cel (sProposerSlashing oProposerSlashing)) 49) := by rw [← hW1]; exact heap_new rfl
  have r2 : W2.heap[w.heap.size]? = some (.cells (cel (sProposerSlashing oProposerSlashing)) 49) := by rw [← hW2]; exact (heap_old (by omega)).trans r1
  have g2 : W2.heap[W1.heap.size]? = some (.cells (vs .i64 2 zProposerSlashing) 3) := by rw [← hW2]; exact heap_new rfl
  have hsz : Calls Tryd.prog 48 #[] W1 fun e w' => e = .returned (.slice (some ⟨W1.heap.size, 0, none⟩) 2 2) ∧ w' = W2 := by rw [← hW2]; exact psz_any W1
  have hcut := cut7_ok fixProposerSlashing m ao cap W1.heap.size W2 (hb.below hB2) hm (by omega) hlc hcap g2 (by omega) zposProposerSlashing (by omega)
  obtain ⟨y, ey⟩ : ∃ y, w.heap.size = y := ⟨_, rfl⟩
  obtain ⟨y1, ey1⟩ : ∃ y, W1.heap.size = y := ⟨_, rfl⟩
  rw [ey1] at hcut hsz
  have hy : y < W2.heap.size := by omega
  rw [ey] at r2
  have HCUT := hid hcut
  have HSZ := hid hsz
  have R2 := hid r2
  have HB2 := hid hB2
  have HY := hid hy
  have EY := hid ey
  clear hcut hsz r2 hB2 hy r1 g2 hB1 z1 z2 hlc hcap hb
  go_enter Tryd.func17, Tryd.ntmps17
  go_upto_region 2 with (first
    | (go_at_call 48; refine HSZ.out.mono ?_; rintro e w0 ⟨rfl, hw0⟩; obtain rfl := hw0.symm)
    | (go_at_call 40; refine HCUT.out.mono ?_; rintro e w1 ⟨gp, o, rfl, hgp, hcu, hb1⟩))
  clear hW1 hW2 ey ey1
  obtain ⟨b0, o0, c0, l0, q0⟩ := hcu 0 (by omega)
  replace l0 : w1.cell? ⟨gp, o + 0, none⟩ = some (.slice (some ⟨b0, o0, none⟩) 208 c0) := l0
  replace q0 : Bys w1 (some ⟨b0, o0, none⟩) 208 c0 (fun q => m (0 + q)) := q0
  obtain ⟨P0, eP0⟩ : ∃ P, o + 0 = P := ⟨_, rfl⟩
  rw [eP0] at l0
  have ix0 : ∀ X : World, (ixP (.slice (some ⟨gp, o, none⟩) 2 2) (.int .i64 0)).run Tryd.prog X = .ok (.pointer (some ⟨gp, P0, none⟩)) X := fun X => by rw [← eP0]; exact ixP_run X gp o 2 2 0 (by omega)
  obtain ⟨N0, eN0⟩ : ∃ N, pSignedHeader (fun q => m (0 + q)) = N := ⟨_, rfl⟩
  have hn0 : ∀ X, Below w1.heap.size w1 X → Calls Tryd.prog 52 #[.slice (some ⟨b0, o0, none⟩) 208 c0] X fun e w' => e = .returned (.tuple #[.agg (cel (sSignedHeader N0)), .int .i64 0]) ∧ Below X.heap.size X w' := fun X h => by
    rw [← eN0]
    exact readSignedHeader_ok _ _ c0 X (q0.below h) (fun j => hm _) (bys_le (q0.below h) (by omega)) (bys_cap (q0.below h) (by omega))
  have HN0 := hid hn0
  have EN0 := hid eN0
  have L0 := hid l0
  obtain ⟨b1, o1, c1, l1, q1⟩ := hcu 1 (by omega)
  replace l1 : w1.cell? ⟨gp, o + 1, none⟩ = some (.slice (some ⟨b1, o1, none⟩) 208 c1) := l1
  replace q1 : Bys w1 (some ⟨b1, o1, none⟩) 208 c1 (fun q => m (208 + q)) := q1
  obtain ⟨P1, eP1⟩ : ∃ P, o + 1 = P := ⟨_, rfl⟩
  rw [eP1] at l1
  have ix1 : ∀ X : World, (ixP (.slice (some ⟨gp, o, none⟩) 2 2) (.int .i64 1)).run Tryd.prog X = .ok (.pointer (some ⟨gp, P1, none⟩)) X := fun X => by rw [← eP1]; exact ixP_run X gp o 2 2 1 (by omega)
  obtain ⟨N1, eN1⟩ : ∃ N, pSignedHeader (fun q => m (208 + q)) = N := ⟨_, rfl⟩
  have hn1 : ∀ X, Below w1.heap.size w1 X → Calls Tryd.prog 52 #[.slice (some ⟨b1, o1, none⟩) 208 c1] X fun e w' => e = .returned (.tuple #[.agg (cel (sSignedHeader N1)), .int .i64 0]) ∧ Below X.heap.size X w' := fun X h => by
    rw [← eN1]
    exact readSignedHeader_ok _ _ c1 X (q1.below h) (fun j => hm _) (bys_le (q1.below h) (by omega)) (bys_cap (q1.below h) (by omega))
  have HN1 := hid hn1
  have EN1 := hid eN1
  have L1 := hid l1
  have HB1 := hid hb1
  have HGP := hid hgp
  obtain ⟨g, eg⟩ : ∃ g, w1.heap.size = g := ⟨_, rfl⟩
  obtain ⟨V0, hV0⟩ : ∃ V, w1.alloc (.cells (cel (sProposerSlashing oProposerSlashing)) 49) = V := ⟨_, rfl⟩
  have hB0 : Below g w1 V0 := by rw [← hV0, ← eg]; exact (Below.refl _ _).alloc (Nat.le_refl _) _
  have rV0 : V0.heap[g]? = some (.cells (cel (sProposerSlashing ⟨oSignedHeader, oSignedHeader⟩)) 49) := by rw [← hV0]; exact heap_new eg.symm
  have EG := hid eg
  have RV0 := hid rV0
  have HV0 := hid hB0
  clear rV0 hB0 q0 eP0 q1 eP1 hn0 eN0 hn1 eN1 hb1 hgp hcu l0 l1
  go_upto_region 5 with fail
  clear hV0 eg z
  have ld := (below_cell HV0.out (by rw [← EG.out]; exact HGP.out)).trans L0.out
  have HRC := hid (HN0.out _ (by rw [EG.out]; exact HV0.out))
  go_upto_region 6 with (go_at_call 52; refine HRC.out.mono ?_; rintro e u1 ⟨rfl, hbc⟩; have rg := (hbc.block g (Array.getElem?_eq_some_iff.1 RV0.out).1).trans RV0.out; have sv := svSignedHeader_mid rg 0 N0 (by rw [cel_size, slProposerSlashing]; omega); have RG := hid rg; have HBC := hid hbc; clear rg hbc)
  obtain ⟨V1, hV⟩ : ∃ V, u1.setCells g 0 (celL (sSignedHeader N0)) = V := ⟨_, rfl⟩
  have RV1 : Hid (V1.heap[g]? = some (.cells (cel (sProposerSlashing ⟨N0, oSignedHeader⟩)) 49)) := by rw [← hV]; exact (setCells_row _ _ RG.out).trans (congrArg (fun c => some (Obj.cells c 49)) (by kernel_rfl))
  have HV1 : Hid (Below g w1 V1) := by rw [← hV]; exact (HV0.out.trans (HBC.out.mono (Nat.le_of_lt (Array.getElem?_eq_some_iff.1 RV0.out).1))).trans ((setCells_kept _ _ (Kept.refl g u1)).below (Nat.le_refl _) (Nat.le_of_lt (Array.getElem?_eq_some_iff.1 RG.out).1))
  rw [hV]
  clear hV ld sv RG HBC HRC
  have ld := (below_cell HV1.out (by rw [← EG.out]; exact HGP.out)).trans L1.out
  have HRC := hid (HN1.out _ (by rw [EG.out]; exact HV1.out))
  go_upto_region 7 with (go_at_call 52; refine HRC.out.mono ?_; rintro e u2 ⟨rfl, hbc⟩; have rg := (hbc.block g (Array.getElem?_eq_some_iff.1 RV1.out).1).trans RV1.out; have sv := svSignedHeader_mid rg 194 N1 (by rw [cel_size, slProposerSlashing]; omega); have RG := hid rg; have HBC := hid hbc; clear rg hbc)
  obtain ⟨V2, hV⟩ : ∃ V, u2.setCells g 194 (celL (sSignedHeader N1)) = V := ⟨_, rfl⟩
  have RV2 : Hid (V2.heap[g]? = some (.cells (cel (sProposerSlashing ⟨N0, N1⟩)) 49)) := by rw [← hV]; exact (setCells_row _ _ RG.out).trans (congrArg (fun c => some (Obj.cells c 49)) (by kernel_rfl))
  have HV2 : Hid (Below g w1 V2) := by rw [← hV]; exact (HV1.out.trans (HBC.out.mono (Nat.le_of_lt (Array.getElem?_eq_some_iff.1 RV1.out).1))).trans ((setCells_kept _ _ (Kept.refl g u2)).below (Nat.le_refl _) (Nat.le_of_lt (Array.getElem?_eq_some_iff.1 RG.out).1))
  rw [hV]
  clear hV ld sv RG HBC HRC
  obtain ⟨vv, ev⟩ : ∃ v : VProposerSlashing, ⟨N0, N1⟩ = v := ⟨_, rfl⟩
  have rv := RV2.out
  rw [ev] at rv
  have rr : V2.heap[y]? = some (.cells (cel (sProposerSlashing oProposerSlashing)) 49) := (HV2.out.block _ (by rw [← EG.out]; exact Nat.lt_of_lt_of_le HY.out HB1.out.size)).trans ((HB1.out.block _ HY.out).trans R2.out)
  have sv := svProposerSlashing_run rr vv
  have lv := lvProposerSlashing_mid (x := vv) rv 0 (take_all _) (slProposerSlashing vv)
  have RR := hid rr
  have EV := hid ev
  clear rr rv ev
  go_wp2
  refine retProposerSlashing _ _ y vv 49 _ rfl rfl rfl rfl (setRow_at RR.out) ⟨?_, ?_⟩
  · rw [← EV.out, ← EN0.out, ← EN1.out]
    rfl
  have e0 := EY.out
  have e1 := HB2.out.size
  have e2 := HB1.out.size
  have e3 := EG.out
  exact below_row (HB2.out.trans ((HB1.out.mono (by omega)).trans (HV2.out.mono (by omega)))) (by omega) _

end Go.Proofs.YtbbpnbdgcaamoaaDoor
