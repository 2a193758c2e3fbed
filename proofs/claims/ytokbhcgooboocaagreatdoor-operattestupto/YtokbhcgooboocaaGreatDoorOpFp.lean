/-
  What ReadIndexed answers where it reads.
-/
import Derived.Test.YtokbhcgooboocaaGreatDoorOpEp
import Derived.Test.YtokbhcgooboocaaGreatDoorThDatap
namespace Go.Proofs.YtokbhcgooboocaaGreatDoor
open Go.RowKit
set_option linter.unusedVariables false
set_option linter.unusedSimpArgs false
set_option maxRecDepth 20000

theorem svData_mid {w : World} {b : Nat} {C : Array Value} {t : TypeId} (h : w.heap[b]? = some (.cells C t)) (o : Nat) (c : VData) (hn : o + 100 ≤ C.size) :
    (svData ⟨b, o, none⟩ (.agg (cel (sData c)))).run Tryz.prog w = .ok () (w.setCells b o (celL (sData c))) := by
  have h1 := run_storeVar_mid (P := Tryz.prog) w b o 29 (cel (sData c)) (by rw [cel_size, slData]; exact there_row h o 100 hn) (by rw [cel_size, slData]; kernel_rfl) (cel_one _)
  exact h1

attribute [local go_sem ↓] ixP_eq lvData_eq svData_eq lvIndexed_eq svIndexed_eq bdIndexed_eq

set_option maxRecDepth 20000 in
set_option maxHeartbeats 2000000 in
theorem readIndexed_ok (m : Nat → Int) (ao : Option Addr) (len cap : Nat) (w : World) (hb : Bys w ao len cap m) (hm : ∀ j, 0 ≤ m j ∧ m j < 256) (hlc : len ≤ cap) (hcap : cap ≤ 9223372036854775807) (hlen : len ≤ 140737488351232) (h228 : 228 ≤ len) (hoff : oN m = 228) (n : Nat) (hn : len = 228 + n * 8) (hn64 : n ≤ 64) :
    Calls Tryz.prog 19 #[.slice ao len cap] w fun e w' => ∃ g, e = .returned (.tuple #[.agg (cel (sIndexed ⟨some ⟨g, 0, none⟩, n, n, rN (fun q => m (228 + q)), pData (fun q => m (4 + q)), fun q => m (132 + q)⟩)), .int .i64 0]) ∧ w.heap.size ≤ g ∧ w'.heap[g]? = some (.cells (vs .u64 n (rN (fun q => m (228 + q)))) 23) ∧ Below w.heap.size w w' := by
  have HNN := hid hn
  have H64 := hid hn64
  obtain ⟨R, eR⟩ : ∃ R, rN (fun q => m (228 + q)) = R := ⟨_, rfl⟩
  obtain ⟨N0, eN0⟩ : ∃ N, pData (fun q => m (4 + q)) = N := ⟨_, rfl⟩
  rw [eR, eN0]
  have ER := hid eR
  have EN0 := hid eN0
  clear hn hn64 eR eN0
  have z := zeroIndexed
  obtain ⟨W1, hW1⟩ : ∃ W, w.alloc (.cells (cel (sIndexed oIndexed)) 46) = W := ⟨_, rfl⟩
  obtain ⟨W2, hW2⟩ : ∃ W, W1.alloc (.cells (vs .i64 3 zI) 3) = W := ⟨_, rfl⟩
  have hB1 : Below w.heap.size w W1 := by rw [← hW1]; exact (Below.refl _ _).alloc (Nat.le_refl _) _
  have z1 : W1.heap.size = w.heap.size + 1 := by rw [← hW1]; simp
  have z2 : W2.heap.size = w.heap.size + 2 := by rw [← hW2]; simp [z1]
  have hB2 : Below w.heap.size w W2 := by rw [← hW2]; exact hB1.alloc (by omega) _
  have r1 : W1.heap[w.heap.size]? = some (.cells (cel (sIndexed oIndexed)) 46) := by rw [← hW1]; exact heap_new rfl
  have r2 : W2.heap[w.heap.size]? = some (.cells (cel (sIndexed oIndexed)) 46) := by rw [← hW2]; exact (heap_old (by omega)).trans r1
  have g2 : W2.heap[W1.heap.size]? = some (.cells (vs .i64 3 zI) 3) := by rw [← hW2]; exact heap_new rfl
  have hsz : Calls Tryz.prog 23 #[] W1 fun e w' => e = .returned (.slice (some ⟨W1.heap.size, 0, none⟩) 3 3) ∧ w' = W2 := by rw [← hW2]; exact asz_any W1
  have hcut := cutI_ok m ao len cap W1.heap.size W2 (hb.below hB2) hm hlen hlc hcap g2 h228 hoff
  obtain ⟨y, ey⟩ : ∃ y, w.heap.size = y := ⟨_, rfl⟩
  obtain ⟨y1, ey1⟩ : ∃ y, W1.heap.size = y := ⟨_, rfl⟩
  rw [ey1] at hcut hsz
  have hy : y < W2.heap.size := by omega
  rw [ey] at r2
  have HCUT := hid hcut
  have HSZ := hid hsz
  have R2 := hid r2
  have HB2 := hid hB2
  have HY := hid hy
  have EY := hid ey
  clear hcut hsz r2 hB2 hy r1 g2 hB1 z1 z2 hlc hcap hb h228 hoff
  go_enter Tryz.func19, Tryz.ntmps19
  go_upto_region 2 with (first
    | (go_at_call 23; refine HSZ.out.mono ?_; rintro e w0 ⟨rfl, hw0⟩; obtain rfl := hw0.symm)
    | (go_at_call 37; refine HCUT.out.mono ?_; rintro e w1 ⟨gp, o, rfl, hgp, ⟨⟨A0, l0, q0⟩, ⟨A1, l1, q1⟩, ⟨A2, l2, q2⟩⟩, hb1⟩))
  clear hW1 hW2 ey ey1
  have ix0 : ∀ X : World, (ixP (.slice (some ⟨gp, o, none⟩) 3 3) (.int .i64 0)).run Tryz.prog X = .ok (.pointer (some ⟨gp, o, none⟩)) X := fun X => ixP_run X gp o 3 3 0 (by omega)
  have ix1 : ∀ X : World, (ixP (.slice (some ⟨gp, o, none⟩) 3 3) (.int .i64 1)).run Tryz.prog X = .ok (.pointer (some ⟨gp, o + 1, none⟩)) X := fun X => ixP_run X gp o 3 3 1 (by omega)
  have ix2 : ∀ X : World, (ixP (.slice (some ⟨gp, o, none⟩) 3 3) (.int .i64 2)).run Tryz.prog X = .ok (.pointer (some ⟨gp, o + 2, none⟩)) X := fun X => ixP_run X gp o 3 3 2 (by omega)
  obtain ⟨o1, eo1⟩ : ∃ p, o + 1 = p := ⟨_, rfl⟩
  obtain ⟨o2, eo2⟩ : ∃ p, o + 2 = p := ⟨_, rfl⟩
  rw [eo1] at ix1 l1
  rw [eo2] at ix2 l2
  obtain ⟨L0, eL0⟩ : ∃ L, len - 228 = L := ⟨_, rfl⟩
  rw [eL0] at l0 q0
  have hrn : Calls Tryz.prog 49 #[.slice A0 L0 L0, .int .i64 64] w1 fun e w' => ∃ g, e = .returned (.tuple #[.slice (some ⟨g, 0, none⟩) n n, .int .i64 0]) ∧ w1.heap.size ≤ g ∧ w'.heap[g]? = some (.cells (vs .u64 n R) 23) ∧ Below w1.heap.size w1 w' := by
    rw [← ER.out]
    exact rn_ok (fun q => m (228 + q)) A0 L0 L0 n w1 q0 (fun j _ => hm _) (by have := HNN.out; omega) H64.out
  have hn0 : ∀ X, Below w1.heap.size w1 X → Calls Tryz.prog 39 #[.slice A1 128 128] X fun e w' => e = .returned (.tuple #[.agg (cel (sData N0)), .int .i64 0]) ∧ Below X.heap.size X w' := fun X h => by
    rw [← EN0.out]
    exact readData_ok _ _ 128 X (q1.below h) (fun j => hm _) (by omega) (by omega)
  obtain ⟨b2, p2, eA2, _, _, _⟩ := bys_at q2 (by omega)
  subst eA2
  have HRN := hid hrn
  have HN0 := hid hn0
  have Q2 := hid q2
  have L1 := hid l1
  have L2 := hid l2
  have HB1 := hid hb1
  have HGP := hid hgp
  clear hrn hn0 q0 q1 q2 l1 l2 eo1 eo2 eL0 hb1 hgp hlen
  go_upto_region 7 with (go_at_call 49; refine HRN.out.mono ?_; rintro e w2 ⟨gn, rfl, hgn, hrg, hb2⟩; have HGN := hid hgn; have HRG := hid hrg; have HB2n := hid hb2; clear hgn hrg hb2)
  clear l0 ix0 HRN
  obtain ⟨g, eg⟩ : ∃ g, w2.heap.size = g := ⟨_, rfl⟩
  have bd := fun W => bdIndexed_1 W (some ⟨gn, 0, none⟩) n n R
  obtain ⟨V0, hV0⟩ : ∃ V, w2.alloc (.cells (cel (sIndexed ⟨some ⟨gn, 0, none⟩, n, n, R, oData, fun _ => 0⟩)) 46) = V := ⟨_, rfl⟩
  have sv0 := svIndexed_newv w2 oIndexed ⟨some ⟨gn, 0, none⟩, n, n, R, oData, fun _ => 0⟩
  rw [hV0, eg] at sv0
  have hB0 : Below g w2 V0 := by rw [← hV0, ← eg]; exact (Below.refl _ _).alloc (Nat.le_refl _) _
  have rV0 : V0.heap[g]? = some (.cells (cel (sIndexed ⟨some ⟨gn, 0, none⟩, n, n, R, oData, fun _ => 0⟩)) 46) := by rw [← hV0]; exact heap_new eg.symm
  obtain ⟨vi, evi⟩ : ∃ v : VIndexed, ⟨some ⟨gn, 0, none⟩, n, n, R, oData, fun _ => 0⟩ = v := ⟨_, rfl⟩
  rw [evi] at sv0 rV0 bd
  have EVI := hid evi
  have EG := hid eg
  have RV0 := hid rV0
  have HV0 := hid hB0
  clear rV0 hB0 hV0 evi
  go_upto_region 8 with fail
  clear eg z bd sv0
  have hg1 : w1.heap.size ≤ g := by rw [← EG.out]; exact HB2n.out.size
  have HG1 := hid hg1
  have ld := (below_cell (HB2n.out.trans (HV0.out.mono hg1)) HGP.out).trans L1.out
  have HRC := hid (HN0.out _ (HB2n.out.trans (HV0.out.mono hg1)))
  clear hg1
  go_upto_region 9 with (go_at_call 39; refine HRC.out.mono ?_; rintro e w3 ⟨rfl, hbc⟩; have rg := (hbc.block g (Array.getElem?_eq_some_iff.1 RV0.out).1).trans RV0.out; have sv := svData_mid rg 1 N0 (by rw [cel_size, slIndexed]; omega); have RG := hid rg; have HBC := hid hbc; clear rg hbc)
  obtain ⟨V1, hV⟩ : ∃ V, w3.setCells g 1 (celL (sData N0)) = V := ⟨_, rfl⟩
  have RV1 : Hid (V1.heap[g]? = some (.cells (cel (sIndexed ⟨some ⟨gn, 0, none⟩, n, n, R, N0, fun _ => 0⟩)) 46)) := by rw [← hV]; refine (setCells_row _ _ RG.out).trans (congrArg (fun c => some (Obj.cells c 46)) ?_); rw [← EVI.out]; kernel_rfl
  have HV1 : Hid (Below g w2 V1) := by rw [← hV]; exact (HV0.out.trans (HBC.out.mono (Nat.le_of_lt (Array.getElem?_eq_some_iff.1 RV0.out).1))).trans ((setCells_kept _ _ (Kept.refl g w3)).below (Nat.le_refl _) (Nat.le_of_lt (Array.getElem?_eq_some_iff.1 RG.out).1))
  rw [hV]
  clear hV ld sv RG HBC HRC
  have HS : Hid (∀ X, Below g w2 X → Below w1.heap.size w1 X) := fun X h => HB2n.out.trans (h.mono HG1.out)
  have hsrc : ∀ j, j < 96 → (V1.drew).cell? (Addr.add ⟨b2, p2, none⟩ j) = some (.int .u8 (m (132 + j))) := fun j hj => by
    obtain ⟨b', o', e', _, _, h'⟩ := bys_at (Q2.out.below (w' := V1.drew) (HS.out _ HV1.out.drew)) (by omega)
    cases e'
    rw [Addr.add_mid]
    exact h' j hj
  have HCP := hid (copy_seg V1.drew g 101 96 (sIndexed ⟨some ⟨gn, 0, none⟩, n, n, R, N0, fun _ => 0⟩) (sIndexed ⟨some ⟨gn, 0, none⟩, n, n, R, N0, fun q => m (132 + q)⟩) (fun q => m (132 + q)) ⟨b2, p2, none⟩ 96 96 46 RV1.out (by rw [slIndexed]; omega) hsrc (by kernel_rfl))
  clear hsrc
  refine wp_region_noPanic ?_
  refine wp_region_held_drew (S := fun X => Below g w2 X) (by kernel_rfl) (HV1.out.drew) (fun hHeld => ?_)
  refine wpAnyH_take (i := 0) (v := ?v95) rfl (by kernel_rfl) (by kernel_rfl) (by kernel_rfl) (fun _ _ _ h => h) (Or.inl ⟨by rfl, ?hy95⟩) hHeld ?rest95
  case hy95 =>
    intro w hSw
    go_simp
    try with_reducible rfl
  try simp only [Act.put, List.setIfInBounds_toArray, List.set_cons_zero, List.set_cons_succ, Array.toArray_toList, List.getElem_toArray, List.getElem_cons_zero, List.getElem_cons_succ]
  refine wpAnyH_take (i := 1) (v := ?v96) rfl (by kernel_rfl) (by kernel_rfl) (by kernel_rfl) (fun _ _ _ h => h) (Or.inl ⟨by rfl, ?hy96⟩) hHeld ?rest96
  case hy96 =>
    intro w hSw
    go_simp
    try with_reducible rfl
  try simp only [Act.put, List.setIfInBounds_toArray, List.set_cons_zero, List.set_cons_succ, Array.toArray_toList, List.getElem_toArray, List.getElem_cons_zero, List.getElem_cons_succ]
  refine wpAnyH_take (i := 2) (v := ?v97) rfl (by kernel_rfl) (by kernel_rfl) (by kernel_rfl) (fun _ _ _ h => h) (Or.inl ⟨by rfl, ?hy97⟩) hHeld ?rest97
  case hy97 =>
    intro w hSw
    go_simp
    try with_reducible rfl
  try simp only [Act.put, List.setIfInBounds_toArray, List.set_cons_zero, List.set_cons_succ, Array.toArray_toList, List.getElem_toArray, List.getElem_cons_zero, List.getElem_cons_succ]
  refine wpAnyH_take (i := 3) (v := ?v98) rfl (by kernel_rfl) (by kernel_rfl) (by kernel_rfl) (fun _ _ _ h => h) (Or.inl ⟨by rfl, ?hy98⟩) hHeld ?rest98
  case hy98 =>
    intro w hSw
    go_simp
    try with_reducible rfl
  try simp only [Act.put, List.setIfInBounds_toArray, List.set_cons_zero, List.set_cons_succ, Array.toArray_toList, List.getElem_toArray, List.getElem_cons_zero, List.getElem_cons_succ]
  refine wpAnyH_take (i := 4) (v := ?v99) rfl (by kernel_rfl) (by kernel_rfl) (by kernel_rfl) (fun _ _ _ h => h) (Or.inl ⟨by rfl, ?hy99⟩) hHeld ?rest99
  case hy99 =>
    intro w hSw
    have ld := (below_cell (HS.out _ hSw) HGP.out).trans L2.out
    go_simp
    try with_reducible rfl
  try simp only [Act.put, List.setIfInBounds_toArray, List.set_cons_zero, List.set_cons_succ, Array.toArray_toList, List.getElem_toArray, List.getElem_cons_zero, List.getElem_cons_succ]
  refine wpAnyH_ready (rs := [5]) (by kernel_rfl) (by simp) ?_
  refine AllReadyH.cons rfl (fun K hK => ?_) AllReadyH.nil
  refine step_copy_is (by rfl) _ _ 34 34 (by rfl) _ _ _ _ (by rfl) (by rfl) HCP.out ?_
  refine hK.out _ _ (below_row HV1.out.drew (Nat.le_refl _) _) (fun hHeld => ?_)
  clear hK K
  try simp only [Act.put, List.setIfInBounds_toArray, List.set_cons_zero, List.set_cons_succ, Array.toArray_toList, List.getElem_toArray, List.getElem_cons_zero, List.getElem_cons_succ]
  refine wpAnyH_done (by kernel_rfl) ?_ _
  refine NoPanic.normal ?_
  obtain ⟨V2, hV2⟩ : ∃ V, (V1.drew).setRow g (cel (sIndexed ⟨some ⟨gn, 0, none⟩, n, n, R, N0, fun q => m (132 + q)⟩)) = V := ⟨_, rfl⟩
  have RV2 : Hid (V2.heap[g]? = some (.cells (cel (sIndexed ⟨some ⟨gn, 0, none⟩, n, n, R, N0, fun q => m (132 + q)⟩)) 46)) := by rw [← hV2]; exact setRow_at (w := V1.drew) RV1.out
  have HV2 : Hid (Below g w2 V2) := by rw [← hV2]; exact below_row HV1.out.drew (Nat.le_refl _) _
  rw [hV2]
  clear hV2
  obtain ⟨vv, ev⟩ : ∃ v : VIndexed, ⟨some ⟨gn, 0, none⟩, n, n, R, N0, fun q => m (132 + q)⟩ = v := ⟨_, rfl⟩
  have rv := RV2.out
  rw [ev] at rv
  have rr : V2.heap[y]? = some (.cells (cel (sIndexed oIndexed)) 46) := ((HS.out _ HV2.out).block _ (Nat.lt_of_lt_of_le HY.out HB1.out.size)).trans ((HB1.out.block _ HY.out).trans R2.out)
  have sv := svIndexed_run rr vv
  have lv := lvIndexed_mid (x := vv) rv 0 (take_all _) (slIndexed vv)
  have RR := hid rr
  have EV := hid ev
  clear rr rv ev
  go_wp2
  refine retIndexed _ _ y vv 46 _ rfl rfl rfl rfl (setRow_at RR.out) ?_
  have e0 := EY.out
  have e1 := HB2.out.size
  have e2 := HB1.out.size
  have e3 := EG.out
  have e4 := HGN.out
  have e5 := HY.out
  have hgl := (Array.getElem?_eq_some_iff.1 HRG.out).1
  refine ⟨gn, by rw [EV.out]; rfl, by omega, ?_, below_row (HB2.out.trans ((HB1.out.mono (by omega)).trans ((HS.out _ HV2.out).mono (by omega)))) (by omega) _⟩
  exact (setRow_other _ y gn _ (by omega)).trans ((HV2.out.block gn (by omega)).trans HRG.out)

end Go.Proofs.YtokbhcgooboocaaGreatDoor

namespace Go.Proofs.YtokbhcgooboocaaGreatDoor
open Go.RowKit
set_option linter.unusedVariables false
set_option linter.unusedSimpArgs false
set_option maxRecDepth 20000

def xA (g : Nat) : VIndexed := ⟨some ⟨g, 0, none⟩, 1, 1, fun _ => 5, oData, fun _ => 0⟩
theorem z256 : (0 : Int) ≤ 0 ∧ (0 : Int) < 256 := by decide
theorem z64 : (0 : Int) ≤ 0 ∧ (0 : Int) < 18446744073709551616 := by decide
theorem oData_ok : OkData oData := ⟨z64, z64, fun _ _ => z256, ⟨z64, fun _ _ => z256⟩, ⟨z64, fun _ _ => z256⟩⟩
theorem xA_ok (g : Nat) : OkIndexed (xA g) := ⟨fun _ _ => (by decide : (0 : Int) ≤ 5 ∧ (5 : Int) < 18446744073709551616), oData_ok, fun _ _ => z256⟩
def mA : Nat → Int := ct7 [(4, oI), (128, ct7 (eData oData)), (96, fun _ => 0), (8 * 1, nB fun _ => 5)]
theorem ct7_bound : ∀ (l : List (Nat × (Nat → Int))), (∀ p ∈ l, ∀ q, q < p.1 → 0 ≤ p.2 q ∧ p.2 q < 256) → ∀ q, 0 ≤ ct7 l q ∧ ct7 l q < 256
  | [], _, q => z256
  | p :: r, h, q => by
    show 0 ≤ (if q < p.1 then p.2 q else ct7 r (q - p.1)) ∧ (if q < p.1 then p.2 q else ct7 r (q - p.1)) < 256
    by_cases hq : q < p.1
    · rw [if_pos hq]
      exact h p (by simp) q hq
    · rw [if_neg hq]
      exact ct7_bound r (fun x hx => h x (by simp [hx])) _
theorem oI_bd (q : Nat) (hq : q < 4) : 0 ≤ oI q ∧ oI q < 256 := by
  rcases (by omega : q = 0 ∨ q = 1 ∨ q = 2 ∨ q = 3) with rfl | rfl | rfl | rfl
  all_goals decide
theorem eCheckpoint_bd {x : VCheckpoint} (hx : OkCheckpoint x) (q : Nat) : 0 ≤ ct7 (eCheckpoint x) q ∧ ct7 (eCheckpoint x) q < 256 := ct7_bound _ (by
  intro p hp
  simp only [eCheckpoint, List.mem_cons, List.not_mem_nil, or_false] at hp
  rcases hp with rfl | rfl
  · exact fun q _ => nmB_bd _ _
  · exact hx.2) q
theorem eData_bd {x : VData} (hx : OkData x) (q : Nat) : 0 ≤ ct7 (eData x) q ∧ ct7 (eData x) q < 256 := ct7_bound _ (by
  intro p hp
  simp only [eData, List.mem_cons, List.not_mem_nil, or_false] at hp
  rcases hp with rfl | rfl | rfl | rfl | rfl
  · exact fun q _ => nmB_bd _ _
  · exact fun q _ => nmB_bd _ _
  · exact hx.2.2.1
  · exact fun q _ => eCheckpoint_bd hx.2.2.2.1 q
  · exact fun q _ => eCheckpoint_bd hx.2.2.2.2 q) q
theorem eIndexed_bd {x : VIndexed} (hx : OkIndexed x) (q : Nat) : 0 ≤ ct7 (eIndexed x) q ∧ ct7 (eIndexed x) q < 256 := ct7_bound _ (by
  intro p hp
  simp only [eIndexed, List.mem_cons, List.not_mem_nil, or_false] at hp
  rcases hp with rfl | rfl | rfl | rfl
  · exact oI_bd
  · exact fun q _ => eData_bd hx.2.1 q
  · exact hx.2.2
  · exact fun q _ => nB_bd _ _) q
theorem mA_off : oN mA = 228 := by kernel_rfl
theorem mA_rN : rN (fun q => mA (228 + q)) 0 = 5 := by kernel_rfl

attribute [local go_sem ↓] lvIndexed_eq svIndexed_eq bdIndexed_eq

set_option maxHeartbeats 2000000 in
theorem awake8 (w : World) :
    Calls Tryz.prog 5 #[] w fun e w' => e = .returned (.bool true) ∧ Below w.heap.size w w' := by
  obtain ⟨W1, hW1⟩ : ∃ W, w.alloc (.cells #[.int .u64 5] 23) = W := ⟨_, rfl⟩
  have hB1 : Below w.heap.size w W1 := by rw [← hW1]; exact (Below.refl _ _).alloc (Nat.le_refl _) _
  have r1 : W1.heap[w.heap.size]? = some (.cells (vs .u64 1 fun _ => 5) 23) := by rw [← hW1]; exact heap_new rfl
  have he := encIndexed_ok (xA w.heap.size) W1 (xA_ok _) (by show 1 ≤ 64; decide) (.inr ⟨w.heap.size, 0, rfl, (Array.getElem?_eq_some_iff.1 r1).1, fun j hj => by rw [Nat.zero_add]; exact row_int r1 j hj⟩)
  have he' : Calls Tryz.prog 18 #[.agg (cel (sIndexed (xA w.heap.size)))] W1 fun e w' => ∃ v, e = .returned (.tuple #[v, .int .i64 0]) ∧ w'.ownsRow W1.heap.size 5 1 v 236 (bl mA 236) ∧ Below W1.heap.size W1 w' := he
  have bd := fun W => bdIndexed_1 W (some ⟨w.heap.size, 0, none⟩) 1 1 (fun _ => 5)
  obtain ⟨xa, exa⟩ : ∃ v : VIndexed, xA w.heap.size = v := ⟨_, rfl⟩
  rw [show (⟨some ⟨w.heap.size, 0, none⟩, 1, 1, fun _ => 5, oData, fun _ => 0⟩ : VIndexed) = xa from exa] at bd
  rw [exa] at he'
  have HE := hid he'
  have HB1 := hid hB1
  have z := zeroIndexed
  clear he he' hB1 r1 exa
  go_enter Tryz.func5, Tryz.ntmps5
  go_upto_region 2 with (go_at_call 18; refine HE.out.mono ?_; rintro e w1 ⟨v1, rfl, ho1, hb1⟩; obtain ⟨a1, c1, rfl, hr1⟩ := own_at ho1; have HR1 := hid hr1; have HB2 := hid hb1; clear ho1 hb1 hr1)
  clear hW1 bd HE
  have hrd := readIndexed_ok mA a1 236 c1 w1 HR1.out (fun j => eIndexed_bd (xA_ok 0) j) (bys_le HR1.out (by omega)) (bys_cap HR1.out (by omega)) (by omega) (by omega) mA_off 1 rfl (by omega)
  have hrd' : Calls Tryz.prog 19 #[.slice a1 236 c1] w1 fun e w' => ∃ g x, e = .returned (.tuple #[.agg (cel (sIndexed x)), .int .i64 0]) ∧ x.a = some ⟨g, 0, none⟩ ∧ x.n = 1 ∧ x.c = 1 ∧ g < w'.heap.size ∧ w'.cell? ⟨g, 0, none⟩ = some (.int .u64 5) ∧ Below w1.heap.size w1 w' := by
    refine hrd.mono ?_
    rintro e w' ⟨g, rfl, h1, h2, h3⟩
    refine ⟨g, _, rfl, rfl, rfl, rfl, (Array.getElem?_eq_some_iff.1 h2).1, ?_, h3⟩
    have := row_int h2 0 (by omega)
    rw [mA_rN] at this
    exact this
  have HRD := hid hrd'
  clear hrd hrd'
  go_upto_region 3 with (go_at_call 19; refine HRD.out.mono ?_; rintro e w2 ⟨g, x, rfl, xa1, xn1, xc1, hg2, hc2, hb2⟩; have sv := svIndexed_newv w2 oIndexed x; have HX := hid (And.intro xa1 (And.intro xn1 xc1)); have HG2 := hid hg2; have HC2 := hid hc2; have HB3 := hid hb2; clear xa1 xn1 xc1 hg2 hc2 hb2)
  obtain ⟨V, hV⟩ : ∃ V, w2.alloc (.cells (cel (sIndexed x)) 46) = V := ⟨_, rfl⟩
  have rV : V.heap[w2.heap.size]? = some (.cells (cel (sIndexed x)) 46) := by rw [← hV]; exact heap_new rfl
  have hBV : Below w2.heap.size w2 V := by rw [← hV]; exact (Below.refl _ _).alloc (Nat.le_refl _) _
  have cV : V.cell? ⟨g, 0, none⟩ = some (.int .u64 5) := (below_cell hBV HG2.out).trans HC2.out
  have dV := seg_sl rV 0 x.a x.n x.c rfl 0 rfl
  rw [HX.out.1, HX.out.2.1, HX.out.2.2] at dV
  have HBV := hid hBV
  rw [hV]
  clear hV sv rV hBV z
  go_wp2
  go_ret
  exact ⟨rfl, (HB1.out.trans (HB2.out.mono HB1.out.size)).trans ((HB3.out.mono (by have := HB1.out.size; have := HB2.out.size; omega)).trans (HBV.out.mono (by have := HB1.out.size; have := HB2.out.size; have := HB3.out.size; omega)))⟩

end Go.Proofs.YtokbhcgooboocaaGreatDoor
