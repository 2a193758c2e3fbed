/-
  ProposerSlashing: what the reference's Read answers.
-/
import Derived.Test.YtbbpnbdgcaamoaaDoorOhC
import Derived.Test.YtbbpnbdgcaamoaaDoorTrSignedHeader
import Derived.Test.YtbbpnbdgcaamoaaDoorTySignedHeader
namespace Go.Proofs.YtbbpnbdgcaamoaaDoor
open Go.RowKit
set_option linter.unusedVariables false
set_option linter.unusedSimpArgs false
set_option maxRecDepth 20000

attribute [local go_sem ↓] sv24_eq lv24_eq ix22_eq slr_eq bd27_eq bs22_eq mkI_eq ixI_eq ixP_eq bsP_eq bsI_eq lvSignedHeader_eq svSignedHeader_eq bdSignedHeader_eq lvProposerSlashing_eq svProposerSlashing_eq bdProposerSlashing_eq

set_option maxRecDepth 20000 in
set_option maxHeartbeats 2000000 in
theorem rreadProposerSlashing_no (m : Nat → Int) (ao : Option Addr) (len cap : Nat) (w : World) (hb : Bys w ao len cap m) (hm : ∀ j, 0 ≤ m j ∧ m j < 256) (hlc : len ≤ cap) (hcap : cap ≤ 9223372036854775807) (hlen : len ≤ 140737488351232) (hN : ¬ len = 416) :
    Calls Tryd.prog 18 #[.slice ao len cap] w fun e w' => e = .returned (.tuple #[.agg (cel (sProposerSlashing oProposerSlashing)), .int .i64 4]) ∧ Below w.heap.size w w' := by
  have z := zeroProposerSlashing
  obtain ⟨y, ey⟩ : ∃ y, w.heap.size = y := ⟨_, rfl⟩
  obtain ⟨W1, hW1⟩ : ∃ W, w.alloc (.cells (cel (sProposerSlashing oProposerSlashing)) 49) = W := ⟨_, rfl⟩
  obtain ⟨W2, hW2⟩ : ∃ W, W1.alloc (.cells (cel (sProposerSlashing oProposerSlashing)) 49) = W := ⟨_, rfl⟩
  obtain ⟨W3, hW3⟩ : ∃ W, W2.alloc (.cells (vs .i64 2 zProposerSlashing) 3) = W := ⟨_, rfl⟩
  have z1 : W1.heap.size = y + 1 := by rw [← hW1, ← ey]; simp
  have z2 : W2.heap.size = y + 2 := by rw [← hW2]; simp [z1]
  have z3 : W3.heap.size = y + 3 := by rw [← hW3]; simp [z2]
  have hB3 : Below w.heap.size w W3 := by rw [← hW3, ← hW2, ← hW1]; exact (((Below.refl _ _).alloc (Nat.le_refl _) _).alloc (by simp) _).alloc (by simp; omega) _
  have r1 : W3.heap[y]? = some (.cells (cel (sProposerSlashing oProposerSlashing)) 49) := by rw [← hW3]; refine (heap_old (by omega)).trans ?_; rw [← hW2]; refine (heap_old (by omega)).trans ?_; rw [← hW1]; exact heap_new ey.symm
  have r2 : W3.heap[y + 1]? = some (.cells (cel (sProposerSlashing oProposerSlashing)) 49) := by rw [← hW3]; refine (heap_old (by omega)).trans ?_; rw [← hW2]; exact heap_new z1.symm
  have g3 : W3.heap[y + 2]? = some (.cells (vs .i64 2 zProposerSlashing) 3) := by rw [← hW3]; exact heap_new z2.symm
  have bsi := bsI_ProposerSlashing W2
  rw [hW3, z2] at bsi
  have hcut := rcut7_no fixProposerSlashing ao len cap (y + 2) W3 hlen g3 hN
  obtain ⟨g, eg⟩ : ∃ g, y + 1 = g := ⟨_, rfl⟩
  obtain ⟨u, eu⟩ : ∃ u, y + 2 = u := ⟨_, rfl⟩
  rw [eu] at bsi hcut
  rw [eg] at r2
  have HCUT := hid hcut
  have R1 := hid r1
  have R2 := hid r2
  have HB3 := hid hB3
  have EY := hid ey
  have EG := hid eg
  have Z3 := hid z3
  clear hcut r1 r2 hB3 g3 z3 hlc hcap hb hlen hN
  go_enter Tryd.func18, Tryd.ntmps18
  go_upto_region 3 with (go_at_call 43; refine HCUT.out.mono ?_; rintro e w1 ⟨a1, c1, rfl, hb1⟩)
  clear hW1 hW2 hW3 ey eg eu bsi z1 z2 z
  have z3 := Z3.out
  have e0 := EG.out
  have rr := (hb1.block y (by omega)).trans R1.out
  have rx := (hb1.block g (by omega)).trans R2.out
  have sv := svProposerSlashing_run rr oProposerSlashing
  have lv := lvProposerSlashing_mid (x := oProposerSlashing) rx 0 (take_all _) rfl
  have RR := hid rr
  have HB1 := hid hb1
  clear rr hb1 rx z3 e0
  go_wp2
  refine retProposerSlashing _ _ y oProposerSlashing 49 _ rfl rfl rfl rfl (setRow_at RR.out) ⟨rfl, ?_⟩
  have e0 := EY.out
  have e1 := HB3.out.size
  exact below_row (HB3.out.trans (HB1.out.mono (by omega))) (by omega) _

set_option maxRecDepth 20000 in
set_option maxHeartbeats 2000000 in
theorem rreadProposerSlashing_ok (m : Nat → Int) (ao : Option Addr) (cap : Nat) (w : World) (hb : Bys w ao 416 cap m) (hm : ∀ j, 0 ≤ m j ∧ m j < 256) (hlc : 416 ≤ cap) (hcap : cap ≤ 9223372036854775807) :
    Calls Tryd.prog 18 #[.slice ao 416 cap] w fun e w' => e = .returned (.tuple #[.agg (cel (sProposerSlashing (pProposerSlashing m))), .int .i64 0]) ∧ Below w.heap.size w w' := by
  have z := zeroProposerSlashing
  obtain ⟨y, ey⟩ : ∃ y, w.heap.size = y := ⟨_, rfl⟩
  obtain ⟨W1, hW1⟩ : ∃ W, w.alloc (.cells (cel (sProposerSlashing oProposerSlashing)) 49) = W := ⟨_, rfl⟩
  obtain ⟨W2, hW2⟩ : ∃ W, W1.alloc (.cells (cel (sProposerSlashing oProposerSlashing)) 49) = W := ⟨_, rfl⟩
  obtain ⟨W3, hW3⟩ : ∃ W, W2.alloc (.cells (vs .i64 2 zProposerSlashing) 3) = W := ⟨_, rfl⟩
  have z1 : W1.heap.size = y + 1 := by rw [← hW1, ← ey]; simp
  have z2 : W2.heap.size = y + 2 := by rw [← hW2]; simp [z1]
  have z3 : W3.heap.size = y + 3 := by rw [← hW3]; simp [z2]
  have hB3 : Below w.heap.size w W3 := by rw [← hW3, ← hW2, ← hW1]; exact (((Below.refl _ _).alloc (Nat.le_refl _) _).alloc (by simp) _).alloc (by simp; omega) _
  have r1 : W3.heap[y]? = some (.cells (cel (sProposerSlashing oProposerSlashing)) 49) := by rw [← hW3]; refine (heap_old (by omega)).trans ?_; rw [← hW2]; refine (heap_old (by omega)).trans ?_; rw [← hW1]; exact heap_new ey.symm
  have r2 : W3.heap[y + 1]? = some (.cells (cel (sProposerSlashing oProposerSlashing)) 49) := by rw [← hW3]; refine (heap_old (by omega)).trans ?_; rw [← hW2]; exact heap_new z1.symm
  have g3 : W3.heap[y + 2]? = some (.cells (vs .i64 2 zProposerSlashing) 3) := by rw [← hW3]; exact heap_new z2.symm
  have bsi := bsI_ProposerSlashing W2
  rw [hW3, z2] at bsi
  have hcut := rcut7_ok fixProposerSlashing m ao cap (y + 2) W3 (hb.below hB3) hm (by omega) hlc hcap g3 (by omega) zposProposerSlashing (by omega)
  obtain ⟨g, eg⟩ : ∃ g, y + 1 = g := ⟨_, rfl⟩
  obtain ⟨u, eu⟩ : ∃ u, y + 2 = u := ⟨_, rfl⟩
  rw [eu] at bsi hcut
  rw [eg] at r2
  have HCUT := hid hcut
  have R1 := hid r1
  have R2 := hid r2
  have HB3 := hid hB3
  have EY := hid ey
  have EG := hid eg
  have Z3 := hid z3
  clear hcut r1 r2 hB3 g3 z3 hlc hcap hb
  go_enter Tryd.func18, Tryd.ntmps18
  go_upto_region 3 with (go_at_call 43; refine HCUT.out.mono ?_; rintro e w1 ⟨gp, o, cp, rfl, hgp, hcu, hb1⟩)
  clear hW1 hW2 hW3 ey eg eu bsi z1 z2 z
  have z3 := Z3.out
  have e0 := EG.out
  have hgw : g < w1.heap.size := by have := hb1.size; omega
  have rx : w1.heap[g]? = some (.cells (cel (sProposerSlashing oProposerSlashing)) 49) := (hb1.block g (by omega)).trans R2.out
  obtain ⟨b0, o0, c0, l0, q0, f0⟩ := hcu 0 (by omega)
  replace l0 : w1.cell? ⟨gp, o + 0, none⟩ = some (.slice (some ⟨b0, o0, none⟩) 208 c0) := l0
  replace q0 : Bys w1 (some ⟨b0, o0, none⟩) 208 c0 (fun q => m (0 + q)) := q0
  obtain ⟨P0, eP0⟩ : ∃ P, o + 0 = P := ⟨_, rfl⟩
  rw [eP0] at l0
  have ix0 : ∀ X : World, (ixP (.slice (some ⟨gp, o, none⟩) 2 cp) (.int .i64 0)).run Tryd.prog X = .ok (.pointer (some ⟨gp, P0, none⟩)) X := fun X => by rw [← eP0]; exact ixP_run X gp o 2 cp 0 (by omega)
  have hne : gp ≠ g := cel_no rx l0
  have nb0 : b0 ≠ g := by omega
  have HQ0 : Hid (∀ X, Kept g w1 X → Bys X (some ⟨b0, o0, none⟩) 208 c0 (fun q => m (0 + q))) := fun X h => by
    obtain ⟨b', o', e', h1, h2, h3⟩ := bys_at q0 (by omega)
    cases e'
    exact .inr (.inr ⟨_, _, rfl, h2, bys_cap q0 (by omega), Nat.lt_of_lt_of_le h1 h.size, fun j hj => (h.cell h1 nb0).trans (h3 j hj)⟩)
  have HL0 : Hid (∀ X, Kept g w1 X → X.cell? ⟨gp, P0, none⟩ = some (.slice (some ⟨b0, o0, none⟩) 208 c0)) := fun X h => (h.cell hgp hne).trans l0
  clear hne
  obtain ⟨b1, o1, c1, l1, q1, f1⟩ := hcu 1 (by omega)
  replace l1 : w1.cell? ⟨gp, o + 1, none⟩ = some (.slice (some ⟨b1, o1, none⟩) 208 c1) := l1
  replace q1 : Bys w1 (some ⟨b1, o1, none⟩) 208 c1 (fun q => m (208 + q)) := q1
  obtain ⟨P1, eP1⟩ : ∃ P, o + 1 = P := ⟨_, rfl⟩
  rw [eP1] at l1
  have ix1 : ∀ X : World, (ixP (.slice (some ⟨gp, o, none⟩) 2 cp) (.int .i64 1)).run Tryd.prog X = .ok (.pointer (some ⟨gp, P1, none⟩)) X := fun X => by rw [← eP1]; exact ixP_run X gp o 2 cp 1 (by omega)
  have hne : gp ≠ g := cel_no rx l1
  have nb1 : b1 ≠ g := by omega
  have HQ1 : Hid (∀ X, Kept g w1 X → Bys X (some ⟨b1, o1, none⟩) 208 c1 (fun q => m (208 + q))) := fun X h => by
    obtain ⟨b', o', e', h1, h2, h3⟩ := bys_at q1 (by omega)
    cases e'
    exact .inr (.inr ⟨_, _, rfl, h2, bys_cap q1 (by omega), Nat.lt_of_lt_of_le h1 h.size, fun j hj => (h.cell h1 nb1).trans (h3 j hj)⟩)
  have HL1 : Hid (∀ X, Kept g w1 X → X.cell? ⟨gp, P1, none⟩ = some (.slice (some ⟨b1, o1, none⟩) 208 c1)) := fun X h => (h.cell hgp hne).trans l1
  clear hne
  obtain ⟨N0, eN0⟩ : ∃ N, pSignedHeader (fun q => m (0 + q)) = N := ⟨_, rfl⟩
  have HN0 : Hid (∀ X, Kept g w1 X → Calls Tryd.prog 53 #[.slice (some ⟨b0, o0, none⟩) 208 c0] X fun e w' => e = .returned (.tuple #[.agg (cel (sSignedHeader N0)), .int .i64 0]) ∧ Below X.heap.size X w') := fun X h => by
    rw [← eN0]
    exact rreadSignedHeader_ok _ _ c0 X (HQ0.out X h) (fun j => hm _) (bys_le (HQ0.out X h) (by omega)) (bys_cap (HQ0.out X h) (by omega))
  have EN0 := hid eN0
  clear eN0
  obtain ⟨N1, eN1⟩ : ∃ N, pSignedHeader (fun q => m (208 + q)) = N := ⟨_, rfl⟩
  have HN1 : Hid (∀ X, Kept g w1 X → Calls Tryd.prog 53 #[.slice (some ⟨b1, o1, none⟩) 208 c1] X fun e w' => e = .returned (.tuple #[.agg (cel (sSignedHeader N1)), .int .i64 0]) ∧ Below X.heap.size X w') := fun X h => by
    rw [← eN1]
    exact rreadSignedHeader_ok _ _ c1 X (HQ1.out X h) (fun j => hm _) (bys_le (HQ1.out X h) (by omega)) (bys_cap (HQ1.out X h) (by omega))
  have EN1 := hid eN1
  clear eN1
  have RV0 := hid rx
  have KV0 := hid (Kept.refl g w1)
  have HB1 := hid hb1
  have HGW := hid hgw
  clear rx hb1 hgw hgp hcu z3 e0 l0 q0 f0 eP0 nb0 l1 q1 f1 eP1 nb1
  have rz : w1.heap[g]? = some (.cells (cel (sProposerSlashing (⟨oSignedHeader, oSignedHeader⟩ : VProposerSlashing))) 49) := RV0.out
  replace RV0 := hid rz
  clear rz
  have ld := HL0.out _ KV0.out
  go_upto_region 8 with (go_at_call 53; refine (HN0.out _ KV0.out).mono ?_; rintro e w2 ⟨rfl, hbc⟩; have rg := (hbc.block g (Array.getElem?_eq_some_iff.1 RV0.out).1).trans RV0.out; have sv := svSignedHeader_mid rg 0 N0 (by rw [cel_size, slProposerSlashing]; omega); have RG := hid rg; have HBC := hid hbc; clear rg hbc)
  obtain ⟨V1, hV⟩ : ∃ V, w2.setCells g 0 (celL (sSignedHeader N0)) = V := ⟨_, rfl⟩
  have RV1 : Hid (V1.heap[g]? = some (.cells (cel (sProposerSlashing (⟨N0, oSignedHeader⟩ : VProposerSlashing))) 49)) := by rw [← hV]; exact (setCells_row _ _ RG.out).trans (congrArg (fun c => some (Obj.cells c 49)) (by kernel_rfl))
  have KV1 : Hid (Kept g w1 V1) := by rw [← hV]; exact setCells_kept _ _ (KV0.out.trans (Kept.ofBelow HBC.out))
  rw [hV]
  clear hV ld sv RG HBC
  have ld := HL1.out _ KV1.out
  go_upto_region 11 with (go_at_call 53; refine (HN1.out _ KV1.out).mono ?_; rintro e w2 ⟨rfl, hbc⟩; have rg := (hbc.block g (Array.getElem?_eq_some_iff.1 RV1.out).1).trans RV1.out; have sv := svSignedHeader_mid rg 194 N1 (by rw [cel_size, slProposerSlashing]; omega); have RG := hid rg; have HBC := hid hbc; clear rg hbc)
  obtain ⟨V2, hV⟩ : ∃ V, w2.setCells g 194 (celL (sSignedHeader N1)) = V := ⟨_, rfl⟩
  have RV2 : Hid (V2.heap[g]? = some (.cells (cel (sProposerSlashing (⟨N0, N1⟩ : VProposerSlashing))) 49)) := by rw [← hV]; exact (setCells_row _ _ RG.out).trans (congrArg (fun c => some (Obj.cells c 49)) (by kernel_rfl))
  have KV2 : Hid (Kept g w1 V2) := by rw [← hV]; exact setCells_kept _ _ (KV1.out.trans (Kept.ofBelow HBC.out))
  rw [hV]
  clear hV ld sv RG HBC
  obtain ⟨vv, ev⟩ : ∃ v : VProposerSlashing, (⟨N0, N1⟩ : VProposerSlashing) = v := ⟨_, rfl⟩
  have rv := RV2.out
  rw [ev] at rv
  have z3 := Z3.out
  have e0 := EG.out
  have e2 := HB1.out.size
  have rr : V2.heap[y]? = some (.cells (cel (sProposerSlashing oProposerSlashing)) 49) := (KV2.out.block y (by omega) (by omega)).trans ((HB1.out.block y (by omega)).trans R1.out)
  have sv := svProposerSlashing_run rr vv
  have lv := lvProposerSlashing_mid (x := vv) rv 0 (take_all _) rfl
  have RR := hid rr
  have EV := hid ev
  clear rr rv ev z3 e0 e2
  go_wp2
  refine retProposerSlashing _ _ y vv 49 _ rfl rfl rfl rfl (setRow_at RR.out) ⟨?_, ?_⟩
  · rw [← EV.out, ← EN0.out, ← EN1.out]
    rfl
  have e0 := EY.out
  have e1 := HB3.out.size
  have e2 := HB1.out.size
  have e3 := EG.out
  have z3 := Z3.out
  exact below_row (HB3.out.trans ((HB1.out.mono (by omega)).trans (KV2.out.below (by omega) (by omega)))) (by omega) _

end Go.Proofs.YtbbpnbdgcaamoaaDoor

namespace Go.Proofs.YtbbpnbdgcaamoaaDoor
open Go.RowKit
set_option linter.unusedVariables false
set_option linter.unusedSimpArgs false
set_option maxRecDepth 20000

-- type 49
theorem okpProposerSlashing (m : Nat → Int) (hm : ∀ j, 0 ≤ m j ∧ m j < 256) : OkProposerSlashing (pProposerSlashing m) := ⟨okpSignedHeader (fun q => m (0 + q)) (fun j => hm (0 + j)), okpSignedHeader (fun q => m (208 + q)) (fun j => hm (208 + j))⟩
theorem epProposerSlashing (m : Nat → Int) (hm : ∀ j, 0 ≤ m j ∧ m j < 256) (q : Nat) (hq : q < 416) : ct7 (eProposerSlashing (pProposerSlashing m)) q = m q := by
  unfold eProposerSlashing pProposerSlashing
  rw [show ∀ (p : Nat × (Nat → Int)) r q, ct7 (p :: r) q = if q < p.1 then p.2 q else ct7 r (q - p.1) from fun _ _ _ => rfl]
  by_cases h0 : q < 208
  · rw [if_pos h0]; exact (epSignedHeader (fun q => m (0 + q)) (fun j => hm (0 + j)) _ h0).trans (congrArg m (by omega))
  rw [if_neg h0]
  rw [show ∀ (p : Nat × (Nat → Int)) r q, ct7 (p :: r) q = if q < p.1 then p.2 q else ct7 r (q - p.1) from fun _ _ _ => rfl]
  by_cases h1 : q - 208 < 208
  · rw [if_pos h1]; exact (epSignedHeader (fun q => m (208 + q)) (fun j => hm (208 + j)) _ h1).trans (congrArg m (by omega))
  rw [if_neg h1]
  omega
theorem okoProposerSlashing : OkProposerSlashing oProposerSlashing := ⟨okoSignedHeader, okoSignedHeader⟩
theorem ebdProposerSlashing (x : VProposerSlashing) (hx : OkProposerSlashing x) (q : Nat) : 0 ≤ ct7 (eProposerSlashing x) q ∧ ct7 (eProposerSlashing x) q < 256 := by
  obtain ⟨h0, h1⟩ := hx
  unfold eProposerSlashing
  rw [show ∀ (p : Nat × (Nat → Int)) r q, ct7 (p :: r) q = if q < p.1 then p.2 q else ct7 r (q - p.1) from fun _ _ _ => rfl]
  by_cases c0 : q < 208
  · rw [if_pos c0]; exact ebdSignedHeader _ h0 _
  rw [if_neg c0]
  rw [show ∀ (p : Nat × (Nat → Int)) r q, ct7 (p :: r) q = if q < p.1 then p.2 q else ct7 r (q - p.1) from fun _ _ _ => rfl]
  by_cases c1 : q - 208 < 208
  · rw [if_pos c1]; exact ebdSignedHeader _ h1 _
  rw [if_neg c1]
  exact ⟨Int.le_refl _, by show (0 : Int) < 256; decide⟩
theorem rdProposerSlashing (m : Nat → Int) (hm : ∀ j, 0 ≤ m j ∧ m j < 256) (len : Nat) (hlen : len ≤ 140737488351232) : ∃ (V : VProposerSlashing) (E : Int), OkProposerSlashing V ∧ (E = 0 → len = 416 ∧ ∀ q, q < 416 → ct7 (eProposerSlashing V) q = m q) ∧ (len = 416 → E = 0) ∧
    (∀ (w : World) ao cap, Bys w ao len cap m → len ≤ cap → cap ≤ 9223372036854775807 → Calls Tryd.prog 17 #[.slice ao len cap] w fun e w' => e = .returned (.tuple #[.agg (cel (sProposerSlashing V)), .int .i64 E]) ∧ Below w.heap.size w w') ∧
    (∀ (w : World) ao cap, Bys w ao len cap m → len ≤ cap → cap ≤ 9223372036854775807 → Calls Tryd.prog 18 #[.slice ao len cap] w fun e w' => e = .returned (.tuple #[.agg (cel (sProposerSlashing V)), .int .i64 E]) ∧ Below w.heap.size w w') := by
  by_cases h : len = 416
  · subst h
    exact ⟨pProposerSlashing m, 0, okpProposerSlashing m hm, fun _ => ⟨rfl, fun q hq => epProposerSlashing m hm q hq⟩, fun _ => rfl, fun w ao cap h1 h2 h3 => readProposerSlashing_ok m ao cap w h1 hm h2 h3, fun w ao cap h1 h2 h3 => rreadProposerSlashing_ok m ao cap w h1 hm h2 h3⟩
  · exact ⟨oProposerSlashing, 4, okoProposerSlashing, fun h0 => absurd h0 (by decide), fun h0 => absurd h0 h, fun w ao cap h1 h2 h3 => readProposerSlashing_no m ao len cap w h1 hm h2 h3 hlen h, fun w ao cap h1 h2 h3 => rreadProposerSlashing_no m ao len cap w h1 hm h2 h3 hlen h⟩

end Go.Proofs.YtbbpnbdgcaamoaaDoor
