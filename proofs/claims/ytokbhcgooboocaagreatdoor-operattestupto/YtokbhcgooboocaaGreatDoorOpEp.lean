/-
  What ReadIndexed answers.
-/
import Derived.Test.YtokbhcgooboocaaGreatDoorOpDp
import Derived.Test.YtokbhcgooboocaaGreatDoorOiBp
import Derived.Test.YtokbhcgooboocaaGreatDoorZaJp
namespace Go.Proofs.YtokbhcgooboocaaGreatDoor
open Go.RowKit
set_option linter.unusedVariables false
set_option linter.unusedSimpArgs false
set_option maxRecDepth 20000

attribute [local go_sem ↓] ixP_eq lvData_eq svData_eq lvIndexed_eq svIndexed_eq bdIndexed_eq

set_option maxRecDepth 20000 in
set_option maxHeartbeats 2000000 in
theorem readIndexed_no (m : Nat → Int) (ao : Option Addr) (len cap : Nat) (w : World) (hb : Bys w ao len cap m) (hm : ∀ j, 0 ≤ m j ∧ m j < 256) (hlc : len ≤ cap) (hcap : cap ≤ 9223372036854775807) (hlen : len ≤ 140737488351232) (hE : cI m len ≠ 0) :
    Calls Tryz.prog 19 #[.slice ao len cap] w fun e w' => e = .returned (.tuple #[.agg (cel (sIndexed oIndexed)), .int .i64 (cI m len)]) ∧ Below w.heap.size w w' := by
  have z := zeroIndexed
  obtain ⟨W1, hW1⟩ : ∃ W, w.alloc (.cells (cel (sIndexed oIndexed)) 46) = W := ⟨_, rfl⟩
  obtain ⟨W2, hW2⟩ : ∃ W, W1.alloc (.cells (vs .i64 3 zI) 3) = W := ⟨_, rfl⟩
  have hB1 : Below w.heap.size w W1 := by rw [← hW1]; exact (Below.refl _ _).alloc (Nat.le_refl _) _
  have z1 : W1.heap.size = w.heap.size + 1 := by rw [← hW1]; simp
  have z2 : W2.heap.size = w.heap.size + 2 := by rw [← hW2]; simp [z1]
  have hB2 : Below w.heap.size w W2 := by rw [← hW2]; exact hB1.alloc (by omega) _
  have r1 : W1.heap[w.heap.size]? = some (.cells (cel (sIndexed oIndexed)) 46) := by rw [← hW1]; exact heap_new rfl
  have r2 : W2.heap[w.heap.size]? = some (.cells (cel (sIndexed oIndexed)) 46) := by rw [← hW2]; exact (heap_old (by omega)).trans r1
  have g2 : W2.heap[W1.heap.size]? = some (.cells (vs .i64 3 zI) 3) := by rw [← hW2]; exact heap_new rfl
  have hsz : Calls Tryz.prog 23 #[] W1 fun e w' => e = .returned (.slice (some ⟨W1.heap.size, 0, none⟩) 3 3) ∧ w' = W2 := by rw [← hW2]; exact asz_any W1
  have hcut := cutI_no m ao len cap W1.heap.size W2 (hb.below hB2) hm hlen hlc hcap g2 hE
  obtain ⟨y, ey⟩ : ∃ y, w.heap.size = y := ⟨_, rfl⟩
  obtain ⟨y1, ey1⟩ : ∃ y, W1.heap.size = y := ⟨_, rfl⟩
  rw [ey1] at hcut hsz
  have hy : y < W2.heap.size := by omega
  rw [ey] at r2
  have HCUT := hid hcut
  have HSZ := hid hsz
  have R2 := hid r2
  have HB2 := hid hB2
  have HY := hid hy
  have EY := hid ey
  clear hcut hsz r2 hB2 hy r1 g2 hB1 z1 z2 hlc hcap hb hlen
  go_enter Tryz.func19, Tryz.ntmps19
  obtain ⟨E, eE⟩ : ∃ E, cI m len = E := ⟨_, rfl⟩
  rw [eE] at HCUT hE ⊢
  have q0 : (E != 0) = true := by rw [bne_iff_ne]; exact hE
  clear eE hE
  go_upto_region 2 with (first
    | (go_at_call 23; refine HSZ.out.mono ?_; rintro e w0 ⟨rfl, hw0⟩; obtain rfl := hw0.symm)
    | (go_at_call 37; refine HCUT.out.mono ?_; rintro e w1 ⟨a1, rfl, hb1⟩))
  clear hW1 hW2 ey ey1
  have rr := (hb1.block _ HY.out).trans R2.out
  have sv := svIndexed_run rr oIndexed
  have bd := bdIndexed_0
  have RR := hid rr
  have HB1 := hid hb1
  clear rr hb1
  go_wp2
  refine retIndexed _ _ y oIndexed 46 _ rfl rfl rfl rfl (setRow_at RR.out) ⟨rfl, ?_⟩
  have e0 := EY.out
  have e1 := HB2.out.size
  exact below_row (HB2.out.trans (HB1.out.mono (by omega))) (by omega) _

set_option maxRecDepth 20000 in
set_option maxHeartbeats 2000000 in
theorem readIndexed_bad (m : Nat → Int) (ao : Option Addr) (len cap : Nat) (w : World) (hb : Bys w ao len cap m) (hm : ∀ j, 0 ≤ m j ∧ m j < 256) (hlc : len ≤ cap) (hcap : cap ≤ 9223372036854775807) (hlen : len ≤ 140737488351232) (h228 : 228 ≤ len) (hoff : oN m = 228) (E : Int) (hE : E ≠ 0) (hrn : ∀ (X : World) A, Calls Tryz.prog 49 #[.slice A (len - 228) (len - 228), .int .i64 64] X fun e w' => e = .returned (.tuple #[.slice none 0 0, .int .i64 E]) ∧ w' = X) :
    Calls Tryz.prog 19 #[.slice ao len cap] w fun e w' => e = .returned (.tuple #[.agg (cel (sIndexed oIndexed)), .int .i64 E]) ∧ Below w.heap.size w w' := by
  have z := zeroIndexed
  obtain ⟨W1, hW1⟩ : ∃ W, w.alloc (.cells (cel (sIndexed oIndexed)) 46) = W := ⟨_, rfl⟩
  obtain ⟨W2, hW2⟩ : ∃ W, W1.alloc (.cells (vs .i64 3 zI) 3) = W := ⟨_, rfl⟩
  have hB1 : Below w.heap.size w W1 := by rw [← hW1]; exact (Below.refl _ _).alloc (Nat.le_refl _) _
  have z1 : W1.heap.size = w.heap.size + 1 := by rw [← hW1]; simp
  have z2 : W2.heap.size = w.heap.size + 2 := by rw [← hW2]; simp [z1]
  have hB2 : Below w.heap.size w W2 := by rw [← hW2]; exact hB1.alloc (by omega) _
  have r1 : W1.heap[w.heap.size]? = some (.cells (cel (sIndexed oIndexed)) 46) := by rw [← hW1]; exact heap_new rfl
  have r2 : W2.heap[w.heap.size]? = some (.cells (cel (sIndexed oIndexed)) 46) := by rw [← hW2]; exact (heap_old (by omega)).trans r1
  have g2 : W2.heap[W1.heap.size]? = some (.cells (vs .i64 3 zI) 3) := by rw [← hW2]; exact heap_new rfl
  have hsz : Calls Tryz.prog 23 #[] W1 fun e w' => e = .returned (.slice (some ⟨W1.heap.size, 0, none⟩) 3 3) ∧ w' = W2 := by rw [← hW2]; exact asz_any W1
  have hcut := cutI_ok m ao len cap W1.heap.size W2 (hb.below hB2) hm hlen hlc hcap g2 h228 hoff
  obtain ⟨y, ey⟩ : ∃ y, w.heap.size = y := ⟨_, rfl⟩
  obtain ⟨y1, ey1⟩ : ∃ y, W1.heap.size = y := ⟨_, rfl⟩
  rw [ey1] at hcut hsz
  have hy : y < W2.heap.size := by omega
  rw [ey] at r2
  have HCUT := hid hcut
  have HSZ := hid hsz
  have R2 := hid r2
  have HB2 := hid hB2
  have HY := hid hy
  have EY := hid ey
  clear hcut hsz r2 hB2 hy r1 g2 hB1 z1 z2 hlc hcap hb hlen h228 hoff
  go_enter Tryz.func19, Tryz.ntmps19
  have e0 : (E != 0) = true := by rw [bne_iff_ne]; exact hE
  have HRN := hid hrn
  clear hE hrn
  go_upto_region 2 with (first
    | (go_at_call 23; refine HSZ.out.mono ?_; rintro e w0 ⟨rfl, hw0⟩; obtain rfl := hw0.symm)
    | (go_at_call 37; refine HCUT.out.mono ?_; rintro e w1 ⟨gp, o, rfl, hgp, ⟨⟨A0, l0, q0⟩, ⟨A1, l1, q1⟩, ⟨A2, l2, q2⟩⟩, hb1⟩))
  clear hW1 hW2 ey ey1
  have ix0 : ∀ X : World, (ixP (.slice (some ⟨gp, o, none⟩) 3 3) (.int .i64 0)).run Tryz.prog X = .ok (.pointer (some ⟨gp, o, none⟩)) X := fun X => ixP_run X gp o 3 3 0 (by omega)
  obtain ⟨L0, eL0⟩ : ∃ L, len - 228 = L := ⟨_, rfl⟩
  rw [eL0] at l0 HRN
  have rr := (hb1.block _ HY.out).trans R2.out
  have sv := svIndexed_run rr oIndexed
  have bd := bdIndexed_0
  have RR := hid rr
  have HB1 := hid hb1
  clear rr hb1 eL0 q0 q1 q2 l1 l2
  go_wp2_with (go_at_call 49; refine (HRN.out _ _).mono ?_; rintro e w2 ⟨rfl, hw2⟩; obtain rfl := hw2.symm)
  refine retIndexed _ _ y oIndexed 46 _ rfl rfl rfl rfl (setRow_at RR.out) ⟨rfl, ?_⟩
  have e0 := EY.out
  have e1 := HB2.out.size
  exact below_row (HB2.out.trans (HB1.out.mono (by omega))) (by omega) _

end Go.Proofs.YtokbhcgooboocaaGreatDoor

namespace Go.Proofs.YtokbhcgooboocaaGreatDoor
open Go.RowKit
set_option linter.unusedVariables false
set_option linter.unusedSimpArgs false
set_option maxRecDepth 20000

theorem rcutI_no (m : Nat → Int) (ao : Option Addr) (len cap sa : Nat) (w : World) (hb : Bys w ao len cap m) (hm : ∀ j, 0 ≤ m j ∧ m j < 256) (hlen : len ≤ 140737488351232) (hlc : len ≤ cap) (hcap : 0 < len → cap ≤ 9223372036854775807) (g2 : w.heap[sa]? = some (.cells (vs .i64 3 zI) 3)) (h : cI m len ≠ 0) :
    Calls Tryz.prog 40 #[.slice ao len cap, .slice (some ⟨sa, 0, none⟩) 3 3] w fun e w' => ∃ a1 c1, e = .returned (.tuple #[.slice a1 0 c1, .int .i64 (cI m len)]) ∧ Below w.heap.size w w' := by
  have hc : Calls Tryz.prog 40 #[.slice ao len cap, .slice (some ⟨sa, 0, none⟩) 3 3] w (Z.RAnsF zI m 3 len w) := by
    by_cases h0 : 0 < len
    · exact Z.rcutF_wide zI m ao len cap (some ⟨sa, 0, none⟩) 3 3 w hb hm hlen hlc (hcap h0) (nmsI g2) (by omega)
    · exact Z.rcut_short zI m ao len cap (some ⟨sa, 0, none⟩) 3 3 w (nmsI g2) (by decide) (by show len < 228; omega)
  refine hc.mono ?_
  rintro e w' ⟨a', N', c', A', C', rfl, h1, h2, h3, h8⟩
  rw [cutI] at h1 ⊢
  rw [if_neg h] at h1
  subst h1
  exact ⟨a', c', rfl, h3⟩
/-- The parts of an Indexed's cut, new ones. -/
def CutsR (m : Nat → Int) (len B : Nat) (w : World) (gp o : Nat) : Prop :=
  (∃ A C, w.cell? ⟨gp, o, none⟩ = some (.slice A (len - 228) C) ∧ Bys w A (len - 228) C (fun q => m (228 + q)) ∧ ∀ b off, A = some ⟨b, off, none⟩ → B ≤ b) ∧
  (∃ b off C, w.cell? ⟨gp, o + 1, none⟩ = some (.slice (some ⟨b, off, none⟩) 128 C) ∧ Bys w (some ⟨b, off, none⟩) 128 C (fun q => m (4 + q)) ∧ B ≤ b) ∧
  (∃ b off C, w.cell? ⟨gp, o + 2, none⟩ = some (.slice (some ⟨b, off, none⟩) 96 C) ∧ Bys w (some ⟨b, off, none⟩) 96 C (fun q => m (132 + q)) ∧ B ≤ b)
theorem rcutI_ok (m : Nat → Int) (ao : Option Addr) (len cap sa : Nat) (w : World) (hb : Bys w ao len cap m) (hm : ∀ j, 0 ≤ m j ∧ m j < 256) (hlen : len ≤ 140737488351232) (hlc : len ≤ cap) (hcap : cap ≤ 9223372036854775807) (g2 : w.heap[sa]? = some (.cells (vs .i64 3 zI) 3)) (h1' : 228 ≤ len) (h2' : oN m = 228) :
    Calls Tryz.prog 40 #[.slice ao len cap, .slice (some ⟨sa, 0, none⟩) 3 3] w fun e w' => ∃ gp o cp, e = .returned (.tuple #[.slice (some ⟨gp, o, none⟩) 3 cp, .int .i64 0]) ∧ gp < w'.heap.size ∧ CutsR m len w.heap.size w' gp o ∧ Below w.heap.size w w' := by
  refine (Z.rcutF_wide zI m ao len cap (some ⟨sa, 0, none⟩) 3 3 w hb hm hlen hlc hcap (nmsI g2) (by omega)).mono ?_
  rintro e w' ⟨a', N', c', A', C', rfl, h1, h2, h3, h8⟩
  have hc0 : cI m len = 0 := by unfold cI; rw [if_neg (by omega), if_pos h2']
  rw [cutI, hc0] at h1 ⊢
  rw [if_pos rfl] at h1
  subst h1
  rcases h2 with h2 | ⟨b, off, rfl, h4, h5⟩
  · omega
  refine ⟨b, off, c', rfl, h4, ⟨?_, ?_, ?_⟩, h3⟩
  · obtain ⟨h6, h7⟩ := h5 0 (by omega)
    rw [lnI0, h2'] at h6 h7
    rw [fnI0, h2'] at h7
    exact ⟨A' 0, C' 0, h6, h7, h8 0 (by omega)⟩
  · obtain ⟨h6, h7⟩ := h5 1 (by omega)
    rw [lnI1] at h6 h7
    rw [fnI1] at h7
    obtain ⟨b1, o1, e3, _, _, _⟩ := bys_at (show Bys w' (A' 1) 128 (C' 1) (fun q => m (4 + q)) from h7) (by omega)
    have h9 := h8 1 (by omega) b1 o1 e3
    rw [e3] at h6 h7
    exact ⟨b1, o1, _, h6, h7, h9⟩
  · obtain ⟨h6, h7⟩ := h5 2 (by omega)
    rw [lnI2] at h6 h7
    rw [fnI2] at h7
    obtain ⟨b1, o1, e3, _, _, _⟩ := bys_at (show Bys w' (A' 2) 96 (C' 2) (fun q => m (132 + q)) from h7) (by omega)
    have h9 := h8 2 (by omega) b1 o1 e3
    rw [e3] at h6 h7
    exact ⟨b1, o1, _, h6, h7, h9⟩
theorem cel_noI {w : World} {g gp j : Nat} {t : TypeId} {a : Addr} {n c : Nat} (h : w.heap[g]? = some (.cells (cel (sIndexed oIndexed)) t)) (hc : w.cell? ⟨gp, j, none⟩ = some (.slice (some a) n c)) : gp ≠ g := by
  intro e
  subst e
  rw [row_cell h] at hc
  unfold cel at hc
  rw [List.getElem?_toArray] at hc
  have hm := List.mem_of_getElem? hc
  have hm' : Value.slice (some a) n c ∈ [Value.slice none 0 0] ++ celL (sData oData ++ [.by 96 fun _ => 0]) := hm
  rw [List.mem_append] at hm'
  rcases hm' with h1 | h1
  · rw [List.mem_singleton] at h1
    cases h1
  · exact celL_no (some a) n c _ rfl h1

attribute [local go_sem ↓] ixP_eq bsI_eq lvData_eq svData_eq lvIndexed_eq svIndexed_eq bdIndexed_eq

set_option maxHeartbeats 2000000 in
theorem rreadIndexed_no (m : Nat → Int) (ao : Option Addr) (len cap : Nat) (w : World) (hb : Bys w ao len cap m) (hm : ∀ j, 0 ≤ m j ∧ m j < 256) (hlc : len ≤ cap) (hcap : 0 < len → cap ≤ 9223372036854775807) (hlen : len ≤ 140737488351232) (hE : cI m len ≠ 0) :
    Calls Tryz.prog 47 #[.slice ao len cap] w fun e w' => e = .returned (.tuple #[.agg (cel (sIndexed oIndexed)), .int .i64 (cI m len)]) ∧ Below w.heap.size w w' := by
  have z := zeroIndexed
  obtain ⟨y, ey⟩ : ∃ y, w.heap.size = y := ⟨_, rfl⟩
  obtain ⟨W1, hW1⟩ : ∃ W, w.alloc (.cells (cel (sIndexed oIndexed)) 46) = W := ⟨_, rfl⟩
  obtain ⟨W2, hW2⟩ : ∃ W, W1.alloc (.cells (cel (sIndexed oIndexed)) 46) = W := ⟨_, rfl⟩
  obtain ⟨W3, hW3⟩ : ∃ W, W2.alloc (.cells (vs .i64 3 zI) 3) = W := ⟨_, rfl⟩
  have z1 : W1.heap.size = y + 1 := by rw [← hW1, ← ey]; simp
  have z2 : W2.heap.size = y + 2 := by rw [← hW2]; simp [z1]
  have z3 : W3.heap.size = y + 3 := by rw [← hW3]; simp [z2]
  have hB3 : Below w.heap.size w W3 := by rw [← hW3, ← hW2, ← hW1]; exact (((Below.refl _ _).alloc (Nat.le_refl _) _).alloc (by simp) _).alloc (by simp; omega) _
  have r1 : W3.heap[y]? = some (.cells (cel (sIndexed oIndexed)) 46) := by rw [← hW3]; refine (heap_old (by omega)).trans ?_; rw [← hW2]; refine (heap_old (by omega)).trans ?_; rw [← hW1]; exact heap_new ey.symm
  have r2 : W3.heap[y + 1]? = some (.cells (cel (sIndexed oIndexed)) 46) := by rw [← hW3]; refine (heap_old (by omega)).trans ?_; rw [← hW2]; exact heap_new z1.symm
  have g3 : W3.heap[y + 2]? = some (.cells (vs .i64 3 zI) 3) := by rw [← hW3]; exact heap_new z2.symm
  have bsi := bsI_zI W2
  rw [hW3, z2] at bsi
  have hcut := rcutI_no m ao len cap (y + 2) W3 (hb.below hB3) hm hlen hlc hcap g3 hE
  obtain ⟨g, eg⟩ : ∃ g, y + 1 = g := ⟨_, rfl⟩
  obtain ⟨u, eu⟩ : ∃ u, y + 2 = u := ⟨_, rfl⟩
  rw [eu] at bsi hcut
  rw [eg] at r2
  have HCUT := hid hcut
  have R1 := hid r1
  have R2 := hid r2
  have HB3 := hid hB3
  have EY := hid ey
  have EG := hid eg
  have Z3 := hid z3
  clear hcut r1 r2 hB3 g3 z3 hlc hcap hb
  obtain ⟨E, eE⟩ : ∃ E, cI m len = E := ⟨_, rfl⟩
  rw [eE] at HCUT hE ⊢
  have q0 : (E != 0) = true := by rw [bne_iff_ne]; exact hE
  clear eE hE hlen
  go_enter Tryz.func47, Tryz.ntmps47
  go_upto_region 3 with (go_at_call 40; refine HCUT.out.mono ?_; rintro e w1 ⟨a1, c1, rfl, hb1⟩)
  clear hW1 hW2 hW3 ey eg eu bsi z1 z2 z
  have z3 := Z3.out
  have e0 := EG.out
  have rr := (hb1.block y (by omega)).trans R1.out
  have rx := (hb1.block g (by omega)).trans R2.out
  have sv := svIndexed_run rr oIndexed
  have lv := lvIndexed_mid (x := oIndexed) rx 0 (take_all _) rfl
  have RR := hid rr
  have HB1 := hid hb1
  clear rr hb1 rx z3 e0
  go_wp2
  refine retIndexed _ _ y oIndexed 46 _ rfl rfl rfl rfl (setRow_at RR.out) ⟨rfl, ?_⟩
  have e0 := EY.out
  have e1 := HB3.out.size
  exact below_row (HB3.out.trans (HB1.out.mono (by omega))) (by omega) _

set_option maxHeartbeats 2000000 in
theorem rreadIndexed_bad (m : Nat → Int) (ao : Option Addr) (len cap : Nat) (w : World) (hb : Bys w ao len cap m) (hm : ∀ j, 0 ≤ m j ∧ m j < 256) (hlc : len ≤ cap) (hcap : cap ≤ 9223372036854775807) (hlen : len ≤ 140737488351232) (h228 : 228 ≤ len) (hoff : oN m = 228) (E : Int) (hE : E ≠ 0) (hre : ∀ (X : World) A C, Calls Tryz.prog 89 #[.slice A (len - 228) C, .int .i64 8, .int .i64 64] X fun e w' => ∃ a c, e = .returned (.tuple #[.slice a 0 c, .int .i64 E]) ∧ Below X.heap.size X w') :
    Calls Tryz.prog 47 #[.slice ao len cap] w fun e w' => e = .returned (.tuple #[.agg (cel (sIndexed oIndexed)), .int .i64 E]) ∧ Below w.heap.size w w' := by
  have z := zeroIndexed
  obtain ⟨y, ey⟩ : ∃ y, w.heap.size = y := ⟨_, rfl⟩
  obtain ⟨W1, hW1⟩ : ∃ W, w.alloc (.cells (cel (sIndexed oIndexed)) 46) = W := ⟨_, rfl⟩
  obtain ⟨W2, hW2⟩ : ∃ W, W1.alloc (.cells (cel (sIndexed oIndexed)) 46) = W := ⟨_, rfl⟩
  obtain ⟨W3, hW3⟩ : ∃ W, W2.alloc (.cells (vs .i64 3 zI) 3) = W := ⟨_, rfl⟩
  have z1 : W1.heap.size = y + 1 := by rw [← hW1, ← ey]; simp
  have z2 : W2.heap.size = y + 2 := by rw [← hW2]; simp [z1]
  have z3 : W3.heap.size = y + 3 := by rw [← hW3]; simp [z2]
  have hB3 : Below w.heap.size w W3 := by rw [← hW3, ← hW2, ← hW1]; exact (((Below.refl _ _).alloc (Nat.le_refl _) _).alloc (by simp) _).alloc (by simp; omega) _
  have r1 : W3.heap[y]? = some (.cells (cel (sIndexed oIndexed)) 46) := by rw [← hW3]; refine (heap_old (by omega)).trans ?_; rw [← hW2]; refine (heap_old (by omega)).trans ?_; rw [← hW1]; exact heap_new ey.symm
  have r2 : W3.heap[y + 1]? = some (.cells (cel (sIndexed oIndexed)) 46) := by rw [← hW3]; refine (heap_old (by omega)).trans ?_; rw [← hW2]; exact heap_new z1.symm
  have g3 : W3.heap[y + 2]? = some (.cells (vs .i64 3 zI) 3) := by rw [← hW3]; exact heap_new z2.symm
  have bsi := bsI_zI W2
  rw [hW3, z2] at bsi
  have hcut := rcutI_ok m ao len cap (y + 2) W3 (hb.below hB3) hm hlen hlc hcap g3 h228 hoff
  obtain ⟨g, eg⟩ : ∃ g, y + 1 = g := ⟨_, rfl⟩
  obtain ⟨u, eu⟩ : ∃ u, y + 2 = u := ⟨_, rfl⟩
  rw [eu] at bsi hcut
  rw [eg] at r2
  have HCUT := hid hcut
  have R1 := hid r1
  have R2 := hid r2
  have HB3 := hid hB3
  have EY := hid ey
  have EG := hid eg
  have Z3 := hid z3
  clear hcut r1 r2 hB3 g3 z3 hlc hcap hb
  have q9 : (E != 0) = true := by rw [bne_iff_ne]; exact hE
  clear hE hlen h228 hoff
  go_enter Tryz.func47, Tryz.ntmps47
  go_upto_region 3 with (go_at_call 40; refine HCUT.out.mono ?_; rintro e w1 ⟨gp, o, cp, rfl, hgp, ⟨⟨A0, c0, l0, q0, f0⟩, ⟨b1, p1, c1, l1, q1, f1⟩, ⟨b2, p2, c2, l2, q2, f2⟩⟩, hb1⟩)
  clear hW1 hW2 hW3 ey eg eu bsi z1 z2
  have ix0 : ∀ X : World, (ixP (.slice (some ⟨gp, o, none⟩) 3 cp) (.int .i64 0)).run Tryz.prog X = .ok (.pointer (some ⟨gp, o, none⟩)) X := fun X => ixP_run X gp o 3 cp 0 (by omega)
  have ix1 : ∀ X : World, (ixP (.slice (some ⟨gp, o, none⟩) 3 cp) (.int .i64 1)).run Tryz.prog X = .ok (.pointer (some ⟨gp, o + 1, none⟩)) X := fun X => ixP_run X gp o 3 cp 1 (by omega)
  have ix2 : ∀ X : World, (ixP (.slice (some ⟨gp, o, none⟩) 3 cp) (.int .i64 2)).run Tryz.prog X = .ok (.pointer (some ⟨gp, o + 2, none⟩)) X := fun X => ixP_run X gp o 3 cp 2 (by omega)
  obtain ⟨o1, eo1⟩ : ∃ p, o + 1 = p := ⟨_, rfl⟩
  obtain ⟨o2, eo2⟩ : ∃ p, o + 2 = p := ⟨_, rfl⟩
  rw [eo1] at ix1 l1
  rw [eo2] at ix2 l2
  obtain ⟨L0, eL0⟩ : ∃ L, len - 228 = L := ⟨_, rfl⟩
  rw [eL0] at l0 q0
  rw [eL0] at hre
  have HRE := hid (hre w1 A0 c0)
  have z3 := Z3.out
  have HRR := hid ((hb1.block y (by omega)).trans R1.out)
  have HYS := hid (show y < w1.heap.size by have := hb1.size; omega)
  have HB1 := hid hb1
  clear hre q0 f0 q1 f1 q2 f2 hgp l1 l2 ix1 ix2 eo1 eo2 eL0 hb1 z3 z
  go_upto_region 6 with (go_at_call 89; refine HRE.out.mono ?_; rintro e w2 ⟨a2, c2', rfl, hb2⟩; have HB2 := hid hb2; have rr := (hb2.block y HYS.out).trans HRR.out; have sv := svIndexed_run rr oIndexed; have RR := hid rr; clear hb2 rr)
  have bd := bdIndexed_0
  go_wp2
  refine retIndexed _ _ y oIndexed 46 _ rfl rfl rfl rfl (setRow_at RR.out) ⟨rfl, ?_⟩
  have e0 := EY.out
  have e1 := HB3.out.size
  have e2 := HB1.out.size
  exact below_row (HB3.out.trans ((HB1.out.mono (by omega)).trans (HB2.out.mono (by omega)))) (by omega) _

end Go.Proofs.YtokbhcgooboocaaGreatDoor
