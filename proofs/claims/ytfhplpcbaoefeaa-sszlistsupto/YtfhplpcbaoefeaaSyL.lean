/-
  Where the parts that Cut answers lie: in a row of bytes of the call's own.
-/
import Derived.Test.YtfhplpcbaoefeaaSzH
namespace Go.Proofs.Ytfhplpcbaoefeaa
open Go.RowKit
set_option linter.unusedVariables false
set_option linter.unusedSimpArgs false

/-- The block g is a row of bytes. -/
def Row8 (w : World) (g : Nat) : Prop := ∃ cur, w.heap[g]? = some (.cells cur 5)
theorem row8_lt {w : World} {g : Nat} (h : Row8 w g) : g < w.heap.size := by
  obtain ⟨cur, h⟩ := h
  exact (Array.getElem?_eq_some_iff.1 h).1
theorem row8_kept {w w' : World} {g : Nat} (h : Row8 w g) (hk : w'.heap[g]? = w.heap[g]?) : Row8 w' g := by
  obtain ⟨cur, h⟩ := h
  exact ⟨cur, hk.trans h⟩
theorem own_row {w : World} {B g n C : Nat} {xs : List Value} (h : w.ownsRow B 5 1 (.slice (some ⟨g, 0, none⟩) n C) n xs) : Row8 w g := by
  rcases h.2 with ⟨h1, h0⟩ | ⟨g', cap, cur, h1, h2, h3, h4, h5, h6, h7⟩
  · cases h1
  · cases h1
    exact ⟨cur, h3⟩

set_option maxRecDepth 20000 in
set_option maxHeartbeats 1000000 in
theorem cparts_row (zs m : Nat → Int) (os : Nat → Nat) (ao : Option Addr) (len cap : Nat) (sa : Option Addr) (n sc : Nat) (oa : Option Addr) (oc : Nat) (w : World) (hb : Bys w ao len cap m) (hlen : len ≤ 140737488351232)
    (hn : Nms .i64 w sa n zs) (hn1 : 1 ≤ n) (hnb : n ≤ 64) (hok : ∀ i, i < n → okS (zs i)) (hhd : hdL zs n ≤ len)
    (ho : Nms .u64 w oa (zn zs n) (fun i => (os i : Int))) (hle : ∀ i, i < zn zs n → os i ≤ len) (hmo : ∀ i, i + 1 < zn zs n → os i ≤ os (i + 1)) :
    Calls Try.prog 26 #[.slice ao len cap, .slice sa n sc, .slice oa (zn zs n) oc] w fun e w' => ∃ g C gp, e = .returned (.slice (some ⟨gp, 0, none⟩) n n) ∧ w.heap.size ≤ g ∧ w.heap.size ≤ gp ∧ (∀ j, j < len → w'.cell? ⟨g, j, none⟩ = some (.int .u8 (m j))) ∧ Row8 w' g ∧ len ≤ C ∧ w'.heap[gp]? = some (.cells (vals n (cpart (some ⟨g, 0, none⟩) zs os len (zn zs n))) 22) ∧ g ≠ gp ∧ Below w.heap.size w w' := by
  have HC : Hid (∀ k, k < n → ∃ b off, sa = some ⟨b, off, none⟩ ∧ b < w.heap.size ∧ w.cell? ⟨b, off + k, none⟩ = some (.int .i64 (zs k))) := by
    intro k hk
    rcases hn with h | ⟨b, off, h1, h2, h3⟩
    · omega
    · exact ⟨b, off, h1, h2, h3 k hk⟩
  have h0l : 0 < len := by
    have h1 := hdL_mono zs (i := 1) (j := n) hn1
    have h2 := inH_bd (hok 0 (by omega))
    have h3 : hdL zs 1 = 0 + inH (zs 0) := rfl
    omega
  have hcl := clone_any m ao len cap w hb hlen
  have HCL := hid hcl
  have HOK := hid hok
  have HO := hid ho
  have HLE := hid hle
  have HMO := hid hmo
  clear hcl hok ho hle hmo hn hb
  go_enter Try.func26, Try.ntmps26
  go_upto_region 2 with (go_at_call 18; refine HCL.out.mono ?_; rintro e w1 ⟨v, rfl, ho1, hb1⟩)
  obtain ⟨g, C, hv⟩ := owns_pos ho1 h0l
  subst hv
  obtain ⟨c1, c2, c3, c4, c5⟩ := own_cells ho1
  have HRW := hid (own_row ho1)
  have hzn := zn_le zs n
  have hlo := loose_any (some ⟨g, 0, none⟩) len C os oa (zn zs n) oc w1 (HO.out.below hb1) (by omega) c3 (by omega) HLE.out HMO.out
  have HLO := hid hlo
  have H1 : Hid (w.heap.size ≤ g ∧ g < w1.heap.size ∧ len ≤ C ∧ (∀ j, j < len → w1.cell? ⟨g, j, none⟩ = some (.int .u8 (m j))) ∧ Below w.heap.size w w1) := ⟨c1, c2, c3, c5, hb1⟩
  obtain ⟨gl, egl⟩ : ∃ x, w1.heap.size = x := ⟨_, rfl⟩
  rw [egl] at HLO
  have HGL := hid egl
  obtain ⟨nz, enz⟩ : ∃ x, zn zs n = x := ⟨_, rfl⟩
  rw [enz] at HLO ⊢
  have HNZ := hid enz
  clear c1 c2 c3 c4 c5 hb1 ho1 hlo egl enz hzn
  go_upto_region 4 with (first
    | (go_at_call 17; refine HLO.out.mono ?_; rintro e w2 ⟨rfl, hr2, hb2⟩; have HR2 := hid hr2; have HB2 := hid hb2; clear hr2 hb2)
    | (at_make; refine wpList_make_parts _ rfl _ _ rfl n rfl rfl (by omega) ?_; intro f0 w3 hr3 hb3 hz3; have HR3 := hid hr3; have HB3 := hid hb3; have HZ3 := hid hz3; clear hr3 hb3 hz3))
  obtain ⟨a1, a2, a3, a4, a5⟩ := H1.out
  have hgl := HGL.out
  have z2 := HB2.out.size
  have hw2 : gl < w2.heap.size := (Array.getElem?_eq_some_iff.1 HR2.out).1
  obtain ⟨gp, egp⟩ : ∃ x, w2.heap.size = x := ⟨_, rfl⟩
  have r3 := HR3.out
  have b3 := HB3.out
  have z3 := HZ3.out
  have b2 := HB2.out
  rw [egp] at r3 b3 z3 hw2 ⊢
  rw [hgl] at a2
  have hB3 : Below w.heap.size w w3 := (a5.trans (b2.mono (by omega))).trans (b3.mono (by omega))
  have rl3 := (b3.block gl hw2).trans HR2.out
  have gc3 : ∀ j, j < len → w3.cell? ⟨g, j, none⟩ = some (.int .u8 (m j)) := fun j hj => (below_cell b3 (by omega)).trans ((below_cell b2 a2).trans (a4 j hj))
  have HRG : Hid (Row8 w3 g) := row8_kept HRW.out ((b3.block g (by omega)).trans (b2.block g (by omega)))
  have H3 : Hid (Below w.heap.size w w3 ∧ w3.heap[gl]? = some (.cells (vals nz (prts (some ⟨g, 0, none⟩) os len nz)) 22) ∧ (∀ j, j < len → w3.cell? ⟨g, j, none⟩ = some (.int .u8 (m j))) ∧ w3.heap[gp]? = some (.cells (vals n f0) 22) ∧ gp < w3.heap.size ∧ g < gl ∧ gl < gp ∧ w.heap.size ≤ g ∧ len ≤ C ∧ zn zs n = nz) := ⟨hB3, rl3, gc3, r3, z3, a2, hw2, a1, a3, HNZ.out⟩
  clear a1 a2 a3 a4 a5 hgl z2 hw2 egp r3 b3 z3 b2 hB3 rl3 gc3 HR2 HB2 HR3 HB3 HZ3 HLO HCL H1 HGL HNZ
  go_wp2
  go_loopw [8, 10, 23] (fun x at' i wr => ∃ (k : Nat) (AL : Option Addr), k ≤ n ∧ i = .int .i64 k ∧ at' = .int .i64 ((hdL zs k : Nat) : Int) ∧ x = .slice AL (nz - zn zs k) (nz - zn zs k) ∧ (zn zs k < nz → AL = some ⟨gl, zn zs k, none⟩) ∧ wr.heap[gp]? = some (.cells (vals n fun i => if i < k then cpart (some ⟨g, 0, none⟩) zs os len nz i else f0 i) 22) ∧ gp < wr.heap.size ∧ Below gp w3 wr) (fun _ _ i _ => n - (intOf i).toNat)
  case atStart =>
    obtain ⟨b1, b2, b3, b4, b5, b6⟩ := H3.out
    refine ⟨0, some ⟨gl, 0, none⟩, by omega, rfl, rfl, rfl, fun _ => rfl, ?_, b5, Below.refl _ _⟩
    rw [b4]
    exact congrArg (fun c => some (Obj.cells c 22)) (vals_congr fun i hi => by rw [if_neg (by omega)])
  case round =>
    obtain ⟨k, AL, hk, rfl, rfl, rfl, hAL, hr, hzr, hb⟩ := hrel
    by_cases hkn : k < n
    · obtain ⟨b1, b2, b3, b4, b5, b6, b7, b8, b9, b10⟩ := H3.out
      obtain ⟨sb, so, rfl, hsb, hsc⟩ := HC.out k hkn
      have ck := (below_cell hb (show sb < gp by omega)).trans ((below_cell b1 hsb).trans hsc)
      have hokk := HOK.out k hkn
      have hi1 := inH_bd hokk
      have hmono := hdL_mono zs (i := k + 1) (j := n) (by omega)
      have hsucc : hdL zs (k + 1) = hdL zs k + inH (zs k) := rfl
      have hzs : zn zs (k + 1) = zn zs k + (if zs k = 0 then 1 else 0) := rfl
      have hzle := zn_mono zs (i := k) (j := n) (by omega)
      have cw := vals_cell hr k hkn
      have fw := row_frozen hr k
      obtain ⟨u, eu⟩ : ∃ u, (if k < k then cpart (some ⟨g, 0, none⟩) zs os len nz k else f0 k) = u := ⟨_, rfl⟩
      rw [eu] at cw
      have ecp : cpart (some ⟨g, 0, none⟩) zs os len nz k = if zs k = 0 then prts (some ⟨g, 0, none⟩) os len nz (zn zs k) else pc (some ⟨g, 0, none⟩) (hdL zs k) (hdL zs k + (zs k).toNat) := rfl
      have hltz : zs k = 0 → zn zs k < nz := fun h => by rw [← b10]; exact zn_lt zs hkn h
      obtain ⟨S, eS⟩ : ∃ S, hdL zs k = S := ⟨_, rfl⟩
      obtain ⟨z, ez⟩ : ∃ z, zs k = z := ⟨_, rfl⟩
      obtain ⟨I, eI⟩ : ∃ I, inH z = I := ⟨_, rfl⟩
      obtain ⟨Z, eZ⟩ : ∃ Z, zn zs k = Z := ⟨_, rfl⟩
      rw [ez] at ck hokk hi1 hsucc hzs ecp hltz
      rw [eI] at hi1 hsucc
      rw [eS] at hsucc ecp ⊢
      rw [eZ] at hzs hzle ecp hltz hAL ⊢
      obtain ⟨D, eD⟩ : ∃ D, nz - Z = D := ⟨_, rfl⟩
      rw [eD]
      have hin := inhead_any z
      rw [eI] at hin
      have HIN := hid (fun w => hin w hokk)
      have k1 : (k : Int) < (n : Int) := by omega
      have k2 : (0 : Int) ≤ (k : Int) := by omega
      obtain ⟨S2, eS2⟩ : ∃ S2, S + I = S2 := ⟨_, rfl⟩
      have s1 : (S : Int) + (I : Int) = (S2 : Int) := by omega
      have s3 : (S2 : Int) ≤ 140737488351232 := by omega
      have HS2 := hid eS2
      have HR := hid hr
      have HB := hid hb
      have HZR := hid hzr
      have HE : Hid (hdL zs k = S ∧ zs k = z ∧ zn zs k = Z ∧ nz - Z = D ∧ hdL zs (k + 1) = S + I ∧ zn zs (k + 1) = Z + (if z = 0 then 1 else 0) ∧ cpart (some ⟨g, 0, none⟩) zs os len nz k = if z = 0 then prts (some ⟨g, 0, none⟩) os len nz Z else pc (some ⟨g, 0, none⟩) S (S + z.toNat)) := ⟨eS, ez, eZ, eD, hsucc, hzs, ecp⟩
      -- what the relation wants, behind the store of the part
      have fin : ∀ (w' : World) (P : Value), w'.heap[gp]? = some (.cells ((vals n fun i => if i < k then cpart (some ⟨g, 0, none⟩) zs os len nz i else f0 i).setIfInBounds k P) 22) → P = cpart (some ⟨g, 0, none⟩) zs os len nz k → w'.heap[gp]? = some (.cells (vals n fun i => if i < k + 1 then cpart (some ⟨g, 0, none⟩) zs os len nz i else f0 i) 22) := by
        intro w' P h hP
        rw [h, vals_set]
        refine congrArg (fun c => some (Obj.cells c 22)) (vals_congr fun i hi => ?_)
        by_cases hik : i = k
        · subst hik; rw [if_pos rfl, if_pos (by omega), hP]
        · rw [if_neg hik]
          by_cases h2 : i < k
          · rw [if_pos h2, if_pos (by omega)]
          · rw [if_neg h2, if_neg (by omega)]
      have HFIN := hid fin
      by_cases h0 : z = 0
      · have hZn := hltz h0
        have hAL' := hAL hZn
        have cl := (below_cell (i := Z) hb b7).trans (vals_cell b2 Z hZn)
        obtain ⟨PA, PL, eP⟩ : ∃ PA PL, prts (some ⟨g, 0, none⟩) os len nz Z = .slice PA PL PL := ⟨_, _, rfl⟩
        rw [eP] at cl
        have HP := hid eP
        subst hAL'
        subst h0
        have d1 : (0 : Int) < (D : Int) := by omega
        have d2 : (1 : Int) ≤ (D : Int) := by omega
        have d3 : 0 < D := by omega
        have d4 : 1 ≤ D := by omega
        clear b1 b2 b3 b4 b5 b6 b7 b8 b9 b10 hsb hsc hokk hi1 hmono hsucc hzs hzle eu ecp hltz eS ez eI eZ eD hin fin hAL hr hb hzr hZn eP eS2
        go_wp2
        go_region_with fail
        obtain ⟨A2, hA2, hA3⟩ : ∃ A2 : Option Addr, (if D = 1 then (some ⟨gl, Z, none⟩ : Option Addr) else some ⟨gl, Z + 1, none⟩) = A2 ∧ (Z + 1 < nz → A2 = some ⟨gl, Z + 1, none⟩) := by
          by_cases hD : D = 1
          · rw [if_pos hD]; exact ⟨_, rfl, fun h => by have := HE.out.2.2.2.1; omega⟩
          · rw [if_neg hD]; exact ⟨_, rfl, fun _ => rfl⟩
        rw [hA2]
        have HA3 := hid hA3
        have r4 := row_set HR.out k (.slice PA PL PL)
        have b4 : Below gp w3 (wr.setCell ⟨gp, k, none⟩ (.slice PA PL PL)).drew := by
          have this : Below gp w3 (wr.setCell ⟨gp, k, none⟩ (.slice PA PL PL)) := HB.out.setCell (by simp) _
          exact ⟨this.os, this.tape, this.output, this.size, this.block⟩
        have z4 : gp < (wr.setCell ⟨gp, k, none⟩ (.slice PA PL PL)).drew.heap.size := by
          show gp < (wr.setCell ⟨gp, k, none⟩ (.slice PA PL PL)).heap.size
          rw [size_set]
          exact HZR.out
        have R4 := hid r4
        have B4 := hid b4
        have Z4 := hid z4
        clear hA2 hA3 r4 b4 z4 cl cw
        obtain ⟨W4, hW4⟩ : ∃ W, (wr.setCell ⟨gp, k, none⟩ (.slice PA PL PL)).drew = W := ⟨_, rfl⟩
        have R5 : Hid (W4.heap[gp]? = some (.cells ((vals n fun i => if i < k then cpart (some ⟨g, 0, none⟩) zs os len nz i else f0 i).setIfInBounds k (.slice PA PL PL)) 22)) := by rw [← hW4]; exact R4.out
        rw [hW4] at B4 Z4 ⊢
        clear hW4 R4
        go_wp2_with (go_at_call 30; refine (HIN.out _).mono ?_; rintro e w5 ⟨rfl, rfl⟩)
        obtain ⟨eS, ez, eZ, eD, hsucc, hzs, ecp⟩ := HE.out
        rw [if_pos trivial] at hzs ecp
        refine ⟨⟨k + 1, A2, by omega, by go_num, ?_, ?_, ?_, HFIN.out _ _ R5.out (by rw [ecp]; exact HP.out.symm), Z4.out, B4.out⟩, ?_⟩
        · rw [hsucc, HS2.out]
        · rw [hzs, show nz - (Z + 1) = D - 1 by omega]
        · rw [hzs]; exact HA3.out
        · simp [intOf]; omega
      · have hz0 : ¬ z = 0 := h0
        obtain ⟨T, eT⟩ : ∃ T, S + z.toNat = T := ⟨_, rfl⟩
        have hzn : (z.toNat : Int) = z := by have := hokk.1; omega
        have hIz : inH z = z.toNat := by unfold inH; rw [if_neg h0]
        have s2 : (S : Int) + z = (T : Int) := by omega
        have hpc := piece_any (some ⟨g, 0, none⟩) len C S T
        have HPC := hid (fun w => hpc w (by omega) (by omega))
        obtain ⟨PA, PL, eP⟩ : ∃ PA PL, pc (some ⟨g, 0, none⟩) S T = .slice PA PL PL := ⟨_, _, rfl⟩
        rw [eP] at HPC
        have HP := hid eP
        have HT := hid eT
        have t1 : (T : Int) ≤ 140737488351232 := by omega
        have t2 : (S : Int) ≤ 140737488351232 := by omega
        have HALL := hid hAL
        clear b1 b2 b3 b4 b5 b6 b7 b8 b9 b10 hsb hsc hokk hi1 hmono hsucc hzs hzle eu ecp hltz eS ez eI eZ eD hin fin hAL hr hb hzr eP eT hpc hzn hIz eS2
        go_wp2_with (first
          | (go_at_call 27; refine (HPC.out _).mono ?_; rintro e w4 ⟨rfl, rfl⟩)
          | (go_at_call 30; refine (HIN.out _).mono ?_; rintro e w5 ⟨rfl, rfl⟩))
        obtain ⟨eS, ez, eZ, eD, hsucc, hzs, ecp⟩ := HE.out
        rw [if_neg hz0] at hzs ecp
        refine ⟨⟨k + 1, AL, by omega, by go_num, by rw [hsucc, HS2.out], by rw [hzs, Nat.add_zero, eD], by rw [hzs, Nat.add_zero]; exact HALL.out, HFIN.out _ _ (row_set HR.out k _) (by rw [ecp, HT.out]; exact HP.out.symm), by rw [size_set]; exact HZR.out, HB.out.setCell (by simp) _⟩, ?_⟩
        simp [intOf]
        omega
    · have ek : k = n := by omega
      subst ek
      obtain ⟨b1, b2, b3, b4, b5, b6, b7, b8, b9, b10⟩ := H3.out
      have hr' : wr.heap[gp]? = some (.cells (vals k (cpart (some ⟨g, 0, none⟩) zs os len nz)) 22) := by
        rw [hr]
        exact congrArg (fun c => some (Obj.cells c 22)) (vals_congr fun i hi => by rw [if_pos hi])
      have HX : Hid (∃ C', w.heap.size ≤ g ∧ w.heap.size ≤ gp ∧ (∀ j, j < len → wr.cell? ⟨g, j, none⟩ = some (.int .u8 (m j))) ∧ Row8 wr g ∧ len ≤ C' ∧ wr.heap[gp]? = some (.cells (vals k (cpart (some ⟨g, 0, none⟩) zs os len nz)) 22) ∧ g ≠ gp ∧ Below w.heap.size w wr) := ⟨C, b8, by omega, fun j hj => (below_cell hb (by omega)).trans (b3 j hj), row8_kept HRG.out (hb.block g (by omega)), b9, hr', by omega, b1.trans (hb.mono (by omega))⟩
      clear b1 b2 b3 b4 b5 b6 b7 b8 b9 hr hr' hb hzr hAL
      have B10 := hid b10
      clear b10
      go_wp2
      go_ret
      obtain ⟨C', x⟩ := HX.out
      refine ⟨g, C', gp, rfl, ?_⟩
      rw [B10.out]
      exact x

set_option maxRecDepth 20000 in
set_option maxHeartbeats 1000000 in
theorem cut_row (zs m : Nat → Int) (ao : Option Addr) (len cap : Nat) (sa : Option Addr) (n sc : Nat) (w : World) (hb : Bys w ao len cap m) (hm : ∀ j, j < len → 0 ≤ m j ∧ m j < 256) (hlen : len ≤ 140737488351232) (hlc : len ≤ cap) (hcap : cap ≤ 9223372036854775807)
    (hn : Nms .i64 w sa n zs) (hsz : szB zs n = true) (hhd : hdL zs n ≤ len) (hno : zn zs n = 0 → len = hdL zs n) (hfi : 0 < zn zs n → offN zs m n 0 = hdL zs n)
    (hle : ∀ i, i < zn zs n → offN zs m n i ≤ len) (hmo : ∀ i, i + 1 < zn zs n → offN zs m n i ≤ offN zs m n (i + 1)) :
    Calls Try.prog 12 #[.slice ao len cap, .slice sa n sc] w fun e w' => ∃ g C gp, e = .returned (.tuple #[.slice (some ⟨gp, 0, none⟩) n n, .int .i64 0]) ∧ w.heap.size ≤ g ∧ w.heap.size ≤ gp ∧ (∀ j, j < len → w'.cell? ⟨g, j, none⟩ = some (.int .u8 (m j))) ∧ Row8 w' g ∧ len ≤ C ∧ w'.heap[gp]? = some (.cells (vals n (cpart (some ⟨g, 0, none⟩) zs (offN zs m n) len (zn zs n))) 22) ∧ g ≠ gp ∧ Below w.heap.size w w' := by
  obtain ⟨hn1, hnb, hok⟩ := szB_out hsz
  have h64 := hdL_bd (zs := zs) n hok
  have hsi := sizes_any zs sa n sc w hn (by omega)
  rw [hsz] at hsi
  have hhl := headlen_any zs sa n sc w hn hn1 hnb hok
  have hho := headoffs_any zs m ao len cap sa n sc w hb hm hlc hcap hn hn1 hnb hok hhd
  obtain ⟨S, eS⟩ : ∃ S, hdL zs n = S := ⟨_, rfl⟩
  rw [eS] at hhl
  have s1 : ¬ (len : Int) < (S : Int) := by omega
  have s2 : (S : Int) ≤ 4194304 := by omega
  have s3 : (len : Int) ≤ 140737488351232 := by omega
  have HSI := hid hsi
  have HHL := hid hhl
  have HHO := hid hho
  have HA : Hid (Bys w ao len cap m ∧ (∀ j, j < len → 0 ≤ m j ∧ m j < 256) ∧ Nms .i64 w sa n zs ∧ 1 ≤ n ∧ n ≤ 64 ∧ (∀ i, i < n → okS (zs i)) ∧ hdL zs n ≤ len ∧ (zn zs n = 0 → len = hdL zs n) ∧ (0 < zn zs n → offN zs m n 0 = hdL zs n)) := ⟨hb, hm, hn, hn1, hnb, hok, hhd, hno, hfi⟩
  have HLE := hid hle
  have HMO := hid hmo
  have HS := hid eS
  clear hsi hhl hho hb hm hn hok hhd hno hfi hle hmo eS hsz h64
  go_enter Try.func12, Try.ntmps12
  go_wp2
  refine wp_scope_jumps 0 (fun _ _ => False) (fun _ _ => 0) rfl ?_ (fun _ _ h => h.elim)
  go_upto_region 9 with (first
    | (go_at_call 23; refine HSI.out.mono ?_; rintro e w1 ⟨rfl, rfl⟩)
    | (go_at_call 24; refine HHL.out.mono ?_; rintro e w2 ⟨rfl, rfl⟩)
    | (go_at_call 25; refine HHO.out.mono ?_; rintro e w3 ⟨v, rfl, ho3, hb3⟩))
  obtain ⟨hb, hm, hn, _, _, hok, hhd, hno, hfi⟩ := HA.out
  have hoff := fun i hi => offN_cast zs m len n i hm hhd hi
  rw [offL_zn] at ho3
  obtain ⟨oa, OC, hv, hnm⟩ := owns_nms ho3 (fun i => (offN zs m n i : Int)) (fun i hi => (hoff i hi).1)
  subst hv
  have hznb := zn_le zs n
  have hord := ordB_true (os := fun i => (offN zs m n i : Int)) (L := (len : Int)) (n := zn zs n) (fun i hi => by
    unfold ordAt
    dsimp only
    have h1 := HLE.out i hi
    by_cases h0 : i = 0
    · rw [if_pos h0]; omega
    · rw [if_neg h0]
      have h2 := HMO.out (i - 1) (by omega)
      rw [show i - 1 + 1 = i by omega] at h2
      omega)
  have hio := inorder_any (fun i => (offN zs m n i : Int)) oa (zn zs n) OC len w3 hnm (by omega) (fun i hi => by have := (hoff i hi).2; omega) (by omega)
  rw [hord] at hio
  have hcp := cparts_row zs m (offN zs m n) ao len cap sa n sc oa OC w3 (hb.below hb3) hlen (hn.below hb3) hn1 hnb hok hhd hnm HLE.out HMO.out
  have HIO := hid hio
  have HCP := hid hcp
  have HB3 := hid hb3
  have eS := HS.out
  by_cases h0 : zn zs n = 0
  · have hle := hno h0
    rw [h0]
    rw [h0] at HIO HCP
    have t1 : ¬ (S : Int) < (len : Int) := by omega
    have HZ := hid h0
    clear hb hm hn hok hhd hno hfi hoff ho3 hnm hznb hord hio hcp hb3 eS hle h0
    go_wp2_with (first
      | (go_at_call 16; refine HIO.out.mono ?_; rintro e w4 ⟨rfl, rfl⟩)
      | (go_at_call 26; refine HCP.out.mono ?_; rintro e w5 ⟨g, C, gp, rfl, x1, x2, x3, x4, x5, x6, x7, x8⟩))
    simp only [Exit.jump]
    go_ret2
    rw [HZ.out]
    exact ⟨g, C, gp, rfl, Nat.le_trans HB3.out.size x1, Nat.le_trans HB3.out.size x2, x3, x4, x5, x6, x7, HB3.out.trans (x8.mono HB3.out.size)⟩
  · have hz : 0 < zn zs n := by omega
    have hfo := hfi hz
    rcases hnm with h | ⟨ob, oo, rfl, hob, hoc⟩
    · omega
    have c0 := hoc 0 hz
    simp only [Nat.add_zero] at c0
    rw [hfo, eS] at c0
    obtain ⟨nz, enz⟩ : ∃ x, zn zs n = x := ⟨_, rfl⟩
    rw [enz] at HIO HCP hz ⊢
    have t1 : ¬ (nz : Int) = 0 := by omega
    have t2 : (0 : Int) < (nz : Int) := by omega
    have t3 : 0 < nz := by omega
    have HZ := hid enz
    clear hb hm hn hok hhd hno hfi hoff ho3 hznb hord hio hcp hb3 eS h0 hfo hoc enz hz
    go_wp2_with (first
      | (go_at_call 16; refine HIO.out.mono ?_; rintro e w4 ⟨rfl, rfl⟩)
      | (go_at_call 26; refine HCP.out.mono ?_; rintro e w5 ⟨g, C, gp, rfl, x1, x2, x3, x4, x5, x6, x7, x8⟩))
    simp only [Exit.jump]
    go_ret2
    rw [HZ.out]
    exact ⟨g, C, gp, rfl, Nat.le_trans HB3.out.size x1, Nat.le_trans HB3.out.size x2, x3, x4, x5, x6, x7, HB3.out.trans (x8.mono HB3.out.size)⟩

end Go.Proofs.Ytfhplpcbaoefeaa
