/-
  What TreePlays answers, at every input.
-/
import Derived.Test.YtjimdkpppgjokaaDoorTvB
import Derived.Test.YtjimdkpppgjokaaDoorOpt
namespace Go.Proofs.YtjimdkpppgjokaaDoor
open Go.RowKit
set_option linter.unusedVariables false
set_option linter.unusedSimpArgs false

/-- Roots compared, whole. -/
def neq6 (x y : Value) : Sem Value := binOp .neq 33 x y
theorem neq6_eq (x y : Value) : binOp .neq 33 x y = neq6 x y := rfl
theorem neq6_run (w : World) (c d : Nat → Int) : (neq6 (.agg (vs .u8 32 c)) (.agg (vs .u8 32 d))).run Tryd.prog w = .ok (.bool (!eqR c d)) w := by
  have h := eq32g w c d
  unfold neq6
  have h2 : (Op.equalIn Op.maxDepth 33 (.agg (vs .u8 32 c)) (.agg (vs .u8 32 d))).run Tryd.prog w = .ok (eqR c d) w := h
  simp [binOp, Op.equal, h2]
/-- The tree and the reference's, as they begin. -/
theorem jk_new {w W2 W3 : World} {t m : Nat} {LB : Nat → Nat} (h1 : Below w.heap.size w W2) (ht : TT W2 LB w.heap.size t m 0 (fun _ => 0) 0 0) (hb : Below W2.heap.size W2 W3) : JK w (W3.alloc (.cells (rtA m (.slice none 0 0)) 28)) t W3.heap.size m 0 (fun _ => 0) 0 (fun _ => 0) 0 0 := by
  have hB3 : Below w.heap.size w W3 := h1.trans (hb.mono h1.size)
  refine ⟨hB3.alloc hB3.size _, hB3.size, lab' W3 LB 0, ((ht.below hb).fresh).below ((Below.refl _ _).alloc (Nat.le_refl _) _), .slice none 0 0, heap_new rfl, lab'_new _ _ _ _ (Nat.le_refl _), World.ownsRow_nil _ _ _ _, fun b hb => by cases hb⟩

attribute [local go_sem ↓] sv24_eq lv24_eq ix22_eq slr_eq bd27_eq bs22_eq eqo_eq neq6_eq lvO_eq svO_eq ixO_eq lv28_eq sv28_eq

set_option maxRecDepth 20000 in
set_option maxHeartbeats 8000000 in
theorem plays_ok (m : Nat) (a : Option Addr) (len cap : Nat) (K P : Nat → Int) (F : Nat → Nat → Int) (w : World) (hS : Sh w) (hC : Rc w) (hm : 1 ≤ m) (hm2 : m ≤ 1073741824) (hcl : Cls w a len K P F) (hrg : ∀ i, (-9223372036854775808 ≤ K i ∧ K i ≤ 9223372036854775807) ∧ (-9223372036854775808 ≤ P i ∧ P i ≤ 9223372036854775807) ∧ ∀ j, 0 ≤ F i j ∧ F i j < 256) (hlen : len ≤ 140737488355328) :
    Calls Tryd.prog 3 #[.int .i64 m, .slice a len cap] w fun e w' => e = .returned (.bool true) ∧ Below w.heap.size w w' := by
  have haw := awake6 w hS
  have HAW := hid haw
  have HS := hid hS
  have HC := hid hC
  have HCL := hid hcl
  have HRG := hid hrg
  clear haw hS hC hcl hrg
  go_enter Tryd.func3, Tryd.ntmps3
  go_upto_region 3 with (go_at_call 8; refine HAW.out.mono ?_; rintro e w1 ⟨rfl, hb1⟩)
  have hnew := tt_new w.heap.size m w1 (HS.out.below hb1) hm hm2 hb1.size
  obtain ⟨t0, et0⟩ : ∃ t, w1.heap.size + 1 = t := ⟨_, rfl⟩
  rw [et0] at hnew
  have HNEW := hid hnew
  have HB1 := hid hb1
  clear hnew et0 hb1 HAW
  go_upto_region 4 with (go_at_call 9; refine HNEW.out.mono ?_; rintro e w2 ⟨rfl, hb2, LB2, hl2, ht2⟩)
  have hrn := rnew6 (m : Int) w2 (by omega) (by omega)
  rw [decide_eq_true (show (1 : Int) ≤ (m : Int) ∧ (m : Int) ≤ 1073741824 by omega)] at hrn
  have zr28 := zero_ref
  have sv := fun W => sv28_new W (m : Int) none 0 0 (rtA 0 (.slice none 0 0)) rfl
  have HRN := hid hrn
  have HB2 := hid (HB1.out.trans (hb2.mono HB1.out.size))
  have HT2 := hid ht2
  clear hrn hb2 hl2 ht2 HNEW HB1
  go_upto_region 10 with (go_at_call 10; refine HRN.out.mono ?_; rintro e w3 ⟨rfl, hb3⟩)
  have hj := jk_new HB2.out HT2.out hb3
  obtain ⟨q, eq⟩ : ∃ q, w3.heap.size = q := ⟨_, rfl⟩
  obtain ⟨W4, hW4⟩ : ∃ X, w3.alloc (.cells (rtA m (.slice none 0 0)) 28) = X := ⟨_, rfl⟩
  rw [hW4, eq] at hj
  rw [hW4, eq]
  have HJ0 := hid hj
  clear hj hW4 eq hb3 HB2 HT2 HRN zr28 sv
  go_loopw [5, 8] (fun tv i wr => ∃ (k t L : Nat) (f : Nat → Int) (cn : Nat) (hs : Int), k ≤ len ∧ k ≤ 100 ∧ i = .int .i64 k ∧ tv = .pointer (some ⟨t, 0, none⟩) ∧ JK w wr t q m L f L f cn hs ∧ 0 ≤ hs ∧ hs ≤ (k : Int) * 2147483648) (fun _ i _ => 100 - (intOf i).toNat)
  case atStart => exact ⟨0, t0, 0, _, 0, 0, by omega, by omega, rfl, rfl, HJ0.out, by omega, by omega⟩
  case round =>
    clear HJ0
    obtain ⟨k, t, L, f, cn, hs, hk1, hk2, rfl, rfl, hg, hhs⟩ := hrel
    have HHS := hid hhs
    clear hhs
    by_cases hlt : k < len ∧ k < 100
    · obtain ⟨hlt1, hlt2⟩ := hlt
      have b1 : decide (k < len) = true := by simp; omega
      have b2 : decide ((k : Int) < (len : Int)) = true := by simp; omega
      have b3 : decide (k < 100) = true := by simp; omega
      have b4 : decide ((k : Int) < 100) = true := by simp; omega
      obtain ⟨bo, oo, hao, hbo, hco⟩ := HCL.out.resolve_left (by omega)
      subst hao
      have hco' := hco k hlt1
      have hB0 := hg.bel
      have l0 := lvO_mid (w := wr) (b := bo) (o := oo + 34 * k) (k := K k) (p := P k) (c := F k) ((below_cell hB0 hbo).trans hco'.1) ((below_cell hB0 hbo).trans hco'.2.1) (fun j hj => (below_cell hB0 hbo).trans (hco'.2.2 j hj))
      have ixo := fun W => ixO_run W bo oo len cap k hlt1
      have zo := zero_op
      have so := svO_new wr (K k) (P k) (F k) (oA 0 0 (fun _ => 0)) (oA_size _ _ _)
      have hrg := HRG.out k
      obtain ⟨kk, ekk⟩ : ∃ z, K k = z := ⟨_, rfl⟩
      obtain ⟨p, ep⟩ : ∃ z, P k = z := ⟨_, rfl⟩
      obtain ⟨c, ec⟩ : ∃ z, F k = z := ⟨_, rfl⟩
      rw [ekk, ep, ec] at l0 so hrg
      obtain ⟨⟨kk1, kk2⟩, ⟨p1, p2⟩, hcb⟩ := hrg
      clear hco hco' hB0 ekk ep ec
      go_upto_region 13 with fail
      clear l0 ixo zo so
      obtain ⟨W1, hW1⟩ : ∃ X, wr.alloc (.cells (oA kk p c) 40) = X := ⟨_, rfl⟩
      rw [hW1]
      have hB1 : Below wr.heap.size wr W1 := by rw [← hW1]; exact (Below.refl _ _).alloc (Nat.le_refl _) _
      have ry : W1.heap[wr.heap.size]? = some (.cells (oA kk p c) 40) := by rw [← hW1]; exact heap_new rfl
      have zy : wr.heap.size < W1.heap.size := by rw [← hW1]; simp
      have HB1w := hid hB1
      obtain ⟨y, ey⟩ : ∃ y, wr.heap.size = y := ⟨_, rfl⟩
      have hqy : q < y := by rw [← ey]; exact hg.qlt
      have cy0 := row_cell ry 0
      rw [oA_0] at cy0
      have x1 : -6 < kk.tmod 6 := by
        have := Int.lt_tmod_of_pos kk (by omega : (0 : Int) < 6); omega
      have x2 : kk.tmod 6 < 6 := Int.tmod_lt_of_pos kk (by omega)
      have HEY := hid ey
      rw [ey] at ry zy cy0 hB1 ⊢
      obtain ⟨kd, hkd, ekd⟩ := kind_any kk
      have EKD := hid ekd
      have HG := hid hg
      have HRY := hid ry
      have HB1 := hid hB1
      have HLP : Hid (∀ X : World, X.heap[y]? = some (.cells (oA kk p c) 40) → X.cell? ⟨y, 1, none⟩ = some (.int .i64 p)) := fun X h => (row_cell h 1).trans (oA_1 _ _ _)
      have HLC : Hid (∀ X : World, X.heap[y]? = some (.cells (oA kk p c) 40) → (lv24 ⟨y, 2, none⟩).run Tryd.prog X = .ok (.agg (vs .u8 32 c)) X) := fun X h => lv24_mid (fun j hj => (row_cell h (2 + j)).trans (oA_2 _ _ _ j hj))
      have HCB : Hid (∀ j, j < 32 → 0 ≤ c j ∧ c j < 256) := fun j _ => hcb j
      have HST : Hid (∀ X X', Stay wr X X' → X.heap[y]? = some (.cells (oA kk p c) 40) → X'.heap[y]? = some (.cells (oA kk p c) 40)) := fun X X' h h2 => (h y (by rw [← HEY.out]; exact Nat.le_refl _) (Array.getElem?_eq_some_iff.1 h2).1).trans h2
      have HSQ : Hid (∀ X X', StayQ q X X' → X.heap[y]? = some (.cells (oA kk p c) 40) → X'.heap[y]? = some (.cells (oA kk p c) 40)) := fun X X' h h2 => (h.2 y (Array.getElem?_eq_some_iff.1 h2).1 (by omega)).trans h2
      have hLm : L ≤ 1073741824 := by have := hg.few; omega
      clear ry hB1 hg ekd hcb hW1 ey
      clear b1 b2 b3 b4
      rcases (by omega : kd = 0 ∨ kd = 1 ∨ kd = 2 ∨ kd = 3 ∨ kd = 4 ∨ kd = 5) with rfl | rfl | rfl | rfl | rfl | rfl
      · -- kind 0
        have hkk : (kk.tmod 6 + 6) % 6 = 0 := by have := EKD.out; omega
        clear EKD
        go_upto_region 14 with fail
        clear cy0 hkk x1 x2
        have HB1b := hid (HB1.out.drew)
        have HRYd := hid (show W1.drew.heap[y]? = some (.cells (oA kk p c) 40) from HRY.out)
        rw [← HEY.out] at HB1b
        have hts := (HG.out).tapp (HB1b.out) c HCB.out
        obtain ⟨E, eE⟩ : ∃ E, appE m L = E := ⟨_, rfl⟩
        rw [eE] at hts
        have EE := hid eE
        have HTS := hid hts
        clear hts eE
        refine wp_region_noPanic ?_
        refine wp_region_held_drew (S := fun X => X.heap[y]? = some (.cells (oA kk p c) 40)) (by kernel_rfl) (HRYd.out) (fun hHeld => ?_)
        refine wpAnyH_take (i := 0) (v := ?v12) rfl (by kernel_rfl) (by kernel_rfl) (by kernel_rfl) (fun _ _ _ h => h) (Or.inl ⟨by rfl, ?hy12⟩) hHeld ?rest12
        case hy12 =>
          intro w hSw
          go_simp
          try with_reducible rfl
        try simp only [Act.put, List.setIfInBounds_toArray, List.set_cons_zero, List.set_cons_succ, Array.toArray_toList, List.getElem_toArray, List.getElem_cons_zero, List.getElem_cons_succ]
        refine wpAnyH_take (i := 1) (v := ?v13) rfl (by kernel_rfl) (by kernel_rfl) (by kernel_rfl) (fun _ _ _ h => h) (Or.inl ⟨by rfl, ?hy13⟩) hHeld ?rest13
        case hy13 =>
          intro w hSw
          go_simp
          try with_reducible rfl
        try simp only [Act.put, List.setIfInBounds_toArray, List.set_cons_zero, List.set_cons_succ, Array.toArray_toList, List.getElem_toArray, List.getElem_cons_zero, List.getElem_cons_succ]
        refine wpAnyH_take (i := 2) (v := ?v14) rfl (by kernel_rfl) (by kernel_rfl) (by kernel_rfl) (fun _ _ _ h => h) (Or.inl ⟨by rfl, ?hy14⟩) hHeld ?rest14
        case hy14 =>
          intro w hSw
          have ld := HLC.out _ hSw
          go_simp
          try with_reducible rfl
        try simp only [Act.put, List.setIfInBounds_toArray, List.set_cons_zero, List.set_cons_succ, Array.toArray_toList, List.getElem_toArray, List.getElem_cons_zero, List.getElem_cons_succ]
        refine wpAnyH_take (i := 4) (v := ?v15) rfl (by kernel_rfl) (by kernel_rfl) (by kernel_rfl) (fun _ _ _ h => h) (Or.inl ⟨by rfl, ?hy15⟩) hHeld ?rest15
        case hy15 =>
          intro w hSw
          go_simp
          try with_reducible rfl
        try simp only [Act.put, List.setIfInBounds_toArray, List.set_cons_zero, List.set_cons_succ, Array.toArray_toList, List.getElem_toArray, List.getElem_cons_zero, List.getElem_cons_succ]
        refine wpAnyH_take (i := 5) (v := ?v16) rfl (by kernel_rfl) (by kernel_rfl) (by kernel_rfl) (fun _ _ _ h => h) (Or.inl ⟨by rfl, ?hy16⟩) hHeld ?rest16
        case hy16 =>
          intro w hSw
          have ld := HLC.out _ hSw
          go_simp
          try with_reducible rfl
        try simp only [Act.put, List.setIfInBounds_toArray, List.set_cons_zero, List.set_cons_succ, Array.toArray_toList, List.getElem_toArray, List.getElem_cons_zero, List.getElem_cons_succ]
        refine wpAnyH_ready (rs := [3]) (by kernel_rfl) (by simp) ?_
        refine AllReadyH.cons rfl (fun K hK => ?_) AllReadyH.nil
        go_simp
        refine (HTS.out).mono ?_
        rintro e w2 ⟨rfl, cn2, hcn2, hj2, hs2⟩
        dsimp only
        have S2 := hid (HST.out _ _ hs2.1 HRYd.out)
        have hrs := hj2.rapp hLm c
        rw [EE.out] at hrs
        have HRS := hid hrs
        clear hrs hj2 hs2
        refine hK.out _ _ (S2.out) (fun hHeld => ?_)
        clear hK K
        try simp only [Act.put, List.setIfInBounds_toArray, List.set_cons_zero, List.set_cons_succ, Array.toArray_toList, List.getElem_toArray, List.getElem_cons_zero, List.getElem_cons_succ]
        refine wpAnyH_ready (rs := [6]) (by kernel_rfl) (by simp) ?_
        refine AllReadyH.cons rfl (fun K hK => ?_) AllReadyH.nil
        go_simp
        refine (HRS.out).mono ?_
        rintro e X2 ⟨rfl, hj3, hs3⟩
        dsimp only
        have HJ := hid hj3
        clear hj3
        refine hK.out _ _ (HSQ.out _ _ hs3 S2.out) (fun hHeld => ?_)
        clear hK K
        try simp only [Act.put, List.setIfInBounds_toArray, List.set_cons_zero, List.set_cons_succ, Array.toArray_toList, List.getElem_toArray, List.getElem_cons_zero, List.getElem_cons_succ]
        refine wpAnyH_take (i := 7) (v := ?v17) rfl (by kernel_rfl) (by kernel_rfl) (by kernel_rfl) (fun _ _ _ h => h) (Or.inl ⟨by rfl, ?hy17⟩) hHeld ?rest17
        case hy17 =>
          intro w hSw
          go_simp
          try with_reducible rfl
        try simp only [Act.put, List.setIfInBounds_toArray, List.set_cons_zero, List.set_cons_succ, Array.toArray_toList, List.getElem_toArray, List.getElem_cons_zero, List.getElem_cons_succ]
        refine wpAnyH_done (by kernel_rfl) ?_ _
        refine NoPanic.normal ?_
        clear HTS HRS S2
        obtain ⟨L2, eL2⟩ : ∃ L2, appL m L = L2 := ⟨_, rfl⟩
        rw [eL2] at HJ
        go_upto_region 33 with fail
        have hJ := HJ.out
        obtain ⟨a2, cap2, rq2, _, _⟩ := hJ.rblk
        have cq2 := row_cell (w := X2.drew) rq2 1
        rw [show (rtA m (.slice a2 L2 cap2))[1]? = some (.slice a2 L2 cap2) from rfl] at cq2
        have hlen := (hJ.below (Below.refl _ X2).drew).len
        have HLEN := hid hlen
        have HCQ := hid cq2
        have HJ3 := hid (hJ.below (Below.refl _ X2).drew)
        clear hJ rq2 cq2 hlen HJ
        refine wp_region_noPanic ?_
        refine wp_region_held_drew (S := fun X => X.cell? ⟨q, 1, none⟩ = some (.slice a2 L2 cap2)) (by kernel_rfl) (HCQ.out) (fun hHeld => ?_)
        refine wpAnyH_take (i := 0) (v := ?v18) rfl (by kernel_rfl) (by kernel_rfl) (by kernel_rfl) (fun _ _ _ h => h) (Or.inl ⟨by rfl, ?hy18⟩) hHeld ?rest18
        case hy18 =>
          intro w hSw
          go_simp
          try with_reducible rfl
        try simp only [Act.put, List.setIfInBounds_toArray, List.set_cons_zero, List.set_cons_succ, Array.toArray_toList, List.getElem_toArray, List.getElem_cons_zero, List.getElem_cons_succ]
        refine wpAnyH_take (i := 2) (v := ?v19) rfl (by kernel_rfl) (by kernel_rfl) (by kernel_rfl) (fun _ _ _ h => h) (Or.inl ⟨by rfl, ?hy19⟩) hHeld ?rest19
        case hy19 =>
          intro w hSw
          go_simp
          try with_reducible rfl
        try simp only [Act.put, List.setIfInBounds_toArray, List.set_cons_zero, List.set_cons_succ, Array.toArray_toList, List.getElem_toArray, List.getElem_cons_zero, List.getElem_cons_succ]
        refine wpAnyH_take (i := 3) (v := ?v20) rfl (by kernel_rfl) (by kernel_rfl) (by kernel_rfl) (fun _ _ _ h => h) (Or.inl ⟨by rfl, ?hy20⟩) hHeld ?rest20
        case hy20 =>
          intro w hSw
          have ld := hSw
          go_simp
          try with_reducible rfl
        try simp only [Act.put, List.setIfInBounds_toArray, List.set_cons_zero, List.set_cons_succ, Array.toArray_toList, List.getElem_toArray, List.getElem_cons_zero, List.getElem_cons_succ]
        refine wpAnyH_take (i := 4) (v := ?v21) rfl (by kernel_rfl) (by kernel_rfl) (by kernel_rfl) (fun _ _ _ h => h) (Or.inl ⟨by rfl, ?hy21⟩) hHeld ?rest21
        case hy21 =>
          intro w hSw
          go_simp
          try with_reducible rfl
        try simp only [Act.put, List.setIfInBounds_toArray, List.set_cons_zero, List.set_cons_succ, Array.toArray_toList, List.getElem_toArray, List.getElem_cons_zero, List.getElem_cons_succ]
        refine wpAnyH_ready (rs := [1]) (by kernel_rfl) (by simp) ?_
        refine AllReadyH.cons rfl (fun K hK => ?_) AllReadyH.nil
        go_simp
        refine (HLEN.out).mono ?_
        rintro e w9 ⟨rfl, hw9⟩
        dsimp only
        obtain rfl := hw9.symm
        refine hK.out _ _ (HCQ.out) (fun hHeld => ?_)
        clear hK K
        try simp only [Act.put, List.setIfInBounds_toArray, List.set_cons_zero, List.set_cons_succ, Array.toArray_toList, List.getElem_toArray, List.getElem_cons_zero, List.getElem_cons_succ]
        refine wpAnyH_take (i := 5) (v := ?v22) rfl (by kernel_rfl) (by kernel_rfl) (by kernel_rfl) (fun _ _ _ h => h) (Or.inl ⟨by rfl, ?hy22⟩) hHeld ?rest22
        case hy22 =>
          intro w hSw
          go_simp
          try with_reducible rfl
        try simp only [Act.put, List.setIfInBounds_toArray, List.set_cons_zero, List.set_cons_succ, Array.toArray_toList, List.getElem_toArray, List.getElem_cons_zero, List.getElem_cons_succ]
        refine wpAnyH_done (by kernel_rfl) ?_ _
        refine NoPanic.normal ?_
        go_wp2
        go_roundw
        case rel => exact ⟨k + 1, _, L2, _, _, _, by omega, by omega, by go_num, rfl, HJ3.out, HHS.out.1, by have := HHS.out.2; omega⟩
        case measure => simp [intOf]; omega
      · -- kind 1
        have hkk : (kk.tmod 6 + 6) % 6 = 1 := by have := EKD.out; omega
        clear EKD
        go_upto_region 17 with fail
        clear cy0 hkk x1 x2
        have HB1b := hid (HB1.out.drew)
        have HRYd := hid (show W1.drew.heap[y]? = some (.cells (oA kk p c) 40) from HRY.out)
        rw [← HEY.out] at HB1b
        have hts := (HG.out).tset (HB1b.out) p c HCB.out p1 p2
        obtain ⟨E, eE⟩ : ∃ E, getE L p = E := ⟨_, rfl⟩
        rw [eE] at hts
        have EE := hid eE
        have HTS := hid hts
        clear hts eE
        refine wp_region_noPanic ?_
        refine wp_region_held_drew (S := fun X => X.heap[y]? = some (.cells (oA kk p c) 40)) (by kernel_rfl) (HRYd.out) (fun hHeld => ?_)
        refine wpAnyH_take (i := 0) (v := ?v23) rfl (by kernel_rfl) (by kernel_rfl) (by kernel_rfl) (fun _ _ _ h => h) (Or.inl ⟨by rfl, ?hy23⟩) hHeld ?rest23
        case hy23 =>
          intro w hSw
          go_simp
          try with_reducible rfl
        try simp only [Act.put, List.setIfInBounds_toArray, List.set_cons_zero, List.set_cons_succ, Array.toArray_toList, List.getElem_toArray, List.getElem_cons_zero, List.getElem_cons_succ]
        refine wpAnyH_take (i := 1) (v := ?v24) rfl (by kernel_rfl) (by kernel_rfl) (by kernel_rfl) (fun _ _ _ h => h) (Or.inl ⟨by rfl, ?hy24⟩) hHeld ?rest24
        case hy24 =>
          intro w hSw
          go_simp
          try with_reducible rfl
        try simp only [Act.put, List.setIfInBounds_toArray, List.set_cons_zero, List.set_cons_succ, Array.toArray_toList, List.getElem_toArray, List.getElem_cons_zero, List.getElem_cons_succ]
        refine wpAnyH_take (i := 2) (v := ?v25) rfl (by kernel_rfl) (by kernel_rfl) (by kernel_rfl) (fun _ _ _ h => h) (Or.inl ⟨by rfl, ?hy25⟩) hHeld ?rest25
        case hy25 =>
          intro w hSw
          have ld := HLP.out _ hSw
          go_simp
          try with_reducible rfl
        try simp only [Act.put, List.setIfInBounds_toArray, List.set_cons_zero, List.set_cons_succ, Array.toArray_toList, List.getElem_toArray, List.getElem_cons_zero, List.getElem_cons_succ]
        refine wpAnyH_take (i := 3) (v := ?v26) rfl (by kernel_rfl) (by kernel_rfl) (by kernel_rfl) (fun _ _ _ h => h) (Or.inl ⟨by rfl, ?hy26⟩) hHeld ?rest26
        case hy26 =>
          intro w hSw
          go_simp
          try with_reducible rfl
        try simp only [Act.put, List.setIfInBounds_toArray, List.set_cons_zero, List.set_cons_succ, Array.toArray_toList, List.getElem_toArray, List.getElem_cons_zero, List.getElem_cons_succ]
        refine wpAnyH_take (i := 4) (v := ?v27) rfl (by kernel_rfl) (by kernel_rfl) (by kernel_rfl) (fun _ _ _ h => h) (Or.inl ⟨by rfl, ?hy27⟩) hHeld ?rest27
        case hy27 =>
          intro w hSw
          have ld := HLC.out _ hSw
          go_simp
          try with_reducible rfl
        try simp only [Act.put, List.setIfInBounds_toArray, List.set_cons_zero, List.set_cons_succ, Array.toArray_toList, List.getElem_toArray, List.getElem_cons_zero, List.getElem_cons_succ]
        refine wpAnyH_take (i := 6) (v := ?v28) rfl (by kernel_rfl) (by kernel_rfl) (by kernel_rfl) (fun _ _ _ h => h) (Or.inl ⟨by rfl, ?hy28⟩) hHeld ?rest28
        case hy28 =>
          intro w hSw
          go_simp
          try with_reducible rfl
        try simp only [Act.put, List.setIfInBounds_toArray, List.set_cons_zero, List.set_cons_succ, Array.toArray_toList, List.getElem_toArray, List.getElem_cons_zero, List.getElem_cons_succ]
        refine wpAnyH_take (i := 7) (v := ?v29) rfl (by kernel_rfl) (by kernel_rfl) (by kernel_rfl) (fun _ _ _ h => h) (Or.inl ⟨by rfl, ?hy29⟩) hHeld ?rest29
        case hy29 =>
          intro w hSw
          have ld := HLP.out _ hSw
          go_simp
          try with_reducible rfl
        try simp only [Act.put, List.setIfInBounds_toArray, List.set_cons_zero, List.set_cons_succ, Array.toArray_toList, List.getElem_toArray, List.getElem_cons_zero, List.getElem_cons_succ]
        refine wpAnyH_take (i := 8) (v := ?v30) rfl (by kernel_rfl) (by kernel_rfl) (by kernel_rfl) (fun _ _ _ h => h) (Or.inl ⟨by rfl, ?hy30⟩) hHeld ?rest30
        case hy30 =>
          intro w hSw
          go_simp
          try with_reducible rfl
        try simp only [Act.put, List.setIfInBounds_toArray, List.set_cons_zero, List.set_cons_succ, Array.toArray_toList, List.getElem_toArray, List.getElem_cons_zero, List.getElem_cons_succ]
        refine wpAnyH_take (i := 9) (v := ?v31) rfl (by kernel_rfl) (by kernel_rfl) (by kernel_rfl) (fun _ _ _ h => h) (Or.inl ⟨by rfl, ?hy31⟩) hHeld ?rest31
        case hy31 =>
          intro w hSw
          have ld := HLC.out _ hSw
          go_simp
          try with_reducible rfl
        try simp only [Act.put, List.setIfInBounds_toArray, List.set_cons_zero, List.set_cons_succ, Array.toArray_toList, List.getElem_toArray, List.getElem_cons_zero, List.getElem_cons_succ]
        refine wpAnyH_ready (rs := [5]) (by kernel_rfl) (by simp) ?_
        refine AllReadyH.cons rfl (fun K hK => ?_) AllReadyH.nil
        go_simp
        refine (HTS.out).mono ?_
        rintro e w2 ⟨rfl, cn2, hcn2, hj2, hs2⟩
        dsimp only
        have S2 := hid (HST.out _ _ hs2.1 HRYd.out)
        have hrs := hj2.rset hLm p c p1 p2
        rw [EE.out] at hrs
        have HRS := hid hrs
        clear hrs hj2 hs2
        refine hK.out _ _ (S2.out) (fun hHeld => ?_)
        clear hK K
        try simp only [Act.put, List.setIfInBounds_toArray, List.set_cons_zero, List.set_cons_succ, Array.toArray_toList, List.getElem_toArray, List.getElem_cons_zero, List.getElem_cons_succ]
        refine wpAnyH_ready (rs := [10]) (by kernel_rfl) (by simp) ?_
        refine AllReadyH.cons rfl (fun K hK => ?_) AllReadyH.nil
        go_simp
        refine (HRS.out).mono ?_
        rintro e X2 ⟨rfl, hj3, hs3⟩
        dsimp only
        have HJ := hid hj3
        clear hj3
        refine hK.out _ _ (HSQ.out _ _ hs3 S2.out) (fun hHeld => ?_)
        clear hK K
        try simp only [Act.put, List.setIfInBounds_toArray, List.set_cons_zero, List.set_cons_succ, Array.toArray_toList, List.getElem_toArray, List.getElem_cons_zero, List.getElem_cons_succ]
        refine wpAnyH_take (i := 11) (v := ?v32) rfl (by kernel_rfl) (by kernel_rfl) (by kernel_rfl) (fun _ _ _ h => h) (Or.inl ⟨by rfl, ?hy32⟩) hHeld ?rest32
        case hy32 =>
          intro w hSw
          go_simp
          try with_reducible rfl
        try simp only [Act.put, List.setIfInBounds_toArray, List.set_cons_zero, List.set_cons_succ, Array.toArray_toList, List.getElem_toArray, List.getElem_cons_zero, List.getElem_cons_succ]
        refine wpAnyH_done (by kernel_rfl) ?_ _
        refine NoPanic.normal ?_
        clear HTS HRS S2
        obtain ⟨L2, eL2⟩ : ∃ L2, L = L2 := ⟨_, rfl⟩
        rw [eL2] at HJ
        go_upto_region 33 with fail
        have hJ := HJ.out
        obtain ⟨a2, cap2, rq2, _, _⟩ := hJ.rblk
        have cq2 := row_cell (w := X2.drew) rq2 1
        rw [show (rtA m (.slice a2 L2 cap2))[1]? = some (.slice a2 L2 cap2) from rfl] at cq2
        have hlen := (hJ.below (Below.refl _ X2).drew).len
        have HLEN := hid hlen
        have HCQ := hid cq2
        have HJ3 := hid (hJ.below (Below.refl _ X2).drew)
        clear hJ rq2 cq2 hlen HJ
        refine wp_region_noPanic ?_
        refine wp_region_held_drew (S := fun X => X.cell? ⟨q, 1, none⟩ = some (.slice a2 L2 cap2)) (by kernel_rfl) (HCQ.out) (fun hHeld => ?_)
        refine wpAnyH_take (i := 0) (v := ?v33) rfl (by kernel_rfl) (by kernel_rfl) (by kernel_rfl) (fun _ _ _ h => h) (Or.inl ⟨by rfl, ?hy33⟩) hHeld ?rest33
        case hy33 =>
          intro w hSw
          go_simp
          try with_reducible rfl
        try simp only [Act.put, List.setIfInBounds_toArray, List.set_cons_zero, List.set_cons_succ, Array.toArray_toList, List.getElem_toArray, List.getElem_cons_zero, List.getElem_cons_succ]
        refine wpAnyH_take (i := 2) (v := ?v34) rfl (by kernel_rfl) (by kernel_rfl) (by kernel_rfl) (fun _ _ _ h => h) (Or.inl ⟨by rfl, ?hy34⟩) hHeld ?rest34
        case hy34 =>
          intro w hSw
          go_simp
          try with_reducible rfl
        try simp only [Act.put, List.setIfInBounds_toArray, List.set_cons_zero, List.set_cons_succ, Array.toArray_toList, List.getElem_toArray, List.getElem_cons_zero, List.getElem_cons_succ]
        refine wpAnyH_take (i := 3) (v := ?v35) rfl (by kernel_rfl) (by kernel_rfl) (by kernel_rfl) (fun _ _ _ h => h) (Or.inl ⟨by rfl, ?hy35⟩) hHeld ?rest35
        case hy35 =>
          intro w hSw
          have ld := hSw
          go_simp
          try with_reducible rfl
        try simp only [Act.put, List.setIfInBounds_toArray, List.set_cons_zero, List.set_cons_succ, Array.toArray_toList, List.getElem_toArray, List.getElem_cons_zero, List.getElem_cons_succ]
        refine wpAnyH_take (i := 4) (v := ?v36) rfl (by kernel_rfl) (by kernel_rfl) (by kernel_rfl) (fun _ _ _ h => h) (Or.inl ⟨by rfl, ?hy36⟩) hHeld ?rest36
        case hy36 =>
          intro w hSw
          go_simp
          try with_reducible rfl
        try simp only [Act.put, List.setIfInBounds_toArray, List.set_cons_zero, List.set_cons_succ, Array.toArray_toList, List.getElem_toArray, List.getElem_cons_zero, List.getElem_cons_succ]
        refine wpAnyH_ready (rs := [1]) (by kernel_rfl) (by simp) ?_
        refine AllReadyH.cons rfl (fun K hK => ?_) AllReadyH.nil
        go_simp
        refine (HLEN.out).mono ?_
        rintro e w9 ⟨rfl, hw9⟩
        dsimp only
        obtain rfl := hw9.symm
        refine hK.out _ _ (HCQ.out) (fun hHeld => ?_)
        clear hK K
        try simp only [Act.put, List.setIfInBounds_toArray, List.set_cons_zero, List.set_cons_succ, Array.toArray_toList, List.getElem_toArray, List.getElem_cons_zero, List.getElem_cons_succ]
        refine wpAnyH_take (i := 5) (v := ?v37) rfl (by kernel_rfl) (by kernel_rfl) (by kernel_rfl) (fun _ _ _ h => h) (Or.inl ⟨by rfl, ?hy37⟩) hHeld ?rest37
        case hy37 =>
          intro w hSw
          go_simp
          try with_reducible rfl
        try simp only [Act.put, List.setIfInBounds_toArray, List.set_cons_zero, List.set_cons_succ, Array.toArray_toList, List.getElem_toArray, List.getElem_cons_zero, List.getElem_cons_succ]
        refine wpAnyH_done (by kernel_rfl) ?_ _
        refine NoPanic.normal ?_
        go_wp2
        go_roundw
        case rel => exact ⟨k + 1, _, L2, _, _, _, by omega, by omega, by go_num, rfl, HJ3.out, HHS.out.1, by have := HHS.out.2; omega⟩
        case measure => simp [intOf]; omega
      · -- kind 2
        have hkk : (kk.tmod 6 + 6) % 6 = 2 := by have := EKD.out; omega
        clear EKD
        go_upto_region 20 with fail
        clear cy0 hkk x1 x2
        have HB1b := hid (HB1.out.drew)
        have HRYd := hid (show W1.drew.heap[y]? = some (.cells (oA kk p c) 40) from HRY.out)
        rw [← HEY.out] at HB1b
        have hrb := (HG.out).rblk
        obtain ⟨a1, cap1, rq1, _, _⟩ := hrb
        have rqd : (W1.drew).heap[q]? = some (.cells (rtA m (.slice a1 L cap1)) 28) := (HB1b.out.block q (by have := HEY.out; omega)).trans rq1
        have hro := (HG.out).troot (HB1b.out) HS.out HHS.out.1 (by have := HHS.out.2; omega)
        obtain ⟨C, eC⟩ : ∃ C, treeV f L (m : Nat) = C := ⟨_, rfl⟩
        have hrr : ∀ X cnx hsx, JK w X t q m L f L f cnx hsx → X.heap[q]? = some (.cells (rtA m (.slice a1 L cap1)) 28) → Calls Tryd.prog 18 #[.agg (rtA m (.slice a1 L cap1))] X fun e w' => e = .returned (.agg (vs .u8 32 C)) ∧ Below X.heap.size X w' := fun X cnx hsx hj hx => by
          obtain ⟨a', cap', hx', hrt, hle⟩ := hj.rblk
          have hinj := hx.symm.trans hx'
          have e1 : Value.slice a1 L cap1 = Value.slice a' L cap' := by
            have := Option.some.inj hinj
            injection this with h1
            unfold rtA at h1
            simpa using h1
          injection e1 with h1 h2 h3
          subst h1 h3
          have hfw := hj.few
          rw [← eC]
          exact rroot6 a1 L cap1 f (m : Nat) X (HC.out.below hj.bel) hrt hle hfw.2.2.2.2 (by omega) (by omega) (by omega)
        rw [eC] at hro
        have HRO := hid hro
        have HRR := hid hrr
        have HRQ := hid rqd
        have HLQ : Hid (∀ X : World, X.heap[q]? = some (.cells (rtA m (.slice a1 L cap1)) 28) → (lv28 ⟨q, 0, none⟩).run Tryd.prog X = .ok (.agg (rtA m (.slice a1 L cap1))) X) := fun X h => lv28_run h
        clear hro hrr rqd rq1 eC
        refine wp_region_noPanic ?_
        refine wp_region_held_drew (S := fun X => X.heap[q]? = some (.cells (rtA m (.slice a1 L cap1)) 28)) (by kernel_rfl) (HRQ.out) (fun hHeld => ?_)
        refine wpAnyH_take (i := 0) (v := ?v38) rfl (by kernel_rfl) (by kernel_rfl) (by kernel_rfl) (fun _ _ _ h => h) (Or.inl ⟨by rfl, ?hy38⟩) hHeld ?rest38
        case hy38 =>
          intro w hSw
          go_simp
          try with_reducible rfl
        try simp only [Act.put, List.setIfInBounds_toArray, List.set_cons_zero, List.set_cons_succ, Array.toArray_toList, List.getElem_toArray, List.getElem_cons_zero, List.getElem_cons_succ]
        refine wpAnyH_take (i := 2) (v := ?v39) rfl (by kernel_rfl) (by kernel_rfl) (by kernel_rfl) (fun _ _ _ h => h) (Or.inl ⟨by rfl, ?hy39⟩) hHeld ?rest39
        case hy39 =>
          intro w hSw
          have ld := HLQ.out _ hSw
          go_simp
          try with_reducible rfl
        try simp only [Act.put, List.setIfInBounds_toArray, List.set_cons_zero, List.set_cons_succ, Array.toArray_toList, List.getElem_toArray, List.getElem_cons_zero, List.getElem_cons_succ]
        refine wpAnyH_ready (rs := [1]) (by kernel_rfl) (by simp) ?_
        refine AllReadyH.cons rfl (fun K hK => ?_) AllReadyH.nil
        go_simp
        refine (HRO.out).mono ?_
        rintro e w2 ⟨rfl, hs2, g1, g2, g3, hj2, st2⟩
        dsimp only
        have hq2 := st2.2.trans HRQ.out
        have HRQ2 := hid hq2
        have hrr2 := HRR.out _ _ _ hj2 hq2
        have HRR2 := hid hrr2
        have HJ2 := hid hj2
        have HG3 := hid (And.intro g1 g3)
        clear hrr2 hq2 hj2 g1 g2 g3 st2
        refine hK.out _ _ (HRQ2.out) (fun hHeld => ?_)
        clear hK K
        try simp only [Act.put, List.setIfInBounds_toArray, List.set_cons_zero, List.set_cons_succ, Array.toArray_toList, List.getElem_toArray, List.getElem_cons_zero, List.getElem_cons_succ]
        refine wpAnyH_ready (rs := [3]) (by kernel_rfl) (by simp) ?_
        refine AllReadyH.cons rfl (fun K hK => ?_) AllReadyH.nil
        go_simp
        refine (HRR2.out).mono ?_
        rintro e X2 ⟨rfl, hb3⟩
        dsimp only
        have HJ := hid (HJ2.out.below hb3)
        refine hK.out _ _ ((hb3.block q HJ2.out.qlt).trans HRQ2.out) (fun hHeld => ?_)
        clear hK K
        try simp only [Act.put, List.setIfInBounds_toArray, List.set_cons_zero, List.set_cons_succ, Array.toArray_toList, List.getElem_toArray, List.getElem_cons_zero, List.getElem_cons_succ]
        refine wpAnyH_take (i := 4) rfl (by kernel_rfl) (by kernel_rfl) (by kernel_rfl) (fun _ _ _ h => h) (yields_neo (by rfl) _ _ _ rfl C C rfl rfl) hHeld ?_
        rw [eqR_self, Bool.not_true]
        try simp only [Act.put, List.setIfInBounds_toArray, List.set_cons_zero, List.set_cons_succ, Array.toArray_toList, List.getElem_toArray, List.getElem_cons_zero, List.getElem_cons_succ]
        refine wpAnyH_done (by kernel_rfl) ?_ _
        refine NoPanic.normal ?_
        clear HRO HRR HRQ HLQ HRQ2 HRR2 HJ2
        have HHS' : Hid (0 ≤ hs2 ∧ hs2 ≤ ((k + 1 : Nat) : Int) * 2147483648) := by
          have := HHS.out
          have := HG3.out
          have := dpt_le m (by omega)
          constructor <;> omega
        clear HHS
        have HHS := HHS'
        obtain ⟨L2, eL2⟩ : ∃ L2, L = L2 := ⟨_, rfl⟩
        rw [eL2] at HJ
        go_upto_region 33 with fail
        have hJ := HJ.out
        obtain ⟨a2, cap2, rq2, _, _⟩ := hJ.rblk
        have cq2 := row_cell (w := X2.drew) rq2 1
        rw [show (rtA m (.slice a2 L2 cap2))[1]? = some (.slice a2 L2 cap2) from rfl] at cq2
        have hlen := (hJ.below (Below.refl _ X2).drew).len
        have HLEN := hid hlen
        have HCQ := hid cq2
        have HJ3 := hid (hJ.below (Below.refl _ X2).drew)
        clear hJ rq2 cq2 hlen HJ
        refine wp_region_noPanic ?_
        refine wp_region_held_drew (S := fun X => X.cell? ⟨q, 1, none⟩ = some (.slice a2 L2 cap2)) (by kernel_rfl) (HCQ.out) (fun hHeld => ?_)
        refine wpAnyH_take (i := 0) (v := ?v40) rfl (by kernel_rfl) (by kernel_rfl) (by kernel_rfl) (fun _ _ _ h => h) (Or.inl ⟨by rfl, ?hy40⟩) hHeld ?rest40
        case hy40 =>
          intro w hSw
          go_simp
          try with_reducible rfl
        try simp only [Act.put, List.setIfInBounds_toArray, List.set_cons_zero, List.set_cons_succ, Array.toArray_toList, List.getElem_toArray, List.getElem_cons_zero, List.getElem_cons_succ]
        refine wpAnyH_take (i := 2) (v := ?v41) rfl (by kernel_rfl) (by kernel_rfl) (by kernel_rfl) (fun _ _ _ h => h) (Or.inl ⟨by rfl, ?hy41⟩) hHeld ?rest41
        case hy41 =>
          intro w hSw
          go_simp
          try with_reducible rfl
        try simp only [Act.put, List.setIfInBounds_toArray, List.set_cons_zero, List.set_cons_succ, Array.toArray_toList, List.getElem_toArray, List.getElem_cons_zero, List.getElem_cons_succ]
        refine wpAnyH_take (i := 3) (v := ?v42) rfl (by kernel_rfl) (by kernel_rfl) (by kernel_rfl) (fun _ _ _ h => h) (Or.inl ⟨by rfl, ?hy42⟩) hHeld ?rest42
        case hy42 =>
          intro w hSw
          have ld := hSw
          go_simp
          try with_reducible rfl
        try simp only [Act.put, List.setIfInBounds_toArray, List.set_cons_zero, List.set_cons_succ, Array.toArray_toList, List.getElem_toArray, List.getElem_cons_zero, List.getElem_cons_succ]
        refine wpAnyH_take (i := 4) (v := ?v43) rfl (by kernel_rfl) (by kernel_rfl) (by kernel_rfl) (fun _ _ _ h => h) (Or.inl ⟨by rfl, ?hy43⟩) hHeld ?rest43
        case hy43 =>
          intro w hSw
          go_simp
          try with_reducible rfl
        try simp only [Act.put, List.setIfInBounds_toArray, List.set_cons_zero, List.set_cons_succ, Array.toArray_toList, List.getElem_toArray, List.getElem_cons_zero, List.getElem_cons_succ]
        refine wpAnyH_ready (rs := [1]) (by kernel_rfl) (by simp) ?_
        refine AllReadyH.cons rfl (fun K hK => ?_) AllReadyH.nil
        go_simp
        refine (HLEN.out).mono ?_
        rintro e w9 ⟨rfl, hw9⟩
        dsimp only
        obtain rfl := hw9.symm
        refine hK.out _ _ (HCQ.out) (fun hHeld => ?_)
        clear hK K
        try simp only [Act.put, List.setIfInBounds_toArray, List.set_cons_zero, List.set_cons_succ, Array.toArray_toList, List.getElem_toArray, List.getElem_cons_zero, List.getElem_cons_succ]
        refine wpAnyH_take (i := 5) (v := ?v44) rfl (by kernel_rfl) (by kernel_rfl) (by kernel_rfl) (fun _ _ _ h => h) (Or.inl ⟨by rfl, ?hy44⟩) hHeld ?rest44
        case hy44 =>
          intro w hSw
          go_simp
          try with_reducible rfl
        try simp only [Act.put, List.setIfInBounds_toArray, List.set_cons_zero, List.set_cons_succ, Array.toArray_toList, List.getElem_toArray, List.getElem_cons_zero, List.getElem_cons_succ]
        refine wpAnyH_done (by kernel_rfl) ?_ _
        refine NoPanic.normal ?_
        go_wp2
        go_roundw
        case rel => exact ⟨k + 1, _, L2, _, _, _, by omega, by omega, by go_num, rfl, HJ3.out, HHS.out.1, by have := HHS.out.2; omega⟩
        case measure => simp [intOf]; omega
      · -- kind 3
        have hkk : (kk.tmod 6 + 6) % 6 = 3 := by have := EKD.out; omega
        clear EKD
        go_upto_region 23 with fail
        clear cy0 hkk x1 x2
        have HB1b := hid (HB1.out.drew)
        have HRYd := hid (show W1.drew.heap[y]? = some (.cells (oA kk p c) 40) from HRY.out)
        rw [← HEY.out] at HB1b
        have hge := (HG.out.below HB1w.out).get p p1 p2
        obtain ⟨V, eV⟩ : ∃ V, getV L f p = V := ⟨_, rfl⟩
        obtain ⟨E, eE⟩ : ∃ E, getE L p = E := ⟨_, rfl⟩
        rw [eV, eE] at hge
        have sv := fun X => sv24_newv X (fun _ => 0) V
        have z := zero_root
        have cy1 := HLP.out _ HRY.out
        have HGE := hid hge
        clear hge
        go_upto_region 24 with (go_at_call 19; refine HGE.out.mono ?_; rintro e w3 ⟨rfl, hb3⟩)
        obtain ⟨X2, hX2⟩ : ∃ X, w3.alloc (.cells (vs .u8 32 V) 33) = X := ⟨_, rfl⟩
        obtain ⟨y2, ey2⟩ : ∃ y, w3.heap.size = y := ⟨_, rfl⟩
        rw [hX2, ey2]
        have hz3 := hb3.size
        have hB2 : Below y wr X2 := by rw [← hX2, ← HEY.out]; exact (HB1.out.trans (hb3.mono (by have := HB1.out.size; have := HEY.out; omega)) |>.mono (by have := HEY.out; omega)).alloc (by have := HB1.out.size; have := HEY.out; omega) _
        have ry2 : X2.heap[y2]? = some (.cells (vs .u8 32 V) 33) := by rw [← hX2, ← ey2]; exact heap_new rfl
        have ryo : X2.heap[y]? = some (.cells (oA kk p c) 40) := by rw [← hX2]; exact (heap_old (by omega)).trans ((hb3.block y zy).trans HRY.out)
        have hJ := HG.out.below (show Below wr.heap.size wr X2 by rw [HEY.out]; exact hB2)
        obtain ⟨a1, cap1, rq1, hrt1, hle1⟩ := hJ.rblk
        have cq1 := row_cell rq1 1
        rw [show (rtA m (.slice a1 L cap1))[1]? = some (.slice a1 L cap1) from rfl] at cq1
        have cp1 := HLP.out _ ryo
        have HJ := hid hJ
        have HRY2 := hid ry2
        have HRYO := hid ryo
        have HRT := hid hrt1
        have HRQ1 := hid rq1
        clear hX2 ey2 hb3 hB2 ry2 ryo hJ rq1 hrt1 sv z cy1 HGE hz3
        have eV' := eV
        unfold getV at eV'
        have EV := hid eV
        clear eV
        by_cases hin : 0 ≤ p ∧ p < (L : Int)
        · obtain ⟨I, eI⟩ : ∃ I : Nat, p = (I : Int) := ⟨p.toNat, by omega⟩
          have hI : I < L := by omega
          rw [if_pos hin] at eV'
          have ee : E = 0 := by rw [← eE]; exact if_pos hin
          subst ee
          subst eI
          rw [Int.toNat_natCast] at eV'
          have d0 : decide ((I : Int) < 0) = false := by simp
          have d1 : decide ((L : Int) ≤ (I : Int)) = false := by simp; omega
          have d2 : decide (L ≤ I) = false := by simp; omega
          clear eE hin
          go_upto_region 27 with fail
          clear d0 d1 d2
          obtain ⟨bx, ox, hx1, hx2, hx3⟩ := (HRT.out.below (Below.refl _ X2).drew).at I hI
          rw [eV'] at hx3
          have l2 := lv24_mid hx3
          have l3 := lv24_run (w := X2.drew) HRY2.out
          have HL2 := hid l2
          have HL3 := hid l3
          have HCQ1 := hid (show X2.drew.cell? ⟨q, 1, none⟩ = some (.slice a1 L cap1) from cq1)
          have HCP1 := hid (show X2.drew.cell? ⟨y, 1, none⟩ = some (.int .i64 I) from cp1)
          clear hx3 l2 l3 cq1 cp1 hx1
          refine wp_region_noPanic ?_
          refine wp_region_held_drew (S := fun X => (lv24 ⟨y2, 0, none⟩).run Tryd.prog X = .ok (.agg (vs .u8 32 V)) X ∧ (lv24 ⟨bx, ox, none⟩).run Tryd.prog X = .ok (.agg (vs .u8 32 V)) X ∧ X.cell? ⟨q, 1, none⟩ = some (.slice a1 L cap1) ∧ X.cell? ⟨y, 1, none⟩ = some (.int .i64 I)) (by kernel_rfl) (⟨HL3.out, HL2.out, HCQ1.out, HCP1.out⟩) (fun hHeld => ?_)
          refine wpAnyH_take (i := 0) (v := ?v45) rfl (by kernel_rfl) (by kernel_rfl) (by kernel_rfl) (fun _ _ _ h => h) (Or.inl ⟨by rfl, ?hy45⟩) hHeld ?rest45
          case hy45 =>
            intro w hSw
            go_simp
            try with_reducible rfl
          try simp only [Act.put, List.setIfInBounds_toArray, List.set_cons_zero, List.set_cons_succ, Array.toArray_toList, List.getElem_toArray, List.getElem_cons_zero, List.getElem_cons_succ]
          refine wpAnyH_take (i := 1) (v := ?v46) rfl (by kernel_rfl) (by kernel_rfl) (by kernel_rfl) (fun _ _ _ h => h) (Or.inl ⟨by rfl, ?hy46⟩) hHeld ?rest46
          case hy46 =>
            intro w hSw
            go_simp
            try with_reducible rfl
          try simp only [Act.put, List.setIfInBounds_toArray, List.set_cons_zero, List.set_cons_succ, Array.toArray_toList, List.getElem_toArray, List.getElem_cons_zero, List.getElem_cons_succ]
          refine wpAnyH_take (i := 2) (v := ?v47) rfl (by kernel_rfl) (by kernel_rfl) (by kernel_rfl) (fun _ _ _ h => h) (Or.inl ⟨by rfl, ?hy47⟩) hHeld ?rest47
          case hy47 =>
            intro w hSw
            go_simp
            try with_reducible rfl
          try simp only [Act.put, List.setIfInBounds_toArray, List.set_cons_zero, List.set_cons_succ, Array.toArray_toList, List.getElem_toArray, List.getElem_cons_zero, List.getElem_cons_succ]
          refine wpAnyH_take (i := 3) (v := ?v48) rfl (by kernel_rfl) (by kernel_rfl) (by kernel_rfl) (fun _ _ _ h => h) (Or.inl ⟨by rfl, ?hy48⟩) hHeld ?rest48
          case hy48 =>
            intro w hSw
            have ld := hSw.1
            go_simp
            try with_reducible rfl
          try simp only [Act.put, List.setIfInBounds_toArray, List.set_cons_zero, List.set_cons_succ, Array.toArray_toList, List.getElem_toArray, List.getElem_cons_zero, List.getElem_cons_succ]
          refine wpAnyH_take (i := 4) (v := ?v49) rfl (by kernel_rfl) (by kernel_rfl) (by kernel_rfl) (fun _ _ _ h => h) (Or.inl ⟨by rfl, ?hy49⟩) hHeld ?rest49
          case hy49 =>
            intro w hSw
            go_simp
            try with_reducible rfl
          try simp only [Act.put, List.setIfInBounds_toArray, List.set_cons_zero, List.set_cons_succ, Array.toArray_toList, List.getElem_toArray, List.getElem_cons_zero, List.getElem_cons_succ]
          refine wpAnyH_take (i := 5) (v := ?v50) rfl (by kernel_rfl) (by kernel_rfl) (by kernel_rfl) (fun _ _ _ h => h) (Or.inl ⟨by rfl, ?hy50⟩) hHeld ?rest50
          case hy50 =>
            intro w hSw
            have ld := hSw.2.2.1
            go_simp
            try with_reducible rfl
          try simp only [Act.put, List.setIfInBounds_toArray, List.set_cons_zero, List.set_cons_succ, Array.toArray_toList, List.getElem_toArray, List.getElem_cons_zero, List.getElem_cons_succ]
          refine wpAnyH_take (i := 6) (v := ?v51) rfl (by kernel_rfl) (by kernel_rfl) (by kernel_rfl) (fun _ _ _ h => h) (Or.inl ⟨by rfl, ?hy51⟩) hHeld ?rest51
          case hy51 =>
            intro w hSw
            go_simp
            try with_reducible rfl
          try simp only [Act.put, List.setIfInBounds_toArray, List.set_cons_zero, List.set_cons_succ, Array.toArray_toList, List.getElem_toArray, List.getElem_cons_zero, List.getElem_cons_succ]
          refine wpAnyH_take (i := 7) (v := ?v52) rfl (by kernel_rfl) (by kernel_rfl) (by kernel_rfl) (fun _ _ _ h => h) (Or.inl ⟨by rfl, ?hy52⟩) hHeld ?rest52
          case hy52 =>
            intro w hSw
            have ld := hSw.2.2.2
            go_simp
            try with_reducible rfl
          try simp only [Act.put, List.setIfInBounds_toArray, List.set_cons_zero, List.set_cons_succ, Array.toArray_toList, List.getElem_toArray, List.getElem_cons_zero, List.getElem_cons_succ]
          refine wpAnyH_take (i := 8) (v := ?v53) rfl (by kernel_rfl) (by kernel_rfl) (by kernel_rfl) (fun _ _ _ h => h) (Or.inl ⟨by rfl, ?hy53⟩) hHeld ?rest53
          case hy53 =>
            intro w hSw
            go_simp
            try with_reducible rfl
          try simp only [Act.put, List.setIfInBounds_toArray, List.set_cons_zero, List.set_cons_succ, Array.toArray_toList, List.getElem_toArray, List.getElem_cons_zero, List.getElem_cons_succ]
          refine wpAnyH_take (i := 9) (v := ?v54) rfl (by kernel_rfl) (by kernel_rfl) (by kernel_rfl) (fun _ _ _ h => h) (Or.inl ⟨by rfl, ?hy54⟩) hHeld ?rest54
          case hy54 =>
            intro w hSw
            have ld := hSw.2.1
            go_simp
            try with_reducible rfl
          try simp only [Act.put, List.setIfInBounds_toArray, List.set_cons_zero, List.set_cons_succ, Array.toArray_toList, List.getElem_toArray, List.getElem_cons_zero, List.getElem_cons_succ]
          refine wpAnyH_take (i := 10) rfl (by kernel_rfl) (by kernel_rfl) (by kernel_rfl) (fun _ _ _ h => h) (yields_neo (by rfl) _ _ _ rfl V V rfl rfl) hHeld ?_
          rw [eqR_self, Bool.not_true]
          try simp only [Act.put, List.setIfInBounds_toArray, List.set_cons_zero, List.set_cons_succ, Array.toArray_toList, List.getElem_toArray, List.getElem_cons_zero, List.getElem_cons_succ]
          refine wpAnyH_take (i := 11) (v := ?v55) rfl (by kernel_rfl) (by kernel_rfl) (by kernel_rfl) (fun _ _ _ h => h) (Or.inl ⟨by rfl, ?hy55⟩) hHeld ?rest55
          case hy55 =>
            intro w hSw
            go_simp
            try with_reducible rfl
          try simp only [Act.put, List.setIfInBounds_toArray, List.set_cons_zero, List.set_cons_succ, Array.toArray_toList, List.getElem_toArray, List.getElem_cons_zero, List.getElem_cons_succ]
          refine wpAnyH_done (by kernel_rfl) ?_ _
          refine NoPanic.normal ?_
          clear HL2 HL3 HCQ1 HCP1 hx2
          have HJd := hid (HJ.out.below (Below.refl _ X2).drew)
          clear HJ HRY2 HRYO HRT HRQ1
          obtain ⟨X3, hX3⟩ : ∃ X, X2.drew = X := ⟨_, rfl⟩
          rw [hX3] at HJd ⊢
          clear hX3
          go_upto_region 33 with fail
          have HJ := HJd
          obtain ⟨L2, eL2⟩ : ∃ L2, L = L2 := ⟨_, rfl⟩
          rw [eL2] at HJ
          clear HJd
          have hJ := HJ.out
          obtain ⟨a2, cap2, rq2, _, _⟩ := hJ.rblk
          have cq2 := row_cell (w := X3.drew) rq2 1
          rw [show (rtA m (.slice a2 L2 cap2))[1]? = some (.slice a2 L2 cap2) from rfl] at cq2
          have hlen := (hJ.below (Below.refl _ X3).drew).len
          have HLEN := hid hlen
          have HCQ := hid cq2
          have HJ3 := hid (hJ.below (Below.refl _ X3).drew)
          clear hJ rq2 cq2 hlen HJ
          refine wp_region_noPanic ?_
          refine wp_region_held_drew (S := fun X => X.cell? ⟨q, 1, none⟩ = some (.slice a2 L2 cap2)) (by kernel_rfl) (HCQ.out) (fun hHeld => ?_)
          refine wpAnyH_take (i := 0) (v := ?v56) rfl (by kernel_rfl) (by kernel_rfl) (by kernel_rfl) (fun _ _ _ h => h) (Or.inl ⟨by rfl, ?hy56⟩) hHeld ?rest56
          case hy56 =>
            intro w hSw
            go_simp
            try with_reducible rfl
          try simp only [Act.put, List.setIfInBounds_toArray, List.set_cons_zero, List.set_cons_succ, Array.toArray_toList, List.getElem_toArray, List.getElem_cons_zero, List.getElem_cons_succ]
          refine wpAnyH_take (i := 2) (v := ?v57) rfl (by kernel_rfl) (by kernel_rfl) (by kernel_rfl) (fun _ _ _ h => h) (Or.inl ⟨by rfl, ?hy57⟩) hHeld ?rest57
          case hy57 =>
            intro w hSw
            go_simp
            try with_reducible rfl
          try simp only [Act.put, List.setIfInBounds_toArray, List.set_cons_zero, List.set_cons_succ, Array.toArray_toList, List.getElem_toArray, List.getElem_cons_zero, List.getElem_cons_succ]
          refine wpAnyH_take (i := 3) (v := ?v58) rfl (by kernel_rfl) (by kernel_rfl) (by kernel_rfl) (fun _ _ _ h => h) (Or.inl ⟨by rfl, ?hy58⟩) hHeld ?rest58
          case hy58 =>
            intro w hSw
            have ld := hSw
            go_simp
            try with_reducible rfl
          try simp only [Act.put, List.setIfInBounds_toArray, List.set_cons_zero, List.set_cons_succ, Array.toArray_toList, List.getElem_toArray, List.getElem_cons_zero, List.getElem_cons_succ]
          refine wpAnyH_take (i := 4) (v := ?v59) rfl (by kernel_rfl) (by kernel_rfl) (by kernel_rfl) (fun _ _ _ h => h) (Or.inl ⟨by rfl, ?hy59⟩) hHeld ?rest59
          case hy59 =>
            intro w hSw
            go_simp
            try with_reducible rfl
          try simp only [Act.put, List.setIfInBounds_toArray, List.set_cons_zero, List.set_cons_succ, Array.toArray_toList, List.getElem_toArray, List.getElem_cons_zero, List.getElem_cons_succ]
          refine wpAnyH_ready (rs := [1]) (by kernel_rfl) (by simp) ?_
          refine AllReadyH.cons rfl (fun K hK => ?_) AllReadyH.nil
          go_simp
          refine (HLEN.out).mono ?_
          rintro e w9 ⟨rfl, hw9⟩
          dsimp only
          obtain rfl := hw9.symm
          refine hK.out _ _ (HCQ.out) (fun hHeld => ?_)
          clear hK K
          try simp only [Act.put, List.setIfInBounds_toArray, List.set_cons_zero, List.set_cons_succ, Array.toArray_toList, List.getElem_toArray, List.getElem_cons_zero, List.getElem_cons_succ]
          refine wpAnyH_take (i := 5) (v := ?v60) rfl (by kernel_rfl) (by kernel_rfl) (by kernel_rfl) (fun _ _ _ h => h) (Or.inl ⟨by rfl, ?hy60⟩) hHeld ?rest60
          case hy60 =>
            intro w hSw
            go_simp
            try with_reducible rfl
          try simp only [Act.put, List.setIfInBounds_toArray, List.set_cons_zero, List.set_cons_succ, Array.toArray_toList, List.getElem_toArray, List.getElem_cons_zero, List.getElem_cons_succ]
          refine wpAnyH_done (by kernel_rfl) ?_ _
          refine NoPanic.normal ?_
          go_wp2
          go_roundw
          case rel => exact ⟨k + 1, _, L2, _, _, _, by omega, by omega, by go_num, rfl, HJ3.out, HHS.out.1, by have := HHS.out.2; omega⟩
          case measure => simp [intOf]; omega
        · by_cases hneg : p < 0
          · have d0 : decide (p < 0) = true := by simp; omega
            rw [if_neg hin] at eV'
            subst eV'
            have l2 := lv24_run HRY2.out
            have b0 := bd27_0
            have nq := fun X => neq6_run X (fun _ => 0) (fun _ => 0)
            rw [eqR_self, Bool.not_true] at nq
            have ee : E = 1 := by rw [← eE]; exact if_neg hin
            subst ee
            clear eE
            go_upto_region 33 with fail
            clear l2 b0 nq
            obtain ⟨L2, eL2⟩ : ∃ L2, L = L2 := ⟨_, rfl⟩
            rw [eL2] at HJ
            have hJ := HJ.out
            obtain ⟨a2, cap2, rq2, _, _⟩ := hJ.rblk
            have cq2 := row_cell (w := X2.drew) rq2 1
            rw [show (rtA m (.slice a2 L2 cap2))[1]? = some (.slice a2 L2 cap2) from rfl] at cq2
            have hlen := (hJ.below (Below.refl _ X2).drew).len
            have HLEN := hid hlen
            have HCQ := hid cq2
            have HJ3 := hid (hJ.below (Below.refl _ X2).drew)
            clear hJ rq2 cq2 hlen HJ
            refine wp_region_noPanic ?_
            refine wp_region_held_drew (S := fun X => X.cell? ⟨q, 1, none⟩ = some (.slice a2 L2 cap2)) (by kernel_rfl) (HCQ.out) (fun hHeld => ?_)
            refine wpAnyH_take (i := 0) (v := ?v61) rfl (by kernel_rfl) (by kernel_rfl) (by kernel_rfl) (fun _ _ _ h => h) (Or.inl ⟨by rfl, ?hy61⟩) hHeld ?rest61
            case hy61 =>
              intro w hSw
              go_simp
              try with_reducible rfl
            try simp only [Act.put, List.setIfInBounds_toArray, List.set_cons_zero, List.set_cons_succ, Array.toArray_toList, List.getElem_toArray, List.getElem_cons_zero, List.getElem_cons_succ]
            refine wpAnyH_take (i := 2) (v := ?v62) rfl (by kernel_rfl) (by kernel_rfl) (by kernel_rfl) (fun _ _ _ h => h) (Or.inl ⟨by rfl, ?hy62⟩) hHeld ?rest62
            case hy62 =>
              intro w hSw
              go_simp
              try with_reducible rfl
            try simp only [Act.put, List.setIfInBounds_toArray, List.set_cons_zero, List.set_cons_succ, Array.toArray_toList, List.getElem_toArray, List.getElem_cons_zero, List.getElem_cons_succ]
            refine wpAnyH_take (i := 3) (v := ?v63) rfl (by kernel_rfl) (by kernel_rfl) (by kernel_rfl) (fun _ _ _ h => h) (Or.inl ⟨by rfl, ?hy63⟩) hHeld ?rest63
            case hy63 =>
              intro w hSw
              have ld := hSw
              go_simp
              try with_reducible rfl
            try simp only [Act.put, List.setIfInBounds_toArray, List.set_cons_zero, List.set_cons_succ, Array.toArray_toList, List.getElem_toArray, List.getElem_cons_zero, List.getElem_cons_succ]
            refine wpAnyH_take (i := 4) (v := ?v64) rfl (by kernel_rfl) (by kernel_rfl) (by kernel_rfl) (fun _ _ _ h => h) (Or.inl ⟨by rfl, ?hy64⟩) hHeld ?rest64
            case hy64 =>
              intro w hSw
              go_simp
              try with_reducible rfl
            try simp only [Act.put, List.setIfInBounds_toArray, List.set_cons_zero, List.set_cons_succ, Array.toArray_toList, List.getElem_toArray, List.getElem_cons_zero, List.getElem_cons_succ]
            refine wpAnyH_ready (rs := [1]) (by kernel_rfl) (by simp) ?_
            refine AllReadyH.cons rfl (fun K hK => ?_) AllReadyH.nil
            go_simp
            refine (HLEN.out).mono ?_
            rintro e w9 ⟨rfl, hw9⟩
            dsimp only
            obtain rfl := hw9.symm
            refine hK.out _ _ (HCQ.out) (fun hHeld => ?_)
            clear hK K
            try simp only [Act.put, List.setIfInBounds_toArray, List.set_cons_zero, List.set_cons_succ, Array.toArray_toList, List.getElem_toArray, List.getElem_cons_zero, List.getElem_cons_succ]
            refine wpAnyH_take (i := 5) (v := ?v65) rfl (by kernel_rfl) (by kernel_rfl) (by kernel_rfl) (fun _ _ _ h => h) (Or.inl ⟨by rfl, ?hy65⟩) hHeld ?rest65
            case hy65 =>
              intro w hSw
              go_simp
              try with_reducible rfl
            try simp only [Act.put, List.setIfInBounds_toArray, List.set_cons_zero, List.set_cons_succ, Array.toArray_toList, List.getElem_toArray, List.getElem_cons_zero, List.getElem_cons_succ]
            refine wpAnyH_done (by kernel_rfl) ?_ _
            refine NoPanic.normal ?_
            go_wp2
            go_roundw
            case rel => exact ⟨k + 1, _, L2, _, _, _, by omega, by omega, by go_num, rfl, HJ3.out, HHS.out.1, by have := HHS.out.2; omega⟩
            case measure => simp [intOf]; omega
          · have d0 : decide (p < 0) = false := by simp; omega
            have d1 : decide ((L : Int) ≤ p) = true := by
              have : ¬ p < (L : Int) := fun h => hin ⟨by omega, h⟩
              simp; omega
            rw [if_neg hin] at eV'
            subst eV'
            have l2 := lv24_run HRY2.out
            have b0 := bd27_0
            have nq := fun X => neq6_run X (fun _ => 0) (fun _ => 0)
            rw [eqR_self, Bool.not_true] at nq
            have ee : E = 1 := by rw [← eE]; exact if_neg hin
            subst ee
            clear eE
            go_upto_region 33 with fail
            clear l2 b0 nq
            obtain ⟨L2, eL2⟩ : ∃ L2, L = L2 := ⟨_, rfl⟩
            rw [eL2] at HJ
            have hJ := HJ.out
            obtain ⟨a2, cap2, rq2, _, _⟩ := hJ.rblk
            have cq2 := row_cell (w := X2.drew) rq2 1
            rw [show (rtA m (.slice a2 L2 cap2))[1]? = some (.slice a2 L2 cap2) from rfl] at cq2
            have hlen := (hJ.below (Below.refl _ X2).drew).len
            have HLEN := hid hlen
            have HCQ := hid cq2
            have HJ3 := hid (hJ.below (Below.refl _ X2).drew)
            clear hJ rq2 cq2 hlen HJ
            refine wp_region_noPanic ?_
            refine wp_region_held_drew (S := fun X => X.cell? ⟨q, 1, none⟩ = some (.slice a2 L2 cap2)) (by kernel_rfl) (HCQ.out) (fun hHeld => ?_)
            refine wpAnyH_take (i := 0) (v := ?v66) rfl (by kernel_rfl) (by kernel_rfl) (by kernel_rfl) (fun _ _ _ h => h) (Or.inl ⟨by rfl, ?hy66⟩) hHeld ?rest66
            case hy66 =>
              intro w hSw
              go_simp
              try with_reducible rfl
            try simp only [Act.put, List.setIfInBounds_toArray, List.set_cons_zero, List.set_cons_succ, Array.toArray_toList, List.getElem_toArray, List.getElem_cons_zero, List.getElem_cons_succ]
            refine wpAnyH_take (i := 2) (v := ?v67) rfl (by kernel_rfl) (by kernel_rfl) (by kernel_rfl) (fun _ _ _ h => h) (Or.inl ⟨by rfl, ?hy67⟩) hHeld ?rest67
            case hy67 =>
              intro w hSw
              go_simp
              try with_reducible rfl
            try simp only [Act.put, List.setIfInBounds_toArray, List.set_cons_zero, List.set_cons_succ, Array.toArray_toList, List.getElem_toArray, List.getElem_cons_zero, List.getElem_cons_succ]
            refine wpAnyH_take (i := 3) (v := ?v68) rfl (by kernel_rfl) (by kernel_rfl) (by kernel_rfl) (fun _ _ _ h => h) (Or.inl ⟨by rfl, ?hy68⟩) hHeld ?rest68
            case hy68 =>
              intro w hSw
              have ld := hSw
              go_simp
              try with_reducible rfl
            try simp only [Act.put, List.setIfInBounds_toArray, List.set_cons_zero, List.set_cons_succ, Array.toArray_toList, List.getElem_toArray, List.getElem_cons_zero, List.getElem_cons_succ]
            refine wpAnyH_take (i := 4) (v := ?v69) rfl (by kernel_rfl) (by kernel_rfl) (by kernel_rfl) (fun _ _ _ h => h) (Or.inl ⟨by rfl, ?hy69⟩) hHeld ?rest69
            case hy69 =>
              intro w hSw
              go_simp
              try with_reducible rfl
            try simp only [Act.put, List.setIfInBounds_toArray, List.set_cons_zero, List.set_cons_succ, Array.toArray_toList, List.getElem_toArray, List.getElem_cons_zero, List.getElem_cons_succ]
            refine wpAnyH_ready (rs := [1]) (by kernel_rfl) (by simp) ?_
            refine AllReadyH.cons rfl (fun K hK => ?_) AllReadyH.nil
            go_simp
            refine (HLEN.out).mono ?_
            rintro e w9 ⟨rfl, hw9⟩
            dsimp only
            obtain rfl := hw9.symm
            refine hK.out _ _ (HCQ.out) (fun hHeld => ?_)
            clear hK K
            try simp only [Act.put, List.setIfInBounds_toArray, List.set_cons_zero, List.set_cons_succ, Array.toArray_toList, List.getElem_toArray, List.getElem_cons_zero, List.getElem_cons_succ]
            refine wpAnyH_take (i := 5) (v := ?v70) rfl (by kernel_rfl) (by kernel_rfl) (by kernel_rfl) (fun _ _ _ h => h) (Or.inl ⟨by rfl, ?hy70⟩) hHeld ?rest70
            case hy70 =>
              intro w hSw
              go_simp
              try with_reducible rfl
            try simp only [Act.put, List.setIfInBounds_toArray, List.set_cons_zero, List.set_cons_succ, Array.toArray_toList, List.getElem_toArray, List.getElem_cons_zero, List.getElem_cons_succ]
            refine wpAnyH_done (by kernel_rfl) ?_ _
            refine NoPanic.normal ?_
            go_wp2
            go_roundw
            case rel => exact ⟨k + 1, _, L2, _, _, _, by omega, by omega, by go_num, rfl, HJ3.out, HHS.out.1, by have := HHS.out.2; omega⟩
            case measure => simp [intOf]; omega
      · -- kind 4
        have hkk : (kk.tmod 6 + 6) % 6 = 4 := by have := EKD.out; omega
        clear EKD
        go_upto_region 30 with fail
        clear cy0 hkk x1 x2
        have HB1b := hid (HB1.out.drew)
        have HRYd := hid (show W1.drew.heap[y]? = some (.cells (oA kk p c) 40) from HRY.out)
        rw [← HEY.out] at HB1b
        have hcp := (HG.out.below HB1w.out).tcopy
        obtain ⟨t2, et2⟩ : ∃ t2, W1.heap.size = t2 := ⟨_, rfl⟩
        rw [et2] at hcp
        have HCP := hid hcp
        clear hcp et2
        go_upto_region 33 with (go_at_call 13; refine HCP.out.mono ?_; rintro e X2 ⟨rfl, hb3, hj3⟩)
        have HJ := hid hj3
        clear hj3 hb3 HCP
        have HHS' : Hid ((0 : Int) ≤ 0 ∧ (0 : Int) ≤ ((k : Nat) : Int) * 2147483648) := by
          constructor <;> omega
        clear HHS
        have HHS := HHS'
        obtain ⟨L2, eL2⟩ : ∃ L2, L = L2 := ⟨_, rfl⟩
        rw [eL2] at HJ
        have hJ := HJ.out
        obtain ⟨a2, cap2, rq2, _, _⟩ := hJ.rblk
        have cq2 := row_cell (w := X2.drew) rq2 1
        rw [show (rtA m (.slice a2 L2 cap2))[1]? = some (.slice a2 L2 cap2) from rfl] at cq2
        have hlen := (hJ.below (Below.refl _ X2).drew).len
        have HLEN := hid hlen
        have HCQ := hid cq2
        have HJ3 := hid (hJ.below (Below.refl _ X2).drew)
        clear hJ rq2 cq2 hlen HJ
        refine wp_region_noPanic ?_
        refine wp_region_held_drew (S := fun X => X.cell? ⟨q, 1, none⟩ = some (.slice a2 L2 cap2)) (by kernel_rfl) (HCQ.out) (fun hHeld => ?_)
        refine wpAnyH_take (i := 0) (v := ?v71) rfl (by kernel_rfl) (by kernel_rfl) (by kernel_rfl) (fun _ _ _ h => h) (Or.inl ⟨by rfl, ?hy71⟩) hHeld ?rest71
        case hy71 =>
          intro w hSw
          go_simp
          try with_reducible rfl
        try simp only [Act.put, List.setIfInBounds_toArray, List.set_cons_zero, List.set_cons_succ, Array.toArray_toList, List.getElem_toArray, List.getElem_cons_zero, List.getElem_cons_succ]
        refine wpAnyH_take (i := 2) (v := ?v72) rfl (by kernel_rfl) (by kernel_rfl) (by kernel_rfl) (fun _ _ _ h => h) (Or.inl ⟨by rfl, ?hy72⟩) hHeld ?rest72
        case hy72 =>
          intro w hSw
          go_simp
          try with_reducible rfl
        try simp only [Act.put, List.setIfInBounds_toArray, List.set_cons_zero, List.set_cons_succ, Array.toArray_toList, List.getElem_toArray, List.getElem_cons_zero, List.getElem_cons_succ]
        refine wpAnyH_take (i := 3) (v := ?v73) rfl (by kernel_rfl) (by kernel_rfl) (by kernel_rfl) (fun _ _ _ h => h) (Or.inl ⟨by rfl, ?hy73⟩) hHeld ?rest73
        case hy73 =>
          intro w hSw
          have ld := hSw
          go_simp
          try with_reducible rfl
        try simp only [Act.put, List.setIfInBounds_toArray, List.set_cons_zero, List.set_cons_succ, Array.toArray_toList, List.getElem_toArray, List.getElem_cons_zero, List.getElem_cons_succ]
        refine wpAnyH_take (i := 4) (v := ?v74) rfl (by kernel_rfl) (by kernel_rfl) (by kernel_rfl) (fun _ _ _ h => h) (Or.inl ⟨by rfl, ?hy74⟩) hHeld ?rest74
        case hy74 =>
          intro w hSw
          go_simp
          try with_reducible rfl
        try simp only [Act.put, List.setIfInBounds_toArray, List.set_cons_zero, List.set_cons_succ, Array.toArray_toList, List.getElem_toArray, List.getElem_cons_zero, List.getElem_cons_succ]
        refine wpAnyH_ready (rs := [1]) (by kernel_rfl) (by simp) ?_
        refine AllReadyH.cons rfl (fun K hK => ?_) AllReadyH.nil
        go_simp
        refine (HLEN.out).mono ?_
        rintro e w9 ⟨rfl, hw9⟩
        dsimp only
        obtain rfl := hw9.symm
        refine hK.out _ _ (HCQ.out) (fun hHeld => ?_)
        clear hK K
        try simp only [Act.put, List.setIfInBounds_toArray, List.set_cons_zero, List.set_cons_succ, Array.toArray_toList, List.getElem_toArray, List.getElem_cons_zero, List.getElem_cons_succ]
        refine wpAnyH_take (i := 5) (v := ?v75) rfl (by kernel_rfl) (by kernel_rfl) (by kernel_rfl) (fun _ _ _ h => h) (Or.inl ⟨by rfl, ?hy75⟩) hHeld ?rest75
        case hy75 =>
          intro w hSw
          go_simp
          try with_reducible rfl
        try simp only [Act.put, List.setIfInBounds_toArray, List.set_cons_zero, List.set_cons_succ, Array.toArray_toList, List.getElem_toArray, List.getElem_cons_zero, List.getElem_cons_succ]
        refine wpAnyH_done (by kernel_rfl) ?_ _
        refine NoPanic.normal ?_
        go_wp2
        go_roundw
        case rel => exact ⟨k + 1, _, L2, _, _, _, by omega, by omega, by go_num, rfl, HJ3.out, HHS.out.1, by have := HHS.out.2; omega⟩
        case measure => simp [intOf]; omega
      · -- kind 5
        have hkk : (kk.tmod 6 + 6) % 6 = 5 := by have := EKD.out; omega
        clear EKD
        go_upto_region 14 with fail
        clear cy0 hkk x1 x2
        have HB1b := hid (HB1.out.drew)
        have HRYd := hid (show W1.drew.heap[y]? = some (.cells (oA kk p c) 40) from HRY.out)
        rw [← HEY.out] at HB1b
        have hts := (HG.out).tapp (HB1b.out) c HCB.out
        obtain ⟨E, eE⟩ : ∃ E, appE m L = E := ⟨_, rfl⟩
        rw [eE] at hts
        have EE := hid eE
        have HTS := hid hts
        clear hts eE
        refine wp_region_noPanic ?_
        refine wp_region_held_drew (S := fun X => X.heap[y]? = some (.cells (oA kk p c) 40)) (by kernel_rfl) (HRYd.out) (fun hHeld => ?_)
        refine wpAnyH_take (i := 0) (v := ?v76) rfl (by kernel_rfl) (by kernel_rfl) (by kernel_rfl) (fun _ _ _ h => h) (Or.inl ⟨by rfl, ?hy76⟩) hHeld ?rest76
        case hy76 =>
          intro w hSw
          go_simp
          try with_reducible rfl
        try simp only [Act.put, List.setIfInBounds_toArray, List.set_cons_zero, List.set_cons_succ, Array.toArray_toList, List.getElem_toArray, List.getElem_cons_zero, List.getElem_cons_succ]
        refine wpAnyH_take (i := 1) (v := ?v77) rfl (by kernel_rfl) (by kernel_rfl) (by kernel_rfl) (fun _ _ _ h => h) (Or.inl ⟨by rfl, ?hy77⟩) hHeld ?rest77
        case hy77 =>
          intro w hSw
          go_simp
          try with_reducible rfl
        try simp only [Act.put, List.setIfInBounds_toArray, List.set_cons_zero, List.set_cons_succ, Array.toArray_toList, List.getElem_toArray, List.getElem_cons_zero, List.getElem_cons_succ]
        refine wpAnyH_take (i := 2) (v := ?v78) rfl (by kernel_rfl) (by kernel_rfl) (by kernel_rfl) (fun _ _ _ h => h) (Or.inl ⟨by rfl, ?hy78⟩) hHeld ?rest78
        case hy78 =>
          intro w hSw
          have ld := HLC.out _ hSw
          go_simp
          try with_reducible rfl
        try simp only [Act.put, List.setIfInBounds_toArray, List.set_cons_zero, List.set_cons_succ, Array.toArray_toList, List.getElem_toArray, List.getElem_cons_zero, List.getElem_cons_succ]
        refine wpAnyH_take (i := 4) (v := ?v79) rfl (by kernel_rfl) (by kernel_rfl) (by kernel_rfl) (fun _ _ _ h => h) (Or.inl ⟨by rfl, ?hy79⟩) hHeld ?rest79
        case hy79 =>
          intro w hSw
          go_simp
          try with_reducible rfl
        try simp only [Act.put, List.setIfInBounds_toArray, List.set_cons_zero, List.set_cons_succ, Array.toArray_toList, List.getElem_toArray, List.getElem_cons_zero, List.getElem_cons_succ]
        refine wpAnyH_take (i := 5) (v := ?v80) rfl (by kernel_rfl) (by kernel_rfl) (by kernel_rfl) (fun _ _ _ h => h) (Or.inl ⟨by rfl, ?hy80⟩) hHeld ?rest80
        case hy80 =>
          intro w hSw
          have ld := HLC.out _ hSw
          go_simp
          try with_reducible rfl
        try simp only [Act.put, List.setIfInBounds_toArray, List.set_cons_zero, List.set_cons_succ, Array.toArray_toList, List.getElem_toArray, List.getElem_cons_zero, List.getElem_cons_succ]
        refine wpAnyH_ready (rs := [3]) (by kernel_rfl) (by simp) ?_
        refine AllReadyH.cons rfl (fun K hK => ?_) AllReadyH.nil
        go_simp
        refine (HTS.out).mono ?_
        rintro e w2 ⟨rfl, cn2, hcn2, hj2, hs2⟩
        dsimp only
        have S2 := hid (HST.out _ _ hs2.1 HRYd.out)
        have hrs := hj2.rapp hLm c
        rw [EE.out] at hrs
        have HRS := hid hrs
        clear hrs hj2 hs2
        refine hK.out _ _ (S2.out) (fun hHeld => ?_)
        clear hK K
        try simp only [Act.put, List.setIfInBounds_toArray, List.set_cons_zero, List.set_cons_succ, Array.toArray_toList, List.getElem_toArray, List.getElem_cons_zero, List.getElem_cons_succ]
        refine wpAnyH_ready (rs := [6]) (by kernel_rfl) (by simp) ?_
        refine AllReadyH.cons rfl (fun K hK => ?_) AllReadyH.nil
        go_simp
        refine (HRS.out).mono ?_
        rintro e X2 ⟨rfl, hj3, hs3⟩
        dsimp only
        have HJ := hid hj3
        clear hj3
        refine hK.out _ _ (HSQ.out _ _ hs3 S2.out) (fun hHeld => ?_)
        clear hK K
        try simp only [Act.put, List.setIfInBounds_toArray, List.set_cons_zero, List.set_cons_succ, Array.toArray_toList, List.getElem_toArray, List.getElem_cons_zero, List.getElem_cons_succ]
        refine wpAnyH_take (i := 7) (v := ?v81) rfl (by kernel_rfl) (by kernel_rfl) (by kernel_rfl) (fun _ _ _ h => h) (Or.inl ⟨by rfl, ?hy81⟩) hHeld ?rest81
        case hy81 =>
          intro w hSw
          go_simp
          try with_reducible rfl
        try simp only [Act.put, List.setIfInBounds_toArray, List.set_cons_zero, List.set_cons_succ, Array.toArray_toList, List.getElem_toArray, List.getElem_cons_zero, List.getElem_cons_succ]
        refine wpAnyH_done (by kernel_rfl) ?_ _
        refine NoPanic.normal ?_
        clear HTS HRS S2
        obtain ⟨L2, eL2⟩ : ∃ L2, appL m L = L2 := ⟨_, rfl⟩
        rw [eL2] at HJ
        go_upto_region 33 with fail
        have hJ := HJ.out
        obtain ⟨a2, cap2, rq2, _, _⟩ := hJ.rblk
        have cq2 := row_cell (w := X2.drew) rq2 1
        rw [show (rtA m (.slice a2 L2 cap2))[1]? = some (.slice a2 L2 cap2) from rfl] at cq2
        have hlen := (hJ.below (Below.refl _ X2).drew).len
        have HLEN := hid hlen
        have HCQ := hid cq2
        have HJ3 := hid (hJ.below (Below.refl _ X2).drew)
        clear hJ rq2 cq2 hlen HJ
        refine wp_region_noPanic ?_
        refine wp_region_held_drew (S := fun X => X.cell? ⟨q, 1, none⟩ = some (.slice a2 L2 cap2)) (by kernel_rfl) (HCQ.out) (fun hHeld => ?_)
        refine wpAnyH_take (i := 0) (v := ?v82) rfl (by kernel_rfl) (by kernel_rfl) (by kernel_rfl) (fun _ _ _ h => h) (Or.inl ⟨by rfl, ?hy82⟩) hHeld ?rest82
        case hy82 =>
          intro w hSw
          go_simp
          try with_reducible rfl
        try simp only [Act.put, List.setIfInBounds_toArray, List.set_cons_zero, List.set_cons_succ, Array.toArray_toList, List.getElem_toArray, List.getElem_cons_zero, List.getElem_cons_succ]
        refine wpAnyH_take (i := 2) (v := ?v83) rfl (by kernel_rfl) (by kernel_rfl) (by kernel_rfl) (fun _ _ _ h => h) (Or.inl ⟨by rfl, ?hy83⟩) hHeld ?rest83
        case hy83 =>
          intro w hSw
          go_simp
          try with_reducible rfl
        try simp only [Act.put, List.setIfInBounds_toArray, List.set_cons_zero, List.set_cons_succ, Array.toArray_toList, List.getElem_toArray, List.getElem_cons_zero, List.getElem_cons_succ]
        refine wpAnyH_take (i := 3) (v := ?v84) rfl (by kernel_rfl) (by kernel_rfl) (by kernel_rfl) (fun _ _ _ h => h) (Or.inl ⟨by rfl, ?hy84⟩) hHeld ?rest84
        case hy84 =>
          intro w hSw
          have ld := hSw
          go_simp
          try with_reducible rfl
        try simp only [Act.put, List.setIfInBounds_toArray, List.set_cons_zero, List.set_cons_succ, Array.toArray_toList, List.getElem_toArray, List.getElem_cons_zero, List.getElem_cons_succ]
        refine wpAnyH_take (i := 4) (v := ?v85) rfl (by kernel_rfl) (by kernel_rfl) (by kernel_rfl) (fun _ _ _ h => h) (Or.inl ⟨by rfl, ?hy85⟩) hHeld ?rest85
        case hy85 =>
          intro w hSw
          go_simp
          try with_reducible rfl
        try simp only [Act.put, List.setIfInBounds_toArray, List.set_cons_zero, List.set_cons_succ, Array.toArray_toList, List.getElem_toArray, List.getElem_cons_zero, List.getElem_cons_succ]
        refine wpAnyH_ready (rs := [1]) (by kernel_rfl) (by simp) ?_
        refine AllReadyH.cons rfl (fun K hK => ?_) AllReadyH.nil
        go_simp
        refine (HLEN.out).mono ?_
        rintro e w9 ⟨rfl, hw9⟩
        dsimp only
        obtain rfl := hw9.symm
        refine hK.out _ _ (HCQ.out) (fun hHeld => ?_)
        clear hK K
        try simp only [Act.put, List.setIfInBounds_toArray, List.set_cons_zero, List.set_cons_succ, Array.toArray_toList, List.getElem_toArray, List.getElem_cons_zero, List.getElem_cons_succ]
        refine wpAnyH_take (i := 5) (v := ?v86) rfl (by kernel_rfl) (by kernel_rfl) (by kernel_rfl) (fun _ _ _ h => h) (Or.inl ⟨by rfl, ?hy86⟩) hHeld ?rest86
        case hy86 =>
          intro w hSw
          go_simp
          try with_reducible rfl
        try simp only [Act.put, List.setIfInBounds_toArray, List.set_cons_zero, List.set_cons_succ, Array.toArray_toList, List.getElem_toArray, List.getElem_cons_zero, List.getElem_cons_succ]
        refine wpAnyH_done (by kernel_rfl) ?_ _
        refine NoPanic.normal ?_
        go_wp2
        go_roundw
        case rel => exact ⟨k + 1, _, L2, _, _, _, by omega, by omega, by go_num, rfl, HJ3.out, HHS.out.1, by have := HHS.out.2; omega⟩
        case measure => simp [intOf]; omega
    · have HG := hid hg
      have HB1b : Hid (Below wr.heap.size wr wr.drew) := (Below.refl _ _).drew
      have hcase : (¬ k < len) ∨ (k < len ∧ ¬ k < 100) := by omega
      clear hg hlt
      rcases hcase with hc | ⟨hc1, hc2⟩
      · have b1 : decide (k < len) = false := by simp; omega
        have b2 : decide ((k : Int) < (len : Int)) = false := by simp; omega
        go_upto_region 35 with fail
        have hrb := (HG.out).rblk
        obtain ⟨a1, cap1, rq1, _, _⟩ := hrb
        have rqd : (wr.drew).heap[q]? = some (.cells (rtA m (.slice a1 L cap1)) 28) := rq1
        have hro := (HG.out).troot (HB1b.out) HS.out HHS.out.1 (by have := HHS.out.2; omega)
        obtain ⟨C, eC⟩ : ∃ C, treeV f L (m : Nat) = C := ⟨_, rfl⟩
        have hrr : ∀ X cnx hsx, JK w X t q m L f L f cnx hsx → X.heap[q]? = some (.cells (rtA m (.slice a1 L cap1)) 28) → Calls Tryd.prog 18 #[.agg (rtA m (.slice a1 L cap1))] X fun e w' => e = .returned (.agg (vs .u8 32 C)) ∧ Below X.heap.size X w' := fun X cnx hsx hj hx => by
          obtain ⟨a', cap', hx', hrt, hle⟩ := hj.rblk
          have hinj := hx.symm.trans hx'
          have e1 : Value.slice a1 L cap1 = Value.slice a' L cap' := by
            have := Option.some.inj hinj
            injection this with h1
            unfold rtA at h1
            simpa using h1
          injection e1 with h1 h2 h3
          subst h1 h3
          have hfw := hj.few
          rw [← eC]
          exact rroot6 a1 L cap1 f (m : Nat) X (HC.out.below hj.bel) hrt hle hfw.2.2.2.2 (by omega) (by omega) (by omega)
        rw [eC] at hro
        have HRO := hid hro
        have HRR := hid hrr
        have HRQ := hid rqd
        have HLQ : Hid (∀ X : World, X.heap[q]? = some (.cells (rtA m (.slice a1 L cap1)) 28) → (lv28 ⟨q, 0, none⟩).run Tryd.prog X = .ok (.agg (rtA m (.slice a1 L cap1))) X) := fun X h => lv28_run h
        clear hro hrr rqd rq1 eC
        refine wp_region_noPanic ?_
        refine wp_region_held_drew (S := fun X => X.heap[q]? = some (.cells (rtA m (.slice a1 L cap1)) 28)) (by kernel_rfl) (HRQ.out) (fun hHeld => ?_)
        refine wpAnyH_take (i := 0) (v := ?v87) rfl (by kernel_rfl) (by kernel_rfl) (by kernel_rfl) (fun _ _ _ h => h) (Or.inl ⟨by rfl, ?hy87⟩) hHeld ?rest87
        case hy87 =>
          intro w hSw
          go_simp
          try with_reducible rfl
        try simp only [Act.put, List.setIfInBounds_toArray, List.set_cons_zero, List.set_cons_succ, Array.toArray_toList, List.getElem_toArray, List.getElem_cons_zero, List.getElem_cons_succ]
        refine wpAnyH_take (i := 2) (v := ?v88) rfl (by kernel_rfl) (by kernel_rfl) (by kernel_rfl) (fun _ _ _ h => h) (Or.inl ⟨by rfl, ?hy88⟩) hHeld ?rest88
        case hy88 =>
          intro w hSw
          have ld := HLQ.out _ hSw
          go_simp
          try with_reducible rfl
        try simp only [Act.put, List.setIfInBounds_toArray, List.set_cons_zero, List.set_cons_succ, Array.toArray_toList, List.getElem_toArray, List.getElem_cons_zero, List.getElem_cons_succ]
        refine wpAnyH_ready (rs := [1]) (by kernel_rfl) (by simp) ?_
        refine AllReadyH.cons rfl (fun K hK => ?_) AllReadyH.nil
        go_simp
        refine (HRO.out).mono ?_
        rintro e w2 ⟨rfl, hs2, g1, g2, g3, hj2, st2⟩
        dsimp only
        have hq2 := st2.2.trans HRQ.out
        have HRQ2 := hid hq2
        have hrr2 := HRR.out _ _ _ hj2 hq2
        have HRR2 := hid hrr2
        have HJ2 := hid hj2
        clear hrr2 hq2 hj2 g1 g2 g3 st2
        refine hK.out _ _ (HRQ2.out) (fun hHeld => ?_)
        clear hK K
        try simp only [Act.put, List.setIfInBounds_toArray, List.set_cons_zero, List.set_cons_succ, Array.toArray_toList, List.getElem_toArray, List.getElem_cons_zero, List.getElem_cons_succ]
        refine wpAnyH_ready (rs := [3]) (by kernel_rfl) (by simp) ?_
        refine AllReadyH.cons rfl (fun K hK => ?_) AllReadyH.nil
        go_simp
        refine (HRR2.out).mono ?_
        rintro e X2 ⟨rfl, hb3⟩
        dsimp only
        have HJ := hid (HJ2.out.below hb3)
        refine hK.out _ _ ((hb3.block q HJ2.out.qlt).trans HRQ2.out) (fun hHeld => ?_)
        clear hK K
        try simp only [Act.put, List.setIfInBounds_toArray, List.set_cons_zero, List.set_cons_succ, Array.toArray_toList, List.getElem_toArray, List.getElem_cons_zero, List.getElem_cons_succ]
        refine wpAnyH_take (i := 4) rfl (by kernel_rfl) (by kernel_rfl) (by kernel_rfl) (fun _ _ _ h => h) (yields_eqo (by rfl) _ _ _ rfl C C rfl rfl) hHeld ?_
        rw [eqR_self]
        try simp only [Act.put, List.setIfInBounds_toArray, List.set_cons_zero, List.set_cons_succ, Array.toArray_toList, List.getElem_toArray, List.getElem_cons_zero, List.getElem_cons_succ]
        refine wpAnyH_take (i := 5) (v := ?v89) rfl (by kernel_rfl) (by kernel_rfl) (by kernel_rfl) (fun _ _ _ h => h) (Or.inl ⟨by rfl, ?hy89⟩) hHeld ?rest89
        case hy89 =>
          intro w hSw
          go_simp
          try with_reducible rfl
        try simp only [Act.put, List.setIfInBounds_toArray, List.set_cons_zero, List.set_cons_succ, Array.toArray_toList, List.getElem_toArray, List.getElem_cons_zero, List.getElem_cons_succ]
        refine wpAnyH_done (by kernel_rfl) ?_ _
        refine NoPanic.normal ?_
        go_wp2
        go_ret
        exact ⟨rfl, HJ.out.bel⟩
      · have b1 : decide (k < len) = true := by simp; omega
        have b2 : decide ((k : Int) < (len : Int)) = true := by simp; omega
        have b3 : decide (k < 100) = false := by simp; omega
        have b4 : decide ((k : Int) < 100) = false := by simp; omega
        go_upto_region 35 with fail
        have hrb := (HG.out).rblk
        obtain ⟨a1, cap1, rq1, _, _⟩ := hrb
        have rqd : (wr.drew).heap[q]? = some (.cells (rtA m (.slice a1 L cap1)) 28) := rq1
        have hro := (HG.out).troot (HB1b.out) HS.out HHS.out.1 (by have := HHS.out.2; omega)
        obtain ⟨C, eC⟩ : ∃ C, treeV f L (m : Nat) = C := ⟨_, rfl⟩
        have hrr : ∀ X cnx hsx, JK w X t q m L f L f cnx hsx → X.heap[q]? = some (.cells (rtA m (.slice a1 L cap1)) 28) → Calls Tryd.prog 18 #[.agg (rtA m (.slice a1 L cap1))] X fun e w' => e = .returned (.agg (vs .u8 32 C)) ∧ Below X.heap.size X w' := fun X cnx hsx hj hx => by
          obtain ⟨a', cap', hx', hrt, hle⟩ := hj.rblk
          have hinj := hx.symm.trans hx'
          have e1 : Value.slice a1 L cap1 = Value.slice a' L cap' := by
            have := Option.some.inj hinj
            injection this with h1
            unfold rtA at h1
            simpa using h1
          injection e1 with h1 h2 h3
          subst h1 h3
          have hfw := hj.few
          rw [← eC]
          exact rroot6 a1 L cap1 f (m : Nat) X (HC.out.below hj.bel) hrt hle hfw.2.2.2.2 (by omega) (by omega) (by omega)
        rw [eC] at hro
        have HRO := hid hro
        have HRR := hid hrr
        have HRQ := hid rqd
        have HLQ : Hid (∀ X : World, X.heap[q]? = some (.cells (rtA m (.slice a1 L cap1)) 28) → (lv28 ⟨q, 0, none⟩).run Tryd.prog X = .ok (.agg (rtA m (.slice a1 L cap1))) X) := fun X h => lv28_run h
        clear hro hrr rqd rq1 eC
        refine wp_region_noPanic ?_
        refine wp_region_held_drew (S := fun X => X.heap[q]? = some (.cells (rtA m (.slice a1 L cap1)) 28)) (by kernel_rfl) (HRQ.out) (fun hHeld => ?_)
        refine wpAnyH_take (i := 0) (v := ?v90) rfl (by kernel_rfl) (by kernel_rfl) (by kernel_rfl) (fun _ _ _ h => h) (Or.inl ⟨by rfl, ?hy90⟩) hHeld ?rest90
        case hy90 =>
          intro w hSw
          go_simp
          try with_reducible rfl
        try simp only [Act.put, List.setIfInBounds_toArray, List.set_cons_zero, List.set_cons_succ, Array.toArray_toList, List.getElem_toArray, List.getElem_cons_zero, List.getElem_cons_succ]
        refine wpAnyH_take (i := 2) (v := ?v91) rfl (by kernel_rfl) (by kernel_rfl) (by kernel_rfl) (fun _ _ _ h => h) (Or.inl ⟨by rfl, ?hy91⟩) hHeld ?rest91
        case hy91 =>
          intro w hSw
          have ld := HLQ.out _ hSw
          go_simp
          try with_reducible rfl
        try simp only [Act.put, List.setIfInBounds_toArray, List.set_cons_zero, List.set_cons_succ, Array.toArray_toList, List.getElem_toArray, List.getElem_cons_zero, List.getElem_cons_succ]
        refine wpAnyH_ready (rs := [1]) (by kernel_rfl) (by simp) ?_
        refine AllReadyH.cons rfl (fun K hK => ?_) AllReadyH.nil
        go_simp
        refine (HRO.out).mono ?_
        rintro e w2 ⟨rfl, hs2, g1, g2, g3, hj2, st2⟩
        dsimp only
        have hq2 := st2.2.trans HRQ.out
        have HRQ2 := hid hq2
        have hrr2 := HRR.out _ _ _ hj2 hq2
        have HRR2 := hid hrr2
        have HJ2 := hid hj2
        clear hrr2 hq2 hj2 g1 g2 g3 st2
        refine hK.out _ _ (HRQ2.out) (fun hHeld => ?_)
        clear hK K
        try simp only [Act.put, List.setIfInBounds_toArray, List.set_cons_zero, List.set_cons_succ, Array.toArray_toList, List.getElem_toArray, List.getElem_cons_zero, List.getElem_cons_succ]
        refine wpAnyH_ready (rs := [3]) (by kernel_rfl) (by simp) ?_
        refine AllReadyH.cons rfl (fun K hK => ?_) AllReadyH.nil
        go_simp
        refine (HRR2.out).mono ?_
        rintro e X2 ⟨rfl, hb3⟩
        dsimp only
        have HJ := hid (HJ2.out.below hb3)
        refine hK.out _ _ ((hb3.block q HJ2.out.qlt).trans HRQ2.out) (fun hHeld => ?_)
        clear hK K
        try simp only [Act.put, List.setIfInBounds_toArray, List.set_cons_zero, List.set_cons_succ, Array.toArray_toList, List.getElem_toArray, List.getElem_cons_zero, List.getElem_cons_succ]
        refine wpAnyH_take (i := 4) rfl (by kernel_rfl) (by kernel_rfl) (by kernel_rfl) (fun _ _ _ h => h) (yields_eqo (by rfl) _ _ _ rfl C C rfl rfl) hHeld ?_
        rw [eqR_self]
        try simp only [Act.put, List.setIfInBounds_toArray, List.set_cons_zero, List.set_cons_succ, Array.toArray_toList, List.getElem_toArray, List.getElem_cons_zero, List.getElem_cons_succ]
        refine wpAnyH_take (i := 5) (v := ?v92) rfl (by kernel_rfl) (by kernel_rfl) (by kernel_rfl) (fun _ _ _ h => h) (Or.inl ⟨by rfl, ?hy92⟩) hHeld ?rest92
        case hy92 =>
          intro w hSw
          go_simp
          try with_reducible rfl
        try simp only [Act.put, List.setIfInBounds_toArray, List.set_cons_zero, List.set_cons_succ, Array.toArray_toList, List.getElem_toArray, List.getElem_cons_zero, List.getElem_cons_succ]
        refine wpAnyH_done (by kernel_rfl) ?_ _
        refine NoPanic.normal ?_
        go_wp2
        go_ret
        exact ⟨rfl, HJ.out.bel⟩

end Go.Proofs.YtjimdkpppgjokaaDoor
