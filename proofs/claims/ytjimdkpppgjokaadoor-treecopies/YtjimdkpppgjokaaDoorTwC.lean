/-
  What TreeCopies answers, at every input.
-/
import Derived.Test.YtjimdkpppgjokaaDoorTxA
namespace Go.Proofs.YtjimdkpppgjokaaDoor
open Go.RowKit
set_option linter.unusedVariables false
set_option linter.unusedSimpArgs false

def slO (x : Value) (lo hi : Option Value) : Sem Value := Instr.sliceAt 22 x lo hi none
theorem slO_eq (x : Value) (lo hi : Option Value) : Instr.sliceAt 22 x lo hi none = slO x lo hi := rfl
theorem slO_run (W : World) (b off len cap k : Nat) (hk : k < len) (hc : len ≤ cap) : (slO (.slice (some ⟨b, off, none⟩) len cap) (some (.int .i64 k)) (some (.int .i64 ((k : Int) + 1)))).run Tryd.prog W = .ok (.slice (some ⟨b, off + 34 * k, none⟩) 1 (cap - k)) W := by
  have b1 : ∀ (x n : Nat) (c : BoundsCode), x ≤ n → (Instr.sliceBound (.int .i64 (x : Int)) n c).run Tryd.prog W = .ok x W := by
    intro x n c hx
    have h0 : (x : Int) ≤ (n : Int) := by omega
    simp [Instr.sliceBound, asIntOf, h0]
  have c1 := fun c => b1 k (k + 1) c (by omega)
  have c2 := fun c => b1 (k + 1) cap c (by omega)
  rw [show ((k + 1 : Nat) : Int) = (k : Int) + 1 from rfl] at c2
  have hne : ¬ cap = k := by omega
  unfold slO Instr.sliceAt
  simp [run_underlying Tryd.underlying22, Instr.slice, Instr.sliceBounds, c1, c2, size_op, hne, Addr.add_mid]
/-- A copy of the tree, and of the reference's. -/
theorem Pr.copy {w W : World} {LB : Nat → Nat} {t q n L : Nat} {f : Nat → Int} {v : Value} {hs : Int} (h : Pr w W LB t q n L f L f v hs) :
    Calls Tryd.prog 13 #[.pointer (some ⟨t, 0, none⟩)] W fun e w' => e = .returned (.pointer (some ⟨W.heap.size, 0, none⟩)) ∧ Below W.heap.size W w' ∧ T2 w (w'.alloc (.cells (rtA n v) 28)) t q W.heap.size w'.heap.size n L f v L f v hs := by
  obtain ⟨cn, ht⟩ := h.tr
  have hq := h.qlt
  refine ht.copy.mono ?_
  rintro e w' ⟨rfl, hb, LBc, hl, htc⟩
  have hz := hb.size
  have hB5 : Below W.heap.size W (w'.alloc (.cells (rtA n v) 28)) := hb.alloc hz _
  have hb5 : Below w'.heap.size w' (w'.alloc (.cells (rtA n v) 28)) := (Below.refl _ _).alloc (Nat.le_refl _) _
  have hp1 := h.fresh.below hB5
  have lcv : Lab (lab' w' LBc 0) 0 v := fun b hb2 => by
    have := (h.own.lt b hb2).2
    exact (lab'_old _ _ _ _ (by omega)).trans (hl b this)
  refine ⟨rfl, hb, lab' W LB 0, lab' w' LBc 0, hs, 0, ⟨hp1, ⟨hp1.bel, by have := h.bel.size; omega, ⟨cn, htc.fresh.below hb5⟩, heap_new rfl, hp1.own, lab'_new _ _ _ _ (Nat.le_refl _), lcv, Int.le_refl _⟩, by omega, (lab'_old _ _ _ _ (by omega)).trans (hl q hq), lab'_new _ _ _ _ hz, lcv, Lab.more h.own h.lv 0, fun k hk => ?_⟩, Int.le_refl _, h.h0⟩
  by_cases hkw : k < W.heap.size
  · exact .inr ((lab'_old _ _ _ _ (by omega)).trans (hl k hkw))
  · exact .inl (lab'_new _ _ _ _ (by omega))

attribute [local go_sem ↓] sv24_eq lv24_eq ix22_eq slr_eq bd27_eq bs22_eq eqo_eq lvO_eq svO_eq ixO_eq lv28_eq sv28_eq slO_eq

set_option maxRecDepth 20000 in
set_option maxHeartbeats 8000000 in
theorem copies_ok (m : Nat) (w : World) (a1 : Option Addr) (n1 p1 : Nat) (K1 P1 : Nat → Int) (F1 : Nat → Nat → Int) (hcl1 : Cls w a1 n1 K1 P1 F1) (hrg1 : ∀ i, (-9223372036854775808 ≤ K1 i ∧ K1 i ≤ 9223372036854775807) ∧ (-9223372036854775808 ≤ P1 i ∧ P1 i ≤ 9223372036854775807) ∧ ∀ j, 0 ≤ F1 i j ∧ F1 i j < 256) (hlen1 : n1 ≤ 140737488355328) (l1 : n1 ≤ p1) (a2 : Option Addr) (n2 p2 : Nat) (K2 P2 : Nat → Int) (F2 : Nat → Nat → Int) (hcl2 : Cls w a2 n2 K2 P2 F2) (hrg2 : ∀ i, (-9223372036854775808 ≤ K2 i ∧ K2 i ≤ 9223372036854775807) ∧ (-9223372036854775808 ≤ P2 i ∧ P2 i ≤ 9223372036854775807) ∧ ∀ j, 0 ≤ F2 i j ∧ F2 i j < 256) (hlen2 : n2 ≤ 140737488355328) (l2 : n2 ≤ p2) (a3 : Option Addr) (n3 p3 : Nat) (K3 P3 : Nat → Int) (F3 : Nat → Nat → Int) (hcl3 : Cls w a3 n3 K3 P3 F3) (hrg3 : ∀ i, (-9223372036854775808 ≤ K3 i ∧ K3 i ≤ 9223372036854775807) ∧ (-9223372036854775808 ≤ P3 i ∧ P3 i ≤ 9223372036854775807) ∧ ∀ j, 0 ≤ F3 i j ∧ F3 i j < 256) (hlen3 : n3 ≤ 140737488355328) (l3 : n3 ≤ p3) (hS : Sh w) (hC : Rc w) (hm : 1 ≤ m) (hm2 : m ≤ 1073741824) :
    Calls Tryd.prog 5 #[.int .i64 m, .slice a1 n1 p1, .slice a2 n2 p2, .slice a3 n3 p3] w fun e w' => e = .returned (.bool true) ∧ Below w.heap.size w w' := by
  have haw := awake6 w hS
  have HAW := hid haw
  have HS := hid hS
  have HC := hid hC
  have HCL1 := hid hcl1
  have HRG1 := hid hrg1
  have HCL2 := hid hcl2
  have HRG2 := hid hrg2
  have HCL3 := hid hcl3
  have HRG3 := hid hrg3
  clear haw hS hC hcl1 hrg1 hcl2 hrg2 hcl3 hrg3
  go_enter Tryd.func5, Tryd.ntmps5
  go_upto_region 3 with (go_at_call 8; refine HAW.out.mono ?_; rintro e w1 ⟨rfl, hb1⟩)
  have hnew := tt_new w.heap.size m w1 (HS.out.below hb1) hm hm2 hb1.size
  obtain ⟨t, et0⟩ : ∃ t, w1.heap.size + 1 = t := ⟨_, rfl⟩
  rw [et0] at hnew
  have HNEW := hid hnew
  have HB1 := hid hb1
  clear hnew et0 hb1 HAW
  go_upto_region 4 with (go_at_call 9; refine HNEW.out.mono ?_; rintro e w2 ⟨rfl, hb2, LB2, hl2, ht2⟩)
  have hrn := rnew6 (m : Int) w2 (by omega) (by omega)
  rw [decide_eq_true (show (1 : Int) ≤ (m : Int) ∧ (m : Int) ≤ 1073741824 by omega)] at hrn
  have zr28 := zero_ref
  have sv := fun W => sv28_new W (m : Int) none 0 0 (rtA 0 (.slice none 0 0)) rfl
  have HRN := hid hrn
  have HB2 := hid (HB1.out.trans (hb2.mono HB1.out.size))
  have HT2 := hid ht2
  clear hrn hb2 hl2 ht2 HNEW HB1
  go_upto_region 7 with (go_at_call 10; refine HRN.out.mono ?_; rintro e w3 ⟨rfl, hb3⟩)
  have hB3 : Below w.heap.size w w3 := HB2.out.trans (hb3.mono HB2.out.size)
  obtain ⟨q, eq⟩ : ∃ q, w3.heap.size = q := ⟨_, rfl⟩
  have hb4 : Below w3.heap.size w3 (w3.alloc (.cells (rtA m (.slice none 0 0)) 28)) := (Below.refl _ _).alloc (Nat.le_refl _) _
  have hP : Pr w (w3.alloc (.cells (rtA m (.slice none 0 0)) 28)) (lab' w3 LB2 0) t w3.heap.size m 0 (fun _ => 0) 0 (fun _ => 0) (.slice none 0 0) 0 :=
    ⟨hB3.alloc hB3.size _, hB3.size, ⟨0, ((HT2.out.below hb3).fresh).below hb4⟩, heap_new rfl, World.ownsRow_nil _ _ _ _, lab'_new _ _ _ _ (Nat.le_refl _), (fun b hb => by cases hb), Int.le_refl _⟩
  obtain ⟨W4, hW4⟩ : ∃ X, w3.alloc (.cells (rtA m (.slice none 0 0)) 28) = X := ⟨_, rfl⟩
  rw [hW4, eq] at hP
  rw [hW4, eq]
  have hru := run_any hP HS.out (by omega) a1 n1 p1 K1 P1 F1 HCL1.out HRG1.out (by omega)
  have HRU := hid hru
  clear hru hP hW4 eq hb4 hb3 hB3 HB2 HT2 HRN sv zr28
  go_upto_region 8 with (go_at_call 22; refine HRU.out.mono ?_; rintro e w5 ⟨rfl, LB5, L, f, v5, hs5, hp5, _, hle5⟩)
  have hcp := hp5.copy
  obtain ⟨aq, cq, evq⟩ := row_form hp5.own
  subst evq
  obtain ⟨c, ec⟩ : ∃ c, w5.heap.size = c := ⟨_, rfl⟩
  have hq5 := hp5.qlt
  have hblk5 := hp5.blk
  have HBLK5 := hid hblk5
  rw [ec] at hcp hq5
  have EC := hid ec
  have HCP := hid hcp
  clear hcp hp5 hblk5 HRU ec
  go_upto_region 9 with (go_at_call 13; refine HCP.out.mono ?_; rintro e w6 ⟨rfl, hb6, hT6⟩)
  have hb6' : Below w5.heap.size w5 w6 := by rw [EC.out]; exact hb6
  have l6 := lv28_run ((hb6'.block q (by rw [EC.out]; exact hq5)).trans HBLK5.out)
  have zr28 := zero_ref
  have sv := sv28_new w6 (m : Int) aq L cq (rtA 0 (.slice none 0 0)) rfl
  have HT6 := hid hT6
  clear hb6 hT6 hb6'
  go_upto_region 10 with fail
  clear l6 zr28 sv
  obtain ⟨s, es⟩ : ∃ s, w6.heap.size = s := ⟨_, rfl⟩
  obtain ⟨W7, hW7⟩ : ∃ X, w6.alloc (.cells (rtA m (.slice aq L cq)) 28) = X := ⟨_, rfl⟩
  have hT7 := HT6.out
  rw [hW7, es] at hT7
  rw [hW7, es]
  have hTd := hT7.below (Below.refl _ W7).drew
  have rq7 := hTd.blk.1
  have hr2 := hTd.swap.root HS.out (by omega)
  obtain ⟨C1, e1⟩ : ∃ C, treeV f L (m : Nat) = C := ⟨_, rfl⟩
  rw [e1] at hr2
  have HR2 := hid hr2
  have E1 := hid e1
  have HRQ := hid rq7
  have HLQ : Hid (∀ X : World, X.heap[q]? = some (.cells (rtA m (.slice aq L cq)) 28) → (lv28 ⟨q, 0, none⟩).run Tryd.prog X = .ok (.agg (rtA m (.slice aq L cq))) X) := fun X h => lv28_run h
  clear hr2 e1 rq7 hTd hT7 HT6 hW7 es HBLK5
  refine wp_region_noPanic ?_
  refine wp_region_held_drew (S := fun X => X.heap[q]? = some (.cells (rtA m (.slice aq L cq)) 28)) (by kernel_rfl) (HRQ.out) (fun hHeld => ?_)
  refine wpAnyH_take (i := 0) (v := ?v92) rfl (by kernel_rfl) (by kernel_rfl) (by kernel_rfl) (fun _ _ _ h => h) (Or.inl ⟨by rfl, ?hy92⟩) hHeld ?rest92
  case hy92 =>
    intro w hSw
    go_simp
    try with_reducible rfl
  try simp only [Act.put, List.setIfInBounds_toArray, List.set_cons_zero, List.set_cons_succ, Array.toArray_toList, List.getElem_toArray, List.getElem_cons_zero, List.getElem_cons_succ]
  refine wpAnyH_take (i := 1) (v := ?v93) rfl (by kernel_rfl) (by kernel_rfl) (by kernel_rfl) (fun _ _ _ h => h) (Or.inl ⟨by rfl, ?hy93⟩) hHeld ?rest93
  case hy93 =>
    intro w hSw
    go_simp
    try with_reducible rfl
  try simp only [Act.put, List.setIfInBounds_toArray, List.set_cons_zero, List.set_cons_succ, Array.toArray_toList, List.getElem_toArray, List.getElem_cons_zero, List.getElem_cons_succ]
  refine wpAnyH_take (i := 2) (v := ?v94) rfl (by kernel_rfl) (by kernel_rfl) (by kernel_rfl) (fun _ _ _ h => h) (Or.inl ⟨by rfl, ?hy94⟩) hHeld ?rest94
  case hy94 =>
    intro w hSw
    go_simp
    try with_reducible rfl
  try simp only [Act.put, List.setIfInBounds_toArray, List.set_cons_zero, List.set_cons_succ, Array.toArray_toList, List.getElem_toArray, List.getElem_cons_zero, List.getElem_cons_succ]
  refine wpAnyH_take (i := 3) (v := ?v95) rfl (by kernel_rfl) (by kernel_rfl) (by kernel_rfl) (fun _ _ _ h => h) (Or.inl ⟨by rfl, ?hy95⟩) hHeld ?rest95
  case hy95 =>
    intro w hSw
    go_simp
    try with_reducible rfl
  try simp only [Act.put, List.setIfInBounds_toArray, List.set_cons_zero, List.set_cons_succ, Array.toArray_toList, List.getElem_toArray, List.getElem_cons_zero, List.getElem_cons_succ]
  refine wpAnyH_take (i := 5) (v := ?v96) rfl (by kernel_rfl) (by kernel_rfl) (by kernel_rfl) (fun _ _ _ h => h) (Or.inl ⟨by rfl, ?hy96⟩) hHeld ?rest96
  case hy96 =>
    intro w hSw
    have ld := HLQ.out _ hSw
    go_simp
    try with_reducible rfl
  try simp only [Act.put, List.setIfInBounds_toArray, List.set_cons_zero, List.set_cons_succ, Array.toArray_toList, List.getElem_toArray, List.getElem_cons_zero, List.getElem_cons_succ]
  refine wpAnyH_ready (rs := [4]) (by kernel_rfl) (by simp) ?_
  refine AllReadyH.cons rfl (fun K hK => ?_) AllReadyH.nil
  go_simp
  refine (HR2.out).mono ?_
  rintro e X1 ⟨rfl, hT1, k1, k2⟩
  dsimp only
  have S1 := hid (k2.trans HRQ.out)
  have hrr1 := hT1.swap.rroot HC.out
  rw [E1.out] at hrr1
  have HRR1 := hid hrr1
  have HT1 := hid hT1
  clear hrr1 hT1 k1 k2
  refine hK.out _ _ (S1.out) (fun hHeld => ?_)
  clear hK K
  try simp only [Act.put, List.setIfInBounds_toArray, List.set_cons_zero, List.set_cons_succ, Array.toArray_toList, List.getElem_toArray, List.getElem_cons_zero, List.getElem_cons_succ]
  refine wpAnyH_ready (rs := [6]) (by kernel_rfl) (by simp) ?_
  refine AllReadyH.cons rfl (fun K hK => ?_) AllReadyH.nil
  go_simp
  refine (HRR1.out).mono ?_
  rintro e X2 ⟨rfl, hb2⟩
  dsimp only
  have HT2 := hid (HT1.out.below hb2).swap
  refine hK.out _ _ ((hb2.block q (Array.getElem?_eq_some_iff.1 S1.out).1).trans S1.out) (fun hHeld => ?_)
  clear hK K
  try simp only [Act.put, List.setIfInBounds_toArray, List.set_cons_zero, List.set_cons_succ, Array.toArray_toList, List.getElem_toArray, List.getElem_cons_zero, List.getElem_cons_succ]
  refine wpAnyH_take (i := 7) rfl (by kernel_rfl) (by kernel_rfl) (by kernel_rfl) (fun _ _ _ h => h) (yields_neo (by rfl) _ _ _ rfl C1 C1 rfl rfl) hHeld ?_
  rw [eqR_self, Bool.not_true]
  try simp only [Act.put, List.setIfInBounds_toArray, List.set_cons_zero, List.set_cons_succ, Array.toArray_toList, List.getElem_toArray, List.getElem_cons_zero, List.getElem_cons_succ]
  refine wpAnyH_take (i := 8) (v := ?v97) rfl (by kernel_rfl) (by kernel_rfl) (by kernel_rfl) (fun _ _ _ h => h) (Or.inl ⟨by rfl, ?hy97⟩) hHeld ?rest97
  case hy97 =>
    intro w hSw
    go_simp
    try with_reducible rfl
  try simp only [Act.put, List.setIfInBounds_toArray, List.set_cons_zero, List.set_cons_succ, Array.toArray_toList, List.getElem_toArray, List.getElem_cons_zero, List.getElem_cons_succ]
  refine wpAnyH_done (by kernel_rfl) ?_ _
  refine NoPanic.normal ?_
  have HT20 := hid (HT2.out.le (show hs5 + 2147483648 ≤ 274877906944 by omega))
  clear HT2 HT1 HRR1 S1 HR2 HRQ HLQ E1 hb2
  go_upto_region 13 with fail
  go_loopw [14] (fun i wr => ∃ (k L1 : Nat) (f1 : Nat → Int) (v1 : Value) (L2 : Nat) (f2 : Nat → Int) (v2 : Value), k ≤ 40 ∧ i = .int .i64 k ∧ T2 w wr t q c s m L1 f1 v1 L2 f2 v2 ((k : Int) * 274877906944 + 274877906944)) (fun i _ => 40 - (intOf i).toNat)
  case atStart => exact ⟨0, _, _, _, _, _, _, by omega, rfl, HT20.out⟩
  case round =>
    clear HT20
    obtain ⟨k, L1, f1, v1, L2, f2, v2, hk, rfl, hT⟩ := hrel
    by_cases hlt : k < 40
    · have b1 : decide (k < 40) = true := by simp; omega
      have b2' : decide ((k : Int) < 40) = true := by simp; omega
      by_cases hown : k < n2
      · by_cases hoth : k < n3
        · have c1 : decide (k < n2) = true := by simp; omega
          have c2 : decide ((k : Int) < (n2 : Int)) = true := by simp; omega
          obtain ⟨b2, o2, ea2, hc2⟩ := HCL2.out.one k hown
          have hsl := fun W => slO_run W b2 o2 n2 p2 k hown l2
          have hru := hT.run HS.out (by omega) (some ⟨b2, o2 + 34 * k, none⟩) 1 (p2 - k) _ _ _ hc2 (fun _ => HRG2.out k) (by omega)
          have HRU := hid hru
          subst ea2
          clear hru hT hc2
          go_upto_region 17 with (go_at_call 22; refine HRU.out.mono ?_; rintro e Y1 ⟨rfl, L', f', v', hT'⟩)
          clear hsl HRU c1 c2
          obtain ⟨b', eb'⟩ : ∃ b', (k : Int) * 274877906944 + 274877906944 + 40 * 2147483648 = b' := ⟨_, rfl⟩
          rw [eb'] at hT'
          have hT := hT'
          clear hT'
          have hb9 : b' ≤ 100 * 274877906944 := by omega
          have hb8 : b' ≤ (k : Int) * 274877906944 + 274877906944 + 40 * 2147483648 := by omega
          clear eb'
          have c1 : decide (k < n3) = true := by simp; omega
          have c2 : decide ((k : Int) < (n3 : Int)) = true := by simp; omega
          obtain ⟨b3, o3, ea3, hc3⟩ := HCL3.out.one k hoth
          have hsl := fun W => slO_run W b3 o3 n3 p3 k hoth l3
          have hru := hT.swap.run HS.out (by omega) (some ⟨b3, o3 + 34 * k, none⟩) 1 (p3 - k) _ _ _ hc3 (fun _ => HRG3.out k) (by omega)
          have HRU := hid hru
          subst ea3
          clear hru hT hc3
          go_upto_region 19 with (go_at_call 22; refine HRU.out.mono ?_; rintro e X0 ⟨rfl, L'', f'', v'', hT''⟩)
          clear hsl HRU c1 c2
          have hT := hT''.swap
          clear hT''
          obtain ⟨b, eb⟩ : ∃ b, b' + 40 * 2147483648 = b := ⟨_, rfl⟩
          rw [eb] at hT
          have hb7 : b ≤ (k : Int) * 274877906944 + 274877906944 + 80 * 2147483648 := by omega
          clear eb hb8 hb9
          obtain ⟨aq, cq, evq⟩ := hT.blk.2
          subst evq
          obtain ⟨ax, cx, evs⟩ := hT.swap.blk.2
          subst evs
          have HT := hid hT
          clear hT
          generalize L' = L at HT
          generalize f' = f at HT
          generalize L'' = Ls at HT
          generalize f'' = fs at HT
          have hT := HT.out
          have hd : Below X0.heap.size X0 X0.drew := (Below.refl _ _).drew
          have hTd := hT.below hd
          have rq0 := hTd.blk.1
          have rs0 := hTd.swap.blk.1
          have hr1 := hTd.root HS.out (by omega)
          obtain ⟨C1, e1⟩ : ∃ C, treeV f L (m : Nat) = C := ⟨_, rfl⟩
          obtain ⟨C2, e2⟩ : ∃ C, treeV fs Ls (m : Nat) = C := ⟨_, rfl⟩
          rw [e1] at hr1
          have HSS := hid (And.intro rq0 rs0)
          have HR1 := hid hr1
          have E1 := hid e1
          have E2 := hid e2
          have HLQ : Hid (∀ X : World, X.heap[q]? = some (.cells (rtA m (.slice aq L cq)) 28) → (lv28 ⟨q, 0, none⟩).run Tryd.prog X = .ok (.agg (rtA m (.slice aq L cq))) X ∧ X.cell? ⟨q, 1, none⟩ = some (.slice aq L cq)) := fun X h => ⟨lv28_run h, (row_cell h 1).trans rfl⟩
          have HLS : Hid (∀ X : World, X.heap[s]? = some (.cells (rtA m (.slice ax Ls cx)) 28) → (lv28 ⟨s, 0, none⟩).run Tryd.prog X = .ok (.agg (rtA m (.slice ax Ls cx))) X ∧ X.cell? ⟨s, 1, none⟩ = some (.slice ax Ls cx)) := fun X h => ⟨lv28_run h, (row_cell h 1).trans rfl⟩
          clear hT hd hTd rq0 rs0 hr1 e1 e2 HT
          refine wp_region_noPanic ?_
          refine wp_region_held_drew (S := fun X => X.heap[q]? = some (.cells (rtA m (.slice aq L cq)) 28) ∧ X.heap[s]? = some (.cells (rtA m (.slice ax Ls cx)) 28)) (by kernel_rfl) (HSS.out) (fun hHeld => ?_)
          refine wpAnyH_take (i := 0) (v := ?v12) rfl (by kernel_rfl) (by kernel_rfl) (by kernel_rfl) (fun _ _ _ h => h) (Or.inl ⟨by rfl, ?hy12⟩) hHeld ?rest12
          case hy12 =>
            intro w hSw
            go_simp
            try with_reducible rfl
          try simp only [Act.put, List.setIfInBounds_toArray, List.set_cons_zero, List.set_cons_succ, Array.toArray_toList, List.getElem_toArray, List.getElem_cons_zero, List.getElem_cons_succ]
          refine wpAnyH_take (i := 2) (v := ?v13) rfl (by kernel_rfl) (by kernel_rfl) (by kernel_rfl) (fun _ _ _ h => h) (Or.inl ⟨by rfl, ?hy13⟩) hHeld ?rest13
          case hy13 =>
            intro w hSw
            have ld := (HLQ.out _ hSw.1).1
            go_simp
            try with_reducible rfl
          try simp only [Act.put, List.setIfInBounds_toArray, List.set_cons_zero, List.set_cons_succ, Array.toArray_toList, List.getElem_toArray, List.getElem_cons_zero, List.getElem_cons_succ]
          refine wpAnyH_ready (rs := [1]) (by kernel_rfl) (by simp) ?_
          refine AllReadyH.cons rfl (fun K hK => ?_) AllReadyH.nil
          go_simp
          refine (HR1.out).mono ?_
          rintro e X1 ⟨rfl, hT1, k1, k2⟩
          dsimp only
          have S1 := hid (And.intro (k1.trans HSS.out.1) (k2.trans HSS.out.2))
          have hrr1 := hT1.rroot HC.out
          rw [E1.out] at hrr1
          have HRR1 := hid hrr1
          have HT1 := hid hT1
          clear hrr1 hT1 k1 k2
          refine hK.out _ _ (S1.out) (fun hHeld => ?_)
          clear hK K
          try simp only [Act.put, List.setIfInBounds_toArray, List.set_cons_zero, List.set_cons_succ, Array.toArray_toList, List.getElem_toArray, List.getElem_cons_zero, List.getElem_cons_succ]
          refine wpAnyH_ready (rs := [3]) (by kernel_rfl) (by simp) ?_
          refine AllReadyH.cons rfl (fun K hK => ?_) AllReadyH.nil
          go_simp
          refine (HRR1.out).mono ?_
          rintro e X2 ⟨rfl, hb2⟩
          dsimp only
          have S2 := hid (And.intro ((hb2.block q (Array.getElem?_eq_some_iff.1 S1.out.1).1).trans S1.out.1) ((hb2.block s (Array.getElem?_eq_some_iff.1 S1.out.2).1).trans S1.out.2))
          have hT2 := HT1.out.below hb2
          have hr2 := hT2.swap.root HS.out (by omega)
          rw [E2.out] at hr2
          have HR2 := hid hr2
          clear hT2 hr2 hb2
          refine hK.out _ _ (S2.out) (fun hHeld => ?_)
          clear hK K
          try simp only [Act.put, List.setIfInBounds_toArray, List.set_cons_zero, List.set_cons_succ, Array.toArray_toList, List.getElem_toArray, List.getElem_cons_zero, List.getElem_cons_succ]
          refine wpAnyH_take (i := 4) rfl (by kernel_rfl) (by kernel_rfl) (by kernel_rfl) (fun _ _ _ h => h) (yields_neo (by rfl) _ _ _ rfl C1 C1 rfl rfl) hHeld ?_
          rw [eqR_self, Bool.not_true]
          try simp only [Act.put, List.setIfInBounds_toArray, List.set_cons_zero, List.set_cons_succ, Array.toArray_toList, List.getElem_toArray, List.getElem_cons_zero, List.getElem_cons_succ]
          refine wpAnyH_take (i := 5) (v := ?v14) rfl (by kernel_rfl) (by kernel_rfl) (by kernel_rfl) (fun _ _ _ h => h) (Or.inl ⟨by rfl, ?hy14⟩) hHeld ?rest14
          case hy14 =>
            intro w hSw
            go_simp
            try with_reducible rfl
          try simp only [Act.put, List.setIfInBounds_toArray, List.set_cons_zero, List.set_cons_succ, Array.toArray_toList, List.getElem_toArray, List.getElem_cons_zero, List.getElem_cons_succ]
          refine wpAnyH_take (i := 6) (v := ?v15) rfl (by kernel_rfl) (by kernel_rfl) (by kernel_rfl) (fun _ _ _ h => h) (Or.inl ⟨by rfl, ?hy15⟩) hHeld ?rest15
          case hy15 =>
            intro w hSw
            go_simp
            try with_reducible rfl
          try simp only [Act.put, List.setIfInBounds_toArray, List.set_cons_zero, List.set_cons_succ, Array.toArray_toList, List.getElem_toArray, List.getElem_cons_zero, List.getElem_cons_succ]
          refine wpAnyH_take (i := 8) (v := ?v16) rfl (by kernel_rfl) (by kernel_rfl) (by kernel_rfl) (fun _ _ _ h => h) (Or.inl ⟨by rfl, ?hy16⟩) hHeld ?rest16
          case hy16 =>
            intro w hSw
            have ld := (HLS.out _ hSw.2).1
            go_simp
            try with_reducible rfl
          try simp only [Act.put, List.setIfInBounds_toArray, List.set_cons_zero, List.set_cons_succ, Array.toArray_toList, List.getElem_toArray, List.getElem_cons_zero, List.getElem_cons_succ]
          refine wpAnyH_ready (rs := [7]) (by kernel_rfl) (by simp) ?_
          refine AllReadyH.cons rfl (fun K hK => ?_) AllReadyH.nil
          go_simp
          refine (HR2.out).mono ?_
          rintro e X3 ⟨rfl, hT3, k1, k2⟩
          dsimp only
          have S3 := hid (And.intro (k2.trans S2.out.1) (k1.trans S2.out.2))
          have hrr3 := hT3.rroot HC.out
          rw [E2.out] at hrr3
          have HRR3 := hid hrr3
          have HT3 := hid hT3
          clear hrr3 hT3 k1 k2
          refine hK.out _ _ (S3.out) (fun hHeld => ?_)
          clear hK K
          try simp only [Act.put, List.setIfInBounds_toArray, List.set_cons_zero, List.set_cons_succ, Array.toArray_toList, List.getElem_toArray, List.getElem_cons_zero, List.getElem_cons_succ]
          refine wpAnyH_ready (rs := [9]) (by kernel_rfl) (by simp) ?_
          refine AllReadyH.cons rfl (fun K hK => ?_) AllReadyH.nil
          go_simp
          refine (HRR3.out).mono ?_
          rintro e X4 ⟨rfl, hb4⟩
          dsimp only
          have S4 := hid (And.intro ((hb4.block q (Array.getElem?_eq_some_iff.1 S3.out.1).1).trans S3.out.1) ((hb4.block s (Array.getElem?_eq_some_iff.1 S3.out.2).1).trans S3.out.2))
          have hT4 := (HT3.out.below hb4).swap
          have HT4 := hid hT4
          have HLE := hid hT4.len
          have HLF := hid hT4.swap.len
          clear hT4 hb4
          refine hK.out _ _ (S4.out) (fun hHeld => ?_)
          clear hK K
          try simp only [Act.put, List.setIfInBounds_toArray, List.set_cons_zero, List.set_cons_succ, Array.toArray_toList, List.getElem_toArray, List.getElem_cons_zero, List.getElem_cons_succ]
          refine wpAnyH_take (i := 10) rfl (by kernel_rfl) (by kernel_rfl) (by kernel_rfl) (fun _ _ _ h => h) (yields_neo (by rfl) _ _ _ rfl C2 C2 rfl rfl) hHeld ?_
          rw [eqR_self, Bool.not_true]
          try simp only [Act.put, List.setIfInBounds_toArray, List.set_cons_zero, List.set_cons_succ, Array.toArray_toList, List.getElem_toArray, List.getElem_cons_zero, List.getElem_cons_succ]
          refine wpAnyH_take (i := 11) (v := ?v17) rfl (by kernel_rfl) (by kernel_rfl) (by kernel_rfl) (fun _ _ _ h => h) (Or.inl ⟨by rfl, ?hy17⟩) hHeld ?rest17
          case hy17 =>
            intro w hSw
            go_simp
            try with_reducible rfl
          try simp only [Act.put, List.setIfInBounds_toArray, List.set_cons_zero, List.set_cons_succ, Array.toArray_toList, List.getElem_toArray, List.getElem_cons_zero, List.getElem_cons_succ]
          refine wpAnyH_take (i := 12) (v := ?v18) rfl (by kernel_rfl) (by kernel_rfl) (by kernel_rfl) (fun _ _ _ h => h) (Or.inl ⟨by rfl, ?hy18⟩) hHeld ?rest18
          case hy18 =>
            intro w hSw
            go_simp
            try with_reducible rfl
          try simp only [Act.put, List.setIfInBounds_toArray, List.set_cons_zero, List.set_cons_succ, Array.toArray_toList, List.getElem_toArray, List.getElem_cons_zero, List.getElem_cons_succ]
          refine wpAnyH_take (i := 13) (v := ?v19) rfl (by kernel_rfl) (by kernel_rfl) (by kernel_rfl) (fun _ _ _ h => h) (Or.inl ⟨by rfl, ?hy19⟩) hHeld ?rest19
          case hy19 =>
            intro w hSw
            go_simp
            try with_reducible rfl
          try simp only [Act.put, List.setIfInBounds_toArray, List.set_cons_zero, List.set_cons_succ, Array.toArray_toList, List.getElem_toArray, List.getElem_cons_zero, List.getElem_cons_succ]
          refine wpAnyH_take (i := 15) (v := ?v20) rfl (by kernel_rfl) (by kernel_rfl) (by kernel_rfl) (fun _ _ _ h => h) (Or.inl ⟨by rfl, ?hy20⟩) hHeld ?rest20
          case hy20 =>
            intro w hSw
            go_simp
            try with_reducible rfl
          try simp only [Act.put, List.setIfInBounds_toArray, List.set_cons_zero, List.set_cons_succ, Array.toArray_toList, List.getElem_toArray, List.getElem_cons_zero, List.getElem_cons_succ]
          refine wpAnyH_take (i := 16) (v := ?v21) rfl (by kernel_rfl) (by kernel_rfl) (by kernel_rfl) (fun _ _ _ h => h) (Or.inl ⟨by rfl, ?hy21⟩) hHeld ?rest21
          case hy21 =>
            intro w hSw
            have ld := (HLQ.out _ hSw.1).2
            go_simp
            try with_reducible rfl
          try simp only [Act.put, List.setIfInBounds_toArray, List.set_cons_zero, List.set_cons_succ, Array.toArray_toList, List.getElem_toArray, List.getElem_cons_zero, List.getElem_cons_succ]
          refine wpAnyH_take (i := 17) (v := ?v22) rfl (by kernel_rfl) (by kernel_rfl) (by kernel_rfl) (fun _ _ _ h => h) (Or.inl ⟨by rfl, ?hy22⟩) hHeld ?rest22
          case hy22 =>
            intro w hSw
            go_simp
            try with_reducible rfl
          try simp only [Act.put, List.setIfInBounds_toArray, List.set_cons_zero, List.set_cons_succ, Array.toArray_toList, List.getElem_toArray, List.getElem_cons_zero, List.getElem_cons_succ]
          refine wpAnyH_ready (rs := [14]) (by kernel_rfl) (by simp) ?_
          refine AllReadyH.cons rfl (fun K hK => ?_) AllReadyH.nil
          go_simp
          refine (HLE.out).mono ?_
          rintro e X5 ⟨rfl, hx5⟩
          dsimp only
          obtain rfl := hx5.symm
          refine hK.out _ _ (S4.out) (fun hHeld => ?_)
          clear hK K
          try simp only [Act.put, List.setIfInBounds_toArray, List.set_cons_zero, List.set_cons_succ, Array.toArray_toList, List.getElem_toArray, List.getElem_cons_zero, List.getElem_cons_succ]
          refine wpAnyH_take (i := 18) (v := ?v23) rfl (by kernel_rfl) (by kernel_rfl) (by kernel_rfl) (fun _ _ _ h => h) (Or.inl ⟨by rfl, ?hy23⟩) hHeld ?rest23
          case hy23 =>
            intro w hSw
            go_simp
            try with_reducible rfl
          try simp only [Act.put, List.setIfInBounds_toArray, List.set_cons_zero, List.set_cons_succ, Array.toArray_toList, List.getElem_toArray, List.getElem_cons_zero, List.getElem_cons_succ]
          refine wpAnyH_take (i := 19) (v := ?v24) rfl (by kernel_rfl) (by kernel_rfl) (by kernel_rfl) (fun _ _ _ h => h) (Or.inl ⟨by rfl, ?hy24⟩) hHeld ?rest24
          case hy24 =>
            intro w hSw
            go_simp
            try with_reducible rfl
          try simp only [Act.put, List.setIfInBounds_toArray, List.set_cons_zero, List.set_cons_succ, Array.toArray_toList, List.getElem_toArray, List.getElem_cons_zero, List.getElem_cons_succ]
          refine wpAnyH_take (i := 20) (v := ?v25) rfl (by kernel_rfl) (by kernel_rfl) (by kernel_rfl) (fun _ _ _ h => h) (Or.inl ⟨by rfl, ?hy25⟩) hHeld ?rest25
          case hy25 =>
            intro w hSw
            go_simp
            try with_reducible rfl
          try simp only [Act.put, List.setIfInBounds_toArray, List.set_cons_zero, List.set_cons_succ, Array.toArray_toList, List.getElem_toArray, List.getElem_cons_zero, List.getElem_cons_succ]
          refine wpAnyH_take (i := 21) (v := ?v26) rfl (by kernel_rfl) (by kernel_rfl) (by kernel_rfl) (fun _ _ _ h => h) (Or.inl ⟨by rfl, ?hy26⟩) hHeld ?rest26
          case hy26 =>
            intro w hSw
            go_simp
            try with_reducible rfl
          try simp only [Act.put, List.setIfInBounds_toArray, List.set_cons_zero, List.set_cons_succ, Array.toArray_toList, List.getElem_toArray, List.getElem_cons_zero, List.getElem_cons_succ]
          refine wpAnyH_take (i := 23) (v := ?v27) rfl (by kernel_rfl) (by kernel_rfl) (by kernel_rfl) (fun _ _ _ h => h) (Or.inl ⟨by rfl, ?hy27⟩) hHeld ?rest27
          case hy27 =>
            intro w hSw
            go_simp
            try with_reducible rfl
          try simp only [Act.put, List.setIfInBounds_toArray, List.set_cons_zero, List.set_cons_succ, Array.toArray_toList, List.getElem_toArray, List.getElem_cons_zero, List.getElem_cons_succ]
          refine wpAnyH_take (i := 24) (v := ?v28) rfl (by kernel_rfl) (by kernel_rfl) (by kernel_rfl) (fun _ _ _ h => h) (Or.inl ⟨by rfl, ?hy28⟩) hHeld ?rest28
          case hy28 =>
            intro w hSw
            have ld := (HLS.out _ hSw.2).2
            go_simp
            try with_reducible rfl
          try simp only [Act.put, List.setIfInBounds_toArray, List.set_cons_zero, List.set_cons_succ, Array.toArray_toList, List.getElem_toArray, List.getElem_cons_zero, List.getElem_cons_succ]
          refine wpAnyH_take (i := 25) (v := ?v29) rfl (by kernel_rfl) (by kernel_rfl) (by kernel_rfl) (fun _ _ _ h => h) (Or.inl ⟨by rfl, ?hy29⟩) hHeld ?rest29
          case hy29 =>
            intro w hSw
            go_simp
            try with_reducible rfl
          try simp only [Act.put, List.setIfInBounds_toArray, List.set_cons_zero, List.set_cons_succ, Array.toArray_toList, List.getElem_toArray, List.getElem_cons_zero, List.getElem_cons_succ]
          refine wpAnyH_ready (rs := [22]) (by kernel_rfl) (by simp) ?_
          refine AllReadyH.cons rfl (fun K hK => ?_) AllReadyH.nil
          go_simp
          refine (HLF.out).mono ?_
          rintro e X6 ⟨rfl, hx6⟩
          dsimp only
          obtain rfl := hx6.symm
          refine hK.out _ _ (S4.out) (fun hHeld => ?_)
          clear hK K
          try simp only [Act.put, List.setIfInBounds_toArray, List.set_cons_zero, List.set_cons_succ, Array.toArray_toList, List.getElem_toArray, List.getElem_cons_zero, List.getElem_cons_succ]
          refine wpAnyH_take (i := 26) (v := ?v30) rfl (by kernel_rfl) (by kernel_rfl) (by kernel_rfl) (fun _ _ _ h => h) (Or.inl ⟨by rfl, ?hy30⟩) hHeld ?rest30
          case hy30 =>
            intro w hSw
            go_simp
            try with_reducible rfl
          try simp only [Act.put, List.setIfInBounds_toArray, List.set_cons_zero, List.set_cons_succ, Array.toArray_toList, List.getElem_toArray, List.getElem_cons_zero, List.getElem_cons_succ]
          refine wpAnyH_take (i := 27) (v := ?v31) rfl (by kernel_rfl) (by kernel_rfl) (by kernel_rfl) (fun _ _ _ h => h) (Or.inl ⟨by rfl, ?hy31⟩) hHeld ?rest31
          case hy31 =>
            intro w hSw
            go_simp
            try with_reducible rfl
          try simp only [Act.put, List.setIfInBounds_toArray, List.set_cons_zero, List.set_cons_succ, Array.toArray_toList, List.getElem_toArray, List.getElem_cons_zero, List.getElem_cons_succ]
          refine wpAnyH_done (by kernel_rfl) ?_ _
          refine NoPanic.normal ?_
          clear HSS S1 S2 S3 S4 HR1 HR2 HRR1 HRR3 HT1 HT3 HLE HLF HLQ HLS E1 E2
          go_wp2
          go_roundw
          case rel => exact ⟨k + 1, _, _, _, _, _, _, by omega, by go_num, HT4.out.le (by omega)⟩
          case measure => simp [intOf]; omega
        · have c1 : decide (k < n2) = true := by simp; omega
          have c2 : decide ((k : Int) < (n2 : Int)) = true := by simp; omega
          obtain ⟨b2, o2, ea2, hc2⟩ := HCL2.out.one k hown
          have hsl := fun W => slO_run W b2 o2 n2 p2 k hown l2
          have hru := hT.run HS.out (by omega) (some ⟨b2, o2 + 34 * k, none⟩) 1 (p2 - k) _ _ _ hc2 (fun _ => HRG2.out k) (by omega)
          have HRU := hid hru
          subst ea2
          clear hru hT hc2
          go_upto_region 17 with (go_at_call 22; refine HRU.out.mono ?_; rintro e Y1 ⟨rfl, L', f', v', hT'⟩)
          clear hsl HRU c1 c2
          obtain ⟨b', eb'⟩ : ∃ b', (k : Int) * 274877906944 + 274877906944 + 40 * 2147483648 = b' := ⟨_, rfl⟩
          rw [eb'] at hT'
          have hT := hT'
          clear hT'
          have hb9 : b' ≤ 100 * 274877906944 := by omega
          have hb8 : b' ≤ (k : Int) * 274877906944 + 274877906944 + 40 * 2147483648 := by omega
          clear eb'
          have c1 : decide (k < n3) = false := by simp; omega
          have c2 : decide ((k : Int) < (n3 : Int)) = false := by simp; omega
          have HT0 := hid hT
          clear hT
          go_upto_region 19 with fail
          have hT := HT0.out
          clear HT0 c1 c2
          obtain ⟨X0, eX0⟩ : ∃ X, Y1 = X := ⟨_, rfl⟩
          rw [eX0] at hT ⊢
          clear eX0
          obtain ⟨b, eb⟩ : ∃ b, b' = b := ⟨_, rfl⟩
          rw [eb] at hT
          have hb7 : b ≤ (k : Int) * 274877906944 + 274877906944 + 80 * 2147483648 := by omega
          clear eb hb8 hb9
          obtain ⟨aq, cq, evq⟩ := hT.blk.2
          subst evq
          obtain ⟨ax, cx, evs⟩ := hT.swap.blk.2
          subst evs
          have HT := hid hT
          clear hT
          generalize L' = L at HT
          generalize f' = f at HT
          generalize L2 = Ls at HT
          generalize f2 = fs at HT
          have hT := HT.out
          have hd : Below X0.heap.size X0 X0.drew := (Below.refl _ _).drew
          have hTd := hT.below hd
          have rq0 := hTd.blk.1
          have rs0 := hTd.swap.blk.1
          have hr1 := hTd.root HS.out (by omega)
          obtain ⟨C1, e1⟩ : ∃ C, treeV f L (m : Nat) = C := ⟨_, rfl⟩
          obtain ⟨C2, e2⟩ : ∃ C, treeV fs Ls (m : Nat) = C := ⟨_, rfl⟩
          rw [e1] at hr1
          have HSS := hid (And.intro rq0 rs0)
          have HR1 := hid hr1
          have E1 := hid e1
          have E2 := hid e2
          have HLQ : Hid (∀ X : World, X.heap[q]? = some (.cells (rtA m (.slice aq L cq)) 28) → (lv28 ⟨q, 0, none⟩).run Tryd.prog X = .ok (.agg (rtA m (.slice aq L cq))) X ∧ X.cell? ⟨q, 1, none⟩ = some (.slice aq L cq)) := fun X h => ⟨lv28_run h, (row_cell h 1).trans rfl⟩
          have HLS : Hid (∀ X : World, X.heap[s]? = some (.cells (rtA m (.slice ax Ls cx)) 28) → (lv28 ⟨s, 0, none⟩).run Tryd.prog X = .ok (.agg (rtA m (.slice ax Ls cx))) X ∧ X.cell? ⟨s, 1, none⟩ = some (.slice ax Ls cx)) := fun X h => ⟨lv28_run h, (row_cell h 1).trans rfl⟩
          clear hT hd hTd rq0 rs0 hr1 e1 e2 HT
          refine wp_region_noPanic ?_
          refine wp_region_held_drew (S := fun X => X.heap[q]? = some (.cells (rtA m (.slice aq L cq)) 28) ∧ X.heap[s]? = some (.cells (rtA m (.slice ax Ls cx)) 28)) (by kernel_rfl) (HSS.out) (fun hHeld => ?_)
          refine wpAnyH_take (i := 0) (v := ?v32) rfl (by kernel_rfl) (by kernel_rfl) (by kernel_rfl) (fun _ _ _ h => h) (Or.inl ⟨by rfl, ?hy32⟩) hHeld ?rest32
          case hy32 =>
            intro w hSw
            go_simp
            try with_reducible rfl
          try simp only [Act.put, List.setIfInBounds_toArray, List.set_cons_zero, List.set_cons_succ, Array.toArray_toList, List.getElem_toArray, List.getElem_cons_zero, List.getElem_cons_succ]
          refine wpAnyH_take (i := 2) (v := ?v33) rfl (by kernel_rfl) (by kernel_rfl) (by kernel_rfl) (fun _ _ _ h => h) (Or.inl ⟨by rfl, ?hy33⟩) hHeld ?rest33
          case hy33 =>
            intro w hSw
            have ld := (HLQ.out _ hSw.1).1
            go_simp
            try with_reducible rfl
          try simp only [Act.put, List.setIfInBounds_toArray, List.set_cons_zero, List.set_cons_succ, Array.toArray_toList, List.getElem_toArray, List.getElem_cons_zero, List.getElem_cons_succ]
          refine wpAnyH_ready (rs := [1]) (by kernel_rfl) (by simp) ?_
          refine AllReadyH.cons rfl (fun K hK => ?_) AllReadyH.nil
          go_simp
          refine (HR1.out).mono ?_
          rintro e X1 ⟨rfl, hT1, k1, k2⟩
          dsimp only
          have S1 := hid (And.intro (k1.trans HSS.out.1) (k2.trans HSS.out.2))
          have hrr1 := hT1.rroot HC.out
          rw [E1.out] at hrr1
          have HRR1 := hid hrr1
          have HT1 := hid hT1
          clear hrr1 hT1 k1 k2
          refine hK.out _ _ (S1.out) (fun hHeld => ?_)
          clear hK K
          try simp only [Act.put, List.setIfInBounds_toArray, List.set_cons_zero, List.set_cons_succ, Array.toArray_toList, List.getElem_toArray, List.getElem_cons_zero, List.getElem_cons_succ]
          refine wpAnyH_ready (rs := [3]) (by kernel_rfl) (by simp) ?_
          refine AllReadyH.cons rfl (fun K hK => ?_) AllReadyH.nil
          go_simp
          refine (HRR1.out).mono ?_
          rintro e X2 ⟨rfl, hb2⟩
          dsimp only
          have S2 := hid (And.intro ((hb2.block q (Array.getElem?_eq_some_iff.1 S1.out.1).1).trans S1.out.1) ((hb2.block s (Array.getElem?_eq_some_iff.1 S1.out.2).1).trans S1.out.2))
          have hT2 := HT1.out.below hb2
          have hr2 := hT2.swap.root HS.out (by omega)
          rw [E2.out] at hr2
          have HR2 := hid hr2
          clear hT2 hr2 hb2
          refine hK.out _ _ (S2.out) (fun hHeld => ?_)
          clear hK K
          try simp only [Act.put, List.setIfInBounds_toArray, List.set_cons_zero, List.set_cons_succ, Array.toArray_toList, List.getElem_toArray, List.getElem_cons_zero, List.getElem_cons_succ]
          refine wpAnyH_take (i := 4) rfl (by kernel_rfl) (by kernel_rfl) (by kernel_rfl) (fun _ _ _ h => h) (yields_neo (by rfl) _ _ _ rfl C1 C1 rfl rfl) hHeld ?_
          rw [eqR_self, Bool.not_true]
          try simp only [Act.put, List.setIfInBounds_toArray, List.set_cons_zero, List.set_cons_succ, Array.toArray_toList, List.getElem_toArray, List.getElem_cons_zero, List.getElem_cons_succ]
          refine wpAnyH_take (i := 5) (v := ?v34) rfl (by kernel_rfl) (by kernel_rfl) (by kernel_rfl) (fun _ _ _ h => h) (Or.inl ⟨by rfl, ?hy34⟩) hHeld ?rest34
          case hy34 =>
            intro w hSw
            go_simp
            try with_reducible rfl
          try simp only [Act.put, List.setIfInBounds_toArray, List.set_cons_zero, List.set_cons_succ, Array.toArray_toList, List.getElem_toArray, List.getElem_cons_zero, List.getElem_cons_succ]
          refine wpAnyH_take (i := 6) (v := ?v35) rfl (by kernel_rfl) (by kernel_rfl) (by kernel_rfl) (fun _ _ _ h => h) (Or.inl ⟨by rfl, ?hy35⟩) hHeld ?rest35
          case hy35 =>
            intro w hSw
            go_simp
            try with_reducible rfl
          try simp only [Act.put, List.setIfInBounds_toArray, List.set_cons_zero, List.set_cons_succ, Array.toArray_toList, List.getElem_toArray, List.getElem_cons_zero, List.getElem_cons_succ]
          refine wpAnyH_take (i := 8) (v := ?v36) rfl (by kernel_rfl) (by kernel_rfl) (by kernel_rfl) (fun _ _ _ h => h) (Or.inl ⟨by rfl, ?hy36⟩) hHeld ?rest36
          case hy36 =>
            intro w hSw
            have ld := (HLS.out _ hSw.2).1
            go_simp
            try with_reducible rfl
          try simp only [Act.put, List.setIfInBounds_toArray, List.set_cons_zero, List.set_cons_succ, Array.toArray_toList, List.getElem_toArray, List.getElem_cons_zero, List.getElem_cons_succ]
          refine wpAnyH_ready (rs := [7]) (by kernel_rfl) (by simp) ?_
          refine AllReadyH.cons rfl (fun K hK => ?_) AllReadyH.nil
          go_simp
          refine (HR2.out).mono ?_
          rintro e X3 ⟨rfl, hT3, k1, k2⟩
          dsimp only
          have S3 := hid (And.intro (k2.trans S2.out.1) (k1.trans S2.out.2))
          have hrr3 := hT3.rroot HC.out
          rw [E2.out] at hrr3
          have HRR3 := hid hrr3
          have HT3 := hid hT3
          clear hrr3 hT3 k1 k2
          refine hK.out _ _ (S3.out) (fun hHeld => ?_)
          clear hK K
          try simp only [Act.put, List.setIfInBounds_toArray, List.set_cons_zero, List.set_cons_succ, Array.toArray_toList, List.getElem_toArray, List.getElem_cons_zero, List.getElem_cons_succ]
          refine wpAnyH_ready (rs := [9]) (by kernel_rfl) (by simp) ?_
          refine AllReadyH.cons rfl (fun K hK => ?_) AllReadyH.nil
          go_simp
          refine (HRR3.out).mono ?_
          rintro e X4 ⟨rfl, hb4⟩
          dsimp only
          have S4 := hid (And.intro ((hb4.block q (Array.getElem?_eq_some_iff.1 S3.out.1).1).trans S3.out.1) ((hb4.block s (Array.getElem?_eq_some_iff.1 S3.out.2).1).trans S3.out.2))
          have hT4 := (HT3.out.below hb4).swap
          have HT4 := hid hT4
          have HLE := hid hT4.len
          have HLF := hid hT4.swap.len
          clear hT4 hb4
          refine hK.out _ _ (S4.out) (fun hHeld => ?_)
          clear hK K
          try simp only [Act.put, List.setIfInBounds_toArray, List.set_cons_zero, List.set_cons_succ, Array.toArray_toList, List.getElem_toArray, List.getElem_cons_zero, List.getElem_cons_succ]
          refine wpAnyH_take (i := 10) rfl (by kernel_rfl) (by kernel_rfl) (by kernel_rfl) (fun _ _ _ h => h) (yields_neo (by rfl) _ _ _ rfl C2 C2 rfl rfl) hHeld ?_
          rw [eqR_self, Bool.not_true]
          try simp only [Act.put, List.setIfInBounds_toArray, List.set_cons_zero, List.set_cons_succ, Array.toArray_toList, List.getElem_toArray, List.getElem_cons_zero, List.getElem_cons_succ]
          refine wpAnyH_take (i := 11) (v := ?v37) rfl (by kernel_rfl) (by kernel_rfl) (by kernel_rfl) (fun _ _ _ h => h) (Or.inl ⟨by rfl, ?hy37⟩) hHeld ?rest37
          case hy37 =>
            intro w hSw
            go_simp
            try with_reducible rfl
          try simp only [Act.put, List.setIfInBounds_toArray, List.set_cons_zero, List.set_cons_succ, Array.toArray_toList, List.getElem_toArray, List.getElem_cons_zero, List.getElem_cons_succ]
          refine wpAnyH_take (i := 12) (v := ?v38) rfl (by kernel_rfl) (by kernel_rfl) (by kernel_rfl) (fun _ _ _ h => h) (Or.inl ⟨by rfl, ?hy38⟩) hHeld ?rest38
          case hy38 =>
            intro w hSw
            go_simp
            try with_reducible rfl
          try simp only [Act.put, List.setIfInBounds_toArray, List.set_cons_zero, List.set_cons_succ, Array.toArray_toList, List.getElem_toArray, List.getElem_cons_zero, List.getElem_cons_succ]
          refine wpAnyH_take (i := 13) (v := ?v39) rfl (by kernel_rfl) (by kernel_rfl) (by kernel_rfl) (fun _ _ _ h => h) (Or.inl ⟨by rfl, ?hy39⟩) hHeld ?rest39
          case hy39 =>
            intro w hSw
            go_simp
            try with_reducible rfl
          try simp only [Act.put, List.setIfInBounds_toArray, List.set_cons_zero, List.set_cons_succ, Array.toArray_toList, List.getElem_toArray, List.getElem_cons_zero, List.getElem_cons_succ]
          refine wpAnyH_take (i := 15) (v := ?v40) rfl (by kernel_rfl) (by kernel_rfl) (by kernel_rfl) (fun _ _ _ h => h) (Or.inl ⟨by rfl, ?hy40⟩) hHeld ?rest40
          case hy40 =>
            intro w hSw
            go_simp
            try with_reducible rfl
          try simp only [Act.put, List.setIfInBounds_toArray, List.set_cons_zero, List.set_cons_succ, Array.toArray_toList, List.getElem_toArray, List.getElem_cons_zero, List.getElem_cons_succ]
          refine wpAnyH_take (i := 16) (v := ?v41) rfl (by kernel_rfl) (by kernel_rfl) (by kernel_rfl) (fun _ _ _ h => h) (Or.inl ⟨by rfl, ?hy41⟩) hHeld ?rest41
          case hy41 =>
            intro w hSw
            have ld := (HLQ.out _ hSw.1).2
            go_simp
            try with_reducible rfl
          try simp only [Act.put, List.setIfInBounds_toArray, List.set_cons_zero, List.set_cons_succ, Array.toArray_toList, List.getElem_toArray, List.getElem_cons_zero, List.getElem_cons_succ]
          refine wpAnyH_take (i := 17) (v := ?v42) rfl (by kernel_rfl) (by kernel_rfl) (by kernel_rfl) (fun _ _ _ h => h) (Or.inl ⟨by rfl, ?hy42⟩) hHeld ?rest42
          case hy42 =>
            intro w hSw
            go_simp
            try with_reducible rfl
          try simp only [Act.put, List.setIfInBounds_toArray, List.set_cons_zero, List.set_cons_succ, Array.toArray_toList, List.getElem_toArray, List.getElem_cons_zero, List.getElem_cons_succ]
          refine wpAnyH_ready (rs := [14]) (by kernel_rfl) (by simp) ?_
          refine AllReadyH.cons rfl (fun K hK => ?_) AllReadyH.nil
          go_simp
          refine (HLE.out).mono ?_
          rintro e X5 ⟨rfl, hx5⟩
          dsimp only
          obtain rfl := hx5.symm
          refine hK.out _ _ (S4.out) (fun hHeld => ?_)
          clear hK K
          try simp only [Act.put, List.setIfInBounds_toArray, List.set_cons_zero, List.set_cons_succ, Array.toArray_toList, List.getElem_toArray, List.getElem_cons_zero, List.getElem_cons_succ]
          refine wpAnyH_take (i := 18) (v := ?v43) rfl (by kernel_rfl) (by kernel_rfl) (by kernel_rfl) (fun _ _ _ h => h) (Or.inl ⟨by rfl, ?hy43⟩) hHeld ?rest43
          case hy43 =>
            intro w hSw
            go_simp
            try with_reducible rfl
          try simp only [Act.put, List.setIfInBounds_toArray, List.set_cons_zero, List.set_cons_succ, Array.toArray_toList, List.getElem_toArray, List.getElem_cons_zero, List.getElem_cons_succ]
          refine wpAnyH_take (i := 19) (v := ?v44) rfl (by kernel_rfl) (by kernel_rfl) (by kernel_rfl) (fun _ _ _ h => h) (Or.inl ⟨by rfl, ?hy44⟩) hHeld ?rest44
          case hy44 =>
            intro w hSw
            go_simp
            try with_reducible rfl
          try simp only [Act.put, List.setIfInBounds_toArray, List.set_cons_zero, List.set_cons_succ, Array.toArray_toList, List.getElem_toArray, List.getElem_cons_zero, List.getElem_cons_succ]
          refine wpAnyH_take (i := 20) (v := ?v45) rfl (by kernel_rfl) (by kernel_rfl) (by kernel_rfl) (fun _ _ _ h => h) (Or.inl ⟨by rfl, ?hy45⟩) hHeld ?rest45
          case hy45 =>
            intro w hSw
            go_simp
            try with_reducible rfl
          try simp only [Act.put, List.setIfInBounds_toArray, List.set_cons_zero, List.set_cons_succ, Array.toArray_toList, List.getElem_toArray, List.getElem_cons_zero, List.getElem_cons_succ]
          refine wpAnyH_take (i := 21) (v := ?v46) rfl (by kernel_rfl) (by kernel_rfl) (by kernel_rfl) (fun _ _ _ h => h) (Or.inl ⟨by rfl, ?hy46⟩) hHeld ?rest46
          case hy46 =>
            intro w hSw
            go_simp
            try with_reducible rfl
          try simp only [Act.put, List.setIfInBounds_toArray, List.set_cons_zero, List.set_cons_succ, Array.toArray_toList, List.getElem_toArray, List.getElem_cons_zero, List.getElem_cons_succ]
          refine wpAnyH_take (i := 23) (v := ?v47) rfl (by kernel_rfl) (by kernel_rfl) (by kernel_rfl) (fun _ _ _ h => h) (Or.inl ⟨by rfl, ?hy47⟩) hHeld ?rest47
          case hy47 =>
            intro w hSw
            go_simp
            try with_reducible rfl
          try simp only [Act.put, List.setIfInBounds_toArray, List.set_cons_zero, List.set_cons_succ, Array.toArray_toList, List.getElem_toArray, List.getElem_cons_zero, List.getElem_cons_succ]
          refine wpAnyH_take (i := 24) (v := ?v48) rfl (by kernel_rfl) (by kernel_rfl) (by kernel_rfl) (fun _ _ _ h => h) (Or.inl ⟨by rfl, ?hy48⟩) hHeld ?rest48
          case hy48 =>
            intro w hSw
            have ld := (HLS.out _ hSw.2).2
            go_simp
            try with_reducible rfl
          try simp only [Act.put, List.setIfInBounds_toArray, List.set_cons_zero, List.set_cons_succ, Array.toArray_toList, List.getElem_toArray, List.getElem_cons_zero, List.getElem_cons_succ]
          refine wpAnyH_take (i := 25) (v := ?v49) rfl (by kernel_rfl) (by kernel_rfl) (by kernel_rfl) (fun _ _ _ h => h) (Or.inl ⟨by rfl, ?hy49⟩) hHeld ?rest49
          case hy49 =>
            intro w hSw
            go_simp
            try with_reducible rfl
          try simp only [Act.put, List.setIfInBounds_toArray, List.set_cons_zero, List.set_cons_succ, Array.toArray_toList, List.getElem_toArray, List.getElem_cons_zero, List.getElem_cons_succ]
          refine wpAnyH_ready (rs := [22]) (by kernel_rfl) (by simp) ?_
          refine AllReadyH.cons rfl (fun K hK => ?_) AllReadyH.nil
          go_simp
          refine (HLF.out).mono ?_
          rintro e X6 ⟨rfl, hx6⟩
          dsimp only
          obtain rfl := hx6.symm
          refine hK.out _ _ (S4.out) (fun hHeld => ?_)
          clear hK K
          try simp only [Act.put, List.setIfInBounds_toArray, List.set_cons_zero, List.set_cons_succ, Array.toArray_toList, List.getElem_toArray, List.getElem_cons_zero, List.getElem_cons_succ]
          refine wpAnyH_take (i := 26) (v := ?v50) rfl (by kernel_rfl) (by kernel_rfl) (by kernel_rfl) (fun _ _ _ h => h) (Or.inl ⟨by rfl, ?hy50⟩) hHeld ?rest50
          case hy50 =>
            intro w hSw
            go_simp
            try with_reducible rfl
          try simp only [Act.put, List.setIfInBounds_toArray, List.set_cons_zero, List.set_cons_succ, Array.toArray_toList, List.getElem_toArray, List.getElem_cons_zero, List.getElem_cons_succ]
          refine wpAnyH_take (i := 27) (v := ?v51) rfl (by kernel_rfl) (by kernel_rfl) (by kernel_rfl) (fun _ _ _ h => h) (Or.inl ⟨by rfl, ?hy51⟩) hHeld ?rest51
          case hy51 =>
            intro w hSw
            go_simp
            try with_reducible rfl
          try simp only [Act.put, List.setIfInBounds_toArray, List.set_cons_zero, List.set_cons_succ, Array.toArray_toList, List.getElem_toArray, List.getElem_cons_zero, List.getElem_cons_succ]
          refine wpAnyH_done (by kernel_rfl) ?_ _
          refine NoPanic.normal ?_
          clear HSS S1 S2 S3 S4 HR1 HR2 HRR1 HRR3 HT1 HT3 HLE HLF HLQ HLS E1 E2
          go_wp2
          go_roundw
          case rel => exact ⟨k + 1, _, _, _, _, _, _, by omega, by go_num, HT4.out.le (by omega)⟩
          case measure => simp [intOf]; omega
      · by_cases hoth : k < n3
        · have c1 : decide (k < n2) = false := by simp; omega
          have c2 : decide ((k : Int) < (n2 : Int)) = false := by simp; omega
          have HT0 := hid hT
          clear hT
          go_upto_region 17 with fail
          have hT := HT0.out
          clear HT0 c1 c2
          obtain ⟨b', eb'⟩ : ∃ b', (k : Int) * 274877906944 + 274877906944 = b' := ⟨_, rfl⟩
          rw [eb'] at hT
          have hb9 : b' ≤ 100 * 274877906944 := by omega
          have hb8 : b' ≤ (k : Int) * 274877906944 + 274877906944 + 40 * 2147483648 := by omega
          clear eb'
          have c1 : decide (k < n3) = true := by simp; omega
          have c2 : decide ((k : Int) < (n3 : Int)) = true := by simp; omega
          obtain ⟨b3, o3, ea3, hc3⟩ := HCL3.out.one k hoth
          have hsl := fun W => slO_run W b3 o3 n3 p3 k hoth l3
          have hru := hT.swap.run HS.out (by omega) (some ⟨b3, o3 + 34 * k, none⟩) 1 (p3 - k) _ _ _ hc3 (fun _ => HRG3.out k) (by omega)
          have HRU := hid hru
          subst ea3
          clear hru hT hc3
          go_upto_region 19 with (go_at_call 22; refine HRU.out.mono ?_; rintro e X0 ⟨rfl, L'', f'', v'', hT''⟩)
          clear hsl HRU c1 c2
          have hT := hT''.swap
          clear hT''
          obtain ⟨b, eb⟩ : ∃ b, b' + 40 * 2147483648 = b := ⟨_, rfl⟩
          rw [eb] at hT
          have hb7 : b ≤ (k : Int) * 274877906944 + 274877906944 + 80 * 2147483648 := by omega
          clear eb hb8 hb9
          obtain ⟨aq, cq, evq⟩ := hT.blk.2
          subst evq
          obtain ⟨ax, cx, evs⟩ := hT.swap.blk.2
          subst evs
          have HT := hid hT
          clear hT
          generalize L1 = L at HT
          generalize f1 = f at HT
          generalize L'' = Ls at HT
          generalize f'' = fs at HT
          have hT := HT.out
          have hd : Below X0.heap.size X0 X0.drew := (Below.refl _ _).drew
          have hTd := hT.below hd
          have rq0 := hTd.blk.1
          have rs0 := hTd.swap.blk.1
          have hr1 := hTd.root HS.out (by omega)
          obtain ⟨C1, e1⟩ : ∃ C, treeV f L (m : Nat) = C := ⟨_, rfl⟩
          obtain ⟨C2, e2⟩ : ∃ C, treeV fs Ls (m : Nat) = C := ⟨_, rfl⟩
          rw [e1] at hr1
          have HSS := hid (And.intro rq0 rs0)
          have HR1 := hid hr1
          have E1 := hid e1
          have E2 := hid e2
          have HLQ : Hid (∀ X : World, X.heap[q]? = some (.cells (rtA m (.slice aq L cq)) 28) → (lv28 ⟨q, 0, none⟩).run Tryd.prog X = .ok (.agg (rtA m (.slice aq L cq))) X ∧ X.cell? ⟨q, 1, none⟩ = some (.slice aq L cq)) := fun X h => ⟨lv28_run h, (row_cell h 1).trans rfl⟩
          have HLS : Hid (∀ X : World, X.heap[s]? = some (.cells (rtA m (.slice ax Ls cx)) 28) → (lv28 ⟨s, 0, none⟩).run Tryd.prog X = .ok (.agg (rtA m (.slice ax Ls cx))) X ∧ X.cell? ⟨s, 1, none⟩ = some (.slice ax Ls cx)) := fun X h => ⟨lv28_run h, (row_cell h 1).trans rfl⟩
          clear hT hd hTd rq0 rs0 hr1 e1 e2 HT
          refine wp_region_noPanic ?_
          refine wp_region_held_drew (S := fun X => X.heap[q]? = some (.cells (rtA m (.slice aq L cq)) 28) ∧ X.heap[s]? = some (.cells (rtA m (.slice ax Ls cx)) 28)) (by kernel_rfl) (HSS.out) (fun hHeld => ?_)
          refine wpAnyH_take (i := 0) (v := ?v52) rfl (by kernel_rfl) (by kernel_rfl) (by kernel_rfl) (fun _ _ _ h => h) (Or.inl ⟨by rfl, ?hy52⟩) hHeld ?rest52
          case hy52 =>
            intro w hSw
            go_simp
            try with_reducible rfl
          try simp only [Act.put, List.setIfInBounds_toArray, List.set_cons_zero, List.set_cons_succ, Array.toArray_toList, List.getElem_toArray, List.getElem_cons_zero, List.getElem_cons_succ]
          refine wpAnyH_take (i := 2) (v := ?v53) rfl (by kernel_rfl) (by kernel_rfl) (by kernel_rfl) (fun _ _ _ h => h) (Or.inl ⟨by rfl, ?hy53⟩) hHeld ?rest53
          case hy53 =>
            intro w hSw
            have ld := (HLQ.out _ hSw.1).1
            go_simp
            try with_reducible rfl
          try simp only [Act.put, List.setIfInBounds_toArray, List.set_cons_zero, List.set_cons_succ, Array.toArray_toList, List.getElem_toArray, List.getElem_cons_zero, List.getElem_cons_succ]
          refine wpAnyH_ready (rs := [1]) (by kernel_rfl) (by simp) ?_
          refine AllReadyH.cons rfl (fun K hK => ?_) AllReadyH.nil
          go_simp
          refine (HR1.out).mono ?_
          rintro e X1 ⟨rfl, hT1, k1, k2⟩
          dsimp only
          have S1 := hid (And.intro (k1.trans HSS.out.1) (k2.trans HSS.out.2))
          have hrr1 := hT1.rroot HC.out
          rw [E1.out] at hrr1
          have HRR1 := hid hrr1
          have HT1 := hid hT1
          clear hrr1 hT1 k1 k2
          refine hK.out _ _ (S1.out) (fun hHeld => ?_)
          clear hK K
          try simp only [Act.put, List.setIfInBounds_toArray, List.set_cons_zero, List.set_cons_succ, Array.toArray_toList, List.getElem_toArray, List.getElem_cons_zero, List.getElem_cons_succ]
          refine wpAnyH_ready (rs := [3]) (by kernel_rfl) (by simp) ?_
          refine AllReadyH.cons rfl (fun K hK => ?_) AllReadyH.nil
          go_simp
          refine (HRR1.out).mono ?_
          rintro e X2 ⟨rfl, hb2⟩
          dsimp only
          have S2 := hid (And.intro ((hb2.block q (Array.getElem?_eq_some_iff.1 S1.out.1).1).trans S1.out.1) ((hb2.block s (Array.getElem?_eq_some_iff.1 S1.out.2).1).trans S1.out.2))
          have hT2 := HT1.out.below hb2
          have hr2 := hT2.swap.root HS.out (by omega)
          rw [E2.out] at hr2
          have HR2 := hid hr2
          clear hT2 hr2 hb2
          refine hK.out _ _ (S2.out) (fun hHeld => ?_)
          clear hK K
          try simp only [Act.put, List.setIfInBounds_toArray, List.set_cons_zero, List.set_cons_succ, Array.toArray_toList, List.getElem_toArray, List.getElem_cons_zero, List.getElem_cons_succ]
          refine wpAnyH_take (i := 4) rfl (by kernel_rfl) (by kernel_rfl) (by kernel_rfl) (fun _ _ _ h => h) (yields_neo (by rfl) _ _ _ rfl C1 C1 rfl rfl) hHeld ?_
          rw [eqR_self, Bool.not_true]
          try simp only [Act.put, List.setIfInBounds_toArray, List.set_cons_zero, List.set_cons_succ, Array.toArray_toList, List.getElem_toArray, List.getElem_cons_zero, List.getElem_cons_succ]
          refine wpAnyH_take (i := 5) (v := ?v54) rfl (by kernel_rfl) (by kernel_rfl) (by kernel_rfl) (fun _ _ _ h => h) (Or.inl ⟨by rfl, ?hy54⟩) hHeld ?rest54
          case hy54 =>
            intro w hSw
            go_simp
            try with_reducible rfl
          try simp only [Act.put, List.setIfInBounds_toArray, List.set_cons_zero, List.set_cons_succ, Array.toArray_toList, List.getElem_toArray, List.getElem_cons_zero, List.getElem_cons_succ]
          refine wpAnyH_take (i := 6) (v := ?v55) rfl (by kernel_rfl) (by kernel_rfl) (by kernel_rfl) (fun _ _ _ h => h) (Or.inl ⟨by rfl, ?hy55⟩) hHeld ?rest55
          case hy55 =>
            intro w hSw
            go_simp
            try with_reducible rfl
          try simp only [Act.put, List.setIfInBounds_toArray, List.set_cons_zero, List.set_cons_succ, Array.toArray_toList, List.getElem_toArray, List.getElem_cons_zero, List.getElem_cons_succ]
          refine wpAnyH_take (i := 8) (v := ?v56) rfl (by kernel_rfl) (by kernel_rfl) (by kernel_rfl) (fun _ _ _ h => h) (Or.inl ⟨by rfl, ?hy56⟩) hHeld ?rest56
          case hy56 =>
            intro w hSw
            have ld := (HLS.out _ hSw.2).1
            go_simp
            try with_reducible rfl
          try simp only [Act.put, List.setIfInBounds_toArray, List.set_cons_zero, List.set_cons_succ, Array.toArray_toList, List.getElem_toArray, List.getElem_cons_zero, List.getElem_cons_succ]
          refine wpAnyH_ready (rs := [7]) (by kernel_rfl) (by simp) ?_
          refine AllReadyH.cons rfl (fun K hK => ?_) AllReadyH.nil
          go_simp
          refine (HR2.out).mono ?_
          rintro e X3 ⟨rfl, hT3, k1, k2⟩
          dsimp only
          have S3 := hid (And.intro (k2.trans S2.out.1) (k1.trans S2.out.2))
          have hrr3 := hT3.rroot HC.out
          rw [E2.out] at hrr3
          have HRR3 := hid hrr3
          have HT3 := hid hT3
          clear hrr3 hT3 k1 k2
          refine hK.out _ _ (S3.out) (fun hHeld => ?_)
          clear hK K
          try simp only [Act.put, List.setIfInBounds_toArray, List.set_cons_zero, List.set_cons_succ, Array.toArray_toList, List.getElem_toArray, List.getElem_cons_zero, List.getElem_cons_succ]
          refine wpAnyH_ready (rs := [9]) (by kernel_rfl) (by simp) ?_
          refine AllReadyH.cons rfl (fun K hK => ?_) AllReadyH.nil
          go_simp
          refine (HRR3.out).mono ?_
          rintro e X4 ⟨rfl, hb4⟩
          dsimp only
          have S4 := hid (And.intro ((hb4.block q (Array.getElem?_eq_some_iff.1 S3.out.1).1).trans S3.out.1) ((hb4.block s (Array.getElem?_eq_some_iff.1 S3.out.2).1).trans S3.out.2))
          have hT4 := (HT3.out.below hb4).swap
          have HT4 := hid hT4
          have HLE := hid hT4.len
          have HLF := hid hT4.swap.len
          clear hT4 hb4
          refine hK.out _ _ (S4.out) (fun hHeld => ?_)
          clear hK K
          try simp only [Act.put, List.setIfInBounds_toArray, List.set_cons_zero, List.set_cons_succ, Array.toArray_toList, List.getElem_toArray, List.getElem_cons_zero, List.getElem_cons_succ]
          refine wpAnyH_take (i := 10) rfl (by kernel_rfl) (by kernel_rfl) (by kernel_rfl) (fun _ _ _ h => h) (yields_neo (by rfl) _ _ _ rfl C2 C2 rfl rfl) hHeld ?_
          rw [eqR_self, Bool.not_true]
          try simp only [Act.put, List.setIfInBounds_toArray, List.set_cons_zero, List.set_cons_succ, Array.toArray_toList, List.getElem_toArray, List.getElem_cons_zero, List.getElem_cons_succ]
          refine wpAnyH_take (i := 11) (v := ?v57) rfl (by kernel_rfl) (by kernel_rfl) (by kernel_rfl) (fun _ _ _ h => h) (Or.inl ⟨by rfl, ?hy57⟩) hHeld ?rest57
          case hy57 =>
            intro w hSw
            go_simp
            try with_reducible rfl
          try simp only [Act.put, List.setIfInBounds_toArray, List.set_cons_zero, List.set_cons_succ, Array.toArray_toList, List.getElem_toArray, List.getElem_cons_zero, List.getElem_cons_succ]
          refine wpAnyH_take (i := 12) (v := ?v58) rfl (by kernel_rfl) (by kernel_rfl) (by kernel_rfl) (fun _ _ _ h => h) (Or.inl ⟨by rfl, ?hy58⟩) hHeld ?rest58
          case hy58 =>
            intro w hSw
            go_simp
            try with_reducible rfl
          try simp only [Act.put, List.setIfInBounds_toArray, List.set_cons_zero, List.set_cons_succ, Array.toArray_toList, List.getElem_toArray, List.getElem_cons_zero, List.getElem_cons_succ]
          refine wpAnyH_take (i := 13) (v := ?v59) rfl (by kernel_rfl) (by kernel_rfl) (by kernel_rfl) (fun _ _ _ h => h) (Or.inl ⟨by rfl, ?hy59⟩) hHeld ?rest59
          case hy59 =>
            intro w hSw
            go_simp
            try with_reducible rfl
          try simp only [Act.put, List.setIfInBounds_toArray, List.set_cons_zero, List.set_cons_succ, Array.toArray_toList, List.getElem_toArray, List.getElem_cons_zero, List.getElem_cons_succ]
          refine wpAnyH_take (i := 15) (v := ?v60) rfl (by kernel_rfl) (by kernel_rfl) (by kernel_rfl) (fun _ _ _ h => h) (Or.inl ⟨by rfl, ?hy60⟩) hHeld ?rest60
          case hy60 =>
            intro w hSw
            go_simp
            try with_reducible rfl
          try simp only [Act.put, List.setIfInBounds_toArray, List.set_cons_zero, List.set_cons_succ, Array.toArray_toList, List.getElem_toArray, List.getElem_cons_zero, List.getElem_cons_succ]
          refine wpAnyH_take (i := 16) (v := ?v61) rfl (by kernel_rfl) (by kernel_rfl) (by kernel_rfl) (fun _ _ _ h => h) (Or.inl ⟨by rfl, ?hy61⟩) hHeld ?rest61
          case hy61 =>
            intro w hSw
            have ld := (HLQ.out _ hSw.1).2
            go_simp
            try with_reducible rfl
          try simp only [Act.put, List.setIfInBounds_toArray, List.set_cons_zero, List.set_cons_succ, Array.toArray_toList, List.getElem_toArray, List.getElem_cons_zero, List.getElem_cons_succ]
          refine wpAnyH_take (i := 17) (v := ?v62) rfl (by kernel_rfl) (by kernel_rfl) (by kernel_rfl) (fun _ _ _ h => h) (Or.inl ⟨by rfl, ?hy62⟩) hHeld ?rest62
          case hy62 =>
            intro w hSw
            go_simp
            try with_reducible rfl
          try simp only [Act.put, List.setIfInBounds_toArray, List.set_cons_zero, List.set_cons_succ, Array.toArray_toList, List.getElem_toArray, List.getElem_cons_zero, List.getElem_cons_succ]
          refine wpAnyH_ready (rs := [14]) (by kernel_rfl) (by simp) ?_
          refine AllReadyH.cons rfl (fun K hK => ?_) AllReadyH.nil
          go_simp
          refine (HLE.out).mono ?_
          rintro e X5 ⟨rfl, hx5⟩
          dsimp only
          obtain rfl := hx5.symm
          refine hK.out _ _ (S4.out) (fun hHeld => ?_)
          clear hK K
          try simp only [Act.put, List.setIfInBounds_toArray, List.set_cons_zero, List.set_cons_succ, Array.toArray_toList, List.getElem_toArray, List.getElem_cons_zero, List.getElem_cons_succ]
          refine wpAnyH_take (i := 18) (v := ?v63) rfl (by kernel_rfl) (by kernel_rfl) (by kernel_rfl) (fun _ _ _ h => h) (Or.inl ⟨by rfl, ?hy63⟩) hHeld ?rest63
          case hy63 =>
            intro w hSw
            go_simp
            try with_reducible rfl
          try simp only [Act.put, List.setIfInBounds_toArray, List.set_cons_zero, List.set_cons_succ, Array.toArray_toList, List.getElem_toArray, List.getElem_cons_zero, List.getElem_cons_succ]
          refine wpAnyH_take (i := 19) (v := ?v64) rfl (by kernel_rfl) (by kernel_rfl) (by kernel_rfl) (fun _ _ _ h => h) (Or.inl ⟨by rfl, ?hy64⟩) hHeld ?rest64
          case hy64 =>
            intro w hSw
            go_simp
            try with_reducible rfl
          try simp only [Act.put, List.setIfInBounds_toArray, List.set_cons_zero, List.set_cons_succ, Array.toArray_toList, List.getElem_toArray, List.getElem_cons_zero, List.getElem_cons_succ]
          refine wpAnyH_take (i := 20) (v := ?v65) rfl (by kernel_rfl) (by kernel_rfl) (by kernel_rfl) (fun _ _ _ h => h) (Or.inl ⟨by rfl, ?hy65⟩) hHeld ?rest65
          case hy65 =>
            intro w hSw
            go_simp
            try with_reducible rfl
          try simp only [Act.put, List.setIfInBounds_toArray, List.set_cons_zero, List.set_cons_succ, Array.toArray_toList, List.getElem_toArray, List.getElem_cons_zero, List.getElem_cons_succ]
          refine wpAnyH_take (i := 21) (v := ?v66) rfl (by kernel_rfl) (by kernel_rfl) (by kernel_rfl) (fun _ _ _ h => h) (Or.inl ⟨by rfl, ?hy66⟩) hHeld ?rest66
          case hy66 =>
            intro w hSw
            go_simp
            try with_reducible rfl
          try simp only [Act.put, List.setIfInBounds_toArray, List.set_cons_zero, List.set_cons_succ, Array.toArray_toList, List.getElem_toArray, List.getElem_cons_zero, List.getElem_cons_succ]
          refine wpAnyH_take (i := 23) (v := ?v67) rfl (by kernel_rfl) (by kernel_rfl) (by kernel_rfl) (fun _ _ _ h => h) (Or.inl ⟨by rfl, ?hy67⟩) hHeld ?rest67
          case hy67 =>
            intro w hSw
            go_simp
            try with_reducible rfl
          try simp only [Act.put, List.setIfInBounds_toArray, List.set_cons_zero, List.set_cons_succ, Array.toArray_toList, List.getElem_toArray, List.getElem_cons_zero, List.getElem_cons_succ]
          refine wpAnyH_take (i := 24) (v := ?v68) rfl (by kernel_rfl) (by kernel_rfl) (by kernel_rfl) (fun _ _ _ h => h) (Or.inl ⟨by rfl, ?hy68⟩) hHeld ?rest68
          case hy68 =>
            intro w hSw
            have ld := (HLS.out _ hSw.2).2
            go_simp
            try with_reducible rfl
          try simp only [Act.put, List.setIfInBounds_toArray, List.set_cons_zero, List.set_cons_succ, Array.toArray_toList, List.getElem_toArray, List.getElem_cons_zero, List.getElem_cons_succ]
          refine wpAnyH_take (i := 25) (v := ?v69) rfl (by kernel_rfl) (by kernel_rfl) (by kernel_rfl) (fun _ _ _ h => h) (Or.inl ⟨by rfl, ?hy69⟩) hHeld ?rest69
          case hy69 =>
            intro w hSw
            go_simp
            try with_reducible rfl
          try simp only [Act.put, List.setIfInBounds_toArray, List.set_cons_zero, List.set_cons_succ, Array.toArray_toList, List.getElem_toArray, List.getElem_cons_zero, List.getElem_cons_succ]
          refine wpAnyH_ready (rs := [22]) (by kernel_rfl) (by simp) ?_
          refine AllReadyH.cons rfl (fun K hK => ?_) AllReadyH.nil
          go_simp
          refine (HLF.out).mono ?_
          rintro e X6 ⟨rfl, hx6⟩
          dsimp only
          obtain rfl := hx6.symm
          refine hK.out _ _ (S4.out) (fun hHeld => ?_)
          clear hK K
          try simp only [Act.put, List.setIfInBounds_toArray, List.set_cons_zero, List.set_cons_succ, Array.toArray_toList, List.getElem_toArray, List.getElem_cons_zero, List.getElem_cons_succ]
          refine wpAnyH_take (i := 26) (v := ?v70) rfl (by kernel_rfl) (by kernel_rfl) (by kernel_rfl) (fun _ _ _ h => h) (Or.inl ⟨by rfl, ?hy70⟩) hHeld ?rest70
          case hy70 =>
            intro w hSw
            go_simp
            try with_reducible rfl
          try simp only [Act.put, List.setIfInBounds_toArray, List.set_cons_zero, List.set_cons_succ, Array.toArray_toList, List.getElem_toArray, List.getElem_cons_zero, List.getElem_cons_succ]
          refine wpAnyH_take (i := 27) (v := ?v71) rfl (by kernel_rfl) (by kernel_rfl) (by kernel_rfl) (fun _ _ _ h => h) (Or.inl ⟨by rfl, ?hy71⟩) hHeld ?rest71
          case hy71 =>
            intro w hSw
            go_simp
            try with_reducible rfl
          try simp only [Act.put, List.setIfInBounds_toArray, List.set_cons_zero, List.set_cons_succ, Array.toArray_toList, List.getElem_toArray, List.getElem_cons_zero, List.getElem_cons_succ]
          refine wpAnyH_done (by kernel_rfl) ?_ _
          refine NoPanic.normal ?_
          clear HSS S1 S2 S3 S4 HR1 HR2 HRR1 HRR3 HT1 HT3 HLE HLF HLQ HLS E1 E2
          go_wp2
          go_roundw
          case rel => exact ⟨k + 1, _, _, _, _, _, _, by omega, by go_num, HT4.out.le (by omega)⟩
          case measure => simp [intOf]; omega
        · have c1 : decide (k < n2) = false := by simp; omega
          have c2 : decide ((k : Int) < (n2 : Int)) = false := by simp; omega
          have HT0 := hid hT
          clear hT
          go_upto_region 17 with fail
          have hT := HT0.out
          clear HT0 c1 c2
          obtain ⟨b', eb'⟩ : ∃ b', (k : Int) * 274877906944 + 274877906944 = b' := ⟨_, rfl⟩
          rw [eb'] at hT
          have hb9 : b' ≤ 100 * 274877906944 := by omega
          have hb8 : b' ≤ (k : Int) * 274877906944 + 274877906944 + 40 * 2147483648 := by omega
          clear eb'
          have c1 : decide (k < n3) = false := by simp; omega
          have c2 : decide ((k : Int) < (n3 : Int)) = false := by simp; omega
          have HT0 := hid hT
          clear hT
          go_upto_region 19 with fail
          have hT := HT0.out
          clear HT0 c1 c2
          obtain ⟨X0, eX0⟩ : ∃ X, wr = X := ⟨_, rfl⟩
          rw [eX0] at hT ⊢
          clear eX0
          obtain ⟨b, eb⟩ : ∃ b, b' = b := ⟨_, rfl⟩
          rw [eb] at hT
          have hb7 : b ≤ (k : Int) * 274877906944 + 274877906944 + 80 * 2147483648 := by omega
          clear eb hb8 hb9
          obtain ⟨aq, cq, evq⟩ := hT.blk.2
          subst evq
          obtain ⟨ax, cx, evs⟩ := hT.swap.blk.2
          subst evs
          have HT := hid hT
          clear hT
          generalize L1 = L at HT
          generalize f1 = f at HT
          generalize L2 = Ls at HT
          generalize f2 = fs at HT
          have hT := HT.out
          have hd : Below X0.heap.size X0 X0.drew := (Below.refl _ _).drew
          have hTd := hT.below hd
          have rq0 := hTd.blk.1
          have rs0 := hTd.swap.blk.1
          have hr1 := hTd.root HS.out (by omega)
          obtain ⟨C1, e1⟩ : ∃ C, treeV f L (m : Nat) = C := ⟨_, rfl⟩
          obtain ⟨C2, e2⟩ : ∃ C, treeV fs Ls (m : Nat) = C := ⟨_, rfl⟩
          rw [e1] at hr1
          have HSS := hid (And.intro rq0 rs0)
          have HR1 := hid hr1
          have E1 := hid e1
          have E2 := hid e2
          have HLQ : Hid (∀ X : World, X.heap[q]? = some (.cells (rtA m (.slice aq L cq)) 28) → (lv28 ⟨q, 0, none⟩).run Tryd.prog X = .ok (.agg (rtA m (.slice aq L cq))) X ∧ X.cell? ⟨q, 1, none⟩ = some (.slice aq L cq)) := fun X h => ⟨lv28_run h, (row_cell h 1).trans rfl⟩
          have HLS : Hid (∀ X : World, X.heap[s]? = some (.cells (rtA m (.slice ax Ls cx)) 28) → (lv28 ⟨s, 0, none⟩).run Tryd.prog X = .ok (.agg (rtA m (.slice ax Ls cx))) X ∧ X.cell? ⟨s, 1, none⟩ = some (.slice ax Ls cx)) := fun X h => ⟨lv28_run h, (row_cell h 1).trans rfl⟩
          clear hT hd hTd rq0 rs0 hr1 e1 e2 HT
          refine wp_region_noPanic ?_
          refine wp_region_held_drew (S := fun X => X.heap[q]? = some (.cells (rtA m (.slice aq L cq)) 28) ∧ X.heap[s]? = some (.cells (rtA m (.slice ax Ls cx)) 28)) (by kernel_rfl) (HSS.out) (fun hHeld => ?_)
          refine wpAnyH_take (i := 0) (v := ?v72) rfl (by kernel_rfl) (by kernel_rfl) (by kernel_rfl) (fun _ _ _ h => h) (Or.inl ⟨by rfl, ?hy72⟩) hHeld ?rest72
          case hy72 =>
            intro w hSw
            go_simp
            try with_reducible rfl
          try simp only [Act.put, List.setIfInBounds_toArray, List.set_cons_zero, List.set_cons_succ, Array.toArray_toList, List.getElem_toArray, List.getElem_cons_zero, List.getElem_cons_succ]
          refine wpAnyH_take (i := 2) (v := ?v73) rfl (by kernel_rfl) (by kernel_rfl) (by kernel_rfl) (fun _ _ _ h => h) (Or.inl ⟨by rfl, ?hy73⟩) hHeld ?rest73
          case hy73 =>
            intro w hSw
            have ld := (HLQ.out _ hSw.1).1
            go_simp
            try with_reducible rfl
          try simp only [Act.put, List.setIfInBounds_toArray, List.set_cons_zero, List.set_cons_succ, Array.toArray_toList, List.getElem_toArray, List.getElem_cons_zero, List.getElem_cons_succ]
          refine wpAnyH_ready (rs := [1]) (by kernel_rfl) (by simp) ?_
          refine AllReadyH.cons rfl (fun K hK => ?_) AllReadyH.nil
          go_simp
          refine (HR1.out).mono ?_
          rintro e X1 ⟨rfl, hT1, k1, k2⟩
          dsimp only
          have S1 := hid (And.intro (k1.trans HSS.out.1) (k2.trans HSS.out.2))
          have hrr1 := hT1.rroot HC.out
          rw [E1.out] at hrr1
          have HRR1 := hid hrr1
          have HT1 := hid hT1
          clear hrr1 hT1 k1 k2
          refine hK.out _ _ (S1.out) (fun hHeld => ?_)
          clear hK K
          try simp only [Act.put, List.setIfInBounds_toArray, List.set_cons_zero, List.set_cons_succ, Array.toArray_toList, List.getElem_toArray, List.getElem_cons_zero, List.getElem_cons_succ]
          refine wpAnyH_ready (rs := [3]) (by kernel_rfl) (by simp) ?_
          refine AllReadyH.cons rfl (fun K hK => ?_) AllReadyH.nil
          go_simp
          refine (HRR1.out).mono ?_
          rintro e X2 ⟨rfl, hb2⟩
          dsimp only
          have S2 := hid (And.intro ((hb2.block q (Array.getElem?_eq_some_iff.1 S1.out.1).1).trans S1.out.1) ((hb2.block s (Array.getElem?_eq_some_iff.1 S1.out.2).1).trans S1.out.2))
          have hT2 := HT1.out.below hb2
          have hr2 := hT2.swap.root HS.out (by omega)
          rw [E2.out] at hr2
          have HR2 := hid hr2
          clear hT2 hr2 hb2
          refine hK.out _ _ (S2.out) (fun hHeld => ?_)
          clear hK K
          try simp only [Act.put, List.setIfInBounds_toArray, List.set_cons_zero, List.set_cons_succ, Array.toArray_toList, List.getElem_toArray, List.getElem_cons_zero, List.getElem_cons_succ]
          refine wpAnyH_take (i := 4) rfl (by kernel_rfl) (by kernel_rfl) (by kernel_rfl) (fun _ _ _ h => h) (yields_neo (by rfl) _ _ _ rfl C1 C1 rfl rfl) hHeld ?_
          rw [eqR_self, Bool.not_true]
          try simp only [Act.put, List.setIfInBounds_toArray, List.set_cons_zero, List.set_cons_succ, Array.toArray_toList, List.getElem_toArray, List.getElem_cons_zero, List.getElem_cons_succ]
          refine wpAnyH_take (i := 5) (v := ?v74) rfl (by kernel_rfl) (by kernel_rfl) (by kernel_rfl) (fun _ _ _ h => h) (Or.inl ⟨by rfl, ?hy74⟩) hHeld ?rest74
          case hy74 =>
            intro w hSw
            go_simp
            try with_reducible rfl
          try simp only [Act.put, List.setIfInBounds_toArray, List.set_cons_zero, List.set_cons_succ, Array.toArray_toList, List.getElem_toArray, List.getElem_cons_zero, List.getElem_cons_succ]
          refine wpAnyH_take (i := 6) (v := ?v75) rfl (by kernel_rfl) (by kernel_rfl) (by kernel_rfl) (fun _ _ _ h => h) (Or.inl ⟨by rfl, ?hy75⟩) hHeld ?rest75
          case hy75 =>
            intro w hSw
            go_simp
            try with_reducible rfl
          try simp only [Act.put, List.setIfInBounds_toArray, List.set_cons_zero, List.set_cons_succ, Array.toArray_toList, List.getElem_toArray, List.getElem_cons_zero, List.getElem_cons_succ]
          refine wpAnyH_take (i := 8) (v := ?v76) rfl (by kernel_rfl) (by kernel_rfl) (by kernel_rfl) (fun _ _ _ h => h) (Or.inl ⟨by rfl, ?hy76⟩) hHeld ?rest76
          case hy76 =>
            intro w hSw
            have ld := (HLS.out _ hSw.2).1
            go_simp
            try with_reducible rfl
          try simp only [Act.put, List.setIfInBounds_toArray, List.set_cons_zero, List.set_cons_succ, Array.toArray_toList, List.getElem_toArray, List.getElem_cons_zero, List.getElem_cons_succ]
          refine wpAnyH_ready (rs := [7]) (by kernel_rfl) (by simp) ?_
          refine AllReadyH.cons rfl (fun K hK => ?_) AllReadyH.nil
          go_simp
          refine (HR2.out).mono ?_
          rintro e X3 ⟨rfl, hT3, k1, k2⟩
          dsimp only
          have S3 := hid (And.intro (k2.trans S2.out.1) (k1.trans S2.out.2))
          have hrr3 := hT3.rroot HC.out
          rw [E2.out] at hrr3
          have HRR3 := hid hrr3
          have HT3 := hid hT3
          clear hrr3 hT3 k1 k2
          refine hK.out _ _ (S3.out) (fun hHeld => ?_)
          clear hK K
          try simp only [Act.put, List.setIfInBounds_toArray, List.set_cons_zero, List.set_cons_succ, Array.toArray_toList, List.getElem_toArray, List.getElem_cons_zero, List.getElem_cons_succ]
          refine wpAnyH_ready (rs := [9]) (by kernel_rfl) (by simp) ?_
          refine AllReadyH.cons rfl (fun K hK => ?_) AllReadyH.nil
          go_simp
          refine (HRR3.out).mono ?_
          rintro e X4 ⟨rfl, hb4⟩
          dsimp only
          have S4 := hid (And.intro ((hb4.block q (Array.getElem?_eq_some_iff.1 S3.out.1).1).trans S3.out.1) ((hb4.block s (Array.getElem?_eq_some_iff.1 S3.out.2).1).trans S3.out.2))
          have hT4 := (HT3.out.below hb4).swap
          have HT4 := hid hT4
          have HLE := hid hT4.len
          have HLF := hid hT4.swap.len
          clear hT4 hb4
          refine hK.out _ _ (S4.out) (fun hHeld => ?_)
          clear hK K
          try simp only [Act.put, List.setIfInBounds_toArray, List.set_cons_zero, List.set_cons_succ, Array.toArray_toList, List.getElem_toArray, List.getElem_cons_zero, List.getElem_cons_succ]
          refine wpAnyH_take (i := 10) rfl (by kernel_rfl) (by kernel_rfl) (by kernel_rfl) (fun _ _ _ h => h) (yields_neo (by rfl) _ _ _ rfl C2 C2 rfl rfl) hHeld ?_
          rw [eqR_self, Bool.not_true]
          try simp only [Act.put, List.setIfInBounds_toArray, List.set_cons_zero, List.set_cons_succ, Array.toArray_toList, List.getElem_toArray, List.getElem_cons_zero, List.getElem_cons_succ]
          refine wpAnyH_take (i := 11) (v := ?v77) rfl (by kernel_rfl) (by kernel_rfl) (by kernel_rfl) (fun _ _ _ h => h) (Or.inl ⟨by rfl, ?hy77⟩) hHeld ?rest77
          case hy77 =>
            intro w hSw
            go_simp
            try with_reducible rfl
          try simp only [Act.put, List.setIfInBounds_toArray, List.set_cons_zero, List.set_cons_succ, Array.toArray_toList, List.getElem_toArray, List.getElem_cons_zero, List.getElem_cons_succ]
          refine wpAnyH_take (i := 12) (v := ?v78) rfl (by kernel_rfl) (by kernel_rfl) (by kernel_rfl) (fun _ _ _ h => h) (Or.inl ⟨by rfl, ?hy78⟩) hHeld ?rest78
          case hy78 =>
            intro w hSw
            go_simp
            try with_reducible rfl
          try simp only [Act.put, List.setIfInBounds_toArray, List.set_cons_zero, List.set_cons_succ, Array.toArray_toList, List.getElem_toArray, List.getElem_cons_zero, List.getElem_cons_succ]
          refine wpAnyH_take (i := 13) (v := ?v79) rfl (by kernel_rfl) (by kernel_rfl) (by kernel_rfl) (fun _ _ _ h => h) (Or.inl ⟨by rfl, ?hy79⟩) hHeld ?rest79
          case hy79 =>
            intro w hSw
            go_simp
            try with_reducible rfl
          try simp only [Act.put, List.setIfInBounds_toArray, List.set_cons_zero, List.set_cons_succ, Array.toArray_toList, List.getElem_toArray, List.getElem_cons_zero, List.getElem_cons_succ]
          refine wpAnyH_take (i := 15) (v := ?v80) rfl (by kernel_rfl) (by kernel_rfl) (by kernel_rfl) (fun _ _ _ h => h) (Or.inl ⟨by rfl, ?hy80⟩) hHeld ?rest80
          case hy80 =>
            intro w hSw
            go_simp
            try with_reducible rfl
          try simp only [Act.put, List.setIfInBounds_toArray, List.set_cons_zero, List.set_cons_succ, Array.toArray_toList, List.getElem_toArray, List.getElem_cons_zero, List.getElem_cons_succ]
          refine wpAnyH_take (i := 16) (v := ?v81) rfl (by kernel_rfl) (by kernel_rfl) (by kernel_rfl) (fun _ _ _ h => h) (Or.inl ⟨by rfl, ?hy81⟩) hHeld ?rest81
          case hy81 =>
            intro w hSw
            have ld := (HLQ.out _ hSw.1).2
            go_simp
            try with_reducible rfl
          try simp only [Act.put, List.setIfInBounds_toArray, List.set_cons_zero, List.set_cons_succ, Array.toArray_toList, List.getElem_toArray, List.getElem_cons_zero, List.getElem_cons_succ]
          refine wpAnyH_take (i := 17) (v := ?v82) rfl (by kernel_rfl) (by kernel_rfl) (by kernel_rfl) (fun _ _ _ h => h) (Or.inl ⟨by rfl, ?hy82⟩) hHeld ?rest82
          case hy82 =>
            intro w hSw
            go_simp
            try with_reducible rfl
          try simp only [Act.put, List.setIfInBounds_toArray, List.set_cons_zero, List.set_cons_succ, Array.toArray_toList, List.getElem_toArray, List.getElem_cons_zero, List.getElem_cons_succ]
          refine wpAnyH_ready (rs := [14]) (by kernel_rfl) (by simp) ?_
          refine AllReadyH.cons rfl (fun K hK => ?_) AllReadyH.nil
          go_simp
          refine (HLE.out).mono ?_
          rintro e X5 ⟨rfl, hx5⟩
          dsimp only
          obtain rfl := hx5.symm
          refine hK.out _ _ (S4.out) (fun hHeld => ?_)
          clear hK K
          try simp only [Act.put, List.setIfInBounds_toArray, List.set_cons_zero, List.set_cons_succ, Array.toArray_toList, List.getElem_toArray, List.getElem_cons_zero, List.getElem_cons_succ]
          refine wpAnyH_take (i := 18) (v := ?v83) rfl (by kernel_rfl) (by kernel_rfl) (by kernel_rfl) (fun _ _ _ h => h) (Or.inl ⟨by rfl, ?hy83⟩) hHeld ?rest83
          case hy83 =>
            intro w hSw
            go_simp
            try with_reducible rfl
          try simp only [Act.put, List.setIfInBounds_toArray, List.set_cons_zero, List.set_cons_succ, Array.toArray_toList, List.getElem_toArray, List.getElem_cons_zero, List.getElem_cons_succ]
          refine wpAnyH_take (i := 19) (v := ?v84) rfl (by kernel_rfl) (by kernel_rfl) (by kernel_rfl) (fun _ _ _ h => h) (Or.inl ⟨by rfl, ?hy84⟩) hHeld ?rest84
          case hy84 =>
            intro w hSw
            go_simp
            try with_reducible rfl
          try simp only [Act.put, List.setIfInBounds_toArray, List.set_cons_zero, List.set_cons_succ, Array.toArray_toList, List.getElem_toArray, List.getElem_cons_zero, List.getElem_cons_succ]
          refine wpAnyH_take (i := 20) (v := ?v85) rfl (by kernel_rfl) (by kernel_rfl) (by kernel_rfl) (fun _ _ _ h => h) (Or.inl ⟨by rfl, ?hy85⟩) hHeld ?rest85
          case hy85 =>
            intro w hSw
            go_simp
            try with_reducible rfl
          try simp only [Act.put, List.setIfInBounds_toArray, List.set_cons_zero, List.set_cons_succ, Array.toArray_toList, List.getElem_toArray, List.getElem_cons_zero, List.getElem_cons_succ]
          refine wpAnyH_take (i := 21) (v := ?v86) rfl (by kernel_rfl) (by kernel_rfl) (by kernel_rfl) (fun _ _ _ h => h) (Or.inl ⟨by rfl, ?hy86⟩) hHeld ?rest86
          case hy86 =>
            intro w hSw
            go_simp
            try with_reducible rfl
          try simp only [Act.put, List.setIfInBounds_toArray, List.set_cons_zero, List.set_cons_succ, Array.toArray_toList, List.getElem_toArray, List.getElem_cons_zero, List.getElem_cons_succ]
          refine wpAnyH_take (i := 23) (v := ?v87) rfl (by kernel_rfl) (by kernel_rfl) (by kernel_rfl) (fun _ _ _ h => h) (Or.inl ⟨by rfl, ?hy87⟩) hHeld ?rest87
          case hy87 =>
            intro w hSw
            go_simp
            try with_reducible rfl
          try simp only [Act.put, List.setIfInBounds_toArray, List.set_cons_zero, List.set_cons_succ, Array.toArray_toList, List.getElem_toArray, List.getElem_cons_zero, List.getElem_cons_succ]
          refine wpAnyH_take (i := 24) (v := ?v88) rfl (by kernel_rfl) (by kernel_rfl) (by kernel_rfl) (fun _ _ _ h => h) (Or.inl ⟨by rfl, ?hy88⟩) hHeld ?rest88
          case hy88 =>
            intro w hSw
            have ld := (HLS.out _ hSw.2).2
            go_simp
            try with_reducible rfl
          try simp only [Act.put, List.setIfInBounds_toArray, List.set_cons_zero, List.set_cons_succ, Array.toArray_toList, List.getElem_toArray, List.getElem_cons_zero, List.getElem_cons_succ]
          refine wpAnyH_take (i := 25) (v := ?v89) rfl (by kernel_rfl) (by kernel_rfl) (by kernel_rfl) (fun _ _ _ h => h) (Or.inl ⟨by rfl, ?hy89⟩) hHeld ?rest89
          case hy89 =>
            intro w hSw
            go_simp
            try with_reducible rfl
          try simp only [Act.put, List.setIfInBounds_toArray, List.set_cons_zero, List.set_cons_succ, Array.toArray_toList, List.getElem_toArray, List.getElem_cons_zero, List.getElem_cons_succ]
          refine wpAnyH_ready (rs := [22]) (by kernel_rfl) (by simp) ?_
          refine AllReadyH.cons rfl (fun K hK => ?_) AllReadyH.nil
          go_simp
          refine (HLF.out).mono ?_
          rintro e X6 ⟨rfl, hx6⟩
          dsimp only
          obtain rfl := hx6.symm
          refine hK.out _ _ (S4.out) (fun hHeld => ?_)
          clear hK K
          try simp only [Act.put, List.setIfInBounds_toArray, List.set_cons_zero, List.set_cons_succ, Array.toArray_toList, List.getElem_toArray, List.getElem_cons_zero, List.getElem_cons_succ]
          refine wpAnyH_take (i := 26) (v := ?v90) rfl (by kernel_rfl) (by kernel_rfl) (by kernel_rfl) (fun _ _ _ h => h) (Or.inl ⟨by rfl, ?hy90⟩) hHeld ?rest90
          case hy90 =>
            intro w hSw
            go_simp
            try with_reducible rfl
          try simp only [Act.put, List.setIfInBounds_toArray, List.set_cons_zero, List.set_cons_succ, Array.toArray_toList, List.getElem_toArray, List.getElem_cons_zero, List.getElem_cons_succ]
          refine wpAnyH_take (i := 27) (v := ?v91) rfl (by kernel_rfl) (by kernel_rfl) (by kernel_rfl) (fun _ _ _ h => h) (Or.inl ⟨by rfl, ?hy91⟩) hHeld ?rest91
          case hy91 =>
            intro w hSw
            go_simp
            try with_reducible rfl
          try simp only [Act.put, List.setIfInBounds_toArray, List.set_cons_zero, List.set_cons_succ, Array.toArray_toList, List.getElem_toArray, List.getElem_cons_zero, List.getElem_cons_succ]
          refine wpAnyH_done (by kernel_rfl) ?_ _
          refine NoPanic.normal ?_
          clear HSS S1 S2 S3 S4 HR1 HR2 HRR1 HRR3 HT1 HT3 HLE HLF HLQ HLS E1 E2
          go_wp2
          go_roundw
          case rel => exact ⟨k + 1, _, _, _, _, _, _, by omega, by go_num, HT4.out.le (by omega)⟩
          case measure => simp [intOf]; omega
    · have b1 : decide (k < 40) = false := by simp; omega
      have b2' : decide ((k : Int) < 40) = false := by simp; omega
      have HT := hid hT
      clear hT
      go_wp2
      go_ret
      exact ⟨rfl, HT.out.bel⟩

set_option maxRecDepth 20000 in
set_option maxHeartbeats 2000000 in
theorem copies_none (n : Int) (a1 a2 a3 : Option Addr) (n1 p1 n2 p2 n3 p3 : Nat) (w : World) (hS : Sh w) (hn : ¬ (1 ≤ n ∧ n ≤ 1073741824)) (h0 : -9223372036854775808 ≤ n) (h1 : n ≤ 9223372036854775807) :
    Calls Tryd.prog 5 #[.int .i64 n, .slice a1 n1 p1, .slice a2 n2 p2, .slice a3 n3 p3] w fun e w' => e = .returned (.bool true) ∧ Below w.heap.size w w' := by
  have haw := awake6 w hS
  have HAW := hid haw
  have hrn := fun W => rnew6 n W h0 h1
  rw [decide_eq_false hn] at hrn
  have HRN := hid hrn
  have HNN := hid (fun W => tnew_none n W hn h0 h1)
  have zr28 := zero_ref
  have sv := fun W => sv28_new W n none 0 0 (rtA 0 (.slice none 0 0)) rfl
  clear haw hS hrn hn
  go_enter Tryd.func5, Tryd.ntmps5
  go_wp2_with (first
    | (go_at_call 8; refine HAW.out.mono ?_; rintro e w1 ⟨rfl, hb1⟩)
    | (go_at_call 9; refine (HNN.out _).mono ?_; rintro e w2 ⟨rfl, hw2⟩; obtain rfl := hw2.symm)
    | (go_at_call 10; refine (HRN.out _).mono ?_; rintro e w3 ⟨rfl, hb3⟩))
  go_ret
  exact ⟨rfl, (hb1.trans (hb3.mono hb1.size)).alloc (by have := hb1.size; have := hb3.size; omega) _⟩

end Go.Proofs.YtjimdkpppgjokaaDoor
