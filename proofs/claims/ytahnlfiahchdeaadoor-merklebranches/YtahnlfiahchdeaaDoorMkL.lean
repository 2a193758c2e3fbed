/-
  What MerkleMixes answers.
-/
import Derived.Test.YtahnlfiahchdeaaDoorMkK
namespace Go.Proofs.YtahnlfiahchdeaaDoor
open Go.RowKit
set_option linter.unusedVariables false
set_option linter.unusedSimpArgs false

/-- Roots compared, whole. -/
def eqo (x y : Value) : Sem Value := binOp .eql 27 x y
theorem eqo_eq (x y : Value) : binOp .eql 27 x y = eqo x y := rfl
theorem eqo_run (w : World) (c d : Nat → Int) : (eqo (.agg (vs .u8 32 c)) (.agg (vs .u8 32 d))).run Tryd.prog w = .ok (.bool (eqR c d)) w := by
  have h := eq32g w c d
  unfold eqo
  have h2 : (Op.equalIn Op.maxDepth 27 (.agg (vs .u8 32 c)) (.agg (vs .u8 32 d))).run Tryd.prog w = .ok (eqR c d) w := h
  simp [binOp, Op.equal, h2]

theorem yields_eqo {ops : Array Oper} {S : World → Prop} {op : Oper} {a : Act} (hw : Region.wanted op (yielded ops a.tmps) = true) (x y : Operand) (rt : TypeId) (ho : op.op = .binOp .eql 27 x y rt) (c d : Nat → Int)
    (hx : a.eval x = .agg (vs .u8 32 c)) (hy : a.eval y = .agg (vs .u8 32 d)) : YieldsIf Tryd.prog ops S op (.bool (eqR c d)) a :=
  .inl ⟨hw, fun w _ => by
    have h := eqo_run w c d
    unfold eqo at h
    unfold execOp
    simp [ho, hx, hy, eqGuard, h]⟩

attribute [local go_sem ↓] sv24_eq lv24_eq ix22_eq slr_eq lv48_eq sv48_eq bd48_eq bd27_eq bs22_eq sl22_eq mk22_eq eqo_eq

theorem own_bys {w : World} {B : Nat} {v : Value} {n : Nat} {m : Nat → Int} (h : w.ownsRow B 5 1 v n (bl m n)) : ∃ a cap, v = .slice a n cap ∧ Bys w a n cap m ∧ (a = none → n = 0) := by
  rcases h with ⟨h0, ⟨rfl, rfl⟩ | ⟨g, cap, cur, rfl, h1, h2, h3, h4, h5, h6⟩⟩
  · exact ⟨none, 0, rfl, .inl ⟨rfl, rfl, rfl⟩, fun _ => rfl⟩
  · have hg := (Array.getElem?_eq_some_iff.1 h2).1
    unfold maxLen at h4
    refine ⟨_, cap, rfl, .inr (.inr ⟨g, 0, rfl, h3, by omega, hg, fun j hj => ?_⟩), fun h => by cases h⟩
    have h7 : (cur.toList.take (n * 1))[j]? = (bl m n)[j]? := by rw [h6]
    rw [List.getElem?_take_of_lt (by omega), bl_at _ _ _ hj, Array.getElem?_toList] at h7
    rw [Nat.zero_add, row_cell h2, h7]

set_option maxRecDepth 20000 in
set_option maxHeartbeats 1000000 in
theorem mixes_any (c : Nat → Int) (n : Int) (w : World) (hS : Sh w) (hc : ∀ j, j < 32 → 0 ≤ c j ∧ c j < 256) (h0 : 0 ≤ n) (h1 : n ≤ 18446744073709551615) :
    Calls Tryd.prog 7 #[.agg (vs .u8 32 c), .int .u64 n] w fun e w' => e = .returned (.bool true) ∧ Below w.heap.size w w' := by
  have HS := hid hS
  have HC := hid hc
  clear hS hc
  go_enter Tryd.func7, Tryd.ntmps7
  go_upto_region 1 with fail
  obtain ⟨W0, hW0⟩ : ∃ W, w.alloc (.cells (vs .u8 32 c) 27) = W := ⟨_, rfl⟩
  rw [hW0]
  have hB0 : Below w.heap.size w W0 := by rw [← hW0]; go_grown
  have r0 : W0.heap[w.heap.size]? = some (.cells (vs .u8 32 c) 27) := by rw [← hW0]; exact heap_new rfl
  have z0 : W0.heap.size = w.heap.size + 1 := by rw [← hW0]; simp
  have haw := awake_any W0 (HS.out.below hB0)
  have HAW := hid haw
  have H0 := hid (And.intro hB0 (And.intro r0 z0))
  clear haw hB0 r0 z0 hW0
  go_wp2_with (go_at_call 9; refine HAW.out.mono ?_; rintro e w1 ⟨rfl, hb1⟩)
  have hx1 : Below W0.heap.size W0 w1 := hb1
  have HX1 := hid hx1
  have z0 := H0.out.2.2
  clear hx1 hb1
  go_loopw [5, 6] (fun v i wr => ∃ k : Nat, k ≤ 8 ∧ i = .int .i64 k ∧ Below W0.heap.size W0 wr ∧ wr.ownsRow W0.heap.size 5 1 v k (bl (nmB n) k)) (fun _ i _ => 8 - (intOf i).toNat)
  case atStart => exact ⟨0, by omega, rfl, HX1.out, World.ownsRow_nil _ _ _ _⟩
  case round =>
    clear HX1
    obtain ⟨k, hk, rfl, hB, ho⟩ := hrel
    by_cases hlt : k < 8
    · have b3 : decide (k < 8) = true := by simp; omega
      have HB := hid hB
      have HO := hid ho
      clear hB ho
      have hsz := HB.out.size
      have hkm : k + 1 ≤ 140737488355328 := by omega
      have HV : Hid (n / 2 ^ (8 * k) % 256 = nmB n k) := rfl
      go_wp2_with (at_builtin; go_loud (refine wpList_append_byte _ rfl _ _ rfl W0.heap.size u5 k (nmB n) _ rfl HO.out rfl HV.out hkm hsz ?_); intro g2 C2 w2 ho2 hg2)
      go_roundw
      case rel =>
        refine ⟨k + 1, by omega, by go_num, ?_, ho2⟩
        exact below_grown HB.out HO.out hsz hg2
      case measure => simp [intOf]; omega
    · have ek : k = 8 := by omega
      subst ek
      have b3 : decide (8 < 8) = false := by simp
      rw [show ((8 : Nat) : Int) = 8 from rfl]
      obtain ⟨a, cap, rfl, hby, _⟩ := own_bys ho
      have hpk := pack_any a 8 cap (nmB n) wr hby (by omega)
      have HPK := hid hpk
      have HB := hid hB
      clear hpk hB ho hby
      go_upto_region 9 with (go_at_call 15; refine HPK.out.mono ?_; rintro e w2 ⟨rfl, hb2, hz2, r2⟩)
      obtain ⟨hB0, r0, _⟩ := H0.out
      have hsz := HB.out.size
      have hB2 : Below W0.heap.size W0 w2 := HB.out.trans (hb2.mono hsz)
      have r02 := (hB2.block w.heap.size (by omega)).trans r0
      have rp : w2.heap[wr.heap.size]? = some (.cells (vs .u8 32 (nmC n)) 27) := r2.trans (congrArg (fun c => some (Obj.cells c 27)) (vs_congr fun q _ => by unfold pk nmC; rfl))
      obtain ⟨y, ey⟩ : ∃ y, wr.heap.size = y := ⟨_, rfl⟩
      rw [ey] at rp hz2 ⊢
      obtain ⟨zz, ez⟩ : ∃ z, w2.heap.size = z := ⟨_, rfl⟩
      rw [ez] at hz2
      have hyw : w.heap.size < zz := by omega
      have hyz : y < zz := by omega
      have hbw : ∀ W, Below zz w2 W → Below w.heap.size w W := fun W h => hB0.trans (hB2.mono (by omega) |>.trans (h.mono (by omega)))
      have hcl : ∀ W, Below zz w2 W → (lv24 ⟨w.heap.size, 0, none⟩).run Tryd.prog W = .ok (.agg (vs .u8 32 c)) W := fun W h => lv24_run ((h.block _ hyw).trans r02)
      have hpl : ∀ W, Below zz w2 W → (lv24 ⟨y, 0, none⟩).run Tryd.prog W = .ok (.agg (vs .u8 32 (nmC n))) W := fun W h => lv24_run ((h.block _ hyz).trans rp)
      have ixf := fun W => ix22_run W y 0 1 1 0 (by omega)
      rw [show ((0 : Nat) : Int) = 0 from rfl] at ixf
      have hmx : ∀ W, Below zz w2 W → Calls Tryd.prog 17 #[.agg (vs .u8 32 c), .int .u64 n] W fun e w' => e = .returned (.agg (vs .u8 32 (tw c (nmC n)))) ∧ Below zz w2 w' := by
        intro W h
        refine (mix_any c n W (HS.out.below (hbw W h)) HC.out h0 h1).mono ?_
        rintro e w' ⟨rfl, hb⟩
        exact ⟨rfl, h.trans (hb.mono (by have := h.size; omega))⟩
      have htw : ∀ W, Below zz w2 W → Calls Tryd.prog 23 #[.agg (vs .u8 32 c), .agg (vs .u8 32 (nmC n))] W fun e w' => e = .returned (.agg (vs .u8 32 (tw c (nmC n)))) ∧ Below zz w2 w' := by
        intro W h
        refine (two_tw c (nmC n) W (HS.out.below (hbw W h)) HC.out (fun j _ => nmC_bd n j)).mono ?_
        rintro e w' ⟨rfl, hb⟩
        exact ⟨rfl, h.trans (hb.mono (by have := h.size; omega))⟩
      have hdr : Below zz w2 w2.drew := ⟨rfl, rfl, rfl, Nat.le_refl _, fun _ _ => rfl⟩
      generalize tw c (nmC n) = X at hmx htw
      generalize nmC n = M at hpl htw
      have qx := fun W => eqo_run W X X
      rw [eqR_self] at qx
      have HDR := hid hdr
      have HBW := hid hbw
      have HCL := hid hcl
      have HPL := hid hpl
      have HMX := hid hmx
      have HTW := hid htw
      clear hdr hbw hcl hpl hmx htw r02 rp r2 r0 hB0 hB2 hb2 HPK H0
      refine wp_region_noPanic ?_
      refine wp_region_held_drew (S := fun W => Below zz w2 W) (by kernel_rfl) (HDR.out) (fun hHeld => ?_)
      refine wpAnyH_take (i := 0) (v := ?v1) rfl (by kernel_rfl) (by kernel_rfl) (by kernel_rfl) (fun _ _ _ h => h) (Or.inl ⟨by rfl, ?hy1⟩) hHeld ?rest1
      case hy1 =>
        intro w hSw
        go_simp
        try with_reducible rfl
      try simp only [Act.put, List.setIfInBounds_toArray, List.set_cons_zero, List.set_cons_succ, Array.toArray_toList, List.getElem_toArray, List.getElem_cons_zero, List.getElem_cons_succ]
      refine wpAnyH_take (i := 1) (v := ?v2) rfl (by kernel_rfl) (by kernel_rfl) (by kernel_rfl) (fun _ _ _ h => h) (Or.inl ⟨by rfl, ?hy2⟩) hHeld ?rest2
      case hy2 =>
        intro w hSw
        go_simp
        try with_reducible rfl
      try simp only [Act.put, List.setIfInBounds_toArray, List.set_cons_zero, List.set_cons_succ, Array.toArray_toList, List.getElem_toArray, List.getElem_cons_zero, List.getElem_cons_succ]
      refine wpAnyH_take (i := 2) (v := ?v3) rfl (by kernel_rfl) (by kernel_rfl) (by kernel_rfl) (fun _ _ _ h => h) (Or.inl ⟨by rfl, ?hy3⟩) hHeld ?rest3
      case hy3 =>
        intro w hSw
        go_simp
        try with_reducible rfl
      try simp only [Act.put, List.setIfInBounds_toArray, List.set_cons_zero, List.set_cons_succ, Array.toArray_toList, List.getElem_toArray, List.getElem_cons_zero, List.getElem_cons_succ]
      refine wpAnyH_take (i := 3) (v := ?v4) rfl (by kernel_rfl) (by kernel_rfl) (by kernel_rfl) (fun _ _ _ h => h) (Or.inl ⟨by rfl, ?hy4⟩) hHeld ?rest4
      case hy4 =>
        intro w hSw
        go_simp
        try with_reducible rfl
      try simp only [Act.put, List.setIfInBounds_toArray, List.set_cons_zero, List.set_cons_succ, Array.toArray_toList, List.getElem_toArray, List.getElem_cons_zero, List.getElem_cons_succ]
      refine wpAnyH_take (i := 4) (v := ?v5) rfl (by kernel_rfl) (by kernel_rfl) (by kernel_rfl) (fun _ _ _ h => h) (Or.inl ⟨by rfl, ?hy5⟩) hHeld ?rest5
      case hy5 =>
        intro w hSw
        have ld := HCL.out _ hSw
        go_simp
        try with_reducible rfl
      try simp only [Act.put, List.setIfInBounds_toArray, List.set_cons_zero, List.set_cons_succ, Array.toArray_toList, List.getElem_toArray, List.getElem_cons_zero, List.getElem_cons_succ]
      refine wpAnyH_take (i := 5) (v := ?v6) rfl (by kernel_rfl) (by kernel_rfl) (by kernel_rfl) (fun _ _ _ h => h) (Or.inl ⟨by rfl, ?hy6⟩) hHeld ?rest6
      case hy6 =>
        intro w hSw
        go_simp
        try with_reducible rfl
      try simp only [Act.put, List.setIfInBounds_toArray, List.set_cons_zero, List.set_cons_succ, Array.toArray_toList, List.getElem_toArray, List.getElem_cons_zero, List.getElem_cons_succ]
      refine wpAnyH_take (i := 7) (v := ?v7) rfl (by kernel_rfl) (by kernel_rfl) (by kernel_rfl) (fun _ _ _ h => h) (Or.inl ⟨by rfl, ?hy7⟩) hHeld ?rest7
      case hy7 =>
        intro w hSw
        have ld := HCL.out _ hSw
        go_simp
        try with_reducible rfl
      try simp only [Act.put, List.setIfInBounds_toArray, List.set_cons_zero, List.set_cons_succ, Array.toArray_toList, List.getElem_toArray, List.getElem_cons_zero, List.getElem_cons_succ]
      refine wpAnyH_take (i := 8) (v := ?v8) rfl (by kernel_rfl) (by kernel_rfl) (by kernel_rfl) (fun _ _ _ h => h) (Or.inl ⟨by rfl, ?hy8⟩) hHeld ?rest8
      case hy8 =>
        intro w hSw
        go_simp
        try with_reducible rfl
      try simp only [Act.put, List.setIfInBounds_toArray, List.set_cons_zero, List.set_cons_succ, Array.toArray_toList, List.getElem_toArray, List.getElem_cons_zero, List.getElem_cons_succ]
      refine wpAnyH_take (i := 9) (v := ?v9) rfl (by kernel_rfl) (by kernel_rfl) (by kernel_rfl) (fun _ _ _ h => h) (Or.inl ⟨by rfl, ?hy9⟩) hHeld ?rest9
      case hy9 =>
        intro w hSw
        go_simp
        try with_reducible rfl
      try simp only [Act.put, List.setIfInBounds_toArray, List.set_cons_zero, List.set_cons_succ, Array.toArray_toList, List.getElem_toArray, List.getElem_cons_zero, List.getElem_cons_succ]
      refine wpAnyH_take (i := 10) (v := ?v10) rfl (by kernel_rfl) (by kernel_rfl) (by kernel_rfl) (fun _ _ _ h => h) (Or.inl ⟨by rfl, ?hy10⟩) hHeld ?rest10
      case hy10 =>
        intro w hSw
        have ld := HPL.out _ hSw
        go_simp
        try with_reducible rfl
      try simp only [Act.put, List.setIfInBounds_toArray, List.set_cons_zero, List.set_cons_succ, Array.toArray_toList, List.getElem_toArray, List.getElem_cons_zero, List.getElem_cons_succ]
      refine wpAnyH_ready (rs := [6]) (by kernel_rfl) (by simp) ?_
      refine AllReadyH.cons rfl (fun K hK => ?_) AllReadyH.nil
      go_simp
      refine (HMX.out _ HDR.out).mono ?_
      rintro e w3 ⟨rfl, hs1⟩
      dsimp only
      refine hK.out _ _ (hs1) (fun hHeld => ?_)
      clear hK K
      try simp only [Act.put, List.setIfInBounds_toArray, List.set_cons_zero, List.set_cons_succ, Array.toArray_toList, List.getElem_toArray, List.getElem_cons_zero, List.getElem_cons_succ]
      refine wpAnyH_ready (rs := [11]) (by kernel_rfl) (by simp) ?_
      refine AllReadyH.cons rfl (fun K hK => ?_) AllReadyH.nil
      go_simp
      refine (HTW.out _ hs1).mono ?_
      rintro e w4 ⟨rfl, hs2⟩
      dsimp only
      refine hK.out _ _ (hs2) (fun hHeld => ?_)
      clear hK K
      try simp only [Act.put, List.setIfInBounds_toArray, List.set_cons_zero, List.set_cons_succ, Array.toArray_toList, List.getElem_toArray, List.getElem_cons_zero, List.getElem_cons_succ]
      refine wpAnyH_take (i := 12) rfl (by kernel_rfl) (by kernel_rfl) (by kernel_rfl) (fun _ _ _ h => h) (yields_eqo (by rfl) _ _ _ rfl X X rfl rfl) hHeld ?_
      rw [eqR_self]
      try simp only [Act.put, List.setIfInBounds_toArray, List.set_cons_zero, List.set_cons_succ, Array.toArray_toList, List.getElem_toArray, List.getElem_cons_zero, List.getElem_cons_succ]
      refine wpAnyH_take (i := 13) (v := ?v11) rfl (by kernel_rfl) (by kernel_rfl) (by kernel_rfl) (fun _ _ _ h => h) (Or.inl ⟨by rfl, ?hy11⟩) hHeld ?rest11
      case hy11 =>
        intro w hSw
        go_simp
        try with_reducible rfl
      try simp only [Act.put, List.setIfInBounds_toArray, List.set_cons_zero, List.set_cons_succ, Array.toArray_toList, List.getElem_toArray, List.getElem_cons_zero, List.getElem_cons_succ]
      refine wpAnyH_take (i := 14) (v := ?v12) rfl (by kernel_rfl) (by kernel_rfl) (by kernel_rfl) (fun _ _ _ h => h) (Or.inl ⟨by rfl, ?hy12⟩) hHeld ?rest12
      case hy12 =>
        intro w hSw
        go_simp
        try with_reducible rfl
      try simp only [Act.put, List.setIfInBounds_toArray, List.set_cons_zero, List.set_cons_succ, Array.toArray_toList, List.getElem_toArray, List.getElem_cons_zero, List.getElem_cons_succ]
      refine wpAnyH_done (by kernel_rfl) ?_ _
      refine NoPanic.normal ?_
      go_wp2
      go_ret
      exact ⟨rfl, HBW.out _ hs2⟩

end Go.Proofs.YtahnlfiahchdeaaDoor
