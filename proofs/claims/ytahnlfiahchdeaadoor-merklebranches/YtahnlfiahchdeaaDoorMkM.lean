/-
  What the reference's Up and Holds answer; what MerkleHolds answers.
-/
import Derived.Test.YtahnlfiahchdeaaDoorMkL
import Derived.Test.YtahnlfiahchdeaaDoorShaO
namespace Go.Proofs.YtahnlfiahchdeaaDoor
open Go.RowKit
set_option linter.unusedVariables false
set_option linter.unusedSimpArgs false

attribute [local go_sem ↓] sv24_eq lv24_eq ix22_eq slr_eq lv48_eq sv48_eq bd48_eq bd27_eq bs22_eq sl22_eq mk22_eq eqo_eq

/-- The reference's table. -/
def Rc (w : World) : Prop := Tab w 2 64 KW
theorem Rc.below {w w' : World} (h : Rc w) (hb : Below w.heap.size w w') : Rc w' := Tab.below h hb
theorem rtwo_tw (a b : Nat → Int) (w : World) (hC : Rc w) (ha : ∀ j, j < 32 → 0 ≤ a j ∧ a j < 256) (hb : ∀ j, j < 32 → 0 ≤ b j ∧ b j < 256) :
    Calls Tryd.prog 32 #[.agg (vs .u8 32 a), .agg (vs .u8 32 b)] w fun e w' => e = .returned (.agg (vs .u8 32 (tw a b))) ∧ Below w.heap.size w w' :=
  reftwo_any a b w hC ha hb

set_option maxRecDepth 20000 in
set_option maxHeartbeats 1000000 in
theorem rup_any (leaf f : Nat → Int) (a : Option Addr) (len cap p : Nat) (w : World) (hC : Rc w) (hl : ∀ j, j < 32 → 0 ≤ leaf j ∧ leaf j < 256) (hr : Rts w a len cap f) (hf : ByB f (32 * len)) (hp : p ≤ 18446744073709551615) (h64 : len ≤ 64) :
    Calls Tryd.prog 34 #[.agg (vs .u8 32 leaf), .slice a len cap, .int .u64 p] w fun e w' => e = .returned (.agg (vs .u8 32 (upV leaf f p len))) ∧ Below w.heap.size w w' := by
  have HS := hid hC
  have HL := hid hl
  have HR := hid hr
  have HF := hid hf
  have z := zero_root
  clear hC hl hr hf
  go_enter Tryd.func34, Tryd.ntmps34
  go_wp2
  go_loopw [7] (fun i wr => ∃ k : Nat, k ≤ len ∧ i = .int .i64 k ∧ Below w.heap.size w wr ∧ w.heap.size + 1 < wr.heap.size ∧ wr.heap[w.heap.size]? = some (.cells (vs .u8 32 (upV leaf f p k)) 27) ∧ wr.heap[w.heap.size + 1]? = some (.cells (vs .u8 32 fun _ => 0) 27)) (fun i _ => len - (intOf i).toNat)
  case atStart =>
    refine ⟨0, by omega, rfl, by go_grown, by simp, ?_, ?_⟩
    · exact (heap_old (by simp)).trans (heap_new rfl)
    · exact heap_new (by simp)
  case round =>
    clear z
    obtain ⟨k, hk, rfl, hB, hz, rl, rr⟩ := hrel
    by_cases hlt : k < len
    · have b3 : decide (k < len) = true := by simp; omega
      obtain ⟨P, eP⟩ : ∃ P, P = p / 2 ^ k := ⟨_, rfl⟩
      have hP : P ≤ 18446744073709551615 := by rw [eP]; exact Nat.le_trans (Nat.div_le_self _ _) hp
      have s0 : (p : Int) / 2 ^ k = (P : Int) := by rw [eP]; simp
      obtain ⟨b, o, hbw, hx, hc⟩ := HR.out.at k hlt
      have hbr : ∀ j, j < 32 → 0 ≤ rt32 f k j ∧ rt32 f k j < 256 := fun j hj => HF.out _ (by omega)
      have hla : ∀ W, Below wr.heap.size wr W → (lv24 ⟨b, o, none⟩).run Tryd.prog W = .ok (.agg (vs .u8 32 (rt32 f k))) W := fun W h => lv24_mid (fun j hj => (below_cell h (by have := hB.size; omega)).trans ((below_cell hB hbw).trans (hc j hj)))
      have hlb : ∀ W, Below wr.heap.size wr W → (lv24 ⟨w.heap.size, 0, none⟩).run Tryd.prog W = .ok (.agg (vs .u8 32 (upV leaf f p k))) W := fun W h => lv24_run ((h.block _ (by omega)).trans rl)
      have hst : ∀ (c : Nat → Int) (w2 : World), Below wr.heap.size wr w2 → c = upV leaf f p (k + 1) → ∃ W3, (sv24 ⟨w.heap.size, 0, none⟩ (.agg (vs .u8 32 c))).run Tryd.prog w2 = .ok () W3 ∧ Below w.heap.size w W3 ∧ w.heap.size + 1 < W3.heap.size ∧ W3.heap[w.heap.size]? = some (.cells (vs .u8 32 (upV leaf f p (k + 1))) 27) ∧ W3.heap[w.heap.size + 1]? = some (.cells (vs .u8 32 fun _ => 0) 27) := by
        rintro c w2 hb2 rfl
        have r2 := (hb2.block w.heap.size (by omega)).trans rl
        have := hb2.size
        refine ⟨_, sv24_run r2 _, below_row (hB.trans (hb2.mono (by omega))) (Nat.le_refl _) _, by simp; omega, setRow_at r2, (setRow_other _ _ _ _ (by omega)).trans ((hb2.block _ (by omega)).trans rr)⟩
      have hdr : Below wr.heap.size wr wr.drew := ⟨rfl, rfl, rfl, Nat.le_refl _, fun _ _ => rfl⟩
      have htw : ∀ (x y : Nat → Int) (W : World), Below wr.heap.size wr W → (∀ j, j < 32 → 0 ≤ x j ∧ x j < 256) → (∀ j, j < 32 → 0 ≤ y j ∧ y j < 256) → Calls Tryd.prog 32 #[.agg (vs .u8 32 x), .agg (vs .u8 32 y)] W fun e w' => e = .returned (.agg (vs .u8 32 (tw x y))) ∧ Below wr.heap.size wr w' := by
        intro x y W h hxb hyb
        refine (rtwo_tw x y W (HS.out.below (hB.trans (h.mono hB.size))) hxb hyb).mono ?_
        rintro e w' ⟨rfl, hb⟩
        exact ⟨rfl, h.trans (hb.mono h.size)⟩
      have HBR := hid hbr
      have HLA := hid hla
      have HLB := hid hlb
      have HST := hid hst
      have HDR := hid hdr
      have HTW := hid htw
      have HEP := hid eP
      clear hc hbr hla hlb hst hdr htw rl rr hB eP
      by_cases hodd : P % 2 = 1
      · have a1 : bits .and .u64 (P : Int) 1 = 1 := by
          rw [u64_and _ _ (by omega) (by omega) (by omega) (by omega)]
          simp [Nat.and_one_is_mod, hodd]
        have e3 : tw (rt32 f k) (upV leaf f p k) = upV leaf f p (k + 1) := by
          show _ = if p / 2 ^ k % 2 = 1 then _ else _
          rw [← HEP.out, if_pos hodd]
        have E3 := hid e3
        clear e3
        go_upto_region 5 with fail
        have l1 := HLA.out _ HDR.out
        have l2 := HLB.out _ HDR.out
        go_region_with (go_at_call 32; refine (HTW.out _ _ _ HDR.out HBR.out (upV_bd (f := f) HL.out p k)).mono ?_; rintro e w2 ⟨rfl, hb2⟩; obtain ⟨W3, sv, h3⟩ := HST.out _ w2 hb2 E3.out)
        all_goals
          go_wp2
          go_roundw
          case rel => exact ⟨k + 1, by omega, by go_num, h3.1, h3.2.1, h3.2.2.1, h3.2.2.2⟩
          case measure => simp [intOf]; omega
      · have a1 : bits .and .u64 (P : Int) 1 = 0 := by
          rw [u64_and _ _ (by omega) (by omega) (by omega) (by omega)]
          simp [Nat.and_one_is_mod]
          omega
        have e3 : tw (upV leaf f p k) (rt32 f k) = upV leaf f p (k + 1) := by
          show _ = if p / 2 ^ k % 2 = 1 then _ else _
          rw [← HEP.out, if_neg hodd]
        have E3 := hid e3
        clear e3
        go_upto_region 6 with fail
        have l1 := HLA.out _ HDR.out
        have l2 := HLB.out _ HDR.out
        go_region_with (go_at_call 32; refine (HTW.out _ _ _ HDR.out (upV_bd (f := f) HL.out p k) HBR.out).mono ?_; rintro e w2 ⟨rfl, hb2⟩; obtain ⟨W3, sv, h3⟩ := HST.out _ w2 hb2 E3.out)
        all_goals
          go_wp2
          go_roundw
          case rel => exact ⟨k + 1, by omega, by go_num, h3.1, h3.2.1, h3.2.2.1, h3.2.2.2⟩
          case measure => simp [intOf]; omega
    · have ek : k = len := by omega
      subst ek
      have b3 : decide (k < k) = false := by simp
      have l1 := lv24_run rl
      have s1 := sv24_run rr (upV leaf f p k)
      have HRR := hid rr
      clear rl rr
      go_wp2
      refine ret24 6 (w.heap.size + 1) _ 27 rfl rfl rfl (setRow_at HRR.out) ⟨rfl, below_row hB (by omega) _⟩

set_option maxRecDepth 20000 in
set_option maxHeartbeats 1000000 in
theorem rholds_any (leaf root f : Nat → Int) (a : Option Addr) (len cap p : Nat) (w : World) (hC : Rc w) (hl : ∀ j, j < 32 → 0 ≤ leaf j ∧ leaf j < 256) (hr : Rts w a len cap f) (hf : ByB f (32 * len)) (hp : p ≤ 18446744073709551615) (hln : len ≤ 9223372036854775807) :
    Calls Tryd.prog 22 #[.agg (vs .u8 32 leaf), .slice a len cap, .int .u64 p, .agg (vs .u8 32 root)] w fun e w' => e = .returned (.bool (holdsV leaf f len p root)) ∧ Below w.heap.size w w' := by
  by_cases h64 : len ≤ 64
  · have b1 : decide (len ≤ 64) = true := by simp; omega
    have b2 : decide ((len : Int) ≤ 64) = true := by simp; omega
    have hval : holdsV leaf f len p root = eqR (upV leaf f p len) root := by
      unfold holdsV
      rw [decide_eq_true h64, Bool.true_and]
    rw [hval]
    obtain ⟨X, hX⟩ : ∃ X, upV leaf f p len = X := ⟨_, rfl⟩
    rw [hX]
    have HX := hid hX
    clear hval hX
    have HS := hid hC
    have HR := hid hr
    have HL := hid hl
    have HF := hid hf
    clear hC hl hr hf
    go_enter Tryd.func22, Tryd.ntmps22
    go_upto_region 1 with fail
    obtain ⟨W0, hW0⟩ : ∃ W, (w.alloc (.cells (vs .u8 32 leaf) 27)).alloc (.cells (vs .u8 32 root) 27) = W := ⟨_, rfl⟩
    rw [hW0]
    have hB0 : Below w.heap.size w W0 := by rw [← hW0]; go_grown
    have z0 : W0.heap.size = w.heap.size + 2 := by rw [← hW0]; simp
    have ra : W0.heap[w.heap.size]? = some (.cells (vs .u8 32 leaf) 27) := by rw [← hW0]; exact (heap_old (by simp)).trans (heap_new rfl)
    have rb : W0.heap[w.heap.size + 1]? = some (.cells (vs .u8 32 root) 27) := by rw [← hW0]; exact heap_new (by simp)
    have hla : ∀ W, Below W0.heap.size W0 W → (lv24 ⟨w.heap.size, 0, none⟩).run Tryd.prog W = .ok (.agg (vs .u8 32 leaf)) W := fun W h => lv24_run ((h.block _ (by omega)).trans ra)
    have hlb : ∀ W, Below W0.heap.size W0 W → (lv24 ⟨w.heap.size + 1, 0, none⟩).run Tryd.prog W = .ok (.agg (vs .u8 32 root)) W := fun W h => lv24_run ((h.block _ (by omega)).trans rb)
    have hdr : Below W0.heap.size W0 W0.drew := ⟨rfl, rfl, rfl, Nat.le_refl _, fun _ _ => rfl⟩
    have hup : ∀ W, Below W0.heap.size W0 W → Calls Tryd.prog 34 #[.agg (vs .u8 32 leaf), .slice a len cap, .int .u64 p] W fun e w' => e = .returned (.agg (vs .u8 32 (upV leaf f p len))) ∧ Below W0.heap.size W0 w' := by
      intro W h
      have hbw : Below w.heap.size w W := hB0.trans (h.mono hB0.size)
      refine (rup_any leaf f a len cap p W (HS.out.below hbw) HL.out (HR.out.below hbw) HF.out hp h64).mono ?_
      rintro e w' ⟨rfl, hb⟩
      exact ⟨rfl, h.trans (hb.mono h.size)⟩
    have hfin : ∀ W, Below W0.heap.size W0 W → Below w.heap.size w W := fun W h => hB0.trans (h.mono hB0.size)
    rw [HX.out] at hup
    have HLA := hid hla
    have HLB := hid hlb
    have HDR := hid hdr
    have HUP := hid hup
    have HFIN := hid hfin
    clear hla hlb hdr hup hfin ra rb hB0 hW0 HR HL HF HS z0 HX
    refine wp_region_noPanic ?_
    refine wp_region_held_drew (S := fun W => Below W0.heap.size W0 W) (by kernel_rfl) (HDR.out) (fun hHeld => ?_)
    refine wpAnyH_take (i := 0) (v := ?v1) rfl (by kernel_rfl) (by kernel_rfl) (by kernel_rfl) (fun _ _ _ h => h) (Or.inl ⟨by rfl, ?hy1⟩) hHeld ?rest1
    case hy1 =>
      intro w hSw
      go_simp
      try with_reducible rfl
    try simp only [Act.put, List.setIfInBounds_toArray, List.set_cons_zero, List.set_cons_succ, Array.toArray_toList, List.getElem_toArray, List.getElem_cons_zero, List.getElem_cons_succ]
    refine wpAnyH_take (i := 1) (v := ?v2) rfl (by kernel_rfl) (by kernel_rfl) (by kernel_rfl) (fun _ _ _ h => h) (Or.inl ⟨by rfl, ?hy2⟩) hHeld ?rest2
    case hy2 =>
      intro w hSw
      go_simp
      try with_reducible rfl
    try simp only [Act.put, List.setIfInBounds_toArray, List.set_cons_zero, List.set_cons_succ, Array.toArray_toList, List.getElem_toArray, List.getElem_cons_zero, List.getElem_cons_succ]
    refine wpAnyH_take (i := 2) (v := ?v3) rfl (by kernel_rfl) (by kernel_rfl) (by kernel_rfl) (fun _ _ _ h => h) (Or.inl ⟨by rfl, ?hy3⟩) hHeld ?rest3
    case hy3 =>
      intro w hSw
      go_simp
      try with_reducible rfl
    try simp only [Act.put, List.setIfInBounds_toArray, List.set_cons_zero, List.set_cons_succ, Array.toArray_toList, List.getElem_toArray, List.getElem_cons_zero, List.getElem_cons_succ]
    refine wpAnyH_take (i := 3) (v := ?v4) rfl (by kernel_rfl) (by kernel_rfl) (by kernel_rfl) (fun _ _ _ h => h) (Or.inl ⟨by rfl, ?hy4⟩) hHeld ?rest4
    case hy4 =>
      intro w hSw
      go_simp
      try with_reducible rfl
    try simp only [Act.put, List.setIfInBounds_toArray, List.set_cons_zero, List.set_cons_succ, Array.toArray_toList, List.getElem_toArray, List.getElem_cons_zero, List.getElem_cons_succ]
    refine wpAnyH_take (i := 4) (v := ?v5) rfl (by kernel_rfl) (by kernel_rfl) (by kernel_rfl) (fun _ _ _ h => h) (Or.inl ⟨by rfl, ?hy5⟩) hHeld ?rest5
    case hy5 =>
      intro w hSw
      have ld := HLA.out _ hSw
      go_simp
      try with_reducible rfl
    try simp only [Act.put, List.setIfInBounds_toArray, List.set_cons_zero, List.set_cons_succ, Array.toArray_toList, List.getElem_toArray, List.getElem_cons_zero, List.getElem_cons_succ]
    refine wpAnyH_take (i := 5) (v := ?v6) rfl (by kernel_rfl) (by kernel_rfl) (by kernel_rfl) (fun _ _ _ h => h) (Or.inl ⟨by rfl, ?hy6⟩) hHeld ?rest6
    case hy6 =>
      intro w hSw
      go_simp
      try with_reducible rfl
    try simp only [Act.put, List.setIfInBounds_toArray, List.set_cons_zero, List.set_cons_succ, Array.toArray_toList, List.getElem_toArray, List.getElem_cons_zero, List.getElem_cons_succ]
    refine wpAnyH_take (i := 6) (v := ?v7) rfl (by kernel_rfl) (by kernel_rfl) (by kernel_rfl) (fun _ _ _ h => h) (Or.inl ⟨by rfl, ?hy7⟩) hHeld ?rest7
    case hy7 =>
      intro w hSw
      go_simp
      try with_reducible rfl
    try simp only [Act.put, List.setIfInBounds_toArray, List.set_cons_zero, List.set_cons_succ, Array.toArray_toList, List.getElem_toArray, List.getElem_cons_zero, List.getElem_cons_succ]
    refine wpAnyH_take (i := 8) (v := ?v8) rfl (by kernel_rfl) (by kernel_rfl) (by kernel_rfl) (fun _ _ _ h => h) (Or.inl ⟨by rfl, ?hy8⟩) hHeld ?rest8
    case hy8 =>
      intro w hSw
      have ld := HLB.out _ hSw
      go_simp
      try with_reducible rfl
    try simp only [Act.put, List.setIfInBounds_toArray, List.set_cons_zero, List.set_cons_succ, Array.toArray_toList, List.getElem_toArray, List.getElem_cons_zero, List.getElem_cons_succ]
    refine wpAnyH_ready (rs := [7]) (by kernel_rfl) (by simp) ?_
    refine AllReadyH.cons rfl (fun K hK => ?_) AllReadyH.nil
    go_simp
    refine (HUP.out _ HDR.out).mono ?_
    rintro e w3 ⟨rfl, hs1⟩
    dsimp only
    refine hK.out _ _ (hs1) (fun hHeld => ?_)
    clear hK K
    try simp only [Act.put, List.setIfInBounds_toArray, List.set_cons_zero, List.set_cons_succ, Array.toArray_toList, List.getElem_toArray, List.getElem_cons_zero, List.getElem_cons_succ]
    refine wpAnyH_take (i := 9) rfl (by kernel_rfl) (by kernel_rfl) (by kernel_rfl) (fun _ _ _ h => h) (yields_eqo (by rfl) _ _ _ rfl X root rfl rfl) hHeld ?_
    try simp only [Act.put, List.setIfInBounds_toArray, List.set_cons_zero, List.set_cons_succ, Array.toArray_toList, List.getElem_toArray, List.getElem_cons_zero, List.getElem_cons_succ]
    refine wpAnyH_take (i := 10) (v := ?v9) rfl (by kernel_rfl) (by kernel_rfl) (by kernel_rfl) (fun _ _ _ h => h) (Or.inl ⟨by rfl, ?hy9⟩) hHeld ?rest9
    case hy9 =>
      intro w hSw
      go_simp
      try with_reducible rfl
    try simp only [Act.put, List.setIfInBounds_toArray, List.set_cons_zero, List.set_cons_succ, Array.toArray_toList, List.getElem_toArray, List.getElem_cons_zero, List.getElem_cons_succ]
    refine wpAnyH_take (i := 11) (v := ?v10) rfl (by kernel_rfl) (by kernel_rfl) (by kernel_rfl) (fun _ _ _ h => h) (Or.inl ⟨by rfl, ?hy10⟩) hHeld ?rest10
    case hy10 =>
      intro w hSw
      go_simp
      try with_reducible rfl
    try simp only [Act.put, List.setIfInBounds_toArray, List.set_cons_zero, List.set_cons_succ, Array.toArray_toList, List.getElem_toArray, List.getElem_cons_zero, List.getElem_cons_succ]
    refine wpAnyH_done (by kernel_rfl) ?_ _
    refine NoPanic.normal ?_
    go_wp2
    go_ret
    exact ⟨rfl, HFIN.out _ hs1⟩
  · have b1 : decide (len ≤ 64) = false := by simp; omega
    have b2 : decide ((len : Int) ≤ 64) = false := by simp; omega
    have hval : holdsV leaf f len p root = false := by
      unfold holdsV
      rw [decide_eq_false h64, Bool.false_and]
    rw [hval]
    clear hC hl hr hf hval
    go_enter Tryd.func22, Tryd.ntmps22
    go_upto_region 1 with fail
    obtain ⟨W0, hW0⟩ : ∃ W, (w.alloc (.cells (vs .u8 32 leaf) 27)).alloc (.cells (vs .u8 32 root) 27) = W := ⟨_, rfl⟩
    rw [hW0]
    have hB0 : Below w.heap.size w W0 := by rw [← hW0]; go_grown
    refine wp_region_noPanic ?_
    refine wp_region_held_drew (S := fun _ => True) (by kernel_rfl) (trivial) (fun hHeld => ?_)
    refine wpAnyH_take (i := 0) (v := ?v11) rfl (by kernel_rfl) (by kernel_rfl) (by kernel_rfl) (fun _ _ _ h => h) (Or.inl ⟨by rfl, ?hy11⟩) hHeld ?rest11
    case hy11 =>
      intro w hSw
      go_simp
      try with_reducible rfl
    try simp only [Act.put, List.setIfInBounds_toArray, List.set_cons_zero, List.set_cons_succ, Array.toArray_toList, List.getElem_toArray, List.getElem_cons_zero, List.getElem_cons_succ]
    refine wpAnyH_take (i := 1) (v := ?v12) rfl (by kernel_rfl) (by kernel_rfl) (by kernel_rfl) (fun _ _ _ h => h) (Or.inl ⟨by rfl, ?hy12⟩) hHeld ?rest12
    case hy12 =>
      intro w hSw
      go_simp
      try with_reducible rfl
    try simp only [Act.put, List.setIfInBounds_toArray, List.set_cons_zero, List.set_cons_succ, Array.toArray_toList, List.getElem_toArray, List.getElem_cons_zero, List.getElem_cons_succ]
    refine wpAnyH_take (i := 2) (v := ?v13) rfl (by kernel_rfl) (by kernel_rfl) (by kernel_rfl) (fun _ _ _ h => h) (Or.inl ⟨by rfl, ?hy13⟩) hHeld ?rest13
    case hy13 =>
      intro w hSw
      go_simp
      try with_reducible rfl
    try simp only [Act.put, List.setIfInBounds_toArray, List.set_cons_zero, List.set_cons_succ, Array.toArray_toList, List.getElem_toArray, List.getElem_cons_zero, List.getElem_cons_succ]
    refine wpAnyH_take (i := 3) (v := ?v14) rfl (by kernel_rfl) (by kernel_rfl) (by kernel_rfl) (fun _ _ _ h => h) (Or.inl ⟨by rfl, ?hy14⟩) hHeld ?rest14
    case hy14 =>
      intro w hSw
      go_simp
      try with_reducible rfl
    try simp only [Act.put, List.setIfInBounds_toArray, List.set_cons_zero, List.set_cons_succ, Array.toArray_toList, List.getElem_toArray, List.getElem_cons_zero, List.getElem_cons_succ]
    refine wpAnyH_take (i := 4) (v := undef) rfl (by kernel_rfl) (by kernel_rfl) (by kernel_rfl) (fun _ _ _ h => h) (Or.inr ⟨by rfl, rfl⟩) hHeld ?_
    try simp only [Act.put, List.setIfInBounds_toArray, List.set_cons_zero, List.set_cons_succ, Array.toArray_toList, List.getElem_toArray, List.getElem_cons_zero, List.getElem_cons_succ]
    refine wpAnyH_take (i := 5) (v := undef) rfl (by kernel_rfl) (by kernel_rfl) (by kernel_rfl) (fun _ _ _ h => h) (Or.inr ⟨by rfl, rfl⟩) hHeld ?_
    try simp only [Act.put, List.setIfInBounds_toArray, List.set_cons_zero, List.set_cons_succ, Array.toArray_toList, List.getElem_toArray, List.getElem_cons_zero, List.getElem_cons_succ]
    refine wpAnyH_take (i := 6) (v := undef) rfl (by kernel_rfl) (by kernel_rfl) (by kernel_rfl) (fun _ _ _ h => h) (Or.inr ⟨by rfl, rfl⟩) hHeld ?_
    try simp only [Act.put, List.setIfInBounds_toArray, List.set_cons_zero, List.set_cons_succ, Array.toArray_toList, List.getElem_toArray, List.getElem_cons_zero, List.getElem_cons_succ]
    refine wpAnyH_take (i := 7) (v := undef) rfl (by kernel_rfl) (by kernel_rfl) (by kernel_rfl) (fun _ _ _ h => h) (Or.inr ⟨by rfl, rfl⟩) hHeld ?_
    try simp only [Act.put, List.setIfInBounds_toArray, List.set_cons_zero, List.set_cons_succ, Array.toArray_toList, List.getElem_toArray, List.getElem_cons_zero, List.getElem_cons_succ]
    refine wpAnyH_take (i := 8) (v := undef) rfl (by kernel_rfl) (by kernel_rfl) (by kernel_rfl) (fun _ _ _ h => h) (Or.inr ⟨by rfl, rfl⟩) hHeld ?_
    try simp only [Act.put, List.setIfInBounds_toArray, List.set_cons_zero, List.set_cons_succ, Array.toArray_toList, List.getElem_toArray, List.getElem_cons_zero, List.getElem_cons_succ]
    refine wpAnyH_take (i := 9) (v := undef) rfl (by kernel_rfl) (by kernel_rfl) (by kernel_rfl) (fun _ _ _ h => h) (Or.inr ⟨by rfl, rfl⟩) hHeld ?_
    try simp only [Act.put, List.setIfInBounds_toArray, List.set_cons_zero, List.set_cons_succ, Array.toArray_toList, List.getElem_toArray, List.getElem_cons_zero, List.getElem_cons_succ]
    refine wpAnyH_take (i := 10) (v := ?v15) rfl (by kernel_rfl) (by kernel_rfl) (by kernel_rfl) (fun _ _ _ h => h) (Or.inl ⟨by rfl, ?hy15⟩) hHeld ?rest15
    case hy15 =>
      intro w hSw
      go_simp
      try with_reducible rfl
    try simp only [Act.put, List.setIfInBounds_toArray, List.set_cons_zero, List.set_cons_succ, Array.toArray_toList, List.getElem_toArray, List.getElem_cons_zero, List.getElem_cons_succ]
    refine wpAnyH_take (i := 11) (v := ?v16) rfl (by kernel_rfl) (by kernel_rfl) (by kernel_rfl) (fun _ _ _ h => h) (Or.inl ⟨by rfl, ?hy16⟩) hHeld ?rest16
    case hy16 =>
      intro w hSw
      go_simp
      try with_reducible rfl
    try simp only [Act.put, List.setIfInBounds_toArray, List.set_cons_zero, List.set_cons_succ, Array.toArray_toList, List.getElem_toArray, List.getElem_cons_zero, List.getElem_cons_succ]
    refine wpAnyH_done (by kernel_rfl) ?_ _
    refine NoPanic.normal ?_
    go_wp2
    go_ret
    exact ⟨rfl, hB0.drew⟩

end Go.Proofs.YtahnlfiahchdeaaDoor
