/-
  What MerklePacks answers.
-/
import Derived.Test.YtahnlfiahchdeaaDoorMkY
namespace Go.Proofs.YtahnlfiahchdeaaDoor
open Go.RowKit
set_option linter.unusedVariables false
set_option linter.unusedSimpArgs false

/-- An element's address, whole. -/
def ix23 (x i : Value) : Sem Value := Instr.indexAt 23 x i
theorem ix23_eq (x i : Value) : Instr.indexAt 23 x i = ix23 x i := rfl
theorem size_byte (w : World) : (sizeOf 5).run Tryd.prog w = .ok 1 w := by
  have hi : (Tryd.prog.info? 5).map (·.size) = some 1 := by kernel_rfl
  cases hq : Tryd.prog.info? 5 with
  | none => simp [hq] at hi
  | some i => simp [hq] at hi; simp [sizeOf, typeInfo, hq, hi]
theorem ix23_run (w : World) (b off len cap i : Nat) (h : i < len) : (ix23 (.slice (some ⟨b, off, none⟩) len cap) (.int .i64 i)).run Tryd.prog w = .ok (.pointer (some ⟨b, off + i, none⟩)) w := by
  unfold ix23 Instr.indexAt
  have h1 : (0 : Int) ≤ (i : Int) ∧ (i : Int) < (len : Int) := by omega
  simp only [asIntOf, Sem.run_bind, Sem.run_pure, Result.andThen_ok, run_underlying Tryd.underlying23, if_pos h1, size_byte, Addr.add_mid, Int.toNat_natCast, Nat.mul_one]
/-- Bytes behind bytes. -/
def beh (m mb : Nat → Int) (n q : Nat) : Int := if q < n then m q else mb (q - n)
theorem beh_lo (m mb : Nat → Int) (n q : Nat) (h : q < n) : beh m mb n q = m q := if_pos h
theorem beh_hi (m mb : Nat → Int) (n q : Nat) : beh m mb n (n + q) = mb q := by
  unfold beh
  rw [if_neg (by omega), Nat.add_sub_cancel_left]
theorem bl_beh (m mb : Nat → Int) (n k : Nat) : bl m n ++ bl mb k = bl (beh m mb n) (n + k) := by
  unfold bl
  rw [List.range_add, List.map_append, List.map_map]
  congr 1
  · exact List.map_congr_left fun j hj => by rw [beh_lo _ _ _ _ (List.mem_range.1 hj)]
  · refine List.map_congr_left fun j hj => ?_
    show Value.int .u8 (mb j) = Value.int .u8 (beh m mb n (n + j))
    rw [beh_hi]

attribute [local go_sem ↓] sv24_eq lv24_eq ix22_eq slr_eq lv48_eq sv48_eq bd48_eq bd27_eq bs22_eq mk22_eq eqo_eq neo_eq ix23_eq

set_option maxRecDepth 20000 in
set_option maxHeartbeats 4000000 in
theorem packs_any (a ab : Option Addr) (len cap lenb capb : Nat) (m mb : Nat → Int) (w : World) (hS : Sh w) (hb : Bys w a len cap m) (hbb : Bys w ab lenb capb mb) (hl : len ≤ 1048576) (hlb : lenb ≤ 1048576) :
    Calls Tryd.prog 8 #[.slice a len cap, .slice ab lenb capb] w fun e w' => e = .returned (.bool true) ∧ Below w.heap.size w w' := by
  have HS := hid hS
  have HBA := hid hb
  have HBB := hid hbb
  have haw := awake_any w hS
  have HAW := hid haw
  clear hS hb hbb haw
  obtain ⟨nl, enl⟩ : ∃ n, n = (len + 31) / 32 := ⟨_, rfl⟩
  have t1 : ((len : Int) + 31).tdiv 32 = (nl : Int) := by rw [Int.tdiv_eq_ediv_of_nonneg (by omega)]; omega
  have t2 : ((len : Int) + 31) / 32 = (nl : Int) := by omega
  have hnl : nl ≤ 32769 := by omega
  have hnl2 : len ≤ 32 * nl := by omega
  have EN := hid enl
  clear enl
  have b20 := bs22_0
  go_enter Tryd.func8, Tryd.ntmps8
  go_upto_region 3 with (go_at_call 9; refine HAW.out.mono ?_; rintro e w1 ⟨rfl, hb1⟩)
  have hpk := pack_any a len cap m w1 (HBA.out.below hb1) (by omega)
  rw [← EN.out] at hpk
  have HPK := hid hpk
  have HB1 := hid hb1
  clear hpk hb1 HAW
  go_upto_region 4 with (go_at_call 15; refine HPK.out.mono ?_; rintro e w2 ⟨rfl, hb2, hz2, r2⟩)
  obtain ⟨g, eg⟩ : ∃ g, w1.heap.size = g := ⟨_, rfl⟩
  rw [eg] at r2 hz2 ⊢
  have hB2 : Below w.heap.size w w2 := HB1.out.trans (hb2.mono HB1.out.size)
  have hg2 : g < w2.heap.size := by omega
  have HB2 := hid hB2
  have R2 := hid r2
  clear hB2 r2 hb2 hz2 eg HPK HB1
  go_wp2
  go_loopw [6, 7] (fun v i wr => ∃ k : Nat, k ≤ nl ∧ i = .int .i64 k ∧ Below w2.heap.size w2 wr ∧ wr.ownsRow w2.heap.size 5 1 v (32 * k) (bl (pk m len) (32 * k))) (fun _ i _ => nl - (intOf i).toNat)
  case atStart => exact ⟨0, by omega, rfl, Below.refl _ _, World.ownsRow_nil _ _ _ _⟩
  case round =>
    obtain ⟨k, hk, rfl, hB, ho⟩ := hrel
    by_cases hlt : k < nl
    · have b3 : decide (k < nl) = true := by simp; omega
      have ixf := fun W => ix22_run W g 0 nl nl k hlt
      rw [Nat.zero_add] at ixf
      have hby : Bys wr (some ⟨g, 32 * k, none⟩) 32 32 (fun j => pk m len (32 * k + j)) := .inr (.inr ⟨g, 32 * k, rfl, Nat.le_refl _, by omega, Nat.lt_of_lt_of_le hg2 hB.size, fun j hj => (below_cell hB hg2).trans (row_int R2.out _ (by omega))⟩)
      have hsz := hB.size
      have HBY := hid hby
      have HB := hid hB
      have HO := hid ho
      clear hby hB ho
      go_wp2_with (at_builtin; go_loud (refine wpList_append_bys _ rfl _ _ rfl w2.heap.size u6 (32 * k) _ rfl HO.out (some ⟨g, 32 * k, none⟩) 32 32 _ rfl HBY.out (by omega) hsz ?_); intro v3 w3 ho3 hg3)
      go_roundw
      case rel =>
        refine ⟨k + 1, by omega, by go_num, below_grown HB.out HO.out hsz hg3, ?_⟩
        rw [bl_beh, bl_congr (m' := pk m len) (fun i hi => ?_)] at ho3
        · exact ho3
        · by_cases h : i < 32 * k
          · rw [beh_lo _ _ _ _ h]
          · unfold beh
            rw [if_neg h]
            show pk m len (32 * k + (i - 32 * k)) = _
            rw [show 32 * k + (i - 32 * k) = i by omega]
      case measure => simp [intOf]; omega
    · obtain rfl : nl = k := by omega
      have b3 : decide (nl < nl) = false := by simp
      rename World => w3
      obtain ⟨N, eN⟩ : ∃ N, N = 32 * nl := ⟨_, rfl⟩
      rw [← eN] at ho hnl2
      obtain ⟨a3, cap3, rfl, hby3, hnone⟩ := own_bys ho
      have hs3 := hB.size
      have hNb : N ≤ 1048608 := by omega
      have HB3 := hid hB
      have HY3 := hid hby3
      have HN := hid eN
      clear hB ho hnone eN hby3
      go_wp2
      go_loopw [8] (fun i wr => ∃ k : Nat, k ≤ N ∧ i = .int .i64 k ∧ Below w3.heap.size w3 wr) (fun i _ => N - (intOf i).toNat)
      case atStart => exact ⟨0, by omega, rfl, Below.refl _ _⟩
      case round =>
        obtain ⟨k0, hk0, rfl, hBr⟩ := hrel
        by_cases hlt : k0 < N
        · have b4 : decide (k0 < N) = true := by simp; omega
          have b5 : decide ((k0 : Int) < (N : Int)) = true := by simp; omega
          rcases HY3.out with ⟨_, h, _⟩ | ⟨_, _, h⟩ | ⟨b, off, rfl, hlc3, hcm3, hbl3, hc3⟩
          · omega
          · omega
          have ixb := fun W => ix23_run W b off N cap3 k0 hlt
          have hlb' : ∀ W, Below w3.heap.size w3 W → W.cell? ⟨b, off + k0, none⟩ = some (.int .u8 (pk m len k0)) := fun W h => (below_cell h hbl3).trans (hc3 k0 hlt)
          have HDR := hid hBr.drew
          by_cases hin : k0 < len
          · have c1 : decide (k0 < len) = true := by simp; omega
            have c2 : decide ((k0 : Int) < (len : Int)) = true := by simp; omega
            have c3 : decide (len ≤ k0) = false := by simp; omega
            have c4 : decide ((len : Int) ≤ (k0 : Int)) = false := by simp; omega
            rcases HBA.out with ⟨_, h, _⟩ | ⟨_, _, h⟩ | ⟨b', off', rfl, hlc1, hcm1, hbl1, hc1⟩
            · omega
            · omega
            have ixa := fun W => ix23_run W b' off' len cap k0 hin
            have hla : ∀ W, Below w3.heap.size w3 W → W.cell? ⟨b', off' + k0, none⟩ = some (.int .u8 (m k0)) := fun W h => (below_cell ((HB2.out.trans (HB3.out.mono HB2.out.size)).trans (h.mono (Nat.le_trans HB2.out.size hs3))) hbl1).trans (hc1 k0 hin)
            have epk : pk m len k0 = m k0 := if_pos hin
            rw [epk] at hlb'
            generalize m k0 = X at hla hlb'
            have LA := hid hla
            have LB := hid hlb'
            clear hla hlb' hc1 hc3 epk hBr
            go_upto_region 14 with fail
            refine wp_region_noPanic ?_
            refine wp_region_held_drew (S := fun W => Below w3.heap.size w3 W) (by kernel_rfl) (HDR.out) (fun hHeld => ?_)
            refine wpAnyH_take (i := 0) (v := ?v1) rfl (by kernel_rfl) (by kernel_rfl) (by kernel_rfl) (fun _ _ _ h => h) (Or.inl ⟨by rfl, ?hy1⟩) hHeld ?rest1
            case hy1 =>
              intro w hSw
              go_simp
              try with_reducible rfl
            try simp only [Act.put, List.setIfInBounds_toArray, List.set_cons_zero, List.set_cons_succ, Array.toArray_toList, List.getElem_toArray, List.getElem_cons_zero, List.getElem_cons_succ]
            refine wpAnyH_take (i := 1) (v := ?v2) rfl (by kernel_rfl) (by kernel_rfl) (by kernel_rfl) (fun _ _ _ h => h) (Or.inl ⟨by rfl, ?hy2⟩) hHeld ?rest2
            case hy2 =>
              intro w hSw
              go_simp
              try with_reducible rfl
            try simp only [Act.put, List.setIfInBounds_toArray, List.set_cons_zero, List.set_cons_succ, Array.toArray_toList, List.getElem_toArray, List.getElem_cons_zero, List.getElem_cons_succ]
            refine wpAnyH_take (i := 2) (v := ?v3) rfl (by kernel_rfl) (by kernel_rfl) (by kernel_rfl) (fun _ _ _ h => h) (Or.inl ⟨by rfl, ?hy3⟩) hHeld ?rest3
            case hy3 =>
              intro w hSw
              go_simp
              try with_reducible rfl
            try simp only [Act.put, List.setIfInBounds_toArray, List.set_cons_zero, List.set_cons_succ, Array.toArray_toList, List.getElem_toArray, List.getElem_cons_zero, List.getElem_cons_succ]
            refine wpAnyH_take (i := 3) (v := ?v4) rfl (by kernel_rfl) (by kernel_rfl) (by kernel_rfl) (fun _ _ _ h => h) (Or.inl ⟨by rfl, ?hy4⟩) hHeld ?rest4
            case hy4 =>
              intro w hSw
              go_simp
              try with_reducible rfl
            try simp only [Act.put, List.setIfInBounds_toArray, List.set_cons_zero, List.set_cons_succ, Array.toArray_toList, List.getElem_toArray, List.getElem_cons_zero, List.getElem_cons_succ]
            refine wpAnyH_take (i := 4) (v := ?v5) rfl (by kernel_rfl) (by kernel_rfl) (by kernel_rfl) (fun _ _ _ h => h) (Or.inl ⟨by rfl, ?hy5⟩) hHeld ?rest5
            case hy5 =>
              intro w hSw
              go_simp
              try with_reducible rfl
            try simp only [Act.put, List.setIfInBounds_toArray, List.set_cons_zero, List.set_cons_succ, Array.toArray_toList, List.getElem_toArray, List.getElem_cons_zero, List.getElem_cons_succ]
            refine wpAnyH_take (i := 5) (v := ?v6) rfl (by kernel_rfl) (by kernel_rfl) (by kernel_rfl) (fun _ _ _ h => h) (Or.inl ⟨by rfl, ?hy6⟩) hHeld ?rest6
            case hy6 =>
              intro w hSw
              go_simp
              try with_reducible rfl
            try simp only [Act.put, List.setIfInBounds_toArray, List.set_cons_zero, List.set_cons_succ, Array.toArray_toList, List.getElem_toArray, List.getElem_cons_zero, List.getElem_cons_succ]
            refine wpAnyH_take (i := 6) (v := ?v7) rfl (by kernel_rfl) (by kernel_rfl) (by kernel_rfl) (fun _ _ _ h => h) (Or.inl ⟨by rfl, ?hy7⟩) hHeld ?rest7
            case hy7 =>
              intro w hSw
              go_simp
              try with_reducible rfl
            try simp only [Act.put, List.setIfInBounds_toArray, List.set_cons_zero, List.set_cons_succ, Array.toArray_toList, List.getElem_toArray, List.getElem_cons_zero, List.getElem_cons_succ]
            refine wpAnyH_take (i := 7) (v := ?v8) rfl (by kernel_rfl) (by kernel_rfl) (by kernel_rfl) (fun _ _ _ h => h) (Or.inl ⟨by rfl, ?hy8⟩) hHeld ?rest8
            case hy8 =>
              intro w hSw
              go_simp
              try with_reducible rfl
            try simp only [Act.put, List.setIfInBounds_toArray, List.set_cons_zero, List.set_cons_succ, Array.toArray_toList, List.getElem_toArray, List.getElem_cons_zero, List.getElem_cons_succ]
            refine wpAnyH_take (i := 8) (v := ?v9) rfl (by kernel_rfl) (by kernel_rfl) (by kernel_rfl) (fun _ _ _ h => h) (Or.inl ⟨by rfl, ?hy9⟩) hHeld ?rest9
            case hy9 =>
              intro w hSw
              have ld := LB.out _ hSw
              go_simp
              try with_reducible rfl
            try simp only [Act.put, List.setIfInBounds_toArray, List.set_cons_zero, List.set_cons_succ, Array.toArray_toList, List.getElem_toArray, List.getElem_cons_zero, List.getElem_cons_succ]
            refine wpAnyH_take (i := 9) (v := ?v10) rfl (by kernel_rfl) (by kernel_rfl) (by kernel_rfl) (fun _ _ _ h => h) (Or.inl ⟨by rfl, ?hy10⟩) hHeld ?rest10
            case hy10 =>
              intro w hSw
              go_simp
              try with_reducible rfl
            try simp only [Act.put, List.setIfInBounds_toArray, List.set_cons_zero, List.set_cons_succ, Array.toArray_toList, List.getElem_toArray, List.getElem_cons_zero, List.getElem_cons_succ]
            refine wpAnyH_take (i := 10) (v := ?v11) rfl (by kernel_rfl) (by kernel_rfl) (by kernel_rfl) (fun _ _ _ h => h) (Or.inl ⟨by rfl, ?hy11⟩) hHeld ?rest11
            case hy11 =>
              intro w hSw
              go_simp
              try with_reducible rfl
            try simp only [Act.put, List.setIfInBounds_toArray, List.set_cons_zero, List.set_cons_succ, Array.toArray_toList, List.getElem_toArray, List.getElem_cons_zero, List.getElem_cons_succ]
            refine wpAnyH_take (i := 11) (v := ?v12) rfl (by kernel_rfl) (by kernel_rfl) (by kernel_rfl) (fun _ _ _ h => h) (Or.inl ⟨by rfl, ?hy12⟩) hHeld ?rest12
            case hy12 =>
              intro w hSw
              go_simp
              try with_reducible rfl
            try simp only [Act.put, List.setIfInBounds_toArray, List.set_cons_zero, List.set_cons_succ, Array.toArray_toList, List.getElem_toArray, List.getElem_cons_zero, List.getElem_cons_succ]
            refine wpAnyH_take (i := 12) (v := ?v13) rfl (by kernel_rfl) (by kernel_rfl) (by kernel_rfl) (fun _ _ _ h => h) (Or.inl ⟨by rfl, ?hy13⟩) hHeld ?rest13
            case hy13 =>
              intro w hSw
              have ld := LA.out _ hSw
              go_simp
              try with_reducible rfl
            try simp only [Act.put, List.setIfInBounds_toArray, List.set_cons_zero, List.set_cons_succ, Array.toArray_toList, List.getElem_toArray, List.getElem_cons_zero, List.getElem_cons_succ]
            refine wpAnyH_take (i := 13) (v := ?v14) rfl (by kernel_rfl) (by kernel_rfl) (by kernel_rfl) (fun _ _ _ h => h) (Or.inl ⟨by rfl, ?hy14⟩) hHeld ?rest14
            case hy14 =>
              intro w hSw
              go_simp
              try with_reducible rfl
            try simp only [Act.put, List.setIfInBounds_toArray, List.set_cons_zero, List.set_cons_succ, Array.toArray_toList, List.getElem_toArray, List.getElem_cons_zero, List.getElem_cons_succ]
            refine wpAnyH_take (i := 14) (v := ?v15) rfl (by kernel_rfl) (by kernel_rfl) (by kernel_rfl) (fun _ _ _ h => h) (Or.inl ⟨by rfl, ?hy15⟩) hHeld ?rest15
            case hy15 =>
              intro w hSw
              go_simp
              try with_reducible rfl
            try simp only [Act.put, List.setIfInBounds_toArray, List.set_cons_zero, List.set_cons_succ, Array.toArray_toList, List.getElem_toArray, List.getElem_cons_zero, List.getElem_cons_succ]
            refine wpAnyH_take (i := 15) (v := ?v16) rfl (by kernel_rfl) (by kernel_rfl) (by kernel_rfl) (fun _ _ _ h => h) (Or.inl ⟨by rfl, ?hy16⟩) hHeld ?rest16
            case hy16 =>
              intro w hSw
              go_simp
              try with_reducible rfl
            try simp only [Act.put, List.setIfInBounds_toArray, List.set_cons_zero, List.set_cons_succ, Array.toArray_toList, List.getElem_toArray, List.getElem_cons_zero, List.getElem_cons_succ]
            refine wpAnyH_take (i := 16) (v := ?v17) rfl (by kernel_rfl) (by kernel_rfl) (by kernel_rfl) (fun _ _ _ h => h) (Or.inl ⟨by rfl, ?hy17⟩) hHeld ?rest17
            case hy17 =>
              intro w hSw
              go_simp
              try with_reducible rfl
            try simp only [Act.put, List.setIfInBounds_toArray, List.set_cons_zero, List.set_cons_succ, Array.toArray_toList, List.getElem_toArray, List.getElem_cons_zero, List.getElem_cons_succ]
            refine wpAnyH_take (i := 17) (v := ?v18) rfl (by kernel_rfl) (by kernel_rfl) (by kernel_rfl) (fun _ _ _ h => h) (Or.inl ⟨by rfl, ?hy18⟩) hHeld ?rest18
            case hy18 =>
              intro w hSw
              go_simp
              try with_reducible rfl
            try simp only [Act.put, List.setIfInBounds_toArray, List.set_cons_zero, List.set_cons_succ, Array.toArray_toList, List.getElem_toArray, List.getElem_cons_zero, List.getElem_cons_succ]
            refine wpAnyH_take (i := 18) (v := ?v19) rfl (by kernel_rfl) (by kernel_rfl) (by kernel_rfl) (fun _ _ _ h => h) (Or.inl ⟨by rfl, ?hy19⟩) hHeld ?rest19
            case hy19 =>
              intro w hSw
              go_simp
              try with_reducible rfl
            try simp only [Act.put, List.setIfInBounds_toArray, List.set_cons_zero, List.set_cons_succ, Array.toArray_toList, List.getElem_toArray, List.getElem_cons_zero, List.getElem_cons_succ]
            refine wpAnyH_take (i := 19) (v := ?v20) rfl (by kernel_rfl) (by kernel_rfl) (by kernel_rfl) (fun _ _ _ h => h) (Or.inl ⟨by rfl, ?hy20⟩) hHeld ?rest20
            case hy20 =>
              intro w hSw
              go_simp
              try with_reducible rfl
            try simp only [Act.put, List.setIfInBounds_toArray, List.set_cons_zero, List.set_cons_succ, Array.toArray_toList, List.getElem_toArray, List.getElem_cons_zero, List.getElem_cons_succ]
            refine wpAnyH_take (i := 20) (v := ?v21) rfl (by kernel_rfl) (by kernel_rfl) (by kernel_rfl) (fun _ _ _ h => h) (Or.inl ⟨by rfl, ?hy21⟩) hHeld ?rest21
            case hy21 =>
              intro w hSw
              go_simp
              try with_reducible rfl
            try simp only [Act.put, List.setIfInBounds_toArray, List.set_cons_zero, List.set_cons_succ, Array.toArray_toList, List.getElem_toArray, List.getElem_cons_zero, List.getElem_cons_succ]
            refine wpAnyH_take (i := 21) (v := undef) rfl (by kernel_rfl) (by kernel_rfl) (by kernel_rfl) (fun _ _ _ h => h) (Or.inr ⟨by rfl, rfl⟩) hHeld ?_
            try simp only [Act.put, List.setIfInBounds_toArray, List.set_cons_zero, List.set_cons_succ, Array.toArray_toList, List.getElem_toArray, List.getElem_cons_zero, List.getElem_cons_succ]
            refine wpAnyH_take (i := 22) (v := undef) rfl (by kernel_rfl) (by kernel_rfl) (by kernel_rfl) (fun _ _ _ h => h) (Or.inr ⟨by rfl, rfl⟩) hHeld ?_
            try simp only [Act.put, List.setIfInBounds_toArray, List.set_cons_zero, List.set_cons_succ, Array.toArray_toList, List.getElem_toArray, List.getElem_cons_zero, List.getElem_cons_succ]
            refine wpAnyH_take (i := 23) (v := undef) rfl (by kernel_rfl) (by kernel_rfl) (by kernel_rfl) (fun _ _ _ h => h) (Or.inr ⟨by rfl, rfl⟩) hHeld ?_
            try simp only [Act.put, List.setIfInBounds_toArray, List.set_cons_zero, List.set_cons_succ, Array.toArray_toList, List.getElem_toArray, List.getElem_cons_zero, List.getElem_cons_succ]
            refine wpAnyH_take (i := 24) (v := undef) rfl (by kernel_rfl) (by kernel_rfl) (by kernel_rfl) (fun _ _ _ h => h) (Or.inr ⟨by rfl, rfl⟩) hHeld ?_
            try simp only [Act.put, List.setIfInBounds_toArray, List.set_cons_zero, List.set_cons_succ, Array.toArray_toList, List.getElem_toArray, List.getElem_cons_zero, List.getElem_cons_succ]
            refine wpAnyH_take (i := 25) (v := undef) rfl (by kernel_rfl) (by kernel_rfl) (by kernel_rfl) (fun _ _ _ h => h) (Or.inr ⟨by rfl, rfl⟩) hHeld ?_
            try simp only [Act.put, List.setIfInBounds_toArray, List.set_cons_zero, List.set_cons_succ, Array.toArray_toList, List.getElem_toArray, List.getElem_cons_zero, List.getElem_cons_succ]
            refine wpAnyH_take (i := 26) (v := ?v22) rfl (by kernel_rfl) (by kernel_rfl) (by kernel_rfl) (fun _ _ _ h => h) (Or.inl ⟨by rfl, ?hy22⟩) hHeld ?rest22
            case hy22 =>
              intro w hSw
              go_simp
              try with_reducible rfl
            try simp only [Act.put, List.setIfInBounds_toArray, List.set_cons_zero, List.set_cons_succ, Array.toArray_toList, List.getElem_toArray, List.getElem_cons_zero, List.getElem_cons_succ]
            refine wpAnyH_take (i := 27) (v := ?v23) rfl (by kernel_rfl) (by kernel_rfl) (by kernel_rfl) (fun _ _ _ h => h) (Or.inl ⟨by rfl, ?hy23⟩) hHeld ?rest23
            case hy23 =>
              intro w hSw
              go_simp
              try with_reducible rfl
            try simp only [Act.put, List.setIfInBounds_toArray, List.set_cons_zero, List.set_cons_succ, Array.toArray_toList, List.getElem_toArray, List.getElem_cons_zero, List.getElem_cons_succ]
            refine wpAnyH_done (by kernel_rfl) ?_ _
            refine NoPanic.normal ?_
            go_wp2
            go_roundw
            case rel => exact ⟨k0 + 1, by omega, by go_num, HDR.out⟩
            case measure => simp [intOf]; omega
          · have c1 : decide (k0 < len) = false := by simp; omega
            have c2 : decide ((k0 : Int) < (len : Int)) = false := by simp; omega
            have c3 : decide (len ≤ k0) = true := by simp; omega
            have c4 : decide ((len : Int) ≤ (k0 : Int)) = true := by simp; omega
            have epk : pk m len k0 = 0 := if_neg hin
            rw [epk] at hlb'
            have LB := hid hlb'
            clear hlb' hc3 epk hBr
            go_upto_region 14 with fail
            refine wp_region_noPanic ?_
            refine wp_region_held_drew (S := fun W => Below w3.heap.size w3 W) (by kernel_rfl) (HDR.out) (fun hHeld => ?_)
            refine wpAnyH_take (i := 0) (v := ?v24) rfl (by kernel_rfl) (by kernel_rfl) (by kernel_rfl) (fun _ _ _ h => h) (Or.inl ⟨by rfl, ?hy24⟩) hHeld ?rest24
            case hy24 =>
              intro w hSw
              go_simp
              try with_reducible rfl
            try simp only [Act.put, List.setIfInBounds_toArray, List.set_cons_zero, List.set_cons_succ, Array.toArray_toList, List.getElem_toArray, List.getElem_cons_zero, List.getElem_cons_succ]
            refine wpAnyH_take (i := 1) (v := ?v25) rfl (by kernel_rfl) (by kernel_rfl) (by kernel_rfl) (fun _ _ _ h => h) (Or.inl ⟨by rfl, ?hy25⟩) hHeld ?rest25
            case hy25 =>
              intro w hSw
              go_simp
              try with_reducible rfl
            try simp only [Act.put, List.setIfInBounds_toArray, List.set_cons_zero, List.set_cons_succ, Array.toArray_toList, List.getElem_toArray, List.getElem_cons_zero, List.getElem_cons_succ]
            refine wpAnyH_take (i := 2) (v := ?v26) rfl (by kernel_rfl) (by kernel_rfl) (by kernel_rfl) (fun _ _ _ h => h) (Or.inl ⟨by rfl, ?hy26⟩) hHeld ?rest26
            case hy26 =>
              intro w hSw
              go_simp
              try with_reducible rfl
            try simp only [Act.put, List.setIfInBounds_toArray, List.set_cons_zero, List.set_cons_succ, Array.toArray_toList, List.getElem_toArray, List.getElem_cons_zero, List.getElem_cons_succ]
            refine wpAnyH_take (i := 3) (v := ?v27) rfl (by kernel_rfl) (by kernel_rfl) (by kernel_rfl) (fun _ _ _ h => h) (Or.inl ⟨by rfl, ?hy27⟩) hHeld ?rest27
            case hy27 =>
              intro w hSw
              go_simp
              try with_reducible rfl
            try simp only [Act.put, List.setIfInBounds_toArray, List.set_cons_zero, List.set_cons_succ, Array.toArray_toList, List.getElem_toArray, List.getElem_cons_zero, List.getElem_cons_succ]
            refine wpAnyH_take (i := 4) (v := ?v28) rfl (by kernel_rfl) (by kernel_rfl) (by kernel_rfl) (fun _ _ _ h => h) (Or.inl ⟨by rfl, ?hy28⟩) hHeld ?rest28
            case hy28 =>
              intro w hSw
              go_simp
              try with_reducible rfl
            try simp only [Act.put, List.setIfInBounds_toArray, List.set_cons_zero, List.set_cons_succ, Array.toArray_toList, List.getElem_toArray, List.getElem_cons_zero, List.getElem_cons_succ]
            refine wpAnyH_take (i := 5) (v := undef) rfl (by kernel_rfl) (by kernel_rfl) (by kernel_rfl) (fun _ _ _ h => h) (Or.inr ⟨by rfl, rfl⟩) hHeld ?_
            try simp only [Act.put, List.setIfInBounds_toArray, List.set_cons_zero, List.set_cons_succ, Array.toArray_toList, List.getElem_toArray, List.getElem_cons_zero, List.getElem_cons_succ]
            refine wpAnyH_take (i := 6) (v := undef) rfl (by kernel_rfl) (by kernel_rfl) (by kernel_rfl) (fun _ _ _ h => h) (Or.inr ⟨by rfl, rfl⟩) hHeld ?_
            try simp only [Act.put, List.setIfInBounds_toArray, List.set_cons_zero, List.set_cons_succ, Array.toArray_toList, List.getElem_toArray, List.getElem_cons_zero, List.getElem_cons_succ]
            refine wpAnyH_take (i := 7) (v := undef) rfl (by kernel_rfl) (by kernel_rfl) (by kernel_rfl) (fun _ _ _ h => h) (Or.inr ⟨by rfl, rfl⟩) hHeld ?_
            try simp only [Act.put, List.setIfInBounds_toArray, List.set_cons_zero, List.set_cons_succ, Array.toArray_toList, List.getElem_toArray, List.getElem_cons_zero, List.getElem_cons_succ]
            refine wpAnyH_take (i := 8) (v := undef) rfl (by kernel_rfl) (by kernel_rfl) (by kernel_rfl) (fun _ _ _ h => h) (Or.inr ⟨by rfl, rfl⟩) hHeld ?_
            try simp only [Act.put, List.setIfInBounds_toArray, List.set_cons_zero, List.set_cons_succ, Array.toArray_toList, List.getElem_toArray, List.getElem_cons_zero, List.getElem_cons_succ]
            refine wpAnyH_take (i := 9) (v := undef) rfl (by kernel_rfl) (by kernel_rfl) (by kernel_rfl) (fun _ _ _ h => h) (Or.inr ⟨by rfl, rfl⟩) hHeld ?_
            try simp only [Act.put, List.setIfInBounds_toArray, List.set_cons_zero, List.set_cons_succ, Array.toArray_toList, List.getElem_toArray, List.getElem_cons_zero, List.getElem_cons_succ]
            refine wpAnyH_take (i := 10) (v := undef) rfl (by kernel_rfl) (by kernel_rfl) (by kernel_rfl) (fun _ _ _ h => h) (Or.inr ⟨by rfl, rfl⟩) hHeld ?_
            try simp only [Act.put, List.setIfInBounds_toArray, List.set_cons_zero, List.set_cons_succ, Array.toArray_toList, List.getElem_toArray, List.getElem_cons_zero, List.getElem_cons_succ]
            refine wpAnyH_take (i := 11) (v := undef) rfl (by kernel_rfl) (by kernel_rfl) (by kernel_rfl) (fun _ _ _ h => h) (Or.inr ⟨by rfl, rfl⟩) hHeld ?_
            try simp only [Act.put, List.setIfInBounds_toArray, List.set_cons_zero, List.set_cons_succ, Array.toArray_toList, List.getElem_toArray, List.getElem_cons_zero, List.getElem_cons_succ]
            refine wpAnyH_take (i := 12) (v := undef) rfl (by kernel_rfl) (by kernel_rfl) (by kernel_rfl) (fun _ _ _ h => h) (Or.inr ⟨by rfl, rfl⟩) hHeld ?_
            try simp only [Act.put, List.setIfInBounds_toArray, List.set_cons_zero, List.set_cons_succ, Array.toArray_toList, List.getElem_toArray, List.getElem_cons_zero, List.getElem_cons_succ]
            refine wpAnyH_take (i := 13) (v := undef) rfl (by kernel_rfl) (by kernel_rfl) (by kernel_rfl) (fun _ _ _ h => h) (Or.inr ⟨by rfl, rfl⟩) hHeld ?_
            try simp only [Act.put, List.setIfInBounds_toArray, List.set_cons_zero, List.set_cons_succ, Array.toArray_toList, List.getElem_toArray, List.getElem_cons_zero, List.getElem_cons_succ]
            refine wpAnyH_take (i := 14) (v := ?v29) rfl (by kernel_rfl) (by kernel_rfl) (by kernel_rfl) (fun _ _ _ h => h) (Or.inl ⟨by rfl, ?hy29⟩) hHeld ?rest29
            case hy29 =>
              intro w hSw
              go_simp
              try with_reducible rfl
            try simp only [Act.put, List.setIfInBounds_toArray, List.set_cons_zero, List.set_cons_succ, Array.toArray_toList, List.getElem_toArray, List.getElem_cons_zero, List.getElem_cons_succ]
            refine wpAnyH_take (i := 15) (v := ?v30) rfl (by kernel_rfl) (by kernel_rfl) (by kernel_rfl) (fun _ _ _ h => h) (Or.inl ⟨by rfl, ?hy30⟩) hHeld ?rest30
            case hy30 =>
              intro w hSw
              go_simp
              try with_reducible rfl
            try simp only [Act.put, List.setIfInBounds_toArray, List.set_cons_zero, List.set_cons_succ, Array.toArray_toList, List.getElem_toArray, List.getElem_cons_zero, List.getElem_cons_succ]
            refine wpAnyH_take (i := 16) (v := ?v31) rfl (by kernel_rfl) (by kernel_rfl) (by kernel_rfl) (fun _ _ _ h => h) (Or.inl ⟨by rfl, ?hy31⟩) hHeld ?rest31
            case hy31 =>
              intro w hSw
              go_simp
              try with_reducible rfl
            try simp only [Act.put, List.setIfInBounds_toArray, List.set_cons_zero, List.set_cons_succ, Array.toArray_toList, List.getElem_toArray, List.getElem_cons_zero, List.getElem_cons_succ]
            refine wpAnyH_take (i := 17) (v := ?v32) rfl (by kernel_rfl) (by kernel_rfl) (by kernel_rfl) (fun _ _ _ h => h) (Or.inl ⟨by rfl, ?hy32⟩) hHeld ?rest32
            case hy32 =>
              intro w hSw
              go_simp
              try with_reducible rfl
            try simp only [Act.put, List.setIfInBounds_toArray, List.set_cons_zero, List.set_cons_succ, Array.toArray_toList, List.getElem_toArray, List.getElem_cons_zero, List.getElem_cons_succ]
            refine wpAnyH_take (i := 18) (v := ?v33) rfl (by kernel_rfl) (by kernel_rfl) (by kernel_rfl) (fun _ _ _ h => h) (Or.inl ⟨by rfl, ?hy33⟩) hHeld ?rest33
            case hy33 =>
              intro w hSw
              go_simp
              try with_reducible rfl
            try simp only [Act.put, List.setIfInBounds_toArray, List.set_cons_zero, List.set_cons_succ, Array.toArray_toList, List.getElem_toArray, List.getElem_cons_zero, List.getElem_cons_succ]
            refine wpAnyH_take (i := 19) (v := ?v34) rfl (by kernel_rfl) (by kernel_rfl) (by kernel_rfl) (fun _ _ _ h => h) (Or.inl ⟨by rfl, ?hy34⟩) hHeld ?rest34
            case hy34 =>
              intro w hSw
              go_simp
              try with_reducible rfl
            try simp only [Act.put, List.setIfInBounds_toArray, List.set_cons_zero, List.set_cons_succ, Array.toArray_toList, List.getElem_toArray, List.getElem_cons_zero, List.getElem_cons_succ]
            refine wpAnyH_take (i := 20) (v := ?v35) rfl (by kernel_rfl) (by kernel_rfl) (by kernel_rfl) (fun _ _ _ h => h) (Or.inl ⟨by rfl, ?hy35⟩) hHeld ?rest35
            case hy35 =>
              intro w hSw
              go_simp
              try with_reducible rfl
            try simp only [Act.put, List.setIfInBounds_toArray, List.set_cons_zero, List.set_cons_succ, Array.toArray_toList, List.getElem_toArray, List.getElem_cons_zero, List.getElem_cons_succ]
            refine wpAnyH_take (i := 21) (v := ?v36) rfl (by kernel_rfl) (by kernel_rfl) (by kernel_rfl) (fun _ _ _ h => h) (Or.inl ⟨by rfl, ?hy36⟩) hHeld ?rest36
            case hy36 =>
              intro w hSw
              go_simp
              try with_reducible rfl
            try simp only [Act.put, List.setIfInBounds_toArray, List.set_cons_zero, List.set_cons_succ, Array.toArray_toList, List.getElem_toArray, List.getElem_cons_zero, List.getElem_cons_succ]
            refine wpAnyH_take (i := 22) (v := ?v37) rfl (by kernel_rfl) (by kernel_rfl) (by kernel_rfl) (fun _ _ _ h => h) (Or.inl ⟨by rfl, ?hy37⟩) hHeld ?rest37
            case hy37 =>
              intro w hSw
              go_simp
              try with_reducible rfl
            try simp only [Act.put, List.setIfInBounds_toArray, List.set_cons_zero, List.set_cons_succ, Array.toArray_toList, List.getElem_toArray, List.getElem_cons_zero, List.getElem_cons_succ]
            refine wpAnyH_take (i := 23) (v := ?v38) rfl (by kernel_rfl) (by kernel_rfl) (by kernel_rfl) (fun _ _ _ h => h) (Or.inl ⟨by rfl, ?hy38⟩) hHeld ?rest38
            case hy38 =>
              intro w hSw
              go_simp
              try with_reducible rfl
            try simp only [Act.put, List.setIfInBounds_toArray, List.set_cons_zero, List.set_cons_succ, Array.toArray_toList, List.getElem_toArray, List.getElem_cons_zero, List.getElem_cons_succ]
            refine wpAnyH_take (i := 24) (v := ?v39) rfl (by kernel_rfl) (by kernel_rfl) (by kernel_rfl) (fun _ _ _ h => h) (Or.inl ⟨by rfl, ?hy39⟩) hHeld ?rest39
            case hy39 =>
              intro w hSw
              have ld := LB.out _ hSw
              go_simp
              try with_reducible rfl
            try simp only [Act.put, List.setIfInBounds_toArray, List.set_cons_zero, List.set_cons_succ, Array.toArray_toList, List.getElem_toArray, List.getElem_cons_zero, List.getElem_cons_succ]
            refine wpAnyH_take (i := 25) (v := ?v40) rfl (by kernel_rfl) (by kernel_rfl) (by kernel_rfl) (fun _ _ _ h => h) (Or.inl ⟨by rfl, ?hy40⟩) hHeld ?rest40
            case hy40 =>
              intro w hSw
              go_simp
              try with_reducible rfl
            try simp only [Act.put, List.setIfInBounds_toArray, List.set_cons_zero, List.set_cons_succ, Array.toArray_toList, List.getElem_toArray, List.getElem_cons_zero, List.getElem_cons_succ]
            refine wpAnyH_take (i := 26) (v := ?v41) rfl (by kernel_rfl) (by kernel_rfl) (by kernel_rfl) (fun _ _ _ h => h) (Or.inl ⟨by rfl, ?hy41⟩) hHeld ?rest41
            case hy41 =>
              intro w hSw
              go_simp
              try with_reducible rfl
            try simp only [Act.put, List.setIfInBounds_toArray, List.set_cons_zero, List.set_cons_succ, Array.toArray_toList, List.getElem_toArray, List.getElem_cons_zero, List.getElem_cons_succ]
            refine wpAnyH_take (i := 27) (v := ?v42) rfl (by kernel_rfl) (by kernel_rfl) (by kernel_rfl) (fun _ _ _ h => h) (Or.inl ⟨by rfl, ?hy42⟩) hHeld ?rest42
            case hy42 =>
              intro w hSw
              go_simp
              try with_reducible rfl
            try simp only [Act.put, List.setIfInBounds_toArray, List.set_cons_zero, List.set_cons_succ, Array.toArray_toList, List.getElem_toArray, List.getElem_cons_zero, List.getElem_cons_succ]
            refine wpAnyH_done (by kernel_rfl) ?_ _
            refine NoPanic.normal ?_
            go_wp2
            go_roundw
            case rel => exact ⟨k0 + 1, by omega, by go_num, HDR.out⟩
            case measure => simp [intOf]; omega
        · obtain rfl : N = k0 := by omega
          have b4 : decide (N < N) = false := by simp
          have b5 : decide ((N : Int) < (N : Int)) = false := by simp
          rename World => w4
          obtain ⟨nb, enb⟩ : ∃ n, n = (lenb + 31) / 32 := ⟨_, rfl⟩
          have s4 := hBr.size
          have hB4 : Below w.heap.size w w4 := (HB2.out.trans (HB3.out.mono HB2.out.size)).trans (hBr.mono (Nat.le_trans HB2.out.size hs3))
          have hy4 := HY3.out.below hBr
          have r4 := (hBr.block g (by omega)).trans ((HB3.out.block g hg2).trans R2.out)
          have hg4 : g < w4.heap.size := by omega
          have hpk6 : ∀ W a' cap', Bys W a' (N + lenb) cap' (beh (pk m len) mb N) → Calls Tryd.prog 15 #[.slice a' (N + lenb) cap'] W fun e w' => ∃ g6, e = .returned (.slice (some ⟨g6, 0, none⟩) (nl + nb) (nl + nb)) ∧ Below W.heap.size W w' ∧ Rts w' (some ⟨g6, 0, none⟩) (nl + nb) (nl + nb) (pk (beh (pk m len) mb N) (N + lenb)) := fun W a' cap' h => (pack_any a' (N + lenb) cap' (beh (pk m len) mb N) W h (by omega)).mono (fun e w' h2 => by
            have e6 : (N + lenb + 31) / 32 = nl + nb := by have := HN.out; omega
            rw [e6] at h2
            exact ⟨_, h2.1, h2.2.1, rts_row h2.2.2.2⟩)
          have hpkb : ∀ W, Below w.heap.size w W → Calls Tryd.prog 15 #[.slice ab lenb capb] W fun e w' => ∃ g8, e = .returned (.slice (some ⟨g8, 0, none⟩) nb nb) ∧ Below W.heap.size W w' ∧ Rts w' (some ⟨g8, 0, none⟩) nb nb (pk mb lenb) := fun W h => (pack_any ab lenb capb mb W (HBB.out.below h) (by omega)).mono (fun e w' h2 => by
            rw [← enb] at h2
            exact ⟨_, h2.1, h2.2.1, rts_row h2.2.2.2⟩)
          have hsame : ∀ W a1 c1 a2 c2, Rts W a1 (nl + nb) c1 (pk (beh (pk m len) mb N) (N + lenb)) → Rts W a2 (nl + nb) c2 (beh (pk m len) (pk mb lenb) (32 * nl)) → Calls Tryd.prog 12 #[.slice a1 (nl + nb) c1, .slice a2 (nl + nb) c2] W fun e w' => e = .returned (.bool true) ∧ Below W.heap.size W w' := fun W a1 c1 a2 c2 h1 h2 => rsame_true a1 a2 _ c1 c2 _ _ W h1 h2 (fun q hq => by
            have e := HN.out
            unfold pk beh
            rw [← e]
            by_cases h : q < N
            · rw [if_pos h, if_pos (by omega), if_pos h]
            · rw [if_neg h, if_neg h]
              by_cases h3 : q < N + lenb
              · rw [if_pos h3]
                exact (if_pos (show q - N < lenb by omega)).symm
              · rw [if_neg h3]
                exact (if_neg (show ¬ q - N < lenb by omega)).symm) (by omega)
          have hnbb : nb ≤ 32769 := by omega
          have HB4 := hid hB4
          have HY4 := hid hy4
          have R4 := hid r4
          have HPK6 := hid hpk6
          have HPKB := hid hpkb
          have HSAME := hid hsame
          clear hB4 hy4 r4 hpk6 hpkb hsame hBr HY3 R2 HB3 HB2 enb
          go_upto_region 17 with (first
            | (at_builtin; refine wpList_append_bys _ rfl _ _ rfl w4.heap.size _ 0 [] rfl (World.ownsRow_made _ #[] 0 (Nat.le_refl _) (Nat.zero_le _) rfl) a3 N cap3 (pk m len) rfl (HY4.out.below ((Below.refl _ _).alloc (Nat.le_refl _) _)) (by omega) (by simp) ?_; intro v5 w5 ho5 hg5; rw [Nat.zero_add, List.nil_append] at ho5; have hb5 := below_grown ((Below.refl w4.heap.size w4).alloc (Nat.le_refl _) (.cells #[] 5)) (World.ownsRow_made (e := 5) (size := 1) _ #[] 0 (Nat.le_refl _) (Nat.zero_le _) rfl) (by simp) hg5; have HO5 := hid ho5; have HB5 := hid hb5; clear ho5 hb5 hg5)
            | (at_builtin; refine wpList_append_bys _ rfl _ _ rfl w4.heap.size _ N _ rfl HO5.out ab lenb capb mb rfl (HBB.out.below (HB4.out.trans (HB5.out.mono HB4.out.size))) (by omega) HB5.out.size ?_; intro v6 w6 ho6 hg6; have hb6 := below_grown HB5.out HO5.out HB5.out.size hg6; rw [bl_beh] at ho6; obtain ⟨a6, cap6, rfl, hy6, _⟩ := own_bys ho6; have HB6 := hid hb6; have HY6 := hid hy6; clear ho6 hg6 hb6 hy6)
            | (go_at_call 15; refine (HPK6.out _ a6 cap6 HY6.out).mono ?_; rintro e w7 ⟨g6, rfl, hb7', hr7⟩))
          have hb7 : Below w4.heap.size w4 w7 := HB6.out.trans (hb7'.mono HB6.out.size)
          have s7 := hb7.size
          have hB7 : Below w.heap.size w w7 := HB4.out.trans (hb7.mono HB4.out.size)
          have hl7 : Rts w7 (some ⟨g, 0, none⟩) nl nl (pk m len) := rts_row ((hb7.block g hg4).trans R4.out)
          have HB7 := hid hB7
          have HL7 := hid hl7
          have HR7 := hid hr7
          clear hB7 hl7 hr7 hb7 hb7' HB6 HY6 HO5 HB5 HPK6 HY4 R4 HB4
          go_wp2_with (first
            | (at_builtin; refine wpList_append_rts _ rfl _ _ rfl w7.heap.size _ 0 (pk m len) rfl (World.ownsRow_made _ #[] 0 (Nat.le_refl _) (Nat.zero_le _) rfl) (some ⟨g, 0, none⟩) nl nl (pk m len) rfl (HL7.out.below ((Below.refl _ _).alloc (Nat.le_refl _) _)) (by omega) (by simp) (pk m len) (fun q _ => rfl) (fun q _ => by rw [Nat.mul_zero, Nat.zero_add]) ?_; intro v8 w8 ho8 hg8; rw [Nat.zero_add] at ho8; have hb8 := below_grownS ((Below.refl w7.heap.size w7).alloc (Nat.le_refl _) (.cells #[] 27)) (World.ownsRow_made (e := 27) (size := 32) _ #[] 0 (Nat.le_refl _) (Nat.zero_le _) rfl) (by simp) hg8; have HO8 := hid ho8; have HB8 := hid hb8; clear ho8 hb8 hg8)
            | (at_builtin; refine wpList_append_rts _ rfl _ _ rfl w7.heap.size _ nl (pk m len) rfl HO9.out _ nb nb (pk mb lenb) rfl HR9.out (by omega) HB9.out.size (beh (pk m len) (pk mb lenb) (32 * nl)) (fun q hq => beh_lo _ _ _ _ hq) (fun q hq => beh_hi _ _ _ _) ?_; intro v10 w10 ho10 hg10; have hb10 := below_grownS HB9.out HO9.out HB9.out.size hg10; obtain ⟨a10, cap10, rfl, hrow10⟩ := RowR.ofOwns ho10; have HB10 := hid hb10; have HR10 := hid hrow10.rts; clear ho10 hg10 hb10 hrow10)
            | (go_at_call 15; refine (HPKB.out _ (HB7.out.trans (HB8.out.mono HB7.out.size))).mono ?_; rintro e w9 ⟨g8, rfl, hb9, hr9⟩; have HO9 := hid (ownsRow_below HO8.out hb9); have HB9 := hid (HB8.out.trans (hb9.mono HB8.out.size)); have HR9 := hid hr9; clear hb9 hr9)
            | (go_at_call 12; refine (HSAME.out _ _ _ _ _ (HR7.out.below HB10.out) HR10.out).mono ?_; rintro e w11 ⟨rfl, hb11⟩))
          go_ret
          exact ⟨rfl, HB7.out.trans ((HB10.out.trans (hb11.mono HB10.out.size)).mono HB7.out.size)⟩

end Go.Proofs.YtahnlfiahchdeaaDoor
