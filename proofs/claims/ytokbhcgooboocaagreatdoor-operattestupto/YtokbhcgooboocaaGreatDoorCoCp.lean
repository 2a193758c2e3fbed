/-
  What the containers of layer 7 share.
-/
import Derived.Test.YtokbhcgooboocaaGreatDoorCoAp
import Derived.Test.YtokbhcgooboocaaGreatDoorCoBp
import Derived.Test.YtokbhcgooboocaaGreatDoorZaIp
import Derived.ChangeArms
import Derived.OpenShut
import Derived.WideShapes
namespace Go.Proofs.YtokbhcgooboocaaGreatDoor
open Go.RowKit
set_option linter.unusedVariables false
set_option linter.unusedSimpArgs false

attribute [local go_sem ↓] sv24_eq lv24_eq ix22_eq slr_eq bd27_eq bs22_eq

set_option maxRecDepth 20000 in
set_option maxHeartbeats 1000000 in
theorem must7 (a : Option Addr) (len cap : Nat) (f : Nat → Int) (n : Int) (w : World) (hC : Rc w) (hr : Rts w a len cap f) (hlc : len ≤ cap) (hf : ByB f (32 * len)) (h0 : -9223372036854775808 ≤ n) (h1 : n ≤ 9223372036854775807) (hln : len ≤ 9223372036854775807) :
    Calls Tryz.prog 33 #[.slice a len cap, .int .i64 n] w fun e w' => e = .returned (.agg (vs .u8 32 (treeV f len n))) ∧ Below w.heap.size w w' := by
  have z := zero_root
  have hB0 : Below w.heap.size w (w.alloc (.cells (vs .u8 32 fun _ => 0) 25)) := (Below.refl _ _).alloc (Nat.le_refl _) _
  have r0 : (w.alloc (.cells (vs .u8 32 fun _ => 0) 25)).heap[w.heap.size]? = some (.cells (vs .u8 32 fun _ => 0) 25) := heap_new rfl
  have z0 : (w.alloc (.cells (vs .u8 32 fun _ => 0) 25)).heap.size = w.heap.size + 1 := by simp
  obtain ⟨W0, hW0⟩ : ∃ W, w.alloc (.cells (vs .u8 32 fun _ => 0) 25) = W := ⟨_, rfl⟩
  rw [hW0] at hB0 r0 z0
  have ht := rtreeT_any a len cap f n W0 (hC.below hB0) (hr.below hB0) hlc hf h0 h1 hln
  obtain ⟨C, eC⟩ : ∃ C, treeV f len n = C := ⟨_, rfl⟩
  obtain ⟨E, eE⟩ : ∃ E, treeE len n = E := ⟨_, rfl⟩
  rw [eC, eE] at ht
  rw [eC]
  have sv := fun W => sv24_newv W (fun _ => 0) C
  have HT := hid ht
  have R0 := hid r0
  have HB0 := hid hB0
  clear ht r0 hB0 hC hr hf eC eE
  go_enter Tryz.func33, Tryz.ntmps33
  go_upto_region 2 with (go_at_call 73; refine HT.out.mono ?_; rintro e w1 ⟨rfl, hb1⟩)
  obtain ⟨W2, hW2⟩ : ∃ W, w1.alloc (.cells (vs .u8 32 C) 25) = W := ⟨_, rfl⟩
  rw [hW2]
  have hz1 := hb1.size
  have r1 : W2.heap[w1.heap.size]? = some (.cells (vs .u8 32 C) 25) := by rw [← hW2]; exact heap_new rfl
  have r0' : W2.heap[w.heap.size]? = some (.cells (vs .u8 32 fun _ => 0) 25) := by rw [← hW2]; exact (heap_old (by omega)).trans ((hb1.block _ (by omega)).trans R0.out)
  have hB2 : Below w.heap.size w W2 := by rw [← hW2]; exact (HB0.out.trans (hb1.mono (by omega))).alloc (by omega) _
  have l1 := lv24_run r1
  have s1 := sv24_run r0' C
  have HR0 := hid r0'
  have HB2 := hid hB2
  clear r1 r0' hB2 hW2 hb1 sv HT
  go_wp2
  refine ret24 4 w.heap.size _ 25 rfl rfl rfl (setRow_at HR0.out) ⟨rfl, ?_⟩
  exact below_row HB2.out (Nat.le_refl _) _

theorem rts_cap {w : World} {a : Option Addr} {len cap : Nat} {f : Nat → Int} (h : Rts w a len cap f) (hl : 1 ≤ len) : len ≤ cap := by
  rcases h with ⟨_, h, _⟩ | ⟨_, _, h⟩ | ⟨_, _, _, h, _⟩
  · omega
  · omega
  · exact h

/-- The root of at most 32 bytes, but not of none. -/
theorem bR_one (f : Nat → Int) (len : Nat) (h1 : 1 ≤ len) (h2 : len ≤ 32) : treeV (pk f len) ((len + 31) / 32) 1 = bR f len := by
  have e : (len + 31) / 32 = 1 := by omega
  unfold bR cks
  rw [e]
  rfl

set_option maxRecDepth 20000 in
set_option maxHeartbeats 1000000 in
theorem chunk7 (a : Option Addr) (len cap : Nat) (f : Nat → Int) (w : World) (hC : Rc w) (hb : Bys w a len cap f) (h1 : 1 ≤ len) (h2 : len ≤ 32) (hf : ∀ j, j < len → 0 ≤ f j ∧ f j < 256) :
    Calls Tryz.prog 74 #[.slice a len cap] w fun e w' => e = .returned (.agg (vs .u8 32 (bR f len))) ∧ Below w.heap.size w w' := by
  have z := zero_root
  have hB0 : Below w.heap.size w (w.alloc (.cells (vs .u8 32 fun _ => 0) 25)) := (Below.refl _ _).alloc (Nat.le_refl _) _
  have r0 : (w.alloc (.cells (vs .u8 32 fun _ => 0) 25)).heap[w.heap.size]? = some (.cells (vs .u8 32 fun _ => 0) 25) := heap_new rfl
  have z0 : (w.alloc (.cells (vs .u8 32 fun _ => 0) 25)).heap.size = w.heap.size + 1 := by simp
  obtain ⟨W0, hW0⟩ : ∃ W, w.alloc (.cells (vs .u8 32 fun _ => 0) 25) = W := ⟨_, rfl⟩
  rw [hW0] at hB0 r0 z0
  have hp := rpack_any a len cap f W0 (hb.below hB0) (by omega)
  have e1 : (len + 31) / 32 = 1 := by omega
  rw [e1] at hp
  have hmu : ∀ (W : World) a' cap', Below w.heap.size w W → 1 ≤ cap' → Rts W a' 1 cap' (pk f len) → Calls Tryz.prog 33 #[.slice a' 1 cap', .int .i64 1] W fun e w' => e = .returned (.agg (vs .u8 32 (bR f len))) ∧ Below W.heap.size W w' := fun W a' cap' h h' hr => by
    rw [← bR_one f len h1 h2, e1]
    exact must7 a' 1 cap' (pk f len) 1 W (hC.below h) hr h' (pk_bd hf _) (by decide) (by decide) (by decide)
  obtain ⟨C, eC⟩ : ∃ C, bR f len = C := ⟨_, rfl⟩
  rw [eC] at hmu ⊢
  have HP := hid hp
  have HMU := hid hmu
  have R0 := hid r0
  have HB0 := hid hB0
  have Z0 := hid z0
  clear hp hmu r0 hB0 hC hb hf eC e1 z0
  go_enter Tryz.func74, Tryz.ntmps74
  go_wp2_with (first
    | (go_at_call 34; refine HP.out.mono ?_; rintro e w1 ⟨a1, c1, rfl, hb1, hr1⟩; have HB1 := hid hb1; have hc1 : 1 ≤ c1 := rts_cap hr1 (Nat.le_refl _); have HM1 := hid (HMU.out w1 a1 c1 (HB0.out.trans (hb1.mono HB0.out.size)) hc1 hr1); clear hb1 hr1 hc1)
    | (go_at_call 33; refine HM1.out.mono ?_; rintro e w2 ⟨rfl, hb2⟩; have s1 := sv24_run ((hb2.block w.heap.size (by have := HB1.out.size; have := Z0.out; omega)).trans ((HB1.out.block w.heap.size (by have := Z0.out; omega)).trans R0.out)) C))
  have z1 := Z0.out
  have z2 := HB1.out.size
  have z3 := hb2.size
  refine ret24 2 w.heap.size _ 25 rfl rfl rfl (setRow_at ((hb2.block w.heap.size (by omega)).trans ((HB1.out.block w.heap.size (by omega)).trans R0.out))) ⟨rfl, ?_⟩
  exact below_row (HB0.out.trans ((HB1.out.mono (by omega)).trans (hb2.mono (by omega)))) (Nat.le_refl _) _

end Go.Proofs.YtokbhcgooboocaaGreatDoor
namespace Go.Proofs.YtokbhcgooboocaaGreatDoor
open Go.RowKit
set_option linter.unusedVariables false
set_option linter.unusedSimpArgs false

attribute [local go_sem ↓] sv24_eq lv24_eq ix22_eq slr_eq bd27_eq bs22_eq

attribute [local go_sem ↓] sv8_eq

set_option maxRecDepth 20000 in
set_option maxHeartbeats 1000000 in
theorem rnumber7 (n : Int) (w : World) (h0 : 0 ≤ n) (h1 : n < 18446744073709551616) :
    Calls Tryz.prog 66 #[.int .u64 n] w fun e w' => ∃ v, e = .returned v ∧ w'.ownsRow w.heap.size 5 1 v 8 (bl (nmB n) 8) ∧ Below w.heap.size w w' := by
  have hb := rbytes_any n w h0 (by omega)
  have HB := hid hb
  have sv := fun W => sv8_newv W (fun _ => 0) (nmB n)
  have z := zero_8
  clear hb
  go_enter Tryz.func66, Tryz.ntmps66
  go_upto_region 2 with (go_at_call 71; refine HB.out.mono ?_; rintro e w1 ⟨rfl, hb1⟩)
  obtain ⟨W2, hW2⟩ : ∃ W, w1.alloc (.cells (vs .u8 8 (nmB n)) 101) = W := ⟨_, rfl⟩
  rw [hW2]
  have r1 : W2.heap[w1.heap.size]? = some (.cells (vs .u8 8 (nmB n)) 101) := by rw [← hW2]; exact heap_new rfl
  have hB2 : Below w.heap.size w W2 := by rw [← hW2]; exact hb1.alloc hb1.size _
  have HBY := hid (bys_new r1 (by omega))
  have HB2 := hid hB2
  clear r1 hW2 hB2 sv z hb1
  go_wp2_with (at_builtin; refine wpList_append_bys _ rfl _ _ rfl W2.heap.size _ 0 [] rfl (World.ownsRow_made _ #[] 0 (Nat.le_refl _) (Nat.zero_le _) rfl) _ 8 8 (nmB n) rfl (HBY.out.below (by go_grown)) (by omega) (by simp) ?_; intro v1 w3 ho1 hg1; rw [Nat.zero_add, List.nil_append] at ho1)
  go_ret
  have hb3 := below_grown ((Below.refl W2.heap.size W2).alloc (Nat.le_refl _) (.cells #[] 5)) (World.ownsRow_made _ #[] 0 (Nat.le_refl _) (Nat.zero_le _) rfl) (by simp) hg1
  exact ⟨v1, rfl, ho1.mono HB2.out.size, HB2.out.trans (hb3.mono HB2.out.size)⟩

end Go.Proofs.YtokbhcgooboocaaGreatDoor
namespace Go.Proofs.YtokbhcgooboocaaGreatDoor
open Go.RowKit
set_option linter.unusedVariables false
set_option linter.unusedSimpArgs false

theorem rlay7 (ps : List Pt) (zs : Nat → Int) (n g sa : Nat) (W : World) (en : ps.length = n) (hg : W.heap[g]? = some (.cells (ps.map ptv).toArray 34)) (hs : W.heap[sa]? = some (.cells (vs .i64 n zs) 3)) (hb : ∀ r, r < n → Bys W (ps.getD r nilP).1 (ps.getD r nilP).2.1 (ps.getD r nilP).2.2.1 (ps.getD r nilP).2.2.2) (hl : ∀ r, r < n → zs r = ((ps.getD r nilP).2.1 : Int) ∧ 1 ≤ (ps.getD r nilP).2.1 ∧ (ps.getD r nilP).2.1 ≤ 65536) (h1 : 1 ≤ n) (h2 : n ≤ 64) (hsum : ln7 (ps.map ptb) ≤ 4194304) :
    Calls Tryz.prog 31 #[.slice (some ⟨g, 0, none⟩) n n, .slice (some ⟨sa, 0, none⟩) n n] W fun e w' => ∃ v, e = .returned (.tuple #[v, .int .i64 0]) ∧ w'.ownsRow W.heap.size 5 1 v (ln7 (ps.map ptb)) (bl (ct7 (ps.map ptb)) (ln7 (ps.map ptb))) ∧ Below W.heap.size W w' := by
  obtain ⟨L, eL⟩ : ∃ L : Nat → Nat, (fun r => (ps.getD r nilP).2.1) = L := ⟨_, rfl⟩
  have hL : ∀ r, (ps.getD r nilP).2.1 = L r := fun r => congrFun eL r
  have hgl := (Array.getElem?_eq_some_iff.1 hg).1
  have hz : ∀ r, r < ps.length → zs r = ((ps.getD r nilP).2.1 : Int) ∧ 1 ≤ (ps.getD r nilP).2.1 := fun r hr => ⟨(hl r (by omega)).1, (hl r (by omega)).2.1⟩
  have hz0 : ∀ r, r < ps.length → zs r ≠ 0 := fun r hr => by have := hz r hr; omega
  have eh := lay_hdL ps zs hz ps.length (Nat.le_refl _)
  rw [List.take_of_length_le (Nat.le_refl _), en] at eh
  have el := lay_lo zs (fun r => (ps.getD r nilP).2.2.2) L n (fun r hr => hz0 r (by omega))
  have ec := lay_head ps zs (Z.hdL zs n) hz0 ps.length (Nat.le_refl _)
  rw [List.take_of_length_le (Nat.le_refl _), en, eL] at ec
  have hpar : Z.Parts W (some ⟨g, 0, none⟩) n (fun r => (ps.getD r nilP).1) L (fun r => (ps.getD r nilP).2.2.1) (fun r => (ps.getD r nilP).2.2.2) := by
    refine .inr ⟨g, 0, rfl, hgl, fun r hr => ⟨?_, ?_⟩⟩
    · rw [Nat.zero_add, pt_cell hg r (by omega), ← hL r]
      rfl
    · have := hb r hr
      rw [hL r] at this
      exact this
  have hnm : Z.Nms .i64 W (some ⟨sa, 0, none⟩) n zs := .inr ⟨sa, 0, rfl, (Array.getElem?_eq_some_iff.1 hs).1, fun j hj => by rw [Nat.zero_add]; exact row_int hs j hj⟩
  have hfit : Z.Fits zs L n := fun r hr _ => by rw [(hl r hr).1, hL r]
  refine (Z.rlay_ok zs (some ⟨g, 0, none⟩) n n _ L _ _ (some ⟨sa, 0, none⟩) n W hpar hnm (Z.szB_true h1 h2 (fun i hi => ⟨by have := hl i hi; omega, by have := hl i hi; omega⟩)) (fun r hr => by have := (hl r hr).2.2; rw [hL r] at this; omega) (by rw [eh, el.1]; omega) hfit).mono ?_
  rintro e w' ⟨v, rfl, ho, hbw⟩
  refine ⟨v, rfl, ?_, hbw⟩
  rw [el.1, Nat.add_zero, eh] at ho
  have e3 : Z.layC zs (fun r => (ps.getD r nilP).2.2.2) L n = cl7 (ps.map ptb) := by
    unfold Z.layC
    rw [el.2, List.append_nil]
    exact ec
  rw [e3, ← bl_ct7] at ho
  exact ho

end Go.Proofs.YtokbhcgooboocaaGreatDoor
namespace Go.Proofs.YtokbhcgooboocaaGreatDoor
open Go.RowKit
set_option linter.unusedVariables false
set_option linter.unusedSimpArgs false

attribute [local go_sem ↓] sv24_eq lv24_eq ix22_eq slr_eq bd27_eq bs22_eq bsP_eq bsI_eq lvCheckpoint_eq

end Go.Proofs.YtokbhcgooboocaaGreatDoor
namespace Go.Proofs.YtokbhcgooboocaaGreatDoor
open Go.RowKit
set_option linter.unusedVariables false
set_option linter.unusedSimpArgs false

theorem treeV_congr {f g : Nat → Int} {len : Nat} (h : ∀ q, q < 32 * len → f q = g q) (n : Int) (j : Nat) (hj : j < 32) : treeV f len n j = treeV g len n j := by
  unfold treeV
  by_cases hn : okL n ∧ (len : Int) ≤ n
  · rw [if_pos hn, if_pos hn]
    refine nd_congr f g len len _ 0 0 (fun t ht j hj => ?_) j hj
    show (if 0 * 2 ^ _ + t < len then rt32 f (0 * 2 ^ _ + t) else fun _ => 0) j = (if 0 * 2 ^ _ + t < len then rt32 g (0 * 2 ^ _ + t) else fun _ => 0) j
    rw [Nat.zero_mul, Nat.zero_add]
    by_cases ht' : t < len
    · rw [if_pos ht', if_pos ht']
      exact h _ (by omega)
    · rw [if_neg ht', if_neg ht']
  · rw [if_neg hn, if_neg hn]

/-- The root of 32 bytes is these. -/
theorem bR_32 (f : Nat → Int) (j : Nat) (hj : j < 32) : bR f 32 j = f j := by
  show treeV (pk f 32) 1 (1 : Nat) j = f j
  unfold treeV
  rw [if_pos ⟨by decide, by decide⟩]
  show nd (pk f 32) 1 0 0 j = f j
  show (if 0 < 1 then rt32 (pk f 32) 0 else fun _ => 0) j = f j
  rw [if_pos (by omega)]
  unfold rt32 pk
  rw [if_pos (by omega), Nat.mul_zero, Nat.zero_add]

theorem fl7_put (l : List (Nat → Int)) (i n : Nat) (c : Nat → Int) (hi : i < n) (hl : l.length = n) : putL (vs .u8 (32 * n) (fl7 l)) (32 * i) (bl c 32) = vs .u8 (32 * n) (fl7 (l.set i c)) := by
  apply Array.ext_getElem?
  intro j
  rw [putL_get _ _ _ _ (by rw [bl_len, vs_size]; omega), bl_len]
  by_cases h : 32 * i ≤ j ∧ j < 32 * i + 32
  · rw [if_pos h, bl_at _ _ _ (by omega), vs_get _ _ _ _ (by omega)]
    unfold fl7
    rw [show j / 32 = i by omega, List.getD_eq_getElem?_getD, List.getElem?_set_self (by omega), show j - 32 * i = j % 32 by omega]
    rfl
  · rw [if_neg h]
    by_cases hj : j < 32 * n
    · rw [vs_get _ _ _ _ hj, vs_get _ _ _ _ hj]
      unfold fl7
      rw [List.getD_eq_getElem?_getD, List.getD_eq_getElem?_getD, List.getElem?_set_ne (by omega)]
    · rw [Array.getElem?_eq_none (by rw [vs_size]; omega), Array.getElem?_eq_none (by rw [vs_size]; omega)]

/-- One root more in a row of roots: what stays. -/
theorem put7 {w : World} {B u n : Nat} {l : List (Nat → Int)} {t : TypeId} {W : World} (hB : Below B W w) (hu : B ≤ u) (hr : w.heap[u]? = some (.cells (vs .u8 (32 * n) (fl7 l)) t)) (i : Nat) (c : Nat → Int) (hi : i < n) (hl : l.length = n) :
    (sv24 ⟨u, 32 * i, none⟩ (.agg (vs .u8 32 c))).run Tryz.prog w = .ok () (w.setCells u (32 * i) (bl c 32)) ∧ (w.setCells u (32 * i) (bl c 32)).heap[u]? = some (.cells (vs .u8 (32 * n) (fl7 (l.set i c))) t) ∧ Below B W (w.setCells u (32 * i) (bl c 32)) := by
  have hus := (Array.getElem?_eq_some_iff.1 hr).1
  refine ⟨sv24_mid hr (32 * i) c (by rw [vs_size]; omega), ?_, hB.trans ((setCells_kept (bl c 32) (32 * i) (Kept.refl u w)).below hu (by omega))⟩
  rw [← fl7_put l i n c hi hl]
  exact setCells_row _ _ hr

end Go.Proofs.YtokbhcgooboocaaGreatDoor
namespace Go.Proofs.YtokbhcgooboocaaGreatDoor
open Go.RowKit
set_option linter.unusedVariables false
set_option linter.unusedSimpArgs false

namespace Z

theorem or_up (hi l : Int) (s : Nat) (hh : 0 ≤ hi) (hl : 0 ≤ l) (hl' : l < 2 ^ s) (h : hi * 2 ^ s + l < 18446744073709551616) :
    bits .or .u64 (hi * 2 ^ s) l = hi * 2 ^ s + l := by
  obtain ⟨hi, rfl⟩ := Int.eq_ofNat_of_zero_le hh
  obtain ⟨l, rfl⟩ := Int.eq_ofNat_of_zero_le hl
  have ep : ((2 ^ s : Nat) : Int) = (2 : Int) ^ s := by simp
  have e : (hi : Int) * 2 ^ s = ((2 ^ s * hi : Nat) : Int) := by rw [Int.natCast_mul, ep, Int.mul_comm]
  rw [e] at h ⊢
  rw [← ep] at hl'
  rw [or_nat s hi l (by omega) (by omega)]
  omega

theorem or_low (A z : Int) (hA : 0 ≤ A) (hz : 0 ≤ z) (hz' : z ≤ 255) (h : A * 256 + z < 18446744073709551616) : bits .or .u64 (A * 256) z = A * 256 + z := by
  have := or_up A z 8 hA hz (by omega) (by omega)
  exact this

set_option maxHeartbeats 1000000 in
theorem rRead8 (b off cap : Nat) (z0 z1 z2 z3 z4 z5 z6 z7 : Int) (w : World) (c0 : w.cell? ⟨b, off, none⟩ = some (.int .u8 z0)) (p0 : 0 ≤ z0) (q0 : z0 ≤ 255) (c1 : w.cell? ⟨b, off + 1, none⟩ = some (.int .u8 z1)) (p1 : 0 ≤ z1) (q1 : z1 ≤ 255) (c2 : w.cell? ⟨b, off + 2, none⟩ = some (.int .u8 z2)) (p2 : 0 ≤ z2) (q2 : z2 ≤ 255) (c3 : w.cell? ⟨b, off + 3, none⟩ = some (.int .u8 z3)) (p3 : 0 ≤ z3) (q3 : z3 ≤ 255) (c4 : w.cell? ⟨b, off + 4, none⟩ = some (.int .u8 z4)) (p4 : 0 ≤ z4) (q4 : z4 ≤ 255) (c5 : w.cell? ⟨b, off + 5, none⟩ = some (.int .u8 z5)) (p5 : 0 ≤ z5) (q5 : z5 ≤ 255) (c6 : w.cell? ⟨b, off + 6, none⟩ = some (.int .u8 z6)) (p6 : 0 ≤ z6) (q6 : z6 ≤ 255) (c7 : w.cell? ⟨b, off + 7, none⟩ = some (.int .u8 z7)) (p7 : 0 ≤ z7) (q7 : z7 ≤ 255) :
    Calls Tryz.prog 86 #[.slice (some ⟨b, off, none⟩) 8 cap] w fun e w' => e = .returned (.tuple #[.int .u64 (num8 z0 z1 z2 z3 z4 z5 z6 z7), .int .i64 0]) ∧ w' = w := by
  have o7 : bits .or .u64 0 z7 = z7 := or_zero z7 p7 (by omega)
  obtain ⟨H6, e6⟩ : ∃ H, z7 * 256 + z6 = H := ⟨_, rfl⟩
  have o6 : bits .or .u64 (z7 * 256) z6 = H6 := (or_low z7 z6 (by omega) (by omega) (by omega) (by omega)).trans e6
  obtain ⟨H5, e5⟩ : ∃ H, H6 * 256 + z5 = H := ⟨_, rfl⟩
  have o5 : bits .or .u64 (H6 * 256) z5 = H5 := (or_low H6 z5 (by omega) (by omega) (by omega) (by omega)).trans e5
  obtain ⟨H4, e4⟩ : ∃ H, H5 * 256 + z4 = H := ⟨_, rfl⟩
  have o4 : bits .or .u64 (H5 * 256) z4 = H4 := (or_low H5 z4 (by omega) (by omega) (by omega) (by omega)).trans e4
  obtain ⟨H3, e3⟩ : ∃ H, H4 * 256 + z3 = H := ⟨_, rfl⟩
  have o3 : bits .or .u64 (H4 * 256) z3 = H3 := (or_low H4 z3 (by omega) (by omega) (by omega) (by omega)).trans e3
  obtain ⟨H2, e2⟩ : ∃ H, H3 * 256 + z2 = H := ⟨_, rfl⟩
  have o2 : bits .or .u64 (H3 * 256) z2 = H2 := (or_low H3 z2 (by omega) (by omega) (by omega) (by omega)).trans e2
  obtain ⟨H1, e1⟩ : ∃ H, H2 * 256 + z1 = H := ⟨_, rfl⟩
  have o1 : bits .or .u64 (H2 * 256) z1 = H1 := (or_low H2 z1 (by omega) (by omega) (by omega) (by omega)).trans e1
  obtain ⟨H0, e0⟩ : ∃ H, H1 * 256 + z0 = H := ⟨_, rfl⟩
  have o0 : bits .or .u64 (H1 * 256) z0 = H0 := (or_low H1 z0 (by omega) (by omega) (by omega) (by omega)).trans e0
  have en : H0 = num8 z0 z1 z2 z3 z4 z5 z6 z7 := by unfold num8; omega
  have EN := hid en
  have b6 : 0 ≤ H6 ∧ H6 < 65536 := by omega
  have b5 : 0 ≤ H5 ∧ H5 < 16777216 := by omega
  have b4 : 0 ≤ H4 ∧ H4 < 4294967296 := by omega
  have b3 : 0 ≤ H3 ∧ H3 < 1099511627776 := by omega
  have b2 : 0 ≤ H2 ∧ H2 < 281474976710656 := by omega
  have b1 : 0 ≤ H1 ∧ H1 < 72057594037927936 := by omega
  clear en e0 e1 e2 e3 e4 e5 e6
  go_enter Tryz.func86, Tryz.ntmps86
  go_wp2
  go_rounds 9
  go_ret2
  exact ⟨ret2 EN.out rfl, rfl⟩

end Z

theorem rrd7 (a : Option Addr) (cap : Nat) (f : Nat → Int) (w : World) (hb : Bys w a 8 cap f) (hf : ∀ j, j < 8 → 0 ≤ f j ∧ f j < 256) :
    Calls Tryz.prog 86 #[.slice a 8 cap] w fun e w' => e = .returned (.tuple #[.int .u64 (rdN f), .int .i64 0]) ∧ w' = w := by
  obtain ⟨b, off, rfl, _, _, hc⟩ := bys_at hb (by omega)
  have h0 := hf 0 (by omega)
  have h1 := hf 1 (by omega)
  have h2 := hf 2 (by omega)
  have h3 := hf 3 (by omega)
  have h4 := hf 4 (by omega)
  have h5 := hf 5 (by omega)
  have h6 := hf 6 (by omega)
  have h7 := hf 7 (by omega)
  exact Z.rRead8 b off cap (f 0) (f 1) (f 2) (f 3) (f 4) (f 5) (f 6) (f 7) w (hc 0 (by omega)) h0.1 (by omega) (hc 1 (by omega)) h1.1 (by omega) (hc 2 (by omega)) h2.1 (by omega) (hc 3 (by omega)) h3.1 (by omega) (hc 4 (by omega)) h4.1 (by omega) (hc 5 (by omega)) h5.1 (by omega) (hc 6 (by omega)) h6.1 (by omega) (hc 7 (by omega)) h7.1 (by omega)

theorem nms_row {w : World} {g n : Nat} {zs : Nat → Int} (hg : w.heap[g]? = some (.cells (vs .i64 n zs) 3)) : Z.Nms .i64 w (some ⟨g, 0, none⟩) n zs :=
  .inr ⟨g, 0, rfl, (Array.getElem?_eq_some_iff.1 hg).1, fun j hj => by rw [Nat.zero_add]; exact row_int hg j hj⟩

/-- The parts of a cut, new ones. -/
def CutsF (zs m : Nat → Int) (n gp o B : Nat) (w : World) : Prop :=
  ∀ r, r < n → ∃ b off c, w.cell? ⟨gp, o + r, none⟩ = some (.slice (some ⟨b, off, none⟩) (zs r).toNat c) ∧ Bys w (some ⟨b, off, none⟩) (zs r).toNat c (fun q => m (Z.hdL zs r + q)) ∧ B ≤ b

theorem rcut7_ok {zs : Nat → Int} {n N : Nat} (h : FixS zs n N) (m : Nat → Int) (ao : Option Addr) (cap g : Nat) (w : World) (hb : Bys w ao N cap m) (hm : ∀ j, 0 ≤ m j ∧ m j < 256) (hlen : N ≤ 1048576) (hlc : N ≤ cap) (hcap : cap ≤ 9223372036854775807) (hg : w.heap[g]? = some (.cells (vs .i64 n zs) 3)) (hn : n ≤ 64) (hz : ∀ r, r < n → 0 < zs r) (h0 : 0 < n) :
    Calls Tryz.prog 40 #[.slice ao N cap, .slice (some ⟨g, 0, none⟩) n n] w fun e w' => ∃ gp o c', e = .returned (.tuple #[.slice (some ⟨gp, o, none⟩) n c', .int .i64 0]) ∧ gp < w'.heap.size ∧ CutsF zs m n gp o w.heap.size w' ∧ Below w.heap.size w w' := by
  refine (Z.rcutF_any zs m ao N cap (some ⟨g, 0, none⟩) n n w hb hm hlen hlc hcap (nms_row hg) (by omega)).mono ?_
  rintro e w' ⟨a', N', c', A', C', rfl, h1, h2, h3, h8⟩
  rw [cutE_fix h, if_pos rfl] at h1 ⊢
  rw [if_pos rfl] at h1
  subst h1
  rcases h2 with h2 | ⟨b, off, rfl, h4, h5⟩
  · omega
  refine ⟨b, off, c', rfl, h4, fun r hr => ?_, h3⟩
  obtain ⟨h6, h7⟩ := h5 r hr
  have hr0 := h.nz r hr
  have hzr := hz r hr
  have e1 : Z.cLn zs m N' N r = (zs r).toNat := by
    unfold Z.cLn Z.cE Z.cB
    rw [if_neg hr0, if_neg hr0]
    omega
  have e2 : Z.cFn zs m N' r = fun q => m (Z.hdL zs r + q) := by
    funext q
    unfold Z.cFn Z.cB
    rw [if_neg hr0]
  rw [e1] at h6 h7
  rw [e2] at h7
  obtain ⟨b1, o1, e3, _, _, _⟩ := bys_at (show Bys w' (A' r) (zs r).toNat (C' r) (fun q => m (Z.hdL zs r + q)) from h7) (by omega)
  have h9 := h8 r hr b1 o1 e3
  rw [e3] at h6 h7
  exact ⟨b1, o1, _, h6, h7, h9⟩

end Go.Proofs.YtokbhcgooboocaaGreatDoor
namespace Go.Proofs.YtokbhcgooboocaaGreatDoor
open Go.RowKit
set_option linter.unusedVariables false
set_option linter.unusedSimpArgs false

theorem map_set (g : Nat → Value) (k : Nat) (v : Value) : ∀ n, ((List.range n).map g).set k v = (List.range n).map fun q => if q = k then v else g q := fun n => by
  apply List.ext_getElem?
  intro j
  rw [List.getElem?_set, List.getElem?_map, List.getElem?_map]
  by_cases hj : j < n
  · rw [List.getElem?_range hj]
    by_cases h : k = j
    · subst h
      rw [if_pos rfl, if_pos (by simpa using hj)]
      show some v = some (if k = k then v else g k)
      rw [if_pos rfl]
    · rw [if_neg h]
      show some (g j) = some (if j = k then v else g j)
      rw [if_neg (fun e => h e.symm)]
  · rw [List.getElem?_eq_none (by simpa using hj)]
    by_cases h : k = j
    · subst h
      rw [if_pos rfl, if_neg (by simpa using hj)]
      rfl
    · rw [if_neg h]
      rfl

theorem bys_cap {w : World} {a : Option Addr} {n cap : Nat} {f : Nat → Int} (h : Bys w a n cap f) (hn : 0 < n) : cap ≤ 9223372036854775807 := by
  rcases h with ⟨_, h, _⟩ | ⟨_, _, h⟩ | ⟨_, _, _, _, h, _⟩
  · omega
  · omega
  · exact h

theorem celL_set : ∀ (l : List Seg) (i n k : Nat) (f : Nat → Int) (c : Int), l[i]? = some (.by n f) → k < n → (celL l).set (sof l i + k) (.int .u8 c) = celL (l.set i (.by n fun q => if q = k then c else f q))
  | [], i, n, k, f, c, h, _ => by simp at h
  | x :: r, 0, n, k, f, c, h, hk => by
    have e : x = .by n f := by simpa using h
    subst e
    show ((List.range n).map (fun j => Value.int .u8 (f j)) ++ celL r).set (0 + k) (.int .u8 c) = (List.range n).map (fun j => Value.int .u8 (if j = k then c else f j)) ++ celL r
    rw [Nat.zero_add, List.set_append_left _ _ (by simpa using hk), map_set]
    congr 1
    exact List.map_congr_left fun q _ => by by_cases hq : q = k <;> simp [hq]
  | x :: r, i + 1, n, k, f, c, h, hk => by
    have h' : r[i]? = some (.by n f) := by simpa using h
    show ((List.range x.len).map x.get ++ celL r).set (x.len + sof r i + k) (.int .u8 c) = (List.range x.len).map x.get ++ celL (r.set i (.by n fun q => if q = k then c else f q))
    rw [List.set_append_right _ _ (by simp; omega), List.length_map, List.length_range, show x.len + sof r i + k - x.len = sof r i + k by omega, celL_set r i n k f c h' hk]

theorem cel_set {l : List Seg} (i n k : Nat) (f : Nat → Int) (c : Int) (h : l[i]? = some (.by n f)) (hk : k < n) : (cel l).setIfInBounds (sof l i + k) (.int .u8 c) = cel (l.set i (.by n fun q => if q = k then c else f q)) := by
  unfold cel
  rw [← celL_set l i n k f c h hk, List.setIfInBounds_toArray]

theorem up_step (m : Nat → Int) (B k : Nat) : (fun q => if q = k then m (B + k) else if q < k then m (B + q) else 0) = (fun q => if q < k + 1 then m (B + q) else (0 : Int)) := by
  funext q
  by_cases h : q = k
  · subst h
    rw [if_pos rfl, if_pos (by omega)]
  · rw [if_neg h]
    by_cases h2 : q < k
    · rw [if_pos h2, if_pos (by omega)]
    · rw [if_neg h2, if_neg (by omega)]

/-- No slice lies in it. -/
def noSl : List Seg → Bool
  | [] => true
  | .sl _ _ _ :: _ => false
  | .by _ _ :: r => noSl r
  | .nu _ :: r => noSl r
  | .bo _ :: r => noSl r

theorem celL_no (a : Option Addr) (n c : Nat) : ∀ l, noSl l = true → Value.slice a n c ∉ celL l
  | [], _, h => by cases h
  | s :: r, hl, h => by
    have hr : noSl r = true := by cases s <;> first | exact hl | cases hl
    have h' : Value.slice a n c ∈ (List.range s.len).map s.get ++ celL r := h
    rw [List.mem_append] at h'
    rcases h' with h' | h'
    · obtain ⟨j, _, e⟩ := List.mem_map.1 h'
      cases s <;> first | (cases e; done) | cases hl
    · exact celL_no a n c r hr h'

theorem cel_no {w : World} {g gp j : Nat} {l : List Seg} {t : TypeId} {a : Option Addr} {n c : Nat} (h : w.heap[g]? = some (.cells (cel l) t)) (hc : w.cell? ⟨gp, j, none⟩ = some (.slice a n c)) (hl : noSl l = true := by rfl) : gp ≠ g := by
  intro e
  subst e
  rw [row_cell h] at hc
  unfold cel at hc
  rw [List.getElem?_toArray] at hc
  exact celL_no a n c l hl (List.mem_of_getElem? hc)

end Go.Proofs.YtokbhcgooboocaaGreatDoor
namespace Go.Proofs.YtokbhcgooboocaaGreatDoor
open Go.RowKit
set_option linter.unusedVariables false
set_option linter.unusedSimpArgs false

theorem nm_rd (f : Nat → Int) (hf : ∀ j, j < 8 → 0 ≤ f j ∧ f j < 256) (j : Nat) (hj : j < 8) : nmB (rdN f) j = f j := by
  have h0 := hf 0 (by omega)
  have h1 := hf 1 (by omega)
  have h2 := hf 2 (by omega)
  have h3 := hf 3 (by omega)
  have h4 := hf 4 (by omega)
  have h5 := hf 5 (by omega)
  have h6 := hf 6 (by omega)
  have h7 := hf 7 (by omega)
  have e : rdN f = f 0 + f 1 * 256 + f 2 * 65536 + f 3 * 16777216 + f 4 * 4294967296 + f 5 * 1099511627776 + f 6 * 281474976710656 + f 7 * 72057594037927936 := rfl
  obtain ⟨n, en⟩ : ∃ n, rdN f = n := ⟨_, rfl⟩
  rw [en] at e ⊢
  rcases (by omega : j = 0 ∨ j = 1 ∨ j = 2 ∨ j = 3 ∨ j = 4 ∨ j = 5 ∨ j = 6 ∨ j = 7) with rfl | rfl | rfl | rfl | rfl | rfl | rfl | rfl
  · show n / 1 % 256 = f 0; omega
  · show n / 256 % 256 = f 1; omega
  · show n / 65536 % 256 = f 2; omega
  · show n / 16777216 % 256 = f 3; omega
  · show n / 4294967296 % 256 = f 4; omega
  · show n / 1099511627776 % 256 = f 5; omega
  · show n / 281474976710656 % 256 = f 6; omega
  · show n / 72057594037927936 % 256 = f 7; omega

end Go.Proofs.YtokbhcgooboocaaGreatDoor
namespace Go.Proofs.YtokbhcgooboocaaGreatDoor
open Go.RowKit
set_option linter.unusedVariables false
set_option linter.unusedSimpArgs false

theorem lst_by {H : Type} {enc : TypeId × Value → H} {P : Program} {w : World} {b0 fuel : Nat} {sp : Nat → Bool} {held : Bool} {t e : TypeId} {n : Nat} {cs : List Value} {x : DataW H × List MemPlace}
    (ht : P.underlying t = some (.array n e)) (he : P.underlying e = some (.int .u8)) (hce : P.cellsOf e = 1) (hl : cs.length = n) (h : DataW.trod enc P w b0 sp held fuel t cs = some x) :
    ∃ f : Nat → Int, cs = (List.range n).map (fun j => Value.int .u8 (f j)) ∧ ∀ j, j < n → 0 ≤ f j ∧ f j < 256 := by
  obtain ⟨xs, m, rfl, _, _, hxl, hat⟩ := DataW.trod_array ht h
  have hcell : ∀ i, i < n → ∃ z, cs[i]? = some (.int .u8 z) ∧ (Lit.int .u8 z).wf = true := by
    intro i hi
    have ha := hat i hi
    rw [List.getElem?_eq_getElem (by omega)] at ha
    obtain ⟨z, hc, _, hwf⟩ := DataW.trod_int he ha
    refine ⟨z, ?_, hwf⟩
    have := congrArg (·[0]?) hc
    simpa [hce, List.getElem?_take, List.getElem?_drop] using this
  refine ⟨byteOf cs.toArray, ?_, fun j hj => ?_⟩
  · apply List.ext_getElem?
    intro i
    rw [List.getElem?_map]
    by_cases hi : i < n
    · obtain ⟨z, hz, _⟩ := hcell i hi
      rw [List.getElem?_range hi, hz]
      show some _ = some (Value.int .u8 (byteOf cs.toArray i))
      unfold byteOf
      rw [List.getElem?_toArray, hz]
    · rw [List.getElem?_eq_none (by omega), List.getElem?_eq_none (by simpa using hi)]
      rfl
  · obtain ⟨z, hz, hwf⟩ := hcell j hj
    have := bounds_u8 hwf
    unfold byteOf
    rw [List.getElem?_toArray, hz]
    show 0 ≤ z ∧ z < 256
    omega

theorem cut_list (l : List Value) (o k : Nat) : l.drop o = (l.drop o).take k ++ l.drop (o + k) := by
  have := (List.take_append_drop k (l.drop o)).symm
  rw [List.drop_drop] at this
  exact this

theorem open_str {H : Type} {enc : TypeId × Value → H} {P : Program} {W w : World} {r : Reach} {base b0 : Nat} {sp : Nat → Bool} {held : Bool} {t : TypeId} {fs : Array Field} {v : Value} {d : DataW H} {p : List MemPlace}
    (ht : P.underlying t = some (.struct fs)) (hv : Value.okWide P W r base t v) (h : DataW.Trod enc P w b0 sp held t v d p) :
    ∃ cs : Array Value, v = .agg cs ∧ cs.size = P.cellsOf t ∧ ∃ (xs : List (DataW H × List MemPlace)) (n : Nat), xs.length = fs.size ∧ ∀ (i : Nat) (f : Field), fs[i]? = some f → DataW.trod enc P w b0 sp held n f.type ((cs.toList.drop f.offset).take (P.cellsOf f.type)) = xs[i]? := by
  unfold Value.okWide at hv
  rw [ht] at hv
  obtain ⟨cs, rfl, hs, _⟩ := hv
  obtain ⟨fuel, hf⟩ := h
  obtain ⟨xs, n, _, _, hl, hxl, hat⟩ := DataW.trod_struct ht hf
  exact ⟨cs, rfl, hs, xs, n, hxl, hat⟩

end Go.Proofs.YtokbhcgooboocaaGreatDoor
namespace Go.Proofs.YtokbhcgooboocaaGreatDoor
open Go.RowKit
set_option linter.unusedVariables false
set_option linter.unusedSimpArgs false

theorem bd_zero (j n : Nat) (h : j < n) : 0 ≤ (0 : Int) ∧ (0 : Int) < 256 := ⟨Int.le_refl _, by decide⟩

end Go.Proofs.YtokbhcgooboocaaGreatDoor
namespace Go.Proofs.YtokbhcgooboocaaGreatDoor
open Go.RowKit
set_option linter.unusedVariables false
set_option linter.unusedSimpArgs false

theorem bys_le {w : World} {a : Option Addr} {n cap : Nat} {f : Nat → Int} (h : Bys w a n cap f) (hn : 0 < n) : n ≤ cap := by
  obtain ⟨_, _, _, _, h2, _⟩ := bys_at h hn
  exact h2

theorem svCheckpoint_mid {w : World} {b : Nat} {C : Array Value} {t : TypeId} (h : w.heap[b]? = some (.cells C t)) (o : Nat) (c : VCheckpoint) (hn : o + 33 ≤ C.size) :
    (svCheckpoint ⟨b, o, none⟩ (.agg (cel (sCheckpoint c)))).run Tryz.prog w = .ok () (w.setCells b o (celL (sCheckpoint c))) := by
  have h1 := run_storeVar_mid (P := Tryz.prog) w b o 27 (cel (sCheckpoint c)) (by rw [cel_size, slCheckpoint]; exact there_row h o 33 hn) (by rw [cel_size, slCheckpoint]; kernel_rfl) (cel_one _)
  exact h1

end Go.Proofs.YtokbhcgooboocaaGreatDoor
