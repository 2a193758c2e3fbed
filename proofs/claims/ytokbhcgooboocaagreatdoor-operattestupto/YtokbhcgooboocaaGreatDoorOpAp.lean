/-
  Package oper: numbers in bytes and out of them; roots of roots, of bytes, of a list.
-/
import Derived.Test.YtokbhcgooboocaaGreatDoorCoBp
import Derived.Test.YtokbhcgooboocaaGreatDoorTeDatap
namespace Go.Proofs.YtokbhcgooboocaaGreatDoor
open Go.RowKit
set_option linter.unusedVariables false
set_option linter.unusedSimpArgs false

/-- The bytes of numbers, one behind the other. -/
def nB (zs : Nat → Int) (q : Nat) : Int := nmB (zs (q / 8)) (q % 8)
theorem nB_bd (zs : Nat → Int) (q : Nat) : 0 ≤ nB zs q ∧ nB zs q < 256 := nmB_bd _ _
theorem bl_and (f : Nat → Int) (n k : Nat) : bl f n ++ bl (fun q => f (n + q)) k = bl f (n + k) := by
  unfold bl
  rw [List.range_add, List.map_append, List.map_map]
  rfl
theorem bl_num (zs : Nat → Int) (k : Nat) : bl (nB zs) (8 * k) ++ bl (nmB (zs k)) 8 = bl (nB zs) (8 * (k + 1)) := by
  rw [show 8 * (k + 1) = 8 * k + 8 by omega, ← bl_and, bl_congr (m := nmB (zs k)) (m' := fun q => nB zs (8 * k + q)) (fun q hq => ?_)]
  show nmB (zs k) q = nmB (zs ((8 * k + q) / 8)) ((8 * k + q) % 8)
  rw [show (8 * k + q) / 8 = k by omega, show (8 * k + q) % 8 = q by omega]

attribute [local go_sem ↓] sv8_eq

set_option maxRecDepth 20000 in
set_option maxHeartbeats 1000000 in
theorem nums_any (zs : Nat → Int) (a : Option Addr) (n c : Nat) (w : World) (hn : Z.Nms .u64 w a n zs) (hz : ∀ j, j < n → 0 ≤ zs j ∧ zs j < 18446744073709551616) (hnb : n ≤ 64) :
    Calls Tryz.prog 48 #[.slice a n c] w fun e w' => ∃ v, e = .returned v ∧ w'.ownsRow w.heap.size 5 1 v (8 * n) (bl (nB zs) (8 * n)) ∧ Below w.heap.size w w' := by
  have HN : Hid (∀ X, Below w.heap.size w X → Z.Nms .u64 X a n zs) := fun X h => hn.below h
  have HZ := hid hz
  obtain ⟨T, eT⟩ : ∃ T, 8 * n = T := ⟨_, rfl⟩
  have e8 : (n : Int) * 8 = (T : Int) := by omega
  have n1 : (n : Int) ≤ 64 := by omega
  have n0 : (0 : Int) ≤ (n : Int) := by omega
  have t1 : (T : Int) ≤ 512 := by omega
  have t0 : (0 : Int) ≤ (T : Int) := by omega
  have ET := hid eT
  obtain ⟨i8, hi8, hz0, hz1, hz2⟩ := info_parts info8
  have z := zero_8
  clear hn hz eT
  go_enter Tryz.func48, Tryz.ntmps48
  go_upto_region 3 with (at_make; refine wpList_make_own _ rfl _ _ 34 rfl w.heap.size 5 i8 (.int .u8 0) 1 Tryz.underlying34 hi8 hz0 hz1 _ _ _ T rfl rfl rfl (by rw [hz2]; omega) (by unfold maxLen; omega) (Nat.le_refl _) ?_; intro w2 ho2 hg2; have HO2 := hid ho2; have HB2 : Hid (Below w.heap.size w w2) := ⟨hg2.os, hg2.tape, hg2.output, hg2.size, fun k hk => hg2.block k hk (by intro h; cases h)⟩; clear ho2 hg2)
  have hB0 : w.heap.size ≤ w2.heap.size := HB2.out.size
  clear e8 t1 t0
  go_loopw [3, 13] (fun v i wr => ∃ k : Nat, k ≤ n ∧ i = .int .i64 k ∧ wr.ownsRow w.heap.size 5 1 v (8 * k) (bl (nB zs) (8 * k)) ∧ Below w.heap.size w wr) (fun _ i _ => n - (intOf i).toNat)
  case atStart => exact ⟨0, by omega, rfl, HO2.out, HB2.out⟩
  case round =>
    obtain ⟨k, hk, rfl, hown, hb⟩ := hrel
    by_cases hlt : k < n
    · have bq : decide (k < n) = true := by simp; omega
      have k1 : (k : Int) < (n : Int) := by omega
      have k2 : (0 : Int) ≤ (k : Int) := by omega
      rcases HN.out wr hb with h | ⟨b, off, rfl, hb1, hc⟩
      · omega
      have ck := hc k hlt
      have hzk := HZ.out k hlt
      have hby := fun W => Z.bytes_any (zs k) W hzk.1 hzk.2
      rw [bt_nmB] at hby
      have EJ := hid (bl_num zs k)
      obtain ⟨x, ex⟩ : ∃ x, zs k = x := ⟨_, rfl⟩
      rw [ex] at ck hby EJ
      obtain ⟨cc, ecc⟩ : ∃ cc, nmB x = cc := ⟨_, rfl⟩
      rw [ecc] at hby EJ
      have HBY := hid hby
      have sv := fun W => sv8_newv W (fun _ => 0) cc
      have hzz := hb.size
      have HO := hid hown
      have HB := hid hb
      clear hown hb hc hby ex ecc hzk hb1
      go_wp2_with (first
        | (go_at_call 90; refine (HBY.out wr).mono ?_; rintro e w3 ⟨rfl, hb3⟩; have HB3 := hid hb3; have hz3 := hb3.size; clear hb3)
        | (at_builtin; refine wpList_append_bys _ rfl _ _ rfl w.heap.size _ (8 * k) (bl (nB zs) (8 * k)) rfl ((ownsRow_below HO.out HB3.out).alloc _) _ 8 8 cc rfl (bys_new (heap_new rfl) (by omega)) (by omega) (by simp; omega) ?_; intro v4 w4 ho4 hg4))
      go_roundw
      case rel =>
        refine ⟨k + 1, by omega, by go_num, ?_, below_grown ((HB.out.trans (HB3.out.mono hzz)).alloc (by omega) _) ((ownsRow_below HO.out HB3.out).alloc _) (by simp; omega) hg4⟩
        rw [EJ.out] at ho4
        exact ho4
      case measure => simp [intOf]; omega
    · obtain rfl : n = k := by omega
      have bq : decide (n < n) = false := by simp
      have HO := hid hown
      have HB := hid hb
      clear hown hb
      go_wp2
      go_ret
      rw [← ET.out]
      exact ⟨_, rfl, HO.out, HB.out⟩

/-- Numbers in a slice made and indexed, whole. -/
def mkU (x y : Value) : Sem Value := Instr.makeSlice 44 x y

theorem mkU_eq (x y : Value) : Instr.makeSlice 44 x y = mkU x y := rfl

theorem infoU : ∃ i, Tryz.prog.info? 23 = some i ∧ i.zero = some (.int .u64 0) ∧ i.size = 1 ∧ i.bytes = 8 := by
  have h : (Tryz.prog.info? 23).map (fun i => (i.zero, i.size, i.bytes)) = some (some (.int .u64 0), 1, 8) := by kernel_rfl
  cases hq : Tryz.prog.info? 23 with
  | none => simp [hq] at h
  | some i => simp [hq] at h; exact ⟨i, rfl, h.1, h.2.1, h.2.2⟩

theorem madeU (n : Nat) : madeCells (Value.int .u64 0).cells (n * 1) = vs .u64 n (fun _ => 0) := by
  apply Array.ext_getElem?
  intro i
  have e : (Value.int .u64 0).cells = #[.int .u64 0] := rfl
  rw [e]
  by_cases hi : i < n
  · rw [vs_get _ _ _ _ hi]
    simp [madeCells, hi, Nat.mod_one]
  · rw [Array.getElem?_eq_none (by rw [size_madeCells]; omega), Array.getElem?_eq_none (by rw [vs_size]; omega)]

theorem mkU_run (W : World) (n : Nat) (hn : n ≤ 1000) : (mkU (.int .i64 n) (.int .i64 n)).run Tryz.prog W = .ok (.slice (some ⟨W.heap.size, 0, none⟩) n n) (W.alloc (.cells (vs .u64 n fun _ => 0) 23)) := by
  obtain ⟨i, hi, hz0, hz1, hz2⟩ := infoU
  have h := run_make (P := Tryz.prog) W 44 23 i _ Tryz.underlying44 hi hz0 .i64 .i64 n n (by omega) (Int.le_refl _) (by rw [hz2]; omega) (by omega)
  rw [hz1, Int.toNat_natCast, madeU] at h
  unfold mkU
  rw [h]

def ixU (x i : Value) : Sem Value := Instr.indexAt 44 x i

theorem ixU_eq (x i : Value) : Instr.indexAt 44 x i = ixU x i := rfl

theorem size_u64 (w : World) : (sizeOf 23).run Tryz.prog w = .ok 1 w := by
  have hi : (Tryz.prog.info? 23).map (·.size) = some 1 := by kernel_rfl
  cases hq : Tryz.prog.info? 23 with
  | none => simp [hq] at hi
  | some i => simp [hq] at hi; simp [sizeOf, typeInfo, hq, hi]

theorem ixU_run (w : World) (b len cap i : Nat) (h : i < len) : (ixU (.slice (some ⟨b, 0, none⟩) len cap) (.int .i64 i)).run Tryz.prog w = .ok (.pointer (some ⟨b, i, none⟩)) w := by
  unfold ixU Instr.indexAt
  have h1 : (0 : Int) ≤ (i : Int) ∧ (i : Int) < (len : Int) := by omega
  simp only [asIntOf, Sem.run_bind, Sem.run_pure, Result.andThen_ok, run_underlying Tryz.underlying44, if_pos h1, size_u64, Addr.add_mid, Int.toNat_natCast, Nat.mul_one, Nat.zero_add]

/-- Eight bytes read as a number. -/
theorem wread8 (a : Option Addr) (cap : Nat) (f : Nat → Int) (w : World) (hb : Bys w a 8 cap f) (hf : ∀ j, j < 8 → 0 ≤ f j ∧ f j < 256) :
    Calls Tryz.prog 92 #[.slice a 8 cap] w fun e w' => e = .returned (.tuple #[.int .u64 (rdN f), .int .i64 0]) ∧ w' = w := by
  obtain ⟨b, off, rfl, _, _, hc⟩ := bys_at hb (by omega)
  have h0 := hf 0 (by omega)
  have h1 := hf 1 (by omega)
  have h2 := hf 2 (by omega)
  have h3 := hf 3 (by omega)
  have h4 := hf 4 (by omega)
  have h5 := hf 5 (by omega)
  have h6 := hf 6 (by omega)
  have h7 := hf 7 (by omega)
  exact Z.read8 b off cap (f 0) (f 1) (f 2) (f 3) (f 4) (f 5) (f 6) (f 7) w (hc 0 (by omega)) h0.1 (by omega) (hc 1 (by omega)) h1.1 (by omega) (hc 2 (by omega)) h2.1 (by omega) (hc 3 (by omega)) h3.1 (by omega) (hc 4 (by omega)) h4.1 (by omega) (hc 5 (by omega)) h5.1 (by omega) (hc 6 (by omega)) h6.1 (by omega) (hc 7 (by omega)) h7.1 (by omega)

/-- The numbers that bytes are. -/
def rN (m : Nat → Int) (j : Nat) : Int := rdN (fun q => m (j * 8 + q))
theorem rN_bd {m : Nat → Int} {n : Nat} (hm : ∀ j, j < n * 8 → 0 ≤ m j ∧ m j < 256) (j : Nat) (hj : j < n) : 0 ≤ rN m j ∧ rN m j < 18446744073709551616 :=
  rdN_bd (fun q hq => hm (j * 8 + q) (by omega))

attribute [local go_sem ↓] mkU_eq ixU_eq ixP_eq

set_option maxRecDepth 20000 in
set_option maxHeartbeats 1000000 in
theorem rn_size (a : Option Addr) (len c : Nat) (w : World) (hlen : len ≤ 140737488351232) (h : ¬ len % 8 = 0) :
    Calls Tryz.prog 49 #[.slice a len c, .int .i64 64] w fun e w' => e = .returned (.tuple #[.slice none 0 0, .int .i64 4]) ∧ w' = w := by
  have HE := hid (Z.each_size a len c 8 64 w hlen (by decide) (by decide) (by omega) (by decide))
  clear h
  go_enter Tryz.func49, Tryz.ntmps49
  go_wp2_with (go_at_call 91; refine HE.out.mono ?_; rintro e w1 ⟨rfl, hw⟩; obtain rfl := hw.symm)
  go_ret2
  exact ⟨rfl, rfl⟩

set_option maxRecDepth 20000 in
set_option maxHeartbeats 1000000 in
theorem rn_long (a : Option Addr) (len c n : Nat) (w : World) (hlen : len ≤ 140737488351232) (hn : len = n * 8) (h : 64 < n) :
    Calls Tryz.prog 49 #[.slice a len c, .int .i64 64] w fun e w' => e = .returned (.tuple #[.slice none 0 0, .int .i64 6]) ∧ w' = w := by
  have HE := hid (Z.each_long a len c 8 64 w hlen (by decide) (by decide) n (by omega) (by decide) (by omega) (by omega))
  clear h hn
  go_enter Tryz.func49, Tryz.ntmps49
  go_wp2_with (go_at_call 91; refine HE.out.mono ?_; rintro e w1 ⟨rfl, hw⟩; obtain rfl := hw.symm)
  go_ret2
  exact ⟨rfl, rfl⟩

set_option maxRecDepth 20000 in
set_option maxHeartbeats 1000000 in
theorem rn_ok (m : Nat → Int) (a : Option Addr) (len c n : Nat) (w : World) (hb : Bys w a len c m) (hm : ∀ j, j < len → 0 ≤ m j ∧ m j < 256) (hn : len = n * 8) (hn64 : n ≤ 64) :
    Calls Tryz.prog 49 #[.slice a len c, .int .i64 64] w fun e w' => ∃ g, e = .returned (.tuple #[.slice (some ⟨g, 0, none⟩) n n, .int .i64 0]) ∧ w.heap.size ≤ g ∧ w'.heap[g]? = some (.cells (vs .u64 n (rN m)) 23) ∧ Below w.heap.size w w' := by
  have he := Z.each_ok m a len c 8 n 64 w hb (by omega) (by omega) (by omega) hn (by omega) (by omega) (by omega)
  have HE : Hid (Calls Tryz.prog 91 #[.slice a len c, .int .i64 8, .int .i64 64] w fun e w' => ∃ gp A, e = .returned (.tuple #[.slice (some ⟨gp, 0, none⟩) n n, .int .i64 0]) ∧ Below w.heap.size w w' ∧ gp < w'.heap.size ∧ (n = 0 ∨ Z.Parts w' (some ⟨gp, 0, none⟩) n A (fun _ => 8) (fun _ => 8) (fun i q => m (i * 8 + q)))) := by
    refine he.mono ?_
    rintro e w' ⟨ga, gp, rfl, x1, x2, x3, x4⟩
    have hgp := (Array.getElem?_eq_some_iff.1 x3).1
    by_cases h0 : n = 0
    · exact ⟨gp, fun _ => none, rfl, x4, hgp, .inl h0⟩
    · obtain ⟨g, rfl, y1, y2, y3, y4⟩ := x2 (by omega)
      obtain ⟨A, hA⟩ := Z.parts_of (L := fun _ => 8) (f := fun i q => m (i * 8 + q)) x3 (fun r hr => by
        have h := Z.pc_bys y2 y4 (r * 8) ((r + 1) * 8) (by omega) (by omega) (by omega)
        rw [show (r + 1) * 8 - r * 8 = 8 by omega] at h
        exact h)
      exact ⟨gp, A, rfl, x4, hgp, .inr hA⟩
  have HM := hid hm
  have HNL := hid hn
  have n1 : (n : Int) ≤ 64 := by omega
  have n0 : (0 : Int) ≤ (n : Int) := by omega
  have mk := fun W => mkU_run W n (by omega)
  clear he hb hm hn
  go_enter Tryz.func49, Tryz.ntmps49
  go_upto_region 6 with (go_at_call 91; refine HE.out.mono ?_; rintro e w1 ⟨gp, A, rfl, hb1, hgp, hp1⟩; have HB1 := hid hb1; have HP1 := hid hp1; have HGP := hid hgp; clear hb1 hp1 hgp)
  obtain ⟨W0, hW0⟩ : ∃ W, w1.alloc (.cells (vs .u64 n fun _ => 0) 23) = W := ⟨_, rfl⟩
  have hB0 : Below w1.heap.size w1 W0 := by rw [← hW0]; exact (Below.refl _ _).alloc (Nat.le_refl _) _
  have r0 : W0.heap[w1.heap.size]? = some (.cells (vs .u64 n fun j => if j < 0 then rN m j else 0) 23) := by
    rw [← hW0]
    exact (heap_new rfl).trans (congrArg (fun c => some (Obj.cells c 23)) (vs_congr fun j _ => (if_neg (Nat.not_lt_zero j)).symm))
  rw [hW0]
  obtain ⟨sa, esa⟩ : ∃ s, w1.heap.size = s := ⟨_, rfl⟩
  rw [esa] at r0 ⊢
  have ESA := hid esa
  have H0 := hid (And.intro hB0 r0)
  clear hB0 r0 hW0 mk esa HE
  go_loopw [25] (fun i wr => ∃ k : Nat, k ≤ n ∧ i = .int .i64 k ∧ Below w1.heap.size w1 wr ∧ wr.heap[sa]? = some (.cells (vs .u64 n fun j => if j < k then rN m j else 0) 23)) (fun i _ => n - (intOf i).toNat)
  case atStart => exact ⟨0, by omega, rfl, H0.out⟩
  case round =>
    clear H0
    obtain ⟨k, hk, rfl, hB, hr⟩ := hrel
    by_cases hlt : k < n
    · have b1 : decide (k < n) = true := by simp; omega
      have b2 : decide ((k : Int) < (n : Int)) = true := by simp; omega
      rcases HP1.out with h | hpp
      · omega
      obtain ⟨b9, o9, e9, hb9, c9, y9⟩ := Z.parts_at (hpp.below hB) k hlt
      cases e9
      rw [Nat.zero_add] at c9
      have hrd := wread8 (A k) 8 (fun q => m (k * 8 + q)) wr y9 (fun j hj => HM.out (k * 8 + j) (by have := HNL.out; omega))
      have hrd' : Calls Tryz.prog 92 #[.slice (A k) 8 8] wr fun e w' => e = .returned (.tuple #[.int .u64 (rN m k), .int .i64 0]) ∧ w' = wr := hrd
      obtain ⟨D, eD⟩ : ∃ D, rN m k = D := ⟨_, rfl⟩
      rw [eD] at hrd'
      have HRD := hid hrd'
      have ixp := fun W => ixP_run W gp 0 n n k hlt
      simp only [Nat.zero_add] at ixp
      have ixi := fun W => ixU_run W sa n n k hlt
      have c2 := row_cell hr k
      rw [vs_get _ _ _ _ hlt] at c2
      have f2 := row_frozen hr k
      have FIN : Hid (Below w1.heap.size w1 (wr.setCell ⟨sa, k, none⟩ (.int .u64 D)) ∧ (wr.setCell ⟨sa, k, none⟩ (.int .u64 D)).heap[sa]? = some (.cells (vs .u64 n fun j => if j < k + 1 then rN m j else 0) 23)) := by
        refine ⟨hB.setCell (by rw [ESA.out]; exact Nat.le_refl _) _, (row_set hr k _).trans (congrArg (fun c => some (Obj.cells c 23)) ?_)⟩
        rw [vs_set]
        refine vs_congr fun j hj => ?_
        by_cases e : j = k
        · subst e
          rw [if_pos rfl, if_pos (by omega), eD]
        · rw [if_neg e]
          by_cases e2 : j < k
          · rw [if_pos e2, if_pos (by omega)]
          · rw [if_neg e2, if_neg (by omega)]
      clear hB hr hpp y9 hb9 hrd hrd' eD
      generalize A k = ak at c9 HRD
      go_wp2_with (go_at_call 92; refine HRD.out.mono ?_; rintro e w3 ⟨rfl, hw⟩; obtain rfl := hw.symm)
      go_roundw
      case rel => exact ⟨k + 1, by omega, by go_num, FIN.out⟩
      case measure => simp [intOf]; omega
    · obtain rfl : n = k := by omega
      have b1 : decide (n < n) = false := by simp
      have b2 : decide ((n : Int) < (n : Int)) = false := by simp
      have hr' : wr.heap[sa]? = some (.cells (vs .u64 n (rN m)) 23) := hr.trans (congrArg (fun c => some (Obj.cells c 23)) (vs_congr fun j hj => if_pos hj))
      have HB := hid hB
      have HR := hid hr'
      clear hB hr hr'
      go_wp2
      go_ret2
      exact ⟨sa, rfl, by have := HB1.out.size; have := ESA.out; omega, HR.out, HB1.out.trans (HB.out.mono HB1.out.size)⟩

end Go.Proofs.YtokbhcgooboocaaGreatDoor

namespace Go.Proofs.YtokbhcgooboocaaGreatDoor
open Go.RowKit
set_option linter.unusedVariables false
set_option linter.unusedSimpArgs false

/-- Sizes of which the first is open. -/
def zI (r : Nat) : Int := [0, 128, 96].getD r 0

set_option maxRecDepth 20000 in
theorem asz_any (w : World) :
    Calls Tryz.prog 23 #[] w fun e w' => e = .returned (.slice (some ⟨w.heap.size, 0, none⟩) 3 3) ∧ w' = w.alloc (.cells (vs .i64 3 zI) 3) := by
  go_enter Tryz.func23, Tryz.ntmps23
  go_wp2
  go_ret
  exact ⟨rfl, rfl⟩

/-- Parts laid. -/
theorem olay (ps : List Pt) (zs : Nat → Int) (n g sa : Nat) (w : World) (hn : ps.length = n) (hsz : Z.szB zs n = true) (hg : w.heap[g]? = some (.cells (ps.map ptv).toArray 34)) (hs : w.heap[sa]? = some (.cells (vs .i64 n zs) 3)) (hb : ∀ r, r < n → Bys w (ps.getD r nilP).1 (ps.getD r nilP).2.1 (ps.getD r nilP).2.2.1 (ps.getD r nilP).2.2.2) (hl : ∀ r, r < n → (ps.getD r nilP).2.1 ≤ 65536) (hf : Z.Fits zs (fun r => (ps.getD r nilP).2.1) n) (ht : Z.hdL zs n + Z.loL zs (fun r => (ps.getD r nilP).2.1) n < 4294967296) :
    Calls Tryz.prog 20 #[.slice (some ⟨g, 0, none⟩) n n, .slice (some ⟨sa, 0, none⟩) n n] w fun e w' => ∃ v, e = .returned (.tuple #[v, .int .i64 0]) ∧ w'.ownsRow w.heap.size 5 1 v (Z.hdL zs n + Z.loL zs (fun r => (ps.getD r nilP).2.1) n) (Z.iv (Z.layC zs (fun r => (ps.getD r nilP).2.2.2) (fun r => (ps.getD r nilP).2.1) n)) ∧ Below w.heap.size w w' := by
  have hpar : Z.Parts w (some ⟨g, 0, none⟩) n (fun r => (ps.getD r nilP).1) (fun r => (ps.getD r nilP).2.1) (fun r => (ps.getD r nilP).2.2.1) (fun r => (ps.getD r nilP).2.2.2) := by
    refine .inr ⟨g, 0, rfl, (Array.getElem?_eq_some_iff.1 hg).1, fun r hr => ⟨?_, hb r hr⟩⟩
    rw [Nat.zero_add, pt_cell hg r (by omega)]
    rfl
  have hnm : Z.Nms .i64 w (some ⟨sa, 0, none⟩) n zs := .inr ⟨sa, 0, rfl, (Array.getElem?_eq_some_iff.1 hs).1, fun j hj => by rw [Nat.zero_add]; exact row_int hs j hj⟩
  exact Z.lay_ok zs (some ⟨g, 0, none⟩) n n _ _ _ _ (some ⟨sa, 0, none⟩) n w hpar hnm hsz (fun r hr => by have := hl r hr; omega) hf ht

/-- The offset of the list; the bytes of an Indexed. -/
def oI (q : Nat) : Int := [228, 0, 0, 0].getD q 0
theorem layI (p0 p1 p2 : Pt) (h1 : p1.2.1 = 128) (h2 : p2.2.1 = 96) :
    Z.hdL zI 3 + Z.loL zI (fun r => ([p0, p1, p2].getD r nilP).2.1) 3 = 228 + p0.2.1 ∧ Z.layC zI (fun r => ([p0, p1, p2].getD r nilP).2.2.2) (fun r => ([p0, p1, p2].getD r nilP).2.1) 3 = cl7 [(4, oI), (128, p1.2.2.2), (96, p2.2.2.2), (p0.2.1, p0.2.2.2)] := by
  constructor
  · show 228 + (0 + p0.2.1 + 0 + 0) = 228 + p0.2.1
    omega
  · show ((([] ++ Z.fourL (228 + 0)) ++ (List.range p1.2.1).map p1.2.2.2) ++ (List.range p2.2.1).map p2.2.2.2) ++ ((([] ++ (List.range p0.2.1).map p0.2.2.2) ++ []) ++ []) = (List.range 4).map oI ++ ((List.range 128).map p1.2.2.2 ++ ((List.range 96).map p2.2.2.2 ++ ((List.range p0.2.1).map p0.2.2.2 ++ [])))
    rw [h1, h2, show Z.fourL (228 + 0) = (List.range 4).map oI from by decide]
    simp only [List.nil_append, List.append_nil, List.append_assoc]
theorem olayI (p0 p1 p2 : Pt) (g sa : Nat) (w : World) (h0 : p0.2.1 ≤ 512) (h1 : p1.2.1 = 128) (h2 : p2.2.1 = 96) (hg : w.heap[g]? = some (.cells ([p0, p1, p2].map ptv).toArray 34)) (hs : w.heap[sa]? = some (.cells (vs .i64 3 zI) 3)) (b0 : Bys w p0.1 p0.2.1 p0.2.2.1 p0.2.2.2) (b1 : Bys w p1.1 p1.2.1 p1.2.2.1 p1.2.2.2) (b2 : Bys w p2.1 p2.2.1 p2.2.2.1 p2.2.2.2) :
    Calls Tryz.prog 20 #[.slice (some ⟨g, 0, none⟩) 3 3, .slice (some ⟨sa, 0, none⟩) 3 3] w fun e w' => ∃ v, e = .returned (.tuple #[v, .int .i64 0]) ∧ w'.ownsRow w.heap.size 5 1 v (228 + p0.2.1) (bl (ct7 [(4, oI), (128, p1.2.2.2), (96, p2.2.2.2), (p0.2.1, p0.2.2.2)]) (228 + p0.2.1)) ∧ Below w.heap.size w w' := by
  obtain ⟨e1, e2⟩ := layI p0 p1 p2 h1 h2
  have c3 : ∀ (P : Nat → Prop), P 0 → P 1 → P 2 → ∀ r, r < 3 → P r := fun P q0 q1 q2 r hr => by
    rcases (by omega : r = 0 ∨ r = 1 ∨ r = 2) with rfl | rfl | rfl
    · exact q0
    · exact q1
    · exact q2
  have h := olay [p0, p1, p2] zI 3 g sa w rfl (by decide) hg hs (c3 _ b0 b1 b2) (c3 _ (Nat.le_trans h0 (by decide)) (by show p1.2.1 ≤ _; omega) (by show p2.2.1 ≤ _; omega)) (c3 _ (fun h => absurd rfl h) (fun _ => by show (p1.2.1 : Int) = 128; omega) (fun _ => by show (p2.2.1 : Int) = 96; omega)) (by rw [e1]; omega)
  rw [e1, e2, ← bl_ct7] at h
  have e3 : ln7 [(4, oI), (128, p1.2.2.2), (96, p2.2.2.2), (p0.2.1, p0.2.2.2)] = 228 + p0.2.1 := by
    show 4 + (128 + (96 + (p0.2.1 + 0))) = _
    omega
  rw [e3] at h
  exact h

end Go.Proofs.YtokbhcgooboocaaGreatDoor
