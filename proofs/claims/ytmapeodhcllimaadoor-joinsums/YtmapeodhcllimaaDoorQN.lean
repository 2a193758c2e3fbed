/-
  What the containers of layer 7 share.
  Committee: its values, keys in bytes, roots of keys, what Enc and Root answer.
  Committee: both Reads one answer, the argument opened.
  Values read and bytes, both Reads, the argument opened.
  Values read and bytes, both Reads, the argument opened.
-/
import Derived.Test.YtmapeodhcllimaaDoorCoA
import Derived.Test.YtmapeodhcllimaaDoorQJ
import Derived.Test.YtmapeodhcllimaaDoorQA
import Derived.ChangeArms

import Derived.OpenShut

import Derived.WideShapes

namespace Go.Proofs.YtmapeodhcllimaaDoor

open Go.RowKit

set_option linter.unusedVariables false

set_option linter.unusedSimpArgs false

attribute [local go_sem ↓] sv24_eq lv24_eq ix22_eq slr_eq bd27_eq bs22_eq

set_option maxRecDepth 20000 in
set_option maxHeartbeats 1000000 in
theorem must7 (a : Option Addr) (len cap : Nat) (f : Nat → Int) (n : Int) (w : World) (hC : Rc w) (hr : Rts w a len cap f) (hlc : len ≤ cap) (hf : ByB f (32 * len)) (h0 : -9223372036854775808 ≤ n) (h1 : n ≤ 9223372036854775807) (hln : len ≤ 9223372036854775807) :
    Calls Tryd.prog 22 #[.slice a len cap, .int .i64 n] w fun e w' => e = .returned (.agg (vs .u8 32 (treeV f len n))) ∧ Below w.heap.size w w' := by
  have z := zero_root
  have hB0 : Below w.heap.size w (w.alloc (.cells (vs .u8 32 fun _ => 0) 24)) := (Below.refl _ _).alloc (Nat.le_refl _) _
  have r0 : (w.alloc (.cells (vs .u8 32 fun _ => 0) 24)).heap[w.heap.size]? = some (.cells (vs .u8 32 fun _ => 0) 24) := heap_new rfl
  have z0 : (w.alloc (.cells (vs .u8 32 fun _ => 0) 24)).heap.size = w.heap.size + 1 := by simp
  obtain ⟨W0, hW0⟩ : ∃ W, w.alloc (.cells (vs .u8 32 fun _ => 0) 24) = W := ⟨_, rfl⟩
  rw [hW0] at hB0 r0 z0
  have ht := rtreeT_any a len cap f n W0 (hC.below hB0) (hr.below hB0) hlc hf h0 h1 hln
  obtain ⟨C, eC⟩ : ∃ C, treeV f len n = C := ⟨_, rfl⟩
  obtain ⟨E, eE⟩ : ∃ E, treeE len n = E := ⟨_, rfl⟩
  rw [eC, eE] at ht
  rw [eC]
  have sv := fun W => sv24_newv W (fun _ => 0) C
  have HT := hid ht
  have R0 := hid r0
  have HB0 := hid hB0
  clear ht r0 hB0 hC hr hf eC eE
  go_enter Tryd.func22, Tryd.ntmps22
  go_upto_region 2 with (go_at_call 56; refine HT.out.mono ?_; rintro e w1 ⟨rfl, hb1⟩)
  obtain ⟨W2, hW2⟩ : ∃ W, w1.alloc (.cells (vs .u8 32 C) 24) = W := ⟨_, rfl⟩
  rw [hW2]
  have hz1 := hb1.size
  have r1 : W2.heap[w1.heap.size]? = some (.cells (vs .u8 32 C) 24) := by rw [← hW2]; exact heap_new rfl
  have r0' : W2.heap[w.heap.size]? = some (.cells (vs .u8 32 fun _ => 0) 24) := by rw [← hW2]; exact (heap_old (by omega)).trans ((hb1.block _ (by omega)).trans R0.out)
  have hB2 : Below w.heap.size w W2 := by rw [← hW2]; exact (HB0.out.trans (hb1.mono (by omega))).alloc (by omega) _
  have l1 := lv24_run r1
  have s1 := sv24_run r0' C
  have HR0 := hid r0'
  have HB2 := hid hB2
  clear r1 r0' hB2 hW2 hb1 sv HT
  go_wp2
  refine ret24 4 w.heap.size _ 24 rfl rfl rfl (setRow_at HR0.out) ⟨rfl, ?_⟩
  exact below_row HB2.out (Nat.le_refl _) _

theorem rts_cap {w : World} {a : Option Addr} {len cap : Nat} {f : Nat → Int} (h : Rts w a len cap f) (hl : 1 ≤ len) : len ≤ cap := by
  rcases h with ⟨_, h, _⟩ | ⟨_, _, h⟩ | ⟨_, _, _, h, _⟩
  · omega
  · omega
  · exact h

/-- The root of at most 32 bytes, but not of none. -/
theorem bR_one (f : Nat → Int) (len : Nat) (h1 : 1 ≤ len) (h2 : len ≤ 32) : treeV (pk f len) ((len + 31) / 32) 1 = bR f len := by
  have e : (len + 31) / 32 = 1 := by omega
  unfold bR cks
  rw [e]
  rfl

set_option maxRecDepth 20000 in
set_option maxHeartbeats 1000000 in
theorem chunk7 (a : Option Addr) (len cap : Nat) (f : Nat → Int) (w : World) (hC : Rc w) (hb : Bys w a len cap f) (h1 : 1 ≤ len) (h2 : len ≤ 32) (hf : ∀ j, j < len → 0 ≤ f j ∧ f j < 256) :
    Calls Tryd.prog 24 #[.slice a len cap] w fun e w' => e = .returned (.agg (vs .u8 32 (bR f len))) ∧ Below w.heap.size w w' := by
  have z := zero_root
  have hB0 : Below w.heap.size w (w.alloc (.cells (vs .u8 32 fun _ => 0) 24)) := (Below.refl _ _).alloc (Nat.le_refl _) _
  have r0 : (w.alloc (.cells (vs .u8 32 fun _ => 0) 24)).heap[w.heap.size]? = some (.cells (vs .u8 32 fun _ => 0) 24) := heap_new rfl
  have z0 : (w.alloc (.cells (vs .u8 32 fun _ => 0) 24)).heap.size = w.heap.size + 1 := by simp
  obtain ⟨W0, hW0⟩ : ∃ W, w.alloc (.cells (vs .u8 32 fun _ => 0) 24) = W := ⟨_, rfl⟩
  rw [hW0] at hB0 r0 z0
  have hp := rpack_any a len cap f W0 (hb.below hB0) (by omega)
  have e1 : (len + 31) / 32 = 1 := by omega
  rw [e1] at hp
  have hmu : ∀ (W : World) a' cap', Below w.heap.size w W → 1 ≤ cap' → Rts W a' 1 cap' (pk f len) → Calls Tryd.prog 22 #[.slice a' 1 cap', .int .i64 1] W fun e w' => e = .returned (.agg (vs .u8 32 (bR f len))) ∧ Below W.heap.size W w' := fun W a' cap' h h' hr => by
    rw [← bR_one f len h1 h2, e1]
    exact must7 a' 1 cap' (pk f len) 1 W (hC.below h) hr h' (pk_bd hf _) (by decide) (by decide) (by decide)
  obtain ⟨C, eC⟩ : ∃ C, bR f len = C := ⟨_, rfl⟩
  rw [eC] at hmu ⊢
  have HP := hid hp
  have HMU := hid hmu
  have R0 := hid r0
  have HB0 := hid hB0
  have Z0 := hid z0
  clear hp hmu r0 hB0 hC hb hf eC e1 z0
  go_enter Tryd.func24, Tryd.ntmps24
  go_wp2_with (first
    | (go_at_call 23; refine HP.out.mono ?_; rintro e w1 ⟨a1, c1, rfl, hb1, hr1⟩; have HB1 := hid hb1; have hc1 : 1 ≤ c1 := rts_cap hr1 (Nat.le_refl _); have HM1 := hid (HMU.out w1 a1 c1 (HB0.out.trans (hb1.mono HB0.out.size)) hc1 hr1); clear hb1 hr1 hc1)
    | (go_at_call 22; refine HM1.out.mono ?_; rintro e w2 ⟨rfl, hb2⟩; have s1 := sv24_run ((hb2.block w.heap.size (by have := HB1.out.size; have := Z0.out; omega)).trans ((HB1.out.block w.heap.size (by have := Z0.out; omega)).trans R0.out)) C))
  have z1 := Z0.out
  have z2 := HB1.out.size
  have z3 := hb2.size
  refine ret24 2 w.heap.size _ 24 rfl rfl rfl (setRow_at ((hb2.block w.heap.size (by omega)).trans ((HB1.out.block w.heap.size (by omega)).trans R0.out))) ⟨rfl, ?_⟩
  exact below_row (HB0.out.trans ((HB1.out.mono (by omega)).trans (hb2.mono (by omega)))) (Nat.le_refl _) _

end Go.Proofs.YtmapeodhcllimaaDoor

namespace Go.Proofs.YtmapeodhcllimaaDoor

open Go.RowKit

set_option linter.unusedVariables false

set_option linter.unusedSimpArgs false

attribute [local go_sem ↓] sv24_eq lv24_eq ix22_eq slr_eq bd27_eq bs22_eq

attribute [local go_sem ↓] sv8_eq

set_option maxRecDepth 20000 in
set_option maxHeartbeats 1000000 in
theorem rnumber7 (n : Int) (w : World) (h0 : 0 ≤ n) (h1 : n < 18446744073709551616) :
    Calls Tryd.prog 25 #[.int .u64 n] w fun e w' => ∃ v, e = .returned v ∧ w'.ownsRow w.heap.size 5 1 v 8 (bl (nmB n) 8) ∧ Below w.heap.size w w' := by
  have hb := rbytes_any n w h0 (by omega)
  have HB := hid hb
  have sv := fun W => sv8_newv W (fun _ => 0) (nmB n)
  have z := zero_8
  clear hb
  go_enter Tryd.func25, Tryd.ntmps25
  go_upto_region 2 with (go_at_call 57; refine HB.out.mono ?_; rintro e w1 ⟨rfl, hb1⟩)
  obtain ⟨W2, hW2⟩ : ∃ W, w1.alloc (.cells (vs .u8 8 (nmB n)) 119) = W := ⟨_, rfl⟩
  rw [hW2]
  have r1 : W2.heap[w1.heap.size]? = some (.cells (vs .u8 8 (nmB n)) 119) := by rw [← hW2]; exact heap_new rfl
  have hB2 : Below w.heap.size w W2 := by rw [← hW2]; exact hb1.alloc hb1.size _
  have HBY := hid (bys_new r1 (by omega))
  have HB2 := hid hB2
  clear r1 hW2 hB2 sv z hb1
  go_wp2_with (at_builtin; refine wpList_append_bys _ rfl _ _ rfl W2.heap.size _ 0 [] rfl (World.ownsRow_made _ #[] 0 (Nat.le_refl _) (Nat.zero_le _) rfl) _ 8 8 (nmB n) rfl (HBY.out.below (by go_grown)) (by omega) (by simp) ?_; intro v1 w3 ho1 hg1; rw [Nat.zero_add, List.nil_append] at ho1)
  go_ret
  have hb3 := below_grown ((Below.refl W2.heap.size W2).alloc (Nat.le_refl _) (.cells #[] 5)) (World.ownsRow_made _ #[] 0 (Nat.le_refl _) (Nat.zero_le _) rfl) (by simp) hg1
  exact ⟨v1, rfl, ho1.mono HB2.out.size, HB2.out.trans (hb3.mono HB2.out.size)⟩

end Go.Proofs.YtmapeodhcllimaaDoor

namespace Go.Proofs.YtmapeodhcllimaaDoor

open Go.RowKit

set_option linter.unusedVariables false

set_option linter.unusedSimpArgs false

end Go.Proofs.YtmapeodhcllimaaDoor

namespace Go.Proofs.YtmapeodhcllimaaDoor

open Go.RowKit

set_option linter.unusedVariables false

set_option linter.unusedSimpArgs false

attribute [local go_sem ↓] sv24_eq lv24_eq ix22_eq slr_eq bd27_eq bs22_eq lvCheckpoint_eq

end Go.Proofs.YtmapeodhcllimaaDoor

namespace Go.Proofs.YtmapeodhcllimaaDoor

open Go.RowKit

set_option linter.unusedVariables false

set_option linter.unusedSimpArgs false

theorem treeV_congr {f g : Nat → Int} {len : Nat} (h : ∀ q, q < 32 * len → f q = g q) (n : Int) (j : Nat) (hj : j < 32) : treeV f len n j = treeV g len n j := by
  unfold treeV
  by_cases hn : okL n ∧ (len : Int) ≤ n
  · rw [if_pos hn, if_pos hn]
    refine nd_congr f g len len _ 0 0 (fun t ht j hj => ?_) j hj
    show (if 0 * 2 ^ _ + t < len then rt32 f (0 * 2 ^ _ + t) else fun _ => 0) j = (if 0 * 2 ^ _ + t < len then rt32 g (0 * 2 ^ _ + t) else fun _ => 0) j
    rw [Nat.zero_mul, Nat.zero_add]
    by_cases ht' : t < len
    · rw [if_pos ht', if_pos ht']
      exact h _ (by omega)
    · rw [if_neg ht', if_neg ht']
  · rw [if_neg hn, if_neg hn]

/-- The root of 32 bytes is these. -/
theorem bR_32 (f : Nat → Int) (j : Nat) (hj : j < 32) : bR f 32 j = f j := by
  show treeV (pk f 32) 1 (1 : Nat) j = f j
  unfold treeV
  rw [if_pos ⟨by decide, by decide⟩]
  show nd (pk f 32) 1 0 0 j = f j
  show (if 0 < 1 then rt32 (pk f 32) 0 else fun _ => 0) j = f j
  rw [if_pos (by omega)]
  unfold rt32 pk
  rw [if_pos (by omega), Nat.mul_zero, Nat.zero_add]

theorem fl7_put (l : List (Nat → Int)) (i n : Nat) (c : Nat → Int) (hi : i < n) (hl : l.length = n) : putL (vs .u8 (32 * n) (fl7 l)) (32 * i) (bl c 32) = vs .u8 (32 * n) (fl7 (l.set i c)) := by
  apply Array.ext_getElem?
  intro j
  rw [putL_get _ _ _ _ (by rw [bl_len, vs_size]; omega), bl_len]
  by_cases h : 32 * i ≤ j ∧ j < 32 * i + 32
  · rw [if_pos h, bl_at _ _ _ (by omega), vs_get _ _ _ _ (by omega)]
    unfold fl7
    rw [show j / 32 = i by omega, List.getD_eq_getElem?_getD, List.getElem?_set_self (by omega), show j - 32 * i = j % 32 by omega]
    rfl
  · rw [if_neg h]
    by_cases hj : j < 32 * n
    · rw [vs_get _ _ _ _ hj, vs_get _ _ _ _ hj]
      unfold fl7
      rw [List.getD_eq_getElem?_getD, List.getD_eq_getElem?_getD, List.getElem?_set_ne (by omega)]
    · rw [Array.getElem?_eq_none (by rw [vs_size]; omega), Array.getElem?_eq_none (by rw [vs_size]; omega)]

/-- One root more in a row of roots: what stays. -/
theorem put7 {w : World} {B u n : Nat} {l : List (Nat → Int)} {t : TypeId} {W : World} (hB : Below B W w) (hu : B ≤ u) (hr : w.heap[u]? = some (.cells (vs .u8 (32 * n) (fl7 l)) t)) (i : Nat) (c : Nat → Int) (hi : i < n) (hl : l.length = n) :
    (sv24 ⟨u, 32 * i, none⟩ (.agg (vs .u8 32 c))).run Tryd.prog w = .ok () (w.setCells u (32 * i) (bl c 32)) ∧ (w.setCells u (32 * i) (bl c 32)).heap[u]? = some (.cells (vs .u8 (32 * n) (fl7 (l.set i c))) t) ∧ Below B W (w.setCells u (32 * i) (bl c 32)) := by
  have hus := (Array.getElem?_eq_some_iff.1 hr).1
  refine ⟨sv24_mid hr (32 * i) c (by rw [vs_size]; omega), ?_, hB.trans ((setCells_kept (bl c 32) (32 * i) (Kept.refl u w)).below hu (by omega))⟩
  rw [← fl7_put l i n c hi hl]
  exact setCells_row _ _ hr

end Go.Proofs.YtmapeodhcllimaaDoor

namespace Go.Proofs.YtmapeodhcllimaaDoor

open Go.RowKit

set_option linter.unusedVariables false

set_option linter.unusedSimpArgs false

namespace Z

end Z

end Go.Proofs.YtmapeodhcllimaaDoor

namespace Go.Proofs.YtmapeodhcllimaaDoor

open Go.RowKit

set_option linter.unusedVariables false

set_option linter.unusedSimpArgs false

end Go.Proofs.YtmapeodhcllimaaDoor

namespace Go.Proofs.YtmapeodhcllimaaDoor

open Go.RowKit

set_option linter.unusedVariables false

set_option linter.unusedSimpArgs false

end Go.Proofs.YtmapeodhcllimaaDoor

namespace Go.Proofs.YtmapeodhcllimaaDoor

open Go.RowKit

set_option linter.unusedVariables false

set_option linter.unusedSimpArgs false

theorem lst_by {H : Type} {enc : TypeId × Value → H} {P : Program} {w : World} {b0 fuel : Nat} {sp : Nat → Bool} {held : Bool} {t e : TypeId} {n : Nat} {cs : List Value} {x : DataW H × List MemPlace}
    (ht : P.underlying t = some (.array n e)) (he : P.underlying e = some (.int .u8)) (hce : P.cellsOf e = 1) (hl : cs.length = n) (h : DataW.trod enc P w b0 sp held fuel t cs = some x) :
    ∃ f : Nat → Int, cs = (List.range n).map (fun j => Value.int .u8 (f j)) ∧ ∀ j, j < n → 0 ≤ f j ∧ f j < 256 := by
  obtain ⟨xs, m, rfl, _, _, hxl, hat⟩ := DataW.trod_array ht h
  have hcell : ∀ i, i < n → ∃ z, cs[i]? = some (.int .u8 z) ∧ (Lit.int .u8 z).wf = true := by
    intro i hi
    have ha := hat i hi
    rw [List.getElem?_eq_getElem (by omega)] at ha
    obtain ⟨z, hc, _, hwf⟩ := DataW.trod_int he ha
    refine ⟨z, ?_, hwf⟩
    have := congrArg (·[0]?) hc
    simpa [hce, List.getElem?_take, List.getElem?_drop] using this
  refine ⟨byteOf cs.toArray, ?_, fun j hj => ?_⟩
  · apply List.ext_getElem?
    intro i
    rw [List.getElem?_map]
    by_cases hi : i < n
    · obtain ⟨z, hz, _⟩ := hcell i hi
      rw [List.getElem?_range hi, hz]
      show some _ = some (Value.int .u8 (byteOf cs.toArray i))
      unfold byteOf
      rw [List.getElem?_toArray, hz]
    · rw [List.getElem?_eq_none (by omega), List.getElem?_eq_none (by simpa using hi)]
      rfl
  · obtain ⟨z, hz, hwf⟩ := hcell j hj
    have := bounds_u8 hwf
    unfold byteOf
    rw [List.getElem?_toArray, hz]
    show 0 ≤ z ∧ z < 256
    omega

theorem cut_list (l : List Value) (o k : Nat) : l.drop o = (l.drop o).take k ++ l.drop (o + k) := by
  have := (List.take_append_drop k (l.drop o)).symm
  rw [List.drop_drop] at this
  exact this

theorem open_str {H : Type} {enc : TypeId × Value → H} {P : Program} {W w : World} {r : Reach} {base b0 : Nat} {sp : Nat → Bool} {held : Bool} {t : TypeId} {fs : Array Field} {v : Value} {d : DataW H} {p : List MemPlace}
    (ht : P.underlying t = some (.struct fs)) (hv : Value.okWide P W r base t v) (h : DataW.Trod enc P w b0 sp held t v d p) :
    ∃ cs : Array Value, v = .agg cs ∧ cs.size = P.cellsOf t ∧ ∃ (xs : List (DataW H × List MemPlace)) (n : Nat), xs.length = fs.size ∧ ∀ (i : Nat) (f : Field), fs[i]? = some f → DataW.trod enc P w b0 sp held n f.type ((cs.toList.drop f.offset).take (P.cellsOf f.type)) = xs[i]? := by
  unfold Value.okWide at hv
  rw [ht] at hv
  obtain ⟨cs, rfl, hs, _⟩ := hv
  obtain ⟨fuel, hf⟩ := h
  obtain ⟨xs, n, _, _, hl, hxl, hat⟩ := DataW.trod_struct ht hf
  exact ⟨cs, rfl, hs, xs, n, hxl, hat⟩

end Go.Proofs.YtmapeodhcllimaaDoor

namespace Go.Proofs.YtmapeodhcllimaaDoor

open Go.RowKit

set_option linter.unusedVariables false

set_option linter.unusedSimpArgs false

end Go.Proofs.YtmapeodhcllimaaDoor

namespace Go.Proofs.YtmapeodhcllimaaDoor

open Go.RowKit

set_option linter.unusedVariables false

set_option linter.unusedSimpArgs false

end Go.Proofs.YtmapeodhcllimaaDoor

namespace Go.Proofs.YtmapeodhcllimaaDoor

open Go.RowKit

set_option linter.unusedVariables false

set_option linter.unusedSimpArgs false

structure VKeys where
  f0 : Nat → Int

def sKeys (x : VKeys) : List Seg := [.by 384 x.f0]

def OkKeys (x : VKeys) : Prop := ∀ j, j < 384 → 0 ≤ x.f0 j ∧ x.f0 j < 256

structure VCommittee where
  f0 : VKeys
  f1 : Nat → Int

def sCommittee (x : VCommittee) : List Seg := sKeys x.f0 ++ [.by 48 x.f1]

def OkCommittee (x : VCommittee) : Prop := OkKeys x.f0 ∧ (∀ j, j < 48 → 0 ≤ x.f1 j ∧ x.f1 j < 256)

def lvKeys (a : Addr) : Sem Value := loadVar 45 a

theorem lvKeys_eq (a : Addr) : loadVar 45 a = lvKeys a := rfl

def lvCommittee (a : Addr) : Sem Value := loadVar 47 a

theorem lvCommittee_eq (a : Addr) : loadVar 47 a = lvCommittee a := rfl

/-- A key stored, a key of eight. -/
def svKy (a : Addr) (v : Value) : Sem Unit := storeVar 44 a v

theorem svKy_eq (a : Addr) (v : Value) : storeVar 44 a v = svKy a v := rfl

theorem zero_48 : ∀ w : World, (zeroValue 44).run Tryd.prog w = .ok (.agg (vs .u8 48 fun _ => 0)) w := (zero_of_info (n := 48) (by kernel_rfl)).1

def ixK (x i : Value) : Sem Value := Instr.index 45 x i

theorem ixK_eq (x i : Value) : Instr.index 45 x i = ixK x i := rfl

attribute [local go_sem ↓] svKy_eq ixK_eq lvKeys_eq

/-- The root of a key, the roots of eight keys, their root. -/
def kyR (f : Nat → Int) (i : Nat) : Nat → Int := bR (fun q => f (48 * i + q)) 48

def lk (f : Nat → Int) (k : Nat) : List (Nat → Int) := [if 0 < k then kyR f 0 else fun _ => 0, if 1 < k then kyR f 1 else fun _ => 0, if 2 < k then kyR f 2 else fun _ => 0, if 3 < k then kyR f 3 else fun _ => 0, if 4 < k then kyR f 4 else fun _ => 0, if 5 < k then kyR f 5 else fun _ => 0, if 6 < k then kyR f 6 else fun _ => 0, if 7 < k then kyR f 7 else fun _ => 0]

attribute [local go_sem ↓] sv24_eq lv24_eq ix22_eq mk22_eq

/-- The value of nothing but zeros; the value that bytes are. -/
def oCommittee : VCommittee := ⟨⟨fun _ => 0⟩, fun _ => 0⟩

def svCommittee (a : Addr) (v : Value) : Sem Unit := storeVar 47 a v

theorem svCommittee_eq (a : Addr) (v : Value) : storeVar 47 a v = svCommittee a v := rfl

attribute [local go_sem ↓] sv24_eq lv24_eq ix22_eq slr_eq bd27_eq bs22_eq sv8_eq lvKeys_eq

end Go.Proofs.YtmapeodhcllimaaDoor

namespace Go.Proofs.YtmapeodhcllimaaDoor

open Go.RowKit

set_option linter.unusedVariables false

set_option linter.unusedSimpArgs false

theorem lst_ks {H : Type} {enc : TypeId × Value → H} {P : Program} {w : World} {b0 fuel : Nat} {sp : Nat → Bool} {held : Bool} {t e e8 : TypeId} {cs : List Value} {x : DataW H × List MemPlace}
    (ht : P.underlying t = some (.array 8 e)) (hk : P.underlying e = some (.array 48 e8)) (he : P.underlying e8 = some (.int .u8)) (hck : P.cellsOf e = 48) (hce : P.cellsOf e8 = 1) (hl : cs.length = 384) (h : DataW.trod enc P w b0 sp held fuel t cs = some x) :
    ∃ f : Nat → Int, cs = (List.range 384).map (fun j => Value.int .u8 (f j)) ∧ ∀ j, j < 384 → 0 ≤ f j ∧ f j < 256 := by
  obtain ⟨xs, m, rfl, _, _, hxl, hat⟩ := DataW.trod_array ht h
  have hcell : ∀ q, q < 384 → ∃ z : Int, cs[q]? = some (.int .u8 z) ∧ 0 ≤ z ∧ z < 256 := by
    intro q hq
    have ha := hat (q / 48) (by omega)
    rw [List.getElem?_eq_getElem (by omega), hck] at ha
    obtain ⟨g, hc, hb⟩ := lst_by hk he hce (by rw [List.length_take, List.length_drop, hl]; omega) ha
    refine ⟨g (q % 48), ?_, hb _ (by omega)⟩
    have := congrArg (·[q % 48]?) hc
    simp only [List.getElem?_take, List.getElem?_drop] at this
    rw [if_pos (by omega), List.getElem?_map, List.getElem?_range (by omega)] at this
    exact (congrArg (fun i => cs[i]?) (show q = q / 48 * 48 + q % 48 by omega)).trans this
  refine ⟨byteOf cs.toArray, ?_, fun j hj => ?_⟩
  · apply List.ext_getElem?
    intro i
    rw [List.getElem?_map]
    by_cases hi : i < 384
    · obtain ⟨z, hz, _⟩ := hcell i hi
      rw [List.getElem?_range hi, hz]
      show some _ = some (Value.int .u8 (byteOf cs.toArray i))
      unfold byteOf
      rw [List.getElem?_toArray, hz]
    · rw [List.getElem?_eq_none (by omega), List.getElem?_eq_none (by simpa using hi)]
      rfl
  · obtain ⟨z, hz, hb⟩ := hcell j hj
    unfold byteOf
    rw [List.getElem?_toArray, hz]
    exact hb

end Go.Proofs.YtmapeodhcllimaaDoor

namespace Go.Proofs.YtmapeodhcllimaaDoor

open Go.RowKit

set_option linter.unusedVariables false

set_option linter.unusedSimpArgs false

end Go.Proofs.YtmapeodhcllimaaDoor

namespace Go.Proofs.YtmapeodhcllimaaDoor

open Go.RowKit

set_option linter.unusedVariables false

set_option linter.unusedSimpArgs false

end Go.Proofs.YtmapeodhcllimaaDoor

namespace Go.Proofs.YtmapeodhcllimaaDoor

open Go.RowKit

set_option linter.unusedVariables false

set_option linter.unusedSimpArgs false

end Go.Proofs.YtmapeodhcllimaaDoor

namespace Go.Proofs.YtmapeodhcllimaaDoor

open Go.RowKit

set_option linter.unusedVariables false

set_option linter.unusedSimpArgs false

set_option maxRecDepth 100000 in
theorem opl_Exit {H : Type} {enc : TypeId × Value → H} {w : World} {b0 fuel : Nat} {sp : Nat → Bool} {held : Bool} {cs : List Value} {y : DataW H × List MemPlace}
    (hsl : cs.length = 2) (h : DataW.trod enc Tryd.prog w b0 sp held fuel 66 cs = some y) : ∃ x : VExit, cs = celL (sExit x) ∧ OkExit x := by
  obtain ⟨xs, n, _, _, _, hxl, hat⟩ := DataW.trod_struct Tryd.underlying66 h
  have hx : xs.length = 2 := hxl
  have h0 := hat 0 _ rfl
  rw [List.getElem?_eq_getElem (by omega)] at h0
  have c0 : Tryd.prog.cellsOf 22 = 1 := by kernel_rfl
  replace h0 : DataW.trod enc Tryd.prog w b0 sp held n 22 ((cs.drop 0).take (Tryd.prog.cellsOf 22)) = some xs[0] := h0
  rw [c0] at h0
  obtain ⟨f0, e0, _, w0⟩ := DataW.trod_int Tryd.underlying22 h0
  have k0 := bounds_u64 w0
  have h1 := hat 1 _ rfl
  rw [List.getElem?_eq_getElem (by omega)] at h1
  have c1 : Tryd.prog.cellsOf 22 = 1 := by kernel_rfl
  replace h1 : DataW.trod enc Tryd.prog w b0 sp held n 22 ((cs.drop 1).take (Tryd.prog.cellsOf 22)) = some xs[1] := h1
  rw [c1] at h1
  obtain ⟨f1, e1, _, w1⟩ := DataW.trod_int Tryd.underlying22 h1
  have k1 := bounds_u64 w1
  have el : cs.drop 0 = (cs.drop 0).take 1 ++ ((cs.drop 1).take 1 ++ ([])) := ((cut_list cs 0 1).trans (congrArg _ ((cut_list cs 1 1).trans (congrArg _ (List.drop_eq_nil_of_le (by rw [hsl]; exact Nat.le_refl _))))))
  rw [e0, e1] at el
  refine ⟨⟨f0, f1⟩, ?_, ⟨k0.1, Int.lt_of_le_of_lt k0.2 (by decide)⟩, ⟨k1.1, Int.lt_of_le_of_lt k1.2 (by decide)⟩⟩
  exact el

end Go.Proofs.YtmapeodhcllimaaDoor

namespace Go.Proofs.YtmapeodhcllimaaDoor

open Go.RowKit

set_option linter.unusedVariables false

set_option linter.unusedSimpArgs false

end Go.Proofs.YtmapeodhcllimaaDoor

namespace Go.Proofs.YtmapeodhcllimaaDoor

open Go.RowKit

set_option linter.unusedVariables false

set_option linter.unusedSimpArgs false

set_option maxRecDepth 100000 in
theorem open_SignedExit {H : Type} {enc : TypeId × Value → H} {W w : World} {r : Reach} {base b0 : Nat} {sp : Nat → Bool} {held : Bool} {v : Value} {d : DataW H} {p : List MemPlace}
    (hv : Value.okWide Tryd.prog W r base 68 v) (h : DataW.Trod enc Tryd.prog w b0 sp held 68 v d p) : ∃ x : VSignedExit, v = .agg (cel (sSignedExit x)) ∧ OkSignedExit x := by
  obtain ⟨cs, rfl, hs, xs, n, hxl, hat⟩ := open_str Tryd.underlying68 hv h
  have hsz : cs.size = 98 := hs.trans (by kernel_rfl)
  have hsl : cs.toList.length = 98 := by rw [Array.length_toList]; exact hsz
  have hx : xs.length = 2 := hxl
  have h0 := hat 0 _ rfl
  rw [List.getElem?_eq_getElem (by omega)] at h0
  have c0 : Tryd.prog.cellsOf 66 = 2 := by kernel_rfl
  replace h0 : DataW.trod enc Tryd.prog w b0 sp held n 66 ((cs.toList.drop 0).take (Tryd.prog.cellsOf 66)) = some xs[0] := h0
  rw [c0] at h0
  obtain ⟨f0, e0, k0⟩ := opl_Exit (by rw [List.length_take, List.length_drop, hsl]; rfl) h0
  have h1 := hat 1 _ rfl
  rw [List.getElem?_eq_getElem (by omega)] at h1
  have c1 : Tryd.prog.cellsOf 52 = 96 := by kernel_rfl
  replace h1 : DataW.trod enc Tryd.prog w b0 sp held n 52 ((cs.toList.drop 2).take (Tryd.prog.cellsOf 52)) = some xs[1] := h1
  rw [c1] at h1
  obtain ⟨f1, e1, k1⟩ := lst_by Tryd.underlying52 Tryd.underlying5 (by kernel_rfl) (by rw [List.length_take, List.length_drop, hsl]; rfl) h1
  have el : cs.toList.drop 0 = (cs.toList.drop 0).take 2 ++ ((cs.toList.drop 2).take 96 ++ ([])) := ((cut_list cs.toList 0 2).trans (congrArg _ ((cut_list cs.toList 2 96).trans (congrArg _ (List.drop_eq_nil_of_le (by rw [hsl]; exact Nat.le_refl _))))))
  rw [e0, e1] at el
  refine ⟨⟨f0, f1⟩, ?_, k0, k1⟩
  congr 1
  apply Array.ext'
  exact el

end Go.Proofs.YtmapeodhcllimaaDoor
