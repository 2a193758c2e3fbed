/-
  Committee: its values, keys in bytes, roots of keys, what Enc and Root answer.
  Committee: what the reference's Enc and Root answer.
  Committee: both Reads one answer, the argument opened.
-/
import Derived.Test.YtficlakgameglaaDoorQE
namespace Go.Proofs.YtficlakgameglaaDoor

open Go.RowKit

set_option linter.unusedVariables false

set_option linter.unusedSimpArgs false

structure VKeys where
  f0 : Nat → Int

def sKeys (x : VKeys) : List Seg := [.by 384 x.f0]

def OkKeys (x : VKeys) : Prop := ∀ j, j < 384 → 0 ≤ x.f0 j ∧ x.f0 j < 256

def eKeys (x : VKeys) : List (Nat × (Nat → Int)) := [(384, x.f0)]

structure VCommittee where
  f0 : VKeys
  f1 : Nat → Int

def sCommittee (x : VCommittee) : List Seg := sKeys x.f0 ++ [.by 48 x.f1]

def OkCommittee (x : VCommittee) : Prop := OkKeys x.f0 ∧ (∀ j, j < 48 → 0 ≤ x.f1 j ∧ x.f1 j < 256)

def eCommittee (x : VCommittee) : List (Nat × (Nat → Int)) := [(384, ct7 (eKeys x.f0)), (48, x.f1)]

def lvKeys (a : Addr) : Sem Value := loadVar 45 a

theorem lvKeys_eq (a : Addr) : loadVar 45 a = lvKeys a := rfl

def lvCommittee (a : Addr) : Sem Value := loadVar 47 a

theorem lvCommittee_eq (a : Addr) : loadVar 47 a = lvCommittee a := rfl

theorem lvCommittee_mid {w : World} {g : Nat} {C : Array Value} {t : TypeId} {x : VCommittee} (h : w.heap[g]? = some (.cells C t)) (o : Nat) (hl : (C.toList.drop o).take (celL (sCommittee x)).length = celL (sCommittee x)) (hs : slen (sCommittee x) = 432) : (lvCommittee ⟨g, o, none⟩).run Tryd.prog w = .ok (.agg (cel (sCommittee x))) w :=
  loadAt_var (run_loadAt_mid w g o 47 _ _ (sub_range h hl) Tryd.underlying47 rfl (by rw [celL_len, hs]; kernel_rfl))

/-- A key stored, a key of eight. -/
def svKy (a : Addr) (v : Value) : Sem Unit := storeVar 44 a v

theorem svKy_eq (a : Addr) (v : Value) : storeVar 44 a v = svKy a v := rfl

theorem svKy_newv (W : World) (o c : Nat → Int) : (svKy ⟨W.heap.size, 0, none⟩ (.agg (vs .u8 48 c))).run Tryd.prog (W.alloc (.cells (vs .u8 48 o) 44)) = .ok () (W.alloc (.cells (vs .u8 48 c) 44)) :=
  run_storeVar_new W 44 _ _ (by rw [vs_size]; kernel_rfl) (by rw [vs_size, vs_size]) (vs_one _ _ _)

theorem zero_48 : ∀ w : World, (zeroValue 44).run Tryd.prog w = .ok (.agg (vs .u8 48 fun _ => 0)) w := (zero_of_info (n := 48) (by kernel_rfl)).1

def ixK (x i : Value) : Sem Value := Instr.index 45 x i

theorem ixK_eq (x i : Value) : Instr.index 45 x i = ixK x i := rfl

theorem ixK_run (W : World) (f : Nat → Int) (k : Nat) (hk : k < 8) : (ixK (.agg (vs .u8 384 f)) (.int .i64 k)).run Tryd.prog W = .ok (.agg (vs .u8 48 (fun q => f (48 * k + q)))) W := by
  rcases (by omega : k = 0 ∨ k = 1 ∨ k = 2 ∨ k = 3 ∨ k = 4 ∨ k = 5 ∨ k = 6 ∨ k = 7) with rfl | rfl | rfl | rfl | rfl | rfl | rfl | rfl
  all_goals kernel_rfl

theorem bl_join (f : Nat → Int) (n k : Nat) : bl f n ++ bl (fun q => f (n + q)) k = bl f (n + k) := by
  unfold bl
  rw [List.range_add, List.map_append, List.map_map]
  rfl

attribute [local go_sem ↓] svKy_eq ixK_eq lvKeys_eq

/-- The root of a key, the roots of eight keys, their root. -/
def kyR (f : Nat → Int) (i : Nat) : Nat → Int := bR (fun q => f (48 * i + q)) 48

def lk (f : Nat → Int) (k : Nat) : List (Nat → Int) := [if 0 < k then kyR f 0 else fun _ => 0, if 1 < k then kyR f 1 else fun _ => 0, if 2 < k then kyR f 2 else fun _ => 0, if 3 < k then kyR f 3 else fun _ => 0, if 4 < k then kyR f 4 else fun _ => 0, if 5 < k then kyR f 5 else fun _ => 0, if 6 < k then kyR f 6 else fun _ => 0, if 7 < k then kyR f 7 else fun _ => 0]

attribute [local go_sem ↓] sv24_eq lv24_eq ix22_eq mk22_eq

/-- The value of nothing but zeros; the value that bytes are. -/
def oCommittee : VCommittee := ⟨⟨fun _ => 0⟩, fun _ => 0⟩

def zCommittee : Nat → Int := zl7 [384, 48]

theorem bsI_Committee (W : World) : (bsI 2 #[(0, .int .i64 384), (1, .int .i64 48)]).run Tryd.prog W = .ok (.slice (some ⟨W.heap.size, 0, none⟩) 2 2) (W.alloc (.cells (vs .i64 2 zCommittee) 3)) := by kernel_rfl

def svCommittee (a : Addr) (v : Value) : Sem Unit := storeVar 47 a v

theorem svCommittee_eq (a : Addr) (v : Value) : storeVar 47 a v = svCommittee a v := rfl

attribute [local go_sem ↓] sv24_eq lv24_eq ix22_eq slr_eq bd27_eq bs22_eq sv8_eq mkI_eq ixI_eq ixP_eq bsP_eq bsI_eq lvKeys_eq

end Go.Proofs.YtficlakgameglaaDoor

namespace Go.Proofs.YtficlakgameglaaDoor

open Go.RowKit

set_option linter.unusedVariables false

set_option linter.unusedSimpArgs false

theorem key_bys {w : World} {y : Nat} {t : TypeId} {x : VCommittee} (h : w.heap[y]? = some (.cells (cel (sCommittee x)) t)) (k : Nat) (hk : k < 8) : Bys w (some ⟨y, k * 48, none⟩) 48 48 (fun q => x.f0.f0 (48 * k + q)) :=
  .inr (.inr ⟨y, k * 48, rfl, Nat.le_refl _, by omega, (Array.getElem?_eq_some_iff.1 h).1, fun j hj => by
    rw [row_cell h, show k * 48 + j = sof (sCommittee x) 0 + (48 * k + j) by show _ = 0 + (48 * k + j); omega]
    exact cel_at (sCommittee x) 0 (48 * k + j) (Seg.by 384 x.f0.f0) rfl (by show 48 * k + j < 384; omega)⟩)

attribute [local go_sem ↓] sv24_eq lv24_eq ix22_eq slr_eq bd27_eq bs22_eq bsP_eq bsI_eq lvKeys_eq

set_option maxRecDepth 20000 in
set_option maxHeartbeats 2000000 in
theorem rencCommittee_any (x : VCommittee) (w : World) (hx : OkCommittee x) :
    Calls Tryd.prog 53 #[.agg (cel (sCommittee x))] w fun e w' => ∃ v, e = .returned (.tuple #[v, .int .i64 0]) ∧ w'.ownsRow w.heap.size 5 1 v 432 (bl (ct7 (eCommittee x)) 432) ∧ Below w.heap.size w w' := by
  have HX := hid hx
  obtain ⟨W0, hW0⟩ : ∃ W, w.alloc (.cells (cel (sCommittee x)) 47) = W := ⟨_, rfl⟩
  have hB0 : Below w.heap.size w W0 := by rw [← hW0]; exact (Below.refl _ _).alloc (Nat.le_refl _) _
  have r0 : W0.heap[w.heap.size]? = some (.cells (cel (sCommittee x)) 47) := by rw [← hW0]; exact heap_new rfl
  have z0 : w.heap.size < W0.heap.size := by rw [← hW0]; simp
  obtain ⟨y, ey⟩ : ∃ y, w.heap.size = y := ⟨_, rfl⟩
  have hry : ∀ X, Below W0.heap.size W0 X → X.heap[y]? = some (.cells (cel (sCommittee x)) 47) := fun X h => by rw [← ey]; exact (h.block _ z0).trans r0
  have HK : Hid (∀ X, Below W0.heap.size W0 X → ∀ k, k < 8 → Bys X (some ⟨y, k * 48, none⟩) 48 48 (fun q => x.f0.f0 (48 * k + q))) := fun X h k hk => key_bys (hry X h) k hk
  have HB1 : Hid (∀ X, Below W0.heap.size W0 X → Bys X (some ⟨y, 384, none⟩) 48 48 x.f1) := fun X h => seg_bys (hry X h) 1 48 x.f1 rfl 384 rfl (by omega)
  have S0 := hid (Below.refl W0.heap.size W0)
  have HB0w := hid hB0
  have EY := hid ey
  clear hB0 r0 hry hx
  go_enter Tryd.func53, Tryd.ntmps53
  go_upto_region 6 with fail
  clear hW0 ey z0
  obtain ⟨f, ef⟩ : ∃ f, x.f0.f0 = f := ⟨_, rfl⟩
  rw [ef] at HK
  have EF := hid ef
  clear ef
  go_loopw [5, 7] (fun v i wr => ∃ k : Nat, k ≤ 8 ∧ i = .int .i64 k ∧ wr.ownsRow W0.heap.size 5 1 v (48 * k) (bl f (48 * k)) ∧ Below W0.heap.size W0 wr) (fun _ i _ => 8 - (intOf i).toNat)
  case atStart => exact ⟨0, by omega, rfl, World.ownsRow_nil _ _ _ _, Below.refl _ _⟩
  case round =>
    obtain ⟨k, hk, rfl, hown, hb⟩ := hrel
    by_cases hlt : k < 8
    · have bq : decide (k < 8) = true := by simp; omega
      have k1 : (k : Int) < 8 := by omega
      have k2 : (0 : Int) ≤ (k : Int) := by omega
      have hz := hb.size
      obtain ⟨c, ec⟩ : ∃ c : Nat → Int, (fun q => f (48 * k + q)) = c := ⟨_, rfl⟩
      have HKK : Hid (∀ X, Below W0.heap.size W0 X → Bys X (some ⟨y, k * 48, none⟩) 48 48 c) := fun X h => by rw [← ec]; exact HK.out X h k hlt
      have HO := hid hown
      have HB := hid hb
      have EC := hid ec
      clear hown hb ec
      go_wp2_with (first
        | (at_builtin; refine wpList_append_bys w8 rfl _ _ rfl W0.heap.size _ (48 * k) (bl f (48 * k)) rfl (ownsRow_below HO.out HB8.out) a8 48 c8 c rfl HR8.out (by omega) (by have := HB8.out.size; omega) ?_; intro v9 w9 ho9 hg9)
        | (at_builtin; refine wpList_append_bys _ rfl _ _ rfl wr.heap.size _ 0 [] rfl (World.ownsRow_made _ #[] 0 (Nat.le_refl _) (Nat.zero_le _) rfl) _ 48 48 c rfl (HKK.out _ (HB.out.alloc hz _)) (by omega) (by simp) ?_; intro v8 w8 ho8 hg8; rw [Nat.zero_add, List.nil_append] at ho8; have HB8 := hid (below_grown ((Below.refl wr.heap.size wr).alloc (Nat.le_refl _) (.cells #[] 5)) (World.ownsRow_made _ #[] 0 (Nat.le_refl _) (Nat.zero_le _) rfl) (by simp) hg8); obtain ⟨a8, c8, rfl, hr8⟩ := own_at ho8; have HR8 := hid hr8; clear ho8 hg8 hr8))
      go_roundw
      case rel =>
        refine ⟨k + 1, by omega, by go_num, ?_, below_grown (HB.out.trans (HB8.out.mono hz)) (ownsRow_below HO.out HB8.out) (by have := HB8.out.size; omega) hg9⟩
        rw [← EC.out, bl_join f (48 * k) 48] at ho9
        exact ho9
      case measure => simp [intOf]; omega
    · obtain rfl : k = 8 := by omega
      have bq : decide (8 < 8) = false := by decide
      obtain ⟨a1, c1, rfl, hr1⟩ := own_at (show wr.ownsRow W0.heap.size 5 1 _ 384 (bl f 384) from hown)
      replace hr1 : Bys wr a1 384 c1 (ct7 (eKeys x.f0)) := by
        rw [← EF.out] at hr1
        rcases hr1 with ⟨_, h, _⟩ | ⟨_, _, h⟩ | ⟨b, off, h1, h2, h3, h4, h5⟩
        · omega
        · omega
        · exact .inr (.inr ⟨b, off, h1, h2, h3, h4, fun j hj => by rw [h5 j hj]; exact congrArg (fun z => some (Value.int .u8 z)) (if_pos hj).symm⟩)
      have hb1 := hb
      clear hown hb bq hk hlt
      have S1 := hid (S0.out.trans (hb1.mono S0.out.size))
      have R0 := hid (show ∀ X, Below wr.heap.size wr X → Bys X a1 384 c1 (ct7 (eKeys x.f0)) from fun X h => hr1.below h)
      clear hb1 hr1
      go_upto_region 12 with (at_builtin; refine wpList_append_bys _ rfl _ _ rfl wr.heap.size _ 0 [] rfl (World.ownsRow_made _ #[] 0 (Nat.le_refl _) (Nat.zero_le _) rfl) _ 48 48 x.f1 rfl (HB1.out _ (S1.out.alloc S1.out.size _)) (by omega) (by simp) ?_; intro v2 X2 ho2 hg2; rw [Nat.zero_add, List.nil_append] at ho2)
      have hb2 := below_grown ((Below.refl wr.heap.size wr).alloc (Nat.le_refl _) (.cells #[] 5)) (World.ownsRow_made _ #[] 0 (Nat.le_refl _) (Nat.zero_le _) rfl) (by simp) hg2
      obtain ⟨a2, c2, rfl, hr2⟩ := own_at ho2
      clear hg2 ho2
      have S2 := hid (S1.out.trans (hb2.mono S1.out.size))
      have K1 := hid (show Below wr.heap.size wr X2 from hb2)
      have R1 := hid (show ∀ X, Below X2.heap.size X2 X → Bys X a2 48 c2 (x.f1) from fun X h => hr2.below h)
      clear hb2 hr2
      obtain ⟨ps, eps⟩ : ∃ ps : List Pt, ([(a1, 384, c1, ct7 (eKeys x.f0)), (a2, 48, c2, x.f1)] : List Pt) = ps := ⟨_, rfl⟩
      obtain ⟨Y1, hY1⟩ : ∃ Y, X2.alloc (.cells (ps.map ptv).toArray 39) = Y := ⟨_, rfl⟩
      obtain ⟨Y2, hY2⟩ : ∃ Y, Y1.alloc (.cells (vs .i64 2 zCommittee) 3) = Y := ⟨_, rfl⟩
      have hy1 : Below X2.heap.size X2 Y1 := by rw [← hY1]; exact (Below.refl _ _).alloc (Nat.le_refl _) _
      have hy2 : Below X2.heap.size X2 Y2 := by rw [← hY2]; exact hy1.alloc hy1.size _
      have g1 : Y2.heap[X2.heap.size]? = some (.cells (ps.map ptv).toArray 39) := by
        rw [← hY2, ← hY1]
        exact (heap_old (by simp)).trans (heap_new rfl)
      have g2 : Y2.heap[Y1.heap.size]? = some (.cells (vs .i64 2 zCommittee) 3) := by rw [← hY2]; exact heap_new rfl
      have bs1 := bsP_2 X2 (a1, 384, c1, ct7 (eKeys x.f0)) (a2, 48, c2, x.f1)
      have bs2 := bsI_Committee Y1
      have hla := rlay7 ps zCommittee 2 X2.heap.size Y1.heap.size Y2 (by rw [← eps]; rfl) g1 g2 (fun r hr => by
        rw [← eps]
        rcases (by omega : r = 0 ∨ r = 1) with rfl | rfl
        · exact R0.out _ (K1.out.trans (hy2.mono K1.out.size))
        · exact R1.out _ hy2
        ) (fun r hr => by
        rw [← eps]
        rcases (by omega : r = 0 ∨ r = 1) with rfl | rfl
        all_goals exact ⟨rfl, Nat.le_of_ble_eq_true rfl, Nat.le_of_ble_eq_true rfl⟩) (by omega) (by omega) (by rw [← eps]; exact Nat.le_of_ble_eq_true rfl)
      have e1 : ln7 (ps.map ptb) = 432 := by rw [← eps]; rfl
      have e2 : ct7 (ps.map ptb) = ct7 (eCommittee x) := by rw [← eps]; rfl
      rw [e1, e2] at hla
      rw [eps, hY1] at bs1
      rw [hY2] at bs2
      obtain ⟨u1, eu1⟩ : ∃ u, X2.heap.size = u := ⟨_, rfl⟩
      obtain ⟨u2, eu2⟩ : ∃ u, Y1.heap.size = u := ⟨_, rfl⟩
      rw [eu1] at bs1 hla
      rw [eu2] at bs2 hla
      replace bs1 : (bsP 2 #[(0, Value.slice a1 384 c1), (1, Value.slice a2 48 c2)]).run Tryd.prog X2 = .ok (.slice (some ⟨u1, 0, none⟩) 2 2) Y1 := bs1
      have HLA := hid hla
      have HY2 := hid hy2
      clear hla hy1 hy2 g1 g2 e1 e2 eps hY1 hY2 eu1 eu2
      go_wp2_with (go_at_call 54; refine HLA.out.mono ?_; rintro e Y ⟨v, rfl, ho, hbY⟩)
      go_ret2
      have e0 := EY.out
      have e1 := HB0w.out.size
      have e2 := S2.out.size
      have e3 := HY2.out.size
      exact ⟨v, rfl, (ho.mono (by omega) : _), HB0w.out.trans ((S2.out.mono (by omega)).trans ((HY2.out.mono (by omega)).trans (hbY.mono (by omega))))⟩

end Go.Proofs.YtficlakgameglaaDoor

namespace Go.Proofs.YtficlakgameglaaDoor

open Go.RowKit

set_option linter.unusedVariables false

set_option linter.unusedSimpArgs false

theorem lst_ks {H : Type} {enc : TypeId × Value → H} {P : Program} {w : World} {b0 fuel : Nat} {sp : Nat → Bool} {held : Bool} {t e e8 : TypeId} {cs : List Value} {x : DataW H × List MemPlace}
    (ht : P.underlying t = some (.array 8 e)) (hk : P.underlying e = some (.array 48 e8)) (he : P.underlying e8 = some (.int .u8)) (hck : P.cellsOf e = 48) (hce : P.cellsOf e8 = 1) (hl : cs.length = 384) (h : DataW.trod enc P w b0 sp held fuel t cs = some x) :
    ∃ f : Nat → Int, cs = (List.range 384).map (fun j => Value.int .u8 (f j)) ∧ ∀ j, j < 384 → 0 ≤ f j ∧ f j < 256 := by
  obtain ⟨xs, m, rfl, _, _, hxl, hat⟩ := DataW.trod_array ht h
  have hcell : ∀ q, q < 384 → ∃ z : Int, cs[q]? = some (.int .u8 z) ∧ 0 ≤ z ∧ z < 256 := by
    intro q hq
    have ha := hat (q / 48) (by omega)
    rw [List.getElem?_eq_getElem (by omega), hck] at ha
    obtain ⟨g, hc, hb⟩ := lst_by hk he hce (by rw [List.length_take, List.length_drop, hl]; omega) ha
    refine ⟨g (q % 48), ?_, hb _ (by omega)⟩
    have := congrArg (·[q % 48]?) hc
    simp only [List.getElem?_take, List.getElem?_drop] at this
    rw [if_pos (by omega), List.getElem?_map, List.getElem?_range (by omega)] at this
    exact (congrArg (fun i => cs[i]?) (show q = q / 48 * 48 + q % 48 by omega)).trans this
  refine ⟨byteOf cs.toArray, ?_, fun j hj => ?_⟩
  · apply List.ext_getElem?
    intro i
    rw [List.getElem?_map]
    by_cases hi : i < 384
    · obtain ⟨z, hz, _⟩ := hcell i hi
      rw [List.getElem?_range hi, hz]
      show some _ = some (Value.int .u8 (byteOf cs.toArray i))
      unfold byteOf
      rw [List.getElem?_toArray, hz]
    · rw [List.getElem?_eq_none (by omega), List.getElem?_eq_none (by simpa using hi)]
      rfl
  · obtain ⟨z, hz, hb⟩ := hcell j hj
    unfold byteOf
    rw [List.getElem?_toArray, hz]
    exact hb

end Go.Proofs.YtficlakgameglaaDoor
