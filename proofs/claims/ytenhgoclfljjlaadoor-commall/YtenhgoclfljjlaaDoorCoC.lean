/-
  What the containers of layer 7 share.
-/

import Derived.Test.YtenhgoclfljjlaaDoorCoA
import Derived.Test.YtenhgoclfljjlaaDoorCoB
import Derived.Test.YtenhgoclfljjlaaDoorZaI
import Derived.ChangeArms

import Derived.OpenShut

import Derived.WideShapes

namespace Go.Proofs.YtenhgoclfljjlaaDoor

open Go.RowKit

set_option linter.unusedVariables false

set_option linter.unusedSimpArgs false

attribute [local go_sem ↓] sv24_eq lv24_eq ix22_eq slr_eq bd27_eq bs22_eq

end Go.Proofs.YtenhgoclfljjlaaDoor

namespace Go.Proofs.YtenhgoclfljjlaaDoor

open Go.RowKit

set_option linter.unusedVariables false

set_option linter.unusedSimpArgs false

attribute [local go_sem ↓] sv24_eq lv24_eq ix22_eq slr_eq bd27_eq bs22_eq

attribute [local go_sem ↓] sv8_eq

end Go.Proofs.YtenhgoclfljjlaaDoor

namespace Go.Proofs.YtenhgoclfljjlaaDoor

open Go.RowKit

set_option linter.unusedVariables false

set_option linter.unusedSimpArgs false

end Go.Proofs.YtenhgoclfljjlaaDoor

namespace Go.Proofs.YtenhgoclfljjlaaDoor

open Go.RowKit

set_option linter.unusedVariables false

set_option linter.unusedSimpArgs false

attribute [local go_sem ↓] sv24_eq lv24_eq ix22_eq slr_eq bd27_eq bs22_eq bsI_eq lvCheckpoint_eq

end Go.Proofs.YtenhgoclfljjlaaDoor

namespace Go.Proofs.YtenhgoclfljjlaaDoor

open Go.RowKit

set_option linter.unusedVariables false

set_option linter.unusedSimpArgs false

end Go.Proofs.YtenhgoclfljjlaaDoor

namespace Go.Proofs.YtenhgoclfljjlaaDoor

open Go.RowKit

set_option linter.unusedVariables false

set_option linter.unusedSimpArgs false

namespace Z

theorem or_up (hi l : Int) (s : Nat) (hh : 0 ≤ hi) (hl : 0 ≤ l) (hl' : l < 2 ^ s) (h : hi * 2 ^ s + l < 18446744073709551616) :
    bits .or .u64 (hi * 2 ^ s) l = hi * 2 ^ s + l := by
  obtain ⟨hi, rfl⟩ := Int.eq_ofNat_of_zero_le hh
  obtain ⟨l, rfl⟩ := Int.eq_ofNat_of_zero_le hl
  have ep : ((2 ^ s : Nat) : Int) = (2 : Int) ^ s := by simp
  have e : (hi : Int) * 2 ^ s = ((2 ^ s * hi : Nat) : Int) := by rw [Int.natCast_mul, ep, Int.mul_comm]
  rw [e] at h ⊢
  rw [← ep] at hl'
  rw [or_nat s hi l (by omega) (by omega)]
  omega

theorem or_low (A z : Int) (hA : 0 ≤ A) (hz : 0 ≤ z) (hz' : z ≤ 255) (h : A * 256 + z < 18446744073709551616) : bits .or .u64 (A * 256) z = A * 256 + z := by
  have := or_up A z 8 hA hz (by omega) (by omega)
  exact this

set_option maxHeartbeats 1000000 in
theorem rRead8 (b off cap : Nat) (z0 z1 z2 z3 z4 z5 z6 z7 : Int) (w : World) (c0 : w.cell? ⟨b, off, none⟩ = some (.int .u8 z0)) (p0 : 0 ≤ z0) (q0 : z0 ≤ 255) (c1 : w.cell? ⟨b, off + 1, none⟩ = some (.int .u8 z1)) (p1 : 0 ≤ z1) (q1 : z1 ≤ 255) (c2 : w.cell? ⟨b, off + 2, none⟩ = some (.int .u8 z2)) (p2 : 0 ≤ z2) (q2 : z2 ≤ 255) (c3 : w.cell? ⟨b, off + 3, none⟩ = some (.int .u8 z3)) (p3 : 0 ≤ z3) (q3 : z3 ≤ 255) (c4 : w.cell? ⟨b, off + 4, none⟩ = some (.int .u8 z4)) (p4 : 0 ≤ z4) (q4 : z4 ≤ 255) (c5 : w.cell? ⟨b, off + 5, none⟩ = some (.int .u8 z5)) (p5 : 0 ≤ z5) (q5 : z5 ≤ 255) (c6 : w.cell? ⟨b, off + 6, none⟩ = some (.int .u8 z6)) (p6 : 0 ≤ z6) (q6 : z6 ≤ 255) (c7 : w.cell? ⟨b, off + 7, none⟩ = some (.int .u8 z7)) (p7 : 0 ≤ z7) (q7 : z7 ≤ 255) :
    Calls Tryd.prog 49 #[.slice (some ⟨b, off, none⟩) 8 cap] w fun e w' => e = .returned (.tuple #[.int .u64 (num8 z0 z1 z2 z3 z4 z5 z6 z7), .int .i64 0]) ∧ w' = w := by
  have o7 : bits .or .u64 0 z7 = z7 := or_zero z7 p7 (by omega)
  obtain ⟨H6, e6⟩ : ∃ H, z7 * 256 + z6 = H := ⟨_, rfl⟩
  have o6 : bits .or .u64 (z7 * 256) z6 = H6 := (or_low z7 z6 (by omega) (by omega) (by omega) (by omega)).trans e6
  obtain ⟨H5, e5⟩ : ∃ H, H6 * 256 + z5 = H := ⟨_, rfl⟩
  have o5 : bits .or .u64 (H6 * 256) z5 = H5 := (or_low H6 z5 (by omega) (by omega) (by omega) (by omega)).trans e5
  obtain ⟨H4, e4⟩ : ∃ H, H5 * 256 + z4 = H := ⟨_, rfl⟩
  have o4 : bits .or .u64 (H5 * 256) z4 = H4 := (or_low H5 z4 (by omega) (by omega) (by omega) (by omega)).trans e4
  obtain ⟨H3, e3⟩ : ∃ H, H4 * 256 + z3 = H := ⟨_, rfl⟩
  have o3 : bits .or .u64 (H4 * 256) z3 = H3 := (or_low H4 z3 (by omega) (by omega) (by omega) (by omega)).trans e3
  obtain ⟨H2, e2⟩ : ∃ H, H3 * 256 + z2 = H := ⟨_, rfl⟩
  have o2 : bits .or .u64 (H3 * 256) z2 = H2 := (or_low H3 z2 (by omega) (by omega) (by omega) (by omega)).trans e2
  obtain ⟨H1, e1⟩ : ∃ H, H2 * 256 + z1 = H := ⟨_, rfl⟩
  have o1 : bits .or .u64 (H2 * 256) z1 = H1 := (or_low H2 z1 (by omega) (by omega) (by omega) (by omega)).trans e1
  obtain ⟨H0, e0⟩ : ∃ H, H1 * 256 + z0 = H := ⟨_, rfl⟩
  have o0 : bits .or .u64 (H1 * 256) z0 = H0 := (or_low H1 z0 (by omega) (by omega) (by omega) (by omega)).trans e0
  have en : H0 = num8 z0 z1 z2 z3 z4 z5 z6 z7 := by unfold num8; omega
  have EN := hid en
  have b6 : 0 ≤ H6 ∧ H6 < 65536 := by omega
  have b5 : 0 ≤ H5 ∧ H5 < 16777216 := by omega
  have b4 : 0 ≤ H4 ∧ H4 < 4294967296 := by omega
  have b3 : 0 ≤ H3 ∧ H3 < 1099511627776 := by omega
  have b2 : 0 ≤ H2 ∧ H2 < 281474976710656 := by omega
  have b1 : 0 ≤ H1 ∧ H1 < 72057594037927936 := by omega
  clear en e0 e1 e2 e3 e4 e5 e6
  go_enter Tryd.func49, Tryd.ntmps49
  go_wp2
  go_rounds 9
  go_ret2
  exact ⟨ret2 EN.out rfl, rfl⟩

end Z

end Go.Proofs.YtenhgoclfljjlaaDoor

namespace Go.Proofs.YtenhgoclfljjlaaDoor

open Go.RowKit

set_option linter.unusedVariables false

set_option linter.unusedSimpArgs false

end Go.Proofs.YtenhgoclfljjlaaDoor

namespace Go.Proofs.YtenhgoclfljjlaaDoor

open Go.RowKit

set_option linter.unusedVariables false

set_option linter.unusedSimpArgs false

end Go.Proofs.YtenhgoclfljjlaaDoor

namespace Go.Proofs.YtenhgoclfljjlaaDoor

open Go.RowKit

set_option linter.unusedVariables false

set_option linter.unusedSimpArgs false

theorem lst_by {H : Type} {enc : TypeId × Value → H} {P : Program} {w : World} {b0 fuel : Nat} {sp : Nat → Bool} {held : Bool} {t e : TypeId} {n : Nat} {cs : List Value} {x : DataW H × List MemPlace}
    (ht : P.underlying t = some (.array n e)) (he : P.underlying e = some (.int .u8)) (hce : P.cellsOf e = 1) (hl : cs.length = n) (h : DataW.trod enc P w b0 sp held fuel t cs = some x) :
    ∃ f : Nat → Int, cs = (List.range n).map (fun j => Value.int .u8 (f j)) ∧ ∀ j, j < n → 0 ≤ f j ∧ f j < 256 := by
  obtain ⟨xs, m, rfl, _, _, hxl, hat⟩ := DataW.trod_array ht h
  have hcell : ∀ i, i < n → ∃ z, cs[i]? = some (.int .u8 z) ∧ (Lit.int .u8 z).wf = true := by
    intro i hi
    have ha := hat i hi
    rw [List.getElem?_eq_getElem (by omega)] at ha
    obtain ⟨z, hc, _, hwf⟩ := DataW.trod_int he ha
    refine ⟨z, ?_, hwf⟩
    have := congrArg (·[0]?) hc
    simpa [hce, List.getElem?_take, List.getElem?_drop] using this
  refine ⟨byteOf cs.toArray, ?_, fun j hj => ?_⟩
  · apply List.ext_getElem?
    intro i
    rw [List.getElem?_map]
    by_cases hi : i < n
    · obtain ⟨z, hz, _⟩ := hcell i hi
      rw [List.getElem?_range hi, hz]
      show some _ = some (Value.int .u8 (byteOf cs.toArray i))
      unfold byteOf
      rw [List.getElem?_toArray, hz]
    · rw [List.getElem?_eq_none (by omega), List.getElem?_eq_none (by simpa using hi)]
      rfl
  · obtain ⟨z, hz, hwf⟩ := hcell j hj
    have := bounds_u8 hwf
    unfold byteOf
    rw [List.getElem?_toArray, hz]
    show 0 ≤ z ∧ z < 256
    omega

theorem cut_list (l : List Value) (o k : Nat) : l.drop o = (l.drop o).take k ++ l.drop (o + k) := by
  have := (List.take_append_drop k (l.drop o)).symm
  rw [List.drop_drop] at this
  exact this

theorem open_str {H : Type} {enc : TypeId × Value → H} {P : Program} {W w : World} {r : Reach} {base b0 : Nat} {sp : Nat → Bool} {held : Bool} {t : TypeId} {fs : Array Field} {v : Value} {d : DataW H} {p : List MemPlace}
    (ht : P.underlying t = some (.struct fs)) (hv : Value.okWide P W r base t v) (h : DataW.Trod enc P w b0 sp held t v d p) :
    ∃ cs : Array Value, v = .agg cs ∧ cs.size = P.cellsOf t ∧ ∃ (xs : List (DataW H × List MemPlace)) (n : Nat), xs.length = fs.size ∧ ∀ (i : Nat) (f : Field), fs[i]? = some f → DataW.trod enc P w b0 sp held n f.type ((cs.toList.drop f.offset).take (P.cellsOf f.type)) = xs[i]? := by
  unfold Value.okWide at hv
  rw [ht] at hv
  obtain ⟨cs, rfl, hs, _⟩ := hv
  obtain ⟨fuel, hf⟩ := h
  obtain ⟨xs, n, _, _, hl, hxl, hat⟩ := DataW.trod_struct ht hf
  exact ⟨cs, rfl, hs, xs, n, hxl, hat⟩

end Go.Proofs.YtenhgoclfljjlaaDoor

namespace Go.Proofs.YtenhgoclfljjlaaDoor

open Go.RowKit

set_option linter.unusedVariables false

set_option linter.unusedSimpArgs false

end Go.Proofs.YtenhgoclfljjlaaDoor

namespace Go.Proofs.YtenhgoclfljjlaaDoor

open Go.RowKit

set_option linter.unusedVariables false

set_option linter.unusedSimpArgs false

end Go.Proofs.YtenhgoclfljjlaaDoor
