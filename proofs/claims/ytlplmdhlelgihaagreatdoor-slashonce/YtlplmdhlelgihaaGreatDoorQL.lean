/-
  Keys in a row, and what the reference's Sum answers.
  What the reference's Proposer answers.
  What the program's functions of layer 15 have to answer, and the statements' own alone and awake.
  Committees compared.
  Lists of a copied state changed cell by cell.
  What changes of a copied state do; who proposes in states that differ where it does not matter.
  What SignDomains and SignRoots answer, by what the program's functions answer.
-/
import Derived.Test.YtlplmdhlelgihaaGreatDoorQI
import Derived.Test.YtlplmdhlelgihaaGreatDoorQF
import Derived.Test.YtlplmdhlelgihaaGreatDoorQE
import Derived.Test.YtlplmdhlelgihaaGreatDoorPkB
import Derived.Test.YtlplmdhlelgihaaGreatDoorQG
import Derived.Test.YtlplmdhlelgihaaGreatDoorLkR
import Derived.Test.YtlplmdhlelgihaaGreatDoorVfC
import Derived.Test.YtlplmdhlelgihaaGreatDoorStP
import Derived.Deep.Cut

import Derived.DeepKeys

namespace Go.Proofs.YtlplmdhlelgihaaGreatDoor

open Go.RowKit

set_option linter.unusedVariables false

set_option linter.unusedSimpArgs false

set_option maxRecDepth 20000

/-- The place of a key in a slice. -/
def ixKy (x i : Value) : Sem Value := Instr.indexAt 91 x i

theorem ixKy_eq (x i : Value) : Instr.indexAt 91 x i = ixKy x i := rfl

def lvKy (a : Addr) : Sem Value := loadVar 44 a

theorem lvKy_eq (a : Addr) : loadVar 44 a = lvKy a := rfl

attribute [local go_sem ↓] ixKy_eq lvKy_eq svKy_eq sv24_eq lv24_eq

end Go.Proofs.YtlplmdhlelgihaaGreatDoor

namespace Go.Proofs.YtlplmdhlelgihaaGreatDoor

open Go.RowKit

set_option linter.unusedVariables false

set_option linter.unusedSimpArgs false

set_option maxRecDepth 20000

attribute [local go_sem ↓] lvState_eq svState_eq bdState_eq lvValidator_eq svValidator_eq ixValidator_eq sv24_eq lv24_eq sv8_eq

/-- Who proposes. -/
def prS (x : VState) : Nat → Int := shaV KW HW (sd8 (seedV x (x.f2 / 4) 0) x.f2) 40

def prL (x : VState) : List Int := dwL x.f11.z (acE x (x.f2 / 4)) (prS x) 1

def prE (x : VState) : Int := dwE x.f11.z (acE x (x.f2 / 4)) (prS x) 1

def prV (x : VState) : Int := (prL x).getD 0 0

theorem dw_one (z : Nat → VValidator) (L : List Int) (s : Nat → Int) (want : Nat) : (dwE z L s want = 0 ∧ (dwL z L s want).length = want ∧ ∀ v ∈ dwL z L s want, v ∈ L) ∨ (dwE z L s want = 7 ∧ dwL z L s want = []) := by
  unfold dwE dwL
  by_cases h : dwO z L s want = true
  · rw [if_pos h, if_pos h]
    unfold dwO at h
    rw [Bool.and_eq_true, decide_eq_true_eq, decide_eq_true_eq] at h
    exact .inl ⟨rfl, by rw [List.length_take]; omega, fun v hv => drL_mem z L s h.1 256 v (List.mem_of_mem_take hv)⟩
  · rw [if_neg h, if_neg h]
    exact .inr ⟨rfl, rfl⟩

end Go.Proofs.YtlplmdhlelgihaaGreatDoor

namespace Go.Proofs.YtlplmdhlelgihaaGreatDoor

open Go.RowKit

set_option linter.unusedVariables false

set_option linter.unusedSimpArgs false

set_option maxRecDepth 100000

/-- Where all have the greatest balance each try takes its candidate. -/
theorem drL_rich {z : Nat → VValidator} {L : List Int} {s : Nat → Int} (hL : L ≠ []) (h : ∀ v ∈ L, (z v.toNat).f2 = 32000000000) : ∀ i, drL z L s (i + 1) = drL z L s i ++ [cdV L s i] := fun i => by
  have hb := lotV_bd s i
  have hc : cdV L s i ∈ L := mbr_mem L s (Nat.mod_lt _ (List.length_pos_iff.2 hL))
  have ht : tkB z L s i = true := by
    unfold tkB
    rw [h _ hc, decide_eq_true_eq]
    omega
  show (if tkB z L s i = true then drL z L s i ++ [cdV L s i] else drL z L s i) = _
  rw [if_pos ht]

theorem drL_full {z : Nat → VValidator} {L : List Int} {s : Nat → Int} (hL : L ≠ []) (h : ∀ v ∈ L, (z v.toNat).f2 = 32000000000) : ∀ i, (drL z L s i).length = i
  | 0 => rfl
  | i + 1 => by rw [drL_rich hL h i, List.length_append, drL_full hL h i]; rfl

theorem dw_rich {z : Nat → VValidator} {L : List Int} {s : Nat → Int} {want : Nat} (hL : L ≠ []) (h : ∀ v ∈ L, (z v.toNat).f2 = 32000000000) (hw : want ≤ 256) : dwE z L s want = 0 ∧ dwL z L s want = drL z L s want :=
  have k := dw_hit (z := z) (s := s) hL hw (drL_full hL h want)
  ⟨k.2, k.1⟩

/-- What the program's functions have to answer. -/
def PProp : Prop := ∀ (x : VState) (w : World), OkState x → Lk w x → Sh w → Calls Tryz.prog 29 #[.agg (cel (sState x))] w fun e' w' => e' = .returned (.tuple #[.int .u64 (prV x), .int .i64 (prE x)]) ∧ Below w.heap.size w w'

/-- A state with one validator, that is active. -/
def X2 (g1 g2 g3 g4 g5 : Nat) : VState := { oState with f11 := ⟨some ⟨g1, 0, none⟩, 1, 1, fun _ => oV2⟩, f12 := ⟨some ⟨g2, 0, none⟩, 1, 1, fun _ => 0⟩, f15 := ⟨some ⟨g3, 0, none⟩, 1, 1, fun _ => 0⟩, f16 := ⟨some ⟨g4, 0, none⟩, 1, 1, fun _ => 0⟩, f21 := ⟨some ⟨g5, 0, none⟩, 1, 1, fun _ => 0⟩ }

theorem bd_x2 (W : World) (g1 g2 g3 g4 g5 : Nat) : (bdState #[(11, .slice (some ⟨g1, 0, none⟩) 1 1), (12, .slice (some ⟨g2, 0, none⟩) 1 1), (15, .slice (some ⟨g3, 0, none⟩) 1 1), (16, .slice (some ⟨g4, 0, none⟩) 1 1), (21, .slice (some ⟨g5, 0, none⟩) 1 1)]).run Tryz.prog W = .ok (.agg (cel (sState (X2 g1 g2 g3 g4 g5)))) W := by kernel_rfl

theorem range_x2 {w : World} {g : Nat} {t : TypeId} (h : w.heap[g]? = some (.cells (cel (sValidator oV2)) t)) : w.rangeAt g 0 (celL (sValidator oV2)) := by
  intro j v hj
  rw [Nat.zero_add, row_cell h, ← hj]
  exact List.getElem?_toArray ..

theorem ok_x2 (g1 g2 g3 g4 g5 : Nat) : OkState (X2 g1 g2 g3 g4 g5) := by
  have z : (0 : Int) ≤ 0 ∧ (0 : Int) < 256 := by decide
  have zz : (0 : Int) ≤ 0 ∧ (0 : Int) < 18446744073709551616 := by decide
  have h := okCz
  exact ⟨h.o0, h.o1, h.o2, h.o3, h.o4, h.o5, h.o6, h.o7, h.o8, h.o9, h.o10, fun _ _ => okV2, fun _ _ => zz, h.o13, h.o14, fun _ _ => z, fun _ _ => z, h.o18, h.o19, h.o20, fun _ _ => zz, h.o22, h.o23⟩

theorem setRow_other {w : World} {b k : Nat} {C : Array Value} (h : k ≠ b) : (w.setRow b C).heap[k]? = w.heap[k]? := by
  simp only [World.setRow, Array.getElem?_modify]
  rw [if_neg (fun e => h e.symm)]

attribute [local go_sem ↓] lvState_eq svState_eq bdState_eq lvValidator_eq svValidator_eq ixValidator_eq bvV_eq bsV_eq

end Go.Proofs.YtlplmdhlelgihaaGreatDoor

namespace Go.Proofs.YtlplmdhlelgihaaGreatDoor

open Go.RowKit

set_option linter.unusedVariables false

set_option linter.unusedSimpArgs false

set_option maxRecDepth 20000

theorem lits_u8 (d : Nat) (c : Int) (h : 0 ≤ c ∧ c < 256) : Tryz.prog.keyLits (d + 1) 5 [.int .u8 c] = some [.int .u8 c] := by
  have hw : (Lit.int .u8 c).wf = true := by
    have : IntKind.u8.min = 0 ∧ IntKind.u8.max = 255 := by decide
    simp [Lit.wf, this]
    omega
  simp [Program.keyLits, Tryz.underlying5, hw]

/-- The bytes of a row, from a place on. -/
theorem bl_part (f : Nat → Int) (n o k : Nat) (h : o + k ≤ n) : ((bl f n).drop o).take k = bl (fun j => f (o + j)) k := by
  apply List.ext_getElem?
  intro j
  rw [List.getElem?_take]
  by_cases hj : j < k
  · rw [if_pos hj, List.getElem?_drop]
    unfold bl
    rw [List.getElem?_map, List.getElem?_range (by omega), List.getElem?_map, List.getElem?_range hj]
    rfl
  · rw [if_neg hj]
    unfold bl
    rw [List.getElem?_eq_none (by simp; omega)]

end Go.Proofs.YtlplmdhlelgihaaGreatDoor

namespace Go.Proofs.YtlplmdhlelgihaaGreatDoor

open Go.RowKit

set_option linter.unusedVariables false

set_option linter.unusedSimpArgs false

set_option maxRecDepth 20000

/-- A cell of an own row changed. -/
theorem ownSetC {w : World} {B k g n cap : Nat} {t : TypeId} {xs : List Value} (h : w.ownsRow B t k (.slice (some ⟨g, 0, none⟩) n cap) n xs) (i : Nat) (hi : i < n * k) (v : Value) : (w.setCell ⟨g, i, none⟩ v).ownsRow B t k (.slice (some ⟨g, 0, none⟩) n cap) n (xs.set i v) := by
  refine ⟨by rw [List.length_set]; exact h.1, ?_⟩
  rcases h.2 with ⟨e, _⟩ | ⟨g', cap', cur, e, h1, h2, h3, h4, h5, h6⟩
  · cases e
  · cases e
    refine .inr ⟨g, cap, cur.setIfInBounds i v, rfl, h1, row_set h2 i v, h3, h4, by rw [Array.size_setIfInBounds]; exact h5, ?_⟩
    rw [← h6]
    apply List.ext_getElem?
    intro j
    rw [List.getElem?_take, Array.getElem?_toList, Array.getElem?_setIfInBounds]
    have hs : i < cur.size := by
      rw [h5]
      exact Nat.lt_of_lt_of_le hi (Nat.mul_le_mul_right _ h3)
    by_cases hj : j < n * k
    · rw [if_pos hj, List.getElem?_set]
      by_cases hji : i = j
      · subst hji
        rw [if_pos rfl, if_pos rfl, if_pos hs, if_pos (by rw [List.length_take, Array.length_toList]; omega)]
      · rw [if_neg hji, if_neg hji, List.getElem?_take, if_pos hj, Array.getElem?_toList]
    · rw [if_neg hj, List.getElem?_eq_none (by rw [List.length_set, List.length_take]; omega)]

theorem flat_set {e : Nat → List Value} {k : Nat} (h : ∀ i, (e i).length = k) (n i p : Nat) (hi : i < n) (hp : p < k) (v : Value) : (flat e n).set (i * k + p) v = flat (fun j => if j = i then (e i).set p v else e j) n := by
  have h' : ∀ j, ((fun j => if j = i then (e i).set p v else e j) j).length = k := fun j => by
    show (if j = i then (e i).set p v else e j).length = k
    by_cases hj : j = i
    · rw [if_pos hj, List.length_set]; exact h i
    · rw [if_neg hj]; exact h j
  apply List.ext_getElem?
  intro q
  rw [List.getElem?_set]
  by_cases hq : q < n * k
  · have hk : 0 < k := by omega
    have hd : q / k < n := Nat.div_lt_of_lt_mul (by rw [Nat.mul_comm]; exact hq)
    have hm : q % k < k := Nat.mod_lt _ hk
    have e1 : q / k * k + q % k = q := by rw [Nat.mul_comm]; exact Nat.div_add_mod q k
    have f1 := flat_at h (q / k) (q % k) hm n hd
    have f2 := flat_at h' (q / k) (q % k) hm n hd
    rw [e1] at f1 f2
    rw [f2]
    by_cases hqi : i * k + p = q
    · have hq1 : q / k = i := by
        rw [← hqi, Nat.mul_comm i k, Nat.mul_add_div hk, Nat.div_eq_of_lt hp, Nat.add_zero]
      have hq2 : q % k = p := by
        rw [← hqi, Nat.mul_comm i k, Nat.mul_add_mod, Nat.mod_eq_of_lt hp]
      rw [if_pos hqi, hq1, hq2]
      show _ = (if i = i then (e i).set p v else e i)[p]?
      rw [if_pos rfl, List.getElem?_set_self (by rw [h i]; exact hp), if_pos (by rw [flat_len h n, hqi]; exact hq)]
    · rw [if_neg hqi, f1]
      show _ = (if q / k = i then (e i).set p v else e (q / k))[q % k]?
      by_cases hq1 : q / k = i
      · rw [if_pos hq1, hq1, List.getElem?_set_ne (fun hh => hqi (by rw [hh, ← hq1]; exact e1))]
      · rw [if_neg hq1]
  · have l2 : (flat (fun j => if j = i then (e i).set p v else e j) n)[q]? = none := List.getElem?_eq_none (by rw [flat_len h' n]; omega)
    have l1 : (flat e n)[q]? = none := List.getElem?_eq_none (by rw [flat_len h n]; omega)
    rw [l2, l1]
    by_cases hqi : i * k + p = q
    · exfalso
      have : i * k + k ≤ n * k := by
        rw [← Nat.succ_mul]
        exact Nat.mul_le_mul_right _ hi
      omega
    · rw [if_neg hqi]

theorem nl_set (z : Nat → Int) (n i : Nat) (v : Int) : (nl z n).set i (.int .u64 v) = nl (fun j => if j = i then v else z j) n := by
  apply List.ext_getElem?
  intro j
  unfold nl
  rw [List.getElem?_set, List.getElem?_map, List.getElem?_map, List.length_map, List.length_range]
  by_cases hj : j < n
  · rw [List.getElem?_range hj]
    by_cases hi : i = j
    · subst hi
      rw [if_pos rfl, if_pos hj, Option.map_some]
      exact congrArg (fun x => some (Value.int .u64 x)) (if_pos rfl).symm
    · rw [if_neg hi, Option.map_some, Option.map_some]
      exact congrArg (fun x => some (Value.int .u64 x)) (if_neg (show ¬ j = i from fun e => hi e.symm)).symm
  · rw [List.getElem?_eq_none (by rw [List.length_range]; omega)]
    by_cases hi : i = j
    · subst hi
      rw [if_pos rfl, if_neg hj]
      rfl
    · rw [if_neg hi]
      rfl

end Go.Proofs.YtlplmdhlelgihaaGreatDoor

namespace Go.Proofs.YtlplmdhlelgihaaGreatDoor

open Go.RowKit

set_option linter.unusedVariables false

set_option linter.unusedSimpArgs false

set_option maxRecDepth 20000

theorem celL_by (N : Nat) (u : Nat → Int) : celL [.by N u] = bl u N := by
  show (List.range N).map _ ++ [] = _
  rw [List.append_nil]
  rfl

theorem byte_at {w : World} {g : Nat} {t : TypeId} (l1 l2 : List Seg) (N : Nat) (f : Nat → Int) (h : w.heap[g]? = some (.cells (cel (l1 ++ [.by N f] ++ l2)) t)) (p : Nat) (hp : p < N) : w.cell? ⟨g, slen l1 + p, none⟩ = some (.int .u8 (f p)) := by
  rw [row_cell h]
  show (celL (l1 ++ [.by N f] ++ l2)).toArray[slen l1 + p]? = _
  rw [List.getElem?_toArray, celL_app, celL_app, List.append_assoc, List.getElem?_append_right (by rw [celL_len]; omega), celL_len, Nat.add_sub_cancel_left, celL_by, List.getElem?_append_left (by rw [bl_len]; exact hp)]
  unfold bl
  rw [List.getElem?_map, List.getElem?_range hp]
  rfl

/-- Who is drawn hangs on the balances alone. -/
theorem drL_congr {z z' : Nat → VValidator} (h : ∀ j, (z j).f2 = (z' j).f2) (L : List Int) (s : Nat → Int) : ∀ i, drL z L s i = drL z' L s i
  | 0 => rfl
  | i + 1 => by
    have e : tkB z L s i = tkB z' L s i := by unfold tkB; rw [h]
    show (if tkB z L s i = true then drL z L s i ++ _ else drL z L s i) = (if tkB z' L s i = true then drL z' L s i ++ _ else drL z' L s i)
    rw [e, drL_congr h L s i]

theorem dw_congr {z z' : Nat → VValidator} (h : ∀ j, (z j).f2 = (z' j).f2) (L : List Int) (s : Nat → Int) (want : Nat) : dwL z L s want = dwL z' L s want ∧ dwE z L s want = dwE z' L s want := by
  unfold dwL dwE dwO
  rw [drL_congr h L s 256]
  exact ⟨rfl, rfl⟩

end Go.Proofs.YtlplmdhlelgihaaGreatDoor

namespace Go.Proofs.YtlplmdhlelgihaaGreatDoor

open Go.RowKit

set_option linter.unusedVariables false

set_option linter.unusedSimpArgs false

set_option maxRecDepth 20000

attribute [local go_sem ↓] lvState_eq svState_eq bdState_eq sv24_eq lv24_eq

/-- A signature, loaded and stored. -/
def lvSg (a : Addr) : Sem Value := loadVar 51 a

theorem lvSg_eq (a : Addr) : loadVar 51 a = lvSg a := rfl

def svSg (a : Addr) (v : Value) : Sem Unit := storeVar 51 a v

theorem svSg_eq (a : Addr) (v : Value) : storeVar 51 a v = svSg a v := rfl

attribute [local go_sem ↓] lvSg_eq svSg_eq

end Go.Proofs.YtlplmdhlelgihaaGreatDoor
