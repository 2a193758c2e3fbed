/-
  What LookSums answers, by what the program's functions answer.
  The state of the statements' own awake.
  What the document's RootAt, Leak and Seed answer.
  What LookRoots answers, by what the program's functions answer.
  What the program's Churn and Reward answer.
-/
import Derived.Test.YtficlakgameglaaDoorQO
import Derived.Test.YtficlakgameglaaDoorQG
import Derived.Test.YtficlakgameglaaDoorQD
import Derived.Test.YtficlakgameglaaDoorQA
import Derived.Test.YtficlakgameglaaDoorHaE
import Derived.Test.YtficlakgameglaaDoorMaC
import Derived.Test.YtficlakgameglaaDoorMaA
import Derived.Deep.Onto

namespace Go.Proofs.YtficlakgameglaaDoor

open Go.RowKit

set_option linter.unusedVariables false

set_option linter.unusedSimpArgs false

set_option maxRecDepth 20000

attribute [local go_sem ↓] lvState_eq svState_eq bdState_eq lvValidator_eq svValidator_eq ixValidator_eq

def PTotal : Prop := ∀ (x : VState) (a : Option Addr) (m cap : Nat) (f : Nat → Int) (w : World), Lk w x → Z.Nms .u64 w a m f → (∀ j, j < m → 0 ≤ f j ∧ f j < 18446744073709551616) → m ≤ 65536 → Calls Tryd.prog 27 #[.agg (cel (sState x)), .slice a m cap] w fun e' w' => e' = .returned (.int .u64 (lst (ttl x.f11.z x.f11.n f m))) ∧ Below w.heap.size w w'

end Go.Proofs.YtficlakgameglaaDoor

namespace Go.Proofs.YtficlakgameglaaDoor

open Go.RowKit

set_option linter.unusedVariables false

set_option linter.unusedSimpArgs false

set_option maxRecDepth 100000

def bvV (ps : Array (Nat × Value)) : Sem Value := Instr.build 82 ps

theorem bvV_eq (ps : Array (Nat × Value)) : Instr.build 82 ps = bvV ps := rfl

def bsV (n : Nat) (ps : Array (Nat × Value)) : Sem Value := Instr.buildSlice 36 n ps

theorem bsV_eq (n : Nat) (ps : Array (Nat × Value)) : Instr.buildSlice 36 n ps = bsV n ps := rfl

/-- One validator that is active up to the epoch 9. -/
def oV1 : VValidator := ⟨fun _ => 0, fun _ => 0, 32000000000, false, 0, 0, 9, 0⟩

def X0 (g1 g2 g3 g4 g5 : Nat) : VState := { oState with f11 := ⟨some ⟨g1, 0, none⟩, 1, 1, fun _ => oV1⟩, f12 := ⟨some ⟨g2, 0, none⟩, 1, 1, fun _ => 0⟩, f15 := ⟨some ⟨g3, 0, none⟩, 1, 1, fun _ => 0⟩, f16 := ⟨some ⟨g4, 0, none⟩, 1, 1, fun _ => 0⟩, f21 := ⟨some ⟨g5, 0, none⟩, 1, 1, fun _ => 0⟩ }

end Go.Proofs.YtficlakgameglaaDoor

namespace Go.Proofs.YtficlakgameglaaDoor

open Go.RowKit

set_option linter.unusedVariables false

set_option linter.unusedSimpArgs false

set_option maxRecDepth 20000

def ix31 (x i : Value) : Sem Value := Instr.indexAt 31 x i

theorem ix31_eq (x i : Value) : Instr.indexAt 31 x i = ix31 x i := rfl

theorem sizeRoot (w : World) : (sizeOf 24).run Tryd.prog w = .ok 32 w := by
  have hi : (Tryd.prog.info? 24).map (·.size) = some 32 := by kernel_rfl
  obtain ⟨i, h1, h2⟩ := Option.map_eq_some_iff.1 hi
  simp [sizeOf, typeInfo, h1, h2]

theorem ix31_run (w : World) (g o k : Nat) (h : k < 8) : (ix31 (.pointer (some ⟨g, o, none⟩)) (.int .u64 k)).run Tryd.prog w = .ok (.pointer (some ⟨g, o + 32 * k, none⟩)) w := by
  unfold ix31 Instr.indexAt
  have h1 : (0 : Int) ≤ (k : Int) ∧ (k : Int) < 8 := by omega
  simp only [asIntOf, Sem.run_bind, Sem.run_pure, Result.andThen_ok, run_underlying Tryd.underlying31]
  simp [h1.2, sizeRoot, Instr.sureAddr, asAddr, addr_add, Nat.mul_comm]

/-- A root at a slot; the error. -/
def rtV (x : VState) (s : Int) : Nat → Int := if s < x.f2 ∧ x.f2 - s ≤ 8 then (fun j => x.f5 (32 * (s % 8).toNat + j)) else fun _ => 0

def rtE (x : VState) (s : Int) : Int := if s < x.f2 ∧ x.f2 - s ≤ 8 then 0 else 1

/-- Less; the epoch ahead; the leak. -/
def lesV (a b : Int) : Int := if a < b then 0 else a - b

attribute [local go_sem ↓] lvState_eq svState_eq bdState_eq lvValidator_eq svValidator_eq ixValidator_eq sv24_eq lv24_eq bd27_eq sv8_eq ix31_eq

/-- What a seed is the sum of. -/
def sdM (k e : Int) (m : Nat → Int) (j : Nat) : Int := if j < 4 then nmB k j else if j < 12 then nmB e (j - 4) else m (j - 12)

def mixP (e : Int) : Nat := ((e % 8 + 6) % 8).toNat

def mixV (x : VState) (e : Int) (j : Nat) : Int := x.f13 (32 * mixP e + j)

def seedV (x : VState) (e k : Int) : Nat → Int := shaV KW HW (sdM (k % 4294967296) e (mixV x e)) 44

theorem sdM_bd (k e : Int) (m : Nat → Int) (hm : ∀ j, j < 32 → 0 ≤ m j ∧ m j < 256) (j : Nat) (hj : j < 44) : 0 ≤ sdM k e m j ∧ sdM k e m j < 256 := by
  unfold sdM
  by_cases h1 : j < 4
  · rw [if_pos h1]; exact nmB_bd _ _
  · rw [if_neg h1]
    by_cases h2 : j < 12
    · rw [if_pos h2]; exact nmB_bd _ _
    · rw [if_neg h2]; exact hm _ (by omega)

theorem bl_add' (m c : Nat → Int) (n k : Nat) (hm : ∀ j, j < k → m (n + j) = c j) : bl m n ++ bl c k = bl m (n + k) := by
  unfold bl
  rw [List.range_add, List.map_append, List.map_map]
  congr 1
  refine List.map_congr_left fun j hj => ?_
  show Value.int .u8 (c j) = Value.int .u8 (m (n + j))
  rw [hm j (List.mem_range.1 hj)]

/-- Bytes at a block's head behind a row of one's own. -/
theorem ap_row (W : World) (B : Nat) (v : Value) (n k cp b : Nat) (m c : Nat → Int) (ho : W.ownsRow B 5 1 v n (bl m n)) (hb : ∀ j, j < k → W.cell? ⟨b, j, none⟩ = some (.int .u8 (c j))) (hm : ∀ j, j < k → m (n + j) = c j) (hB : B ≤ W.heap.size) (hn : n ≤ 64) (hk : k ≤ 64) (hk0 : 0 < k) (ty : TypeId) :
    ∃ g' C' w', (ap22 ty v (.slice (some ⟨b, 0, none⟩) k cp)).run Tryd.prog W = .ok (.slice (some ⟨g', 0, none⟩) (n + k) C') w' ∧ w'.ownsRow B 5 1 (.slice (some ⟨g', 0, none⟩) (n + k) C') (n + k) (bl m (n + k)) ∧ Below B W w' := by
  obtain ⟨i, hi, hz0, hz1, hz2⟩ := info_parts info8
  obtain ⟨v', w', hr, ho', hg, _⟩ := run_append_own_at (P := Tryd.prog) W B 39 ty 5 i (.int .u8 0) 1 1 Tryd.underlying39 hi hz0 hz1 hz2 rfl (by decide) v n (bl m n) ho ⟨b, 0, none⟩ k cp (bl c k) (by rw [bl_len, Nat.mul_one])
    (fun j u hj => by
      obtain ⟨h1, rfl⟩ := bl_get c k j u hj
      rw [addr_add, Nat.zero_add]
      exact hb j h1) (bl_one c k) (by unfold maxLen; omega) (by omega) hB
  rw [bl_add' m c n k hm] at ho'
  obtain ⟨g', C', rfl⟩ := owns_pos ho' (by omega)
  exact ⟨g', C', w', hr, ho', below_grown (Below.refl _ _) ho hB hg⟩

end Go.Proofs.YtficlakgameglaaDoor

namespace Go.Proofs.YtficlakgameglaaDoor

open Go.RowKit

set_option linter.unusedVariables false

set_option linter.unusedSimpArgs false

set_option maxRecDepth 20000

def PRootAt : Prop := ∀ (x : VState) (s : Int) (w : World), OkState x → Lk w x → 0 ≤ s → s < 18446744073709551616 → Calls Tryd.prog 37 #[.agg (cel (sState x)), .int .u64 s] w fun e' w' => e' = .returned (.tuple #[.agg (vs .u8 32 (rtV x s)), .int .i64 (rtE x s)]) ∧ Below w.heap.size w w'

attribute [local go_sem ↓] lvState_eq svState_eq bdState_eq lvValidator_eq svValidator_eq ixValidator_eq sv24_eq lv24_eq bd27_eq sv8_eq

end Go.Proofs.YtficlakgameglaaDoor

namespace Go.Proofs.YtficlakgameglaaDoor

open Go.RowKit

set_option linter.unusedVariables false

set_option linter.unusedSimpArgs false

set_option maxRecDepth 20000

attribute [local go_sem ↓] lvState_eq svState_eq bdState_eq lvValidator_eq svValidator_eq ixValidator_eq

/-- What word.Root has to answer. -/
def PRoot : Prop := ∀ (n : Int) (w : World), 0 ≤ n → n < 18446744073709551616 → Calls Tryd.prog 30 #[.int .u64 n] w fun e w' => (∃ r, e = .returned (.int .u64 r) ∧ IsRut n r) ∧ w' = w

end Go.Proofs.YtficlakgameglaaDoor
