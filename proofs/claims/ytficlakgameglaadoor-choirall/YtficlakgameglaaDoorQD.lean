/-
  The bytes of a state's lists.
  The bytes of a state.
  What the reading of a state calls.
  The fields of a state whose bytes may be refused, read.
-/
import Derived.Test.YtficlakgameglaaDoorStA
import Derived.Test.YtficlakgameglaaDoorQB
import Derived.Test.YtficlakgameglaaDoorQC
import Derived.Test.YtficlakgameglaaDoorQF
namespace Go.Proofs.YtficlakgameglaaDoor

open Go.RowKit

set_option linter.unusedVariables false

set_option linter.unusedSimpArgs false

set_option maxRecDepth 20000

attribute [local go_sem ↓] sv24_eq lv24_eq ix22_eq sv8_eq

/-- Bytes of elements of one size, one behind the other. -/
def eB (K : Nat) (g : Nat → Nat → Int) (q : Nat) : Int := g (q / K) (q % K)

theorem bl_two (f : Nat → Int) (n k : Nat) : bl f n ++ bl (fun q => f (n + q)) k = bl f (n + k) := by
  unfold bl
  rw [List.range_add, List.map_append, List.map_map]
  rfl

theorem bl_each (K : Nat) (hK : 0 < K) (g : Nat → Nat → Int) (k : Nat) : bl (eB K g) (K * k) ++ bl (g k) K = bl (eB K g) (K * (k + 1)) := by
  have h : bl (g k) K = bl (fun q => eB K g (K * k + q)) K := bl_congr fun i hi => by
    show g k i = g ((K * k + i) / K) ((K * k + i) % K)
    rw [Nat.mul_add_div hK, Nat.div_eq_of_lt hi, Nat.add_zero, Nat.mul_add_mod, Nat.mod_eq_of_lt hi]
  rw [h, bl_two, Nat.mul_add, Nat.mul_one]

/-- The place of an element of the type Eth1 in a slice; such an element. -/
def ixEth1 (x i : Value) : Sem Value := Instr.indexAt 35 x i

theorem ixEth1_eq (x i : Value) : Instr.indexAt 35 x i = ixEth1 x i := rfl

theorem sizeEth1 (w : World) : (sizeOf 34).run Tryd.prog w = .ok 65 w := by
  have hi : (Tryd.prog.info? 34).map (·.size) = some 65 := by kernel_rfl
  cases hq : Tryd.prog.info? 34 with
  | none => simp [hq] at hi
  | some i => simp [hq] at hi; simp [sizeOf, typeInfo, hq, hi]

theorem ixEth1_run (w : World) (b off len cap i : Nat) (h : i < len) : (ixEth1 (.slice (some ⟨b, off, none⟩) len cap) (.int .i64 i)).run Tryd.prog w = .ok (.pointer (some ⟨b, off + 65 * i, none⟩)) w := by
  unfold ixEth1 Instr.indexAt
  have h1 : (0 : Int) ≤ (i : Int) ∧ (i : Int) < (len : Int) := by omega
  simp only [asIntOf, Sem.run_bind, Sem.run_pure, Result.andThen_ok, run_underlying Tryd.underlying35, if_pos h1, sizeEth1, Addr.add_mid, Int.toNat_natCast]
  rw [Nat.mul_comm]

theorem lvEth1_at {w : World} {g o : Nat} {x : VEth1} (h : w.rangeAt g o (celL (sEth1 x))) : (lvEth1 ⟨g, o, none⟩).run Tryd.prog w = .ok (.agg (cel (sEth1 x))) w :=
  loadAt_var (run_loadAt_mid w g o 34 _ _ h Tryd.underlying34 rfl (by rw [celL_len, show slen (sEth1 x) = 65 from rfl]; kernel_rfl))

attribute [local go_sem ↓] lvEth1_eq svEth1_eq ixEth1_eq

/-- The place of an element of the type Validator in a slice; such an element. -/
def ixValidator (x i : Value) : Sem Value := Instr.indexAt 36 x i

theorem ixValidator_eq (x i : Value) : Instr.indexAt 36 x i = ixValidator x i := rfl

theorem sizeValidator (w : World) : (sizeOf 82).run Tryd.prog w = .ok 86 w := by
  have hi : (Tryd.prog.info? 82).map (·.size) = some 86 := by kernel_rfl
  cases hq : Tryd.prog.info? 82 with
  | none => simp [hq] at hi
  | some i => simp [hq] at hi; simp [sizeOf, typeInfo, hq, hi]

theorem ixValidator_run (w : World) (b off len cap i : Nat) (h : i < len) : (ixValidator (.slice (some ⟨b, off, none⟩) len cap) (.int .i64 i)).run Tryd.prog w = .ok (.pointer (some ⟨b, off + 86 * i, none⟩)) w := by
  unfold ixValidator Instr.indexAt
  have h1 : (0 : Int) ≤ (i : Int) ∧ (i : Int) < (len : Int) := by omega
  simp only [asIntOf, Sem.run_bind, Sem.run_pure, Result.andThen_ok, run_underlying Tryd.underlying36, if_pos h1, sizeValidator, Addr.add_mid, Int.toNat_natCast]
  rw [Nat.mul_comm]

theorem lvValidator_at {w : World} {g o : Nat} {x : VValidator} (h : w.rangeAt g o (celL (sValidator x))) : (lvValidator ⟨g, o, none⟩).run Tryd.prog w = .ok (.agg (cel (sValidator x))) w :=
  loadAt_var (run_loadAt_mid w g o 82 _ _ h Tryd.underlying82 rfl (by rw [celL_len, show slen (sValidator x) = 86 from rfl]; kernel_rfl))

attribute [local go_sem ↓] lvValidator_eq svValidator_eq ixValidator_eq

end Go.Proofs.YtficlakgameglaaDoor

namespace Go.Proofs.YtficlakgameglaaDoor

open Go.RowKit

set_option linter.unusedVariables false

set_option linter.unusedSimpArgs false

set_option maxRecDepth 20000

/-- The sizes of a state's fields; its parts. -/
def zS (r : Nat) : Int := [8, 32, 8, 16, 112, 256, 256, 0, 72, 0, 8, 0, 0, 256, 64, 0, 0, 1, 40, 40, 40, 0, 432, 432].getD r 0

def qS (x : VState) : List (Nat × (Nat → Int)) := [(8, nmB x.f0), (32, x.f1), (8, nmB x.f2), (16, ct7 (eFork x.f3)), (112, ct7 (eHeader x.f4)), (256, x.f5), (256, x.f6), (32 * x.f7.n, x.f7.z), (72, ct7 (eEth1 x.f8)), (72 * x.f9.n, eB 72 fun i => ct7 (eEth1 (x.f9.z i))), (8, nmB x.f10), (121 * x.f11.n, eB 121 fun i => ct7 (eValidator (x.f11.z i))), (8 * x.f12.n, eB 8 fun i => nmB (x.f12.z i)), (256, x.f13), (64, eB 8 fun i => nmB (x.f14 i)), (x.f15.n, x.f15.z), (x.f16.n, x.f16.z), (1, fun q => (Z.byt x.f17 4 q : Int)), (40, ct7 (eCheckpoint x.f18)), (40, ct7 (eCheckpoint x.f19)), (40, ct7 (eCheckpoint x.f20)), (8 * x.f21.n, eB 8 fun i => nmB (x.f21.z i)), (432, ct7 (eCommittee x.f22)), (432, ct7 (eCommittee x.f23))]

def nilQ : Nat × (Nat → Int) := (0, fun _ => 0)

def pL (x : VState) (r : Nat) : Nat := ((qS x).getD r nilQ).1

def pF (x : VState) (r : Nat) : Nat → Int := ((qS x).getD r nilQ).2

def tL (x : VState) : Nat := Z.hdL zS 24 + Z.loL zS (pL x) 24

theorem tL_is (x : VState) : tL x = 2101 + 32 * x.f7.n + 72 * x.f9.n + 121 * x.f11.n + 8 * x.f12.n + x.f15.n + x.f16.n + 8 * x.f21.n := by
  show 2101 + (0 + 0 + 0 + 0 + 0 + 0 + 0 + 0 + 32 * x.f7.n + 0 + 72 * x.f9.n + 0 + 121 * x.f11.n + 8 * x.f12.n + 0 + 0 + x.f15.n + x.f16.n + 0 + 0 + 0 + 0 + 8 * x.f21.n + 0 + 0) = _
  omega

theorem bsP_24 (W : World) (p0 p1 p2 p3 p4 p5 p6 p7 p8 p9 p10 p11 p12 p13 p14 p15 p16 p17 p18 p19 p20 p21 p22 p23 : Pt) : (bsP 24 #[(0, ptv p0), (1, ptv p1), (2, ptv p2), (3, ptv p3), (4, ptv p4), (5, ptv p5), (6, ptv p6), (7, ptv p7), (8, ptv p8), (9, ptv p9), (10, ptv p10), (11, ptv p11), (12, ptv p12), (13, ptv p13), (14, ptv p14), (15, ptv p15), (16, ptv p16), (17, ptv p17), (18, ptv p18), (19, ptv p19), (20, ptv p20), (21, ptv p21), (22, ptv p22), (23, ptv p23)]).run Tryd.prog W = .ok (.slice (some ⟨W.heap.size, 0, none⟩) 24 24) (W.alloc (.cells ([p0, p1, p2, p3, p4, p5, p6, p7, p8, p9, p10, p11, p12, p13, p14, p15, p16, p17, p18, p19, p20, p21, p22, p23].map ptv).toArray 39)) := by kernel_rfl

attribute [local go_sem ↓] bsP_eq bsI_eq

theorem getD_ptb (ps : List Pt) (r : Nat) : (ps.map ptb).getD r nilQ = ptb (ps.getD r nilP) := by
  rw [List.getD_eq_getElem?_getD, List.getD_eq_getElem?_getD, List.getElem?_map]
  cases ps[r]? <;> rfl

/-- The numbers and bits of a field in memory. -/
theorem seg_na {w : World} {g : Nat} {t : TypeId} {x : VState} (h : w.heap[g]? = some (.cells (cel (sState x)) t)) : Z.Nms .u64 w (some ⟨g, 979, none⟩) 8 x.f14 :=
  .inr ⟨g, 979, rfl, (Array.getElem?_eq_some_iff.1 h).1, fun j hj => by
    rcases (by omega : j = 0 ∨ j = 1 ∨ j = 2 ∨ j = 3 ∨ j = 4 ∨ j = 5 ∨ j = 6 ∨ j = 7) with rfl | rfl | rfl | rfl | rfl | rfl | rfl | rfl
    · exact cS14_0 h
    · exact cS14_1 h
    · exact cS14_2 h
    · exact cS14_3 h
    · exact cS14_4 h
    · exact cS14_5 h
    · exact cS14_6 h
    · exact cS14_7 h⟩

theorem seg_bits {w : World} {g : Nat} {t : TypeId} {x : VState} (h : w.heap[g]? = some (.cells (cel (sState x)) t)) : Z.Bls w (some ⟨g, 989, none⟩) 4 4 x.f17 :=
  .inr (.inr ⟨g, 989, rfl, Nat.le_refl _, by omega, (Array.getElem?_eq_some_iff.1 h).1, fun j hj => by
    rcases (by omega : j = 0 ∨ j = 1 ∨ j = 2 ∨ j = 3) with rfl | rfl | rfl | rfl
    · exact cS17_0 h
    · exact cS17_1 h
    · exact cS17_2 h
    · exact cS17_3 h⟩)

attribute [local go_sem ↓] bsP_eq bsI_eq lvState_eq svState_eq lvFork_eq lvHeader_eq lvEth1_eq lvCheckpoint_eq lvCommittee_eq

end Go.Proofs.YtficlakgameglaaDoor

namespace Go.Proofs.YtficlakgameglaaDoor

open Go.RowKit

set_option linter.unusedVariables false

set_option linter.unusedSimpArgs false

set_option maxRecDepth 20000

theorem info_out {P : Program} {t : TypeId} {z : Value} {s b : Nat} (h : (P.info? t).map (fun i => (i.zero, i.size, i.bytes)) = some (some z, s, b)) : ∃ i, P.info? t = some i ∧ i.zero = some z ∧ i.size = s ∧ i.bytes = b := by
  cases hq : P.info? t with
  | none => simp [hq] at h
  | some i => simp [hq] at h; exact ⟨i, rfl, h.1, h.2.1, h.2.2⟩

attribute [local go_sem ↓] ix22_eq sl22_eq

def ixU (x i : Value) : Sem Value := Instr.indexAt 37 x i

theorem ixU_eq (x i : Value) : Instr.indexAt 37 x i = ixU x i := rfl

theorem size_u64 (w : World) : (sizeOf 22).run Tryd.prog w = .ok 1 w := by
  obtain ⟨i, hi, _, hs, _⟩ := info_out (P := Tryd.prog) (t := 22) (z := .int .u64 0) (s := 1) (b := 8) (by kernel_rfl)
  simp [sizeOf, typeInfo, hi, hs]

theorem ixU_run (w : World) (b off len cap i : Nat) (h : i < len) : (ixU (.slice (some ⟨b, off, none⟩) len cap) (.int .i64 i)).run Tryd.prog w = .ok (.pointer (some ⟨b, off + i, none⟩)) w := by
  unfold ixU Instr.indexAt
  have h1 : (0 : Int) ≤ (i : Int) ∧ (i : Int) < (len : Int) := by omega
  simp only [asIntOf, Sem.run_bind, Sem.run_pure, Result.andThen_ok, run_underlying Tryd.underlying37, if_pos h1, size_u64, Addr.add_mid, Int.toNat_natCast, Nat.mul_one]

attribute [local go_sem ↓] ixU_eq

end Go.Proofs.YtficlakgameglaaDoor

namespace Go.Proofs.YtficlakgameglaaDoor

open Go.RowKit

set_option linter.unusedVariables false

set_option linter.unusedSimpArgs false

set_option maxRecDepth 20000

/-- The state of nothing but zeros. -/
def oState : VState := ⟨0, fun _ => 0, 0, oFork, oHeader, fun _ => 0, fun _ => 0, ⟨none, 0, 0, fun _ => 0⟩, oEth1, ⟨none, 0, 0, fun _ => oEth1⟩, 0, ⟨none, 0, 0, fun _ => oValidator⟩, ⟨none, 0, 0, fun _ => 0⟩, fun _ => 0, fun _ => 0, ⟨none, 0, 0, fun _ => 0⟩, ⟨none, 0, 0, fun _ => 0⟩, fun _ => false, oCheckpoint, oCheckpoint, oCheckpoint, ⟨none, 0, 0, fun _ => 0⟩, oCommittee, oCommittee⟩

theorem zeroState (W : World) : (zeroValue 49).run Tryd.prog W = .ok (.agg (cel (sState oState))) W := by kernel_rfl

theorem bdState_0 (W : World) : (bdState #[]).run Tryd.prog W = .ok (.agg (cel (sState oState))) W := by kernel_rfl

theorem some_lt {X : World} {r : Nat} {o : Obj} (h : X.heap[r]? = some o) : r < X.heap.size := (Array.getElem?_eq_some_iff.1 h).1

theorem some_cell {X : World} {y i : Nat} {x : VState} (h : X.heap[y]? = some (.cells (cel (sState x)) 49)) (hi : i < 1957) : ∃ v, X.cell? ⟨y, i, none⟩ = some v := ⟨_, (row_cell h i).trans (Array.getElem?_eq_getElem (by rw [cel_size, slState]; exact hi))⟩

attribute [local go_sem ↓] lvState_eq svState_eq bdState_eq ixP_eq

end Go.Proofs.YtficlakgameglaaDoor
