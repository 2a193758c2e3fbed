/-
  The bytes of a state's lists.
  The bytes of a state.
  Committee: what the reference's Enc and Root answer.
  What the reading of a state calls.
  Committee: both Reads one answer, the argument opened.
-/
import Derived.Test.YtlplmdhlelgihaaGreatDoorStA
import Derived.Test.YtlplmdhlelgihaaGreatDoorStB
import Derived.Test.YtlplmdhlelgihaaGreatDoorBzA
import Derived.Test.YtlplmdhlelgihaaGreatDoorQF
namespace Go.Proofs.YtlplmdhlelgihaaGreatDoor

open Go.RowKit

set_option linter.unusedVariables false

set_option linter.unusedSimpArgs false

set_option maxRecDepth 20000

attribute [local go_sem ↓] sv24_eq lv24_eq ix22_eq sv8_eq

/-- Bytes of elements of one size, one behind the other. -/
def eB (K : Nat) (g : Nat → Nat → Int) (q : Nat) : Int := g (q / K) (q % K)

theorem bl_two (f : Nat → Int) (n k : Nat) : bl f n ++ bl (fun q => f (n + q)) k = bl f (n + k) := by
  unfold bl
  rw [List.range_add, List.map_append, List.map_map]
  rfl

theorem bl_each (K : Nat) (hK : 0 < K) (g : Nat → Nat → Int) (k : Nat) : bl (eB K g) (K * k) ++ bl (g k) K = bl (eB K g) (K * (k + 1)) := by
  have h : bl (g k) K = bl (fun q => eB K g (K * k + q)) K := bl_congr fun i hi => by
    show g k i = g ((K * k + i) / K) ((K * k + i) % K)
    rw [Nat.mul_add_div hK, Nat.div_eq_of_lt hi, Nat.add_zero, Nat.mul_add_mod, Nat.mod_eq_of_lt hi]
  rw [h, bl_two, Nat.mul_add, Nat.mul_one]

/-- The place of an element of the type Eth1 in a slice; such an element. -/
def ixEth1 (x i : Value) : Sem Value := Instr.indexAt 35 x i

theorem ixEth1_eq (x i : Value) : Instr.indexAt 35 x i = ixEth1 x i := rfl

theorem sizeEth1 (w : World) : (sizeOf 34).run Tryz.prog w = .ok 65 w := by
  have hi : (Tryz.prog.info? 34).map (·.size) = some 65 := by kernel_rfl
  cases hq : Tryz.prog.info? 34 with
  | none => simp [hq] at hi
  | some i => simp [hq] at hi; simp [sizeOf, typeInfo, hq, hi]

theorem ixEth1_run (w : World) (b off len cap i : Nat) (h : i < len) : (ixEth1 (.slice (some ⟨b, off, none⟩) len cap) (.int .i64 i)).run Tryz.prog w = .ok (.pointer (some ⟨b, off + 65 * i, none⟩)) w := by
  unfold ixEth1 Instr.indexAt
  have h1 : (0 : Int) ≤ (i : Int) ∧ (i : Int) < (len : Int) := by omega
  simp only [asIntOf, Sem.run_bind, Sem.run_pure, Result.andThen_ok, run_underlying Tryz.underlying35, if_pos h1, sizeEth1, Addr.add_mid, Int.toNat_natCast]
  rw [Nat.mul_comm]

theorem lvEth1_at {w : World} {g o : Nat} {x : VEth1} (h : w.rangeAt g o (celL (sEth1 x))) : (lvEth1 ⟨g, o, none⟩).run Tryz.prog w = .ok (.agg (cel (sEth1 x))) w :=
  loadAt_var (run_loadAt_mid w g o 34 _ _ h Tryz.underlying34 rfl (by rw [celL_len, show slen (sEth1 x) = 65 from rfl]; kernel_rfl))

attribute [local go_sem ↓] lvEth1_eq svEth1_eq ixEth1_eq

/-- The place of an element of the type Validator in a slice; such an element. -/
def ixValidator (x i : Value) : Sem Value := Instr.indexAt 36 x i

theorem ixValidator_eq (x i : Value) : Instr.indexAt 36 x i = ixValidator x i := rfl

theorem sizeValidator (w : World) : (sizeOf 62).run Tryz.prog w = .ok 86 w := by
  have hi : (Tryz.prog.info? 62).map (·.size) = some 86 := by kernel_rfl
  cases hq : Tryz.prog.info? 62 with
  | none => simp [hq] at hi
  | some i => simp [hq] at hi; simp [sizeOf, typeInfo, hq, hi]

theorem ixValidator_run (w : World) (b off len cap i : Nat) (h : i < len) : (ixValidator (.slice (some ⟨b, off, none⟩) len cap) (.int .i64 i)).run Tryz.prog w = .ok (.pointer (some ⟨b, off + 86 * i, none⟩)) w := by
  unfold ixValidator Instr.indexAt
  have h1 : (0 : Int) ≤ (i : Int) ∧ (i : Int) < (len : Int) := by omega
  simp only [asIntOf, Sem.run_bind, Sem.run_pure, Result.andThen_ok, run_underlying Tryz.underlying36, if_pos h1, sizeValidator, Addr.add_mid, Int.toNat_natCast]
  rw [Nat.mul_comm]

theorem lvValidator_at {w : World} {g o : Nat} {x : VValidator} (h : w.rangeAt g o (celL (sValidator x))) : (lvValidator ⟨g, o, none⟩).run Tryz.prog w = .ok (.agg (cel (sValidator x))) w :=
  loadAt_var (run_loadAt_mid w g o 62 _ _ h Tryz.underlying62 rfl (by rw [celL_len, show slen (sValidator x) = 86 from rfl]; kernel_rfl))

attribute [local go_sem ↓] lvValidator_eq svValidator_eq ixValidator_eq

end Go.Proofs.YtlplmdhlelgihaaGreatDoor

namespace Go.Proofs.YtlplmdhlelgihaaGreatDoor

open Go.RowKit

set_option linter.unusedVariables false

set_option linter.unusedSimpArgs false

set_option maxRecDepth 20000

/-- The sizes of a state's fields; its parts. -/
def zS (r : Nat) : Int := [8, 32, 8, 16, 112, 256, 256, 0, 72, 0, 8, 0, 0, 256, 64, 0, 0, 1, 40, 40, 40, 0, 432, 432].getD r 0

def qS (x : VState) : List (Nat × (Nat → Int)) := [(8, nmB x.f0), (32, x.f1), (8, nmB x.f2), (16, ct7 (eFork x.f3)), (112, ct7 (eHeader x.f4)), (256, x.f5), (256, x.f6), (32 * x.f7.n, x.f7.z), (72, ct7 (eEth1 x.f8)), (72 * x.f9.n, eB 72 fun i => ct7 (eEth1 (x.f9.z i))), (8, nmB x.f10), (121 * x.f11.n, eB 121 fun i => ct7 (eValidator (x.f11.z i))), (8 * x.f12.n, eB 8 fun i => nmB (x.f12.z i)), (256, x.f13), (64, eB 8 fun i => nmB (x.f14 i)), (x.f15.n, x.f15.z), (x.f16.n, x.f16.z), (1, fun q => (Z.byt x.f17 4 q : Int)), (40, ct7 (eCheckpoint x.f18)), (40, ct7 (eCheckpoint x.f19)), (40, ct7 (eCheckpoint x.f20)), (8 * x.f21.n, eB 8 fun i => nmB (x.f21.z i)), (432, ct7 (eCommittee x.f22)), (432, ct7 (eCommittee x.f23))]

def nilQ : Nat × (Nat → Int) := (0, fun _ => 0)

def pL (x : VState) (r : Nat) : Nat := ((qS x).getD r nilQ).1

def pF (x : VState) (r : Nat) : Nat → Int := ((qS x).getD r nilQ).2

def tL (x : VState) : Nat := Z.hdL zS 24 + Z.loL zS (pL x) 24

theorem tL_is (x : VState) : tL x = 2101 + 32 * x.f7.n + 72 * x.f9.n + 121 * x.f11.n + 8 * x.f12.n + x.f15.n + x.f16.n + 8 * x.f21.n := by
  show 2101 + (0 + 0 + 0 + 0 + 0 + 0 + 0 + 0 + 32 * x.f7.n + 0 + 72 * x.f9.n + 0 + 121 * x.f11.n + 8 * x.f12.n + 0 + 0 + x.f15.n + x.f16.n + 0 + 0 + 0 + 0 + 8 * x.f21.n + 0 + 0) = _
  omega

theorem bsP_24 (W : World) (p0 p1 p2 p3 p4 p5 p6 p7 p8 p9 p10 p11 p12 p13 p14 p15 p16 p17 p18 p19 p20 p21 p22 p23 : Pt) : (bsP 24 #[(0, ptv p0), (1, ptv p1), (2, ptv p2), (3, ptv p3), (4, ptv p4), (5, ptv p5), (6, ptv p6), (7, ptv p7), (8, ptv p8), (9, ptv p9), (10, ptv p10), (11, ptv p11), (12, ptv p12), (13, ptv p13), (14, ptv p14), (15, ptv p15), (16, ptv p16), (17, ptv p17), (18, ptv p18), (19, ptv p19), (20, ptv p20), (21, ptv p21), (22, ptv p22), (23, ptv p23)]).run Tryz.prog W = .ok (.slice (some ⟨W.heap.size, 0, none⟩) 24 24) (W.alloc (.cells ([p0, p1, p2, p3, p4, p5, p6, p7, p8, p9, p10, p11, p12, p13, p14, p15, p16, p17, p18, p19, p20, p21, p22, p23].map ptv).toArray 39)) := by kernel_rfl

attribute [local go_sem ↓] bsP_eq bsI_eq

theorem getD_ptb (ps : List Pt) (r : Nat) : (ps.map ptb).getD r nilQ = ptb (ps.getD r nilP) := by
  rw [List.getD_eq_getElem?_getD, List.getD_eq_getElem?_getD, List.getElem?_map]
  cases ps[r]? <;> rfl

/-- The numbers and bits of a field in memory. -/
theorem seg_na {w : World} {g : Nat} {t : TypeId} {x : VState} (h : w.heap[g]? = some (.cells (cel (sState x)) t)) : Z.Nms .u64 w (some ⟨g, 979, none⟩) 8 x.f14 :=
  .inr ⟨g, 979, rfl, (Array.getElem?_eq_some_iff.1 h).1, fun j hj => by
    rcases (by omega : j = 0 ∨ j = 1 ∨ j = 2 ∨ j = 3 ∨ j = 4 ∨ j = 5 ∨ j = 6 ∨ j = 7) with rfl | rfl | rfl | rfl | rfl | rfl | rfl | rfl
    · exact cS14_0 h
    · exact cS14_1 h
    · exact cS14_2 h
    · exact cS14_3 h
    · exact cS14_4 h
    · exact cS14_5 h
    · exact cS14_6 h
    · exact cS14_7 h⟩

theorem seg_bits {w : World} {g : Nat} {t : TypeId} {x : VState} (h : w.heap[g]? = some (.cells (cel (sState x)) t)) : Z.Bls w (some ⟨g, 989, none⟩) 4 4 x.f17 :=
  .inr (.inr ⟨g, 989, rfl, Nat.le_refl _, by omega, (Array.getElem?_eq_some_iff.1 h).1, fun j hj => by
    rcases (by omega : j = 0 ∨ j = 1 ∨ j = 2 ∨ j = 3) with rfl | rfl | rfl | rfl
    · exact cS17_0 h
    · exact cS17_1 h
    · exact cS17_2 h
    · exact cS17_3 h⟩)

attribute [local go_sem ↓] bsP_eq bsI_eq lvState_eq svState_eq lvFork_eq lvHeader_eq lvEth1_eq lvCheckpoint_eq lvCommittee_eq

end Go.Proofs.YtlplmdhlelgihaaGreatDoor

namespace Go.Proofs.YtlplmdhlelgihaaGreatDoor

open Go.RowKit

set_option linter.unusedVariables false

set_option linter.unusedSimpArgs false

theorem key_bys {w : World} {y : Nat} {t : TypeId} {x : VCommittee} (h : w.heap[y]? = some (.cells (cel (sCommittee x)) t)) (k : Nat) (hk : k < 8) : Bys w (some ⟨y, k * 48, none⟩) 48 48 (fun q => x.f0.f0 (48 * k + q)) :=
  .inr (.inr ⟨y, k * 48, rfl, Nat.le_refl _, by omega, (Array.getElem?_eq_some_iff.1 h).1, fun j hj => by
    rw [row_cell h, show k * 48 + j = sof (sCommittee x) 0 + (48 * k + j) by show _ = 0 + (48 * k + j); omega]
    exact cel_at (sCommittee x) 0 (48 * k + j) (Seg.by 384 x.f0.f0) rfl (by show 48 * k + j < 384; omega)⟩)

attribute [local go_sem ↓] sv24_eq lv24_eq ix22_eq slr_eq bd27_eq bs22_eq bsP_eq bsI_eq lvKeys_eq

set_option maxRecDepth 20000 in
set_option maxHeartbeats 2000000 in
theorem rencCommittee_any (x : VCommittee) (w : World) (hx : OkCommittee x) :
    Calls Tryz.prog 49 #[.agg (cel (sCommittee x))] w fun e w' => ∃ v, e = .returned (.tuple #[v, .int .i64 0]) ∧ w'.ownsRow w.heap.size 5 1 v 432 (bl (ct7 (eCommittee x)) 432) ∧ Below w.heap.size w w' := by
  have HX := hid hx
  obtain ⟨W0, hW0⟩ : ∃ W, w.alloc (.cells (cel (sCommittee x)) 47) = W := ⟨_, rfl⟩
  have hB0 : Below w.heap.size w W0 := by rw [← hW0]; exact (Below.refl _ _).alloc (Nat.le_refl _) _
  have r0 : W0.heap[w.heap.size]? = some (.cells (cel (sCommittee x)) 47) := by rw [← hW0]; exact heap_new rfl
  have z0 : w.heap.size < W0.heap.size := by rw [← hW0]; simp
  obtain ⟨y, ey⟩ : ∃ y, w.heap.size = y := ⟨_, rfl⟩
  have hry : ∀ X, Below W0.heap.size W0 X → X.heap[y]? = some (.cells (cel (sCommittee x)) 47) := fun X h => by rw [← ey]; exact (h.block _ z0).trans r0
  have HK : Hid (∀ X, Below W0.heap.size W0 X → ∀ k, k < 8 → Bys X (some ⟨y, k * 48, none⟩) 48 48 (fun q => x.f0.f0 (48 * k + q))) := fun X h k hk => key_bys (hry X h) k hk
  have HB1 : Hid (∀ X, Below W0.heap.size W0 X → Bys X (some ⟨y, 384, none⟩) 48 48 x.f1) := fun X h => seg_bys (hry X h) 1 48 x.f1 rfl 384 rfl (by omega)
  have S0 := hid (Below.refl W0.heap.size W0)
  have HB0w := hid hB0
  have EY := hid ey
  clear hB0 r0 hry hx
  go_enter Tryz.func49, Tryz.ntmps49
  go_upto_region 6 with fail
  clear hW0 ey z0
  obtain ⟨f, ef⟩ : ∃ f, x.f0.f0 = f := ⟨_, rfl⟩
  rw [ef] at HK
  have EF := hid ef
  clear ef
  go_loopw [5, 7] (fun v i wr => ∃ k : Nat, k ≤ 8 ∧ i = .int .i64 k ∧ wr.ownsRow W0.heap.size 5 1 v (48 * k) (bl f (48 * k)) ∧ Below W0.heap.size W0 wr) (fun _ i _ => 8 - (intOf i).toNat)
  case atStart => exact ⟨0, by omega, rfl, World.ownsRow_nil _ _ _ _, Below.refl _ _⟩
  case round =>
    obtain ⟨k, hk, rfl, hown, hb⟩ := hrel
    by_cases hlt : k < 8
    · have bq : decide (k < 8) = true := by simp; omega
      have k1 : (k : Int) < 8 := by omega
      have k2 : (0 : Int) ≤ (k : Int) := by omega
      have hz := hb.size
      obtain ⟨c, ec⟩ : ∃ c : Nat → Int, (fun q => f (48 * k + q)) = c := ⟨_, rfl⟩
      have HKK : Hid (∀ X, Below W0.heap.size W0 X → Bys X (some ⟨y, k * 48, none⟩) 48 48 c) := fun X h => by rw [← ec]; exact HK.out X h k hlt
      have HO := hid hown
      have HB := hid hb
      have EC := hid ec
      clear hown hb ec
      go_wp2_with (first
        | (at_builtin; refine wpList_append_bys w8 rfl _ _ rfl W0.heap.size _ (48 * k) (bl f (48 * k)) rfl (ownsRow_below HO.out HB8.out) a8 48 c8 c rfl HR8.out (by omega) (by have := HB8.out.size; omega) ?_; intro v9 w9 ho9 hg9)
        | (at_builtin; refine wpList_append_bys _ rfl _ _ rfl wr.heap.size _ 0 [] rfl (World.ownsRow_made _ #[] 0 (Nat.le_refl _) (Nat.zero_le _) rfl) _ 48 48 c rfl (HKK.out _ (HB.out.alloc hz _)) (by omega) (by simp) ?_; intro v8 w8 ho8 hg8; rw [Nat.zero_add, List.nil_append] at ho8; have HB8 := hid (below_grown ((Below.refl wr.heap.size wr).alloc (Nat.le_refl _) (.cells #[] 5)) (World.ownsRow_made _ #[] 0 (Nat.le_refl _) (Nat.zero_le _) rfl) (by simp) hg8); obtain ⟨a8, c8, rfl, hr8⟩ := own_at ho8; have HR8 := hid hr8; clear ho8 hg8 hr8))
      go_roundw
      case rel =>
        refine ⟨k + 1, by omega, by go_num, ?_, below_grown (HB.out.trans (HB8.out.mono hz)) (ownsRow_below HO.out HB8.out) (by have := HB8.out.size; omega) hg9⟩
        rw [← EC.out, bl_join f (48 * k) 48] at ho9
        exact ho9
      case measure => simp [intOf]; omega
    · obtain rfl : k = 8 := by omega
      have bq : decide (8 < 8) = false := by decide
      obtain ⟨a1, c1, rfl, hr1⟩ := own_at (show wr.ownsRow W0.heap.size 5 1 _ 384 (bl f 384) from hown)
      replace hr1 : Bys wr a1 384 c1 (ct7 (eKeys x.f0)) := by
        rw [← EF.out] at hr1
        rcases hr1 with ⟨_, h, _⟩ | ⟨_, _, h⟩ | ⟨b, off, h1, h2, h3, h4, h5⟩
        · omega
        · omega
        · exact .inr (.inr ⟨b, off, h1, h2, h3, h4, fun j hj => by rw [h5 j hj]; exact congrArg (fun z => some (Value.int .u8 z)) (if_pos hj).symm⟩)
      have hb1 := hb
      clear hown hb bq hk hlt
      have S1 := hid (S0.out.trans (hb1.mono S0.out.size))
      have R0 := hid (show ∀ X, Below wr.heap.size wr X → Bys X a1 384 c1 (ct7 (eKeys x.f0)) from fun X h => hr1.below h)
      clear hb1 hr1
      go_upto_region 12 with (at_builtin; refine wpList_append_bys _ rfl _ _ rfl wr.heap.size _ 0 [] rfl (World.ownsRow_made _ #[] 0 (Nat.le_refl _) (Nat.zero_le _) rfl) _ 48 48 x.f1 rfl (HB1.out _ (S1.out.alloc S1.out.size _)) (by omega) (by simp) ?_; intro v2 X2 ho2 hg2; rw [Nat.zero_add, List.nil_append] at ho2)
      have hb2 := below_grown ((Below.refl wr.heap.size wr).alloc (Nat.le_refl _) (.cells #[] 5)) (World.ownsRow_made _ #[] 0 (Nat.le_refl _) (Nat.zero_le _) rfl) (by simp) hg2
      obtain ⟨a2, c2, rfl, hr2⟩ := own_at ho2
      clear hg2 ho2
      have S2 := hid (S1.out.trans (hb2.mono S1.out.size))
      have K1 := hid (show Below wr.heap.size wr X2 from hb2)
      have R1 := hid (show ∀ X, Below X2.heap.size X2 X → Bys X a2 48 c2 (x.f1) from fun X h => hr2.below h)
      clear hb2 hr2
      obtain ⟨ps, eps⟩ : ∃ ps : List Pt, ([(a1, 384, c1, ct7 (eKeys x.f0)), (a2, 48, c2, x.f1)] : List Pt) = ps := ⟨_, rfl⟩
      obtain ⟨Y1, hY1⟩ : ∃ Y, X2.alloc (.cells (ps.map ptv).toArray 39) = Y := ⟨_, rfl⟩
      obtain ⟨Y2, hY2⟩ : ∃ Y, Y1.alloc (.cells (vs .i64 2 zCommittee) 3) = Y := ⟨_, rfl⟩
      have hy1 : Below X2.heap.size X2 Y1 := by rw [← hY1]; exact (Below.refl _ _).alloc (Nat.le_refl _) _
      have hy2 : Below X2.heap.size X2 Y2 := by rw [← hY2]; exact hy1.alloc hy1.size _
      have g1 : Y2.heap[X2.heap.size]? = some (.cells (ps.map ptv).toArray 39) := by
        rw [← hY2, ← hY1]
        exact (heap_old (by simp)).trans (heap_new rfl)
      have g2 : Y2.heap[Y1.heap.size]? = some (.cells (vs .i64 2 zCommittee) 3) := by rw [← hY2]; exact heap_new rfl
      have bs1 := bsP_2 X2 (a1, 384, c1, ct7 (eKeys x.f0)) (a2, 48, c2, x.f1)
      have bs2 := bsI_Committee Y1
      have hla := rlay7 ps zCommittee 2 X2.heap.size Y1.heap.size Y2 (by rw [← eps]; rfl) g1 g2 (fun r hr => by
        rw [← eps]
        rcases (by omega : r = 0 ∨ r = 1) with rfl | rfl
        · exact R0.out _ (K1.out.trans (hy2.mono K1.out.size))
        · exact R1.out _ hy2
        ) (fun r hr => by
        rw [← eps]
        rcases (by omega : r = 0 ∨ r = 1) with rfl | rfl
        all_goals exact ⟨rfl, Nat.le_of_ble_eq_true rfl, Nat.le_of_ble_eq_true rfl⟩) (by omega) (by omega) (by rw [← eps]; exact Nat.le_of_ble_eq_true rfl)
      have e1 : ln7 (ps.map ptb) = 432 := by rw [← eps]; rfl
      have e2 : ct7 (ps.map ptb) = ct7 (eCommittee x) := by rw [← eps]; rfl
      rw [e1, e2] at hla
      rw [eps, hY1] at bs1
      rw [hY2] at bs2
      obtain ⟨u1, eu1⟩ : ∃ u, X2.heap.size = u := ⟨_, rfl⟩
      obtain ⟨u2, eu2⟩ : ∃ u, Y1.heap.size = u := ⟨_, rfl⟩
      rw [eu1] at bs1 hla
      rw [eu2] at bs2 hla
      replace bs1 : (bsP 2 #[(0, Value.slice a1 384 c1), (1, Value.slice a2 48 c2)]).run Tryz.prog X2 = .ok (.slice (some ⟨u1, 0, none⟩) 2 2) Y1 := bs1
      have HLA := hid hla
      have HY2 := hid hy2
      clear hla hy1 hy2 g1 g2 e1 e2 eps hY1 hY2 eu1 eu2
      go_wp2_with (go_at_call 50; refine HLA.out.mono ?_; rintro e Y ⟨v, rfl, ho, hbY⟩)
      go_ret2
      have e0 := EY.out
      have e1 := HB0w.out.size
      have e2 := S2.out.size
      have e3 := HY2.out.size
      exact ⟨v, rfl, (ho.mono (by omega) : _), HB0w.out.trans ((S2.out.mono (by omega)).trans ((HY2.out.mono (by omega)).trans (hbY.mono (by omega))))⟩

end Go.Proofs.YtlplmdhlelgihaaGreatDoor

namespace Go.Proofs.YtlplmdhlelgihaaGreatDoor

open Go.RowKit

set_option linter.unusedVariables false

set_option linter.unusedSimpArgs false

set_option maxRecDepth 20000

theorem info_out {P : Program} {t : TypeId} {z : Value} {s b : Nat} (h : (P.info? t).map (fun i => (i.zero, i.size, i.bytes)) = some (some z, s, b)) : ∃ i, P.info? t = some i ∧ i.zero = some z ∧ i.size = s ∧ i.bytes = b := by
  cases hq : P.info? t with
  | none => simp [hq] at h
  | some i => simp [hq] at h; exact ⟨i, rfl, h.1, h.2.1, h.2.2⟩

attribute [local go_sem ↓] ix22_eq sl22_eq

/-- A number stored among the eight. -/
theorem na_set (x : VState) (k : Nat) (hk : k < 8) (n : Int) : (cel (sState x)).setIfInBounds (979 + k) (.int .u64 n) = cel (sState { x with f14 := fun j => if j = k then n else x.f14 j }) := by
  rcases (by omega : k = 0 ∨ k = 1 ∨ k = 2 ∨ k = 3 ∨ k = 4 ∨ k = 5 ∨ k = 6 ∨ k = 7) with rfl | rfl | rfl | rfl | rfl | rfl | rfl | rfl
  · exact st_14_0 x n
  · exact st_14_1 x n
  · exact st_14_2 x n
  · exact st_14_3 x n
  · exact st_14_4 x n
  · exact st_14_5 x n
  · exact st_14_6 x n
  · exact st_14_7 x n

def ixU (x i : Value) : Sem Value := Instr.indexAt 37 x i

theorem ixU_eq (x i : Value) : Instr.indexAt 37 x i = ixU x i := rfl

theorem size_u64 (w : World) : (sizeOf 22).run Tryz.prog w = .ok 1 w := by
  obtain ⟨i, hi, _, hs, _⟩ := info_out (P := Tryz.prog) (t := 22) (z := .int .u64 0) (s := 1) (b := 8) (by kernel_rfl)
  simp [sizeOf, typeInfo, hi, hs]

theorem ixU_run (w : World) (b off len cap i : Nat) (h : i < len) : (ixU (.slice (some ⟨b, off, none⟩) len cap) (.int .i64 i)).run Tryz.prog w = .ok (.pointer (some ⟨b, off + i, none⟩)) w := by
  unfold ixU Instr.indexAt
  have h1 : (0 : Int) ≤ (i : Int) ∧ (i : Int) < (len : Int) := by omega
  simp only [asIntOf, Sem.run_bind, Sem.run_pure, Result.andThen_ok, run_underlying Tryz.underlying37, if_pos h1, size_u64, Addr.add_mid, Int.toNat_natCast, Nat.mul_one]

attribute [local go_sem ↓] ixU_eq

end Go.Proofs.YtlplmdhlelgihaaGreatDoor

namespace Go.Proofs.YtlplmdhlelgihaaGreatDoor

open Go.RowKit

set_option linter.unusedVariables false

set_option linter.unusedSimpArgs false

theorem lst_ks {H : Type} {enc : TypeId × Value → H} {P : Program} {w : World} {b0 fuel : Nat} {sp : Nat → Bool} {held : Bool} {t e e8 : TypeId} {cs : List Value} {x : DataW H × List MemPlace}
    (ht : P.underlying t = some (.array 8 e)) (hk : P.underlying e = some (.array 48 e8)) (he : P.underlying e8 = some (.int .u8)) (hck : P.cellsOf e = 48) (hce : P.cellsOf e8 = 1) (hl : cs.length = 384) (h : DataW.trod enc P w b0 sp held fuel t cs = some x) :
    ∃ f : Nat → Int, cs = (List.range 384).map (fun j => Value.int .u8 (f j)) ∧ ∀ j, j < 384 → 0 ≤ f j ∧ f j < 256 := by
  obtain ⟨xs, m, rfl, _, _, hxl, hat⟩ := DataW.trod_array ht h
  have hcell : ∀ q, q < 384 → ∃ z : Int, cs[q]? = some (.int .u8 z) ∧ 0 ≤ z ∧ z < 256 := by
    intro q hq
    have ha := hat (q / 48) (by omega)
    rw [List.getElem?_eq_getElem (by omega), hck] at ha
    obtain ⟨g, hc, hb⟩ := lst_by hk he hce (by rw [List.length_take, List.length_drop, hl]; omega) ha
    refine ⟨g (q % 48), ?_, hb _ (by omega)⟩
    have := congrArg (·[q % 48]?) hc
    simp only [List.getElem?_take, List.getElem?_drop] at this
    rw [if_pos (by omega), List.getElem?_map, List.getElem?_range (by omega)] at this
    exact (congrArg (fun i => cs[i]?) (show q = q / 48 * 48 + q % 48 by omega)).trans this
  refine ⟨byteOf cs.toArray, ?_, fun j hj => ?_⟩
  · apply List.ext_getElem?
    intro i
    rw [List.getElem?_map]
    by_cases hi : i < 384
    · obtain ⟨z, hz, _⟩ := hcell i hi
      rw [List.getElem?_range hi, hz]
      show some _ = some (Value.int .u8 (byteOf cs.toArray i))
      unfold byteOf
      rw [List.getElem?_toArray, hz]
    · rw [List.getElem?_eq_none (by omega), List.getElem?_eq_none (by simpa using hi)]
      rfl
  · obtain ⟨z, hz, hb⟩ := hcell j hj
    unfold byteOf
    rw [List.getElem?_toArray, hz]
    exact hb

end Go.Proofs.YtlplmdhlelgihaaGreatDoor
