/-
  The reference: numbers of states in bytes; what its EncState answers.
-/

import Derived.Test.YtficlakgameglaaDoorQR
import Derived.Test.YtficlakgameglaaDoorQE
import Derived.Test.YtficlakgameglaaDoorTrHeader
import Derived.Test.YtficlakgameglaaDoorTrEth1
import Derived.Test.YtficlakgameglaaDoorTrValidator
import Derived.Test.YtficlakgameglaaDoorQF
namespace Go.Proofs.YtficlakgameglaaDoor

open Go.RowKit

set_option linter.unusedVariables false

set_option linter.unusedSimpArgs false

set_option maxRecDepth 20000

attribute [local go_sem ↓] sv8_eq

set_option maxHeartbeats 1000000 in
theorem rnum10 (n : Int) (w : World) (h0 : 0 ≤ n) (h1 : n < 18446744073709551616) :
    Calls Tryd.prog 46 #[.int .u64 n] w fun e w' => ∃ v, e = .returned v ∧ w'.ownsRow w.heap.size 5 1 v 8 (bl (nmB n) 8) ∧ Below w.heap.size w w' := by
  have hb := rbytes_any n w h0 (by omega)
  have HB := hid hb
  have sv := fun W => sv8_newv W (fun _ => 0) (nmB n)
  have z := zero_8
  clear hb
  go_enter Tryd.func46, Tryd.ntmps46
  go_upto_region 2 with (go_at_call 74; refine HB.out.mono ?_; rintro e w1 ⟨rfl, hb1⟩)
  obtain ⟨W2, hW2⟩ : ∃ W, w1.alloc (.cells (vs .u8 8 (nmB n)) 128) = W := ⟨_, rfl⟩
  rw [hW2]
  have r1 : W2.heap[w1.heap.size]? = some (.cells (vs .u8 8 (nmB n)) 128) := by rw [← hW2]; exact heap_new rfl
  have hB2 : Below w.heap.size w W2 := by rw [← hW2]; exact hb1.alloc hb1.size _
  have HBY := hid (bys_new r1 (by omega))
  have HB2 := hid hB2
  clear r1 hW2 hB2 sv z hb1
  go_wp2_with (at_builtin; refine wpList_append_bys _ rfl _ _ rfl W2.heap.size _ 0 [] rfl (World.ownsRow_made _ #[] 0 (Nat.le_refl _) (Nat.zero_le _) rfl) _ 8 8 (nmB n) rfl (HBY.out.below (by go_grown)) (by omega) (by simp) ?_; intro v1 w3 ho1 hg1; rw [Nat.zero_add, List.nil_append] at ho1)
  go_ret
  have hb3 := below_grown ((Below.refl W2.heap.size W2).alloc (Nat.le_refl _) (.cells #[] 5)) (World.ownsRow_made _ #[] 0 (Nat.le_refl _) (Nat.zero_le _) rfl) (by simp) hg1
  exact ⟨v1, rfl, ho1.mono HB2.out.size, HB2.out.trans (hb3.mono HB2.out.size)⟩

theorem one_bys {w : World} {g : Nat} {t : TypeId} {v : Int} (h : w.heap[g]? = some (.cells #[.int .u8 v] t)) : Bys w (some ⟨g, 0, none⟩) 1 1 (fun _ => v) :=
  .inr (.inr ⟨g, 0, rfl, Nat.le_refl _, by omega, some_lt h, fun j hj => by
    obtain rfl : j = 0 := by omega
    rw [row_cell h]
    rfl⟩)

theorem bl_one1 (z : Nat → Int) (k : Nat) : bl z (1 * k) ++ bl (fun _ => z k) 1 = bl z (1 * (k + 1)) := by
  have h : bl (fun _ => z k) 1 = bl (fun q => z (1 * k + q)) 1 := bl_congr fun i hi => by
    obtain rfl : i = 0 := by omega
    rw [Nat.one_mul]
    rfl
  rw [h, bl_join, Nat.mul_succ]

theorem bl_rt (f : Nat → Int) (k : Nat) : bl f (32 * k) ++ bl (fun q => f (32 * k + q)) 32 = bl f (32 * (k + 1)) := by
  rw [bl_join, Nat.mul_succ]

theorem fit_no {x : VState} (h : fitB x = true → False) : fitB x = false := by
  cases hb : fitB x
  · rfl
  · exact (h hb).elim

theorem rts_part {w : World} {a : Option Addr} {n c : Nat} {f : Nat → Int} (h : Rts w a n c f) (k : Nat) (hk : k < n) : ∃ b off, a = some ⟨b, off, none⟩ ∧ Bys w (some ⟨b, off + 32 * k, none⟩) 32 32 (fun q => f (32 * k + q)) := by
  rcases h with ⟨_, h, _⟩ | ⟨_, _, h⟩ | ⟨b, off, h1, h2, h3, h4⟩
  · omega
  · omega
  · exact ⟨b, off, h1, .inr (.inr ⟨b, off + 32 * k, rfl, Nat.le_refl _, by omega, h3, fun j hj => by rw [Nat.add_assoc]; exact h4 (32 * k + j) (by omega)⟩)⟩

theorem arr_part {w : World} {y o : Nat} {f : Nat → Int} (h : Bys w (some ⟨y, o, none⟩) 256 256 f) (k : Nat) (hk : k < 8) : Bys w (some ⟨y, o + k * 32, none⟩) 32 32 (fun q => f (32 * k + q)) := by
  obtain ⟨b, off, e, hl, _, hc⟩ := bys_at h (by omega)
  cases e
  exact .inr (.inr ⟨y, o + k * 32, rfl, Nat.le_refl _, by omega, hl, fun j hj => by
    rw [Nat.add_assoc, show k * 32 + j = 32 * k + j by omega]
    exact hc (32 * k + j) (by omega)⟩)

theorem fit_yes {x : VState} (h7 : x.f7.n ≤ 1024) (h9 : x.f9.n ≤ 8) (h11 : x.f11.n ≤ 65536) (h12 : x.f12.n ≤ 65536) (h15 : x.f15.n ≤ 65536) (h16 : x.f16.n ≤ 65536) (h21 : x.f21.n ≤ 65536) : fitB x = true := by
  unfold fitB
  simp only [Bool.and_eq_true, decide_eq_true_eq]
  omega

theorem bsI_24 (W : World) : (bsI 24 #[(0, .int .i64 8), (1, .int .i64 32), (2, .int .i64 8), (3, .int .i64 16), (4, .int .i64 112), (5, .int .i64 256), (6, .int .i64 256), (7, .int .i64 0), (8, .int .i64 72), (9, .int .i64 0), (10, .int .i64 8), (11, .int .i64 0), (12, .int .i64 0), (13, .int .i64 256), (14, .int .i64 64), (15, .int .i64 0), (16, .int .i64 0), (17, .int .i64 1), (18, .int .i64 40), (19, .int .i64 40), (20, .int .i64 40), (21, .int .i64 0), (22, .int .i64 432), (23, .int .i64 432)]).run Tryd.prog W = .ok (.slice (some ⟨W.heap.size, 0, none⟩) 24 24) (W.alloc (.cells (vs .i64 24 zS) 3)) := by kernel_rfl

theorem rslay (x : VState) (ps : List Pt) (g sa : Nat) (w : World) (hq : ps.map ptb = qS x) (hg : w.heap[g]? = some (.cells (ps.map ptv).toArray 39)) (hs : w.heap[sa]? = some (.cells (vs .i64 24 zS) 3)) (hb : ∀ r, r < 24 → Bys w (ps.getD r nilP).1 (ps.getD r nilP).2.1 (ps.getD r nilP).2.2.1 (ps.getD r nilP).2.2.2) (hf : fitB x = true) :
    Calls Tryd.prog 54 #[.slice (some ⟨g, 0, none⟩) 24 24, .slice (some ⟨sa, 0, none⟩) 24 24] w fun e w' => ∃ v, e = .returned (.tuple #[v, .int .i64 0]) ∧ w'.ownsRow w.heap.size 5 1 v (tL x) (Z.iv (Z.layC zS (pF x) (pL x) 24)) ∧ Below w.heap.size w w' := by
  have hn : ps.length = 24 := by
    have := congrArg List.length hq
    rw [List.length_map] at this
    exact this
  have e1 : (fun r => (ps.getD r nilP).2.1) = pL x := funext fun r => by unfold pL; rw [← hq, getD_ptb]; rfl
  have e2 : (fun r => (ps.getD r nilP).2.2.2) = pF x := funext fun r => by unfold pF; rw [← hq, getD_ptb]; rfl
  have hpar : Z.Parts w (some ⟨g, 0, none⟩) 24 (fun r => (ps.getD r nilP).1) (fun r => (ps.getD r nilP).2.1) (fun r => (ps.getD r nilP).2.2.1) (fun r => (ps.getD r nilP).2.2.2) := by
    refine .inr ⟨g, 0, rfl, (Array.getElem?_eq_some_iff.1 hg).1, fun r hr => ⟨?_, hb r hr⟩⟩
    rw [Nat.zero_add, pt_cell hg r (by omega)]
    rfl
  rw [e1, e2] at hpar
  have hl := fitn hf
  refine Z.rlay_ok zS (some ⟨g, 0, none⟩) 24 24 _ _ _ _ (some ⟨sa, 0, none⟩) 24 w hpar (nmsS hs) (by kernel_rfl) (fun r hr => ?_) (tL_lt hf) (fitsS x)
  rcases r with _ | _ | _ | _ | _ | _ | _ | _ | _ | _ | _ | _ | _ | _ | _ | _ | _ | _ | _ | _ | _ | _ | _ | _ | r
  · show 8 ≤ 9223372036854775807; omega
  · show 32 ≤ 9223372036854775807; omega
  · show 8 ≤ 9223372036854775807; omega
  · show 16 ≤ 9223372036854775807; omega
  · show 112 ≤ 9223372036854775807; omega
  · show 256 ≤ 9223372036854775807; omega
  · show 256 ≤ 9223372036854775807; omega
  · show 32 * x.f7.n ≤ 9223372036854775807; omega
  · show 72 ≤ 9223372036854775807; omega
  · show 72 * x.f9.n ≤ 9223372036854775807; omega
  · show 8 ≤ 9223372036854775807; omega
  · show 121 * x.f11.n ≤ 9223372036854775807; omega
  · show 8 * x.f12.n ≤ 9223372036854775807; omega
  · show 256 ≤ 9223372036854775807; omega
  · show 64 ≤ 9223372036854775807; omega
  · show x.f15.n ≤ 9223372036854775807; omega
  · show x.f16.n ≤ 9223372036854775807; omega
  · show 1 ≤ 9223372036854775807; omega
  · show 40 ≤ 9223372036854775807; omega
  · show 40 ≤ 9223372036854775807; omega
  · show 40 ≤ 9223372036854775807; omega
  · show 8 * x.f21.n ≤ 9223372036854775807; omega
  · show 432 ≤ 9223372036854775807; omega
  · show 432 ≤ 9223372036854775807; omega
  · omega

attribute [local go_sem ↓] bsP_eq bsI_eq lvState_eq svState_eq lvFork_eq lvHeader_eq lvEth1_eq lvCheckpoint_eq lvCommittee_eq lvValidator_eq ixEth1_eq ixValidator_eq ix22_eq ixU_eq

set_option maxHeartbeats 32000000 in
theorem renc_any (x : VState) (w : World) (hx : OkState x) (hw : InW w x) :
    Calls Tryd.prog 20 #[.agg (cel (sState x))] w fun e w' => ∃ a n c E, e = .returned (.tuple #[.slice a n c, .int .i64 E]) ∧ ((fitB x = true ∧ E = 0 ∧ n = tL x ∧ Bys w' a n c (mS x)) ∨ (fitB x = false ∧ E = 6 ∧ a = none ∧ n = 0 ∧ c = 0)) ∧ Below w.heap.size w w' := by
  obtain ⟨W0, hW0⟩ : ∃ W, w.alloc (.cells (cel (sState x)) 49) = W := ⟨_, rfl⟩
  have hB0 : Below w.heap.size w W0 := by rw [← hW0]; exact (Below.refl _ _).alloc (Nat.le_refl _) _
  have r0 : W0.heap[w.heap.size]? = some (.cells (cel (sState x)) 49) := by rw [← hW0]; exact heap_new rfl
  have z0 : w.heap.size < W0.heap.size := by rw [← hW0]; simp
  obtain ⟨y, ey⟩ : ∃ y, w.heap.size = y := ⟨_, rfl⟩
  have hry : ∀ X, Below W0.heap.size W0 X → X.heap[y]? = some (.cells (cel (sState x)) 49) := fun X h => by rw [← ey]; exact (h.block _ z0).trans r0
  have HIN : Hid (∀ X, Below W0.heap.size W0 X → InW X x) := fun X h => hw.below (hB0.trans (h.mono hB0.size))
  have HL0 : Hid (∀ X, Below W0.heap.size W0 X → X.cell? ⟨y, 0, none⟩ = some (.int .u64 x.f0)) := fun X h => cS0 (hry X h)
  have HL1 : Hid (∀ X, Below W0.heap.size W0 X → Bys X (some ⟨y, 1, none⟩) 32 32 x.f1) := fun X h => cS1 (hry X h)
  have HL2 : Hid (∀ X, Below W0.heap.size W0 X → X.cell? ⟨y, 33, none⟩ = some (.int .u64 x.f2)) := fun X h => cS2 (hry X h)
  have HL3 : Hid (∀ X, Below W0.heap.size W0 X → (lvFork ⟨y, 34, none⟩).run Tryd.prog X = .ok (.agg (cel (sFork x.f3))) X) := fun X h => lS3 (hry X h)
  have HL4 : Hid (∀ X, Below W0.heap.size W0 X → (lvHeader ⟨y, 43, none⟩).run Tryd.prog X = .ok (.agg (cel (sHeader x.f4))) X) := fun X h => lS4 (hry X h)
  have HL5 : Hid (∀ X, Below W0.heap.size W0 X → Bys X (some ⟨y, 141, none⟩) 256 256 x.f5) := fun X h => cS5 (hry X h)
  have HL6 : Hid (∀ X, Below W0.heap.size W0 X → Bys X (some ⟨y, 397, none⟩) 256 256 x.f6) := fun X h => cS6 (hry X h)
  have HL7 : Hid (∀ X, Below W0.heap.size W0 X → X.cell? ⟨y, 653, none⟩ = some (.slice x.f7.a x.f7.n x.f7.c)) := fun X h => cS7 (hry X h)
  have HL8 : Hid (∀ X, Below W0.heap.size W0 X → (lvEth1 ⟨y, 654, none⟩).run Tryd.prog X = .ok (.agg (cel (sEth1 x.f8))) X) := fun X h => lS8 (hry X h)
  have HL9 : Hid (∀ X, Below W0.heap.size W0 X → X.cell? ⟨y, 719, none⟩ = some (.slice x.f9.a x.f9.n x.f9.c)) := fun X h => cS9 (hry X h)
  have HL10 : Hid (∀ X, Below W0.heap.size W0 X → X.cell? ⟨y, 720, none⟩ = some (.int .u64 x.f10)) := fun X h => cS10 (hry X h)
  have HL11 : Hid (∀ X, Below W0.heap.size W0 X → X.cell? ⟨y, 721, none⟩ = some (.slice x.f11.a x.f11.n x.f11.c)) := fun X h => cS11 (hry X h)
  have HL12 : Hid (∀ X, Below W0.heap.size W0 X → X.cell? ⟨y, 722, none⟩ = some (.slice x.f12.a x.f12.n x.f12.c)) := fun X h => cS12 (hry X h)
  have HL13 : Hid (∀ X, Below W0.heap.size W0 X → Bys X (some ⟨y, 723, none⟩) 256 256 x.f13) := fun X h => cS13 (hry X h)
  have HL14 : Hid (∀ X, Below W0.heap.size W0 X → ∀ k, k < 8 → X.cell? ⟨y, 979 + k, none⟩ = some (.int .u64 (x.f14 k))) := fun X h k hk => by
    rcases seg_na (hry X h) with h | ⟨b, off, e, _, hc⟩
    · omega
    · cases e
      exact hc k hk
  have HL15 : Hid (∀ X, Below W0.heap.size W0 X → X.cell? ⟨y, 987, none⟩ = some (.slice x.f15.a x.f15.n x.f15.c)) := fun X h => cS15 (hry X h)
  have HL16 : Hid (∀ X, Below W0.heap.size W0 X → X.cell? ⟨y, 988, none⟩ = some (.slice x.f16.a x.f16.n x.f16.c)) := fun X h => cS16 (hry X h)
  have HL17 : Hid (∀ X, Below W0.heap.size W0 X → Z.Bls X (some ⟨y, 989, none⟩) 4 4 x.f17) := fun X h => seg_bits (hry X h)
  have HL18 : Hid (∀ X, Below W0.heap.size W0 X → (lvCheckpoint ⟨y, 993, none⟩).run Tryd.prog X = .ok (.agg (cel (sCheckpoint x.f18))) X) := fun X h => lS18 (hry X h)
  have HL19 : Hid (∀ X, Below W0.heap.size W0 X → (lvCheckpoint ⟨y, 1026, none⟩).run Tryd.prog X = .ok (.agg (cel (sCheckpoint x.f19))) X) := fun X h => lS19 (hry X h)
  have HL20 : Hid (∀ X, Below W0.heap.size W0 X → (lvCheckpoint ⟨y, 1059, none⟩).run Tryd.prog X = .ok (.agg (cel (sCheckpoint x.f20))) X) := fun X h => lS20 (hry X h)
  have HL21 : Hid (∀ X, Below W0.heap.size W0 X → X.cell? ⟨y, 1092, none⟩ = some (.slice x.f21.a x.f21.n x.f21.c)) := fun X h => cS21 (hry X h)
  have HL22 : Hid (∀ X, Below W0.heap.size W0 X → (lvCommittee ⟨y, 1093, none⟩).run Tryd.prog X = .ok (.agg (cel (sCommittee x.f22))) X) := fun X h => lS22 (hry X h)
  have HL23 : Hid (∀ X, Below W0.heap.size W0 X → (lvCommittee ⟨y, 1525, none⟩).run Tryd.prog X = .ok (.agg (cel (sCommittee x.f23))) X) := fun X h => lS23 (hry X h)
  have HB0w := hid hB0
  have HX := hid hx
  have S_0 := hid (Below.refl W0.heap.size W0)
  clear hB0 r0 hx hw hry
  go_enter Tryd.func20, Tryd.ntmps20
  go_upto_region 26 with fail
  clear hW0 ey z0
  have ld := HL0.out _ S_0.out
  obtain ⟨N, eN⟩ : ∃ N, x.f0 = N := ⟨_, rfl⟩
  have hc := rnum10 x.f0 W0 HX.out.o0.1 HX.out.o0.2
  rw [eN] at ld hc
  have HC := hid hc
  have EN := hid eN
  clear hc eN
  go_upto_region 27 with (go_at_call 46; refine HC.out.mono ?_; rintro e X0 ⟨v, rfl, ho, hb⟩; obtain ⟨a0, c0, rfl, hy⟩ := own_at ho; clear ho)
  rw [← EN.out] at hy
  clear HC ld EN
  have S0 := hid (S_0.out.trans (hb.mono S_0.out.size))
  have K0 : Hid (Below W0.heap.size W0 X0) := hb
  have R0 : Hid (∀ X, Below X0.heap.size X0 X → Bys X a0 8 c0 (nmB x.f0)) := fun X h => hy.below h
  clear hb hy
  go_upto_region 28 with (at_builtin; refine wpList_append_bys _ rfl _ _ rfl X0.heap.size _ 0 [] rfl (World.ownsRow_made _ #[] 0 (Nat.le_refl _) (Nat.zero_le _) rfl) _ 32 32 x.f1 rfl (HL1.out _ (S0.out.alloc S0.out.size _)) (by omega) (by simp) ?_; intro v1 X1 ho1 hg1; rw [Nat.zero_add, List.nil_append] at ho1)
  have hb := below_grown ((Below.refl X0.heap.size X0).alloc (Nat.le_refl _) (.cells #[] 5)) (World.ownsRow_made _ #[] 0 (Nat.le_refl _) (Nat.zero_le _) rfl) (by simp) hg1
  obtain ⟨a1, c1, rfl, hy⟩ := own_at ho1
  clear hg1 ho1
  have S1 := hid (S0.out.trans (hb.mono S0.out.size))
  have K1 : Hid (Below X0.heap.size X0 X1) := hb
  have R1 : Hid (∀ X, Below X1.heap.size X1 X → Bys X a1 32 c1 (x.f1)) := fun X h => hy.below h
  clear hb hy
  have ld := HL2.out _ S1.out
  obtain ⟨N, eN⟩ : ∃ N, x.f2 = N := ⟨_, rfl⟩
  have hc := rnum10 x.f2 X1 HX.out.o2.1 HX.out.o2.2
  rw [eN] at ld hc
  have HC := hid hc
  have EN := hid eN
  clear hc eN
  go_upto_region 29 with (go_at_call 46; refine HC.out.mono ?_; rintro e X2 ⟨v, rfl, ho, hb⟩; obtain ⟨a2, c2, rfl, hy⟩ := own_at ho; clear ho)
  rw [← EN.out] at hy
  clear HC ld EN
  have S2 := hid (S1.out.trans (hb.mono S1.out.size))
  have K2 : Hid (Below X1.heap.size X1 X2) := hb
  have R2 : Hid (∀ X, Below X2.heap.size X2 X → Bys X a2 8 c2 (nmB x.f2)) := fun X h => hy.below h
  clear hb hy
  have ld := HL3.out _ S2.out
  obtain ⟨N, eN⟩ : ∃ N, x.f3 = N := ⟨_, rfl⟩
  have hc := rencFork_any x.f3 X2 HX.out.o3
  rw [eN] at ld hc
  have HC := hid hc
  have EN := hid eN
  clear hc eN
  go_upto_region 32 with (go_at_call 47; refine HC.out.mono ?_; rintro e X3 ⟨v, rfl, ho, hb⟩; obtain ⟨a3, c3, rfl, hy⟩ := own_at ho; clear ho)
  rw [← EN.out] at hy
  clear HC ld EN
  have S3 := hid (S2.out.trans (hb.mono S2.out.size))
  have K3 : Hid (Below X2.heap.size X2 X3) := hb
  have R3 : Hid (∀ X, Below X3.heap.size X3 X → Bys X a3 16 c3 (ct7 (eFork x.f3))) := fun X h => hy.below h
  clear hb hy
  have ld := HL4.out _ S3.out
  obtain ⟨N, eN⟩ : ∃ N, x.f4 = N := ⟨_, rfl⟩
  have hc := rencHeader_any x.f4 X3 HX.out.o4
  rw [eN] at ld hc
  have HC := hid hc
  have EN := hid eN
  clear hc eN
  go_upto_region 35 with (go_at_call 48; refine HC.out.mono ?_; rintro e X4 ⟨v, rfl, ho, hb⟩; obtain ⟨a4, c4, rfl, hy⟩ := own_at ho; clear ho)
  rw [← EN.out] at hy
  clear HC ld EN
  have S4 := hid (S3.out.trans (hb.mono S3.out.size))
  have K4 : Hid (Below X3.heap.size X3 X4) := hb
  have R4 : Hid (∀ X, Below X4.heap.size X4 X → Bys X a4 112 c4 (ct7 (eHeader x.f4))) := fun X h => hy.below h
  clear hb hy
  go_upto_region 37 with fail
  obtain ⟨F5, eF5⟩ : ∃ F : Nat → Int, (x.f5) = F := ⟨_, rfl⟩
  have EJ5 : Hid (∀ k, bl F5 (32 * k) ++ bl (fun q => x.f5 (32 * k + q)) 32 = bl F5 (32 * (k + 1))) := fun k => by rw [← eF5]; exact bl_rt x.f5 k
  have EF5 := hid eF5
  clear eF5
  go_loopw [10, 29] (fun v i wr => ∃ k : Nat, k ≤ 8 ∧ i = .int .i64 k ∧ wr.ownsRow X4.heap.size 5 1 v (32 * k) (bl F5 (32 * k)) ∧ Below X4.heap.size X4 wr) (fun _ i _ => 8 - (intOf i).toNat)
  case atStart => exact ⟨0, by omega, rfl, World.ownsRow_nil _ _ _ _, Below.refl _ _⟩
  obtain ⟨k, hk, rfl, hown, hb⟩ := hrel
  by_cases hlt : k < 8
  case pos =>
    have bq : decide (k < 8) = true := by simp; omega
    have k1 : (k : Int) < 8 := by omega
    have k2 : (0 : Int) ≤ (k : Int) := by omega
    have hz := hb.size
    have SR := hid (S4.out.trans (hb.mono S4.out.size))
    have EJK := hid (EJ5.out k)
    obtain ⟨cc, ec⟩ : ∃ c : Nat → Int, (fun q => x.f5 (32 * k + q)) = c := ⟨_, rfl⟩
    rw [ec] at EJK
    have HKK : Hid (∀ X, Below W0.heap.size W0 X → Bys X (some ⟨y, 141 + k * 32, none⟩) 32 32 cc) := fun X h => by rw [← ec]; exact arr_part (HL5.out X h) k hlt
    have HO := hid hown
    have HB := hid hb
    clear hown hb ec
    go_wp2_with (first
      | (at_builtin; refine wpList_append_bys w8 rfl _ _ rfl X4.heap.size _ (32 * k) (bl F5 (32 * k)) rfl (ownsRow_below HO.out HB8.out) a8 32 c8 cc rfl HR8.out (by omega) (by have := HB8.out.size; omega) ?_; intro v9 w9 ho9 hg9)
      | (at_builtin; refine wpList_append_bys _ rfl _ _ rfl wr.heap.size _ 0 [] rfl (World.ownsRow_made _ #[] 0 (Nat.le_refl _) (Nat.zero_le _) rfl) _ 32 32 cc rfl (HKK.out _ (SR.out.alloc SR.out.size _)) (by omega) (by simp) ?_; intro v8 w8 ho8 hg8; rw [Nat.zero_add, List.nil_append] at ho8; have HB8 := hid (below_grown ((Below.refl wr.heap.size wr).alloc (Nat.le_refl _) (.cells #[] 5)) (World.ownsRow_made _ #[] 0 (Nat.le_refl _) (Nat.zero_le _) rfl) (by simp) hg8); obtain ⟨a8, c8, rfl, hr8⟩ := own_at ho8; have HR8 := hid hr8; clear ho8 hg8 hr8))
    go_roundw
    case rel =>
      refine ⟨k + 1, by omega, by go_num, ?_, below_grown (HB.out.trans (HB8.out.mono hz)) (ownsRow_below HO.out HB8.out) (by have := HB8.out.size; omega) hg9⟩
      rw [EJK.out] at ho9
      exact ho9
    case measure => simp [intOf]; omega
  obtain rfl : k = 8 := by omega
  rw [show ((8 : Nat) : Int) = 8 from rfl]
  have bq : decide (8 < 8) = false := by simp
  obtain ⟨X5, eX⟩ : ∃ X, X = wr := ⟨_, rfl⟩
  subst eX
  obtain ⟨a5, c5, rfl, hy⟩ := own_at (show X5.ownsRow X4.heap.size 5 1 _ 256 (bl F5 256) from hown)
  rw [← EF5.out] at hy
  clear hown hk hlt EJ5 EF5
  have S5 := hid (S4.out.trans (hb.mono S4.out.size))
  have K5 : Hid (Below X4.heap.size X4 X5) := hb
  have R5 : Hid (∀ X, Below X5.heap.size X5 X → Bys X a5 256 c5 (x.f5)) := fun X h => hy.below h
  clear hb hy
  go_upto_region 44 with fail
  obtain ⟨F6, eF6⟩ : ∃ F : Nat → Int, (x.f6) = F := ⟨_, rfl⟩
  have EJ6 : Hid (∀ k, bl F6 (32 * k) ++ bl (fun q => x.f6 (32 * k + q)) 32 = bl F6 (32 * (k + 1))) := fun k => by rw [← eF6]; exact bl_rt x.f6 k
  have EF6 := hid eF6
  clear eF6
  go_loopw [11, 31] (fun v i wr => ∃ k : Nat, k ≤ 8 ∧ i = .int .i64 k ∧ wr.ownsRow X5.heap.size 5 1 v (32 * k) (bl F6 (32 * k)) ∧ Below X5.heap.size X5 wr) (fun _ i _ => 8 - (intOf i).toNat)
  case atStart => exact ⟨0, by omega, rfl, World.ownsRow_nil _ _ _ _, Below.refl _ _⟩
  obtain ⟨k, hk, rfl, hown, hb⟩ := hrel
  by_cases hlt : k < 8
  case pos =>
    have bq : decide (k < 8) = true := by simp; omega
    have k1 : (k : Int) < 8 := by omega
    have k2 : (0 : Int) ≤ (k : Int) := by omega
    have hz := hb.size
    have SR := hid (S5.out.trans (hb.mono S5.out.size))
    have EJK := hid (EJ6.out k)
    obtain ⟨cc, ec⟩ : ∃ c : Nat → Int, (fun q => x.f6 (32 * k + q)) = c := ⟨_, rfl⟩
    rw [ec] at EJK
    have HKK : Hid (∀ X, Below W0.heap.size W0 X → Bys X (some ⟨y, 397 + k * 32, none⟩) 32 32 cc) := fun X h => by rw [← ec]; exact arr_part (HL6.out X h) k hlt
    have HO := hid hown
    have HB := hid hb
    clear hown hb ec
    go_wp2_with (first
      | (at_builtin; refine wpList_append_bys w8 rfl _ _ rfl X5.heap.size _ (32 * k) (bl F6 (32 * k)) rfl (ownsRow_below HO.out HB8.out) a8 32 c8 cc rfl HR8.out (by omega) (by have := HB8.out.size; omega) ?_; intro v9 w9 ho9 hg9)
      | (at_builtin; refine wpList_append_bys _ rfl _ _ rfl wr.heap.size _ 0 [] rfl (World.ownsRow_made _ #[] 0 (Nat.le_refl _) (Nat.zero_le _) rfl) _ 32 32 cc rfl (HKK.out _ (SR.out.alloc SR.out.size _)) (by omega) (by simp) ?_; intro v8 w8 ho8 hg8; rw [Nat.zero_add, List.nil_append] at ho8; have HB8 := hid (below_grown ((Below.refl wr.heap.size wr).alloc (Nat.le_refl _) (.cells #[] 5)) (World.ownsRow_made _ #[] 0 (Nat.le_refl _) (Nat.zero_le _) rfl) (by simp) hg8); obtain ⟨a8, c8, rfl, hr8⟩ := own_at ho8; have HR8 := hid hr8; clear ho8 hg8 hr8))
    go_roundw
    case rel =>
      refine ⟨k + 1, by omega, by go_num, ?_, below_grown (HB.out.trans (HB8.out.mono hz)) (ownsRow_below HO.out HB8.out) (by have := HB8.out.size; omega) hg9⟩
      rw [EJK.out] at ho9
      exact ho9
    case measure => simp [intOf]; omega
  obtain rfl : k = 8 := by omega
  rw [show ((8 : Nat) : Int) = 8 from rfl]
  have bq : decide (8 < 8) = false := by simp
  obtain ⟨X6, eX⟩ : ∃ X, X = wr := ⟨_, rfl⟩
  subst eX
  obtain ⟨a6, c6, rfl, hy⟩ := own_at (show X6.ownsRow X5.heap.size 5 1 _ 256 (bl F6 256) from hown)
  rw [← EF6.out] at hy
  clear hown hk hlt EJ6 EF6
  have S6 := hid (S5.out.trans (hb.mono S5.out.size))
  have K6 : Hid (Below X5.heap.size X5 X6) := hb
  have R6 : Hid (∀ X, Below X6.heap.size X6 X → Bys X a6 256 c6 (x.f6)) := fun X h => hy.below h
  clear hb hy
  obtain ⟨k7, ek7⟩ : ∃ k, x.f7.n = k := ⟨_, rfl⟩
  have HLC7 : Hid (∀ X, Below W0.heap.size W0 X → X.cell? ⟨y, 653, none⟩ = some (.slice x.f7.a k7 x.f7.c)) := fun X h => by have := HL7.out X h; rw [ek7] at this; exact this
  have EK7 := hid ek7
  clear ek7
  have ld := HLC7.out _ S6.out
  by_cases d7 : k7 ≤ 1024
  case neg =>
    have F := hid (fit_no (x := x) fun h => d7 (by rw [← EK7.out]; have := fitn h; omega))
    have f0 : (1024 : Int) < (k7 : Int) := by omega
    clear d7
    go_wp2
    go_ret2
    exact ⟨_, _, _, _, rfl, .inr ⟨F.out, rfl, rfl, rfl, rfl⟩, HB0w.out.trans (S6.out.mono HB0w.out.size)⟩
  have f7 : (k7 : Int) ≤ 1024 := by omega
  have g7 : (0 : Int) ≤ (k7 : Int) := by omega
  go_upto_region 53 with fail
  clear ld
  obtain ⟨F7, eF7⟩ : ∃ F : Nat → Int, (x.f7.z) = F := ⟨_, rfl⟩
  have EJ7 : Hid (∀ k, bl F7 (32 * k) ++ bl (fun q => x.f7.z (32 * k + q)) 32 = bl F7 (32 * (k + 1))) := fun k => by rw [← eF7]; exact bl_rt x.f7.z k
  have EF7 := hid eF7
  clear eF7
  go_loopw [12, 33] (fun v i wr => ∃ k : Nat, k ≤ k7 ∧ i = .int .i64 k ∧ wr.ownsRow X6.heap.size 5 1 v (32 * k) (bl F7 (32 * k)) ∧ Below X6.heap.size X6 wr) (fun _ i _ => k7 - (intOf i).toNat)
  case atStart => exact ⟨0, by omega, rfl, World.ownsRow_nil _ _ _ _, Below.refl _ _⟩
  obtain ⟨k, hk, rfl, hown, hb⟩ := hrel
  by_cases hlt : k < k7
  case pos =>
    have bq : decide (k < k7) = true := by simp; omega
    have k1 : (k : Int) < (k7 : Int) := by omega
    have k2 : (0 : Int) ≤ (k : Int) := by omega
    have hz := hb.size
    have SR := hid (S6.out.trans (hb.mono S6.out.size))
    have ld := HLC7.out wr SR.out
    have EJK := hid (EJ7.out k)
    obtain ⟨cc, ec⟩ : ∃ c : Nat → Int, (fun q => x.f7.z (32 * k + q)) = c := ⟨_, rfl⟩
    rw [ec] at EJK
    obtain ⟨b7, o7, e7, _⟩ := rts_part (HIN.out wr SR.out).i7 k (by rw [EK7.out]; exact hlt)
    rw [e7] at ld
    have ix := fun W => ix22_run W b7 o7 k7 x.f7.c k hlt
    obtain ⟨P, eP⟩ : ∃ P, o7 + 32 * k = P := ⟨_, rfl⟩
    simp only [eP] at ix
    have HKK : Hid (∀ X, Below W0.heap.size W0 X → Bys X (some ⟨b7, P, none⟩) 32 32 cc) := fun X h => by
      obtain ⟨b', o', e', hb'⟩ := rts_part (HIN.out X h).i7 k (by rw [EK7.out]; exact hlt)
      rw [e7] at e'
      cases e'
      rw [← ec, ← eP]
      exact hb'
    have HLD : Hid (∀ X, Below W0.heap.size W0 X → X.cell? ⟨y, 653, none⟩ = some (.slice (some ⟨b7, o7, none⟩) k7 x.f7.c)) := fun X h => by rw [← e7]; exact HLC7.out X h
    have ld2 := HLD.out _ (SR.out.alloc SR.out.size (.cells #[] 5))
    clear eP e7
    have HO := hid hown
    have HB := hid hb
    clear hown hb ec
    go_wp2_with (first
      | (at_builtin; refine wpList_append_bys w8 rfl _ _ rfl X6.heap.size _ (32 * k) (bl F7 (32 * k)) rfl (ownsRow_below HO.out HB8.out) a8 32 c8 cc rfl HR8.out (by omega) (by have := HB8.out.size; omega) ?_; intro v9 w9 ho9 hg9)
      | (at_builtin; refine wpList_append_bys _ rfl _ _ rfl wr.heap.size _ 0 [] rfl (World.ownsRow_made _ #[] 0 (Nat.le_refl _) (Nat.zero_le _) rfl) _ 32 32 cc rfl (HKK.out _ (SR.out.alloc SR.out.size _)) (by omega) (by simp) ?_; intro v8 w8 ho8 hg8; rw [Nat.zero_add, List.nil_append] at ho8; have HB8 := hid (below_grown ((Below.refl wr.heap.size wr).alloc (Nat.le_refl _) (.cells #[] 5)) (World.ownsRow_made _ #[] 0 (Nat.le_refl _) (Nat.zero_le _) rfl) (by simp) hg8); obtain ⟨a8, c8, rfl, hr8⟩ := own_at ho8; have HR8 := hid hr8; clear ho8 hg8 hr8))
    go_roundw
    case rel =>
      refine ⟨k + 1, by omega, by go_num, ?_, below_grown (HB.out.trans (HB8.out.mono hz)) (ownsRow_below HO.out HB8.out) (by have := HB8.out.size; omega) hg9⟩
      rw [EJK.out] at ho9
      exact ho9
    case measure => simp [intOf]; omega
  obtain rfl : k7 = k := by omega
  have bq : decide (k7 < k7) = false := by simp
  have ld := HLC7.out wr (S6.out.trans (hb.mono S6.out.size))
  obtain ⟨X7, eX⟩ : ∃ X, X = wr := ⟨_, rfl⟩
  subst eX
  obtain ⟨a7, c7, rfl, hy⟩ := own_at hown
  rw [← EF7.out] at hy
  clear hown hk hlt EJ7 EF7
  have ek := EK7.out
  subst ek
  have S7 := hid (S6.out.trans (hb.mono S6.out.size))
  have K7 : Hid (Below X6.heap.size X6 X7) := hb
  have R7 : Hid (∀ X, Below X7.heap.size X7 X → Bys X a7 (32 * x.f7.n) c7 (x.f7.z)) := fun X h => hy.below h
  clear hb hy
  have ld := HL8.out _ S7.out
  obtain ⟨N, eN⟩ : ∃ N, x.f8 = N := ⟨_, rfl⟩
  have hc := rencEth1_any x.f8 X7 HX.out.o8
  rw [eN] at ld hc
  have HC := hid hc
  have EN := hid eN
  clear hc eN
  go_upto_region 61 with (go_at_call 49; refine HC.out.mono ?_; rintro e X8 ⟨v, rfl, ho, hb⟩; obtain ⟨a8, c8, rfl, hy⟩ := own_at ho; clear ho)
  rw [← EN.out] at hy
  clear HC ld EN
  have S8 := hid (S7.out.trans (hb.mono S7.out.size))
  have K8 : Hid (Below X7.heap.size X7 X8) := hb
  have R8 : Hid (∀ X, Below X8.heap.size X8 X → Bys X a8 72 c8 (ct7 (eEth1 x.f8))) := fun X h => hy.below h
  clear hb hy
  obtain ⟨k9, ek9⟩ : ∃ k, x.f9.n = k := ⟨_, rfl⟩
  have HLC9 : Hid (∀ X, Below W0.heap.size W0 X → X.cell? ⟨y, 719, none⟩ = some (.slice x.f9.a k9 x.f9.c)) := fun X h => by have := HL9.out X h; rw [ek9] at this; exact this
  have EK9 := hid ek9
  clear ek9
  have ld := HLC9.out _ S8.out
  by_cases d9 : k9 ≤ 8
  case neg =>
    have F := hid (fit_no (x := x) fun h => d9 (by rw [← EK9.out]; have := fitn h; omega))
    have f0 : (8 : Int) < (k9 : Int) := by omega
    clear d9
    go_wp2
    go_ret2
    exact ⟨_, _, _, _, rfl, .inr ⟨F.out, rfl, rfl, rfl, rfl⟩, HB0w.out.trans (S8.out.mono HB0w.out.size)⟩
  have f9 : (k9 : Int) ≤ 8 := by omega
  have g9 : (0 : Int) ≤ (k9 : Int) := by omega
  go_upto_region 65 with fail
  clear ld
  obtain ⟨F9, eF9⟩ : ∃ F : Nat → Int, (eB 72 fun i => ct7 (eEth1 (x.f9.z i))) = F := ⟨_, rfl⟩
  have EJ9 : Hid (∀ k, bl F9 (72 * k) ++ bl (ct7 (eEth1 (x.f9.z k))) 72 = bl F9 (72 * (k + 1))) := fun k => by rw [← eF9]; exact bl_each 72 (by omega) (fun i => ct7 (eEth1 (x.f9.z i))) k
  have EF9 := hid eF9
  clear eF9
  go_loopw [14, 35] (fun v i wr => ∃ k : Nat, k ≤ k9 ∧ i = .int .i64 k ∧ wr.ownsRow X8.heap.size 5 1 v (72 * k) (bl F9 (72 * k)) ∧ Below X8.heap.size X8 wr) (fun _ i _ => k9 - (intOf i).toNat)
  case atStart => exact ⟨0, by omega, rfl, World.ownsRow_nil _ _ _ _, Below.refl _ _⟩
  obtain ⟨k, hk, rfl, hown, hb⟩ := hrel
  by_cases hlt : k < k9
  case pos =>
    have bq : decide (k < k9) = true := by simp; omega
    have k1 : (k : Int) < (k9 : Int) := by omega
    have k2 : (0 : Int) ≤ (k : Int) := by omega
    have hz := hb.size
    have SR := hid (S8.out.trans (hb.mono S8.out.size))
    have ld := HLC9.out wr SR.out
    have EJK := hid (EJ9.out k)
    obtain ⟨cc, ec⟩ : ∃ c : Nat → Int, (ct7 (eEth1 (x.f9.z k))) = c := ⟨_, rfl⟩
    rw [ec] at EJK
    have hzk := HX.out.o9 k (by rw [EK9.out]; exact hlt)
    rcases (HIN.out wr SR.out).i9 with h | ⟨b, off, ea, hb1, hc⟩
    · rw [EK9.out] at h
      omega
    have lv := lvEth1_at (hc k (by rw [EK9.out]; exact hlt))
    rw [ea] at ld
    have ix := fun W => ixEth1_run W b off k9 x.f9.c k hlt
    obtain ⟨P, eP⟩ : ∃ P, off + 65 * k = P := ⟨_, rfl⟩
    rw [eP] at lv
    simp only [eP] at ix
    have hen := rencEth1_any (x.f9.z k) wr hzk
    rw [ec] at hen
    obtain ⟨zk, ezk⟩ : ∃ z, x.f9.z k = z := ⟨_, rfl⟩
    rw [ezk] at lv hen
    have HC := hid hen
    clear hzk hc hb1 hen ezk eP ea
    have HO := hid hown
    have HB := hid hb
    clear hown hb ec
    go_wp2_with (first
      | (go_at_call 49; refine HC.out.mono ?_; rintro e w8 ⟨v8, rfl, ho8, hb8⟩; have HB8 := hid hb8; obtain ⟨a8, c8, rfl, hr8⟩ := own_at ho8; have HR8 := hid hr8; clear ho8 hb8 hr8)
      | (at_builtin; refine wpList_append_bys w8 rfl _ _ rfl X8.heap.size _ (72 * k) (bl F9 (72 * k)) rfl (ownsRow_below HO.out HB8.out) a8 72 c8 cc rfl HR8.out (by omega) (by have := HB8.out.size; omega) ?_; intro v9 w9 ho9 hg9))
    go_roundw
    case rel =>
      refine ⟨k + 1, by omega, by go_num, ?_, below_grown (HB.out.trans (HB8.out.mono hz)) (ownsRow_below HO.out HB8.out) (by have := HB8.out.size; omega) hg9⟩
      rw [EJK.out] at ho9
      exact ho9
    case measure => simp [intOf]; omega
  obtain rfl : k9 = k := by omega
  have bq : decide (k9 < k9) = false := by simp
  have ld := HLC9.out wr (S8.out.trans (hb.mono S8.out.size))
  obtain ⟨X9, eX⟩ : ∃ X, X = wr := ⟨_, rfl⟩
  subst eX
  obtain ⟨a9, c9, rfl, hy⟩ := own_at hown
  rw [← EF9.out] at hy
  clear hown hk hlt EJ9 EF9
  have ek := EK9.out
  subst ek
  have S9 := hid (S8.out.trans (hb.mono S8.out.size))
  have K9 : Hid (Below X8.heap.size X8 X9) := hb
  have R9 : Hid (∀ X, Below X9.heap.size X9 X → Bys X a9 (72 * x.f9.n) c9 (eB 72 fun i => ct7 (eEth1 (x.f9.z i)))) := fun X h => hy.below h
  clear hb hy
  have ld := HL10.out _ S9.out
  obtain ⟨N, eN⟩ : ∃ N, x.f10 = N := ⟨_, rfl⟩
  have hc := rnum10 x.f10 X9 HX.out.o10.1 HX.out.o10.2
  rw [eN] at ld hc
  have HC := hid hc
  have EN := hid eN
  clear hc eN
  go_upto_region 73 with (go_at_call 46; refine HC.out.mono ?_; rintro e X10 ⟨v, rfl, ho, hb⟩; obtain ⟨a10, c10, rfl, hy⟩ := own_at ho; clear ho)
  rw [← EN.out] at hy
  clear HC ld EN
  have S10 := hid (S9.out.trans (hb.mono S9.out.size))
  have K10 : Hid (Below X9.heap.size X9 X10) := hb
  have R10 : Hid (∀ X, Below X10.heap.size X10 X → Bys X a10 8 c10 (nmB x.f10)) := fun X h => hy.below h
  clear hb hy
  obtain ⟨k11, ek11⟩ : ∃ k, x.f11.n = k := ⟨_, rfl⟩
  have HLC11 : Hid (∀ X, Below W0.heap.size W0 X → X.cell? ⟨y, 721, none⟩ = some (.slice x.f11.a k11 x.f11.c)) := fun X h => by have := HL11.out X h; rw [ek11] at this; exact this
  have EK11 := hid ek11
  clear ek11
  have ld := HLC11.out _ S10.out
  by_cases d11 : k11 ≤ 65536
  case neg =>
    have F := hid (fit_no (x := x) fun h => d11 (by rw [← EK11.out]; have := fitn h; omega))
    have f0 : (65536 : Int) < (k11 : Int) := by omega
    clear d11
    go_wp2
    go_ret2
    exact ⟨_, _, _, _, rfl, .inr ⟨F.out, rfl, rfl, rfl, rfl⟩, HB0w.out.trans (S10.out.mono HB0w.out.size)⟩
  have f11 : (k11 : Int) ≤ 65536 := by omega
  have g11 : (0 : Int) ≤ (k11 : Int) := by omega
  go_upto_region 77 with fail
  clear ld
  obtain ⟨F11, eF11⟩ : ∃ F : Nat → Int, (eB 121 fun i => ct7 (eValidator (x.f11.z i))) = F := ⟨_, rfl⟩
  have EJ11 : Hid (∀ k, bl F11 (121 * k) ++ bl (ct7 (eValidator (x.f11.z k))) 121 = bl F11 (121 * (k + 1))) := fun k => by rw [← eF11]; exact bl_each 121 (by omega) (fun i => ct7 (eValidator (x.f11.z i))) k
  have EF11 := hid eF11
  clear eF11
  go_loopw [16, 37] (fun v i wr => ∃ k : Nat, k ≤ k11 ∧ i = .int .i64 k ∧ wr.ownsRow X10.heap.size 5 1 v (121 * k) (bl F11 (121 * k)) ∧ Below X10.heap.size X10 wr) (fun _ i _ => k11 - (intOf i).toNat)
  case atStart => exact ⟨0, by omega, rfl, World.ownsRow_nil _ _ _ _, Below.refl _ _⟩
  obtain ⟨k, hk, rfl, hown, hb⟩ := hrel
  by_cases hlt : k < k11
  case pos =>
    have bq : decide (k < k11) = true := by simp; omega
    have k1 : (k : Int) < (k11 : Int) := by omega
    have k2 : (0 : Int) ≤ (k : Int) := by omega
    have hz := hb.size
    have SR := hid (S10.out.trans (hb.mono S10.out.size))
    have ld := HLC11.out wr SR.out
    have EJK := hid (EJ11.out k)
    obtain ⟨cc, ec⟩ : ∃ c : Nat → Int, (ct7 (eValidator (x.f11.z k))) = c := ⟨_, rfl⟩
    rw [ec] at EJK
    have hzk := HX.out.o11 k (by rw [EK11.out]; exact hlt)
    rcases (HIN.out wr SR.out).i11 with h | ⟨b, off, ea, hb1, hc⟩
    · rw [EK11.out] at h
      omega
    have lv := lvValidator_at (hc k (by rw [EK11.out]; exact hlt))
    rw [ea] at ld
    have ix := fun W => ixValidator_run W b off k11 x.f11.c k hlt
    obtain ⟨P, eP⟩ : ∃ P, off + 86 * k = P := ⟨_, rfl⟩
    rw [eP] at lv
    simp only [eP] at ix
    have hen := rencValidator_any (x.f11.z k) wr hzk
    rw [ec] at hen
    obtain ⟨zk, ezk⟩ : ∃ z, x.f11.z k = z := ⟨_, rfl⟩
    rw [ezk] at lv hen
    have HC := hid hen
    clear hzk hc hb1 hen ezk eP ea
    have HO := hid hown
    have HB := hid hb
    clear hown hb ec
    go_wp2_with (first
      | (go_at_call 50; refine HC.out.mono ?_; rintro e w8 ⟨v8, rfl, ho8, hb8⟩; have HB8 := hid hb8; obtain ⟨a8, c8, rfl, hr8⟩ := own_at ho8; have HR8 := hid hr8; clear ho8 hb8 hr8)
      | (at_builtin; refine wpList_append_bys w8 rfl _ _ rfl X10.heap.size _ (121 * k) (bl F11 (121 * k)) rfl (ownsRow_below HO.out HB8.out) a8 121 c8 cc rfl HR8.out (by omega) (by have := HB8.out.size; omega) ?_; intro v9 w9 ho9 hg9))
    go_roundw
    case rel =>
      refine ⟨k + 1, by omega, by go_num, ?_, below_grown (HB.out.trans (HB8.out.mono hz)) (ownsRow_below HO.out HB8.out) (by have := HB8.out.size; omega) hg9⟩
      rw [EJK.out] at ho9
      exact ho9
    case measure => simp [intOf]; omega
  obtain rfl : k11 = k := by omega
  have bq : decide (k11 < k11) = false := by simp
  have ld := HLC11.out wr (S10.out.trans (hb.mono S10.out.size))
  obtain ⟨X11, eX⟩ : ∃ X, X = wr := ⟨_, rfl⟩
  subst eX
  obtain ⟨a11, c11, rfl, hy⟩ := own_at hown
  rw [← EF11.out] at hy
  clear hown hk hlt EJ11 EF11
  have ek := EK11.out
  subst ek
  have S11 := hid (S10.out.trans (hb.mono S10.out.size))
  have K11 : Hid (Below X10.heap.size X10 X11) := hb
  have R11 : Hid (∀ X, Below X11.heap.size X11 X → Bys X a11 (121 * x.f11.n) c11 (eB 121 fun i => ct7 (eValidator (x.f11.z i)))) := fun X h => hy.below h
  clear hb hy
  obtain ⟨k12, ek12⟩ : ∃ k, x.f12.n = k := ⟨_, rfl⟩
  have HLC12 : Hid (∀ X, Below W0.heap.size W0 X → X.cell? ⟨y, 722, none⟩ = some (.slice x.f12.a k12 x.f12.c)) := fun X h => by have := HL12.out X h; rw [ek12] at this; exact this
  have EK12 := hid ek12
  clear ek12
  have ld := HLC12.out _ S11.out
  by_cases d12 : k12 ≤ 65536
  case neg =>
    have F := hid (fit_no (x := x) fun h => d12 (by rw [← EK12.out]; have := fitn h; omega))
    have f0 : (65536 : Int) < (k12 : Int) := by omega
    clear d12
    go_wp2
    go_ret2
    exact ⟨_, _, _, _, rfl, .inr ⟨F.out, rfl, rfl, rfl, rfl⟩, HB0w.out.trans (S11.out.mono HB0w.out.size)⟩
  have f12 : (k12 : Int) ≤ 65536 := by omega
  have g12 : (0 : Int) ≤ (k12 : Int) := by omega
  go_upto_region 88 with fail
  clear ld
  obtain ⟨F12, eF12⟩ : ∃ F : Nat → Int, (eB 8 fun i => nmB (x.f12.z i)) = F := ⟨_, rfl⟩
  have EJ12 : Hid (∀ k, bl F12 (8 * k) ++ bl (nmB (x.f12.z k)) 8 = bl F12 (8 * (k + 1))) := fun k => by rw [← eF12]; exact bl_each 8 (by omega) (fun i => nmB (x.f12.z i)) k
  have EF12 := hid eF12
  clear eF12
  go_loopw [17, 39] (fun v i wr => ∃ k : Nat, k ≤ k12 ∧ i = .int .i64 k ∧ wr.ownsRow X11.heap.size 5 1 v (8 * k) (bl F12 (8 * k)) ∧ Below X11.heap.size X11 wr) (fun _ i _ => k12 - (intOf i).toNat)
  case atStart => exact ⟨0, by omega, rfl, World.ownsRow_nil _ _ _ _, Below.refl _ _⟩
  obtain ⟨k, hk, rfl, hown, hb⟩ := hrel
  by_cases hlt : k < k12
  case pos =>
    have bq : decide (k < k12) = true := by simp; omega
    have k1 : (k : Int) < (k12 : Int) := by omega
    have k2 : (0 : Int) ≤ (k : Int) := by omega
    have hz := hb.size
    have SR := hid (S11.out.trans (hb.mono S11.out.size))
    have ld := HLC12.out wr SR.out
    have EJK := hid (EJ12.out k)
    obtain ⟨cc, ec⟩ : ∃ c : Nat → Int, (nmB (x.f12.z k)) = c := ⟨_, rfl⟩
    rw [ec] at EJK
    have hzk := HX.out.o12 k (by rw [EK12.out]; exact hlt)
    rcases (HIN.out wr SR.out).i12 with h | ⟨b, off, ea, hb1, hc⟩
    · rw [EK12.out] at h
      omega
    have ck := hc k (by rw [EK12.out]; exact hlt)
    rw [ea] at ld
    have ix := fun W => ixU_run W b off k12 x.f12.c k hlt
    obtain ⟨P, eP⟩ : ∃ P, off + k = P := ⟨_, rfl⟩
    rw [eP] at ck
    simp only [eP] at ix
    have hen := rnum10 (x.f12.z k) wr hzk.1 hzk.2
    rw [ec] at hen
    obtain ⟨zk, ezk⟩ : ∃ z, x.f12.z k = z := ⟨_, rfl⟩
    rw [ezk] at ck hen
    have HC := hid hen
    clear hzk hc hb1 hen ezk eP ea
    have HO := hid hown
    have HB := hid hb
    clear hown hb ec
    go_wp2_with (first
      | (go_at_call 46; refine HC.out.mono ?_; rintro e w8 ⟨v8, rfl, ho8, hb8⟩; have HB8 := hid hb8; obtain ⟨a8, c8, rfl, hr8⟩ := own_at ho8; have HR8 := hid hr8; clear ho8 hb8 hr8)
      | (at_builtin; refine wpList_append_bys w8 rfl _ _ rfl X11.heap.size _ (8 * k) (bl F12 (8 * k)) rfl (ownsRow_below HO.out HB8.out) a8 8 c8 cc rfl HR8.out (by omega) (by have := HB8.out.size; omega) ?_; intro v9 w9 ho9 hg9))
    go_roundw
    case rel =>
      refine ⟨k + 1, by omega, by go_num, ?_, below_grown (HB.out.trans (HB8.out.mono hz)) (ownsRow_below HO.out HB8.out) (by have := HB8.out.size; omega) hg9⟩
      rw [EJK.out] at ho9
      exact ho9
    case measure => simp [intOf]; omega
  obtain rfl : k12 = k := by omega
  have bq : decide (k12 < k12) = false := by simp
  have ld := HLC12.out wr (S11.out.trans (hb.mono S11.out.size))
  obtain ⟨X12, eX⟩ : ∃ X, X = wr := ⟨_, rfl⟩
  subst eX
  obtain ⟨a12, c12, rfl, hy⟩ := own_at hown
  rw [← EF12.out] at hy
  clear hown hk hlt EJ12 EF12
  have ek := EK12.out
  subst ek
  have S12 := hid (S11.out.trans (hb.mono S11.out.size))
  have K12 : Hid (Below X11.heap.size X11 X12) := hb
  have R12 : Hid (∀ X, Below X12.heap.size X12 X → Bys X a12 (8 * x.f12.n) c12 (eB 8 fun i => nmB (x.f12.z i))) := fun X h => hy.below h
  clear hb hy
  go_upto_region 95 with fail
  obtain ⟨F13, eF13⟩ : ∃ F : Nat → Int, (x.f13) = F := ⟨_, rfl⟩
  have EJ13 : Hid (∀ k, bl F13 (32 * k) ++ bl (fun q => x.f13 (32 * k + q)) 32 = bl F13 (32 * (k + 1))) := fun k => by rw [← eF13]; exact bl_rt x.f13 k
  have EF13 := hid eF13
  clear eF13
  go_loopw [18, 41] (fun v i wr => ∃ k : Nat, k ≤ 8 ∧ i = .int .i64 k ∧ wr.ownsRow X12.heap.size 5 1 v (32 * k) (bl F13 (32 * k)) ∧ Below X12.heap.size X12 wr) (fun _ i _ => 8 - (intOf i).toNat)
  case atStart => exact ⟨0, by omega, rfl, World.ownsRow_nil _ _ _ _, Below.refl _ _⟩
  obtain ⟨k, hk, rfl, hown, hb⟩ := hrel
  by_cases hlt : k < 8
  case pos =>
    have bq : decide (k < 8) = true := by simp; omega
    have k1 : (k : Int) < 8 := by omega
    have k2 : (0 : Int) ≤ (k : Int) := by omega
    have hz := hb.size
    have SR := hid (S12.out.trans (hb.mono S12.out.size))
    have EJK := hid (EJ13.out k)
    obtain ⟨cc, ec⟩ : ∃ c : Nat → Int, (fun q => x.f13 (32 * k + q)) = c := ⟨_, rfl⟩
    rw [ec] at EJK
    have HKK : Hid (∀ X, Below W0.heap.size W0 X → Bys X (some ⟨y, 723 + k * 32, none⟩) 32 32 cc) := fun X h => by rw [← ec]; exact arr_part (HL13.out X h) k hlt
    have HO := hid hown
    have HB := hid hb
    clear hown hb ec
    go_wp2_with (first
      | (at_builtin; refine wpList_append_bys w8 rfl _ _ rfl X12.heap.size _ (32 * k) (bl F13 (32 * k)) rfl (ownsRow_below HO.out HB8.out) a8 32 c8 cc rfl HR8.out (by omega) (by have := HB8.out.size; omega) ?_; intro v9 w9 ho9 hg9)
      | (at_builtin; refine wpList_append_bys _ rfl _ _ rfl wr.heap.size _ 0 [] rfl (World.ownsRow_made _ #[] 0 (Nat.le_refl _) (Nat.zero_le _) rfl) _ 32 32 cc rfl (HKK.out _ (SR.out.alloc SR.out.size _)) (by omega) (by simp) ?_; intro v8 w8 ho8 hg8; rw [Nat.zero_add, List.nil_append] at ho8; have HB8 := hid (below_grown ((Below.refl wr.heap.size wr).alloc (Nat.le_refl _) (.cells #[] 5)) (World.ownsRow_made _ #[] 0 (Nat.le_refl _) (Nat.zero_le _) rfl) (by simp) hg8); obtain ⟨a8, c8, rfl, hr8⟩ := own_at ho8; have HR8 := hid hr8; clear ho8 hg8 hr8))
    go_roundw
    case rel =>
      refine ⟨k + 1, by omega, by go_num, ?_, below_grown (HB.out.trans (HB8.out.mono hz)) (ownsRow_below HO.out HB8.out) (by have := HB8.out.size; omega) hg9⟩
      rw [EJK.out] at ho9
      exact ho9
    case measure => simp [intOf]; omega
  obtain rfl : k = 8 := by omega
  rw [show ((8 : Nat) : Int) = 8 from rfl]
  have bq : decide (8 < 8) = false := by simp
  obtain ⟨X13, eX⟩ : ∃ X, X = wr := ⟨_, rfl⟩
  subst eX
  obtain ⟨a13, c13, rfl, hy⟩ := own_at (show X13.ownsRow X12.heap.size 5 1 _ 256 (bl F13 256) from hown)
  rw [← EF13.out] at hy
  clear hown hk hlt EJ13 EF13
  have S13 := hid (S12.out.trans (hb.mono S12.out.size))
  have K13 : Hid (Below X12.heap.size X12 X13) := hb
  have R13 : Hid (∀ X, Below X13.heap.size X13 X → Bys X a13 256 c13 (x.f13)) := fun X h => hy.below h
  clear hb hy
  go_upto_region 102 with fail
  obtain ⟨F14, eF14⟩ : ∃ F : Nat → Int, (eB 8 fun i => nmB (x.f14 i)) = F := ⟨_, rfl⟩
  have EJ14 : Hid (∀ k, bl F14 (8 * k) ++ bl (nmB (x.f14 k)) 8 = bl F14 (8 * (k + 1))) := fun k => by rw [← eF14]; exact bl_each 8 (by omega) (fun i => nmB (x.f14 i)) k
  have EF14 := hid eF14
  clear eF14
  go_loopw [19, 43] (fun v i wr => ∃ k : Nat, k ≤ 8 ∧ i = .int .i64 k ∧ wr.ownsRow X13.heap.size 5 1 v (8 * k) (bl F14 (8 * k)) ∧ Below X13.heap.size X13 wr) (fun _ i _ => 8 - (intOf i).toNat)
  case atStart => exact ⟨0, by omega, rfl, World.ownsRow_nil _ _ _ _, Below.refl _ _⟩
  obtain ⟨k, hk, rfl, hown, hb⟩ := hrel
  by_cases hlt : k < 8
  case pos =>
    have bq : decide (k < 8) = true := by simp; omega
    have k1 : (k : Int) < 8 := by omega
    have k2 : (0 : Int) ≤ (k : Int) := by omega
    have hz := hb.size
    have SR := hid (S13.out.trans (hb.mono S13.out.size))
    have EJK := hid (EJ14.out k)
    obtain ⟨cc, ec⟩ : ∃ c : Nat → Int, (nmB (x.f14 k)) = c := ⟨_, rfl⟩
    rw [ec] at EJK
    have hzk := HX.out.o14 k hlt
    have ck := HL14.out wr SR.out k hlt
    have hen := rnum10 (x.f14 k) wr hzk.1 hzk.2
    rw [ec] at hen
    obtain ⟨zk, ezk⟩ : ∃ z, x.f14 k = z := ⟨_, rfl⟩
    rw [ezk] at ck hen
    have HC := hid hen
    clear hzk hen ezk
    have HO := hid hown
    have HB := hid hb
    clear hown hb ec
    go_wp2_with (first
      | (go_at_call 46; refine HC.out.mono ?_; rintro e w8 ⟨v8, rfl, ho8, hb8⟩; have HB8 := hid hb8; obtain ⟨a8, c8, rfl, hr8⟩ := own_at ho8; have HR8 := hid hr8; clear ho8 hb8 hr8)
      | (at_builtin; refine wpList_append_bys w8 rfl _ _ rfl X13.heap.size _ (8 * k) (bl F14 (8 * k)) rfl (ownsRow_below HO.out HB8.out) a8 8 c8 cc rfl HR8.out (by omega) (by have := HB8.out.size; omega) ?_; intro v9 w9 ho9 hg9))
    go_roundw
    case rel =>
      refine ⟨k + 1, by omega, by go_num, ?_, below_grown (HB.out.trans (HB8.out.mono hz)) (ownsRow_below HO.out HB8.out) (by have := HB8.out.size; omega) hg9⟩
      rw [EJK.out] at ho9
      exact ho9
    case measure => simp [intOf]; omega
  obtain rfl : k = 8 := by omega
  rw [show ((8 : Nat) : Int) = 8 from rfl]
  have bq : decide (8 < 8) = false := by simp
  obtain ⟨X14, eX⟩ : ∃ X, X = wr := ⟨_, rfl⟩
  subst eX
  obtain ⟨a14, c14, rfl, hy⟩ := own_at (show X14.ownsRow X13.heap.size 5 1 _ 64 (bl F14 64) from hown)
  rw [← EF14.out] at hy
  clear hown hk hlt EJ14 EF14
  have S14 := hid (S13.out.trans (hb.mono S13.out.size))
  have K14 : Hid (Below X13.heap.size X13 X14) := hb
  have R14 : Hid (∀ X, Below X14.heap.size X14 X → Bys X a14 64 c14 (eB 8 fun i => nmB (x.f14 i))) := fun X h => hy.below h
  clear hb hy
  obtain ⟨k15, ek15⟩ : ∃ k, x.f15.n = k := ⟨_, rfl⟩
  have HLC15 : Hid (∀ X, Below W0.heap.size W0 X → X.cell? ⟨y, 987, none⟩ = some (.slice x.f15.a k15 x.f15.c)) := fun X h => by have := HL15.out X h; rw [ek15] at this; exact this
  have EK15 := hid ek15
  clear ek15
  have ld := HLC15.out _ S14.out
  by_cases d15 : k15 ≤ 65536
  case neg =>
    have F := hid (fit_no (x := x) fun h => d15 (by rw [← EK15.out]; have := fitn h; omega))
    have f0 : (65536 : Int) < (k15 : Int) := by omega
    clear d15
    go_wp2
    go_ret2
    exact ⟨_, _, _, _, rfl, .inr ⟨F.out, rfl, rfl, rfl, rfl⟩, HB0w.out.trans (S14.out.mono HB0w.out.size)⟩
  have f15 : (k15 : Int) ≤ 65536 := by omega
  have g15 : (0 : Int) ≤ (k15 : Int) := by omega
  go_upto_region 111 with fail
  clear ld
  obtain ⟨F15, eF15⟩ : ∃ F : Nat → Int, (x.f15.z) = F := ⟨_, rfl⟩
  have EJ15 : Hid (∀ k, bl F15 (1 * k) ++ bl (fun _ => x.f15.z k) 1 = bl F15 (1 * (k + 1))) := fun k => by rw [← eF15]; exact bl_one1 x.f15.z k
  have EF15 := hid eF15
  clear eF15
  go_loopw [20, 45] (fun v i wr => ∃ k : Nat, k ≤ k15 ∧ i = .int .i64 k ∧ wr.ownsRow X14.heap.size 5 1 v (1 * k) (bl F15 (1 * k)) ∧ Below X14.heap.size X14 wr) (fun _ i _ => k15 - (intOf i).toNat)
  case atStart => exact ⟨0, by omega, rfl, World.ownsRow_nil _ _ _ _, Below.refl _ _⟩
  obtain ⟨k, hk, rfl, hown, hb⟩ := hrel
  by_cases hlt : k < k15
  case pos =>
    have bq : decide (k < k15) = true := by simp; omega
    have k1 : (k : Int) < (k15 : Int) := by omega
    have k2 : (0 : Int) ≤ (k : Int) := by omega
    have hz := hb.size
    have SR := hid (S14.out.trans (hb.mono S14.out.size))
    have ld := HLC15.out wr SR.out
    have EJK := hid (EJ15.out k)
    obtain ⟨cc, ec⟩ : ∃ c : Nat → Int, (fun _ => x.f15.z k) = c := ⟨_, rfl⟩
    rw [ec] at EJK
    obtain ⟨b, off, ea, hb1, _, hc⟩ := bys_at (HIN.out wr SR.out).i15 (by rw [EK15.out]; omega)
    have ck := hc k (by rw [EK15.out]; exact hlt)
    rw [ea] at ld
    obtain ⟨zk, ezk⟩ : ∃ z, x.f15.z k = z := ⟨_, rfl⟩
    rw [ezk] at ck ec
    obtain ⟨w8, hw8⟩ : ∃ W, wr.alloc (.cells #[.int .u8 zk] 5) = W := ⟨_, rfl⟩
    have HB8 : Hid (Below wr.heap.size wr w8) := by rw [← hw8]; exact (Below.refl _ _).alloc (Nat.le_refl _) _
    have HR8 : Hid (Bys w8 (some ⟨wr.heap.size, 0, none⟩) 1 1 cc) := by
      rw [← ec]
      exact one_bys (t := 5) (by rw [← hw8]; exact heap_new rfl)
    have HO := hid hown
    have HB := hid hb
    clear hown hb ec hc hb1 ezk ea
    go_wp2_with (at_builtin; refine wpList_append_bys w8 rfl _ _ rfl X14.heap.size _ (1 * k) (bl F15 (1 * k)) rfl (ownsRow_below HO.out HB8.out) (some ⟨wr.heap.size, 0, none⟩) 1 1 cc rfl HR8.out (by omega) (by have := HB8.out.size; omega) ?_; intro v9 w9 ho9 hg9)
    go_roundw
    case rel =>
      refine ⟨k + 1, by omega, by go_num, ?_, below_grown (HB.out.trans (HB8.out.mono hz)) (ownsRow_below HO.out HB8.out) (by have := HB8.out.size; omega) hg9⟩
      rw [EJK.out] at ho9
      exact ho9
    case measure => simp [intOf]; omega
  obtain rfl : k15 = k := by omega
  have bq : decide (k15 < k15) = false := by simp
  have ld := HLC15.out wr (S14.out.trans (hb.mono S14.out.size))
  obtain ⟨X15, eX⟩ : ∃ X, X = wr := ⟨_, rfl⟩
  subst eX
  obtain ⟨a15, c15, rfl, hy⟩ := own_at hown
  rw [← EF15.out] at hy
  clear hown hk hlt EJ15 EF15
  have ek := EK15.out
  subst ek
  rw [Nat.one_mul] at hy
  rw [Nat.one_mul]
  have S15 := hid (S14.out.trans (hb.mono S14.out.size))
  have K15 : Hid (Below X14.heap.size X14 X15) := hb
  have R15 : Hid (∀ X, Below X15.heap.size X15 X → Bys X a15 x.f15.n c15 (x.f15.z)) := fun X h => hy.below h
  clear hb hy
  obtain ⟨k16, ek16⟩ : ∃ k, x.f16.n = k := ⟨_, rfl⟩
  have HLC16 : Hid (∀ X, Below W0.heap.size W0 X → X.cell? ⟨y, 988, none⟩ = some (.slice x.f16.a k16 x.f16.c)) := fun X h => by have := HL16.out X h; rw [ek16] at this; exact this
  have EK16 := hid ek16
  clear ek16
  have ld := HLC16.out _ S15.out
  by_cases d16 : k16 ≤ 65536
  case neg =>
    have F := hid (fit_no (x := x) fun h => d16 (by rw [← EK16.out]; have := fitn h; omega))
    have f0 : (65536 : Int) < (k16 : Int) := by omega
    clear d16
    go_wp2
    go_ret2
    exact ⟨_, _, _, _, rfl, .inr ⟨F.out, rfl, rfl, rfl, rfl⟩, HB0w.out.trans (S15.out.mono HB0w.out.size)⟩
  have f16 : (k16 : Int) ≤ 65536 := by omega
  have g16 : (0 : Int) ≤ (k16 : Int) := by omega
  go_upto_region 120 with fail
  clear ld
  obtain ⟨F16, eF16⟩ : ∃ F : Nat → Int, (x.f16.z) = F := ⟨_, rfl⟩
  have EJ16 : Hid (∀ k, bl F16 (1 * k) ++ bl (fun _ => x.f16.z k) 1 = bl F16 (1 * (k + 1))) := fun k => by rw [← eF16]; exact bl_one1 x.f16.z k
  have EF16 := hid eF16
  clear eF16
  go_loopw [21, 47] (fun v i wr => ∃ k : Nat, k ≤ k16 ∧ i = .int .i64 k ∧ wr.ownsRow X15.heap.size 5 1 v (1 * k) (bl F16 (1 * k)) ∧ Below X15.heap.size X15 wr) (fun _ i _ => k16 - (intOf i).toNat)
  case atStart => exact ⟨0, by omega, rfl, World.ownsRow_nil _ _ _ _, Below.refl _ _⟩
  obtain ⟨k, hk, rfl, hown, hb⟩ := hrel
  by_cases hlt : k < k16
  case pos =>
    have bq : decide (k < k16) = true := by simp; omega
    have k1 : (k : Int) < (k16 : Int) := by omega
    have k2 : (0 : Int) ≤ (k : Int) := by omega
    have hz := hb.size
    have SR := hid (S15.out.trans (hb.mono S15.out.size))
    have ld := HLC16.out wr SR.out
    have EJK := hid (EJ16.out k)
    obtain ⟨cc, ec⟩ : ∃ c : Nat → Int, (fun _ => x.f16.z k) = c := ⟨_, rfl⟩
    rw [ec] at EJK
    obtain ⟨b, off, ea, hb1, _, hc⟩ := bys_at (HIN.out wr SR.out).i16 (by rw [EK16.out]; omega)
    have ck := hc k (by rw [EK16.out]; exact hlt)
    rw [ea] at ld
    obtain ⟨zk, ezk⟩ : ∃ z, x.f16.z k = z := ⟨_, rfl⟩
    rw [ezk] at ck ec
    obtain ⟨w8, hw8⟩ : ∃ W, wr.alloc (.cells #[.int .u8 zk] 5) = W := ⟨_, rfl⟩
    have HB8 : Hid (Below wr.heap.size wr w8) := by rw [← hw8]; exact (Below.refl _ _).alloc (Nat.le_refl _) _
    have HR8 : Hid (Bys w8 (some ⟨wr.heap.size, 0, none⟩) 1 1 cc) := by
      rw [← ec]
      exact one_bys (t := 5) (by rw [← hw8]; exact heap_new rfl)
    have HO := hid hown
    have HB := hid hb
    clear hown hb ec hc hb1 ezk ea
    go_wp2_with (at_builtin; refine wpList_append_bys w8 rfl _ _ rfl X15.heap.size _ (1 * k) (bl F16 (1 * k)) rfl (ownsRow_below HO.out HB8.out) (some ⟨wr.heap.size, 0, none⟩) 1 1 cc rfl HR8.out (by omega) (by have := HB8.out.size; omega) ?_; intro v9 w9 ho9 hg9)
    go_roundw
    case rel =>
      refine ⟨k + 1, by omega, by go_num, ?_, below_grown (HB.out.trans (HB8.out.mono hz)) (ownsRow_below HO.out HB8.out) (by have := HB8.out.size; omega) hg9⟩
      rw [EJK.out] at ho9
      exact ho9
    case measure => simp [intOf]; omega
  obtain rfl : k16 = k := by omega
  have bq : decide (k16 < k16) = false := by simp
  have ld := HLC16.out wr (S15.out.trans (hb.mono S15.out.size))
  obtain ⟨X16, eX⟩ : ∃ X, X = wr := ⟨_, rfl⟩
  subst eX
  obtain ⟨a16, c16, rfl, hy⟩ := own_at hown
  rw [← EF16.out] at hy
  clear hown hk hlt EJ16 EF16
  have ek := EK16.out
  subst ek
  rw [Nat.one_mul] at hy
  rw [Nat.one_mul]
  have S16 := hid (S15.out.trans (hb.mono S15.out.size))
  have K16 : Hid (Below X15.heap.size X15 X16) := hb
  have R16 : Hid (∀ X, Below X16.heap.size X16 X → Bys X a16 x.f16.n c16 (x.f16.z)) := fun X h => hy.below h
  clear hb hy
  have hc := Z.rvector_any x.f17 (some ⟨y, 989, none⟩) 4 4 X16 (HL17.out _ S16.out) (by omega)
  have HC := hid hc
  clear hc
  go_upto_region 126 with (go_at_call 51; refine HC.out.mono ?_; rintro e X17 ⟨rfl, hr17, hb, _⟩)
  have hy : Bys X17 (some ⟨X16.heap.size, 0, none⟩) 1 1 (fun q => (Z.byt x.f17 4 q : Int)) := bys_new hr17 (by omega)
  obtain ⟨a17, ea17⟩ : ∃ a, some (⟨X16.heap.size, 0, none⟩ : Addr) = a := ⟨_, rfl⟩
  rw [ea17] at hy
  rw [ea17]
  clear HC hr17 ea17
  have S17 := hid (S16.out.trans (hb.mono S16.out.size))
  have K17 : Hid (Below X16.heap.size X16 X17) := hb
  have R17 : Hid (∀ X, Below X17.heap.size X17 X → Bys X a17 1 1 (fun q => (Z.byt x.f17 4 q : Int))) := fun X h => hy.below h
  clear hb hy
  have ld := HL18.out _ S17.out
  obtain ⟨N, eN⟩ : ∃ N, x.f18 = N := ⟨_, rfl⟩
  have hc := rencCheckpoint_any x.f18 X17 HX.out.o18
  rw [eN] at ld hc
  have HC := hid hc
  have EN := hid eN
  clear hc eN
  go_upto_region 129 with (go_at_call 52; refine HC.out.mono ?_; rintro e X18 ⟨v, rfl, ho, hb⟩; obtain ⟨a18, c18, rfl, hy⟩ := own_at ho; clear ho)
  rw [← EN.out] at hy
  clear HC ld EN
  have S18 := hid (S17.out.trans (hb.mono S17.out.size))
  have K18 : Hid (Below X17.heap.size X17 X18) := hb
  have R18 : Hid (∀ X, Below X18.heap.size X18 X → Bys X a18 40 c18 (ct7 (eCheckpoint x.f18))) := fun X h => hy.below h
  clear hb hy
  have ld := HL19.out _ S18.out
  obtain ⟨N, eN⟩ : ∃ N, x.f19 = N := ⟨_, rfl⟩
  have hc := rencCheckpoint_any x.f19 X18 HX.out.o19
  rw [eN] at ld hc
  have HC := hid hc
  have EN := hid eN
  clear hc eN
  go_upto_region 132 with (go_at_call 52; refine HC.out.mono ?_; rintro e X19 ⟨v, rfl, ho, hb⟩; obtain ⟨a19, c19, rfl, hy⟩ := own_at ho; clear ho)
  rw [← EN.out] at hy
  clear HC ld EN
  have S19 := hid (S18.out.trans (hb.mono S18.out.size))
  have K19 : Hid (Below X18.heap.size X18 X19) := hb
  have R19 : Hid (∀ X, Below X19.heap.size X19 X → Bys X a19 40 c19 (ct7 (eCheckpoint x.f19))) := fun X h => hy.below h
  clear hb hy
  have ld := HL20.out _ S19.out
  obtain ⟨N, eN⟩ : ∃ N, x.f20 = N := ⟨_, rfl⟩
  have hc := rencCheckpoint_any x.f20 X19 HX.out.o20
  rw [eN] at ld hc
  have HC := hid hc
  have EN := hid eN
  clear hc eN
  go_upto_region 135 with (go_at_call 52; refine HC.out.mono ?_; rintro e X20 ⟨v, rfl, ho, hb⟩; obtain ⟨a20, c20, rfl, hy⟩ := own_at ho; clear ho)
  rw [← EN.out] at hy
  clear HC ld EN
  have S20 := hid (S19.out.trans (hb.mono S19.out.size))
  have K20 : Hid (Below X19.heap.size X19 X20) := hb
  have R20 : Hid (∀ X, Below X20.heap.size X20 X → Bys X a20 40 c20 (ct7 (eCheckpoint x.f20))) := fun X h => hy.below h
  clear hb hy
  obtain ⟨k21, ek21⟩ : ∃ k, x.f21.n = k := ⟨_, rfl⟩
  have HLC21 : Hid (∀ X, Below W0.heap.size W0 X → X.cell? ⟨y, 1092, none⟩ = some (.slice x.f21.a k21 x.f21.c)) := fun X h => by have := HL21.out X h; rw [ek21] at this; exact this
  have EK21 := hid ek21
  clear ek21
  have ld := HLC21.out _ S20.out
  by_cases d21 : k21 ≤ 65536
  case neg =>
    have F := hid (fit_no (x := x) fun h => d21 (by rw [← EK21.out]; have := fitn h; omega))
    have f0 : (65536 : Int) < (k21 : Int) := by omega
    clear d21
    go_wp2
    go_ret2
    exact ⟨_, _, _, _, rfl, .inr ⟨F.out, rfl, rfl, rfl, rfl⟩, HB0w.out.trans (S20.out.mono HB0w.out.size)⟩
  have f21 : (k21 : Int) ≤ 65536 := by omega
  have g21 : (0 : Int) ≤ (k21 : Int) := by omega
  go_upto_region 139 with fail
  clear ld
  obtain ⟨F21, eF21⟩ : ∃ F : Nat → Int, (eB 8 fun i => nmB (x.f21.z i)) = F := ⟨_, rfl⟩
  have EJ21 : Hid (∀ k, bl F21 (8 * k) ++ bl (nmB (x.f21.z k)) 8 = bl F21 (8 * (k + 1))) := fun k => by rw [← eF21]; exact bl_each 8 (by omega) (fun i => nmB (x.f21.z i)) k
  have EF21 := hid eF21
  clear eF21
  go_loopw [26, 49] (fun v i wr => ∃ k : Nat, k ≤ k21 ∧ i = .int .i64 k ∧ wr.ownsRow X20.heap.size 5 1 v (8 * k) (bl F21 (8 * k)) ∧ Below X20.heap.size X20 wr) (fun _ i _ => k21 - (intOf i).toNat)
  case atStart => exact ⟨0, by omega, rfl, World.ownsRow_nil _ _ _ _, Below.refl _ _⟩
  obtain ⟨k, hk, rfl, hown, hb⟩ := hrel
  by_cases hlt : k < k21
  case pos =>
    have bq : decide (k < k21) = true := by simp; omega
    have k1 : (k : Int) < (k21 : Int) := by omega
    have k2 : (0 : Int) ≤ (k : Int) := by omega
    have hz := hb.size
    have SR := hid (S20.out.trans (hb.mono S20.out.size))
    have ld := HLC21.out wr SR.out
    have EJK := hid (EJ21.out k)
    obtain ⟨cc, ec⟩ : ∃ c : Nat → Int, (nmB (x.f21.z k)) = c := ⟨_, rfl⟩
    rw [ec] at EJK
    have hzk := HX.out.o21 k (by rw [EK21.out]; exact hlt)
    rcases (HIN.out wr SR.out).i21 with h | ⟨b, off, ea, hb1, hc⟩
    · rw [EK21.out] at h
      omega
    have ck := hc k (by rw [EK21.out]; exact hlt)
    rw [ea] at ld
    have ix := fun W => ixU_run W b off k21 x.f21.c k hlt
    obtain ⟨P, eP⟩ : ∃ P, off + k = P := ⟨_, rfl⟩
    rw [eP] at ck
    simp only [eP] at ix
    have hen := rnum10 (x.f21.z k) wr hzk.1 hzk.2
    rw [ec] at hen
    obtain ⟨zk, ezk⟩ : ∃ z, x.f21.z k = z := ⟨_, rfl⟩
    rw [ezk] at ck hen
    have HC := hid hen
    clear hzk hc hb1 hen ezk eP ea
    have HO := hid hown
    have HB := hid hb
    clear hown hb ec
    go_wp2_with (first
      | (go_at_call 46; refine HC.out.mono ?_; rintro e w8 ⟨v8, rfl, ho8, hb8⟩; have HB8 := hid hb8; obtain ⟨a8, c8, rfl, hr8⟩ := own_at ho8; have HR8 := hid hr8; clear ho8 hb8 hr8)
      | (at_builtin; refine wpList_append_bys w8 rfl _ _ rfl X20.heap.size _ (8 * k) (bl F21 (8 * k)) rfl (ownsRow_below HO.out HB8.out) a8 8 c8 cc rfl HR8.out (by omega) (by have := HB8.out.size; omega) ?_; intro v9 w9 ho9 hg9))
    go_roundw
    case rel =>
      refine ⟨k + 1, by omega, by go_num, ?_, below_grown (HB.out.trans (HB8.out.mono hz)) (ownsRow_below HO.out HB8.out) (by have := HB8.out.size; omega) hg9⟩
      rw [EJK.out] at ho9
      exact ho9
    case measure => simp [intOf]; omega
  obtain rfl : k21 = k := by omega
  have bq : decide (k21 < k21) = false := by simp
  have ld := HLC21.out wr (S20.out.trans (hb.mono S20.out.size))
  obtain ⟨X21, eX⟩ : ∃ X, X = wr := ⟨_, rfl⟩
  subst eX
  obtain ⟨a21, c21, rfl, hy⟩ := own_at hown
  rw [← EF21.out] at hy
  clear hown hk hlt EJ21 EF21
  have ek := EK21.out
  subst ek
  have S21 := hid (S20.out.trans (hb.mono S20.out.size))
  have K21 : Hid (Below X20.heap.size X20 X21) := hb
  have R21 : Hid (∀ X, Below X21.heap.size X21 X → Bys X a21 (8 * x.f21.n) c21 (eB 8 fun i => nmB (x.f21.z i))) := fun X h => hy.below h
  clear hb hy
  have ld := HL22.out _ S21.out
  obtain ⟨N, eN⟩ : ∃ N, x.f22 = N := ⟨_, rfl⟩
  have hc := rencCommittee_any x.f22 X21 HX.out.o22
  rw [eN] at ld hc
  have HC := hid hc
  have EN := hid eN
  clear hc eN
  go_upto_region 147 with (go_at_call 53; refine HC.out.mono ?_; rintro e X22 ⟨v, rfl, ho, hb⟩; obtain ⟨a22, c22, rfl, hy⟩ := own_at ho; clear ho)
  rw [← EN.out] at hy
  clear HC ld EN
  have S22 := hid (S21.out.trans (hb.mono S21.out.size))
  have K22 : Hid (Below X21.heap.size X21 X22) := hb
  have R22 : Hid (∀ X, Below X22.heap.size X22 X → Bys X a22 432 c22 (ct7 (eCommittee x.f22))) := fun X h => hy.below h
  clear hb hy
  have ld := HL23.out _ S22.out
  obtain ⟨N, eN⟩ : ∃ N, x.f23 = N := ⟨_, rfl⟩
  have hc := rencCommittee_any x.f23 X22 HX.out.o23
  rw [eN] at ld hc
  have HC := hid hc
  have EN := hid eN
  clear hc eN
  go_upto_region 150 with (go_at_call 53; refine HC.out.mono ?_; rintro e X23 ⟨v, rfl, ho, hb⟩; obtain ⟨a23, c23, rfl, hy⟩ := own_at ho; clear ho)
  rw [← EN.out] at hy
  clear HC ld EN
  have S23 := hid (S22.out.trans (hb.mono S22.out.size))
  have K23 : Hid (Below X22.heap.size X22 X23) := hb
  have R23 : Hid (∀ X, Below X23.heap.size X23 X → Bys X a23 432 c23 (ct7 (eCommittee x.f23))) := fun X h => hy.below h
  clear hb hy
  obtain ⟨ps, eps⟩ : ∃ ps : List Pt, ([(a0, 8, c0, nmB x.f0), (a1, 32, c1, x.f1), (a2, 8, c2, nmB x.f2), (a3, 16, c3, ct7 (eFork x.f3)), (a4, 112, c4, ct7 (eHeader x.f4)), (a5, 256, c5, x.f5), (a6, 256, c6, x.f6), (a7, 32 * x.f7.n, c7, x.f7.z), (a8, 72, c8, ct7 (eEth1 x.f8)), (a9, 72 * x.f9.n, c9, eB 72 fun i => ct7 (eEth1 (x.f9.z i))), (a10, 8, c10, nmB x.f10), (a11, 121 * x.f11.n, c11, eB 121 fun i => ct7 (eValidator (x.f11.z i))), (a12, 8 * x.f12.n, c12, eB 8 fun i => nmB (x.f12.z i)), (a13, 256, c13, x.f13), (a14, 64, c14, eB 8 fun i => nmB (x.f14 i)), (a15, x.f15.n, c15, x.f15.z), (a16, x.f16.n, c16, x.f16.z), (a17, 1, 1, fun q => (Z.byt x.f17 4 q : Int)), (a18, 40, c18, ct7 (eCheckpoint x.f18)), (a19, 40, c19, ct7 (eCheckpoint x.f19)), (a20, 40, c20, ct7 (eCheckpoint x.f20)), (a21, 8 * x.f21.n, c21, eB 8 fun i => nmB (x.f21.z i)), (a22, 432, c22, ct7 (eCommittee x.f22)), (a23, 432, c23, ct7 (eCommittee x.f23))] : List Pt) = ps := ⟨_, rfl⟩
  obtain ⟨Y1, hY1⟩ : ∃ Y, X23.alloc (.cells (ps.map ptv).toArray 39) = Y := ⟨_, rfl⟩
  obtain ⟨Y2, hY2⟩ : ∃ Y, Y1.alloc (.cells (vs .i64 24 zS) 3) = Y := ⟨_, rfl⟩
  have hy1 : Below X23.heap.size X23 Y1 := by rw [← hY1]; exact (Below.refl _ _).alloc (Nat.le_refl _) _
  have hy2 : Below X23.heap.size X23 Y2 := by rw [← hY2]; exact hy1.alloc hy1.size _
  have g1 : Y2.heap[X23.heap.size]? = some (.cells (ps.map ptv).toArray 39) := by
    rw [← hY2, ← hY1]
    exact (heap_old (by simp)).trans (heap_new rfl)
  have g2 : Y2.heap[Y1.heap.size]? = some (.cells (vs .i64 24 zS) 3) := by rw [← hY2]; exact heap_new rfl
  have bs1 := bsP_24 X23 (a0, 8, c0, nmB x.f0) (a1, 32, c1, x.f1) (a2, 8, c2, nmB x.f2) (a3, 16, c3, ct7 (eFork x.f3)) (a4, 112, c4, ct7 (eHeader x.f4)) (a5, 256, c5, x.f5) (a6, 256, c6, x.f6) (a7, 32 * x.f7.n, c7, x.f7.z) (a8, 72, c8, ct7 (eEth1 x.f8)) (a9, 72 * x.f9.n, c9, eB 72 fun i => ct7 (eEth1 (x.f9.z i))) (a10, 8, c10, nmB x.f10) (a11, 121 * x.f11.n, c11, eB 121 fun i => ct7 (eValidator (x.f11.z i))) (a12, 8 * x.f12.n, c12, eB 8 fun i => nmB (x.f12.z i)) (a13, 256, c13, x.f13) (a14, 64, c14, eB 8 fun i => nmB (x.f14 i)) (a15, x.f15.n, c15, x.f15.z) (a16, x.f16.n, c16, x.f16.z) (a17, 1, 1, fun q => (Z.byt x.f17 4 q : Int)) (a18, 40, c18, ct7 (eCheckpoint x.f18)) (a19, 40, c19, ct7 (eCheckpoint x.f19)) (a20, 40, c20, ct7 (eCheckpoint x.f20)) (a21, 8 * x.f21.n, c21, eB 8 fun i => nmB (x.f21.z i)) (a22, 432, c22, ct7 (eCommittee x.f22)) (a23, 432, c23, ct7 (eCommittee x.f23))
  have bs2 := bsI_24 Y1
  have B23 : Below X23.heap.size X23 Y2 := hy2
  have B22 := K23.out.trans (B23.mono K23.out.size)
  have B21 := K22.out.trans (B22.mono K22.out.size)
  have B20 := K21.out.trans (B21.mono K21.out.size)
  have B19 := K20.out.trans (B20.mono K20.out.size)
  have B18 := K19.out.trans (B19.mono K19.out.size)
  have B17 := K18.out.trans (B18.mono K18.out.size)
  have B16 := K17.out.trans (B17.mono K17.out.size)
  have B15 := K16.out.trans (B16.mono K16.out.size)
  have B14 := K15.out.trans (B15.mono K15.out.size)
  have B13 := K14.out.trans (B14.mono K14.out.size)
  have B12 := K13.out.trans (B13.mono K13.out.size)
  have B11 := K12.out.trans (B12.mono K12.out.size)
  have B10 := K11.out.trans (B11.mono K11.out.size)
  have B9 := K10.out.trans (B10.mono K10.out.size)
  have B8 := K9.out.trans (B9.mono K9.out.size)
  have B7 := K8.out.trans (B8.mono K8.out.size)
  have B6 := K7.out.trans (B7.mono K7.out.size)
  have B5 := K6.out.trans (B6.mono K6.out.size)
  have B4 := K5.out.trans (B5.mono K5.out.size)
  have B3 := K4.out.trans (B4.mono K4.out.size)
  have B2 := K3.out.trans (B3.mono K3.out.size)
  have B1 := K2.out.trans (B2.mono K2.out.size)
  have B0 := K1.out.trans (B1.mono K1.out.size)
  have hfit : fitB x = true := fit_yes d7 d9 d11 d12 d15 d16 d21
  have hla := rslay x ps X23.heap.size Y1.heap.size Y2 (by rw [← eps]; rfl) g1 g2 (fun r hr => by
    rw [← eps]
    rcases r with _ | _ | _ | _ | _ | _ | _ | _ | _ | _ | _ | _ | _ | _ | _ | _ | _ | _ | _ | _ | _ | _ | _ | _ | r
    · exact R0.out _ B0
    · exact R1.out _ B1
    · exact R2.out _ B2
    · exact R3.out _ B3
    · exact R4.out _ B4
    · exact R5.out _ B5
    · exact R6.out _ B6
    · exact R7.out _ B7
    · exact R8.out _ B8
    · exact R9.out _ B9
    · exact R10.out _ B10
    · exact R11.out _ B11
    · exact R12.out _ B12
    · exact R13.out _ B13
    · exact R14.out _ B14
    · exact R15.out _ B15
    · exact R16.out _ B16
    · exact R17.out _ B17
    · exact R18.out _ B18
    · exact R19.out _ B19
    · exact R20.out _ B20
    · exact R21.out _ B21
    · exact R22.out _ B22
    · exact R23.out _ B23
    · omega) hfit
  have e1 : ([(a0, 8, c0, nmB x.f0), (a1, 32, c1, x.f1), (a2, 8, c2, nmB x.f2), (a3, 16, c3, ct7 (eFork x.f3)), (a4, 112, c4, ct7 (eHeader x.f4)), (a5, 256, c5, x.f5), (a6, 256, c6, x.f6), (a7, 32 * x.f7.n, c7, x.f7.z), (a8, 72, c8, ct7 (eEth1 x.f8)), (a9, 72 * x.f9.n, c9, eB 72 fun i => ct7 (eEth1 (x.f9.z i))), (a10, 8, c10, nmB x.f10), (a11, 121 * x.f11.n, c11, eB 121 fun i => ct7 (eValidator (x.f11.z i))), (a12, 8 * x.f12.n, c12, eB 8 fun i => nmB (x.f12.z i)), (a13, 256, c13, x.f13), (a14, 64, c14, eB 8 fun i => nmB (x.f14 i)), (a15, x.f15.n, c15, x.f15.z), (a16, x.f16.n, c16, x.f16.z), (a17, 1, 1, fun q => (Z.byt x.f17 4 q : Int)), (a18, 40, c18, ct7 (eCheckpoint x.f18)), (a19, 40, c19, ct7 (eCheckpoint x.f19)), (a20, 40, c20, ct7 (eCheckpoint x.f20)), (a21, 8 * x.f21.n, c21, eB 8 fun i => nmB (x.f21.z i)), (a22, 432, c22, ct7 (eCommittee x.f22)), (a23, 432, c23, ct7 (eCommittee x.f23))] : List Pt).map ptv = ps.map ptv := by rw [eps]
  have HLA := hid hla
  have HFT := hid hfit
  have HBY : Hid (Below W0.heap.size W0 Y2) := S23.out.trans (hy2.mono S23.out.size)
  rw [eps, hY1] at bs1
  rw [hY2] at bs2
  obtain ⟨q1, eq1⟩ : ∃ q, X23.heap.size = q := ⟨_, rfl⟩
  obtain ⟨q2, eq2⟩ : ∃ q, Y1.heap.size = q := ⟨_, rfl⟩
  rw [eq1] at bs1 HLA
  rw [eq2] at bs2 HLA
  replace bs1 : (bsP 24 #[(0, Value.slice a0 8 c0), (1, Value.slice a1 32 c1), (2, Value.slice a2 8 c2), (3, Value.slice a3 16 c3), (4, Value.slice a4 112 c4), (5, Value.slice a5 256 c5), (6, Value.slice a6 256 c6), (7, Value.slice a7 (32 * x.f7.n) c7), (8, Value.slice a8 72 c8), (9, Value.slice a9 (72 * x.f9.n) c9), (10, Value.slice a10 8 c10), (11, Value.slice a11 (121 * x.f11.n) c11), (12, Value.slice a12 (8 * x.f12.n) c12), (13, Value.slice a13 256 c13), (14, Value.slice a14 64 c14), (15, Value.slice a15 x.f15.n c15), (16, Value.slice a16 x.f16.n c16), (17, Value.slice a17 1 1), (18, Value.slice a18 40 c18), (19, Value.slice a19 40 c19), (20, Value.slice a20 40 c20), (21, Value.slice a21 (8 * x.f21.n) c21), (22, Value.slice a22 432 c22), (23, Value.slice a23 432 c23)]).run Tryd.prog X23 = .ok (.slice (some ⟨q1, 0, none⟩) 24 24) Y1 := bs1
  clear eps hY1 hY2 hy1 hy2 g1 g2 hla hfit e1 eq1 eq2 B0 B1 B2 B3 B4 B5 B6 B7 B8 B9 B10 B11 B12 B13 B14 B15 B16 B17 B18 B19 B20 B21 B22 B23
  go_wp2_with (go_at_call 54; refine HLA.out.mono ?_; rintro e w9 ⟨v9, rfl, ho9, hb9⟩; rw [mS_bl] at ho9; obtain ⟨aZ, cZ, rfl, hy9⟩ := own_at ho9; have HY9 := hid hy9; have HB9 := hid hb9; clear ho9 hb9 hy9)
  go_ret2
  have q3 := HB0w.out.size
  exact ⟨aZ, tL x, cZ, 0, rfl, .inl ⟨HFT.out, rfl, rfl, HY9.out⟩, HB0w.out.trans ((HBY.out.trans (HB9.out.mono HBY.out.size)).mono q3)⟩

end Go.Proofs.YtficlakgameglaaDoor
