/-
  The bytes of a state.
-/

import Derived.Test.YtehpfemlcjcabaaStB
import Derived.Test.YtehpfemlcjcabaaStE
import Derived.Test.YtehpfemlcjcabaaBzA
namespace Go.Proofs.Ytehpfemlcjcabaa

open Go.RowKit

set_option linter.unusedVariables false

set_option linter.unusedSimpArgs false

set_option maxRecDepth 20000

/-- The sizes of a state's fields; its parts. -/
def zS (r : Nat) : Int := [8, 32, 8, 16, 112, 256, 256, 0, 72, 0, 8, 0, 0, 256, 64, 0, 0, 1, 40, 40, 40, 0, 432, 432].getD r 0

def qS (x : VState) : List (Nat × (Nat → Int)) := [(8, nmB x.f0), (32, x.f1), (8, nmB x.f2), (16, ct7 (eFork x.f3)), (112, ct7 (eHeader x.f4)), (256, x.f5), (256, x.f6), (32 * x.f7.n, x.f7.z), (72, ct7 (eEth1 x.f8)), (72 * x.f9.n, eB 72 fun i => ct7 (eEth1 (x.f9.z i))), (8, nmB x.f10), (121 * x.f11.n, eB 121 fun i => ct7 (eValidator (x.f11.z i))), (8 * x.f12.n, eB 8 fun i => nmB (x.f12.z i)), (256, x.f13), (64, eB 8 fun i => nmB (x.f14 i)), (x.f15.n, x.f15.z), (x.f16.n, x.f16.z), (1, fun q => (Z.byt x.f17 4 q : Int)), (40, ct7 (eCheckpoint x.f18)), (40, ct7 (eCheckpoint x.f19)), (40, ct7 (eCheckpoint x.f20)), (8 * x.f21.n, eB 8 fun i => nmB (x.f21.z i)), (432, ct7 (eCommittee x.f22)), (432, ct7 (eCommittee x.f23))]

def nilQ : Nat × (Nat → Int) := (0, fun _ => 0)

def pL (x : VState) (r : Nat) : Nat := ((qS x).getD r nilQ).1

def pF (x : VState) (r : Nat) : Nat → Int := ((qS x).getD r nilQ).2

def tL (x : VState) : Nat := Z.hdL zS 24 + Z.loL zS (pL x) 24

theorem tL_is (x : VState) : tL x = 2101 + 32 * x.f7.n + 72 * x.f9.n + 121 * x.f11.n + 8 * x.f12.n + x.f15.n + x.f16.n + 8 * x.f21.n := by
  show 2101 + (0 + 0 + 0 + 0 + 0 + 0 + 0 + 0 + 32 * x.f7.n + 0 + 72 * x.f9.n + 0 + 121 * x.f11.n + 8 * x.f12.n + 0 + 0 + x.f15.n + x.f16.n + 0 + 0 + 0 + 0 + 8 * x.f21.n + 0 + 0) = _
  omega

theorem bsP_24 (W : World) (p0 p1 p2 p3 p4 p5 p6 p7 p8 p9 p10 p11 p12 p13 p14 p15 p16 p17 p18 p19 p20 p21 p22 p23 : Pt) : (bsP 24 #[(0, ptv p0), (1, ptv p1), (2, ptv p2), (3, ptv p3), (4, ptv p4), (5, ptv p5), (6, ptv p6), (7, ptv p7), (8, ptv p8), (9, ptv p9), (10, ptv p10), (11, ptv p11), (12, ptv p12), (13, ptv p13), (14, ptv p14), (15, ptv p15), (16, ptv p16), (17, ptv p17), (18, ptv p18), (19, ptv p19), (20, ptv p20), (21, ptv p21), (22, ptv p22), (23, ptv p23)]).run Try.prog W = .ok (.slice (some ⟨W.heap.size, 0, none⟩) 24 24) (W.alloc (.cells ([p0, p1, p2, p3, p4, p5, p6, p7, p8, p9, p10, p11, p12, p13, p14, p15, p16, p17, p18, p19, p20, p21, p22, p23].map ptv).toArray 39)) := by kernel_rfl

attribute [local go_sem ↓] bsP_eq bsI_eq

theorem fsz_any (w : World) :
    Calls Try.prog 35 #[] w fun e w' => e = .returned (.slice (some ⟨w.heap.size, 0, none⟩) 24 24) ∧ w' = w.alloc (.cells (vs .i64 24 zS) 3) := by
  have bs : (bsI 24 #[(0, .int .i64 8), (1, .int .i64 32), (2, .int .i64 8), (3, .int .i64 16), (4, .int .i64 112), (5, .int .i64 256), (6, .int .i64 256), (7, .int .i64 0), (8, .int .i64 72), (9, .int .i64 0), (10, .int .i64 8), (11, .int .i64 0), (12, .int .i64 0), (13, .int .i64 256), (14, .int .i64 64), (15, .int .i64 0), (16, .int .i64 0), (17, .int .i64 1), (18, .int .i64 40), (19, .int .i64 40), (20, .int .i64 40), (21, .int .i64 0), (22, .int .i64 432), (23, .int .i64 432)]).run Try.prog w = .ok (.slice (some ⟨w.heap.size, 0, none⟩) 24 24) (w.alloc (.cells (vs .i64 24 zS) 3)) := by kernel_rfl
  go_enter Try.func35, Try.ntmps35
  go_wp2
  go_ret
  exact ⟨rfl, rfl⟩

theorem getD_ptb (ps : List Pt) (r : Nat) : (ps.map ptb).getD r nilQ = ptb (ps.getD r nilP) := by
  rw [List.getD_eq_getElem?_getD, List.getD_eq_getElem?_getD, List.getElem?_map]
  cases ps[r]? <;> rfl

theorem slay (x : VState) (ps : List Pt) (g sa : Nat) (w : World) (hq : ps.map ptb = qS x) (hg : w.heap[g]? = some (.cells (ps.map ptv).toArray 39)) (hs : w.heap[sa]? = some (.cells (vs .i64 24 zS) 3)) (hb : ∀ r, r < 24 → Bys w (ps.getD r nilP).1 (ps.getD r nilP).2.1 (ps.getD r nilP).2.2.1 (ps.getD r nilP).2.2.2) (hl : ∀ r, r < 24 → pL x r ≤ 9223372036854775807) (ht : tL x < 4294967296) :
    Calls Try.prog 22 #[.slice (some ⟨g, 0, none⟩) 24 24, .slice (some ⟨sa, 0, none⟩) 24 24] w fun e w' => ∃ v, e = .returned (.tuple #[v, .int .i64 0]) ∧ w'.ownsRow w.heap.size 5 1 v (tL x) (Z.iv (Z.layC zS (pF x) (pL x) 24)) ∧ Below w.heap.size w w' := by
  have hn : ps.length = 24 := by
    have := congrArg List.length hq
    rw [List.length_map] at this
    exact this
  have e1 : (fun r => (ps.getD r nilP).2.1) = pL x := funext fun r => by unfold pL; rw [← hq, getD_ptb]; rfl
  have e2 : (fun r => (ps.getD r nilP).2.2.2) = pF x := funext fun r => by unfold pF; rw [← hq, getD_ptb]; rfl
  have hpar : Z.Parts w (some ⟨g, 0, none⟩) 24 (fun r => (ps.getD r nilP).1) (fun r => (ps.getD r nilP).2.1) (fun r => (ps.getD r nilP).2.2.1) (fun r => (ps.getD r nilP).2.2.2) := by
    refine .inr ⟨g, 0, rfl, (Array.getElem?_eq_some_iff.1 hg).1, fun r hr => ⟨?_, hb r hr⟩⟩
    rw [Nat.zero_add, pt_cell hg r (by omega)]
    rfl
  rw [e1, e2] at hpar
  have hnm : Z.Nms .i64 w (some ⟨sa, 0, none⟩) 24 zS := .inr ⟨sa, 0, rfl, (Array.getElem?_eq_some_iff.1 hs).1, fun j hj => by rw [Nat.zero_add]; exact row_int hs j hj⟩
  refine Z.lay_ok zS (some ⟨g, 0, none⟩) 24 24 _ _ _ _ (some ⟨sa, 0, none⟩) 24 w hpar hnm (by kernel_rfl) hl ?_ ht
  intro r hr h0
  have c : ∀ r, r < 24 → zS r = 0 ∨ (∃ k : Nat, zS r = (k : Int) ∧ ∀ y : VState, pL y r = k) := by
    intro r hr
    rcases r with _ | _ | _ | _ | _ | _ | _ | _ | _ | _ | _ | _ | _ | _ | _ | _ | _ | _ | _ | _ | _ | _ | _ | _ | r
    all_goals first | exact .inl rfl | exact .inr ⟨_, rfl, fun _ => rfl⟩ | omega
  rcases c r hr with h | ⟨k, h1, h2⟩
  · exact absurd h h0
  · rw [h2 x, h1]

/-- The numbers and bits of a field in memory. -/
theorem seg_na {w : World} {g : Nat} {t : TypeId} {x : VState} (h : w.heap[g]? = some (.cells (cel (sState x)) t)) : Z.Nms .u64 w (some ⟨g, 979, none⟩) 8 x.f14 :=
  .inr ⟨g, 979, rfl, (Array.getElem?_eq_some_iff.1 h).1, fun j hj => by
    rcases (by omega : j = 0 ∨ j = 1 ∨ j = 2 ∨ j = 3 ∨ j = 4 ∨ j = 5 ∨ j = 6 ∨ j = 7) with rfl | rfl | rfl | rfl | rfl | rfl | rfl | rfl
    · exact cS14_0 h
    · exact cS14_1 h
    · exact cS14_2 h
    · exact cS14_3 h
    · exact cS14_4 h
    · exact cS14_5 h
    · exact cS14_6 h
    · exact cS14_7 h⟩

theorem seg_bits {w : World} {g : Nat} {t : TypeId} {x : VState} (h : w.heap[g]? = some (.cells (cel (sState x)) t)) : Z.Bls w (some ⟨g, 989, none⟩) 4 4 x.f17 :=
  .inr (.inr ⟨g, 989, rfl, Nat.le_refl _, by omega, (Array.getElem?_eq_some_iff.1 h).1, fun j hj => by
    rcases (by omega : j = 0 ∨ j = 1 ∨ j = 2 ∨ j = 3) with rfl | rfl | rfl | rfl
    · exact cS17_0 h
    · exact cS17_1 h
    · exact cS17_2 h
    · exact cS17_3 h⟩)

theorem rts_of_bys {w : World} {g o n : Nat} {f : Nat → Int} (h : Bys w (some ⟨g, o, none⟩) (32 * n) (32 * n) f) : Rts w (some ⟨g, o, none⟩) n n f := by
  rcases h with ⟨h, _⟩ | ⟨_, h, h0⟩ | ⟨b, off, e, _, _, h3, h4⟩
  · cases h
  · exact .inr (.inl ⟨_, rfl, by omega⟩)
  · exact .inr (.inr ⟨b, off, e, Nat.le_refl _, h3, h4⟩)

attribute [local go_sem ↓] bsP_eq bsI_eq lvState_eq svState_eq lvFork_eq lvHeader_eq lvEth1_eq lvCheckpoint_eq lvCommittee_eq

end Go.Proofs.Ytehpfemlcjcabaa
