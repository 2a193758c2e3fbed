/- A part. -/
import Derived.Test.YtopnhpllidegnaaGreatDoorHdC
import Derived.Test.YtopnhpllidegnaaGreatDoorQL
namespace Go.Proofs.YtopnhpllidegnaaGreatDoor
open Go.RowKit
set_option linter.unusedVariables false
set_option linter.unusedSimpArgs false
set_option maxRecDepth 20000
attribute [local go_sem ↓] lvState_eq svState_eq bdState_eq
set_option maxHeartbeats 4000000 in
theorem told_any (a b : VState) (p q : Option Addr) (n cp cq : Nat) (f : Nat → Int) (e : Int) (w : World) (ha : OkState a) (ia : InW w a) (ib : InW w b) (h : SimF a b) (hp : Rts w p n cp f) (hq : Rts w q n cq f) (hn : n ≤ 140737488355328) :
    Calls Tryz.prog 10 #[.agg (cel (sState a)), .agg (cel (sState b)), .slice p n cp, .slice q n cq, .int .i64 e, .int .i64 e] w fun e' w' => e' = .returned (.bool true) ∧ Below w.heap.size w w' := by
 obtain ⟨W0, hW0⟩ : ∃ W, (w.alloc (.cells (cel (sState a)) 49)).alloc (.cells (cel (sState b)) 49) = W := ⟨_, rfl⟩
 have r0 : W0.heap[w.heap.size]? = some (.cells (cel (sState a)) 49) := by rw [← hW0]; exact (heap_old (by simp)).trans (heap_new rfl)
 have r1 : W0.heap[w.heap.size + 1]? = some (.cells (cel (sState b)) 49) := by rw [← hW0]; exact heap_new (by simp)
 have hB0 : Below w.heap.size w W0 := by rw [← hW0]; exact ((Below.refl _ _).alloc (Nat.le_refl _) _).alloc (by simp) _
 have hsr := rsame_true p q n cp cq f f W0 (hp.below hB0) (hq.below hB0) (fun _ _ => rfl) hn
 have hss : ∀ W, Up W0 W → Calls Tryz.prog 11 #[.agg (cel (sState a)), .agg (cel (sState b))] W fun e w' => e = .returned (.bool true) ∧ Below W.heap.size W w' := fun W hW => rsame_sim a b W ha (ia.below (upT hB0 hW)) (ib.below (upT hB0 hW)) h
 have hla : ∀ W, Up W0 W → (lvState ⟨w.heap.size, 0, none⟩).run Tryz.prog W = .ok (.agg (cel (sState a))) W := fun W hW => lvState_run (upR hW r0)
 have hlb : ∀ W, Up W0 W → (lvState ⟨w.heap.size + 1, 0, none⟩).run Tryz.prog W = .ok (.agg (cel (sState b))) W := fun W hW => lvState_run (upR hW r1)
 have HB := hid hB0
 have HWo := hid hW0
 have HSR := hid hsr
 have HSS := hid hss
 have HLA := hid hla
 have HLB := hid hlb
 clear hB0 hW0 hsr hss hla hlb r0 r1 ha ia ib h hp hq
 go_enter Tryz.func10, Tryz.ntmps10
 go_upto_region 1 with fail
 rw [HWo.out]
 clear HWo
 go_wp2_with (first
  | (go_at_call 31; refine HSR.out.mono ?_; rintro e' w1 ⟨rfl, hb1⟩; have la := HLA.out w1 hb1; have lb := HLB.out w1 hb1; have HB1 := hid hb1; clear hb1)
  | (go_at_call 11; refine (HSS.out w1 HB1.out).mono ?_; rintro e' w2 ⟨rfl, hb2⟩))
 go_ret
 exact ⟨rfl, upT HB.out (upT HB1.out hb2)⟩
def Lns (x : VState) : Prop := x.f11.n ≤ 9223372036854775807 ∧ x.f21.n ≤ 9223372036854775807 ∧ x.f12.n ≤ 9223372036854775807
def PVote : Prop := ∀ (x : VState) (v : VEth1) (w : World), OkState x → InW w x → NilW x → Lns x → OkEth1 v → Calls Tryz.prog 12 #[.agg (cel (sState x)), .agg (cel (sEth1 v))] w fun e' w' => ∃ X, e' = .returned (.tuple #[.agg (cel (sState X)), .int .i64 (voE x)]) ∧ Res w.heap.size w' (voS x v) X ∧ Below w.heap.size w w'
def PRand : Prop := ∀ (x : VState) (s : Nat → Int) (a : Option Addr) (n cap : Nat) (f : Nat → Int) (w : World), OkState x → InW w x → NilW x → Lns x → (∀ j, j < 96 → 0 ≤ s j ∧ s j < 256) → Rts w a n cap f → n ≤ 9223372036854775807 → Sh w → Calls Tryz.prog 8 #[.agg (cel (sState x)), .agg (vs .u8 96 s), .slice a n cap] w (RdA x s f n w)
def zB (n : Nat) : Seg := .by n fun _ => 0
def sBlk1 : List Seg := [.nu 1, .nu 0, zB 32, zB 32, zB 96, zB 32, .nu 0, zB 32, zB 32, .sl none 0 0, .sl none 0 0, .sl none 0 0, .sl none 0 0, .sl none 0 0, .bo false, .bo false, .bo false, .bo false, .bo false, .bo false, .bo false, .bo false, zB 96]
def PHdr0 : Prop := ∀ w : World, Sh w → Calls Tryz.prog 14 #[.agg (cel (sState oState)), .agg (cel sBlk1)] w fun e' w' => e' = .returned (.tuple #[.agg (cel (sState oState)), .int .i64 20]) ∧ Below w.heap.size w w'
def bdBlk (ps : Array (Nat × Value)) : Sem Value := Instr.build 76 ps
theorem bdBlk_eq (ps : Array (Nat × Value)) : Instr.build 76 ps = bdBlk ps := rfl
theorem bdBlk_1 (W : World) : (bdBlk #[(0, .int .u64 1)]).run Tryz.prog W = .ok (.agg (cel sBlk1)) W := by kernel_rfl
def bdE (ps : Array (Nat × Value)) : Sem Value := Instr.build 34 ps
theorem bdE_eq (ps : Array (Nat × Value)) : Instr.build 34 ps = bdE ps := rfl
def eth5 : VEth1 := ⟨fun _ => 0, 5, fun _ => 0⟩
theorem bdE_5 (W : World) : (bdE #[(1, .int .u64 5)]).run Tryz.prog W = .ok (.agg (cel (sEth1 eth5))) W := by kernel_rfl
def bdSg (ps : Array (Nat × Value)) : Sem Value := Instr.build 51 ps
theorem bdSg_eq (ps : Array (Nat × Value)) : Instr.build 51 ps = bdSg ps := rfl
theorem bdSg_0 (W : World) : (bdSg #[]).run Tryz.prog W = .ok (.agg (vs .u8 96 fun _ => 0)) W := by kernel_rfl
theorem right_z : rightB oState = true := by kernel_rfl
theorem lns_z : Lns oState := ⟨Nat.zero_le _, Nat.zero_le _, Nat.zero_le _⟩
theorem vo_z : voE oState = 0 := by unfold voE; rw [right_z]; rfl
theorem rd_z (s f : Nat → Int) (n : Nat) : rdE oState s f n = 7 ∧ rdK oState = 0 := by
 have h := pr_zero
 constructor
 ·unfold rdE; rw [right_z, if_pos rfl, h]; rfl
 ·unfold rdK; rw [right_z, h]; rfl
attribute [local go_sem ↓] bdBlk_eq bdE_eq bdSg_eq
set_option maxHeartbeats 4000000 in
theorem awake17 (pV : PVote) (pR : PRand) (pH : PHdr0) (w : World) (hS : Sh w) :
    Calls Tryz.prog 6 #[] w fun e' w' => e' = .returned (.bool true) ∧ Below w.heap.size w w' := by
 have hv : Calls Tryz.prog 12 #[.agg (cel (sState oState)), .agg (cel (sEth1 eth5))] w fun e' w' => ∃ X : VState, e' = .returned (.tuple #[.agg (cel (sState X)), .int .i64 0]) ∧ X.f9.n = 1 ∧ Below w.heap.size w w' := by
  refine (pV oState eth5 w ok_z15 (inwO w) nilO lns_z ⟨fun _ _ => by show (0 : Int) ≤ 0 ∧ (0 : Int) < 256; omega, by show (0 : Int) ≤ 5 ∧ (5 : Int) < _; omega, fun _ _ => by show (0 : Int) ≤ 0 ∧ (0 : Int) < 256; omega⟩).mono ?_
  rintro e' w' ⟨X, rfl, hr, hb⟩
  rw [vo_z]
  have hl := hr.sim.l9
  unfold voS at hl
  rw [if_pos vo_z] at hl
  exact ⟨X, rfl, hl, hb⟩
 have hh := fun (W : World) (h : Up w W) => pH W (hS.below h)
 have hr : ∀ W, Up w W → Calls Tryz.prog 8 #[.agg (cel (sState oState)), .agg (vs .u8 96 fun _ => 0), .slice none 0 0] W fun e' w' => ∃ (X : VState) (a : Option Addr) (c : Nat), e' = .returned (.tuple #[.agg (cel (sState X)), .slice a 0 c, .int .i64 7]) ∧ Below W.heap.size W w' := fun W h => by
  refine (pR oState (fun _ => 0) none 0 0 (fun _ => 0) W ok_z15 (inwO W) nilO lns_z (fun _ _ => by omega) (.inl ⟨rfl, rfl, rfl⟩) (by omega) (hS.below h)).mono ?_
  rintro e' w' ⟨X, a, c, rfl, _, _, _, hb⟩
  rw [(rd_z _ _ _).1, (rd_z (fun _ => 0) (fun _ => 0) 0).2]
  exact ⟨X, a, c, rfl, hb⟩
 have b0 := bdState_0
 have b1 := bdBlk_1
 have b2 := bdE_5
 have b3 := bdSg_0
 have z := zeroState
 obtain ⟨xo, exo⟩ : ∃ x, oState = x := ⟨_, rfl⟩
 rw [exo] at b0 z hv
 simp only [exo] at hh hr
 obtain ⟨e5, ee5⟩ : ∃ x, eth5 = x := ⟨_, rfl⟩
 rw [ee5] at hv b2
 obtain ⟨bk, ebk⟩ : ∃ x, sBlk1 = x := ⟨_, rfl⟩
 rw [ebk] at b1
 simp only [ebk] at hh
 have HV := hid hv
 have HH := hid hh
 have HR := hid hr
 clear hv hh hr exo ee5 ebk pV pR pH hS
 go_enter Tryz.func6, Tryz.ntmps6
 go_upto_region 2 with (go_at_call 12; refine HV.out.mono ?_; rintro e' w1 ⟨X, rfl, hx1, hb1⟩; have sv := svState_newv w1 xo X)
 obtain ⟨W1, y1, hW1, ey1, r1, hd1, _⟩ := upN2 hb1 (.cells (cel (sState X)) 49)
 rw [hW1, ey1]
 have R1 := hid r1
 have HU1 := hid (upT hb1 hd1)
 have HX1 := hid hx1
 have HC := hid (HH.out W1 HU1.out)
 clear hW1 ey1 r1 hd1 hb1 hx1 sv HV HH
 have sv := fun W => svState_newv W xo xo
 go_upto_region 3 with (go_at_call 14; refine HC.out.mono ?_; rintro e' w2 ⟨rfl, hb2⟩)
 obtain ⟨W2, y2, hW2, ey2, _, hd2, _⟩ := upN2 hb2 (.cells (cel (sState xo)) 49)
 rw [hW2, ey2]
 have hu2 := upT hb2 hd2
 have R2 := hid (upR hu2 R1.out)
 have HU2 := hid (upT HU1.out hu2)
 have HD := hid (HR.out W2 HU2.out)
 clear hW2 ey2 hd2 hb2 hu2 sv HC HR R1 HU1
 go_upto_region 4 with (go_at_call 8; refine HD.out.mono ?_; rintro e' w3 ⟨X3, a3, c3, rfl, hb3⟩; have sv := svState_newv w3 xo X3)
 obtain ⟨W3, y3, hW3, ey3, _, hd3, _⟩ := upN2 hb3 (.cells (cel (sState X3)) 49)
 rw [hW3, ey3]
 have hu3 := upT hb3 hd3
 have c9 := cS9 (upR hu3 R2.out)
 rw [HX1.out] at c9
 have HU3 := hid (upT HU2.out hu3)
 clear hW3 ey3 hd3 hb3 hu3 sv HD R2 HU2
 go_wp2
 go_ret
 exact ⟨rfl, HU3.out⟩
end Go.Proofs.YtopnhpllidegnaaGreatDoor
