/-
 What the program's Randao answers: its ends.
-/
import Derived.Test.YtopnhpllidegnaaGreatDoorHdQ
namespace Go.Proofs.YtopnhpllidegnaaGreatDoor
open Go.RowKit
set_option linter.unusedVariables false
set_option linter.unusedSimpArgs false
set_option maxRecDepth 20000
def RdJ (e : Int) (b : Nat) (aq : Option Addr) (nq cq : Nat) (a' : Act) : Prop := ∃ u0 u1 u2 u3 u4 u5 u7 u8 u9 u10 u13 u14 u15 u16 u17 u18 u19 u20 u21 u22 u23 u24 u25 u26 u27 u28 u29 u30 u31 u32 u33 u34 u35 u36 u37 u38 u39 u40 u41 u42 u43 u44 u45 u46 u47 u48, a' = { tmps := #[u0, u1, u2, u3, u4, u5, .pointer (some ⟨b + 2, 0, none⟩), u7, u8, u9, u10, .slice aq nq cq, .int .i64 e, u13, u14, u15, u16, u17, u18, u19, u20, u21, u22, u23, u24, u25, u26, u27, u28, u29, u30, u31, u32, u33, u34, u35, u36, u37, u38, u39, u40, u41, u42, u43, u44, u45, u46, u47, u48], defers := [] }
theorem upG {B : Nat} {w0 w w' : World} (hb : Below B w0 w) (hB : B ≤ w.heap.size) (hg : w.grownBy w' none) : Below B w0 w' :=
 ⟨hg.os.trans hb.os, hg.tape.trans hb.tape, hg.output.trans hb.output, Nat.le_trans hb.size hg.size, fun k hk => (hg.block k (by omega) (fun e => by cases e)).trans (hb.block k hk)⟩
attribute [local go_sem ↓] lvState_eq svState_eq bdState_eq sv24_eq lv24_eq bs22_eq lvSg_eq
set_option maxHeartbeats 16000000 in
theorem rand_prog : PRand := fun x s a n cap f w hx hw hn hl hs hr hnn hS => by
 obtain ⟨W0, hW0⟩ : ∃ W, ((w.alloc (.cells (cel (sState x)) 49)).alloc (.cells (vs .u8 96 s) 51)).alloc (.cells (cel (sState oState)) 49) = W := ⟨_, rfl⟩
 have r0 : W0.heap[w.heap.size]? = some (.cells (cel (sState x)) 49) := by rw [← hW0]; exact (heap_old (by simp <;> omega)).trans ((heap_old (by simp)).trans (heap_new rfl))
 have r1 : W0.heap[w.heap.size + 1]? = some (.cells (vs .u8 96 s) 51) := by rw [← hW0]; exact (heap_old (by simp)).trans (heap_new (by simp))
 have r2 : W0.heap[w.heap.size + 2]? = some (.cells (cel (sState oState)) 49) := by rw [← hW0]; exact heap_new (by simp)
 have hB0 : Up w W0 := by rw [← hW0]; exact (((Below.refl _ _).alloc (Nat.le_refl _) _).alloc (by simp) _).alloc (by simp <;> omega) _
 have s0 : W0.heap.size = w.heap.size + 3 := by rw [← hW0]; simp
 obtain ⟨W1, hW1⟩ : ∃ W, W0.alloc (.cells (vs .u8 32 fun _ => 0) 24) = W := ⟨_, rfl⟩
 have r3 : W1.heap[w.heap.size + 3]? = some (.cells (vs .u8 32 fun _ => 0) 24) := by rw [← hW1]; exact heap_new (by omega)
 have hB1 : Up W0 W1 := by rw [← hW1]; exact (Below.refl _ _).alloc (Nat.le_refl _) _
 replace r0 := upR hB1 r0
 replace r1 := upR hB1 r1
 replace r2 := upR hB1 r2
 have hB := upT hB0 hB1
 have z3 : w.heap.size + 3 < W1.heap.size := some_lt r3
 have hri := right_any x W1 hx.r' (hw.below hB).r' hl
 have z := zeroState
 have zr := zero_root
 have HB := hid hB
 have HW0 := hid hW0
 have HW1 := hid hW1
 have R0 := hid r0
 have R1 := hid r1
 have R2 := hid r2
 have R3 := hid r3
 have HSZ := hid s0
 have HRI := hid hri
 clear hW0 hW1 hri hB0 hB1 r3 s0
 unfold RdA
 obtain ⟨E0, hE⟩ : ∃ e, rdE x s f n = e := ⟨_, rfl⟩
 obtain ⟨RS, hYS⟩ : ∃ y, rdS x s f n = y := ⟨_, rfl⟩
 obtain ⟨NQ, hNQ⟩ : ∃ k, rdK x = k := ⟨_, rfl⟩
 obtain ⟨QV, hQQ⟩ : ∃ q, rdQ x s = q := ⟨_, rfl⟩
 rw [hE, hYS, hNQ, hQQ]
 have hS0 : ¬ E0 = 0 → RS = oState := fun h => by rw [← hYS]; unfold rdS; rw [if_neg (by rw [hE]; exact h)]
 have HE := hid hE
 have HYS := hid hYS
 have HNQ := hid hNQ
 have HQQ := hid hQQ
 have HS0 := hid hS0
 clear hE hYS hNQ hQQ hS0
 go_enter Tryz.func8, Tryz.ntmps8
 go_wp2
 rw [HW0.out]
 clear HW0 z
 refine wp_scope_jumps 0 (fun a' w' => ¬ E0 = 0 ∧ ∃ aq cq, RdJ E0 w.heap.size aq NQ cq a' ∧ w'.heap[w.heap.size + 2]? = some (.cells (cel (sState oState)) 49) ∧ (∀ c, Rts (w'.setRow (w.heap.size + 2) c) aq NQ cq QV) ∧ NwL w.heap.size aq NQ ∧ Up w w') (fun _ _ => 0) rfl ?first ?pass
 case pass =>
  rintro a' wr ⟨hne, aq, cq, ⟨u0, u1, u2, u3, u4, u5, u7, u8, u9, u10, u13, u14, u15, u16, u17, u18, u19, u20, u21, u22, u23, u24, u25, u26, u27, u28, u29, u30, u31, u32, u33, u34, u35, u36, u37, u38, u39, u40, u41, u42, u43, u44, u45, u46, u47, u48, rfl⟩, hrow, hrt, hnw, hup⟩
  obtain rfl := HS0.out hne
  have bz := bdState_0
  have s1 := svState_run hrow oState
  have HRW := hid hrow
  have HUP := hid hup
  have HRT := hid hrt
  have HNW := hid hnw
  clear hne hrow hup hrt hnw HE HYS HNQ HQQ HS0 HRI R0 R1 R2 R3 hx hw hn hl hs hr hnn hS zr HW1 HB HSZ r0 r1 r2 hB z3
  go_wp2
  simp only [Exit.jump]
  exact retState3 6 7 8 (w.heap.size + 2) oState 49 (.slice aq NQ cq) (.int .i64 E0) rfl rfl rfl rfl rfl (setRow_at HRW.out) ⟨oState, aq, cq, rfl, resO _ _, HRT.out _, HNW.out, below_row HUP.out (by omega) _⟩
 case first =>
  have lx := lvState_run r0
  cases hR : rightB x
  ·rw [hR] at HRI
   obtain rfl : E0 = 1 := by rw [← HE.out]; unfold rdE; rw [hR]; rfl
   obtain rfl : NQ = 0 := by rw [← HNQ.out]; unfold rdK; rw [hR]; rfl
   clear HE HYS HNQ HQQ HS0 hx hw hn hl hs hr hnn hS r0 r1 r2 hB R0 R1 R3
   go_upto_region 3 with fail
   rw [HW1.out]
   clear HW1 zr
   go_wp2_with (go_at_call 15; refine HRI.out.mono ?_; rintro e' w1 ⟨rfl, hb1⟩)
   go_step3
   exact ⟨rfl, by decide, none, 0, ⟨_, _, _, _, _, _, _, _, _, _, _, _, _, _, _, _, _, _, _, _, _, _, _, _, _, _, _, _, _, _, _, _, _, _, _, _, _, _, _, _, _, _, _, _, _, _, rfl⟩, upR hb1 R2.out, fun _ => .inl ⟨rfl, rfl, rfl⟩, .inl rfl, upT HB.out hb1⟩
  ·rw [hR] at HRI
   have hpr := fun (W : World) (h : Up w W) => prop_prog x W hx ((rightB_out hR).lk hx (hw.below h)) (hS.below h)
   rcases pr_one x with ⟨h0, V, eV, hV⟩ | h7
   ·have eE : rdE x s f n = if gdB (rdQ x s) f n = true then 0 else 25 := by unfold rdE; rw [hR, if_pos rfl, if_pos h0]
    have eN : rdK x = 1 := by unfold rdK; rw [hR, h0]; rfl
    have eQ : rdQ x s = qsV (x.f11.z V).f0 1 (tw (nuR (x.f2 / 4)) (domV x 2 (x.f2 / 4))) s := by unfold rdQ; rw [eV]; rfl
    have f20 := hx.o2.1
    have f2b : x.f2 < 1099511627776 := (rightB_out hR).c7
    have hqu : ∀ W, Up w W → Calls Tryz.prog 17 #[.agg (cel (sState x)), .int .u64 (V : Int), .agg (vs .u8 96 s)] W fun e' w' => e' = .returned (.agg (vs .u8 32 (rdQ x s))) ∧ Below W.heap.size W w' := fun W h => by
     rw [eQ]
     exact quest_any x V s W hx (hw.below h) hV hs f2b (hS.below h)
    have hgo := fun (W : World) (h : Up w W) => goo_prog (rdQ x s) f a n cap W (hr.below h) hnn
    have hcp : ∀ W : World, Up w W → Calls Tryz.prog 19 #[.agg (cel (sState x))] W fun e w' => ∃ X : VState, e = .returned (.agg (cel (sState X))) ∧ SimF x X ∧ CpdF W.heap.size w' X ∧ Below W.heap.size W w' := fun W h => copyC_any x W (hw.below h) hn (small_rch hR)
    have hep : ∀ X, SimF x X → ∀ W, Calls Tryz.prog 21 #[.agg (cel (sState X))] W fun e' w' => e' = .returned (.int .u64 (x.f2 / 4)) ∧ Below W.heap.size W w' := fun X h W => by
     have := epo_any X W (by rw [h.e2]; exact f20) (by rw [h.e2]; exact f2b)
     rw [h.e2] at this
     exact this
    have hgf : ∀ X, SimF x X → gdB (rdQ x s) f n = true → SimF (rdS x s f n) { X with f13 := mxV X.f13 (shaV KW HW s 96) (x.f2 / 4 % 8).toNat 32 } := fun X h hg => by
     have : rdS x s f n = rdY x s := by unfold rdS; rw [eE, if_pos hg]; rfl
     rw [this]
     exact ⟨h.e0, h.e1, h.e2, h.e3, h.e4, h.e5, h.e6, h.l7, h.z7, h.e8, h.l9, h.z9, h.e10, h.l11, h.z11, h.l12, h.z12, by show mxV X.f13 _ _ 32 = mxV x.f13 _ _ 32; rw [h.e13], h.e14, h.l15, h.z15, h.l16, h.z16, h.e17, h.e18, h.e19, h.e20, h.l21, h.z21, h.e22, h.e23⟩
    have hpr1 : ∀ W, Up w W → Calls Tryz.prog 16 #[.agg (cel (sState x))] W fun e' w' => e' = .returned (.tuple #[.int .u64 (V : Int), .int .i64 0]) ∧ Below W.heap.size W w' := fun W h => by
     have := hpr W h
     rw [eV, h0] at this
     exact this
    obtain rfl : NQ = 1 := HNQ.out.symm.trans eN
    rw [HYS.out, HQQ.out] at hgf
    rw [HE.out, HQQ.out] at eE
    rw [HQQ.out] at hqu
    simp only [HQQ.out] at hgo
    obtain ⟨GB, eGB⟩ : ∃ g, gdB QV f n = g := ⟨_, rfl⟩
    rw [eGB] at eE
    simp only [eGB] at hgo hgf
    have HEE := hid eE
    have hE8 : (x.f2 / 4 % 8).toNat < 8 := by omega
    have eE8 : x.f2 / 4 % 8 = ((x.f2 / 4 % 8).toNat : Int) := by omega
    have hEP0 : 0 ≤ x.f2 / 4 := by omega
    generalize (x.f2 / 4 % 8).toNat = E at hgf hE8 eE8
    obtain ⟨EP, eEP⟩ : ∃ e, x.f2 / 4 = e := ⟨_, rfl⟩
    rw [eEP] at eE8 hEP0
    simp only [eEP] at hep
    have HPR := hid hpr1
    have HQU := hid hqu
    have HGO := hid hgo
    have HCP := hid hcp
    have HEP := hid hep
    have HGX := hid hgf
    have HSB := hid hs
    have HSH := hid hS
    clear HE HYS HNQ HQQ HS0 hpr hpr1 hqu hgo hcp hep hgf hx hw hn hl hs hr hnn hS r0 r1 r2 hB eE eN eQ f20 f2b eEP eV hV h0 hR eGB
    go_upto_region 3 with fail
    rw [HW1.out, HSZ.out]
    clear HW1 zr HSZ
    go_upto_region 6 with (go_at_call 15; refine HRI.out.mono ?_; rintro e' w1 ⟨rfl, hb1⟩)
    have hu1 := upT HB.out hb1
    replace lx := lvState_run (upR hb1 R0.out)
    have HP1 := hid (HPR.out w1 hu1)
    have HU1 := hid hb1
    clear hu1 hb1 HRI HPR
    go_upto_region 8 with (go_at_call 16; refine HP1.out.mono ?_; rintro e' w2 ⟨rfl, hb2⟩)
    have hu2 := upT HU1.out hb2
    replace lx := lvState_run (upR hu2 R0.out)
    have ls := lvSgR (upR hu2 R1.out)
    have HQ1 := hid (HQU.out w2 (upT HB.out hu2))
    have HU2 := hid hu2
    clear hu2 hb2 HP1 HU1 HQU
    go_upto_region 9 with (go_at_call 17; refine HQ1.out.mono ?_; rintro e' w3 ⟨rfl, hb3⟩; have sv := sv24_run (upR (upT HU2.out hb3) R3.out) QV)
    have hu3 := upT HU2.out hb3
    obtain ⟨W5, hW5⟩ : ∃ W, w3.setRow (w.heap.size + 3) (vs .u8 32 QV) = W := ⟨_, rfl⟩
    have q0 : W5.heap[w.heap.size]? = some (.cells (cel (sState x)) 49) := by rw [← hW5, setRow_other (by omega)]; exact upR hu3 R0.out
    have q1 : W5.heap[w.heap.size + 1]? = some (.cells (vs .u8 96 s) 51) := by rw [← hW5, setRow_other (by omega)]; exact upR hu3 R1.out
    have q2 : W5.heap[w.heap.size + 2]? = some (.cells (cel (sState oState)) 49) := by rw [← hW5, setRow_other (by omega)]; exact upR hu3 R2.out
    have q3 : W5.heap[w.heap.size + 3]? = some (.cells (vs .u8 32 QV) 24) := by rw [← hW5]; exact setRow_at (upR hu3 R3.out)
    have hu5 : Up w W5 := by rw [← hW5]; exact below_row (upT HB.out hu3) (by omega) _
    rw [hW5]
    clear hW5 sv hu3 hb3 HQ1 HU2 lx ls R0 R1 R2 R3
    obtain ⟨W6, y6, hW6, ey6, r6, hd6, b6⟩ := upN2 hu5 (.cells (vs .u8 32 QV) 24)
    have SS := hid (src_rts (n := 1) (c := 1) (f := QV) (.inr (.inr ⟨y6, 0, rfl, Nat.le_refl _, some_ltK r6, fun j hj => by rw [Nat.zero_add]; exact row_int r6 j hj⟩) : Rts W6 (some ⟨y6, 0, none⟩) 1 1 QV))
    obtain ⟨ii, hi, hz0, hz1, hz2⟩ := info_out (P := Tryz.prog) (t := 24) (z := .agg (vs .u8 32 fun _ => 0)) (s := 32) (b := 32) (by kernel_rfl)
    have II := hid (And.intro hi (And.intro hz0 (And.intro hz1 hz2)))
    have lq := lv24_run q3
    have bs1 := fun W => bs22_1 W QV
    have HU6 := hid (upT hu5 hd6)
    have Q0 := hid (upR hd6 q0)
    have Q1 := hid (upR hd6 q1)
    have Q2 := hid (upR hd6 q2)
    have Q3 := hid (upR hd6 q3)
    have HW6 := hid hW6
    have HY6 := hid ey6
    clear hW6 ey6 r6 hd6 b6 q0 q1 q2 q3 hu5 hi hz0 hz1 hz2
    go_upto_region 10 with (at_builtin; rw [HW6.out, HY6.out]; refine app_src _ rfl _ _ 32 rfl w.heap.size 24 ii (.agg (vs .u8 32 fun _ => 0)) 32 32 Tryz.underlying32 II.out.1 II.out.2.1 II.out.2.2.1 II.out.2.2.2 (by kernel_rfl) (by omega) (.slice none 0 0) 0 [] rfl (World.ownsRow_nil _ _ _ _) _ _ _ _ rfl SS.out (by unfold maxLen; omega) (by omega) HU6.out.size ?_; intro v7 w7 ho hg; obtain ⟨a7, c7, rfl⟩ := owns_form ho; have hu7 := upG (Below.refl W6.heap.size W6) (Nat.le_refl _) hg; have HO := hid ho; have HU7 := hid hu7; clear ho hg hu7)
    have e7 : ([] : List Value) ++ bl QV (32 * 1) = bl QV (32 * 1) := rfl
    rw [e7] at HO
    have HON := hid (show w7.ownsRow w.heap.size 24 32 (.slice a7 1 c7) 1 (bl QV (32 * 1)) from HO.out)
    have hu7 := upT HU6.out HU7.out
    have lq := lv24_run (upR HU7.out Q3.out)
    have HGD := hid (HGO.out w7 hu7)
    have P0 := hid (upR HU7.out Q0.out)
    have P1 := hid (upR HU7.out Q1.out)
    have P2 := hid (upR HU7.out Q2.out)
    have HUP := hid hu7
    clear hu7 HU6 HU7 HO Q0 Q1 Q2 Q3 HGO SS II HW6 HY6 e7 bs1
    cases GB
    ·clear HCP HEP HGX HSB
     obtain rfl : E0 = 25 := HEE.out
     clear HEE
     go_wp2_with (go_at_call 18; refine HGD.out.mono ?_; rintro e' w8 ⟨rfl, hb8⟩)
     go_step3
     exact ⟨rfl, by decide, a7, c7, ⟨_, _, _, _, _, _, _, _, _, _, _, _, _, _, _, _, _, _, _, _, _, _, _, _, _, _, _, _, _, _, _, _, _, _, _, _, _, _, _, _, _, _, _, _, _, _, rfl⟩, upR hb8 P2.out, fun c => own_rtF (own_keptB (ownsRow_below HON.out hb8) ((Kept.refl _ _).setRow c) (own_ne (ownsRow_below HON.out hb8) (upR hb8 P2.out) (by decide))), own_nw HON.out, upT HUP.out hb8⟩
    ·obtain rfl : E0 = 0 := HEE.out
     clear HEE
     go_upto_region 12 with (go_at_call 18; refine HGD.out.mono ?_; rintro e' w8 ⟨rfl, hb8⟩)
     have hu8 := upT HUP.out hb8
     have lx := lvState_run (upR hb8 P0.out)
     have HCR := hid (HCP.out w8 hu8)
     have S0 := hid (upR hb8 P0.out)
     have S1 := hid (upR hb8 P1.out)
     have S2 := hid (upR hb8 P2.out)
     have HO8 := hid (ownsRow_below HON.out hb8)
     have HU8 := hid hu8
     clear hu8 hb8 HGD HCP P0 P1 P2 HON HUP lq
     go_upto_region 13 with (go_at_call 19; refine HCR.out.mono ?_; rintro e' w9 ⟨X, rfl, hsim, hcd, hb9⟩; have sv := svState_run (upR hb9 S0.out) X; have HSM := hid hsim; have HCD := hid hcd; have HB9 := hid hb9; clear hsim hcd hb9)
     obtain ⟨hbf, hcc⟩ := BF.own (Nat.le_refl w.heap.size) HU8.out HB9.out (upR HB9.out S0.out) HCD.out (by rw [cel_size, cel_size]; rfl)
     have hov : (w9.setRow w.heap.size (cel (sState X))).ownsRow w.heap.size 24 32 (.slice a7 1 c7) 1 (bl QV (32 * 1)) := own_keptB (ownsRow_below HO8.out HB9.out) ((Kept.refl _ _).setRow _) (own_ne (ownsRow_below HO8.out HB9.out) (upR HB9.out S0.out) (by decide))
     have p1 : (w9.setRow w.heap.size (cel (sState X))).heap[w.heap.size + 1]? = some (.cells (vs .u8 96 s) 51) := by rw [setRow_other (by omega)]; exact upR HB9.out S1.out
     have p2 : (w9.setRow w.heap.size (cel (sState X))).heap[w.heap.size + 2]? = some (.cells (cel (sState oState)) 49) := by rw [setRow_other (by omega)]; exact upR HB9.out S2.out
     obtain ⟨V0, hV⟩ : ∃ V, w9.setRow w.heap.size (cel (sState X)) = V := ⟨_, rfl⟩
     rw [hV] at hbf hov p1 p2
     rw [hV]
     have HSV := hid (HSH.out.below hbf.bel)
     have HBV := hid hbf
     have HOV := hid hov
     have P1 := hid p1
     have P2 := hid p2
     have HGF := hid (HGX.out X HSM.out trivial)
     clear hbf hcc hov p1 p2 hV sv lx HCD HB9 HCR HO8 HU8 S0 S1 S2 HGX HSH
     have e8 : EP.tmod 8 = (E : Int) := by rw [Int.tmod_eq_emod_of_nonneg hEP0]; exact eE8
     have E1 : (E : Int) < 8 := by omega
     have E0 : (0 : Int) ≤ (E : Int) := by omega
     refine wp_region_noPanic ?_
     refine wp_region_held_drew (S := fun W => W.heap[w.heap.size + 1]? = some (.cells (vs .u8 96 s) 51)) (by kernel_rfl) (P1.out) (fun hHeld => ?_)
     have hBd := HBV.out.drew
     have HOd := ownsRow_below HOV.out ((Below.refl _ _).drew)
     have p2d : V0.drew.heap[w.heap.size + 2]? = some (.cells (cel (sState oState)) 49) := P2.out
     have hSd := HSV.out.below ((Below.refl _ _).drew)
     generalize V0.drew = wd at hHeld hBd HOd p2d hSd ⊢
     refine tk 3 (v := ?v1001) ?y1001 hHeld ?r1001
     case y1001 => intro w hSw; go_simp; try with_reducible rfl
     refine tk 5 (v := ?v1002) ?y1002 hHeld ?r1002
     case y1002 => intro w hSw; have ld0 := lvSgR hSw; go_simp; try with_reducible rfl
     try simp only [Act.put, z_1, z_2, z_3, z_4, z_5, z_6, z_7]
     refine rd1 0 (fun K hK => ?_)
     have lx := lvState_run hBd.row
     go_simp
     refine hK.out _ _ hHeld (fun hHeld => ?_)
     clear hK K lx
     try simp only [Act.put, z_1, z_2, z_3, z_4, z_5, z_6, z_7]
     refine rd1 1 (fun K hK => ?_)
     go_simp
     refine (HEP.out X HSM.out wd).mono ?_
     rintro e' x1 ⟨rfl, hd1⟩
     dsimp only
     have h1 := upR hd1 hHeld
     refine hK.out _ _ h1 (fun hHeld => ?_)
     clear hK K
     try simp only [Act.put, z_1, z_2, z_3, z_4, z_5, z_6, z_7]
     refine tk 2 (v := ?v1003) ?y1003 hHeld ?r1003
     case y1003 => intro w hSw; go_simp; try with_reducible rfl
     refine tk 4 (v := ?v1004) ?y1004 hHeld ?r1004
     case y1004 => intro w hSw; go_simp; try with_reducible rfl
     try simp only [Act.put, z_1, z_2, z_3, z_4, z_5, z_6, z_7]
     have hB1 := hBd.below hd1
     have hO1 := ownsRow_below HOd hd1
     have p21 := upR hd1 p2d
     refine rd1 6 (fun K hK => ?_)
     go_simp
     refine (mixin_any X X.f13 s E w.heap.size w x1 (Nat.le_refl _) hB1 hE8 HSB.out (hSd.below hd1)).mono ?_
     rintro e' x2 ⟨rfl, hbf, hkp⟩
     dsimp only
     refine hK.out _ _ ((hkp.block _ (some_ltK h1) (by omega)).trans h1) (fun hHeld => ?_)
     clear hK K
     try simp only [Act.put, z_1, z_2, z_3, z_4, z_5, z_6, z_7]
     refine wpAnyH_done (by kernel_rfl) ?_ _
     refine NoPanic.normal ?_
     have q2 := (hkp.block _ (some_ltK p21) (by omega)).trans p21
     obtain ⟨Y, eY⟩ : ∃ Y, { X with f13 := mxV X.f13 (shaV KW HW s 96) E 32 } = Y := ⟨_, rfl⟩
     have HGG := hid HGF.out
     rw [eY] at hbf HGG
     have ly := lvState_run hbf.row
     have s2 := svState_run q2 Y
     have ho2 := own_keptB hO1 hkp (own_ne hO1 hB1.row (by decide))
     have ho3 := own_keptB ho2 ((Kept.refl (w.heap.size + 2) x2).setRow (cel (sState Y))) (own_ne ho2 q2 (by decide))
     have HR := hid (hbf.give q2 (cel (sState Y)))
     have HQ := hid q2
     have HB2 := hid hbf.bel
     have HO3 := hid ho3
     clear hbf hkp q2 p21 hO1 hB1 h1 hd1 hBd HOd p2d hSd ho2 ho3 eY hHeld
     go_wp2
     simp only [Exit.jump]
     exact retState3 6 7 8 (w.heap.size + 2) Y 49 (.slice a7 1 c7) (.int .i64 0) rfl rfl rfl rfl rfl (setRow_at HQ.out) ⟨Y, a7, c7, rfl, HR.out.to (Nat.le_refl _) HGG.out, own_rtF HO3.out, own_nw HO3.out, below_row HB2.out (by omega) _⟩
   ·obtain rfl : E0 = 7 := by rw [← HE.out]; unfold rdE; rw [hR, if_pos rfl, h7]; rfl
    obtain rfl : NQ = 0 := by rw [← HNQ.out]; unfold rdK; rw [hR, h7]; rfl
    have hpr1 : ∀ W, Up w W → Calls Tryz.prog 16 #[.agg (cel (sState x))] W fun e' w' => e' = .returned (.tuple #[.int .u64 (prV x), .int .i64 7]) ∧ Below W.heap.size W w' := fun W h => by
     have := hpr W h
     rw [h7] at this
     exact this
    generalize prV x = PV at hpr1
    have HPR := hid hpr1
    clear HE HYS HNQ HQQ HS0 hpr hpr1 hx hw hn hl hs hr hnn hS r0 r1 r2 hB R1 R3
    go_upto_region 3 with fail
    rw [HW1.out]
    clear HW1 zr
    go_upto_region 6 with (go_at_call 15; refine HRI.out.mono ?_; rintro e' w1 ⟨rfl, hb1⟩)
    replace lx := lvState_run (upR hb1 R0.out)
    have HP1 := hid (HPR.out w1 (upT HB.out hb1))
    have HB1 := hid hb1
    clear hb1 HPR
    go_wp2_with (go_at_call 16; refine HP1.out.mono ?_; rintro e' w2 ⟨rfl, hb2⟩)
    go_step3
    exact ⟨rfl, by decide, none, 0, ⟨_, _, _, _, _, _, _, _, _, _, _, _, _, _, _, _, _, _, _, _, _, _, _, _, _, _, _, _, _, _, _, _, _, _, _, _, _, _, _, _, _, _, _, _, _, _, rfl⟩, upR (upT HB1.out hb2) R2.out, fun _ => .inl ⟨rfl, rfl, rfl⟩, .inl rfl, upT HB.out (upT HB1.out hb2)⟩
end Go.Proofs.YtopnhpllidegnaaGreatDoor
