/- A part. -/
import Derived.Test.YtopnhpllidegnaaGreatDoorHdF
namespace Go.Proofs.YtopnhpllidegnaaGreatDoor
open Go.RowKit
set_option linter.unusedVariables false
set_option linter.unusedSimpArgs false
set_option maxRecDepth 20000
theorem xr_back (a b : Int) (h : 0 ≤ a ∧ a < 256) : xrB (xrB a b) b = a := by
 obtain ⟨n, rfl⟩ : ∃ n : Nat, a = (n : Int) := ⟨a.toNat, by omega⟩
 have hn : n < 256 := by omega
 have e : ∀ x : Int, xrB x b = (((BitVec.ofInt 8 x) ^^^ (BitVec.ofInt 8 b)).toNat : Int) := fun x => by
  have hl := ((BitVec.ofInt 8 x) ^^^ (BitVec.ofInt 8 b)).isLt
  show IntKind.u8.wrap (((BitVec.ofInt 8 x) ^^^ (BitVec.ofInt 8 b)).toNat : Int) = _
  rw [IntKind.wrap_u8]
  omega
 rw [e, e]
 have f : BitVec.ofInt 8 ((((BitVec.ofInt 8 (n : Int)) ^^^ (BitVec.ofInt 8 b)).toNat : Nat) : Int) = (BitVec.ofInt 8 (n : Int)) ^^^ (BitVec.ofInt 8 b) := by
  apply BitVec.eq_of_toNat_eq
  have hl := ((BitVec.ofInt 8 (n : Int)) ^^^ (BitVec.ofInt 8 b)).isLt
  rw [BitVec.toNat_ofInt]
  omega
 rw [f, BitVec.xor_assoc, BitVec.xor_self, BitVec.xor_zero, BitVec.toNat_ofInt]
 omega
theorem mx_back {f h : Nat → Int} (E : Nat) (hE : E < 8) (hf : ∀ j, j < 256 → 0 ≤ f j ∧ f j < 256) : mxV (mxV f h E 32) h E 32 = f := funext fun j => by
 unfold mxV
 by_cases h1 : 32 * E ≤ j ∧ j < 32 * E + 32
 ·rw [if_pos h1, if_pos h1]
  exact xr_back _ _ (hf j (by omega))
 ·rw [if_neg h1, if_neg h1]
theorem shaV_fun {K H m m' : Nat → Int} {L : Nat} (h : ∀ i, i < L → m i = m' i) : shaV K H m L = shaV K H m' L := by
 funext j
 unfold shaV
 rw [show padM m L = padM m' L from funext fun i => by
  unfold padM
  split
  ·exact h i ‹_›
  ·rfl]
theorem mixP_ne (e : Int) (h : 0 ≤ e) : mixP e ≠ (e % 8).toNat ∧ mixP e < 8 := by
 unfold mixP
 omega
theorem seed_rd (x : VState) (s : Nat → Int) (k : Int) (h0 : 0 ≤ x.f2) : seedV (rdY x s) (x.f2 / 4) k = seedV x (x.f2 / 4) k := by
 unfold seedV
 refine shaV_fun fun j hj => ?_
 unfold sdM
 split
 ·rfl
 ·split
  ·rfl
  ·have hm := mixP_ne (x.f2 / 4) (by omega)
   show mxV x.f13 _ _ 32 (32 * mixP (x.f2 / 4) + (j - 12)) = x.f13 (32 * mixP (x.f2 / 4) + (j - 12))
   unfold mxV
   rw [if_neg (by omega)]
theorem rd_pr (x : VState) (s : Nat → Int) (h0 : 0 ≤ x.f2) : prV (rdY x s) = prV x ∧ prE (rdY x s) = prE x := by
 have hs := seed_rd x s 0 h0
 have hp : prS (rdY x s) = prS x := by
  show shaV KW HW (sd8 (seedV (rdY x s) (x.f2 / 4) 0) x.f2) 40 = shaV KW HW (sd8 (seedV x (x.f2 / 4) 0) x.f2) 40
  rw [hs]
 unfold prV prL prE
 rw [hp]
 exact ⟨rfl, rfl⟩
theorem rd_q (x : VState) (s : Nat → Int) (h0 : 0 ≤ x.f2) : rdQ (rdY x s) s = rdQ x s := by
 unfold rdQ
 rw [(rd_pr x s h0).1]
 rfl
theorem rd_right (x : VState) (s : Nat → Int) : rightB (rdY x s) = rightB x := rfl
theorem rd_back (x : VState) (s : Nat → Int) (h0 : 0 ≤ x.f2) (hf : ∀ j, j < 256 → 0 ≤ x.f13 j ∧ x.f13 j < 256) : rdY (rdY x s) s = x := by
 show { x with f13 := mxV (mxV x.f13 (shaV KW HW s 96) (x.f2 / 4 % 8).toNat 32) (shaV KW HW s 96) (x.f2 / 4 % 8).toNat 32 } = x
 rw [mx_back _ (by omega) hf]
theorem lvR8_e2 (a : Addr) : loadVar 31 a = lvR8 a := rfl
theorem svR8_e2 (a : Addr) (v : Value) : storeVar 31 a v = svR8 a v := rfl
theorem gd_one (q : Nat → Int) : gdB q q 1 = false := by
 have h : eqR (rt32 q 0) q = true := by rw [rt32_0]; exact eqR_self q
 rw [gdB_succ, h]
 rfl
theorem put13 (x : VState) (u : Nat → Int) : putL (cel (sState x)) 723 (bl u 256) = cel (sState { x with f13 := u }) := by
 have h := put_seg ((sState x).take 21) [.by 256 x.f13] [.by 256 u] ((sState x).drop 22) rfl
 rw [show slen ((sState x).take 21) = 723 by kernel_rfl, celL_by, show (sState x).take 21 ++ [Seg.by 256 x.f13] ++ (sState x).drop 22 = sState x by kernel_rfl, show ∀ u, (sState x).take 21 ++ [Seg.by 256 u] ++ (sState x).drop 22 = sState { x with f13 := u } from fun u => by kernel_rfl] at h
 exact h
theorem rd_zero {x : VState} {s f : Nat → Int} (h : rdE x s f 0 = 0) : rightB x = true ∧ prE x = 0 := by
 unfold rdE at h
 cases hR : rightB x
 ·rw [hR] at h; cases h
 ·rw [hR, if_pos rfl] at h
  by_cases hp : prE x = 0
  ·exact ⟨rfl, hp⟩
  ·rw [if_neg hp] at h
   exact absurd h hp
theorem rdE_of {x : VState} (hR : rightB x = true) (hp : prE x = 0) (s f : Nat → Int) (n : Nat) : rdE x s f n = if gdB (rdQ x s) f n = true then 0 else 25 := by
 unfold rdE
 rw [hR, if_pos rfl, if_pos hp]
theorem rdN_of {x : VState} (hR : rightB x = true) (hp : prE x = 0) : rdK x = 1 := by
 unfold rdK
 rw [if_pos ⟨hR, hp⟩]
attribute [local go_sem ↓] lvState_eq svState_eq lvSg_eq ix22_eq lv24_eq lvR8_e2 svR8_e2
set_option maxHeartbeats 16000000 in
theorem headTwice_law (pV : PVote) (pR : PRand) (pH : PHdr0) (x : VState) (s : Nat → Int) (w : World) (hx : OkState x) (hw : InW w x) (hn : NilW x) (hl : Lns x) (hs : ∀ j, j < 96 → 0 ≤ s j ∧ s j < 256) (hS : Sh w) :
    Calls Tryz.prog 5 #[.agg (cel (sState x)), .agg (vs .u8 96 s)] w fun e' w' => e' = .returned (.bool true) ∧ Below w.heap.size w w' := by
 obtain ⟨W0, hW0⟩ : ∃ W, (w.alloc (.cells (cel (sState x)) 49)).alloc (.cells (vs .u8 96 s) 51) = W := ⟨_, rfl⟩
 have hB0 : Up w W0 := by rw [← hW0]; exact ((Below.refl _ _).alloc (Nat.le_refl _) _).alloc (by simp) _
 have r0 : W0.heap[w.heap.size]? = some (.cells (cel (sState x)) 49) := by rw [← hW0]; exact (heap_old (by simp)).trans (heap_new rfl)
 have r1 : W0.heap[w.heap.size + 1]? = some (.cells (vs .u8 96 s) 51) := by rw [← hW0]; exact heap_new (by simp)
 have haw := awake17 pV pR pH W0 (hS.below hB0)
 have hra : ∀ (W : World) (X : VState) a n c f, Up W0 W → OkState X → InW W X → NilW X → Lns X → Rts W a n c f → n ≤ 1 → Calls Tryz.prog 8 #[.agg (cel (sState X)), .agg (vs .u8 96 s), .slice a n c] W (RdA X s f n W) := fun W X a n c f h ho hi hni hln ha hn1 => pR X s a n c f W ho hi hni hln hs ha (by omega) (hS.below (upT hB0 h))
 have hlx : ∀ W, Up W0 W → (lvState ⟨w.heap.size, 0, none⟩).run Tryz.prog W = .ok (.agg (cel (sState x))) W := fun W h => lvState_run (upR h r0)
 have hls : ∀ W, Up W0 W → (lvSg ⟨w.heap.size + 1, 0, none⟩).run Tryz.prog W = .ok (.agg (vs .u8 96 s)) W := fun W h => lvSgR (upR h r1)
 have HB := hid hB0
 have HWo := hid hW0
 have HAW := hid haw
 have HRA := hid hra
 have HLX := hid hlx
 have HLS := hid hls
 have HX := hid hx
 have HNX := hid hn
 have HLN := hid hl
 have R0 := hid r0
 have HIW := hid (fun W (h : Up W0 W) => hw.below (upT hB0 h))
 have HIW0 := hid hw
 have z := zeroState
 clear hB0 hW0 r0 r1 haw hra hlx hls hx hw hn hl hs hS pV pR pH
 by_cases h0 : rdE x s (fun _ => 0) 0 = 0
 ·obtain ⟨hR, hp⟩ := rd_zero h0
  have f20 := HX.out.o2.1
  have eN := rdN_of hR hp
  have eS : rdS x s (fun _ => 0) 0 = rdY x s := by unfold rdS; rw [if_pos h0]
  have hr1 : ∀ W, Up W0 W → Calls Tryz.prog 8 #[.agg (cel (sState x)), .agg (vs .u8 96 s), .slice none 0 0] W fun e' w' => ∃ X a c, e' = .returned (.tuple #[.agg (cel (sState X)), .slice a 1 c, .int .i64 0]) ∧ Res W.heap.size w' (rdY x s) X ∧ Rts w' a 1 c (rdQ x s) ∧ NwL W.heap.size a 1 ∧ Below W.heap.size W w' := fun W h => by
   have := HRA.out W x none 0 0 (fun _ => 0) h HX.out (HIW.out W h) HNX.out HLN.out (.inl ⟨rfl, rfl, rfl⟩) (by omega)
   unfold RdA at this
   rw [h0, eN, eS] at this
   exact this
  have hr2 : ∀ (W : World) (A : VState), Up W0 W → SimF (rdY x s) A → InW W A → NilW A → Calls Tryz.prog 8 #[.agg (cel (sState A)), .agg (vs .u8 96 s), .slice none 0 0] W fun e' w' => ∃ X a c, e' = .returned (.tuple #[.agg (cel (sState X)), .slice a 1 c, .int .i64 0]) ∧ Res W.heap.size w' x X ∧ Rts w' a 1 c (rdQ x s) ∧ NwL W.heap.size a 1 ∧ Below W.heap.size W w' := fun W A h hsm hi hni => by
   have hRY : rightB (rdY x s) = true := (rd_right x s).trans hR
   have hpY : prE (rdY x s) = 0 := (rd_pr x s f20).2.trans hp
   have okY : OkState (rdY x s) := { HX.out with o13 := fun j hj => mxV_bd HX.out.o13 _ _ j hj }
   have e1 : rdE A s (fun _ => 0) 0 = 0 := by rw [rdE_sim hsm, rdE_of hRY hpY]; rfl
   have e2 : rdK A = 1 := by rw [rdN_sim hsm]; exact rdN_of hRY hpY
   have e3 : rdQ A s = rdQ x s := by rw [rdQ_sim hsm]; exact rd_q x s f20
   have e4 : SimF x (rdS A s (fun _ => 0) 0) := by
    have q := rdS_sim hsm s (fun _ => 0) 0
    have e5 : rdS (rdY x s) s (fun _ => 0) 0 = x := by
     unfold rdS
     rw [if_pos (by rw [← rdE_sim hsm]; exact e1)]
     exact rd_back x s f20 HX.out.o13
    rw [e5] at q
    exact q
   refine (HRA.out W A none 0 0 (fun _ => 0) h (okF_sim hsm okY) hi hni (lns_sim hsm HLN.out) (.inl ⟨rfl, rfl, rfl⟩) (by omega)).mono ?_
   rintro e' w' ⟨X, a, c, rfl, h1, h2, h3, h4⟩
   rw [e1, e2]
   rw [e2] at h2 h3
   rw [e3] at h2
   exact ⟨X, a, c, rfl, h1.to (Nat.le_refl _) (e4.trans h1.sim), h2, h3, h4⟩
  have hr3 : ∀ (W : World) a c, Up W0 W → Rts W a 1 c (rdQ x s) → Calls Tryz.prog 8 #[.agg (cel (sState x)), .agg (vs .u8 96 s), .slice a 1 c] W fun e' w' => ∃ X a c, e' = .returned (.tuple #[.agg (cel (sState X)), .slice a 1 c, .int .i64 25]) ∧ Rts w' a 1 c (rdQ x s) ∧ Below W.heap.size W w' := fun W a c h ha => by
   refine (HRA.out W x a 1 c (rdQ x s) h HX.out (HIW.out W h) HNX.out HLN.out ha (Nat.le_refl _)).mono ?_
   rintro e' w' ⟨X, a', c', rfl, _, h2, _, h4⟩
   rw [rdE_of hR hp, gd_one, eN]
   rw [eN] at h2
   exact ⟨X, a', c', rfl, h2, h4⟩
  have hsz : ∀ (W : World) (A : VState), Up W0 W → SimF (rdY x s) A → InW W A → Calls Tryz.prog 11 #[.agg (cel (sState { A with f13 := x.f13 })), .agg (cel (sState x))] W fun e w' => e = .returned (.bool true) ∧ Below W.heap.size W w' := fun W A h hsm hi => by
   have hq : SimF { A with f13 := x.f13 } x := ⟨hsm.e0.symm, hsm.e1.symm, hsm.e2.symm, hsm.e3.symm, hsm.e4.symm, hsm.e5.symm, hsm.e6.symm, hsm.l7.symm, hsm.z7.symm, hsm.e8.symm, hsm.l9.symm, hsm.z9.symm, hsm.e10.symm, hsm.l11.symm, hsm.z11.symm, hsm.l12.symm, hsm.z12.symm, rfl, hsm.e14.symm, hsm.l15.symm, hsm.z15.symm, hsm.l16.symm, hsm.z16.symm, hsm.e17.symm, hsm.e18.symm, hsm.e19.symm, hsm.e20.symm, hsm.l21.symm, hsm.z21.symm, hsm.e22.symm, hsm.e23.symm⟩
   exact rsame_sim _ x W (okF_sim hq.symm HX.out) ⟨hi.i7, hi.i9, hi.i11, hi.i12, hi.i15, hi.i16, hi.i21⟩ (HIW.out W h) hq
  generalize rdQ x s = QV at hr1 hr2 hr3
  generalize rdY x s = AY at hr1 hr2 hsz
  have HR1 := hid hr1
  have HR2 := hid hr2
  have HR3 := hid hr3
  have HSZ := hid hsz
  have HES : Hid (eqR QV QV = true) := eqR_self QV
  clear hr1 hr2 hr3 hsz hR hp eN eS f20 HRA HNX HLN h0
  go_enter Tryz.func5, Tryz.ntmps5
  go_upto_region 1 with fail
  rw [HWo.out]
  clear HWo
  go_upto_region 3 with (go_at_call 6; refine HAW.out.mono ?_; rintro e' w1 ⟨rfl, hb1⟩)
  have lx := HLX.out w1 hb1
  have ls := HLS.out w1 hb1
  have HC1 := hid (HR1.out w1 hb1)
  have HU1 := hid hb1
  clear hb1 HAW HR1
  go_upto_region 6 with (go_at_call 8; refine HC1.out.mono ?_; rintro e' w2 ⟨A, a6, c6, rfl, hra, hqa, hna, hb2⟩; have sv := svState_newv w2 oState A)
  obtain ⟨W3, y5, hW3, ey5, r5, hd2, by5⟩ := upN2 hb2 (.cells (cel (sState A)) 49)
  rw [hW3, ey5]
  have hu3 := upT HU1.out (upT hb2 hd2)
  have hay : Aw y5 A := hra.inw.aw (Nat.le_of_eq ey5)
  have HA := hid (hra.below hd2)
  have HQA := hid (hqa.below hd2)
  have HAY := hid hay
  have R5 := hid r5
  have lA := lvState_run r5
  replace ls := HLS.out W3 hu3
  have HC2 := hid (HR2.out W3 A hu3 hra.sim HA.out.inw hra.nil)
  have HU3 := hid hu3
  clear lx hW3 ey5 r5 hd2 hra hqa hna hb2 hay sv hu3 HC1 HR2
  go_upto_region 7 with (go_at_call 8; refine HC2.out.mono ?_; rintro e' w4 ⟨B, a9, c9, rfl, hrb, hqb, hnb, hb4⟩; have sv := svState_newv w4 oState B)
  obtain ⟨W5, y8, hW5, ey8, r8, hd4, by8⟩ := upN2 hb4 (.cells (cel (sState B)) 49)
  rw [hW5, ey8]
  have hu35 := upT hb4 hd4
  have hu5 := upT HU3.out hu35
  obtain ⟨b6, o6, hb6, hx0, hc6⟩ := (HQA.out.below hu35).at 0 (by omega)
  obtain ⟨b9, o9, hb9, hx1, hc9⟩ := (hqb.below hd4).at 0 (by omega)
  rw [rt32_0] at hc6 hc9
  have HX6 : Hid (∀ W : World, (ix22 (.slice a6 1 c6) (.int .i64 0)).run Tryz.prog W = .ok (.pointer (some ⟨b6, o6, none⟩)) W) := hx0
  have HX9 : Hid (∀ W : World, (ix22 (.slice a9 1 c9) (.int .i64 0)).run Tryz.prog W = .ok (.pointer (some ⟨b9, o9, none⟩)) W) := hx1
  have HL6 : Hid (∀ W, Up W5 W → (lv24 ⟨b6, o6, none⟩).run Tryz.prog W = .ok (.agg (vs .u8 32 QV)) W) := fun W h => lv24_mid (fun j hj => (below_cell h hb6).trans (hc6 j hj))
  have HL9 : Hid (∀ W, Up W5 W → (lv24 ⟨b9, o9, none⟩).run Tryz.prog W = .ok (.agg (vs .u8 32 QV)) W) := fun W h => lv24_mid (fun j hj => (below_cell h hb9).trans (hc9 j hj))
  have HBR := hid (hrb.below hd4)
  have R8 := hid r8
  have HU5 := hid hu5
  have HU35 := hid hu35
  have HC3 := hid (HR3.out W5.drew a6 c6 (upT hu5 (Below.refl _ _).drew) ((HQA.out.below hu35).below (Below.refl _ _).drew))
  clear lA ls hW5 ey8 r8 hd4 hrb hqb hnb hb4 sv hu35 hu5 hx0 hx1 hc6 hc9 hb6 hb9 HC2 HR3 HQA
  refine wp_region_noPanic ?_
  refine wp_region_held_drew (S := fun W => Up W5 W) (by kernel_rfl) ((Below.refl _ _).drew) (fun hHeld => ?_)
  refine tk 0 (v := ?v1201) ?y1201 hHeld ?r1201
  case y1201 => intro w hSw; go_simp; try with_reducible rfl
  refine tk 1 (v := ?v1202) ?y1202 hHeld ?r1202
  case y1202 => intro w hSw; go_simp; try with_reducible rfl
  refine tk 2 (v := ?v1203) ?y1203 hHeld ?r1203
  case y1203 => intro w hSw; go_simp; try with_reducible rfl
  refine tk 3 (v := ?v1204) ?y1204 hHeld ?r1204
  case y1204 => intro w hSw; go_simp; try with_reducible rfl
  refine tk 4 (v := ?v1205) ?y1205 hHeld ?r1205
  case y1205 => intro w hSw; go_simp; try with_reducible rfl
  refine tk 5 (v := ?v1206) ?y1206 hHeld ?r1206
  case y1206 => intro w hSw; go_simp; try with_reducible rfl
  refine tk 6 (v := ?v1207) ?y1207 hHeld ?r1207
  case y1207 => intro w hSw; go_simp; try with_reducible rfl
  refine tk 7 (v := ?v1208) ?y1208 hHeld ?r1208
  case y1208 => intro w hSw; go_simp; try with_reducible rfl
  refine tk 8 (v := ?v1209) ?y1209 hHeld ?r1209
  case y1209 => intro w hSw; go_simp; try with_reducible rfl
  refine tk 9 (v := ?v1210) ?y1210 hHeld ?r1210
  case y1210 => intro w hSw; go_simp; try with_reducible rfl
  refine tk 10 (v := ?v1211) ?y1211 hHeld ?r1211
  case y1211 => intro w hSw; go_simp; try with_reducible rfl
  refine tk 11 (v := ?v1212) ?y1212 hHeld ?r1212
  case y1212 => intro w hSw; go_simp; try with_reducible rfl
  refine tk 12 (v := ?v1213) ?y1213 hHeld ?r1213
  case y1213 => intro w hSw; go_simp; try with_reducible rfl
  refine tk 13 (v := ?v1214) ?y1214 hHeld ?r1214
  case y1214 => intro w hSw; go_simp; try with_reducible rfl
  refine tk 14 (v := ?v1215) ?y1215 hHeld ?r1215
  case y1215 => intro w hSw; have ld0 := HX6.out w; go_simp; try with_reducible rfl
  refine tk 15 (v := ?v1216) ?y1216 hHeld ?r1216
  case y1216 => intro w hSw; have ld0 := HL6.out w hSw; go_simp; try with_reducible rfl
  refine tk 16 (v := ?v1217) ?y1217 hHeld ?r1217
  case y1217 => intro w hSw; go_simp; try with_reducible rfl
  refine tk 17 (v := ?v1218) ?y1218 hHeld ?r1218
  case y1218 => intro w hSw; have ld0 := HX9.out w; go_simp; try with_reducible rfl
  refine tk 18 (v := ?v1219) ?y1219 hHeld ?r1219
  case y1219 => intro w hSw; have ld0 := HL9.out w hSw; go_simp; try with_reducible rfl
  try simp only [Act.put, z_1, z_2, z_3, z_4, z_5, z_6, z_7]
  refine wpAnyH_take (i := 19) rfl (by kernel_rfl) (by kernel_rfl) (by kernel_rfl) (fun _ _ _ h => h) (yields_neo (by rfl) _ _ _ rfl QV QV rfl rfl) hHeld ?_
  rw [HES.out]
  try simp only [Act.put, z_1, z_2, z_3, z_4, z_5, z_6, z_7]
  refine tk 20 (v := ?v1220) ?y1220 hHeld ?r1220
  case y1220 => intro w hSw; go_simp; try with_reducible rfl
  try simp only [Act.put, z_1, z_2, z_3, z_4, z_5, z_6, z_7]
  refine wpAnyH_done (by kernel_rfl) ?_ _
  refine NoPanic.normal ?_
  clear HX9 HL9
  have hud : Up W5 W5.drew := (Below.refl _ _).drew
  have lx := HLX.out W5.drew (upT HU5.out hud)
  have ls := HLS.out W5.drew (upT HU5.out hud)
  have HUD := hid hud
  clear hud hHeld
  go_upto_region 10 with (go_at_call 8; refine HC3.out.mono ?_; rintro e' w6 ⟨C, a12, c12, rfl, hqc, hb6⟩; have sv := svState_newv w6 oState C)
  obtain ⟨W7, y11, hW7, ey11, _, hd6, _⟩ := upN2 hb6 (.cells (cel (sState C)) 49)
  rw [hW7, ey11]
  have hu57 : Up W5 W7 := upT HUD.out (upT hb6 hd6)
  have hu7 := upT HU5.out hu57
  obtain ⟨b12, o12, hb12, hx2, hc12⟩ := (hqc.below hd6).at 0 (by omega)
  rw [rt32_0] at hc12
  have HX12 : Hid (∀ W : World, (ix22 (.slice a12 1 c12) (.int .i64 0)).run Tryz.prog W = .ok (.pointer (some ⟨b12, o12, none⟩)) W) := hx2
  have HL12 : Hid (∀ W, Up W7 W → (lv24 ⟨b12, o12, none⟩).run Tryz.prog W = .ok (.agg (vs .u8 32 QV)) W) := fun W h => lv24_mid (fun j hj => (below_cell h hb12).trans (hc12 j hj))
  have HL67 := hid (fun W (h : Up W7 W) => HL6.out W (upT hu57 h))
  have HLB := hid (fun W (h : Up W7 W) => lvState_run (upR (upT hu57 h) R8.out))
  have HLX7 := hid (fun W (h : Up W7 W) => HLX.out W (upT hu7 h))
  have HSB : Hid (∀ V, Up W7 V → Calls Tryz.prog 11 #[.agg (cel (sState B)), .agg (cel (sState x))] V fun e w' => e = .returned (.bool true) ∧ Below V.heap.size V w') := fun V h => rsame_sim B x V (okF_sim HBR.out.sim HX.out) (HBR.out.inw.below (upT hu57 h)) (HIW.out V (upT hu7 h)) HBR.out.sim.symm
  have HU57 := hid hu57
  have HU7 := hid hu7
  clear lx ls hW7 ey11 hd6 hqc hb6 hb12 hx2 hc12 sv hu57 hu7 HC3 HL6 HUD
  refine wp_region_noPanic ?_
  refine wp_region_held_drew (S := fun W => Up W7 W) (by kernel_rfl) ((Below.refl _ _).drew) (fun hHeld => ?_)
  generalize W7.drew = wd at hHeld ⊢
  refine tk 0 (v := ?v1221) ?y1221 hHeld ?r1221
  case y1221 => intro w hSw; go_simp; try with_reducible rfl
  refine tk 1 (v := ?v1222) ?y1222 hHeld ?r1222
  case y1222 => intro w hSw; go_simp; try with_reducible rfl
  refine tk 2 (v := ?v1223) ?y1223 hHeld ?r1223
  case y1223 => intro w hSw; go_simp; try with_reducible rfl
  refine tk 3 (v := ?v1224) ?y1224 hHeld ?r1224
  case y1224 => intro w hSw; go_simp; try with_reducible rfl
  refine tk 4 (v := ?v1225) ?y1225 hHeld ?r1225
  case y1225 => intro w hSw; go_simp; try with_reducible rfl
  refine tk 5 (v := ?v1226) ?y1226 hHeld ?r1226
  case y1226 => intro w hSw; go_simp; try with_reducible rfl
  refine tk 6 (v := ?v1227) ?y1227 hHeld ?r1227
  case y1227 => intro w hSw; go_simp; try with_reducible rfl
  refine tk 7 (v := ?v1228) ?y1228 hHeld ?r1228
  case y1228 => intro w hSw; go_simp; try with_reducible rfl
  refine tk 8 (v := ?v1229) ?y1229 hHeld ?r1229
  case y1229 => intro w hSw; go_simp; try with_reducible rfl
  refine tk 9 (v := ?v1230) ?y1230 hHeld ?r1230
  case y1230 => intro w hSw; have ld0 := HX12.out w; go_simp; try with_reducible rfl
  refine tk 10 (v := ?v1231) ?y1231 hHeld ?r1231
  case y1231 => intro w hSw; have ld0 := HL12.out w hSw; go_simp; try with_reducible rfl
  refine tk 11 (v := ?v1232) ?y1232 hHeld ?r1232
  case y1232 => intro w hSw; go_simp; try with_reducible rfl
  refine tk 12 (v := ?v1233) ?y1233 hHeld ?r1233
  case y1233 => intro w hSw; have ld0 := HX6.out w; go_simp; try with_reducible rfl
  refine tk 13 (v := ?v1234) ?y1234 hHeld ?r1234
  case y1234 => intro w hSw; have ld0 := HL67.out w hSw; go_simp; try with_reducible rfl
  try simp only [Act.put, z_1, z_2, z_3, z_4, z_5, z_6, z_7]
  refine wpAnyH_take (i := 14) rfl (by kernel_rfl) (by kernel_rfl) (by kernel_rfl) (fun _ _ _ h => h) (yields_neo (by rfl) _ _ _ rfl QV QV rfl rfl) hHeld ?_
  rw [HES.out]
  try simp only [Act.put, z_1, z_2, z_3, z_4, z_5, z_6, z_7]
  refine tk 15 (v := ?v1235) ?y1235 hHeld ?r1235
  case y1235 => intro w hSw; go_simp; try with_reducible rfl
  refine tk 16 (v := ?v1236) ?y1236 hHeld ?r1236
  case y1236 => intro w hSw; go_simp; try with_reducible rfl
  refine tk 17 (v := ?v1237) ?y1237 hHeld ?r1237
  case y1237 => intro w hSw; have ld0 := HLB.out w hSw; go_simp; try with_reducible rfl
  refine tk 18 (v := ?v1238) ?y1238 hHeld ?r1238
  case y1238 => intro w hSw; have ld0 := HLX7.out w hSw; go_simp; try with_reducible rfl
  try simp only [Act.put, z_1, z_2, z_3, z_4, z_5, z_6, z_7]
  refine rd1 19 (fun K hK => ?_)
  go_simp
  refine (HSB.out _ hHeld).mono ?_
  rintro e' w8 ⟨rfl, hb8⟩
  dsimp only
  have hc8 := upT hHeld hb8
  refine hK.out _ _ hc8 (fun hHeld => ?_)
  clear hK K
  try simp only [Act.put, z_1, z_2, z_3, z_4, z_5, z_6, z_7]
  refine tk 20 (v := ?v1239) ?y1239 hHeld ?r1239
  case y1239 => intro w hSw; go_simp; try with_reducible rfl
  refine tk 21 (v := ?v1240) ?y1240 hHeld ?r1240
  case y1240 => intro w hSw; go_simp; try with_reducible rfl
  try simp only [Act.put, z_1, z_2, z_3, z_4, z_5, z_6, z_7]
  refine wpAnyH_done (by kernel_rfl) ?_ _
  refine NoPanic.normal ?_
  have hu8 := upT HU7.out hc8
  have hu38 := upT HU35.out (upT HU57.out hc8)
  have r58 := upR hu38 R5.out
  have r08 := upR hu8 R0.out
  have lm : (lvR8 ⟨w.heap.size, 723, none⟩).run Tryz.prog w8 = .ok (.agg (vs .u8 256 x.f13)) w8 := lvR8_mid (fun j hj => mix_at r08 j hj)
  have sm := svR8_mid r58 723 x.f13 (by rw [cel_size, slState]; omega)
  obtain ⟨W9, hW9⟩ : ∃ W, w8.setCells y5 723 (bl x.f13 256) = W := ⟨_, rfl⟩
  rw [hW9] at sm
  have hk : Kept y5 w8 W9 := by rw [← hW9]; exact setCells_kept _ _ (Kept.refl _ _)
  have r59 : W9.heap[y5]? = some (.cells (cel (sState { A with f13 := x.f13 })) 49) := by
   rw [← hW9, setCells_row _ 723 r58, put13]
  have q0 := some_ltK R0.out
  have q5 : W0.heap.size ≤ y5 := by have := HU1.out.size; omega
  have r09 : W9.heap[w.heap.size]? = some (.cells (cel (sState x)) 49) := (hk.block _ (by have := hu8.size; omega) (by omega)).trans r08
  have hb9 : Up W0 W9 := upT hu8 (Below.refl _ _) |>.trans (hk.below (by omega) hu8.size)
  have HSY := hid (HSZ.out W9 A hb9 HA.out.sim ((HA.out.inw.below hu38).kept HAY.out hk))
  have la := lvState_run r59
  have lx := lvState_run r09
  have HB9 := hid hb9
  clear hu8 hu38 r58 r08 hk r59 r09 hb9 hW9 hb8 hc8 hHeld HSB HLB HLX7 HL67 HL12 HX12 HX6
  go_wp2_with (go_at_call 11; refine HSY.out.mono ?_; rintro e' w10 ⟨rfl, hb10⟩)
  go_ret
  exact ⟨rfl, upT HB.out (upT HB9.out hb10)⟩
 ·have hr1 : ∀ W, Up W0 W → Calls Tryz.prog 8 #[.agg (cel (sState x)), .agg (vs .u8 96 s), .slice none 0 0] W fun e' w' => ∃ X a c, e' = .returned (.tuple #[.agg (cel (sState X)), .slice a (rdK x) c, .int .i64 (rdE x s (fun _ => 0) 0)]) ∧ Below W.heap.size W w' := fun W h => by
   refine (HRA.out W x none 0 0 (fun _ => 0) h HX.out (HIW.out W h) HNX.out HLN.out (.inl ⟨rfl, rfl, rfl⟩) (by omega)).mono ?_
   rintro e' w' ⟨X, a, c, rfl, _, _, _, hb⟩
   exact ⟨X, a, c, rfl, hb⟩
  generalize rdE x s (fun _ => 0) 0 = VE at hr1 h0
  generalize rdK x = RN at hr1
  have hne : (VE != 0) = true := by simpa using h0
  have HR1 := hid hr1
  clear hr1 HRA
  go_enter Tryz.func5, Tryz.ntmps5
  go_upto_region 1 with fail
  rw [HWo.out]
  clear HWo
  go_upto_region 3 with (go_at_call 6; refine HAW.out.mono ?_; rintro e' w1 ⟨rfl, hb1⟩)
  have lx := HLX.out w1 hb1
  have ls := HLS.out w1 hb1
  have HC1 := hid (HR1.out w1 hb1)
  have HU1 := hid hb1
  clear hb1 HAW HR1
  go_upto_region 4 with (go_at_call 8; refine HC1.out.mono ?_; rintro e' w2 ⟨A, a6, c6, rfl, hb2⟩; have sv := svState_newv w2 oState A)
  obtain ⟨W3, y5, hW3, ey5, _, hd2, _⟩ := upN2 hb2 (.cells (cel (sState A)) 49)
  rw [hW3, ey5]
  have HU3 := hid (upT HU1.out (upT hb2 hd2))
  clear hW3 ey5 hd2 hb2 sv lx ls HC1
  go_wp2
  go_ret
  exact ⟨rfl, upT HB.out HU3.out⟩
end Go.Proofs.YtopnhpllidegnaaGreatDoor
