/- A part. -/
import Derived.Test.YtopnhpllidegnaaGreatDoorHdA
import Derived.Test.YtopnhpllidegnaaGreatDoorStQ
namespace Go.Proofs.YtopnhpllidegnaaGreatDoor
open Go.RowKit
set_option linter.unusedVariables false
set_option linter.unusedSimpArgs false
set_option maxRecDepth 20000
theorem BF.give {w V : World} {y b : Nat} {Y : VState} {C : Array Value} (h : BF w y V Y) (r : V.heap[b]? = some (.cells C 49)) (c : Array Value) : Res w.heap.size (V.setRow b c) Y Y := by
 have hk : Kept b V (V.setRow b c) := (Kept.refl b V).setRow c
 have cp : CpdF w.heap.size (V.setRow b c) Y := ⟨own_keptB h.cpd.o7 hk (own_ne h.cpd.o7 r (by decide)), own_keptB h.cpd.o9 hk (own_ne h.cpd.o9 r (by decide)), own_keptB h.cpd.o11 hk (own_ne h.cpd.o11 r (by decide)), own_keptB h.cpd.o12 hk (own_ne h.cpd.o12 r (by decide)), own_keptB h.cpd.o15 hk (own_ne h.cpd.o15 r (by decide)), own_keptB h.cpd.o16 hk (own_ne h.cpd.o16 r (by decide)), own_keptB h.cpd.o21 hk (own_ne h.cpd.o21 r (by decide)), h.cpd.d15, h.cpd.d12⟩
 exact ⟨.refl _, ⟨own_rtF cp.o7, own_els cp.o9 (fun i => by rw [celL_len]; rfl), own_els cp.o11 (fun i => by rw [celL_len]; rfl), own_nms cp.o12, own_byF cp.o15, own_byF cp.o16, own_nms cp.o21⟩, cp.nil, cp.nw⟩
theorem BF.make {w w' V : World} {X : VState} (hb : Below w.heap.size w w') (hc : CpdF w.heap.size w' X) (hV : w'.alloc (.cells (cel (sState X)) 49) = V) : BF w w'.heap.size V X := by
 have hbv : Below w'.heap.size w' V := by rw [← hV]; exact (Below.refl _ _).alloc (Nat.le_refl _) _
 refine ⟨hb.trans (hbv.mono hb.size), ?_, hc.below hbv⟩
 rw [← hV]
 exact heap_new rfl
theorem src_cel {w : World} {b k : Nat} {l : List Seg} {t : TypeId} (hk : slen l = k) (h : w.heap[b]? = some (.cells (cel l) t)) : Src w k (some ⟨b, 0, none⟩) 1 1 (celL l) :=
 ⟨(fun e => by cases e), by rw [celL_len, hk, Nat.one_mul], celL_one l, .inr ⟨b, 0, rfl, some_lt h, fun j u hj => by
  rw [Nat.zero_add, row_cell h]
  show (celL l).toArray[j]? = some u
  rw [List.getElem?_toArray]
  exact hj⟩⟩
def bsE (n : Nat) (ps : Array (Nat × Value)) : Sem Value := Instr.buildSlice 35 n ps
theorem bsE_eq (n : Nat) (ps : Array (Nat × Value)) : Instr.buildSlice 35 n ps = bsE n ps := rfl
theorem bsE_1 (W : World) (v : VEth1) : (bsE 1 #[(0, .agg (cel (sEth1 v)))]).run Tryz.prog W = .ok (.slice (some ⟨W.heap.size, 0, none⟩) 1 1) (W.alloc (.cells (cel (sEth1 v)) 34)) := by kernel_rfl
def svE (a : Addr) (v : Value) : Sem Unit := storeVar 34 a v
theorem svE_eq (a : Addr) (v : Value) : storeVar 34 a v = svE a v := rfl
theorem svE_mid {w : World} {b : Nat} {C : Array Value} {t : TypeId} (h : w.heap[b]? = some (.cells C t)) (o : Nat) (v : VEth1) (hn : o + 65 ≤ C.size) : (svE ⟨b, o, none⟩ (.agg (cel (sEth1 v)))).run Tryz.prog w = .ok () (w.setCells b o (celL (sEth1 v))) :=
 run_storeVar_mid (P := Tryz.prog) w b o 34 (cel (sEth1 v)) (by rw [cel_size]; exact there_row h o 65 hn) (by rw [cel_size]; kernel_rfl) (cel_one _)
theorem lvE_row {w : World} {b : Nat} {v : VEth1} {t : TypeId} (h : w.heap[b]? = some (.cells (cel (sEth1 v)) t)) : (lvEth1 ⟨b, 0, none⟩).run Tryz.prog w = .ok (.agg (cel (sEth1 v))) w :=
 lvEth1_at fun j u hj => by
  rw [Nat.zero_add, row_cell h]
  show (celL (sEth1 v)).toArray[j]? = some u
  rw [List.getElem?_toArray]
  exact hj
theorem put8 (x : VState) (v : VEth1) : putL (cel (sState x)) 654 (celL (sEth1 v)) = cel (sState { x with f8 := v }) := by
 have h := put_seg ((sState x).take 14) (sEth1 x.f8) (sEth1 v) ((sState x).drop 17) rfl
 rw [← split8, ← split8, show slen ((sState x).take 14) = 654 by kernel_rfl] at h
 exact h
def vcN (z : Nat → VEth1) (v : VEth1) : Nat → Nat
 | 0 => 0
 | k + 1 => vcN z v k + (if eqE (z k) v = true then 1 else 0)
theorem vcN_le (z : Nat → VEth1) (v : VEth1) : ∀ k, vcN z v k ≤ k
 | 0 => Nat.le_refl _
 | k + 1 => by
  show vcN z v k + (if eqE (z k) v = true then 1 else 0) ≤ k + 1
  have := vcN_le z v k
  split <;> omega
def voE (x : VState) : Int := if rightB x = true then (if x.f9.n < 8 then 0 else 6) else 1
def voF (x : VState) (v : VEth1) : VEth1 := if 8 < 2 * vcN (vtZ x.f9.z x.f9.n v) v (x.f9.n + 1) then v else x.f8
def voX (x : VState) (v : VEth1) : VState := { x with f8 := voF x v, f9 := ⟨none, x.f9.n + 1, 0, vtZ x.f9.z x.f9.n v⟩ }
def voS (x : VState) (v : VEth1) : VState := if voE x = 0 then voX x v else oState
theorem voF_sim {x X : VState} (h : SimF x X) (v : VEth1) : voF X v = voF x v := by
 unfold voF
 rw [h.l9, h.z9, h.e8]
theorem voX_sim {x X : VState} (h : SimF x X) (a : Option Addr) (c : Nat) (v : VEth1) : SimF (voX x v) { mor9 X a c v with f8 := voF x v } :=
 ⟨h.e0, h.e1, h.e2, h.e3, h.e4, h.e5, h.e6, h.l7, h.z7, rfl, congrArg (· + 1) h.l9, by show vtZ X.f9.z X.f9.n v = vtZ x.f9.z x.f9.n v; rw [h.l9, h.z9], h.e10, h.l11, h.z11, h.l12, h.z12, h.e13, h.e14, h.l15, h.z15, h.l16, h.z16, h.e17, h.e18, h.e19, h.e20, h.l21, h.z21, h.e22, h.e23⟩
theorem right_small {x : VState} (h : rightB x = true) : x.f7.n ≤ 65536 ∧ x.f9.n ≤ 8 ∧ x.f11.n ≤ 65536 ∧ x.f12.n ≤ 65536 ∧ x.f15.n ≤ 65536 ∧ x.f16.n ≤ 65536 ∧ x.f21.n ≤ 65536 := by
 unfold rightB at h
 rw [Bool.and_eq_true] at h
 have := h.1
 unfold fitB at this
 simp only [Bool.and_eq_true, decide_eq_true_eq] at this
 omega
theorem small_rch {x : VState} (h : rightB x = true) : Rch x := by
 have := right_small h
 unfold Rch
 omega
attribute [local go_sem ↓] lvState_eq svState_eq bdState_eq lvEth1_eq ixEth1_eq bsE_eq svE_eq eqoE_eq
set_option maxHeartbeats 8000000 in
theorem rvote_any (x : VState) (v : VEth1) (w : World) (hx : OkState x) (hw : InW w x) (hn : NilW x) (hv : OkEth1 v) :
    Calls Tryz.prog 13 #[.agg (cel (sState x)), .agg (cel (sEth1 v))] w fun e' w' => ∃ X, e' = .returned (.tuple #[.agg (cel (sState X)), .int .i64 (voE x)]) ∧ Res w.heap.size w' (voS x v) X ∧ Below w.heap.size w w' := by
 obtain ⟨W0, hW0⟩ : ∃ W, ((w.alloc (.cells (cel (sState x)) 49)).alloc (.cells (cel (sEth1 v)) 34)).alloc (.cells (cel (sState oState)) 49) = W := ⟨_, rfl⟩
 have r0 : W0.heap[w.heap.size]? = some (.cells (cel (sState x)) 49) := by rw [← hW0]; exact (heap_old (by simp <;> omega)).trans ((heap_old (by simp)).trans (heap_new rfl))
 have r1 : W0.heap[w.heap.size + 1]? = some (.cells (cel (sEth1 v)) 34) := by rw [← hW0]; exact (heap_old (by simp)).trans (heap_new (by simp))
 have r2 : W0.heap[w.heap.size + 2]? = some (.cells (cel (sState oState)) 49) := by rw [← hW0]; exact heap_new (by simp)
 have hB0 : Below w.heap.size w W0 := by rw [← hW0]; exact (((Below.refl _ _).alloc (Nat.le_refl _) _).alloc (by simp) _).alloc (by simp <;> omega) _
 have z2 : w.heap.size + 2 < W0.heap.size := some_lt r2
 have hri := rright_any x W0 hx.r' (hw.below hB0).r' ⟨hx.o10.1, hx.o4.1.1, hx.o18.1.1, hx.o19.1.1, hx.o20.1.1⟩
 have lx := lvState_run r0
 have z := zeroState
 have bz := bdState_0
 have HB := hid hB0
 have HW := hid hW0
 have R2 := hid r2
 cases hR : rightB x
 ·rw [hR] at hri
  have HRI := hid hri
  have eE : voE x = 1 := by unfold voE; rw [hR]; rfl
  have eS : voS x v = oState := by unfold voS; rw [eE]; rfl
  rw [eE, eS]
  clear hri hB0 hW0 r0 r1 r2 hx hw hn hv
  go_enter Tryz.func13, Tryz.ntmps13
  go_upto_region 1 with fail
  rw [HW.out]
  clear HW z
  go_wp2_with (go_at_call 22; refine HRI.out.mono ?_; rintro e' w1 ⟨rfl, hb1⟩; have s1 := svState_run ((hb1.block _ z2).trans R2.out) oState)
  exact retState 4 5 (w.heap.size + 2) oState 49 (.int .i64 1) rfl rfl rfl rfl (setRow_at ((hb1.block _ z2).trans R2.out)) ⟨oState, rfl, resO _ _, below_row (HB.out.trans (hb1.mono HB.out.size)) (by omega) _⟩
 ·rw [hR] at hri
  have HRI := hid hri
  by_cases h8 : x.f9.n < 8
  ·have eE : voE x = 0 := by unfold voE; rw [hR, if_pos rfl, if_pos h8]
   have eS : voS x v = voX x v := by unfold voS; rw [if_pos eE]
   rw [eE, eS]
   have h8z : ¬ (8 : Int) ≤ (x.f9.n : Int) := by omega
   have h8y : (x.f9.n : Int) < 8 := by omega
   have hcp : ∀ W : World, Below W0.heap.size W0 W → Calls Tryz.prog 7 #[.agg (cel (sState x))] W fun e w' => ∃ X : VState, e = .returned (.agg (cel (sState X))) ∧ SimF x X ∧ CpdF W.heap.size w' X ∧ Below W.heap.size W w' := fun W h => copy_full x W (hw.below (hB0.trans (h.mono hB0.size))) hn (small_rch hR)
   have hok : ∀ X, SimF x X → ∀ j, j < X.f9.n + 1 → OkEth1 (vtZ X.f9.z X.f9.n v j) := fun X h j hj => by
    unfold vtZ
    by_cases h' : j < X.f9.n
    ·rw [if_pos h', h.z9]; exact hx.o9 j (by rw [← h.l9]; exact h')
    ·rw [if_neg h']; exact hv
   have R0 := hid r0
   have R1 := hid r1
   have HCP := hid hcp
   have HOK := hid hok
   have HOV := hid hv
   clear hri hB0 hW0 r0 r1 r2 hx hw hn hv hcp hok
   go_enter Tryz.func13, Tryz.ntmps13
   go_upto_region 1 with fail
   rw [HW.out]
   clear HW
   go_upto_region 3 with (go_at_call 22; refine HRI.out.mono ?_; rintro e' w1 ⟨rfl, hb1⟩)
   have q0 := (hb1.block _ (by omega)).trans R0.out
   have q1 := (hb1.block _ (by omega)).trans R1.out
   have q2 := (hb1.block _ z2).trans R2.out
   have hB1 := HB.out.trans (hb1.mono HB.out.size)
   have c9 := cS9 q0
   replace lx := lvState_run q0
   have hcp := HCP.out w1 hb1
   have HCQ := hid hcp
   have HB1 := hid hB1
   have Q1 := hid q1
   have Q2 := hid q2
   have z1 : w.heap.size + 2 < w1.heap.size := some_lt q2
   clear hcp HCP q0 q1 q2 hB1 hb1 R0 R1 R2 HRI HB
   go_upto_region 6 with (go_at_call 7; refine HCQ.out.mono ?_; rintro e' w2 ⟨X, rfl, hsim, hcd, hb2⟩; have sv := svState_newv w2 oState X; have HSM := hid hsim; have HCD := hid hcd; have HB2 := hid hb2; clear hsim hcd hb2)
   obtain ⟨V0, hV⟩ : ∃ V, w2.alloc (.cells (cel (sState X)) 49) = V := ⟨_, rfl⟩
   have HBF := hid (BF.make HB2.out HCD.out hV)
   have hy : w1.heap.size ≤ w2.heap.size := HB2.out.size
   rw [hV]
   obtain ⟨y, ey⟩ : ∃ y, w2.heap.size = y := ⟨_, rfl⟩
   rw [ey] at HBF hy ⊢
   have HY := hid hy
   clear hV ey sv HCD HB2 HCQ lx c9 hy
   obtain ⟨W5, hW5⟩ : ∃ W, V0.alloc (.cells (cel (sEth1 v)) 34) = W := ⟨_, rfl⟩
   have hb5 : Below V0.heap.size V0 W5 := by rw [← hW5]; exact (Below.refl _ _).alloc (Nat.le_refl _) _
   have HBE := hid (HBF.out.below hb5)
   have r5 : W5.heap[V0.heap.size]? = some (.cells (cel (sEth1 v)) 34) := by rw [← hW5]; exact heap_new rfl
   have SS := hid (src_cel (k := 65) rfl r5)
   have c9 := cS9 HBF.out.row
   have lv := lvE_row ((HBF.out.bel.block _ (by omega : w.heap.size + 1 < w1.heap.size)).trans Q1.out)
   obtain ⟨ii, hi, hz0, hz1, hz2⟩ := info_out (P := Tryz.prog) (t := 34) (z := .agg (cel (sEth1 oEth1))) (s := 65) (b := 72) (by kernel_rfl)
   have II := hid (And.intro hi (And.intro hz0 (And.intro hz1 hz2)))
   have HL : Hid (X.f9.n < 8) := by have := HSM.out.l9; unfold Hid; omega
   have bs1 := fun W => bsE_1 W v
   have HW5 := hid hW5
   clear hb5 r5 hi hz0 hz1 hz2 hW5 z bz
   go_upto_region 7 with (at_builtin; rw [HW5.out]; refine app_src _ rfl _ _ 35 rfl w1.heap.size 34 ii (.agg (cel (sEth1 oEth1))) 65 72 Tryz.underlying35 II.out.1 II.out.2.1 II.out.2.2.1 II.out.2.2.2 (by kernel_rfl) (by omega) _ X.f9.n _ rfl HBE.out.cpd.o9 _ _ _ _ rfl SS.out (by unfold maxLen; have := HL.out; omega) (by have := HL.out; omega) HBE.out.bel.size ?_; intro v6 w6 ho hg; obtain ⟨a6, c6, rfl⟩ := owns_form ho; obtain ⟨m1, ⟨cd, m4⟩, m5⟩ := HBE.out.app9 v HY.out ho hg; have M1 := hid m1; clear m1 ho hg)
   clear c9 m4 m5 lv bs1
   obtain ⟨V, hV⟩ : ∃ V, w6.setCell ⟨y, 719, none⟩ (.slice a6 (X.f9.n + 1) c6) = V := ⟨_, rfl⟩
   obtain ⟨Y, eY⟩ : ∃ Y, mor9 X a6 c6 v = Y := ⟨_, rfl⟩
   rw [hV, eY] at M1
   rw [hV]
   have hN : Y.f9.n = x.f9.n + 1 := by rw [← eY]; exact congrArg (· + 1) HSM.out.l9
   have hZ : Y.f9.z = vtZ x.f9.z x.f9.n v := by rw [← eY]; show vtZ X.f9.z X.f9.n v = _; rw [HSM.out.l9, HSM.out.z9]
   have hok : ∀ j, j < Y.f9.n → OkEth1 (Y.f9.z j) := fun j hj => by rw [← eY] at hj ⊢; exact HOK.out X HSM.out j hj
   rcases M1.out.inW.i9 with h0 | ⟨b, off, ea, _, _⟩
   ·omega
   have hsl : ∀ W, BF w1 y W Y → W.cell? ⟨y, 719, none⟩ = some (.slice (some ⟨b, off, none⟩) (x.f9.n + 1) Y.f9.c) := fun W h => by
    have := cS9 h.row
    rw [ea, hN] at this
    exact this
   have hel : ∀ k, k < x.f9.n + 1 → ∀ W, BF w1 y W Y → (lvEth1 ⟨b, off + 65 * k, none⟩).run Tryz.prog W = .ok (.agg (cel (sEth1 (Y.f9.z k)))) W := fun k hk W h => by
    rcases h.inW.i9 with h0 | ⟨b', off', ea', _, hr⟩
    ·omega
    ·rw [ea] at ea'
     cases ea'
     exact lvEth1_at (hr k (by omega))
   have hlv : ∀ W, BF w1 y W Y → (lvEth1 ⟨w.heap.size + 1, 0, none⟩).run Tryz.prog W = .ok (.agg (cel (sEth1 v))) W := fun W h => lvE_row ((h.bel.block _ (by omega : w.heap.size + 1 < w1.heap.size)).trans Q1.out)
   have hgf : SimF (voX x v) { Y with f8 := voF x v } := by rw [← eY]; exact voX_sim HSM.out a6 c6 v
   have h8f : Y.f8 = x.f8 := by rw [← eY]; exact HSM.out.e8
   have evf : voF x v = if 8 < 2 * vcN Y.f9.z v (x.f9.n + 1) then v else Y.f8 := by rw [hZ, h8f]; rfl
   have HVF := hid evf
   have HGF := hid hgf
   have HSL := hid hsl
   have HELL := hid hel
   have HLV := hid hlv
   have HOKK := hid hok
   have HN := hid hN
   generalize Y.f9.c = CC at HSL
   clear hsl hel hlv hok hN hZ hV eY evf hgf h8f ea HSM HOK HBF HBE HL II SS HW5
   obtain ⟨N, eN⟩ : ∃ N, x.f9.n + 1 = N := ⟨_, rfl⟩
   rw [eN] at HVF HSL HELL HN
   have hN8 : N ≤ 8 := by omega
   generalize Y.f9.z = Z at HVF HELL HOKK
   clear eN h8 h8z h8y
   go_wp2
   go_loopw [7, 8] (fun c i wr => ∃ k : Nat, k ≤ N ∧ i = .int .i64 k ∧ c = .int .i64 (vcN Z v k : Nat) ∧ BF w1 y wr Y) (fun _ i _ => N - (intOf i).toNat)
   case atStart => exact ⟨0, by omega, rfl, rfl, M1.out⟩
   case round =>
    clear M1
    obtain ⟨k, hk, rfl, rfl, hbf⟩ := hrel
    have hck := vcN_le Z v k
    have sl := HSL.out wr hbf
    by_cases hlt : k < N
    ·have k1 : (k : Int) < (N : Int) := by omega
     have k2 : IntKind.i64.wrap ((k : Int) + 1) = (k : Int) + 1 := by rw [IntKind.wrap_i64]; omega
     have k3 : IntKind.i64.wrap ((vcN Z v k : Int) + 1) = (vcN Z v k : Int) + 1 := by rw [IntKind.wrap_i64]; omega
     have hst : vcN Z v (k + 1) = vcN Z v k + (if eqE (Z k) v = true then 1 else 0) := rfl
     have hix := fun W => ixEth1_run W b off N CC k hlt
     have hel := HELL.out k hlt
     have hzk := HOKK.out k (by rw [HN.out]; exact hlt)
     generalize vcN Z v k = C0 at hst hck k3
     generalize Z k = ZK at hst hel hzk
     have HST := hid hst
     have HIX := hid hix
     have HEL := hid hel
     have HZK := hid hzk
     have HDR := hid hbf.drew
     clear hst hix hel hzk hbf
     cases he : eqE ZK v
     ·have HEQ := hid he
      go_upto_region 11 with fail
      refine wp_region_noPanic ?_
      refine wp_region_held_drew (S := fun W => BF w1 y W Y) (by kernel_rfl) (HDR.out) (fun hHeld => ?_)
      refine tk 0 (v := ?v701) ?y701 hHeld ?r701
      case y701 => intro w hSw; go_simp; try with_reducible rfl
      refine tk 1 (v := ?v702) ?y702 hHeld ?r702
      case y702 => intro w hSw; have ld0 := HSL.out w hSw; go_simp; try with_reducible rfl
      refine tk 2 (v := ?v703) ?y703 hHeld ?r703
      case y703 => intro w hSw; go_simp; try with_reducible rfl
      refine tk 3 (v := ?v704) ?y704 hHeld ?r704
      case y704 => intro w hSw; have ld0 := HIX.out w; go_simp; try with_reducible rfl
      refine tk 4 (v := ?v705) ?y705 hHeld ?r705
      case y705 => intro w hSw; have ld0 := HEL.out w hSw; go_simp; try with_reducible rfl
      refine tk 5 (v := ?v706) ?y706 hHeld ?r706
      case y706 => intro w hSw; have ld0 := HLV.out w hSw; go_simp; try with_reducible rfl
      try simp only [Act.put, z_1, z_2, z_3, z_4, z_5, z_6, z_7]
      refine wpAnyH_take (i := 6) rfl (by kernel_rfl) (by kernel_rfl) (by kernel_rfl) (fun _ _ _ h => h) (yields_eqoE (by rfl) _ _ _ rfl ZK v HZK.out HOV.out rfl rfl) hHeld ?_
      rw [HEQ.out]
      try simp only [Act.put, z_1, z_2, z_3, z_4, z_5, z_6, z_7]
      refine wpAnyH_done (by kernel_rfl) ?_ _
      refine NoPanic.normal ?_
      go_wp2
      go_roundw
      case rel => exact ⟨k + 1, by omega, by go_num, by rw [HST.out, HEQ.out]; rfl, HDR.out⟩
      case measure => simp [intOf]; omega
     ·have HEQ := hid he
      go_upto_region 11 with fail
      refine wp_region_noPanic ?_
      refine wp_region_held_drew (S := fun W => BF w1 y W Y) (by kernel_rfl) (HDR.out) (fun hHeld => ?_)
      refine tk 0 (v := ?v707) ?y707 hHeld ?r707
      case y707 => intro w hSw; go_simp; try with_reducible rfl
      refine tk 1 (v := ?v708) ?y708 hHeld ?r708
      case y708 => intro w hSw; have ld0 := HSL.out w hSw; go_simp; try with_reducible rfl
      refine tk 2 (v := ?v709) ?y709 hHeld ?r709
      case y709 => intro w hSw; go_simp; try with_reducible rfl
      refine tk 3 (v := ?v710) ?y710 hHeld ?r710
      case y710 => intro w hSw; have ld0 := HIX.out w; go_simp; try with_reducible rfl
      refine tk 4 (v := ?v711) ?y711 hHeld ?r711
      case y711 => intro w hSw; have ld0 := HEL.out w hSw; go_simp; try with_reducible rfl
      refine tk 5 (v := ?v712) ?y712 hHeld ?r712
      case y712 => intro w hSw; have ld0 := HLV.out w hSw; go_simp; try with_reducible rfl
      try simp only [Act.put, z_1, z_2, z_3, z_4, z_5, z_6, z_7]
      refine wpAnyH_take (i := 6) rfl (by kernel_rfl) (by kernel_rfl) (by kernel_rfl) (fun _ _ _ h => h) (yields_eqoE (by rfl) _ _ _ rfl ZK v HZK.out HOV.out rfl rfl) hHeld ?_
      rw [HEQ.out]
      try simp only [Act.put, z_1, z_2, z_3, z_4, z_5, z_6, z_7]
      refine wpAnyH_done (by kernel_rfl) ?_ _
      refine NoPanic.normal ?_
      go_wp2
      go_roundw
      case rel => exact ⟨k + 1, by omega, by go_num, by rw [HST.out, HEQ.out]; go_num, HDR.out⟩
      case measure => simp [intOf]; omega
    ·obtain rfl : k = N := by omega
     have HBF := hid hbf
     have kN : ¬ (k : Int) < (k : Int) := by omega
     generalize vcN Z v k = C0 at hck HVF
     have k3 : IntKind.i64.wrap (2 * (C0 : Int)) = 2 * (C0 : Int) := by rw [IntKind.wrap_i64]; omega
     clear hbf HELL HOKK
     by_cases h2 : 8 < 2 * C0
     ·have h2z : (8 : Int) < 2 * (C0 : Int) := by omega
      have lv := HLV.out wr HBF.out
      have se := svE_mid HBF.out.row 654 v (by rw [cel_size, slState]; omega)
      have hbg := HBF.out.cells HY.out 654 (celL (sEth1 v)) (put8 Y v) rfl rfl rfl rfl rfl rfl rfl
      have hf := HVF.out
      rw [if_pos h2] at hf
      obtain ⟨V2, hV2⟩ : ∃ V, wr.setCells y 654 (celL (sEth1 v)) = V := ⟨_, rfl⟩
      rw [hV2] at hbg se
      have hgf := HGF.out
      rw [hf] at hgf
      have q2 := (hbg.bel.block _ z1).trans Q2.out
      have ly := lvState_run hbg.row
      have s2 := svState_run q2 { Y with f8 := v }
      have HR := hid (hbg.give q2 (cel (sState { Y with f8 := v })))
      have HQ := hid q2
      have HBG := hid hbg
      have HGG := hid hgf
      clear hbg q2 hV2 hf hgf HBF
      go_wp2
      exact retState 4 5 (w.heap.size + 2) { Y with f8 := v } 49 (.int .i64 0) rfl rfl rfl rfl (setRow_at HQ.out) ⟨_, rfl, HR.out.to HB1.out.size HGG.out, below_row (HB1.out.trans (HBG.out.bel.mono HB1.out.size)) (by omega) _⟩
     ·have h2z : ¬ (8 : Int) < 2 * (C0 : Int) := by omega
      have hf := HVF.out
      rw [if_neg h2] at hf
      have hgf := HGF.out
      rw [hf] at hgf
      have q2 := (HBF.out.bel.block _ z1).trans Q2.out
      have ly := lvState_run HBF.out.row
      have s2 := svState_run q2 Y
      have HR := hid (HBF.out.give q2 (cel (sState Y)))
      have HQ := hid q2
      have HGG := hid hgf
      clear q2 hf hgf
      go_wp2
      exact retState 4 5 (w.heap.size + 2) Y 49 (.int .i64 0) rfl rfl rfl rfl (setRow_at HQ.out) ⟨_, rfl, HR.out.to HB1.out.size HGG.out, below_row (HB1.out.trans (HBF.out.bel.mono HB1.out.size)) (by omega) _⟩
  ·have eE : voE x = 6 := by unfold voE; rw [hR, if_pos rfl, if_neg h8]
   have eS : voS x v = oState := by unfold voS; rw [eE]; rfl
   rw [eE, eS]
   have h8z : (8 : Int) ≤ (x.f9.n : Int) := by omega
   have R0 := hid r0
   clear hri hB0 hW0 r0 r1 r2 hx hw hn hv
   go_enter Tryz.func13, Tryz.ntmps13
   go_upto_region 1 with fail
   rw [HW.out]
   clear HW z
   go_upto_region 3 with (go_at_call 22; refine HRI.out.mono ?_; rintro e' w1 ⟨rfl, hb1⟩)
   have c9 := cS9 ((hb1.block _ (by omega)).trans R0.out)
   have s1 := svState_run ((hb1.block _ z2).trans R2.out) oState
   go_wp2
   exact retState 4 5 (w.heap.size + 2) oState 49 (.int .i64 6) rfl rfl rfl rfl (setRow_at ((hb1.block _ z2).trans R2.out)) ⟨oState, rfl, resO _ _, below_row (HB.out.trans (hb1.mono HB.out.size)) (by omega) _⟩
end Go.Proofs.YtopnhpllidegnaaGreatDoor
