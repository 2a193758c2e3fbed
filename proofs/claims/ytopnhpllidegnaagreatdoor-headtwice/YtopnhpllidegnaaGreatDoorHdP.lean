/-
 What the program's Vote answers, and its Header of another slot's block.
-/
import Derived.Test.YtopnhpllidegnaaGreatDoorHdI
import Derived.Test.YtopnhpllidegnaaGreatDoorHdD
import Derived.Test.YtopnhpllidegnaaGreatDoorPkP
namespace Go.Proofs.YtopnhpllidegnaaGreatDoor
open Go.RowKit
set_option linter.unusedVariables false
set_option linter.unusedSimpArgs false
set_option maxRecDepth 20000
theorem CpdF.down {B C : Nat} {w : World} {X : VState} (h : CpdF B w X) (hC : C ≤ B) : CpdF C w X := ⟨own_down h.o7 hC, own_down h.o9 hC, own_down h.o11 hC, own_down h.o12 hC, own_down h.o15 hC, own_down h.o16 hC, own_down h.o21 hC, h.d15, h.d12⟩
theorem BF.own {w w1 w2 : World} {y : Nat} {C : Array Value} {X : VState} (hy : w.heap.size ≤ y) (h1 : Up w w1) (h2 : Up w1 w2) (r : w2.heap[y]? = some (.cells C 49)) (hc : CpdF w1.heap.size w2 X) (hz : C.size = (cel (sState X)).size) : BF w y (w2.setRow y (cel (sState X))) X ∧ CpdF w1.heap.size (w2.setRow y (cel (sState X))) X := by
 have hk : Kept y w2 (w2.setRow y (cel (sState X))) := (Kept.refl y w2).setRow _
 have hc2 : CpdF w1.heap.size (w2.setRow y (cel (sState X))) X := ⟨own_keptB hc.o7 hk (own_ne hc.o7 r (by decide)), own_keptB hc.o9 hk (own_ne hc.o9 r (by decide)), own_keptB hc.o11 hk (own_ne hc.o11 r (by decide)), own_keptB hc.o12 hk (own_ne hc.o12 r (by decide)), own_keptB hc.o15 hk (own_ne hc.o15 r (by decide)), own_keptB hc.o16 hk (own_ne hc.o16 r (by decide)), own_keptB hc.o21 hk (own_ne hc.o21 r (by decide)), hc.d15, hc.d12⟩
 exact ⟨⟨below_row (upT h1 h2) hy _, setRow_at r, hc2.down h1.size⟩, hc2⟩
theorem zeE (W : World) : (zeroValue 34).run Tryz.prog W = .ok (.agg (cel (sEth1 oEth1))) W := by kernel_rfl
theorem svE_newv (W : World) (o c : VEth1) : (svE ⟨W.heap.size, 0, none⟩ (.agg (cel (sEth1 c)))).run Tryz.prog (W.alloc (.cells (cel (sEth1 o)) 34)) = .ok () (W.alloc (.cells (cel (sEth1 c)) 34)) :=
 run_storeVar_new W 34 _ _ (by rw [cel_size]; kernel_rfl) (by rw [cel_size, cel_size]; rfl) (cel_one _)
attribute [local go_sem ↓] lvState_eq svState_eq bdState_eq lvEth1_eq ixEth1_eq bsE_eq svE_eq eqoE_eq
set_option maxHeartbeats 4000000 in
theorem most_any (v : VEth1) (z : Nat → VEth1) (b off N C : Nat) (w : World) (hv : OkEth1 v) (hz : ∀ j, j < N → OkEth1 (z j)) (hN : N ≤ 8) (hb : b < w.heap.size) (hr : ∀ j, j < N → w.rangeAt b (off + 65 * j) (celL (sEth1 (z j)))) :
    Calls Tryz.prog 33 #[.agg (cel (sEth1 v)), .slice (some ⟨b, off, none⟩) N C] w fun e w' => e = .returned (.bool (decide (8 < 2 * vcN z v N))) ∧ Below w.heap.size w w' := by
 obtain ⟨W0, hW0⟩ : ∃ W, w.alloc (.cells (cel (sEth1 v)) 34) = W := ⟨_, rfl⟩
 have r0 : W0.heap[w.heap.size]? = some (.cells (cel (sEth1 v)) 34) := by rw [← hW0]; exact heap_new rfl
 have hB0 : Up w W0 := by rw [← hW0]; exact (Below.refl _ _).alloc (Nat.le_refl _) _
 have hlv : ∀ W, Up W0 W → (lvEth1 ⟨w.heap.size, 0, none⟩).run Tryz.prog W = .ok (.agg (cel (sEth1 v))) W := fun W h => lvE_row (upR h r0)
 have hel : ∀ k, k < N → ∀ W, Up W0 W → (lvEth1 ⟨b, off + 65 * k, none⟩).run Tryz.prog W = .ok (.agg (cel (sEth1 (z k)))) W := fun k hk W h => lvEth1_at fun j u hj => (below_cell (upT hB0 h) hb).trans (hr k hk j u hj)
 have HB := hid hB0
 have HW := hid hW0
 have HLV := hid hlv
 have HEL := hid hel
 have HZ := hid hz
 have HV := hid hv
 clear hB0 hW0 hlv hel hz hv r0 hr hb
 go_enter Tryz.func33, Tryz.ntmps33
 go_upto_region 1 with fail
 rw [HW.out]
 clear HW
 go_wp2
 go_loopw [5, 10] (fun c i wr => ∃ k : Nat, k ≤ N ∧ i = .int .i64 k ∧ c = .int .i64 (vcN z v k : Nat) ∧ Up W0 wr) (fun _ i _ => N - (intOf i).toNat)
 case atStart => exact ⟨0, by omega, rfl, rfl, Below.refl _ _⟩
 case round =>
  obtain ⟨k, hk, rfl, rfl, hup⟩ := hrel
  have hck := vcN_le z v k
  by_cases hlt : k < N
  ·have k1 : (k : Int) < (N : Int) := by omega
   have k2 : IntKind.i64.wrap ((k : Int) + 1) = (k : Int) + 1 := by rw [IntKind.wrap_i64]; omega
   have k3 : IntKind.i64.wrap ((vcN z v k : Int) + 1) = (vcN z v k : Int) + 1 := by rw [IntKind.wrap_i64]; omega
   have hst : vcN z v (k + 1) = vcN z v k + (if eqE (z k) v = true then 1 else 0) := rfl
   have hix := fun W => ixEth1_run W b off N C k hlt
   have hel := HEL.out k hlt
   have hzk := HZ.out k hlt
   generalize vcN z v k = C0 at hst hck k3
   generalize z k = ZK at hst hel hzk
   have he1 := hel wr hup
   have z1 := zeE
   have sv := svE_newv wr oEth1 ZK
   have hdn : Up wr (wr.alloc (.cells (cel (sEth1 ZK)) 34)) := (Below.refl _ _).alloc (Nat.le_refl _) _
   have ld := lvE_row (heap_new (w := wr) (o := .cells (cel (sEth1 ZK)) 34) rfl)
   have lv := HLV.out _ (upT hup hdn)
   have hu2 := upT hup hdn
   have eq := fun W => eqoE_run W ZK v hzk HV.out
   have HST := hid hst
   have HU2 := hid hu2
   clear hst hel hzk hup hdn hu2
   cases he : eqE ZK v
   ·simp only [he] at eq
    have HEQ := hid he
    clear he
    go_wp2
    go_roundw
    case rel => exact ⟨k + 1, by omega, by go_num, by rw [HST.out, HEQ.out]; rfl, HU2.out⟩
    case measure => simp [intOf]; omega
   ·simp only [he] at eq
    have HEQ := hid he
    clear he
    go_wp2
    go_roundw
    case rel => exact ⟨k + 1, by omega, by go_num, by rw [HST.out, HEQ.out]; go_num, HU2.out⟩
    case measure => simp [intOf]; omega
  ·obtain rfl : k = N := by omega
   have kN : ¬ (k : Int) < (k : Int) := by omega
   have HUP := hid hup
   obtain ⟨C0, eC⟩ : ∃ C, vcN z v k = C := ⟨_, rfl⟩
   rw [eC] at hck ⊢
   have EC := hid eC
   clear eC
   have k3 : IntKind.i64.wrap (2 * (C0 : Int)) = 2 * (C0 : Int) := by rw [IntKind.wrap_i64]; omega
   clear hup
   by_cases h2 : 8 < 2 * C0
   ·have h2z : (8 : Int) < 2 * (C0 : Int) := by omega
    go_wp2
    go_ret
    exact ⟨ret_bool (by rw [EC.out, decide_eq_true h2]), upT HB.out HUP.out⟩
   ·have h2z : ¬ (8 : Int) < 2 * (C0 : Int) := by omega
    go_wp2
    go_ret
    exact ⟨ret_bool (by rw [EC.out, decide_eq_false h2]), upT HB.out HUP.out⟩
def VoJ (e : Int) (b : Nat) (a' : Act) : Prop := ∃ u0 u1 u2 u3 u5 u7 u8 u9 u10 u11 u12 u13 u14 u15 u16 u17 u18 u19 u20 u21 u22 u23 u24 u25 u26 u27 u28 u29 u30, a' = { tmps := #[u0, u1, u2, u3, .pointer (some ⟨b + 2, 0, none⟩), u5, .int .i64 e, u7, u8, u9, u10, u11, u12, u13, u14, u15, u16, u17, u18, u19, u20, u21, u22, u23, u24, u25, u26, u27, u28, u29, u30], defers := [] }
def HdJ (e : Int) (b : Nat) (a' : Act) : Prop := ∃ u0 u1 u2 u3 u5 u6 u7 u9 u10 u11 u12 u13 u14 u15 u16 u17 u18 u19 u20 u21 u22 u23 u24 u25 u26 u27 u28 u29 u30 u31 u32 u33 u34 u35 u36 u37 u38 u39 u40 u41 u42 u43 u44 u45 u46 u47 u48 u49 u50 u51 u52 u53 u54 u55 u56 u57 u58 u59 u60 u61 u62 u63 u64 u65 u66 u67, a' = { tmps := #[u0, u1, u2, u3, .pointer (some ⟨b + 2, 0, none⟩), u5, u6, u7, .int .i64 e, u9, u10, u11, u12, u13, u14, u15, u16, u17, u18, u19, u20, u21, u22, u23, u24, u25, u26, u27, u28, u29, u30, u31, u32, u33, u34, u35, u36, u37, u38, u39, u40, u41, u42, u43, u44, u45, u46, u47, u48, u49, u50, u51, u52, u53, u54, u55, u56, u57, u58, u59, u60, u61, u62, u63, u64, u65, u66, u67], defers := [] }
set_option maxHeartbeats 8000000 in
theorem vote_prog : PVote := fun x v w hx hw hn hl hv => by
 obtain ⟨W0, hW0⟩ : ∃ W, ((w.alloc (.cells (cel (sState x)) 49)).alloc (.cells (cel (sEth1 v)) 34)).alloc (.cells (cel (sState oState)) 49) = W := ⟨_, rfl⟩
 have r0 : W0.heap[w.heap.size]? = some (.cells (cel (sState x)) 49) := by rw [← hW0]; exact (heap_old (by simp <;> omega)).trans ((heap_old (by simp)).trans (heap_new rfl))
 have r1 : W0.heap[w.heap.size + 1]? = some (.cells (cel (sEth1 v)) 34) := by rw [← hW0]; exact (heap_old (by simp)).trans (heap_new (by simp))
 have r2 : W0.heap[w.heap.size + 2]? = some (.cells (cel (sState oState)) 49) := by rw [← hW0]; exact heap_new (by simp)
 have hB0 : Up w W0 := by rw [← hW0]; exact (((Below.refl _ _).alloc (Nat.le_refl _) _).alloc (by simp) _).alloc (by simp <;> omega) _
 have z2 : w.heap.size + 2 < W0.heap.size := some_lt r2
 have hri := right_any x W0 hx.r' (hw.below hB0).r' hl
 have lx := lvState_run r0
 have z := zeroState
 have HB := hid hB0
 have HW := hid hW0
 have R0 := hid r0
 have R1 := hid r1
 have R2 := hid r2
 have hcp : rightB x = true → ∀ W : World, Up W0 W → Calls Tryz.prog 19 #[.agg (cel (sState x))] W fun e w' => ∃ X : VState, e = .returned (.agg (cel (sState X))) ∧ SimF x X ∧ CpdF W.heap.size w' X ∧ Below W.heap.size W w' := fun hR W h => copyC_any x W (hw.below (upT hB0 h)) hn (small_rch hR)
 have hok : ∀ X, SimF x X → ∀ j, j < X.f9.n + 1 → OkEth1 (vtZ X.f9.z X.f9.n v j) := fun X h j hj => by
  unfold vtZ
  by_cases h' : j < X.f9.n
  ·rw [if_pos h', h.z9]; exact hx.o9 j (by rw [← h.l9]; exact h')
  ·rw [if_neg h']; exact hv
 have HCP := hid hcp
 have HOK := hid hok
 have HOV := hid hv
 have HRI := hid hri
 clear hri hB0 hW0 r0 r1 r2 hx hw hn hl hv hcp hok
 obtain ⟨E, hE⟩ : ∃ e, voE x = e := ⟨_, rfl⟩
 obtain ⟨YS, hYS⟩ : ∃ y, voS x v = y := ⟨_, rfl⟩
 rw [hE, hYS]
 have hS0 : ¬ E = 0 → YS = oState := fun h => by rw [← hYS]; unfold voS; rw [if_neg (by rw [hE]; exact h)]
 have HE := hid hE
 have HYS := hid hYS
 have HS0 := hid hS0
 clear hE hYS hS0
 go_enter Tryz.func12, Tryz.ntmps12
 go_wp2
 rw [HW.out]
 clear HW z
 refine wp_scope_jumps 0 (fun a' w' => ¬ E = 0 ∧ VoJ E w.heap.size a' ∧ w'.heap[w.heap.size + 2]? = some (.cells (cel (sState oState)) 49) ∧ Up W0 w') (fun _ _ => 0) rfl ?first ?pass
 case pass =>
  rintro a' wr ⟨hne, ⟨u0, u1, u2, u3, u5, u7, u8, u9, u10, u11, u12, u13, u14, u15, u16, u17, u18, u19, u20, u21, u22, u23, u24, u25, u26, u27, u28, u29, u30, rfl⟩, hrow, hup⟩
  obtain rfl := HS0.out hne
  have bz := bdState_0
  have s1 := svState_run hrow oState
  have HRW := hid hrow
  have HUP := hid hup
  clear hne hrow hup HE HYS HS0 HCP HOK HOV HRI lx R0 R1 R2
  go_wp2
  simp only [Exit.jump]
  exact retState 4 5 (w.heap.size + 2) oState 49 (.int .i64 E) rfl rfl rfl rfl (setRow_at HRW.out) ⟨oState, rfl, resO _ _, below_row (upT HB.out HUP.out) (by omega) _⟩
 case first =>
  cases hR : rightB x
  ·rw [hR] at HRI
   obtain rfl : E = 1 := by rw [← HE.out]; unfold voE; rw [hR]; rfl
   clear HE HYS HS0 HCP HOK HOV R0 R1
   go_wp2_with (go_at_call 15; refine HRI.out.mono ?_; rintro e' w1 ⟨rfl, hb1⟩)
   go_step3
   exact ⟨rfl, by decide, ⟨_, _, _, _, _, _, _, _, _, _, _, _, _, _, _, _, _, _, _, _, _, _, _, _, _, _, _, _, _, rfl⟩, upR hb1 R2.out, hb1⟩
  ·rw [hR] at HRI
   by_cases h8 : x.f9.n < 8
   ·have eE : voE x = 0 := by unfold voE; rw [hR, if_pos rfl, if_pos h8]
    have eS : voS x v = voX x v := by unfold voS; rw [if_pos eE]
    obtain rfl : E = 0 := HE.out.symm.trans eE
    obtain rfl : YS = voX x v := HYS.out.symm.trans eS
    clear HE HYS HS0
    have h8z : ¬ (8 : Int) ≤ (x.f9.n : Int) := by omega
    have h8y : (x.f9.n : Int) < 8 := by omega
    have HCQ := hid (HCP.out hR)
    clear HCP hR eE eS
    go_upto_region 4 with (go_at_call 15; refine HRI.out.mono ?_; rintro e' w1 ⟨rfl, hb1⟩)
    have q0 := upR hb1 R0.out
    have c9 := cS9 q0
    replace lx := lvState_run q0
    have HCR := hid (HCQ.out w1 hb1)
    have Q0 := hid q0
    have Q1 := hid (upR hb1 R1.out)
    have Q2 := hid (upR hb1 R2.out)
    have HB1 := hid (upT HB.out hb1)
    have z1 : w.heap.size + 2 < w1.heap.size := some_lt Q2.out
    clear q0 hb1 R0 R1 R2 HRI HB HCQ
    go_upto_region 6 with (go_at_call 19; refine HCR.out.mono ?_; rintro e' w2 ⟨X, rfl, hsim, hcd, hb2⟩; have sv := svState_run (upR hb2 Q0.out) X; have HSM := hid hsim; have HCD := hid hcd; have HB2 := hid hb2; clear hsim hcd hb2)
    obtain ⟨hbf, hcc⟩ := BF.own (Nat.le_refl w.heap.size) HB1.out HB2.out (upR HB2.out Q0.out) HCD.out (by rw [cel_size, cel_size]; rfl)
    have p1 : (w2.setRow w.heap.size (cel (sState X))).heap[w.heap.size + 1]? = some (.cells (cel (sEth1 v)) 34) := by rw [setRow_other (by omega)]; exact upR HB2.out Q1.out
    have p2 : (w2.setRow w.heap.size (cel (sState X))).heap[w.heap.size + 2]? = some (.cells (cel (sState oState)) 49) := by rw [setRow_other (by omega)]; exact upR HB2.out Q2.out
    have zs : w1.heap.size ≤ (w2.setRow w.heap.size (cel (sState X))).heap.size := Nat.le_trans HB2.out.size ((Kept.refl w.heap.size w2).setRow _).size
    obtain ⟨V0, hV⟩ : ∃ V, w2.setRow w.heap.size (cel (sState X)) = V := ⟨_, rfl⟩
    rw [hV] at hbf hcc p1 p2 zs
    rw [hV]
    have HBF := hid hbf
    have HCC := hid hcc
    have P1 := hid p1
    have P2 := hid p2
    clear hbf hcc p1 p2 hV sv HCD HB2 HCR lx c9 Q0 Q1 Q2
    obtain ⟨W5, hW5⟩ : ∃ W, V0.alloc (.cells (cel (sEth1 v)) 34) = W := ⟨_, rfl⟩
    have hb5 : Up V0 W5 := by rw [← hW5]; exact (Below.refl _ _).alloc (Nat.le_refl _) _
    have HBE := hid (HBF.out.below hb5)
    have HCE := hid (HCC.out.below hb5)
    have r5 : W5.heap[V0.heap.size]? = some (.cells (cel (sEth1 v)) 34) := by rw [← hW5]; exact heap_new rfl
    have SS := hid (src_cel (k := 65) rfl r5)
    have c9 := cS9 HBF.out.row
    have lv := lvE_row P1.out
    have P15 := hid (upR hb5 P1.out)
    have P25 := hid (upR hb5 P2.out)
    have zs5 : w1.heap.size ≤ W5.heap.size := Nat.le_trans zs hb5.size
    obtain ⟨ii, hi, hz0, hz1, hz2⟩ := info_out (P := Tryz.prog) (t := 34) (z := .agg (cel (sEth1 oEth1))) (s := 65) (b := 72) (by kernel_rfl)
    have II := hid (And.intro hi (And.intro hz0 (And.intro hz1 hz2)))
    have HL : Hid (X.f9.n < 8) := by have := HSM.out.l9; unfold Hid; omega
    have bs1 := fun W => bsE_1 W v
    have HW5 := hid hW5
    clear hb5 r5 hi hz0 hz1 hz2 hW5
    go_upto_region 7 with (at_builtin; rw [HW5.out]; refine app_src _ rfl _ _ 35 rfl w1.heap.size 34 ii (.agg (cel (sEth1 oEth1))) 65 72 Tryz.underlying35 II.out.1 II.out.2.1 II.out.2.2.1 II.out.2.2.2 (by kernel_rfl) (by omega) _ X.f9.n _ rfl HCE.out.o9 _ _ _ _ rfl SS.out (by unfold maxLen; have := HL.out; omega) (by have := HL.out; omega) zs5 ?_; intro v6 w6 ho hg; obtain ⟨a6, c6, rfl⟩ := owns_form ho; obtain ⟨m1, ⟨cd, m4⟩, m5⟩ := HBE.out.app9 v (Nat.le_refl _) (own_down ho HB1.out.size) hg; have g1 := hg.block (w.heap.size + 1) (by omega) (fun e => by have := (HCE.out.o9.lt _ e.symm).1; omega); have g2 := hg.block (w.heap.size + 2) (by omega) (fun e => by have := (HCE.out.o9.lt _ e.symm).1; omega); have M1 := hid m1; have G1 := hid (g1.trans P15.out); have G2 := hid (g2.trans P25.out); clear m1 ho hg g1 g2)
    clear c9 m4 m5 lv bs1
    have p1 : (w6.setCell ⟨w.heap.size, 719, none⟩ (.slice a6 (X.f9.n + 1) c6)).heap[w.heap.size + 1]? = some (.cells (cel (sEth1 v)) 34) := (heap_set_other (by omega)).trans G1.out
    have p2 : (w6.setCell ⟨w.heap.size, 719, none⟩ (.slice a6 (X.f9.n + 1) c6)).heap[w.heap.size + 2]? = some (.cells (cel (sState oState)) 49) := (heap_set_other (by omega)).trans G2.out
    obtain ⟨V, hV⟩ : ∃ V, w6.setCell ⟨w.heap.size, 719, none⟩ (.slice a6 (X.f9.n + 1) c6) = V := ⟨_, rfl⟩
    obtain ⟨Y, eY⟩ : ∃ Y, mor9 X a6 c6 v = Y := ⟨_, rfl⟩
    rw [hV, eY] at M1
    rw [hV] at p1 p2
    rw [hV]
    have hN : Y.f9.n = x.f9.n + 1 := by rw [← eY]; exact congrArg (· + 1) HSM.out.l9
    have hZ : Y.f9.z = vtZ x.f9.z x.f9.n v := by rw [← eY]; show vtZ X.f9.z X.f9.n v = _; rw [HSM.out.l9, HSM.out.z9]
    have hok : ∀ j, j < Y.f9.n → OkEth1 (Y.f9.z j) := fun j hj => by rw [← eY] at hj ⊢; exact HOK.out X HSM.out j hj
    rcases M1.out.inW.i9 with h0 | ⟨b, off, ea, hbl, hra⟩
    ·omega
    have hmo := most_any v Y.f9.z b off Y.f9.n Y.f9.c V HOV.out hok (by omega) hbl hra
    have hgf : SimF (voX x v) { Y with f8 := voF x v } := by rw [← eY]; exact voX_sim HSM.out a6 c6 v
    have h8f : Y.f8 = x.f8 := by rw [← eY]; exact HSM.out.e8
    have evf : voF x v = if 8 < 2 * vcN Y.f9.z v Y.f9.n then v else Y.f8 := by rw [hZ, hN, h8f]; rfl
    have c9 := cS9 M1.out.row
    rw [ea] at c9
    have lv := lvE_row p1
    have HMO := hid hmo
    have HGF := hid hgf
    have HVF := hid evf
    have P1 := hid p1
    have P2 := hid p2
    clear hmo hgf evf p1 p2 hN hZ hok hra hbl hV eY h8f ea HSM HOK HCC HCE HBE HBF II SS HW5 HL G1 G2 P15 P25 HOV
    generalize Y.f9.c = CC at HMO c9
    generalize Y.f9.n = NN at HMO c9 HVF
    generalize Y.f9.z = ZZ at HMO HVF
    by_cases h2 : 8 < 2 * vcN ZZ v NN
    ·have hd2 : decide (8 < 2 * vcN ZZ v NN) = true := decide_eq_true h2
     rw [hd2] at HMO
     have hf := HVF.out
     rw [if_pos h2] at hf
     have hgf := HGF.out
     rw [hf] at hgf
     have HGG := hid hgf
     clear hf hgf HGF HVF h2 hd2
     go_upto_region 8 with (go_at_call 33; refine HMO.out.mono ?_; rintro e' w7 ⟨rfl, hb7⟩)
     have hbf := M1.out.below hb7
     replace lv := lvE_row (upR hb7 P1.out)
     have se := svE_mid hbf.row 654 v (by rw [cel_size, slState]; omega)
     have hbg := hbf.cells (Nat.le_refl _) 654 (celL (sEth1 v)) (put8 Y v) rfl rfl rfl rfl rfl rfl rfl
     have q2 : (w7.setCells w.heap.size 654 (celL (sEth1 v))).heap[w.heap.size + 2]? = some (.cells (cel (sState oState)) 49) := ((setCells_kept (celL (sEth1 v)) 654 (Kept.refl w.heap.size w7)).block _ (some_lt (upR hb7 P2.out)) (by omega)).trans (upR hb7 P2.out)
     obtain ⟨V2, hV2⟩ : ∃ V, w7.setCells w.heap.size 654 (celL (sEth1 v)) = V := ⟨_, rfl⟩
     rw [hV2] at hbg se q2
     have ly := lvState_run hbg.row
     have s2 := svState_run q2 { Y with f8 := v }
     have HR := hid (hbg.give q2 (cel (sState { Y with f8 := v })))
     have HQ := hid q2
     have HBG := hid hbg
     clear hbg hbf q2 hV2 hb7 M1 P1 P2 HMO c9
     go_wp2
     simp only [Exit.jump]
     exact retState 4 5 (w.heap.size + 2) { Y with f8 := v } 49 (.int .i64 0) rfl rfl rfl rfl (setRow_at HQ.out) ⟨_, rfl, HR.out.to (Nat.le_refl _) HGG.out, below_row HBG.out.bel (by omega) _⟩
    ·have hd2 : decide (8 < 2 * vcN ZZ v NN) = false := decide_eq_false h2
     rw [hd2] at HMO
     have hf := HVF.out
     rw [if_neg h2] at hf
     have hgf := HGF.out
     rw [hf] at hgf
     have HGG := hid hgf
     clear hf hgf HGF HVF h2 hd2
     go_upto_region 9 with (go_at_call 33; refine HMO.out.mono ?_; rintro e' w7 ⟨rfl, hb7⟩)
     have hbg := M1.out.below hb7
     have q2 := upR hb7 P2.out
     have ly := lvState_run hbg.row
     have s2 := svState_run q2 Y
     have HR := hid (hbg.give q2 (cel (sState Y)))
     have HQ := hid q2
     have HBG := hid hbg
     clear hbg q2 hb7 M1 P1 P2 HMO c9 lv
     go_wp2
     simp only [Exit.jump]
     exact retState 4 5 (w.heap.size + 2) Y 49 (.int .i64 0) rfl rfl rfl rfl (setRow_at HQ.out) ⟨_, rfl, HR.out.to (Nat.le_refl _) HGG.out, below_row HBG.out.bel (by omega) _⟩
   ·obtain rfl : E = 6 := by rw [← HE.out]; unfold voE; rw [hR, if_pos rfl, if_neg h8]
    have h8z : (8 : Int) ≤ (x.f9.n : Int) := by omega
    clear HE HYS HS0 HCP HOK HOV R1
    go_upto_region 4 with (go_at_call 15; refine HRI.out.mono ?_; rintro e' w1 ⟨rfl, hb1⟩)
    have c9 := cS9 (upR hb1 R0.out)
    have HB1 := hid hb1
    clear hb1 lx
    go_wp2
    go_step3
    exact ⟨rfl, by decide, ⟨_, _, _, _, _, _, _, _, _, _, _, _, _, _, _, _, _, _, _, _, _, _, _, _, _, _, _, _, _, rfl⟩, upR HB1.out R2.out, HB1.out⟩
set_option maxHeartbeats 4000000 in
theorem hdr0_prog : PHdr0 := fun w hS => by
 obtain ⟨W0, hW0⟩ : ∃ W, ((((w.alloc (.cells (cel (sState oState)) 49)).alloc (.cells (cel sBlk1) 76)).alloc (.cells (cel (sState oState)) 49)).alloc (.cells (vs .u8 32 fun _ => 0) 24)) = W := ⟨_, rfl⟩
 have r0 : W0.heap[w.heap.size]? = some (.cells (cel (sState oState)) 49) := by rw [← hW0]; exact (heap_old (by simp <;> omega)).trans ((heap_old (by simp <;> omega)).trans ((heap_old (by simp)).trans (heap_new rfl)))
 have r1 : W0.heap[w.heap.size + 1]? = some (.cells (cel sBlk1) 76) := by rw [← hW0]; exact (heap_old (by simp <;> omega)).trans ((heap_old (by simp)).trans (heap_new (by simp)))
 have r2 : W0.heap[w.heap.size + 2]? = some (.cells (cel (sState oState)) 49) := by rw [← hW0]; exact (heap_old (by simp)).trans (heap_new (by simp))
 have hB0 : Up w W0 := by rw [← hW0]; exact ((((Below.refl _ _).alloc (Nat.le_refl _) _).alloc (by simp) _).alloc (by simp <;> omega) _).alloc (by simp <;> omega) _
 have hri := right_any oState W0 ok_z15.r' (inwO W0).r' lns_z
 rw [right_z] at hri
 have lx := lvState_run r0
 have z := zeroState
 have zr := zero_root
 have e2 : (cel sBlk1)[0]? = some (.int .u64 1) := by kernel_rfl
 have HB := hid hB0
 have HW := hid hW0
 have R0 := hid r0
 have R1 := hid r1
 have R2 := hid r2
 have HRI := hid hri
 have E2 := hid e2
 clear hri hB0 hW0 r0 r1 r2 e2 hS
 obtain ⟨xo, exo⟩ : ∃ x, oState = x := ⟨_, rfl⟩
 have x2 : xo.f2 = 0 := by rw [← exo]; rfl
 have HX2 := hid x2
 obtain ⟨sb, esb⟩ : ∃ x, sBlk1 = x := ⟨_, rfl⟩
 rw [exo, esb] at HW
 rw [exo] at R0 R2 HRI lx z ⊢
 rw [esb] at R1 E2 ⊢
 have bz := bdState_0
 rw [exo] at bz
 clear exo esb x2
 go_enter Tryz.func14, Tryz.ntmps14
 go_wp2
 refine wp_scope_jumps 0 (fun a' w' => HdJ 20 w.heap.size a' ∧ w'.heap[w.heap.size + 2]? = some (.cells (cel (sState xo)) 49) ∧ Up w w') (fun _ _ => 0) rfl ?first ?pass
 case pass =>
  rintro a' wr ⟨⟨u0, u1, u2, u3, u5, u6, u7, u9, u10, u11, u12, u13, u14, u15, u16, u17, u18, u19, u20, u21, u22, u23, u24, u25, u26, u27, u28, u29, u30, u31, u32, u33, u34, u35, u36, u37, u38, u39, u40, u41, u42, u43, u44, u45, u46, u47, u48, u49, u50, u51, u52, u53, u54, u55, u56, u57, u58, u59, u60, u61, u62, u63, u64, u65, u66, u67, rfl⟩, hrow, hup⟩
  have s1 := svState_run hrow xo
  have HRW := hid hrow
  have HUP := hid hup
  clear hrow hup HRI lx R0 R1 R2 z zr HW
  go_wp2
  simp only [Exit.jump]
  exact retState 4 5 (w.heap.size + 2) xo 49 (.int .i64 20) rfl rfl rfl rfl (setRow_at HRW.out) ⟨rfl, below_row HUP.out (by omega) _⟩
 case first =>
  go_upto_region 3 with fail
  rw [HW.out]
  clear HW z zr
  go_upto_region 6 with (go_at_call 15; refine HRI.out.mono ?_; rintro e' w1 ⟨rfl, hb1⟩)
  have c2 := cS2 (upR hb1 R0.out)
  rw [HX2.out] at c2
  have cb := (row_cell (i := 0) (upR hb1 R1.out)).trans E2.out
  have HB1 := hid hb1
  clear hb1 lx
  go_wp2
  go_step3
  exact ⟨rfl, ⟨_, _, _, _, _, _, _, _, _, _, _, _, _, _, _, _, _, _, _, _, _, _, _, _, _, _, _, _, _, _, _, _, _, _, _, _, _, _, _, _, _, _, _, _, _, _, _, _, _, _, _, _, _, _, _, _, _, _, _, _, _, _, _, _, _, _, rfl⟩, upR HB1.out R2.out, upT HB.out HB1.out⟩
end Go.Proofs.YtopnhpllidegnaaGreatDoor
