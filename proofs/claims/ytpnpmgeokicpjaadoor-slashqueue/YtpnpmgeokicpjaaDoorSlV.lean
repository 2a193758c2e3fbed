/-
  SlashQueue.
-/

import Derived.Test.YtpnpmgeokicpjaaDoorSlU
import Derived.Test.YtpnpmgeokicpjaaDoorSlS
import Derived.Test.YtpnpmgeokicpjaaDoorQJ
import Derived.Test.YtpnpmgeokicpjaaDoorStY
import Derived.Test.YtpnpmgeokicpjaaDoorQN
namespace Go.Proofs.YtpnpmgeokicpjaaDoor

open Go.RowKit

set_option linter.unusedVariables false

set_option linter.unusedSimpArgs false

set_option maxRecDepth 20000

/-- As many of all. -/
structure AsM (n : Nat) (x : VState) : Prop where
  m11 : x.f11.n = n
  m12 : x.f12.n = n
  m15 : x.f15.n = n
  m16 : x.f16.n = n
  m21 : x.f21.n = n

theorem RtO.asM {x : VState} (h : RtO x) : AsM x.f11.n x := ⟨rfl, h.c1, h.c2, h.c3, h.c4⟩

theorem AsM.sim {n : Nat} {x X : VState} (h : AsM n x) (s : SimF x X) : AsM n X := ⟨s.l11.trans h.m11, s.l12.trans h.m12, s.l15.trans h.m15, s.l16.trans h.m16, s.l21.trans h.m21⟩

attribute [local go_sem ↓] lvState_eq svState_eq ixValidator_eq

set_option maxHeartbeats 4000000 in
theorem rlike_any (a b : VState) (n : Nat) (w : World) (ha : AsM n a) (hb : AsM n b) :
    Calls Tryd.prog 8 #[.agg (cel (sState a)), .agg (cel (sState b))] w fun e' w' => e' = .returned (.bool true) ∧ Below w.heap.size w w' := by
  obtain ⟨W0, hW0⟩ : ∃ W, (w.alloc (.cells (cel (sState a)) 49)).alloc (.cells (cel (sState b)) 49) = W := ⟨_, rfl⟩
  have r0 : W0.heap[w.heap.size]? = some (.cells (cel (sState a)) 49) := by rw [← hW0]; exact (heap_old (by simp)).trans (heap_new rfl)
  have r1 : W0.heap[w.heap.size + 1]? = some (.cells (cel (sState b)) 49) := by rw [← hW0]; exact heap_new (by simp)
  have hB0 : Up w W0 := by rw [← hW0]; exact ((Below.refl _ _).alloc (Nat.le_refl _) _).alloc (by simp) _
  have c11 := cS11 r0
  rw [ha.m11] at c11
  have d11 := cS11 r1
  rw [hb.m11] at d11
  have c12 := cS12 r0
  rw [ha.m12] at c12
  have d12 := cS12 r1
  rw [hb.m12] at d12
  have c15 := cS15 r0
  rw [ha.m15] at c15
  have d15 := cS15 r1
  rw [hb.m15] at d15
  have c16 := cS16 r0
  rw [ha.m16] at c16
  have d16 := cS16 r1
  rw [hb.m16] at d16
  have c21 := cS21 r0
  rw [ha.m21] at c21
  have d21 := cS21 r1
  rw [hb.m21] at d21
  have HB := hid hB0
  have HW := hid hW0
  clear hB0 hW0 r0 r1
  generalize a.f11.a = A11 at c11
  generalize a.f11.c = C11 at c11
  generalize b.f11.a = B11 at d11
  generalize b.f11.c = D11 at d11
  generalize a.f12.a = A12 at c12
  generalize a.f12.c = C12 at c12
  generalize b.f12.a = B12 at d12
  generalize b.f12.c = D12 at d12
  generalize a.f15.a = A15 at c15
  generalize a.f15.c = C15 at c15
  generalize b.f15.a = B15 at d15
  generalize b.f15.c = D15 at d15
  generalize a.f16.a = A16 at c16
  generalize a.f16.c = C16 at c16
  generalize b.f16.a = B16 at d16
  generalize b.f16.c = D16 at d16
  generalize a.f21.a = A21 at c21
  generalize a.f21.c = C21 at c21
  generalize b.f21.a = B21 at d21
  generalize b.f21.c = D21 at d21
  go_enter Tryd.func8, Tryd.ntmps8
  go_upto_region 1 with fail
  rw [HW.out]
  clear HW
  go_wp2
  go_ret
  exact ⟨rfl, HB.out⟩

/-- What stands from one to the next. -/
structure QvI (w : World) (b y : Nat) (wr : World) (X Y : VState) (k : Nat) (L : Int) : Prop where
  bel : Up w wr
  rx : wr.heap[b]? = some (.cells (cel (sState X)) 49)
  ry : wr.heap[y]? = some (.cells (cel (sState Y)) 49)
  ix : InW wr X
  ax : Aw y X
  ok : OkState Y
  iy : InW wr Y
  ny : NilW Y
  ly : Lns Y
  ay : Aw y Y
  rt : rightB Y = true
  e2 : Y.f2 = X.f2
  en : Y.f11.n = X.f11.n
  ch : chuS Y = chuS X
  sm : ∀ j, k ≤ j → j < X.f11.n → (Y.f11.z j).f6 = (X.f11.z j).f6
  la : L = 0 ∨ ∃ j, j < X.f11.n ∧ (Y.f11.z j).f6 = L ∧ ¬ L = far

theorem QvI.next {w wr V : World} {b y k : Nat} {X Y P : VState} {L : Int} (h : QvI w b y wr X Y k L) (hb : Up wr V) (hw : w.heap.size ≤ y) (hne : b ≠ y) (hp : Res wr.heap.size V (lvS Y k) P) (hr : rightB (lvS Y k) = true) (hk : k < X.f11.n) (hf : (X.f11.z k).f6 = far) :
    QvI w b y (V.setRow y (cel (sState P))) X P (k + 1) (lvX Y) := by
  have l := some_ltK h.ry
  have hkY : k < Y.f11.n := by rw [h.en]; exact hk
  have hfY : (Y.f11.z k).f6 = far := by rw [h.sm k (Nat.le_refl _) hk]; exact hf
  obtain ⟨q1, q2, q3, q4, q5, q6, q7⟩ := queue_step h.ok h.rt k hkY hfY
  have o := lvS_o Y k
  have hlv : lvS Y k = valS Y k (lvV (lvX Y)) := if_pos hfY
  have kp : Kept y V (V.setRow y (cel (sState P))) := (Kept.refl _ _).setRow _
  refine ⟨below_row (upT h.bel hb) hw _, by rw [setRow_other hne]; exact upR hb h.rx, setRow_at (upR hb h.ry), (h.ix.below hb).kept h.ax kp, h.ax, okF_sim hp.sim (ok_lv h.ok (rightB_out h.rt).c7 k), hp.inw.kept (hp.new.aw l) kp, hp.nil, lnsS_sim hp.sim (lns_lv h.ly k), hp.new.aw l, by rw [rightF hp.sim]; exact hr, by rw [hp.sim.e2, o.1]; exact h.e2, by rw [hp.sim.l11, o.2.2.1]; exact h.en, ?_, fun j hj hn => ?_, .inr ⟨k, hk, by rw [hp.sim.z11]; exact q4, q3⟩⟩
  · rw [← h.ch, ← chu_lvS h.ok (rightB_out h.rt).c7 k]
    exact int_by (F := chuS) (fun _ => rfl) hp.sim
  · rw [hp.sim.z11, hlv, valS_off _ _ _ _ (by omega)]
    exact h.sm j (by omega) hn

theorem QvI.skip {w wr V : World} {b y k : Nat} {X Y : VState} {L : Int} (h : QvI w b y wr X Y k L) (hb : Up wr V) : QvI w b y V X Y (k + 1) L :=
  ⟨upT h.bel hb, upR hb h.rx, upR hb h.ry, h.ix.below hb, h.ax, h.ok, h.iy.below hb, h.ny, h.ly, h.ay, h.rt, h.e2, h.en, h.ch, fun j hj hn => h.sm j (by omega) hn, h.la⟩

set_option maxHeartbeats 16000000 in
theorem slashQueue_law (pL : PLeav) (pS : PSlas) (x : VState) (w : World) (hx : OkState x) (hw : InW w x) (hn : NilW x) (hl : Lns x) (hS : Sh w) :
    Calls Tryd.prog 3 #[.agg (cel (sState x))] w fun e' w' => e' = .returned (.bool true) ∧ Below w.heap.size w w' := by
  obtain ⟨W0, hW0⟩ : ∃ W, w.alloc (.cells (cel (sState x)) 49) = W := ⟨_, rfl⟩
  have hB0 : Up w W0 := by rw [← hW0]; exact (Below.refl _ _).alloc (Nat.le_refl _) _
  have r0 : W0.heap[w.heap.size]? = some (.cells (cel (sState x)) 49) := by rw [← hW0]; exact heap_new rfl
  have haw := awake18 pL pS W0 (hS.below hB0)
  have hri : ∀ W, Up W0 W → Calls Tryd.prog 5 #[.agg (cel (sState x))] W fun e w' => e = .returned (.bool (rightB x)) ∧ Below W.heap.size W w' := fun W h => rright_any x W hx.r' (hw.below (upT hB0 h)).r' ⟨hx.o10.1, hx.o4.1.1, hx.o18.1.1, hx.o19.1.1, hx.o20.1.1⟩
  have HWo := hid hW0
  have HAW := hid haw
  have HB := hid hB0
  have R0 := hid r0
  have HRI := hid hri
  have z := zeroState
  cases hR : rightB x
  · rw [hR] at HRI
    clear hB0 hW0 r0 haw hx hw hn hl hS pL pS hri
    go_enter Tryd.func3, Tryd.ntmps3
    go_upto_region 1 with fail
    rw [HWo.out]
    clear HWo
    go_upto_region 3 with (go_at_call 4; refine HAW.out.mono ?_; rintro e' w1 ⟨rfl, hb1⟩)
    have lx := lvState_run (upR hb1 R0.out)
    have HRJ := hid (HRI.out w1 hb1)
    have HU1 := hid (upT HB.out hb1)
    clear hb1
    go_wp2_with (go_at_call 5; refine HRJ.out.mono ?_; rintro e' w2 ⟨rfl, hb2⟩)
    go_ret
    exact ⟨rfl, upT HU1.out hb2⟩
  · rw [hR] at HRI
    have hrt := rightB_out hR
    have hrg := hrt.rg hx
    by_cases h30 : 30 < x.f11.n
    · have hz : (30 : Int) < (x.f11.n : Int) := by omega
      have c11 := fun (W : World) (h : Up W0 W) => cS11 (upR h R0.out)
      have HC11 := hid c11
      clear hB0 hW0 r0 haw hx hw hn hl hS pL pS hri hrt hrg c11
      generalize x.f11.n = N at *
      generalize x.f11.a = A at *
      generalize x.f11.c = C at *
      go_enter Tryd.func3, Tryd.ntmps3
      go_upto_region 1 with fail
      rw [HWo.out]
      clear HWo
      go_upto_region 3 with (go_at_call 4; refine HAW.out.mono ?_; rintro e' w1 ⟨rfl, hb1⟩)
      have lx := lvState_run (upR hb1 R0.out)
      have HRJ := hid (HRI.out w1 hb1)
      have HU1 := hid (upT HB.out hb1)
      have HU1b := hid hb1
      clear hb1
      go_wp2_with (go_at_call 5; refine HRJ.out.mono ?_; rintro e' w2 ⟨rfl, hb2⟩; have c11 := HC11.out w2 (upT HU1b.out hb2))
      go_ret
      exact ⟨rfl, upT HU1.out hb2⟩
    · have hz : ¬ (30 : Int) < (x.f11.n : Int) := by omega
      have c11 := fun (W : World) (h : Up W0 W) => cS11 (upR h R0.out)
      have HC11 := hid c11
      have HCHU := hid (fun (W : World) (h : Up W0 W) => rchurn_any x W (hrg.lk (hw.below (upT hB0 h))))
      have HX := hid hx
      have HIW := hid hw
      have HNX := hid hn
      have HLN := hid hl
      have HRT := hid hR
      have PL := hid pL
      clear hB0 hW0 r0 haw hx hw hn hl hS pL pS hri hrt hrg c11 hR
      obtain ⟨N, eN⟩ : ∃ n, x.f11.n = n := ⟨_, rfl⟩
      obtain ⟨A, eA⟩ : ∃ n, x.f11.a = n := ⟨_, rfl⟩
      obtain ⟨C, eC⟩ : ∃ n, x.f11.c = n := ⟨_, rfl⟩
      obtain ⟨CH, eCH⟩ : ∃ n, chuS x = n := ⟨_, rfl⟩
      rw [eN, eA, eC] at HC11
      rw [eN] at h30 hz
      rw [eCH] at HCHU
      have EN := hid eN
      have EA := hid eA
      have ECH := hid eCH
      have EC := hid eC
      have HX2 : Hid (0 ≤ x.f2 ∧ x.f2 < 1099511627776) := ⟨HX.out.o2.1, (rightB_out HRT.out).c7⟩
      clear eN eA eC eCH
      go_enter Tryd.func3, Tryd.ntmps3
      go_upto_region 1 with fail
      rw [HWo.out]
      clear HWo
      go_upto_region 3 with (go_at_call 4; refine HAW.out.mono ?_; rintro e' w1 ⟨rfl, hb1⟩)
      have lx := lvState_run (upR hb1 R0.out)
      have HRJ := hid (HRI.out w1 hb1)
      have HU1 := hid hb1
      clear hb1 HAW HRI
      go_upto_region 5 with (go_at_call 5; refine HRJ.out.mono ?_; rintro e' w2 ⟨rfl, hb2⟩; have c11 := HC11.out w2 (upT HU1.out hb2))
      have hu2 := upT HU1.out hb2
      have lx2 := lvState_run (upR hu2 R0.out)
      have HCI := hid (HCHU.out w2 hu2)
      have HU2 := hid hu2
      clear hb2 hu2 HRJ HU1 lx c11 HCHU hz
      go_upto_region 6 with (go_at_call 6; refine HCI.out.mono ?_; rintro e' w3 ⟨rfl, hb3⟩)
      have hu3 := upT HU2.out hb3
      have lx3 := lvState_run (upR hu3 R0.out)
      obtain ⟨V0, y4, hV, ey4, r4, hd4, hy4⟩ := upN2 (Below.refl w3.heap.size w3) (.cells (cel (sState x)) 49)
      have sv := svState_newv w3 oState x
      have hv := upT hu3 hd4
      have hI : QvI w w.heap.size y4 V0 x x 0 0 := ⟨upT HB.out hv, upR hv R0.out, r4, HIW.out.below (upT HB.out hv), HIW.out.aw (by have := (upT HB.out hu3).size; omega), HX.out, HIW.out.below (upT HB.out hv), HNX.out, HLN.out, HIW.out.aw (by have := (upT HB.out hu3).size; omega), HRT.out, rfl, rfl, rfl, fun _ _ _ => rfl, .inl rfl⟩
      have HI := hid hI
      have HNE : Hid (w.heap.size ≠ y4) := by have := some_ltK (upR hu3 R0.out); unfold Hid; omega
      have HY4 : Hid (w.heap.size ≤ y4) := by have := (upT HB.out hu3).size; unfold Hid; omega
      have EY4 := hid ey4
      have HV := hid hV
      clear hI hV r4 hd4 hy4 hu3 hb3 hv HCI HU2 lx2 ey4 HC11 HIW HNX HLN HX
      go_upto_region 7 with fail
      rw [HV.out, EY4.out]
      clear sv lx3 HV EY4
      go_wp2
      go_loopw [5, 6] (fun l i wr => ∃ (k : Nat) (L : Int) (Y : VState), k ≤ N ∧ l = .int .u64 L ∧ i = .int .i64 k ∧ QvI w w.heap.size y4 wr x Y k L) (fun _ i _ => N - (intOf i).toNat)
      case atStart => exact ⟨0, 0, x, by omega, rfl, rfl, HI.out⟩
      case round =>
        clear HI
        obtain ⟨k, L, Y, hk, rfl, rfl, hi⟩ := hrel
        have c11 := cS11 hi.rx
        rw [EN.out, EA.out, EC.out] at c11
        by_cases hkn : k < N
        · have k1 : (k : Int) < (N : Int) := by omega
          have kw : IntKind.i64.wrap ((k : Int) + 1) = (k : Int) + 1 := by rw [IntKind.wrap_i64]; omega
          have kc : IntKind.u64.wrap (k : Int) = (k : Int) := by rw [IntKind.wrap_u64]; omega
          have ly := lvState_run hi.ry
          have hkY : k < Y.f11.n := by rw [hi.en, EN.out]; exact hkn
          have hlq := PL.out Y (k : Int) wr hi.ok hi.iy hi.ny hi.ly (by omega)
          have hqE : lqE Y (k : Int) = if rightB (lvS Y k) = true then 0 else 2 := by unfold lqE; rw [hi.rt, if_pos ⟨rfl, by omega⟩]; rfl
          have hqS : lqS Y (k : Int) = if lqE Y (k : Int) = 0 then lvS Y k else oState := rfl
          cases hRZ : rightB (lvS Y k)
          · rw [hRZ] at hqE
            rw [show lqE Y (k : Int) = 2 from hqE] at hlq
            have HLQ := hid hlq
            have HBX := hid hi.bel
            clear hi hlq hqE hqS
            go_upto_region 12 with (go_at_call 7; refine HLQ.out.mono ?_; rintro e' w4 ⟨Z, rfl, hrs, hb4⟩; have sv := svState_newv w4 oState Z; have HB4 := hid hb4; clear hrs hb4)
            go_wp2
            go_ret
            exact ⟨rfl, upT HBX.out (upT HB4.out ((Below.refl _ _).alloc (Nat.le_refl _) _))⟩
          · rw [hRZ] at hqE
            rw [show lqE Y (k : Int) = 0 from hqE] at hlq hqS
            rw [show lqS Y (k : Int) = lvS Y k from hqS] at hlq
            have HLQ := hid hlq
            have HI := hid hi
            have HRZ := hid hRZ
            clear hi hlq hqE hqS hRZ
            go_upto_region 12 with (go_at_call 7; refine HLQ.out.mono ?_; rintro e' w4 ⟨Z, rfl, hrs, hb4⟩; have sv := svState_newv w4 oState Z; have HB4 := hid hb4; have HRS := hid hrs; clear hrs hb4)
            obtain ⟨V1, y7, hV, ey7, r7, hd7, hy7⟩ := upN2 HB4.out (.cells (cel (sState Z)) 49)
            rw [hV, ey7]
            have hu := upT HB4.out hd7
            have hmz : AsM N Z := by
              have := ((rightB_out HRZ.out).asM).sim HRS.out.sim
              rw [(lvS_o Y k).2.2.1, HI.out.en, EN.out] at this
              exact this
            have hmx : AsM N x := by
              have := (rightB_out HRT.out).asM
              rw [EN.out] at this
              exact this
            have hlk := rlike_any x Z N V1 hmx hmz
            have lx := lvState_run (upR hu HI.out.rx)
            have lz := lvState_run r7
            have HLK := hid hlk
            have HU := hid hu
            have HRV := hid (HRS.out.below hd7)
            have R7 := hid r7
            have HMZ := hid hmz
            clear hlk hu r7 hV ey7 hd7 hy7 sv HB4 HRS HLQ hmz hmx ly
            go_upto_region 16 with (go_at_call 8; refine HLK.out.mono ?_; rintro e' w5 ⟨rfl, hb5⟩)
            have hu5 := upT HU.out hb5
            have hrz := HRV.out.below hb5
            have r75 := upR hb5 R7.out
            replace c11 := cS11 (upR hu5 HI.out.rx)
            rw [EN.out, EA.out, EC.out] at c11
            have c11z := cS11 r75
            rw [HMZ.out.m11] at c11z
            rcases (HI.out.ix.below hu5).i11 with h0 | ⟨b, off, ea, hbl, hrx⟩
            · rw [EN.out] at h0; omega
            have ex := val_e6 (hrx k (by rw [EN.out]; exact hkn))
            rw [EA.out] at ea
            rw [ea] at c11
            have ix := fun W => ixValidator_run W b off N C k hkn
            obtain ⟨P, eP⟩ : ∃ P, off + 86 * k = P := ⟨_, rfl⟩
            rw [eP] at ex
            simp only [eP] at ix
            rcases hrz.inw.i11 with h0 | ⟨b', off', ea', hbl', hrr⟩
            · rw [HMZ.out.m11] at h0; omega
            have hrk := fun j (hj : j < N) => hrr j (by rw [HMZ.out.m11]; exact hj)
            have ez := val_e6 (hrk k hkn)
            have e7 := val_e7 (hrk k hkn)
            rw [ea'] at c11z
            have celz : ∀ j, j < N → w5.cell? ⟨b', off' + 86 * j + 84, none⟩ = some (.int .u64 (Z.f11.z j).f6) := fun j hj => val_e6 (hrk j hj)
            have izz := fun W j (hj : j < N) => ixValidator_run W b' off' N Z.f11.c j hj
            have iz := fun W => izz W k hkn
            obtain ⟨P', eP'⟩ : ∃ P, off' + 86 * k = P := ⟨_, rfl⟩
            rw [eP'] at ez e7
            simp only [eP'] at iz
            obtain ⟨F, eF⟩ : ∃ F, (x.f11.z k).f6 = F := ⟨_, rfl⟩
            rw [eF] at ex
            rw [hrz.sim.z11] at ez e7
            have hFY : (Y.f11.z k).f6 = F := by rw [HI.out.sm k (Nat.le_refl _) (by rw [EN.out]; exact hkn)]; exact eF
            have c2 := cS2 (upR hu5 HI.out.rx)
            have ly5 := lvState_run (upR hu5 HI.out.ry)
            have lz5 := lvState_run r75
            have HU5 := hid hu5
            have HRZZ := hid hrz
            have R75 := hid r75
            have EF := hid eF
            clear hu5 hrz r75 hb5 hrx hrr hrk hbl hbl' ea ea' eP eP' lx lz HLK HU HRV R7 eF
            by_cases hF : F = far
            · obtain ⟨q1, q2, q3, q4, q5, q6, q7⟩ := queue_step HI.out.ok HI.out.rt k hkY (hFY.trans hF)
              rw [q4] at ez
              rw [q5] at e7
              rw [HI.out.e2] at q1
              rw [HI.out.en, EN.out] at q6 q7
              rw [HI.out.ch, ECH.out, ← HRZZ.out.sim.z11] at q7
              have hLM : L ≤ lvX Y := by
                rcases HI.out.la with h0 | ⟨j, hj, e, hn⟩
                · have := HX2.out; rw [h0]; have := q1; omega
                · rw [EN.out] at hj
                  rw [← e]
                  exact q6 j hj (by rw [e]; exact hn)
              have hnx : ∀ V, Up wr V → Res wr.heap.size V (lvS Y k) Z → QvI w w.heap.size y4 (V.setRow y4 (cel (sState Z))) x Z (k + 1) (lvX Y) := fun V h1 h2 => HI.out.next h1 HY4.out HNE.out h2 HRZ.out (by rw [EN.out]; exact hkn) (EF.out.trans hF)
              have HNXX := hid hnx
              have h2b := HX2.out
              obtain ⟨M, eM⟩ : ∃ M, lvX Y = M := ⟨_, rfl⟩
              obtain ⟨p, ep⟩ : ∃ p, x.f2 = p := ⟨_, rfl⟩
              rw [eM] at ez e7 q1 q2 q7 hLM HNXX
              rw [ep] at c2 q1 h2b
              clear q3 q4 q5 q6 eM ep hnx hFY
              have kE : IntKind.u64.wrap (p / 4 + 3) = p / 4 + 3 := by rw [IntKind.wrap_u64]; omega
              have g1 : ¬ M < p / 4 + 3 := by omega
              have g2 : ¬ M < L := by omega
              have kM : IntKind.u64.wrap (M + 2) = w64 (M + 2) := rfl
              unfold far at hF
              obtain ⟨zz, ezz⟩ : ∃ f, Z.f11.z = f := ⟨_, rfl⟩
              rw [ezz] at celz q7
              obtain ⟨ZC, eZC⟩ : ∃ f, Z.f11.c = f := ⟨_, rfl⟩
              rw [eZC] at c11z izz iz
              have CELZ := hid celz
              have IZZ := hid izz
              have HCZ := hid c11z
              have HQ7 := hid q7
              clear celz izz ezz eZC q7
              subst hF
              go_wp2
              go_loopw [11, 12] (fun c m wx => ∃ j : Nat, j ≤ N ∧ c = .int .u64 (lvN zz M j : Nat) ∧ m = .int .i64 j ∧ wx = w5) (fun _ m _ => N - (intOf m).toNat)
              case atStart => exact ⟨0, by omega, rfl, rfl, rfl⟩
              case round =>
                obtain ⟨j, hj, rfl, rfl, hw⟩ := hrel
                obtain rfl := hw.symm
                have hst : lvN zz M (j + 1) = lvN zz M j + (if (zz j).f6 = M then 1 else 0) := rfl
                have hle := lvN_le zz M j
                have HST := hid hst
                clear hst
                by_cases hjn : j < N
                · have j1 : (j : Int) < (N : Int) := by omega
                  have jw : IntKind.i64.wrap ((j : Int) + 1) = (j : Int) + 1 := by rw [IntKind.wrap_i64]; omega
                  have ck := CELZ.out j hjn
                  have ik := fun W => IZZ.out W j hjn
                  obtain ⟨G, eG⟩ : ∃ F, (zz j).f6 = F := ⟨_, rfl⟩
                  obtain ⟨T, eT⟩ : ∃ N, lvN zz M j = N := ⟨_, rfl⟩
                  rw [eG] at ck HST
                  rw [eT] at HST hle ⊢
                  have jw2 : IntKind.u64.wrap ((T : Int) + 1) = (T : Int) + 1 := by rw [IntKind.wrap_u64]; omega
                  clear eG eT hle
                  by_cases hG : G = M
                  · subst hG
                    go_wp2
                    go_roundw
                    case rel => exact ⟨j + 1, by omega, by rw [HST.out, if_pos rfl]; go_num, by go_num, by first | trivial | rfl⟩
                    case measure => simp [intOf]; omega
                  · have hG2 : (G == M) = false := by simp [hG]
                    go_wp2
                    go_roundw
                    case rel => exact ⟨j + 1, by omega, by rw [HST.out, if_neg hG]; go_num, by go_num, by first | trivial | rfl⟩
                    case measure => simp [intOf]; omega
                · obtain rfl : j = N := by omega
                  have jN : ¬ (j : Int) < (j : Int) := by omega
                  have hq := HQ7.out
                  obtain ⟨T, eT⟩ : ∃ N, lvN zz M j = N := ⟨_, rfl⟩
                  rw [eT] at hq ⊢
                  have hq2 : ¬ CH < (T : Int) := by omega
                  have s4 := svState_run (upR HU5.out HI.out.ry) Z
                  have HNQ := hid (HNXX.out w5 HU5.out HRZZ.out)
                  clear HST eT
                  go_wp2
                  go_roundw
                  case rel => exact ⟨k + 1, M, Z, by omega, rfl, by go_num, HNQ.out⟩
                  case measure => simp [intOf]; omega
            · have hlv : lvS Y k = Y := if_neg (by rw [hFY]; exact hF)
              rw [hlv, hFY] at ez
              have hss := rsame_sim Z Y w5 (okF_sim (by rw [← hlv]; exact HRZZ.out.sim) HI.out.ok) HRZZ.out.inw (HI.out.iy.below HU5.out) (SimF.symm (by rw [← hlv]; exact HRZZ.out.sim))
              have HSS := hid hss
              have HSK := hid (fun V (h : Up wr V) => HI.out.skip h)
              unfold far at hF
              have hF2 : (F != 18446744073709551615) = true := by simp [hF]
              clear hss hlv hFY celz izz e7 c2 HRZZ HI R75 EF
              generalize Z.f11.c = ZC at c11z iz
              go_wp2_with (go_at_call 9; refine HSS.out.mono ?_; rintro e' w6 ⟨rfl, hb6⟩; have HK6 := hid (HSK.out w6 (upT HU5.out hb6)); clear hb6)
              go_roundw
              case rel => exact ⟨k + 1, L, Y, by omega, rfl, by go_num, HK6.out⟩
              case measure => simp [intOf]; omega
        · obtain rfl : k = N := by omega
          have kN : ¬ (k : Int) < (k : Int) := by omega
          have HBX := hid hi.bel
          clear hi
          go_wp2
          go_ret
          exact ⟨rfl, HBX.out⟩

end Go.Proofs.YtpnpmgeokicpjaaDoor
