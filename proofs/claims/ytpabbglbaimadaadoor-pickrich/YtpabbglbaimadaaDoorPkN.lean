/-
  PickRich.
-/

import Derived.Test.YtpabbglbaimadaaDoorPkM
import Derived.Test.YtpabbglbaimadaaDoorStQ
import Derived.Test.YtpabbglbaimadaaDoorStY
namespace Go.Proofs.YtpabbglbaimadaaDoor

open Go.RowKit

set_option linter.unusedVariables false

set_option linter.unusedSimpArgs false

set_option maxRecDepth 20000

theorem nil_own {w : World} {B k n c : Nat} {t : TypeId} {a : Option Addr} {xs : List Value} (h : w.ownsRow B t k (.slice a n c) n xs) (ha : a = none) : n = 0 ∧ c = 0 := by
  subst ha
  rcases h.2 with ⟨e, _⟩ | ⟨g, cap, cur, e, _⟩
  · cases e
    exact ⟨rfl, rfl⟩
  · cases e

theorem cpd_nil {B : Nat} {w : World} {X : VState} (h : CpdF B w X) : NilW X := ⟨nil_own h.o9, nil_own h.o11, nil_own h.o12, nil_own h.o21⟩

theorem own_pos {w : World} {B k n c : Nat} {t : TypeId} {a : Option Addr} {xs : List Value} (h : w.ownsRow B t k (.slice a n c) n xs) (hn : 0 < n) : ∃ g, a = some ⟨g, 0, none⟩ := by
  rcases h.2 with ⟨_, h0⟩ | ⟨g, cap, cur, e, _⟩
  · omega
  · cases e
    exact ⟨g, rfl⟩

theorem ok_ric {X : VState} (h : OkState X) (k : Nat) : OkState (ricS X k) :=
  ⟨h.o0, h.o1, h.o2, h.o3, h.o4, h.o5, h.o6, h.o7, h.o8, h.o9, h.o10, fun j hj => by
    have hv := h.o11 j hj
    show OkValidator (chg ric X.f11.z k j)
    unfold chg
    split
    · exact ⟨hv.1, hv.2.1, by show (0 : Int) ≤ 32000000000 ∧ (32000000000 : Int) < 18446744073709551616; omega, hv.2.2.2⟩
    · exact hv, h.o12, h.o13, h.o14, h.o15, h.o16, h.o18, h.o19, h.o20, h.o21, h.o22, h.o23⟩

/-- The other copy, as it is in the end. -/
def othS (Z o : VState) : VState := { bodS { { Z with f1 := o.f1 } with f5 := o.f5 } o.f4.f4 with f7 := ⟨o.f7.a, o.f7.n, o.f7.c, Z.f7.z⟩ }

def endS (Z o : VState) (k : Nat) : VState := { othS Z o with f7 := o.f7, f11 := ⟨Z.f11.a, Z.f11.n, Z.f11.c, chg spa Z.f11.z k⟩, f12 := ⟨Z.f12.a, Z.f12.n, Z.f12.c, fun j => if j < k then 0 else Z.f12.z j⟩, f16 := ⟨Z.f16.a, Z.f16.n, Z.f16.c, fun j => if j < k then 1 else Z.f16.z j⟩ }

theorem endS_cel (Z o : VState) (k : Nat) : cel (sState (endS Z o k)) = cel (sState (othS Z o)) := rfl

theorem ok_end {Z o : VState} (h : OkState Z) (h' : OkState o) (k : Nat) : OkState (endS Z o k) :=
  ⟨h.o0, h'.o1, h.o2, h.o3, ⟨h.o4.1, h.o4.2.1, h.o4.2.2.1, h.o4.2.2.2.1, h'.o4.2.2.2.2⟩, h'.o5, h.o6, h'.o7, h.o8, h.o9, h.o10, fun j hj => by
    have hv := h.o11 j hj
    show OkValidator (chg spa Z.f11.z k j)
    unfold chg
    split
    · exact hv
    · exact hv, fun j hj => by
    show (0 : Int) ≤ (if j < k then 0 else Z.f12.z j) ∧ (if j < k then 0 else Z.f12.z j) < 18446744073709551616
    split
    · omega
    · exact h.o12 j hj, h.o13, h.o14, h.o15, fun j hj => by
    show (0 : Int) ≤ (if j < k then 1 else Z.f16.z j) ∧ (if j < k then 1 else Z.f16.z j) < 256
    split
    · omega
    · exact h.o16 j hj, h.o18, h.o19, h.o20, h.o21, h.o22, h.o23⟩

theorem bz_next {w V : World} {y i : Nat} {Z : VState} {z : Nat → VValidator} {b0 c0 : Nat → Int} {g11 g12 g16 : Nat} (hy : w.heap.size ≤ y) (h : BZ w y V Z (chg spa z i) (fun j => if j < i then 0 else b0 j) (fun j => if j < i then 1 else c0 j)) (h11 : Z.f11.a = some ⟨g11, 0, none⟩) (h12 : Z.f12.a = some ⟨g12, 0, none⟩) (h16 : Z.f16.a = some ⟨g16, 0, none⟩) (i11 : i < Z.f11.n) (i12 : i < Z.f12.n) (i16 : i < Z.f16.n) :
    BZ w y (((V.setCell ⟨g12, i, none⟩ (.int .u64 0)).setCell ⟨g16, i, none⟩ (.int .u8 1)).setCell ⟨g11, 86 * i + 81, none⟩ (.bool false)) Z (chg spa z (i + 1)) (fun j => if j < i + 1 then 0 else b0 j) (fun j => if j < i + 1 then 1 else c0 j) := by
  have k := (((h.bal hy h12 i12 0).cur hy h16 i16 1).sla hy h11 i11)
  have eb : (fun j => if j = i then (0 : Int) else if j < i then 0 else b0 j) = fun j => if j < i + 1 then 0 else b0 j := funext fun j => by
    by_cases h1 : j = i
    · rw [if_pos h1, if_pos (by omega)]
    · rw [if_neg h1]
      by_cases h2 : j < i
      · rw [if_pos h2, if_pos (by omega)]
      · rw [if_neg h2, if_neg (by omega)]
  have ec : (fun j => if j = i then (1 : Int) else if j < i then 1 else c0 j) = fun j => if j < i + 1 then 1 else c0 j := funext fun j => by
    by_cases h1 : j = i
    · rw [if_pos h1, if_pos (by omega)]
    · rw [if_neg h1]
      by_cases h2 : j < i
      · rw [if_pos h2, if_pos (by omega)]
      · rw [if_neg h2, if_neg (by omega)]
  rw [eb, ec] at k
  exact k

attribute [local go_sem ↓] lvState_eq svState_eq bdState_eq lvValidator_eq svValidator_eq ixValidator_eq sv24_eq lv24_eq lvR8_eq svR8_eq

set_option maxHeartbeats 1600000 in
theorem pickRich_law (pP : PProp) (pS : PSync) (x o : VState) (w : World) (hx : OkState x) (hw : InW w x) (hnx : NilW x) (ho : OkState o) (hwo : InW w o) (hS : Sh w) :
    Calls Tryd.prog 6 #[.agg (cel (sState x)), .agg (cel (sState o))] w fun e' w' => e' = .returned (.bool true) ∧ Below w.heap.size w w' := by
  obtain ⟨W0, hW0⟩ : ∃ W, (w.alloc (.cells (cel (sState x)) 49)).alloc (.cells (cel (sState o)) 49) = W := ⟨_, rfl⟩
  have r0 : W0.heap[w.heap.size]? = some (.cells (cel (sState x)) 49) := by rw [← hW0]; exact (heap_old (by simp)).trans (heap_new rfl)
  have r1 : W0.heap[w.heap.size + 1]? = some (.cells (cel (sState o)) 49) := by rw [← hW0]; exact heap_new (by simp)
  have hB0 : Below w.heap.size w W0 := by rw [← hW0]; exact ((Below.refl _ _).alloc (Nat.le_refl _) _).alloc (by simp) _
  have z1 : w.heap.size + 1 < W0.heap.size := (Array.getElem?_eq_some_iff.1 r1).1
  have hldx : ∀ W : World, Below W0.heap.size W0 W → (lvState ⟨w.heap.size, 0, none⟩).run Tryd.prog W = .ok (.agg (cel (sState x))) W := fun W h => lvState_run ((h.block _ (by omega)).trans r0)
  have hldo : ∀ W : World, Below W0.heap.size W0 W → (lvState ⟨w.heap.size + 1, 0, none⟩).run Tryd.prog W = .ok (.agg (cel (sState o))) W := fun W h => lvState_run ((h.block _ z1).trans r1)
  have hw0 := hw.below hB0
  have hwo0 := hwo.below hB0
  have hrx : ∀ W : World, Below W0.heap.size W0 W → Calls Tryd.prog 8 #[.agg (cel (sState x))] W fun e w' => e = .returned (.bool (rightB x)) ∧ Below W.heap.size W w' := fun W h => rright_any x W hx.r' (hw0.below h).r' ⟨hx.o10.1, hx.o4.1.1, hx.o18.1.1, hx.o19.1.1, hx.o20.1.1⟩
  have hro : ∀ W : World, Below W0.heap.size W0 W → Calls Tryd.prog 8 #[.agg (cel (sState o))] W fun e w' => e = .returned (.bool (rightB o)) ∧ Below W.heap.size W w' := fun W h => rright_any o W ho.r' (hwo0.below h).r' ⟨ho.o10.1, ho.o4.1.1, ho.o18.1.1, ho.o19.1.1, ho.o20.1.1⟩
  have hS0 := hS.below hB0
  have haw := awake15 pP pS W0 hS0
  have HB := hid hB0
  have HW0 := hid hW0
  have HLX := hid hldx
  have HLO := hid hldo
  have HAW := hid haw
  clear haw
  cases hR : rightB x
  · rw [hR] at hrx
    have HRX := hid hrx
    clear hrx hro hB0 hW0 hldx hldo hw0 hw hx r0 r1 hS hS0 hwo hwo0 ho hnx pP pS
    go_enter Tryd.func6, Tryd.ntmps6
    go_upto_region 1 with fail
    rw [HW0.out]
    clear HW0
    go_upto_region 3 with (go_at_call 7; refine HAW.out.mono ?_; rintro e' w1 ⟨rfl, hb1⟩)
    have l1 := HLX.out w1 hb1
    go_wp2_with (go_at_call 8; refine (HRX.out w1 hb1).mono ?_; rintro e' w2 ⟨rfl, hb2⟩)
    go_ret
    exact ⟨rfl, HB.out.trans ((hb1.trans (hb2.mono hb1.size)).mono HB.out.size)⟩
  · rw [hR] at hrx
    have HRX := hid hrx
    cases hRo : rightB o
    · rw [hRo] at hro
      have HRO := hid hro
      clear hrx hro hB0 hW0 hldx hldo hw0 hw hx r0 r1 hS hS0 hwo hwo0 ho hnx pP pS
      go_enter Tryd.func6, Tryd.ntmps6
      go_upto_region 1 with fail
      rw [HW0.out]
      clear HW0
      go_upto_region 3 with (go_at_call 7; refine HAW.out.mono ?_; rintro e' w1 ⟨rfl, hb1⟩)
      have l1 := HLX.out w1 hb1
      go_wp2_with (first
        | (go_at_call 8; refine (HRO.out w2 hw2).mono ?_; rintro e' w3 ⟨rfl, hb3⟩)
        | (go_at_call 8; refine (HRX.out w1 hb1).mono ?_; rintro e' w2 ⟨rfl, hb2⟩; have hw2 := hb1.trans (hb2.mono hb1.size); have l2 := HLO.out w2 hw2))
      go_ret
      exact ⟨rfl, HB.out.trans ((hw2.trans (hb3.mono hw2.size)).mono HB.out.size)⟩
    · rw [hRo] at hro
      have HRO := hid hro
      have hO := rightB_out hR
      have hsl := hO.c7
      have hcp : ∀ W : World, Below W0.heap.size W0 W → Calls Tryd.prog 19 #[.agg (cel (sState x))] W fun e w' => ∃ X : VState, e = .returned (.agg (cel (sState X))) ∧ SimF x X ∧ CpdF W.heap.size w' X ∧ Below W.heap.size W w' := fun W h => copy_full x W (hw0.below h) hnx ⟨by have := hO.c5; omega, by have := hO.c6; omega, by have := hO.c0; omega, by have := hO.c0; have := hO.c1; omega, by have := hO.c0; have := hO.c2; omega, by have := hO.c0; have := hO.c3; omega, by have := hO.c0; have := hO.c4; omega⟩
      have HCP := hid hcp
      have HOO := hid (And.intro hO (And.intro hx ho))
      have HR := hid (And.intro r0 r1)
      have HS := hid hS0
      have s0 := hx.o2.1
      clear hrx hro hcp hB0 hW0 hldx hldo hw0 hw hx r0 r1 hS hS0 hwo hwo0 ho hnx hO hR hRo
      go_enter Tryd.func6, Tryd.ntmps6
      go_upto_region 1 with fail
      rw [HW0.out]
      clear HW0
      go_upto_region 3 with (go_at_call 7; refine HAW.out.mono ?_; rintro e' w1 ⟨rfl, hb1⟩)
      have l1 := HLX.out w1 hb1
      go_upto_region 5 with (first
        | (go_at_call 8; refine (HRO.out w2 hw2).mono ?_; rintro e' w3 ⟨rfl, hb3⟩)
        | (go_at_call 8; refine (HRX.out w1 hb1).mono ?_; rintro e' w2 ⟨rfl, hb2⟩; have hw2 := hb1.trans (hb2.mono hb1.size); have l2 := HLO.out w2 hw2))
      have hw3 := hw2.trans (hb3.mono hw2.size)
      have l3 := HLX.out w3 hw3
      have HW3 := hid hw3
      have zs := zeroState
      have vs5 := fun W X => svState_newv W oState X
      obtain ⟨xo, exo⟩ : ∃ x, oState = x := ⟨_, rfl⟩
      rw [exo] at zs
      simp only [exo] at vs5
      clear hw3 hb3 hw2 hb2 hb1 l1 l2 HRX HRO HAW exo
      go_upto_region 6 with (go_at_call 19; refine (HCP.out w3 HW3.out).mono ?_; rintro e' w4 ⟨X, rfl, hX, hC4, hb4⟩; have v5 := vs5 w4 X)
      obtain ⟨W5, hW5⟩ : ∃ W, w4.alloc (.cells (cel (sState X)) 49) = W := ⟨_, rfl⟩
      rw [hW5]
      have hBF : BF w3 w4.heap.size W5 (ricS X 0) := by
        rw [show ricS X 0 = X from by unfold ricS; rw [chg_zero], ← hW5]
        exact ⟨hb4.alloc hb4.size _, heap_new rfl, hC4.below ((Below.refl _ _).alloc (Nat.le_refl _) _)⟩
      have hy5 := hb4.size
      obtain ⟨y5, e5⟩ : ∃ y, w4.heap.size = y := ⟨_, rfl⟩
      rw [e5] at hBF hy5 ⊢
      have HX := hid hX
      have HBF := hid hBF
      have hnb : X.f11.n ≤ 65536 := by have := HOO.out.1.c0; have := hX.l11; omega
      clear hBF hX hC4 hb4 hW5 e5 l3 v5 HCP
      go_wp2
      go_loopg [6] X.f11.n (fun k c wr => ∃ i : Nat, c = .int .i64 i ∧ i ≤ X.f11.n ∧ X.f11.n - i ≤ k ∧ BF w3 y5 wr (ricS X i))
      case atStart => exact ⟨0, rfl, by omega, by omega, HBF.out⟩
      case round =>
        clear HBF
        obtain ⟨i, rfl, hi, hk, hbf⟩ := hrel
        have c11 : wr.cell? ⟨y5, 721, none⟩ = some (.slice X.f11.a X.f11.n X.f11.c) := cS11 hbf.row
        by_cases hin : i < X.f11.n
        · have hz : (i : Int) < (X.f11.n : Int) := by omega
          obtain ⟨g, hg⟩ := own_pos hbf.cpd.o11 (show 0 < X.f11.n by omega)
          have hg' : X.f11.a = some ⟨g, 0, none⟩ := hg
          have hnx := hbf.rich hy5 hg' hin
          have hrow := hbf.cpd.o11
          rw [hg] at hrow
          obtain ⟨D, hD⟩ := ownBlkC hrow
          have hel := own_els hbf.cpd.o11 (fun j => by rw [celL_len]; rfl)
          rw [hg'] at c11
          have hc80 : wr.cell? ⟨g, 86 * i + 80, none⟩ = some (.int .u64 (chg ric X.f11.z i i).f2) := by
            rcases hel with h0 | ⟨b, off, ea, _, hc⟩
            · have : X.f11.n = 0 := h0
              omega
            · rw [hg] at ea
              cases ea
              have := val_eff (hc i hin)
              rw [Nat.zero_add] at this
              exact this
          have hf80 := row_frozen hD (86 * i + 80)
          have ix := fun W => ixValidator_run W g 0 X.f11.n X.f11.c i hin
          simp only [Nat.zero_add] at ix
          have HNX := hid hnx
          clear hbf hnx hrow hD hel hg hg'
          go_wp2
          go_roundg (X.f11.n - (i + 1))
          case measure => omega
          case rel => exact ⟨i + 1, by simp, by omega, by omega, HNX.out⟩
        · have hz : ¬ (i : Int) < (X.f11.n : Int) := by omega
          obtain rfl : i = X.f11.n := by omega
          have hO := HOO.out.1
          have hxx := HX.out
          have hls := lvState_run hbf.row
          have hcp : Calls Tryd.prog 19 #[.agg (cel (sState (ricS X X.f11.n)))] wr fun e w' => ∃ Z : VState, e = .returned (.agg (cel (sState Z))) ∧ SimF (ricS X X.f11.n) Z ∧ CpdF wr.heap.size w' Z ∧ Below wr.heap.size wr w' :=
            copy_full (ricS X X.f11.n) wr hbf.inW (cpd_nil hbf.cpd) ⟨by show X.f7.n * 32 ≤ _; have := hO.c5; have := hxx.l7; omega, by show X.f9.n * 72 ≤ _; have := hO.c6; have := hxx.l9; omega, by show X.f11.n * 128 ≤ _; have := hO.c0; have := hxx.l11; omega, by show X.f12.n * 8 ≤ _; have := hO.c0; have := hO.c1; have := hxx.l12; omega, by show X.f15.n ≤ _; have := hO.c0; have := hO.c2; have := hxx.l15; omega, by show X.f16.n ≤ _; have := hO.c0; have := hO.c3; have := hxx.l16; omega, by show X.f21.n * 8 ≤ _; have := hO.c0; have := hO.c4; have := hxx.l21; omega⟩
          have HCP := hid hcp
          have HBF := hid hbf
          rw [ricS_cel] at hls hcp
          clear hcp hbf hO hxx
          rw [ricS_cel] at HCP
          go_upto_region 11 with (go_at_call 19; refine HCP.out.mono ?_; rintro e' w6 ⟨Z, rfl, hZ, hC6, hb6⟩; have v7 := vs5 w6 Z)
          obtain ⟨W7, hW7⟩ : ∃ W, w6.alloc (.cells (cel (sState Z)) 49) = W := ⟨_, rfl⟩
          rw [hW7]
          have hBZ : BZ wr w6.heap.size W7 Z Z.f11.z Z.f12.z Z.f16.z := by
            rw [← hW7]
            have hc7 := hC6.below ((Below.refl _ _).alloc (Nat.le_refl _) (.cells (cel (sState Z)) 49))
            exact ⟨hb6.alloc hb6.size _, heap_new rfl, hc7.o11, hc7.o12, hc7.o16⟩
          have hy7 := hb6.size
          obtain ⟨y7, e7⟩ : ∃ y, w6.heap.size = y := ⟨_, rfl⟩
          rw [e7] at hBZ hy7 ⊢
          have hwr : Below W0.heap.size W0 wr := HW3.out.trans (HBF.out.bel.mono HW3.out.size)
          have hoc : ∀ W : World, Below wr.heap.size wr W → W.heap[w.heap.size + 1]? = some (.cells (cel (sState o)) 49) := fun W h => ((hwr.trans (h.mono hwr.size)).block _ z1).trans HR.out.2
          have HOC := hid hoc
          have HZ := hid hZ
          have HY7 := hid hy7
          have HWR := hid hwr
          have l1 : (lv24 ⟨w.heap.size + 1, 1, none⟩).run Tryd.prog W7 = .ok (.agg (vs .u8 32 o.f1)) W7 := lv24_mid fun j hj => at1 (hoc W7 hBZ.bel) j hj
          have s1 := sv24_mid hBZ.row 1 o.f1 (by rw [cel_size, slState]; omega)
          have hZ1 := hBZ.cells hy7 1 (bl o.f1 32) (put1 Z o.f1) rfl rfl rfl
          have HZ1 := hid hZ1
          clear hBZ hZ1 hoc hZ hy7 hwr hW7 e7 hC6 hb6 v7 hls HCP vs5 zs
          go_upto_region 12 with fail
          generalize W7.setCells y7 1 (bl o.f1 32) = W8 at HZ1 ⊢
          clear l1 s1
          have l2 : (lvR8 ⟨w.heap.size + 1, 141, none⟩).run Tryd.prog W8 = .ok (.agg (vs .u8 256 o.f5)) W8 := lvR8_mid fun j hj => at5 (HOC.out W8 HZ1.out.bel) j hj
          have s2 := svR8_mid HZ1.out.row 141 o.f5 (by rw [cel_size, slState]; omega)
          have hZ2 := HZ1.out.cells HY7.out 141 (bl o.f5 256) (put5 _ o.f5) rfl rfl rfl
          have HZ2 := hid hZ2
          clear hZ2 HZ1
          go_upto_region 13 with fail
          generalize W8.setCells y7 141 (bl o.f5 256) = W9 at HZ2 ⊢
          clear l2 s2
          have l3 : (lv24 ⟨w.heap.size + 1, 109, none⟩).run Tryd.prog W9 = .ok (.agg (vs .u8 32 o.f4.f4)) W9 := lv24_mid fun j hj => atb (HOC.out W9 HZ2.out.bel) j hj
          have s3 := sv24_mid HZ2.out.row 109 o.f4.f4 (by rw [cel_size, slState]; omega)
          have hZ3 := HZ2.out.cells HY7.out 109 (bl o.f4.f4 32) (putb _ o.f4.f4) rfl rfl rfl
          have HZ3 := hid hZ3
          clear hZ3 HZ2
          go_upto_region 14 with fail
          generalize W9.setCells y7 109 (bl o.f4.f4 32) = W10 at HZ3 ⊢
          clear l3 s3
          have l4 := cS7 (HOC.out W10 HZ3.out.bel)
          have c7 := cS7 HZ3.out.row
          have f7 := row_frozen HZ3.out.row 653
          have hZ4 := HZ3.out.cell HY7.out 653 _ (st_7 _ o.f7.a o.f7.n o.f7.c) rfl rfl rfl
          have HZ4 := hid hZ4
          clear hZ4 HZ3
          go_upto_region 15 with fail
          have hZ5 : BZ wr y7 (W10.setCell ⟨y7, 653, none⟩ (.slice o.f7.a o.f7.n o.f7.c)) (othS Z o) Z.f11.z Z.f12.z Z.f16.z := HZ4.out
          generalize W10.setCell ⟨y7, 653, none⟩ (.slice o.f7.a o.f7.n o.f7.c) = W11 at hZ5 ⊢
          obtain ⟨V0, hV0⟩ : ∃ V, V = wr := ⟨_, rfl⟩
          subst hV0
          have n11 : Z.f11.n = X.f11.n := HZ.out.l11
          have n12 : Z.f12.n = X.f11.n := by have := HZ.out.l12; have e : (ricS X X.f11.n).f12.n = X.f12.n := rfl; have := HX.out.l12; have := HX.out.l11; have := HOO.out.1.c1; omega
          have n16 : Z.f16.n = X.f11.n := by have := HZ.out.l16; have e : (ricS X X.f11.n).f16.n = X.f16.n := rfl; have := HX.out.l16; have := HX.out.l11; have := HOO.out.1.c3; omega
          have HZ5 := hid hZ5
          have HNN := hid (And.intro n11 (And.intro n12 n16))
          clear hZ5 HZ4 n11 n12 n16 l4 c7 f7 c11 hk hi hz
          go_wp2
          go_loopg [8] X.f11.n (fun k c wr => ∃ i : Nat, c = .int .i64 i ∧ i ≤ X.f11.n ∧ X.f11.n - i ≤ k ∧ BZ V0 y7 wr (othS Z o) (chg spa Z.f11.z i) (fun j => if j < i then 0 else Z.f12.z j) (fun j => if j < i then 1 else Z.f16.z j))
          case atStart =>
            refine ⟨0, rfl, by omega, by omega, ?_⟩
            rw [chg_zero, show (fun j => if j < 0 then (0 : Int) else Z.f12.z j) = Z.f12.z from funext fun j => if_neg (Nat.not_lt_zero _), show (fun j => if j < 0 then (1 : Int) else Z.f16.z j) = Z.f16.z from funext fun j => if_neg (Nat.not_lt_zero _)]
            exact HZ5.out
          case round =>
            clear HZ5
            obtain ⟨i, rfl, hi, hk, hbz⟩ := hrel
            obtain ⟨n11, n12, n16⟩ := HNN.out
            have c11 : wr.cell? ⟨y7, 721, none⟩ = some (.slice Z.f11.a X.f11.n Z.f11.c) := by rw [← n11]; exact cS11 (x := othS Z o) hbz.row
            by_cases hin : i < X.f11.n
            · have hz : (i : Int) < (X.f11.n : Int) := by omega
              obtain ⟨g11, e11⟩ := own_pos hbz.o11 (show 0 < Z.f11.n by omega)
              obtain ⟨g12, e12⟩ := own_pos hbz.o12 (show 0 < Z.f12.n by omega)
              obtain ⟨g16, e16⟩ := own_pos hbz.o16 (show 0 < Z.f16.n by omega)
              have hnx := bz_next HY7.out hbz e11 e12 e16 (show i < Z.f11.n by omega) (show i < Z.f12.n by omega) (show i < Z.f16.n by omega)
              have ha := hbz.bal HY7.out e12 (show i < Z.f12.n by omega) 0
              have hb := ha.cur HY7.out e16 (show i < Z.f16.n by omega) 1
              have q12 : wr.cell? ⟨y7, 722, none⟩ = some (.slice (some ⟨g12, 0, none⟩) X.f11.n Z.f12.c) := by
                rw [← n12, ← show Z.f12.a = some ⟨g12, 0, none⟩ from e12]; exact cS12 (x := othS Z o) hbz.row
              have d12 : ∃ v, wr.cell? ⟨g12, i, none⟩ = some v := by
                rcases own_nms hbz.o12 with h0 | ⟨b, off, ea, _, hc⟩
                · have : Z.f12.n = 0 := h0
                  omega
                · rw [e12] at ea
                  cases ea
                  have := hc i (by show i < Z.f12.n; omega)
                  rw [Nat.zero_add] at this
                  exact ⟨_, this⟩
              have f12 : wr.frozen? ⟨g12, i, none⟩ = false := by
                have o12 := hbz.o12
                rw [e12] at o12
                obtain ⟨D, hD⟩ := ownBlkC o12
                exact row_frozen hD i
              obtain ⟨v12, d12⟩ := d12
              have HBZ := hid hbz
              have HNX := hid hnx
              have HA := hid ha
              have HB2 := hid hb
              have HI := hid (And.intro n11 (And.intro n12 n16))
              have HE := hid (And.intro e11 (And.intro e12 e16))
              clear hbz hnx ha hb n11 n12 n16 e11 e12 e16
              go_upto_region 19 with fail
              generalize wr.setCell ⟨g12, i, none⟩ (.int .u64 0) = V1 at HA HB2 HNX ⊢
              clear q12 d12 f12 c11
              obtain ⟨n11, n12, n16⟩ := HI.out
              obtain ⟨e11, e12, e16⟩ := HE.out
              have q16 : V1.cell? ⟨y7, 988, none⟩ = some (.slice (some ⟨g16, 0, none⟩) X.f11.n Z.f16.c) := by
                rw [← n16, ← show Z.f16.a = some ⟨g16, 0, none⟩ from e16]; exact cS16 (x := othS Z o) HA.out.row
              have d16 : ∃ v, V1.cell? ⟨g16, i, none⟩ = some v := by
                rcases own_byF HA.out.o16 with ⟨_, h0, _⟩ | ⟨_, _, h0⟩ | ⟨b, off, ea, _, _, _, hc⟩
                · have : Z.f16.n = 0 := h0
                  omega
                · have : Z.f16.n = 0 := h0
                  omega
                · rw [e16] at ea
                  cases ea
                  have := hc i (by show i < Z.f16.n; omega)
                  rw [Nat.zero_add] at this
                  exact ⟨_, this⟩
              have f16 : V1.frozen? ⟨g16, i, none⟩ = false := by
                have o16 := HA.out.o16
                rw [e16] at o16
                obtain ⟨D, hD⟩ := ownBlkC o16
                exact row_frozen hD i
              obtain ⟨v16, d16⟩ := d16
              clear n11 n12 n16 e11 e12 e16
              go_upto_region 20 with fail
              generalize V1.setCell ⟨g16, i, none⟩ (.int .u8 1) = V2 at HB2 HNX ⊢
              clear q16 d16 f16
              obtain ⟨n11, n12, n16⟩ := HI.out
              obtain ⟨e11, e12, e16⟩ := HE.out
              have q11 : V2.cell? ⟨y7, 721, none⟩ = some (.slice (some ⟨g11, 0, none⟩) X.f11.n Z.f11.c) := by
                rw [← n11, ← show Z.f11.a = some ⟨g11, 0, none⟩ from e11]; exact cS11 (x := othS Z o) HB2.out.row
              have d11 : ∃ v, V2.cell? ⟨g11, 86 * i + 81, none⟩ = some v := by
                rcases own_els HB2.out.o11 (fun j => by rw [celL_len]; rfl) with h0 | ⟨b, off, ea, _, hc⟩
                · have : Z.f11.n = 0 := h0
                  omega
                · rw [e11] at ea
                  cases ea
                  have := hc i (by show i < Z.f11.n; omega) 81 _ rfl
                  rw [Nat.zero_add] at this
                  exact ⟨_, this⟩
              have f11 : V2.frozen? ⟨g11, 86 * i + 81, none⟩ = false := by
                have o11 := HB2.out.o11
                rw [e11] at o11
                obtain ⟨D, hD⟩ := ownBlkC o11
                exact row_frozen hD _
              obtain ⟨v11, d11⟩ := d11
              have ix := fun W => ixValidator_run W g11 0 X.f11.n Z.f11.c i hin
              simp only [Nat.zero_add] at ix
              clear n11 n12 n16 e11 e12 e16
              go_wp2
              go_roundg (X.f11.n - (i + 1))
              case measure => omega
              case rel => exact ⟨i + 1, by simp, by omega, by omega, HNX.out⟩
            · have hz : ¬ (i : Int) < (X.f11.n : Int) := by omega
              obtain rfl : i = X.f11.n := by omega
              obtain ⟨hO, hx, ho⟩ := HOO.out
              have okX := okF_sim HX.out hx
              have okY := ok_ric okX X.f11.n
              have okZ := ok_end (okF_sim HZ.out okY) ho X.f11.n
              have hBV := hbz.bel
              have hY := HBF.out.below hBV
              have hW : Below W0.heap.size W0 wr := HWR.out.trans (hBV.mono HWR.out.size)
              have x2 : X.f2 = x.f2 := HX.out.e2
              have lkY : Lk wr (ricS X X.f11.n) := ⟨hY.inW.i11, hnb, fun j hj => by
                show (0 : Int) ≤ (chg ric X.f11.z X.f11.n j).f2 ∧ (chg ric X.f11.z X.f11.n j).f2 ≤ 32000000000
                unfold chg
                rw [if_pos (show j < X.f11.n from hj)]
                show (0 : Int) ≤ 32000000000 ∧ (32000000000 : Int) ≤ 32000000000
                omega, by show 0 ≤ X.f2; omega, by show X.f2 < _; omega⟩
              have hz2 : ∀ j, ((endS Z o X.f11.n).f11.z j).f2 = ((ricS X X.f11.n).f11.z j).f2 ∧ ((endS Z o X.f11.n).f11.z j).f5 = ((ricS X X.f11.n).f11.z j).f5 ∧ ((endS Z o X.f11.n).f11.z j).f6 = ((ricS X X.f11.n).f11.z j).f6 := fun j => by
                rw [← HZ.out.z11]
                show (chg spa Z.f11.z X.f11.n j).f2 = _ ∧ (chg spa Z.f11.z X.f11.n j).f5 = _ ∧ (chg spa Z.f11.z X.f11.n j).f6 = _
                unfold chg
                split
                · exact ⟨rfl, rfl, rfl⟩
                · exact ⟨rfl, rfl, rfl⟩
              have lkZ : Lk wr (endS Z o X.f11.n) := ⟨own_els hbz.o11 (fun j => by rw [celL_len]; rfl), by show Z.f11.n ≤ _; omega, fun j hj => by
                rw [(hz2 j).1]
                exact lkY.ef j (by show j < X.f11.n; have : j < Z.f11.n := hj; omega), by show 0 ≤ Z.f2; have := HZ.out.e2; have e : (ricS X X.f11.n).f2 = X.f2 := rfl; omega, by show Z.f2 < _; have := HZ.out.e2; have e : (ricS X X.f11.n).f2 = X.f2 := rfl; omega⟩
              obtain ⟨pv, pe⟩ := pr_congr (Y := ricS X X.f11.n) (Z := endS Z o X.f11.n) HZ.out.e2 HZ.out.e13 n11 hz2
              have hp1 : ∀ W : World, Below wr.heap.size wr W → Calls Tryd.prog 9 #[.agg (cel (sState (ricS X X.f11.n)))] W fun e' w' => e' = .returned (.tuple #[.int .u64 (prV (ricS X X.f11.n)), .int .i64 (prE (ricS X X.f11.n))]) ∧ Below W.heap.size W w' := fun W h => pP _ W okY (lkY.below h) (HS.out.below (hW.trans (h.mono hW.size)))
              have hp2 : ∀ W : World, Below wr.heap.size wr W → Calls Tryd.prog 9 #[.agg (cel (sState (endS Z o X.f11.n)))] W fun e' w' => e' = .returned (.tuple #[.int .u64 (prV (ricS X X.f11.n)), .int .i64 (prE (ricS X X.f11.n))]) ∧ Below W.heap.size W w' := fun W h => by
                rw [← pv, ← pe]
                exact pP _ W okZ (lkZ.below h) (HS.out.below (hW.trans (h.mono hW.size)))
              have hac : ∀ W : World, Below wr.heap.size wr W → Calls Tryd.prog 20 #[.agg (cel (sState (ricS X X.f11.n))), .int .u64 (x.f2 / 4)] W fun e' w' => ∃ a c, e' = .returned (.slice a (acE (ricS X X.f11.n) (x.f2 / 4)).length c) ∧ Nml w' a (acE (ricS X X.f11.n) (x.f2 / 4)) ∧ Below W.heap.size W w' := fun W h => ractives_any _ _ W (lkY.below h)
              have hr := pr_rich (X := X) (x.f2 / 4) (by show X.f2 / 4 = _; rw [x2])
              have hl5 : ∀ W : World, Below wr.heap.size wr W → (lvState ⟨y5, 0, none⟩).run Tryd.prog W = .ok (.agg (cel (sState (ricS X X.f11.n)))) W := fun W h => lvState_run ((hY.below h).row)
              have hc5 : ∀ W : World, Below wr.heap.size wr W → W.cell? ⟨y5, 721, none⟩ = some (.slice X.f11.a X.f11.n X.f11.c) := fun W h => cS11 (x := ricS X X.f11.n) (hY.below h).row
              have hl7 : ∀ W : World, Below wr.heap.size wr W → (lvState ⟨y7, 0, none⟩).run Tryd.prog W = .ok (.agg (cel (sState (endS Z o X.f11.n)))) W := fun W h => lvState_run (((h.block _ (some_lt hbz.row)).trans hbz.row).trans (by rw [endS_cel]))
              have hc2 : ∀ W : World, Below wr.heap.size wr W → W.cell? ⟨w.heap.size, 33, none⟩ = some (.int .u64 x.f2) := fun W h => cS2 (((hW.trans (h.mono hW.size)).block _ (by omega)).trans HR.out.1)
              generalize prV (ricS X X.f11.n) = PV at hp1 hp2 hr
              generalize prE (ricS X X.f11.n) = PE at hp1 hp2 hr
              generalize acE (ricS X X.f11.n) (x.f2 / 4) = L at hac hr
              generalize ricS X X.f11.n = Y at hp1 hac hl5
              generalize endS Z o X.f11.n = Z2 at hp2 hl7
              have l5 := hl5 wr (Below.refl _ _)
              have dq : x.f2.tdiv 4 = x.f2 / 4 := Int.tdiv_eq_ediv_of_nonneg s0
              have dw : IntKind.u64.wrap (x.f2 / 4) = x.f2 / 4 := by rw [IntKind.wrap_u64]; omega
              obtain ⟨E, eE⟩ : ∃ E, x.f2 / 4 = E := ⟨_, rfl⟩
              rw [eE] at hac dq dw
              obtain ⟨m, em⟩ : ∃ m, L.length = m := ⟨_, rfl⟩
              rw [em] at hac
              have hr' : (m = 0 ∧ PE = 7) ∨ (m ≠ 0 ∧ PE = 0 ∧ ∃ V : Nat, PV = (V : Int) ∧ V < X.f11.n) := by
                rcases hr with ⟨h1, h2⟩ | ⟨h1, h2⟩
                · exact .inl ⟨by rw [← em, h1]; rfl, h2⟩
                · exact .inr ⟨fun h0 => h1 (List.length_eq_zero_iff.1 (em.trans h0)), h2⟩
              have hBw : Below w.heap.size w wr := HB.out.trans (hW.mono HB.out.size)
              have HP1 := hid hp1
              have HP2 := hid hp2
              have HAC := hid hac
              have HL5 := hid hl5
              have HC5 := hid hc5
              have HL7 := hid hl7
              have HC2 := hid hc2
              have HBW := hid hBw
              clear hp1 hp2 hac hl5 hc5 hl7 hc2 hr hBw hBV hY hW lkY lkZ okX okY okZ hz2 pv pe hbz hO hx ho x2 eE em n11 n12 n16 hk hi HNN HZ HX HOO HBF HS HR HLX HLO HW3 HWR HOC HY7
              go_upto_region 21 with fail
              clear c11
              go_upto_region 22 with (go_at_call 9; refine (HP1.out wr (Below.refl _ _)).mono ?_; rintro e' w8 ⟨rfl, hb8⟩)
              have l7 := HL7.out w8 hb8
              clear l5
              go_upto_region 23 with (go_at_call 9; refine (HP2.out w8 hb8).mono ?_; rintro e' w9 ⟨rfl, hb9⟩)
              have hB9 := hb8.trans (hb9.mono hb8.size)
              have l9 := HL5.out w9 hB9
              have c9 := HC2.out w9 hB9
              clear l7
              go_upto_region 24 with (go_at_call 20; refine (HAC.out w9 hB9).mono ?_; rintro e' w10 ⟨a10, c10, rfl, hn10, hb10⟩)
              have hB10 := hB9.trans (hb10.mono hB9.size)
              have c5 := HC5.out w10 hB10
              have HEN := hid (HBW.out.trans (hB10.mono HBW.out.size))
              clear hB10 hb10 hn10 hB9 hb9 hb8 l9 c9 HP1 HP2 HAC HL5 HC5 HL7 HC2 HBW
              rcases hr' with ⟨m0, p7⟩ | ⟨m0, p0, V, eV, hV⟩
              · subst m0 p7
                go_wp2
                go_ret
                exact ⟨rfl, HEN.out⟩
              · subst p0 eV
                have mz : ((m : Int) == 0) = false := by simp; omega
                have nw : IntKind.u64.wrap (X.f11.n : Int) = (X.f11.n : Int) := by rw [IntKind.wrap_u64]; omega
                have vz : (V : Int) < (X.f11.n : Int) := by omega
                go_wp2
                go_ret
                exact ⟨rfl, HEN.out⟩

end Go.Proofs.YtpabbglbaimadaaDoor
