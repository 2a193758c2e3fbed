/-
  StateSizes, walked.
-/

import Derived.Test.YtehpfemlcjcabaaStT
import Derived.Test.YtehpfemlcjcabaaStW
namespace Go.Proofs.Ytehpfemlcjcabaa

open Go.RowKit

set_option linter.unusedVariables false

set_option linter.unusedSimpArgs false

set_option maxRecDepth 20000

/-- The bytes of a state's parts, zeros behind them. -/
def pC (x : VState) (r q : Nat) : Int := if q < pL x r then pF x r q else 0

theorem pC_bd {x : VState} (h : OkState x) (r q : Nat) : 0 ≤ pC x r q ∧ pC x r q < 256 := by
  unfold pC
  by_cases hq : q < pL x r
  · rw [if_pos hq]
    by_cases hr : r < 24
    · exact pF_bd h r hr q hq
    · have : pL x r = 0 := by
        unfold pL
        rw [List.getD_eq_getElem?_getD, List.getElem?_eq_none (by show 24 ≤ r; omega)]
        rfl
      omega
  · rw [if_neg hq]
    exact s256

def lns (x : VState) : LNS := ⟨x.f7.n, x.f9.n, x.f11.n, x.f12.n, x.f15.n, x.f16.n, x.f21.n⟩

theorem byt4_lt (f : Nat → Bool) : Z.byt f 4 0 < 16 := by
  refine Nat.lt_pow_two_of_testBit (n := 4) _ fun i hi => ?_
  rw [Z.byt_bit, decide_eq_false (show ¬ 8 * 0 + i < 4 by omega)]
  simp

theorem pN_of {x : VState} (hx : OkState x) (hf : fitB x = true) : PN (lns x) (pL x) (pC x) := by
  refine ⟨rfl, rfl, rfl, rfl, rfl, rfl, rfl, Nat.mul_comm _ _, rfl, Nat.mul_comm _ _, rfl, Nat.mul_comm _ _, Nat.mul_comm _ _, rfl, rfl, rfl, rfl, rfl, rfl, rfl, rfl, Nat.mul_comm _ _, rfl, rfl, pC_bd hx, ?_, fun i hi => ?_, fitn hf⟩
  · show (Z.byt x.f17 4 0 : Int) < 16
    have := byt4_lt x.f17
    omega
  · have hlt : i * 121 + 88 < 121 * x.f11.n := by
      have : i < x.f11.n := hi
      omega
    have e : pC x 11 (i * 121 + 88) = bbB (x.f11.z i).f3 0 := by
      unfold pC
      rw [if_pos (show i * 121 + 88 < pL x 11 from hlt)]
      show ct7 (eValidator (x.f11.z ((i * 121 + 88) / 121))) ((i * 121 + 88) % 121) = _
      rw [show (i * 121 + 88) / 121 = i by omega, show (i * 121 + 88) % 121 = 88 by omega]
      rfl
    rw [e]
    cases (x.f11.z i).f3 <;> decide

/-- The bytes of a state read again. -/
theorem readS (x : VState) (hx : OkState x) (hf : fitB x = true) (W : World) (a : Option Addr) (c : Nat) (hb : Bys W a (tL x) c (mS x)) :
    Calls Try.prog 12 #[.slice a (tL x) c] W fun e w' => ∃ X : VState, e = .returned (.tuple #[.agg (cel (sState X)), .int .i64 0]) ∧ LN (lns x) X ∧ Below W.heap.size W w' := by
  have h2 : 0 < tL x := by rw [tL_is]; omega
  obtain ⟨b, off, ea, _, hlc, _⟩ := bys_at hb h2
  have hcap : c ≤ 9223372036854775807 := by
    rcases hb with ⟨h, _⟩ | ⟨_, _, h⟩ | ⟨_, _, _, _, h, _⟩
    · rw [h] at ea
      cases ea
    · omega
    · exact h
  refine readStateN (lns x) (pL x) (pC x) a (tL x) c W (pN_of hx hf) (fun W' sa h1 h2 => ?_)
  have hc := Z.cut_laid2 zS (pF x) (pL x) 24 a c (some ⟨sa, 0, none⟩) 24 W' (fun r hr q hq => pF_bd hx r hr q hq) (fitsS x) (tL_lt hf) (hb.below h1) hlc hcap (nmsS h2) (by kernel_rfl)
  refine hc.mono ?_
  rintro e w' ⟨gp, A, rfl, hp, hbb⟩
  refine ⟨gp, A, rfl, ?_, hbb⟩
  rcases hp with h | ⟨b, off, e1, e2, e3⟩
  · omega
  · exact .inr ⟨b, off, e1, e2, fun r hr => ⟨(e3 r hr).1, Z.bys_congr (e3 r hr).2 fun q hq => (if_pos hq).symm⟩⟩

theorem encR (x : VState) (w : World) (hx : OkState x) (hw : InW w x) (hf : fitB x = true) :
    Calls Try.prog 11 #[.agg (cel (sState x))] w fun e w' => ∃ a c, e = .returned (.tuple #[.slice a (tL x) c, .int .i64 0]) ∧ Bys w' a (tL x) c (mS x) ∧ Below w.heap.size w w' := by
  refine (encState_ok x w hx hw hf (fitn hf)).mono ?_
  rintro e w' ⟨v, rfl, ho, hb⟩
  rw [mS_bl] at ho
  obtain ⟨a, c, rfl, hy⟩ := own_at ho
  exact ⟨a, c, rfl, hy, hb⟩

attribute [local go_sem ↓] lvState_eq svState_eq

set_option maxHeartbeats 16000000 in
theorem sizes_law (x : VState) (w : World) (hx : OkState x) (hw : InW w x) :
    Calls Try.prog 5 #[.agg (cel (sState x))] w fun e w' => e = .returned (.bool true) ∧ Below w.heap.size w w' := by
  obtain ⟨W0, hW0⟩ : ∃ W, w.alloc (.cells (cel (sState x)) 49) = W := ⟨_, rfl⟩
  have hB0 : Below w.heap.size w W0 := by rw [← hW0]; exact (Below.refl _ _).alloc (Nat.le_refl _) _
  have r0 : W0.heap[w.heap.size]? = some (.cells (cel (sState x)) 49) := by rw [← hW0]; exact heap_new rfl
  have z0 : w.heap.size < W0.heap.size := by rw [← hW0]; simp
  obtain ⟨b0, eb⟩ : ∃ y, w.heap.size = y := ⟨_, rfl⟩
  have HRX : Hid (∀ X, Below W0.heap.size W0 X → X.heap[b0]? = some (.cells (cel (sState x)) 49)) := fun X h => by rw [← eb]; exact (h.block _ z0).trans r0
  have HIN : Hid (∀ X, Below W0.heap.size W0 X → InW X x) := fun X h => hw.below (hB0.trans (h.mono hB0.size))
  have HB0w := hid hB0
  have HX := hid hx
  have z := zeroState
  clear hB0 r0 hx hw
  go_enter Try.func5, Try.ntmps5
  go_upto_region 1 with fail
  clear hW0 eb z0
  go_upto_region 3 with (go_at_call 6; refine (awake10 _).mono ?_; rintro e w1 ⟨rfl, hb⟩; have S1 := hid hb; have lv1 := lvState_run (HRX.out _ S1.out); clear hb)
  cases hB : fitB x
  · have HE := hid (encState_long x w1 hB)
    clear hB
    go_wp2_with (go_at_call 11; refine HE.out.mono ?_; rintro e w2 ⟨rfl, hb⟩; have HB2 := hid (S1.out.trans (hb.mono S1.out.size)); clear hb)
    go_ret
    exact ⟨rfl, HB0w.out.trans (HB2.out.mono HB0w.out.size)⟩
  have he := encR x w1 HX.out (HIN.out _ S1.out) hB
  have hrd := readS x HX.out hB
  have hl := fitn hB
  have htl := tL_is x
  obtain ⟨TX, eTX⟩ : ∃ n, tL x = n := ⟨_, rfl⟩
  obtain ⟨m, em⟩ : ∃ m, mS x = m := ⟨_, rfl⟩
  rw [eTX] at he hrd htl
  rw [em] at he hrd
  have HE := hid he
  have HRD := hid hrd
  have HT := hid htl
  have HLL := hid hl
  clear hB eTX em he hrd htl hl
  go_upto_region 6 with (go_at_call 11; refine HE.out.mono ?_; rintro e w2 ⟨a2, c2, rfl, hy, hb⟩; have S2 := hid (S1.out.trans (hb.mono S1.out.size)); have HRD2 := hid (HRD.out w2 a2 c2 hy); clear hb hy)
  clear lv1 HE HRD
  have l7 := cS7 (HRX.out _ S2.out)
  have l9 := cS9 (HRX.out _ S2.out)
  have l11 := cS11 (HRX.out _ S2.out)
  have l12 := cS12 (HRX.out _ S2.out)
  have l15 := cS15 (HRX.out _ S2.out)
  have l16 := cS16 (HRX.out _ S2.out)
  have l21 := cS21 (HRX.out _ S2.out)
  have hl := HLL.out
  have htl := HT.out
  obtain ⟨k7, ek7⟩ : ∃ k, x.f7.n = k := ⟨_, rfl⟩
  obtain ⟨k9, ek9⟩ : ∃ k, x.f9.n = k := ⟨_, rfl⟩
  obtain ⟨k11, ek11⟩ : ∃ k, x.f11.n = k := ⟨_, rfl⟩
  obtain ⟨k12, ek12⟩ : ∃ k, x.f12.n = k := ⟨_, rfl⟩
  obtain ⟨k15, ek15⟩ : ∃ k, x.f15.n = k := ⟨_, rfl⟩
  obtain ⟨k16, ek16⟩ : ∃ k, x.f16.n = k := ⟨_, rfl⟩
  obtain ⟨k21, ek21⟩ : ∃ k, x.f21.n = k := ⟨_, rfl⟩
  rw [ek7, ek9, ek11, ek12, ek15, ek16, ek21] at hl htl
  rw [ek7] at l7
  rw [ek9] at l9
  rw [ek11] at l11
  rw [ek12] at l12
  rw [ek15] at l15
  rw [ek16] at l16
  rw [ek21] at l21
  obtain ⟨q7, q9, q11, q12, q15, q16, q21⟩ := hl
  have h7 : (k7 : Int) ≤ 1024 := by omega
  have g7 : (0 : Int) ≤ (k7 : Int) := by omega
  have h9 : (k9 : Int) ≤ 8 := by omega
  have g9 : (0 : Int) ≤ (k9 : Int) := by omega
  have h11 : (k11 : Int) ≤ 65536 := by omega
  have g11 : (0 : Int) ≤ (k11 : Int) := by omega
  have h12 : (k12 : Int) ≤ 65536 := by omega
  have g12 : (0 : Int) ≤ (k12 : Int) := by omega
  have h15 : (k15 : Int) ≤ 65536 := by omega
  have g15 : (0 : Int) ≤ (k15 : Int) := by omega
  have h16 : (k16 : Int) ≤ 65536 := by omega
  have g16 : (0 : Int) ≤ (k16 : Int) := by omega
  have h21 : (k21 : Int) ≤ 65536 := by omega
  have g21 : (0 : Int) ≤ (k21 : Int) := by omega
  have E5 := hid (show (2101 + 32 * (k7 : Int) + 72 * (k9 : Int) + 121 * (k11 : Int) + 8 * (k12 : Int) + (k15 : Int) + (k16 : Int) + 8 * (k21 : Int)) = (TX : Int) by omega)
  have HLN : Hid (∀ X, LN (lns x) X → X.f7.n = k7 ∧ X.f9.n = k9 ∧ X.f11.n = k11 ∧ X.f12.n = k12 ∧ X.f15.n = k15 ∧ X.f16.n = k16 ∧ X.f21.n = k21) := fun X h => by
    obtain ⟨h1, h2, h3, h4, h5, h6, h7⟩ := h
    exact ⟨h1.trans ek7, h2.trans ek9, h3.trans ek11, h4.trans ek12, h5.trans ek15, h6.trans ek16, h7.trans ek21⟩
  have HLX : Hid (∀ W, Below W0.heap.size W0 W → W.cell? ⟨b0, 653, none⟩ = some (.slice x.f7.a k7 x.f7.c) ∧ W.cell? ⟨b0, 719, none⟩ = some (.slice x.f9.a k9 x.f9.c) ∧ W.cell? ⟨b0, 721, none⟩ = some (.slice x.f11.a k11 x.f11.c) ∧ W.cell? ⟨b0, 722, none⟩ = some (.slice x.f12.a k12 x.f12.c) ∧ W.cell? ⟨b0, 987, none⟩ = some (.slice x.f15.a k15 x.f15.c) ∧ W.cell? ⟨b0, 988, none⟩ = some (.slice x.f16.a k16 x.f16.c) ∧ W.cell? ⟨b0, 1092, none⟩ = some (.slice x.f21.a k21 x.f21.c)) := fun W h => by
    rw [← ek7, ← ek9, ← ek11, ← ek12, ← ek15, ← ek16, ← ek21]
    exact ⟨cS7 (HRX.out W h), cS9 (HRX.out W h), cS11 (HRX.out W h), cS12 (HRX.out W h), cS15 (HRX.out W h), cS16 (HRX.out W h), cS21 (HRX.out W h)⟩
  clear htl q7 ek7 q9 ek9 q11 ek11 q12 ek12 q15 ek15 q16 ek16 q21 ek21 HT HLL
  go_upto_region 7 with fail
  rw [E5.out]
  clear l7 h7 g7 l9 h9 g9 l11 h11 g11 l12 h12 g12 l15 h15 g15 l16 h16 g16 l21 h21 g21 E5
  go_upto_region 8 with (go_at_call 12; refine HRD2.out.mono ?_; rintro e w3 ⟨X, rfl, hln, hb⟩; have sv := svState_newv w3 oState X; have HN := hid (HLN.out X hln); have HB3 := hid (S2.out.trans (hb.mono S2.out.size)); clear hb hln)
  obtain ⟨y, ey⟩ : ∃ y, w3.heap.size = y := ⟨_, rfl⟩
  obtain ⟨V, hV⟩ : ∃ V, w3.alloc (.cells (cel (sState X)) 49) = V := ⟨_, rfl⟩
  have rV : V.heap[y]? = some (.cells (cel (sState X)) 49) := by rw [← hV, ← ey]; exact heap_new rfl
  have hbV : Below W0.heap.size W0 V := by rw [← hV]; exact HB3.out.alloc HB3.out.size _
  have HBV := hid hbV
  obtain ⟨l7, l9, l11, l12, l15, l16, l21⟩ := HLX.out V hbV
  obtain ⟨n7, n9, n11, n12, n15, n16, n21⟩ := HN.out
  have m7 := cS7 rV
  rw [n7] at m7
  have m9 := cS9 rV
  rw [n9] at m9
  have m11 := cS11 rV
  rw [n11] at m11
  have m12 := cS12 rV
  rw [n12] at m12
  have m15 := cS15 rV
  rw [n15] at m15
  have m16 := cS16 rV
  rw [n16] at m16
  have m21 := cS21 rV
  rw [n21] at m21
  rw [hV, ey]
  clear hV ey sv rV hbV z HRD2 HN HLN n7 n9 n11 n12 n15 n16 n21
  go_wp2
  go_ret
  exact ⟨rfl, HB0w.out.trans (HBV.out.mono HB0w.out.size)⟩

end Go.Proofs.Ytehpfemlcjcabaa
