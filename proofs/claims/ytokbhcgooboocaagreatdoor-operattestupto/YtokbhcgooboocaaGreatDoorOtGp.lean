/-
  Roots compared.
-/
import Derived.Test.YtokbhcgooboocaaGreatDoorCoCp
import Derived.Test.YtokbhcgooboocaaGreatDoorOpFp
import Derived.Test.YtokbhcgooboocaaGreatDoorOtAp
import Derived.Test.YtokbhcgooboocaaGreatDoorSmSp
namespace Go.Proofs.YtokbhcgooboocaaGreatDoor
open Go.RowKit
set_option linter.unusedVariables false
set_option linter.unusedSimpArgs false

def neo (x y : Value) : Sem Value := binOp .neq 25 x y

theorem neo_eq (x y : Value) : binOp .neq 25 x y = neo x y := rfl

theorem neo_run (w : World) (c d : Nat → Int) : (neo (.agg (vs .u8 32 c)) (.agg (vs .u8 32 d))).run Tryz.prog w = .ok (.bool (!eqR c d)) w := by
  have h2 : (Op.equalIn Op.maxDepth 25 (.agg (vs .u8 32 c)) (.agg (vs .u8 32 d))).run Tryz.prog w = .ok (eqR c d) w := eq32g w c d
  unfold neo
  simp [binOp, Op.equal, h2]

end Go.Proofs.YtokbhcgooboocaaGreatDoor

namespace Go.Proofs.YtokbhcgooboocaaGreatDoor
open Go.RowKit
set_option linter.unusedVariables false
set_option linter.unusedSimpArgs false

/-- What the reference's Enc answers, now and later. -/
def Enc2Attest (L : Nat) (M : Nat → Int) (v : VAttest) (w : World) : Prop :=
  ∀ X, Below w.heap.size w X → Calls Tryz.prog 8 #[.agg (cel (sAttest v))] X fun e w' => ∃ a c, e = .returned (.tuple #[.slice a L c, .int .i64 0]) ∧ Bys w' a L c M ∧ Below X.heap.size X w'

attribute [local go_sem ↓] sv24_eq lv24_eq sl22_eq neo_eq lvAttest_eq svAttest_eq

set_option maxRecDepth 20000 in
set_option maxHeartbeats 8000000 in
theorem operAttest_core (x : VAttest) (m M M2 D : Nat → Int) (L L2 : Nat) (G E : Int) (ao : Option Addr) (len cap : Nat) (w : World) (hb : Bys w ao len cap m) (hlen : len ≤ 140737488351232) (hlc : len ≤ cap) (hcap : cap ≤ 9223372036854775807)
    (hE : ∀ W, Below w.heap.size w W → Calls Tryz.prog 6 #[.agg (cel (sAttest x))] W fun e w' => ∃ a c, e = .returned (.tuple #[.slice a L c, .int .i64 G]) ∧ L ≤ c ∧ c ≤ 9223372036854775807 ∧ Bys w' a L c M ∧ Below W.heap.size W w')
    (hF : ∀ W, Below w.heap.size w W → Calls Tryz.prog 8 #[.agg (cel (sAttest x))] W fun e w' => ∃ a c, e = .returned (.tuple #[.slice a L c, .int .i64 G]) ∧ Bys w' a L c M ∧ Below W.heap.size W w')
    (hR : ∀ W, Below w.heap.size w W → Calls Tryz.prog 7 #[.agg (cel (sAttest x))] W fun e w' => e = .returned (.tuple #[.agg (vs .u8 32 D), .int .i64 G]) ∧ Below W.heap.size W w')
    (hQ : ∀ W, Below w.heap.size w W → Calls Tryz.prog 9 #[.agg (cel (sAttest x))] W fun e w' => e = .returned (.tuple #[.agg (vs .u8 32 D), .int .i64 G]) ∧ Below W.heap.size W w')
    (hRD1 : G = 0 → ∀ W a c, Bys W a L c M → L ≤ c → c ≤ 9223372036854775807 → Calls Tryz.prog 10 #[.slice a L c] W fun e w' => ∃ v, e = .returned (.tuple #[.agg (cel (sAttest v)), .int .i64 0]) ∧ Below W.heap.size W w' ∧ Enc2Attest L M v w')
    (hRD : ∀ W a c, Bys W a len c m → len ≤ c → c ≤ 9223372036854775807 → Calls Tryz.prog 10 #[.slice a len c] W fun e w' => ∃ v, e = .returned (.tuple #[.agg (cel (sAttest v)), .int .i64 E]) ∧ Below W.heap.size W w' ∧ Enc2Attest L2 M2 v w')
    (hRR : ∀ W a c, Bys W a len c m → len ≤ c → c ≤ 9223372036854775807 → Calls Tryz.prog 11 #[.slice a len c] W fun e w' => ∃ v, e = .returned (.tuple #[.agg (cel (sAttest v)), .int .i64 E]) ∧ Below W.heap.size W w' ∧ Enc2Attest L2 M2 v w')
    (hEQ : E = 0 → L2 = len ∧ ∀ q, q < len → M2 q = m q) :
    Calls Tryz.prog 3 #[.agg (cel (sAttest x)), .slice ao len cap] w fun e w' => e = .returned (.bool true) ∧ Below w.heap.size w w' := by
  obtain ⟨s, es⟩ : ∃ s, Z.strF M L = s := ⟨_, rfl⟩
  obtain ⟨s2, es2⟩ : ∃ s, Z.strF M2 L2 = s := ⟨_, rfl⟩
  obtain ⟨sb, esb⟩ : ∃ s, Z.strF m len = s := ⟨_, rfl⟩
  have HSB : Hid (E = 0 → s2 = sb) := fun h => by
    obtain ⟨h1, h2⟩ := hEQ h
    subst h1
    rw [← es2, ← esb]
    exact strF_congr h2
  have HRD1 := hid hRD1
  have HRD := hid hRD
  have HRRD := hid hRR
  obtain ⟨W0, hW0⟩ : ∃ W, w.alloc (.cells (cel (sAttest x)) 33) = W := ⟨_, rfl⟩
  have hB0 : Below w.heap.size w W0 := by rw [← hW0]; exact (Below.refl _ _).alloc (Nat.le_refl _) _
  have r0 : W0.heap[w.heap.size]? = some (.cells (cel (sAttest x)) 33) := by rw [← hW0]; exact heap_new rfl
  have z0 : w.heap.size < W0.heap.size := by rw [← hW0]; simp
  obtain ⟨y, ey⟩ : ∃ y, w.heap.size = y := ⟨_, rfl⟩
  have HLX : Hid (∀ X, Below W0.heap.size W0 X → (lvAttest ⟨y, 0, none⟩).run Tryz.prog X = .ok (.agg (cel (sAttest x))) X) := fun X h => by
    rw [← ey]
    exact lvAttest_mid (x := x) ((h.block _ z0).trans r0) 0 (take_all _) rfl
  have HAW := hid (awake8 W0)
  have HE : Hid (∀ X, Below W0.heap.size W0 X → Calls Tryz.prog 6 #[.agg (cel (sAttest x))] X fun e w' => ∃ a c, e = .returned (.tuple #[.slice a L c, .int .i64 G]) ∧ L ≤ c ∧ c ≤ 9223372036854775807 ∧ Bys w' a L c M ∧ Below X.heap.size X w') := fun X h => hE X (hB0.trans (h.mono hB0.size))
  have HRE : Hid (∀ X, Below W0.heap.size W0 X → Calls Tryz.prog 8 #[.agg (cel (sAttest x))] X fun e w' => ∃ a c, e = .returned (.tuple #[.slice a L c, .int .i64 G]) ∧ Bys w' a L c M ∧ Below X.heap.size X w') := fun X h => hF X (hB0.trans (h.mono hB0.size))
  have HRO : Hid (∀ X, Below W0.heap.size W0 X → Calls Tryz.prog 7 #[.agg (cel (sAttest x))] X fun e w' => e = .returned (.tuple #[.agg (vs .u8 32 D), .int .i64 G]) ∧ Below X.heap.size X w') := fun X h => hR X (hB0.trans (h.mono hB0.size))
  have HRR : Hid (∀ X, Below W0.heap.size W0 X → Calls Tryz.prog 9 #[.agg (cel (sAttest x))] X fun e w' => e = .returned (.tuple #[.agg (vs .u8 32 D), .int .i64 G]) ∧ Below X.heap.size X w') := fun X h => hQ X (hB0.trans (h.mono hB0.size))
  have HBY : Hid (∀ X, Below W0.heap.size W0 X → Bys X ao len cap m) := fun X h => hb.below (hB0.trans (h.mono hB0.size))
  have qn := fun W => neo_run W D D
  rw [eqR_self] at qn
  have HB0 := hid hB0
  have HES := hid es
  have HES2 := hid es2
  have HESB := hid esb
  clear hb hE hF hR hQ hRD1 hRD hRR hEQ hB0 r0 z0 es es2 esb
  go_enter Tryz.func3, Tryz.ntmps3
  go_upto_region 1 with fail
  clear hW0 ey
  go_upto_region 3 with (go_at_call 5; refine HAW.out.mono ?_; rintro e w1 ⟨rfl, hb1⟩)
  have S1 := hid hb1
  have l := HLX.out _ S1.out
  clear hb1
  go_upto_region 4 with (go_at_call 6; refine (HE.out _ S1.out).mono ?_; rintro e w2 ⟨a2, k2, rfl, i2, j2, hr2, hb2⟩)
  have S2 := hid (S1.out.trans (hb2.mono S1.out.size))
  have R2 := hid hr2
  clear l hb2 hr2
  have l := HLX.out _ S2.out
  have sv := fun W => sv24_newv W (fun _ => 0) D
  have z := zero_root
  go_upto_region 5 with (go_at_call 7; refine (HRO.out _ S2.out).mono ?_; rintro e w3 ⟨rfl, hb3⟩)
  obtain ⟨W4, hW4⟩ : ∃ W, w3.alloc (.cells (vs .u8 32 D) 25) = W := ⟨_, rfl⟩
  rw [hW4]
  have K4 : Hid (Below w2.heap.size w2 W4) := by rw [← hW4]; exact hb3.alloc hb3.size _
  have r4 : W4.heap[w3.heap.size]? = some (.cells (vs .u8 32 D) 25) := by rw [← hW4]; exact heap_new rfl
  obtain ⟨br, ebr⟩ : ∃ b, w3.heap.size = b := ⟨_, rfl⟩
  rw [ebr] at r4 ⊢
  have R4 := hid r4
  have S4 := hid (S2.out.trans (K4.out.mono S2.out.size))
  clear l hb3 r4 ebr hW4
  have l := HLX.out _ S4.out
  go_upto_region 6 with (go_at_call 8; refine (HRE.out _ S4.out).mono ?_; rintro e w5 ⟨a5, k5, rfl, hr5, hb5⟩)
  have S5 := hid (S4.out.trans (hb5.mono S4.out.size))
  have K5 := hid (K4.out.trans (hb5.mono K4.out.size))
  have r5 := (hb5.block br (Array.getElem?_eq_some_iff.1 R4.out).1).trans R4.out
  have R5 := hid hr5
  have Q5 := hid r5
  clear l hb5 hr5 r5
  have l := HLX.out _ S5.out
  go_upto_region 7 with (go_at_call 9; refine (HRR.out _ S5.out).mono ?_; rintro e w6 ⟨rfl, hb6⟩)
  obtain ⟨W7, hW7⟩ : ∃ W, w6.alloc (.cells (vs .u8 32 D) 25) = W := ⟨_, rfl⟩
  rw [hW7]
  have k7 : Below w5.heap.size w5 W7 := by rw [← hW7]; exact hb6.alloc hb6.size _
  have r7 : W7.heap[w6.heap.size]? = some (.cells (vs .u8 32 D) 25) := by rw [← hW7]; exact heap_new rfl
  have q7 := (k7.block br (Array.getElem?_eq_some_iff.1 Q5.out).1).trans Q5.out
  obtain ⟨bq, ebq⟩ : ∃ b, w6.heap.size = b := ⟨_, rfl⟩
  rw [ebq] at r7 ⊢
  have l1 := lv24_run q7
  have l2 := lv24_run r7
  have S7 := hid (S5.out.trans (k7.mono S5.out.size))
  have K7 := hid (K5.out.trans (k7.mono K5.out.size))
  have A7 := hid k7
  have cv1 := Z.conv_bys W7 a2 L k2 _ (R2.out.below K7.out)
  have cv2 := Z.conv_bys W7 a5 L k5 _ (R5.out.below k7)
  rw [HES.out] at cv1 cv2
  clear l hb6 r7 q7 ebq hW7 k7 sv z
  by_cases hG : G = 0
  · subst hG
    clear HRE HRO HRR HE
    go_upto_region 10 with fail
    clear l1 l2 cv1 cv2 qn
    have sv := fun W v => svAttest_newv W oAttest v
    have z := zeroAttest
    go_upto_region 11 with (go_at_call 10; refine (HRD1.out rfl _ a2 k2 (R2.out.below K7.out) i2 j2).mono ?_; rintro e w8 ⟨V1, rfl, hb8, hen8⟩)
    obtain ⟨W9, hW9⟩ : ∃ W, w8.alloc (.cells (cel (sAttest V1)) 33) = W := ⟨_, rfl⟩
    rw [hW9]
    have k9 : Below W7.heap.size W7 W9 := by rw [← hW9]; exact hb8.alloc hb8.size _
    have r9 : W9.heap[w8.heap.size]? = some (.cells (cel (sAttest V1)) 33) := by rw [← hW9]; exact heap_new rfl
    obtain ⟨b9, eb9⟩ : ∃ b, w8.heap.size = b := ⟨_, rfl⟩
    rw [eb9] at r9 ⊢
    have l := lvAttest_mid (x := V1) r9 0 (take_all _) rfl
    have S9 := hid (S7.out.trans (k9.mono S7.out.size))
    have A9 := hid (A7.out.trans (k9.mono A7.out.size))
    have HEN8 := hid (hen8 W9 (by rw [← hW9]; exact (Below.refl _ _).alloc (Nat.le_refl _) _))
    clear hb8 r9 eb9 hW9 k9 sv z hen8
    go_upto_region 12 with (go_at_call 8; refine HEN8.out.mono ?_; rintro e w10 ⟨a10, k10, rfl, hr10, hb10⟩)
    have S10 := hid (S9.out.trans (hb10.mono S9.out.size))
    have cv1 := Z.conv_bys w10 a10 L k10 _ hr10
    have cv2 := Z.conv_bys w10 a5 L k5 _ (R5.out.below (A9.out.trans (hb10.mono A9.out.size)))
    rw [HES.out] at cv1
    rw [HES.out] at cv2
    clear l hb10 hr10
    go_upto_region 14 with fail
    clear cv1 cv2
    go_upto_region 15 with (first
      | (at_builtin; refine wpList_append_byte w11 rfl _ _ rfl w10.heap.size v11 len (aft m len 7) 7 rfl HO11.out rfl (aft_at m len 7) (by omega) (by have := HB11.out.size; omega) ?_; intro g C w12 ho12 hg12; have HO12 := hid ho12; have HB12 := hid (below_grown HB11.out HO11.out HB11.out.size hg12); have sl := sl7 w12 g 0 (len + 1) C len (by have := (own_cells ho12).2.2.1; omega); clear ho12 hg12)
      | (at_builtin; refine wpList_append_bys _ rfl _ _ rfl w10.heap.size _ 0 [] rfl (empty7 w10 (Nat.le_refl _)) ao len cap m rfl (HBY.out _ (S10.out.alloc S10.out.size _)) (by omega) (by simp) ?_; intro v11 w11 ho11 hg11; rw [Nat.zero_add, List.nil_append, bl_congr (fun q hq => (aft_lt (m := m) (z := 7) hq).symm)] at ho11; have HO11 := hid ho11; have HB11 := hid (below_grown ((Below.refl w10.heap.size w10).alloc (Nat.le_refl _) (.cells #[] 5)) (empty7 w10 (Nat.le_refl _)) (by simp) hg11); clear ho11 hg11))
    obtain ⟨oc1, oc2, oc3, oc4, oc5⟩ := own_cells HO12.out
    have S12 := hid (S10.out.trans (HB12.out.mono S10.out.size))
    have HMB : Hid (∀ X, Below w12.heap.size w12 X → Bys X (some ⟨g, 0, none⟩) len C m ∧ X.cell? ⟨g, len, none⟩ = some (.int .u8 7)) := fun X h => by
      refine ⟨.inr (.inr ⟨g, 0, rfl, by omega, oc4, Nat.lt_of_lt_of_le oc2 h.size, fun j hj => ?_⟩), ?_⟩
      · rw [Nat.zero_add, below_cell h oc2, oc5 j (by omega), aft_lt hj]
      · rw [below_cell h oc2, oc5 len (by omega), ← aft_at]
    have hC1 : len ≤ C := by omega
    have hC2 : len + 1 ≤ C := oc3
    have HC4 := hid oc4
    clear sl oc1 oc2 oc3 oc4 oc5
    have sv := fun W v => svAttest_newv W oAttest v
    have z := zeroAttest
    go_upto_region 16 with (go_at_call 10; refine (HRD.out _ _ C (HMB.out _ (Below.refl _ _)).1 hC1 HC4.out).mono ?_; rintro e w13 ⟨V, rfl, hb13, hen13⟩)
    obtain ⟨W14, hW14⟩ : ∃ W, w13.alloc (.cells (cel (sAttest V)) 33) = W := ⟨_, rfl⟩
    rw [hW14]
    have k14 : Below w12.heap.size w12 W14 := by rw [← hW14]; exact hb13.alloc hb13.size _
    have r14 : W14.heap[w13.heap.size]? = some (.cells (cel (sAttest V)) 33) := by rw [← hW14]; exact heap_new rfl
    obtain ⟨by1, eby⟩ : ∃ b, w13.heap.size = b := ⟨_, rfl⟩
    rw [eby] at r14 ⊢
    have S14 := hid (S12.out.trans (k14.mono S12.out.size))
    have K14 := hid k14
    have R14 := hid r14
    have HEN13 := hid hen13
    have KE13 : Hid (Below w13.heap.size w13 W14) := by rw [← hW14]; exact (Below.refl _ _).alloc (Nat.le_refl _) _
    clear hb13 hW14 k14 r14 eby hen13
    go_upto_region 17 with (go_at_call 11; refine (HRRD.out _ ao cap (HBY.out _ S14.out) hlc hcap).mono ?_; rintro e w15 ⟨U, rfl, hb15, hen15⟩)
    obtain ⟨W16, hW16⟩ : ∃ W, w15.alloc (.cells (cel (sAttest U)) 33) = W := ⟨_, rfl⟩
    rw [hW16]
    have k16 : Below W14.heap.size W14 W16 := by rw [← hW16]; exact hb15.alloc hb15.size _
    have r16 : W16.heap[w15.heap.size]? = some (.cells (cel (sAttest U)) 33) := by rw [← hW16]; exact heap_new rfl
    have q16 := (k16.block by1 (Array.getElem?_eq_some_iff.1 R14.out).1).trans R14.out
    obtain ⟨bz, ebz⟩ : ∃ b, w15.heap.size = b := ⟨_, rfl⟩
    rw [ebz] at r16 ⊢
    have S16 := hid (S14.out.trans (k16.mono S14.out.size))
    have K16 := hid (K14.out.trans (k16.mono K14.out.size))
    have R16 := hid r16
    have l := lvAttest_mid (x := V) q16 0 (take_all _) rfl
    have HEN15 := hid hen15
    replace KE13 := hid (KE13.out.trans (k16.mono KE13.out.size))
    have KE15 : Hid (Below w15.heap.size w15 W16) := by rw [← hW16]; exact (Below.refl _ _).alloc (Nat.le_refl _) _
    clear hb15 hW16 k16 r16 ebz q16 sv z hen15
    go_upto_region 18 with (go_at_call 8; refine (HEN13.out _ KE13.out).mono ?_; rintro e w17 ⟨a17, k17, rfl, hr17, hb17⟩)
    have S17 := hid (S16.out.trans (hb17.mono S16.out.size))
    have K17 := hid (K16.out.trans (hb17.mono K16.out.size))
    replace KE15 := hid (KE15.out.trans (hb17.mono KE15.out.size))
    have q17 := (hb17.block bz (Array.getElem?_eq_some_iff.1 R16.out).1).trans R16.out
    have R17 := hid hr17
    clear l hb17 hr17
    have l := lvAttest_mid (x := U) q17 0 (take_all _) rfl
    clear q17
    go_upto_region 19 with (go_at_call 8; refine (HEN15.out _ KE15.out).mono ?_; rintro e w18 ⟨a18, k18, rfl, hr18, hb18⟩)
    have S18 := hid (S17.out.trans (hb18.mono S17.out.size))
    have K18 := hid (K17.out.trans (hb18.mono K17.out.size))
    have cv1 := Z.conv_bys w18 a17 L2 k17 _ (R17.out.below hb18)
    have cv2 := Z.conv_bys w18 a18 L2 k18 _ hr18
    have cv3 := Z.conv_bys w18 _ len C _ (HMB.out _ K18.out).1
    have cv4 := Z.conv_bys w18 _ len cap _ (HBY.out _ S18.out)
    rw [HES2.out] at cv1 cv2
    rw [HESB.out] at cv3 cv4
    have c7 := (HMB.out _ K18.out).2
    have sl := sl7 w18 g 0 len C (len + 1) hC2
    have bq2 : decide (len < len + 1) = true := by simp
    have ew : ((len + 1 : Nat) : Int) = (len : Int) + 1 := by omega
    rw [ew] at sl
    clear l hb18 hr18 ew
    go_upto_region 21 with fail
    clear cv2 cv3 sl c7
    by_cases hE : E = 0
    · subst hE
      obtain rfl := HSB.out rfl
      go_wp2
      go_ret
      exact ⟨rfl, HB0.out.trans (S18.out.mono HB0.out.size)⟩
    · have e0 : (E != 0) = true := by rw [bne_iff_ne]; exact hE
      clear hE cv1 cv4
      go_wp2
      go_ret
      exact ⟨rfl, HB0.out.trans (S18.out.mono HB0.out.size)⟩
  · have g0 : (G == 0) = false := by simpa using hG
    clear HRE HRO HRR HE hG
    go_upto_region 14 with fail
    clear l1 l2 cv1 cv2 qn g0
    go_upto_region 15 with (first
      | (at_builtin; refine wpList_append_byte w11 rfl _ _ rfl W7.heap.size v11 len (aft m len 7) 7 rfl HO11.out rfl (aft_at m len 7) (by omega) (by have := HB11.out.size; omega) ?_; intro g C w12 ho12 hg12; have HO12 := hid ho12; have HB12 := hid (below_grown HB11.out HO11.out HB11.out.size hg12); have sl := sl7 w12 g 0 (len + 1) C len (by have := (own_cells ho12).2.2.1; omega); clear ho12 hg12)
      | (at_builtin; refine wpList_append_bys _ rfl _ _ rfl W7.heap.size _ 0 [] rfl (empty7 W7 (Nat.le_refl _)) ao len cap m rfl (HBY.out _ (S7.out.alloc S7.out.size _)) (by omega) (by simp) ?_; intro v11 w11 ho11 hg11; rw [Nat.zero_add, List.nil_append, bl_congr (fun q hq => (aft_lt (m := m) (z := 7) hq).symm)] at ho11; have HO11 := hid ho11; have HB11 := hid (below_grown ((Below.refl W7.heap.size W7).alloc (Nat.le_refl _) (.cells #[] 5)) (empty7 W7 (Nat.le_refl _)) (by simp) hg11); clear ho11 hg11))
    obtain ⟨oc1, oc2, oc3, oc4, oc5⟩ := own_cells HO12.out
    have S12 := hid (S7.out.trans (HB12.out.mono S7.out.size))
    have HMB : Hid (∀ X, Below w12.heap.size w12 X → Bys X (some ⟨g, 0, none⟩) len C m ∧ X.cell? ⟨g, len, none⟩ = some (.int .u8 7)) := fun X h => by
      refine ⟨.inr (.inr ⟨g, 0, rfl, by omega, oc4, Nat.lt_of_lt_of_le oc2 h.size, fun j hj => ?_⟩), ?_⟩
      · rw [Nat.zero_add, below_cell h oc2, oc5 j (by omega), aft_lt hj]
      · rw [below_cell h oc2, oc5 len (by omega), ← aft_at]
    have hC1 : len ≤ C := by omega
    have hC2 : len + 1 ≤ C := oc3
    have HC4 := hid oc4
    clear sl oc1 oc2 oc3 oc4 oc5
    have sv := fun W v => svAttest_newv W oAttest v
    have z := zeroAttest
    go_upto_region 16 with (go_at_call 10; refine (HRD.out _ _ C (HMB.out _ (Below.refl _ _)).1 hC1 HC4.out).mono ?_; rintro e w13 ⟨V, rfl, hb13, hen13⟩)
    obtain ⟨W14, hW14⟩ : ∃ W, w13.alloc (.cells (cel (sAttest V)) 33) = W := ⟨_, rfl⟩
    rw [hW14]
    have k14 : Below w12.heap.size w12 W14 := by rw [← hW14]; exact hb13.alloc hb13.size _
    have r14 : W14.heap[w13.heap.size]? = some (.cells (cel (sAttest V)) 33) := by rw [← hW14]; exact heap_new rfl
    obtain ⟨by1, eby⟩ : ∃ b, w13.heap.size = b := ⟨_, rfl⟩
    rw [eby] at r14 ⊢
    have S14 := hid (S12.out.trans (k14.mono S12.out.size))
    have K14 := hid k14
    have R14 := hid r14
    have HEN13 := hid hen13
    have KE13 : Hid (Below w13.heap.size w13 W14) := by rw [← hW14]; exact (Below.refl _ _).alloc (Nat.le_refl _) _
    clear hb13 hW14 k14 r14 eby hen13
    go_upto_region 17 with (go_at_call 11; refine (HRRD.out _ ao cap (HBY.out _ S14.out) hlc hcap).mono ?_; rintro e w15 ⟨U, rfl, hb15, hen15⟩)
    obtain ⟨W16, hW16⟩ : ∃ W, w15.alloc (.cells (cel (sAttest U)) 33) = W := ⟨_, rfl⟩
    rw [hW16]
    have k16 : Below W14.heap.size W14 W16 := by rw [← hW16]; exact hb15.alloc hb15.size _
    have r16 : W16.heap[w15.heap.size]? = some (.cells (cel (sAttest U)) 33) := by rw [← hW16]; exact heap_new rfl
    have q16 := (k16.block by1 (Array.getElem?_eq_some_iff.1 R14.out).1).trans R14.out
    obtain ⟨bz, ebz⟩ : ∃ b, w15.heap.size = b := ⟨_, rfl⟩
    rw [ebz] at r16 ⊢
    have S16 := hid (S14.out.trans (k16.mono S14.out.size))
    have K16 := hid (K14.out.trans (k16.mono K14.out.size))
    have R16 := hid r16
    have l := lvAttest_mid (x := V) q16 0 (take_all _) rfl
    have HEN15 := hid hen15
    replace KE13 := hid (KE13.out.trans (k16.mono KE13.out.size))
    have KE15 : Hid (Below w15.heap.size w15 W16) := by rw [← hW16]; exact (Below.refl _ _).alloc (Nat.le_refl _) _
    clear hb15 hW16 k16 r16 ebz q16 sv z hen15
    go_upto_region 18 with (go_at_call 8; refine (HEN13.out _ KE13.out).mono ?_; rintro e w17 ⟨a17, k17, rfl, hr17, hb17⟩)
    have S17 := hid (S16.out.trans (hb17.mono S16.out.size))
    have K17 := hid (K16.out.trans (hb17.mono K16.out.size))
    replace KE15 := hid (KE15.out.trans (hb17.mono KE15.out.size))
    have q17 := (hb17.block bz (Array.getElem?_eq_some_iff.1 R16.out).1).trans R16.out
    have R17 := hid hr17
    clear l hb17 hr17
    have l := lvAttest_mid (x := U) q17 0 (take_all _) rfl
    clear q17
    go_upto_region 19 with (go_at_call 8; refine (HEN15.out _ KE15.out).mono ?_; rintro e w18 ⟨a18, k18, rfl, hr18, hb18⟩)
    have S18 := hid (S17.out.trans (hb18.mono S17.out.size))
    have K18 := hid (K17.out.trans (hb18.mono K17.out.size))
    have cv1 := Z.conv_bys w18 a17 L2 k17 _ (R17.out.below hb18)
    have cv2 := Z.conv_bys w18 a18 L2 k18 _ hr18
    have cv3 := Z.conv_bys w18 _ len C _ (HMB.out _ K18.out).1
    have cv4 := Z.conv_bys w18 _ len cap _ (HBY.out _ S18.out)
    rw [HES2.out] at cv1 cv2
    rw [HESB.out] at cv3 cv4
    have c7 := (HMB.out _ K18.out).2
    have sl := sl7 w18 g 0 len C (len + 1) hC2
    have bq2 : decide (len < len + 1) = true := by simp
    have ew : ((len + 1 : Nat) : Int) = (len : Int) + 1 := by omega
    rw [ew] at sl
    clear l hb18 hr18 ew
    go_upto_region 21 with fail
    clear cv2 cv3 sl c7
    by_cases hE : E = 0
    · subst hE
      obtain rfl := HSB.out rfl
      go_wp2
      go_ret
      exact ⟨rfl, HB0.out.trans (S18.out.mono HB0.out.size)⟩
    · have e0 : (E != 0) = true := by rw [bne_iff_ne]; exact hE
      clear hE cv1 cv4
      go_wp2
      go_ret
      exact ⟨rfl, HB0.out.trans (S18.out.mono HB0.out.size)⟩

end Go.Proofs.YtokbhcgooboocaaGreatDoor
