/-
  What the reference's Question answers; what the program's functions of layer 16 have to answer; the statements' own awake.
-/

import Derived.Test.YtmpagacbmoeipaaDoorSgC
import Derived.Test.YtmpagacbmoeipaaDoorPkG
namespace Go.Proofs.YtmpagacbmoeipaaDoor

open Go.RowKit

set_option linter.unusedVariables false

set_option linter.unusedSimpArgs false

set_option maxRecDepth 20000

theorem ap_rowL (W : World) (B : Nat) (v : Value) (n k cp b : Nat) (m c : Nat → Int) (ho : W.ownsRow B 5 1 v n (bl m n)) (hb : ∀ j, j < k → W.cell? ⟨b, j, none⟩ = some (.int .u8 (c j))) (hm : ∀ j, j < k → m (n + j) = c j) (hB : B ≤ W.heap.size) (hn : n + k ≤ 140737488353280) (hk0 : 0 < k) (ty : TypeId) :
    ∃ g' C' w', (ap22 ty v (.slice (some ⟨b, 0, none⟩) k cp)).run Tryd.prog W = .ok (.slice (some ⟨g', 0, none⟩) (n + k) C') w' ∧ w'.ownsRow B 5 1 (.slice (some ⟨g', 0, none⟩) (n + k) C') (n + k) (bl m (n + k)) ∧ Below B W w' := by
  obtain ⟨i, hi, hz0, hz1, hz2⟩ := info_parts info8
  obtain ⟨v', w', hr, ho', hg, _⟩ := run_append_own_at (P := Tryd.prog) W B 39 ty 5 i (.int .u8 0) 1 1 Tryd.underlying39 hi hz0 hz1 hz2 rfl (by decide) v n (bl m n) ho ⟨b, 0, none⟩ k cp (bl c k) (by rw [bl_len, Nat.mul_one])
    (fun j u hj => by
      obtain ⟨h1, rfl⟩ := bl_get c k j u hj
      rw [addr_add, Nat.zero_add]
      exact hb j h1) (bl_one c k) (by unfold maxLen; omega) (by omega) hB
  rw [bl_add' m c n k hm] at ho'
  obtain ⟨g', C', rfl⟩ := owns_pos ho' (by omega)
  exact ⟨g', C', w', hr, ho', below_grown (Below.refl _ _) ho hB hg⟩

theorem qs_one (f r s : Nat → Int) (n j : Nat) (h : j < 48 * n) : qsF f n r s j = f j := by unfold qsF; rw [if_pos h]

theorem qs_two (f r s : Nat → Int) (n j : Nat) (h : j < 32) : qsF f n r s (48 * n + j) = r j := by unfold qsF; rw [if_neg (by omega), if_pos (by omega), show 48 * n + j - 48 * n = j by omega]

theorem qs_three (f r s : Nat → Int) (n j : Nat) : qsF f n r s (48 * n + 32 + j) = s j := by unfold qsF; rw [if_neg (by omega), if_neg (by omega), show 48 * n + 32 + j - (48 * n + 32) = j by omega]

attribute [local go_sem ↓] ixKy_eq lvKy_eq svKy_eq sv24_eq lv24_eq bdRo_eq bs22_eq

set_option maxHeartbeats 4000000 in
theorem rQuestion_any (a : Option Addr) (n cap : Nat) (f r s : Nat → Int) (w : World) (hk : Kys w a n cap f) (hf : ∀ j, j < 48 * n → 0 ≤ f j ∧ f j < 256) (hr : ∀ j, j < 32 → 0 ≤ r j ∧ r j < 256) (hs : ∀ j, j < 96 → 0 ≤ s j ∧ s j < 256) (hn : 48 * n ≤ 140737488351232) (hC : Tab w 2 64 KW) :
    Calls Tryd.prog 18 #[.slice a n cap, .agg (vs .u8 32 r), .agg (vs .u8 96 s)] w fun e' w' => e' = .returned (.agg (vs .u8 32 (qsV f n r s))) ∧ Below w.heap.size w w' := by
  obtain ⟨W0, hW0⟩ : ∃ W, ((w.alloc (.cells (vs .u8 32 r) 24)).alloc (.cells (vs .u8 96 s) 56)).alloc (.cells (vs .u8 32 fun _ => 0) 24) = W := ⟨_, rfl⟩
  have r0 : W0.heap[w.heap.size]? = some (.cells (vs .u8 32 r) 24) := by rw [← hW0]; exact (heap_old (by simp <;> omega)).trans ((heap_old (by simp)).trans (heap_new rfl))
  have r1 : W0.heap[w.heap.size + 1]? = some (.cells (vs .u8 96 s) 56) := by rw [← hW0]; exact (heap_old (by simp)).trans (heap_new (by simp))
  have r2 : W0.heap[w.heap.size + 2]? = some (.cells (vs .u8 32 fun _ => 0) 24) := by rw [← hW0]; exact heap_new (by simp)
  have hB0 : Below w.heap.size w W0 := by rw [← hW0]; exact (((Below.refl _ _).alloc (Nat.le_refl _) _).alloc (by simp) _).alloc (by simp <;> omega) _
  have z2 : w.heap.size + 2 < W0.heap.size := some_ltK r2
  have hk0 := hk.below hB0
  have hC0 := hC.below hB0
  have zr := zero_root
  have hap1 : ∀ (W : World) v, Below W0.heap.size W0 W → W.ownsRow W0.heap.size 5 1 v (48 * n) (bl (qsF f n r s) (48 * n)) → ∀ ty : TypeId, ∃ g C w', (ap22 ty v (.slice (some ⟨w.heap.size, 0, none⟩) 32 32)).run Tryd.prog W = .ok (.slice (some ⟨g, 0, none⟩) (48 * n + 32) C) w' ∧ w'.ownsRow W0.heap.size 5 1 (.slice (some ⟨g, 0, none⟩) (48 * n + 32) C) (48 * n + 32) (bl (qsF f n r s) (48 * n + 32)) ∧ Below W0.heap.size W0 w' := fun W v h ho ty => by
    obtain ⟨g, C, w', h1, h2, h3⟩ := ap_rowL W W0.heap.size v (48 * n) 32 32 w.heap.size (qsF f n r s) r ho (fun j hj => row_int ((h.block _ (by omega)).trans r0) j hj) (fun j hj => qs_two f r s n j hj) h.size (by omega) (by omega) ty
    exact ⟨g, C, w', h1, h2, h.trans h3⟩
  have hap2 : ∀ (W : World) g C, Below W0.heap.size W0 W → W.ownsRow W0.heap.size 5 1 (.slice (some ⟨g, 0, none⟩) (48 * n + 32) C) (48 * n + 32) (bl (qsF f n r s) (48 * n + 32)) → ∀ ty : TypeId, ∃ g' C' w', (ap22 ty (.slice (some ⟨g, 0, none⟩) (48 * n + 32) C) (.slice (some ⟨w.heap.size + 1, 0, none⟩) 96 96)).run Tryd.prog W = .ok (.slice (some ⟨g', 0, none⟩) (48 * n + 128) C') w' ∧ w'.ownsRow W0.heap.size 5 1 (.slice (some ⟨g', 0, none⟩) (48 * n + 128) C') (48 * n + 128) (bl (qsF f n r s) (48 * n + 128)) ∧ Below W0.heap.size W0 w' := fun W g C h ho ty => by
    obtain ⟨g', C', w', h1, h2, h3⟩ := ap_rowL W W0.heap.size _ (48 * n + 32) 96 96 (w.heap.size + 1) (qsF f n r s) s ho (fun j hj => row_int ((h.block _ (by omega)).trans r1) j hj) (fun j hj => qs_three f r s n j) h.size (by omega) (by omega) ty
    exact ⟨g', C', w', h1, h2, h.trans h3⟩
  have hsu : ∀ (W : World) g C, Below W0.heap.size W0 W → W.ownsRow W0.heap.size 5 1 (.slice (some ⟨g, 0, none⟩) (48 * n + 128) C) (48 * n + 128) (bl (qsF f n r s) (48 * n + 128)) → Calls Tryd.prog 37 #[.slice (some ⟨g, 0, none⟩) (48 * n + 128) C] W fun e w' => e = .returned (.agg (vs .u8 32 (qsV f n r s))) ∧ Below W.heap.size W w' := fun W g C h ho => refsum_wide KW (qsF f n r s) (some ⟨g, 0, none⟩) (48 * n + 128) C W (hC0.below h) (own_byF ho) (qsF_bd hf hr hs) (by omega)
  have hq1 := qs_one f r s n
  generalize qsV f n r s = X at hsu ⊢
  generalize qsF f n r s = QF at hap1 hap2 hsu hq1
  have HB := hid hB0
  have HW := hid hW0
  have HK := hid hk0
  have HAP1 := hid hap1
  have HAP2 := hid hap2
  have HSU := hid hsu
  have HR2 := hid r2
  have HQ1 := hid hq1
  clear hB0 hW0 hk0 hk hap1 hap2 hsu hC hC0 hf hr hs r0 r1 r2 hq1
  go_enter Tryd.func18, Tryd.ntmps18
  go_upto_region 1 with fail
  rw [HW.out]
  clear HW zr
  go_wp2
  go_loopg [7, 8] n (fun k v c wr => ∃ (i : Nat) (v' : Value), v = v' ∧ c = .int .i64 i ∧ i ≤ n ∧ n - i ≤ k ∧ wr.ownsRow W0.heap.size 5 1 v' (48 * i) (bl f (48 * i)) ∧ Below W0.heap.size W0 wr)
  case atStart => exact ⟨0, _, rfl, rfl, by omega, by omega, World.ownsRow_nil _ _ _ _, Below.refl _ _⟩
  case round =>
    obtain ⟨i, v, ev, rfl, hi, hk, ho, hw⟩ := hrel
    obtain rfl := ev.symm
    clear ev
    by_cases hin : i < n
    · have h1 : (i : Int) < (n : Int) := by omega
      rcases HK.out.below hw with ⟨_, h0, _⟩ | ⟨_, _, h0⟩ | ⟨b, off, ea, hlc, hbl, hc⟩
      · omega
      · omega
      subst ea
      have ix := fun W => ixKy_run W b off n cap i hin
      have hby : Bys wr (some ⟨b, off + 48 * i, none⟩) 48 48 (fun j => f (48 * i + j)) := .inr (.inr ⟨b, off + 48 * i, rfl, by omega, by omega, hbl, fun j hj => by rw [Nat.add_assoc]; exact hc (48 * i + j) (by omega)⟩)
      have HO := hid ho
      have HWW := hid hw
      have HBY := hid hby
      clear ho hw hby hc hbl
      obtain ⟨P, eP⟩ : ∃ P, off + 48 * i = P := ⟨_, rfl⟩
      rw [eP] at HBY
      simp only [eP] at ix
      go_wp2_with (at_builtin; (refine wpList_append_bys wr rfl _ _ rfl W0.heap.size v (48 * i) (bl f (48 * i)) rfl HO.out (some ⟨b, P, none⟩) 48 48 _ rfl HBY.out (by omega) HWW.out.size ?_); intro v2 w2 ho2 hg2)
      have hb2 := below_grown HWW.out HO.out HWW.out.size hg2
      rw [bl_add' f _ (48 * i) 48 (fun j _ => rfl)] at ho2
      go_roundg (n - (i + 1))
      case measure => omega
      case rel => exact ⟨i + 1, _, rfl, by simp, by omega, Nat.le_refl _, by rw [show 48 * (i + 1) = 48 * i + 48 by omega]; exact ho2, hb2⟩
    · obtain rfl : i = n := by omega
      have ho' := ho
      rw [blCongr (m := f) (m' := QF) (fun j hj => (HQ1.out j hj).symm)] at ho'
      have hdr : Below W0.heap.size W0 wr.drew := hw.drew
      have hod : wr.drew.ownsRow W0.heap.size 5 1 v (48 * i) (bl QF (48 * i)) := own_below ho' (Below.refl _ _).drew
      have HDR := hid hdr
      have HOD := hid hod
      have hap := HAP1.out
      clear HAP1
      have HAP1 := hid (fun (W : World) h ho ty => hap W v h ho ty)
      clear hap hdr hod ho ho' hw HK HQ1 hk
      go_upto_region 6 with fail
      refine wp_region_noPanic ?_
      refine wp_region_held_drew (S := fun _ => True) (by kernel_rfl) (trivial) (fun hHeld => ?_)
      refine tk 0 (v := ?v901) ?y901 hHeld ?r901
      case y901 => intro w hSw; go_simp; try with_reducible rfl
      refine tk 1 (v := ?v902) ?y902 hHeld ?r902
      case y902 => intro w hSw; go_simp; try with_reducible rfl
      refine tk 3 (v := ?v903) ?y903 hHeld ?r903
      case y903 => intro w hSw; go_simp; try with_reducible rfl
      try simp only [Act.put, List.setIfInBounds_toArray, List.set_cons_zero, List.set_cons_succ, Array.toArray_toList, List.getElem_toArray, List.getElem_cons_zero, List.getElem_cons_succ]
      refine wpAnyH_ready (rs := [2]) (by kernel_rfl) (by simp) ?_
      refine AllReadyH.cons rfl (fun K hK => ?_) AllReadyH.nil
      obtain ⟨g1, C1, x1, hp1, ho1, hc1⟩ := HAP1.out _ HDR.out HOD.out 39
      refine wp_append_is _ _ rfl _ _ _ _ rfl rfl hp1 ?_
      refine hK.out _ _ (trivial) (fun hHeld => ?_)
      clear hK K
      try simp only [Act.put, List.setIfInBounds_toArray, List.set_cons_zero, List.set_cons_succ, Array.toArray_toList, List.getElem_toArray, List.getElem_cons_zero, List.getElem_cons_succ]
      refine wpAnyH_ready (rs := [4]) (by kernel_rfl) (by simp) ?_
      refine AllReadyH.cons rfl (fun K hK => ?_) AllReadyH.nil
      obtain ⟨g2, C2, x2, hp2, ho2, hc2⟩ := HAP2.out x1 g1 C1 hc1 ho1 39
      refine wp_append_is _ _ rfl _ _ _ _ rfl rfl hp2 ?_
      refine hK.out _ _ (trivial) (fun hHeld => ?_)
      clear hK K
      try simp only [Act.put, List.setIfInBounds_toArray, List.set_cons_zero, List.set_cons_succ, Array.toArray_toList, List.getElem_toArray, List.getElem_cons_zero, List.getElem_cons_succ]
      refine wpAnyH_ready (rs := [5]) (by kernel_rfl) (by simp) ?_
      refine AllReadyH.cons rfl (fun K hK => ?_) AllReadyH.nil
      go_simp
      refine (HSU.out x2 g2 C2 hc2 ho2).mono ?_
      rintro e' x3 ⟨rfl, hd3⟩
      dsimp only
      have hc3 : Below W0.heap.size W0 x3 := hc2.trans (hd3.mono hc2.size)
      refine hK.out _ _ (trivial) (fun hHeld => ?_)
      clear hK K
      try simp only [Act.put, List.setIfInBounds_toArray, List.set_cons_zero, List.set_cons_succ, Array.toArray_toList, List.getElem_toArray, List.getElem_cons_zero, List.getElem_cons_succ]
      refine wpAnyH_ready (rs := [6]) (by kernel_rfl) (by simp) ?_
      refine AllReadyH.cons rfl (fun K hK => ?_) AllReadyH.nil
      have r4 := (hc3.block _ z2).trans HR2.out
      have v3 := sv24_run r4 X
      go_simp
      refine hK.out _ _ (trivial) (fun hHeld => ?_)
      clear hK K
      try simp only [Act.put, List.setIfInBounds_toArray, List.set_cons_zero, List.set_cons_succ, Array.toArray_toList, List.getElem_toArray, List.getElem_cons_zero, List.getElem_cons_succ]
      refine wpAnyH_done (by kernel_rfl) ?_ _
      refine NoPanic.normal ?_
      go_wp2
      exact ret24 6 (w.heap.size + 2) X 24 rfl rfl rfl (setRow_at r4) ⟨rfl, below_row (HB.out.trans (hc3.mono HB.out.size)) (by omega) _⟩

/-- A byte of a root by its value. -/
def ixRo (x i : Value) : Sem Value := Instr.index 24 x i

theorem ixRo_eq (x i : Value) : Instr.index 24 x i = ixRo x i := rfl

theorem ixRo_0 (c : Nat → Int) (W : World) : (ixRo (.agg (vs .u8 32 c)) (.int .i64 0)).run Tryd.prog W = .ok (.int .u8 (c 0)) W := by kernel_rfl

attribute [local go_sem ↓] ixRo_eq

/-- What the program's functions have to answer. -/
def PDom : Prop := ∀ (x : VState) (k e : Int) (w : World), OkState x → -9223372036854775808 ≤ k → k ≤ 9223372036854775807 → 0 ≤ e → e < 18446744073709551616 → Sh w → Calls Tryd.prog 9 #[.agg (cel (sState x)), .int .i64 k, .int .u64 e] w fun e' w' => e' = .returned (.agg (vs .u8 32 (domV x k e))) ∧ Below w.heap.size w w'

def PDep : Prop := ∀ w : World, Sh w → Calls Tryd.prog 11 #[] w fun e' w' => e' = .returned (.agg (vs .u8 32 depV)) ∧ Below w.heap.size w w'

def PRoo : Prop := ∀ (a b : Nat → Int) (w : World), (∀ j, j < 32 → 0 ≤ a j ∧ a j < 256) → (∀ j, j < 32 → 0 ≤ b j ∧ b j < 256) → Sh w → Calls Tryd.prog 13 #[.agg (vs .u8 32 a), .agg (vs .u8 32 b)] w fun e' w' => e' = .returned (.agg (vs .u8 32 (tw a b))) ∧ Below w.heap.size w w'

def PMsg : Prop := ∀ (d : VDepositData) (w : World), OkDepositData d → Sh w → Calls Tryd.prog 15 #[.agg (cel (sDepositData d))] w fun e' w' => e' = .returned (.agg (vs .u8 32 (msV d))) ∧ Below w.heap.size w w'

def PQue : Prop := ∀ (a : Option Addr) (n cap : Nat) (f r s : Nat → Int) (w : World), Kys w a n cap f → (∀ j, j < 48 * n → 0 ≤ f j ∧ f j < 256) → (∀ j, j < 32 → 0 ≤ r j ∧ r j < 256) → (∀ j, j < 96 → 0 ≤ s j ∧ s j < 256) → 48 * n ≤ 140737488351232 → Sh w → Calls Tryd.prog 17 #[.slice a n cap, .agg (vs .u8 32 r), .agg (vs .u8 96 s)] w fun e' w' => e' = .returned (.agg (vs .u8 32 (qsV f n r s))) ∧ Below w.heap.size w w'

def PGoo : Prop := ∀ (q f : Nat → Int) (a : Option Addr) (n cap : Nat) (w : World), Rts w a n cap f → n ≤ 9223372036854775807 → Calls Tryd.prog 19 #[.agg (vs .u8 32 q), .slice a n cap] w fun e' w' => e' = .returned (.bool (gdB q f n)) ∧ Below w.heap.size w w'

theorem dep_0 : depV 0 = 3 := by
  unfold depV dmV
  rw [if_pos (by omega)]
  rfl

theorem zr_one : zr 1 = tw (zr 0) (zr 0) := rfl

theorem zr_zero : zr 0 = fun _ => 0 := rfl

theorem tw_zero : tw (fun _ => 0) (fun _ => 0) 0 = 245 := by
  have h := zr1_0
  rw [zr_one, zr_zero] at h
  exact h

theorem dep_4 : depV 4 = 245 := by
  have e : pk (fun _ => 0) 4 = fun _ => 0 := funext fun q => by unfold pk; rw [ite_self]
  unfold depV dmV
  rw [if_neg (by omega), e, Nat.sub_self]
  exact tw_zero

theorem gd_self (q : Nat → Int) : gdB q q 1 = false := by
  have h : eqR (rt32 q 0) q = true := by rw [rt32_0]; exact eqR_self q
  rw [gdB_succ, h]
  rfl

set_option maxHeartbeats 4000000 in
theorem awake16 (pD : PDep) (pR : PRoo) (pG : PGoo) (w : World) (hS : Sh w) :
    Calls Tryd.prog 7 #[] w fun e' w' => e' = .returned (.bool true) ∧ Below w.heap.size w w' := by
  have hd := pD w hS
  have hg0 : ∀ W : World, Calls Tryd.prog 19 #[.agg (vs .u8 32 depV), .slice none 0 0] W fun e' w' => e' = .returned (.bool true) ∧ Below W.heap.size W w' := fun W => pG depV (fun _ => 0) none 0 0 W (.inl ⟨rfl, rfl, rfl⟩) (by omega)
  have hg1 : ∀ (W : World) y, W.heap[y]? = some (.cells (vs .u8 32 depV) 24) → Calls Tryd.prog 19 #[.agg (vs .u8 32 depV), .slice (some ⟨y, 0, none⟩) 1 1] W fun e' w' => e' = .returned (.bool false) ∧ Below W.heap.size W w' := fun W y h => by
    have := pG depV depV (some ⟨y, 0, none⟩) 1 1 W (.inr (.inr ⟨y, 0, rfl, by omega, some_ltK h, fun j hj => by rw [Nat.zero_add]; exact row_int h j hj⟩)) (by omega)
    rw [gd_self] at this
    exact this
  have hro : ∀ W : World, Below w.heap.size w W → Calls Tryd.prog 13 #[.agg (vs .u8 32 fun _ => 0), .agg (vs .u8 32 fun _ => 0)] W fun e' w' => e' = .returned (.agg (vs .u8 32 (tw (fun _ => 0) (fun _ => 0)))) ∧ Below W.heap.size W w' := fun W h => pR _ _ W (fun _ _ => by omega) (fun _ _ => by omega) (hS.below h)
  have b1 := bdRo_0
  have bs := fun W => bs22_1 W depV
  have zr := zero_root
  have v1 := fun W => sv24_newv W (fun _ => 0) depV
  have t0 := tw_zero
  have d0 := dep_0
  have d4 := dep_4
  generalize tw (fun _ => 0) (fun _ => 0) = TZ at hro t0
  generalize depV = DV at hd hg0 hg1 bs v1 d0 d4
  have HD := hid hd
  have HG0 := hid hg0
  have HG1 := hid hg1
  have HRO := hid hro
  have D0 := hid d0
  have D4 := hid d4
  have T0 := hid t0
  clear hd hg0 hg1 hro hS pD pR pG d0 d4 t0
  go_enter Tryd.func7, Tryd.ntmps7
  go_upto_region 2 with (go_at_call 11; refine HD.out.mono ?_; rintro e' w1 ⟨rfl, hb1⟩)
  obtain ⟨W2, hW2⟩ : ∃ W, w1.alloc (.cells (vs .u8 32 DV) 24) = W := ⟨_, rfl⟩
  rw [hW2]
  have r2 : W2.heap[w1.heap.size]? = some (.cells (vs .u8 32 DV) 24) := by rw [← hW2]; exact heap_new rfl
  have hE2 : Below w.heap.size w W2 := by rw [← hW2]; exact hb1.alloc hb1.size _
  obtain ⟨y, ey⟩ : ∃ y, w1.heap.size = y := ⟨_, rfl⟩
  rw [ey] at r2 ⊢
  have c0 := row_int r2 0 (by omega)
  have c4 := row_int r2 4 (by omega)
  rw [D0.out] at c0
  rw [D4.out] at c4
  have l2 := lv24_run r2
  have HR2 := hid r2
  have HE2 := hid hE2
  have vz := fun W => ixRo_0 TZ W
  simp only [T0.out] at vz
  clear r2 hE2 hW2 ey hb1 zr v1
  go_wp2_with (first
    | (go_at_call 19; refine (HG1.out _ _ hrow).mono ?_; rintro e' w4 ⟨rfl, hb4⟩; have hB4 := hB3.trans (((Below.refl _ _).alloc (Nat.le_refl _) _).trans (hb4.mono (by simp)) |>.mono hB3.size))
    | (go_at_call 19; refine (HG0.out _).mono ?_; rintro e' w3 ⟨rfl, hb3⟩; have l3 := lv24_run ((hb3.block _ (some_ltK HR2.out)).trans HR2.out); have hB3 := HE2.out.trans (hb3.mono HE2.out.size); have hrow : (w3.alloc (.cells (vs .u8 32 DV) 24)).heap[w3.heap.size]? = some (.cells (vs .u8 32 DV) 24) := heap_new rfl)
    | (go_at_call 13; refine (HRO.out _ hB4).mono ?_; rintro e' w5 ⟨rfl, hb5⟩))
  go_ret
  exact ⟨rfl, hB4.trans (hb5.mono hB4.size)⟩

end Go.Proofs.YtmpagacbmoeipaaDoor
