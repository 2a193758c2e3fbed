/-
  What SignQuestions answers, by what the program's functions answer.
-/

import Derived.Test.YtmpagacbmoeipaaDoorSgE
import Derived.Test.YtmpagacbmoeipaaDoorPkK
namespace Go.Proofs.YtmpagacbmoeipaaDoor

open Go.RowKit

set_option linter.unusedVariables false

set_option linter.unusedSimpArgs false

set_option maxRecDepth 20000

theorem bs22_0 (W : World) : (bs22 0 #[]).run Tryd.prog W = .ok (.slice (some ⟨W.heap.size, 0, none⟩) 0 0) (W.alloc (.cells #[] 24)) := by kernel_rfl

theorem own_rts {w : World} {B n : Nat} {v : Value} {f : Nat → Int} (h : w.ownsRow B 24 32 v n (bl f (32 * n))) : ∃ a c, v = .slice a n c ∧ Rts w a n c f := by
  obtain ⟨a, c, e, hr⟩ := RowR.ofOwns h
  exact ⟨a, c, e, hr.rts⟩

theorem own_gen {w w' : World} {B k : Nat} {t : TypeId} {v : Value} {n : Nat} {xs : List Value} (h : w.ownsRow B t k v n xs) (hb : Below w.heap.size w w') : w'.ownsRow B t k v n xs := by
  refine ⟨h.1, ?_⟩
  rcases h.2 with h | ⟨g, cap, cur, e1, e2, e3, e4⟩
  · exact .inl h
  · exact .inr ⟨g, cap, cur, e1, e2, (hb.block g (some_ltK e3)).trans e3, e4⟩

/-- Roots behind a row of one's own, in any order. -/
theorem apR_own (W : World) (B : Nat) (v : Value) (n : Nat) (m : Nat → Int) (ho : W.ownsRow B 24 32 v n (bl m (32 * n))) (ao : Option Addr) (len cap : Nat) (f : Nat → Int) (hb : Rts W ao len cap f) (hbd : (n + len) * 32 ≤ 140737488355328) (hB : B ≤ W.heap.size)
    (m' : Nat → Int) (hm1 : ∀ q, q < 32 * n → m' q = m q) (hm2 : ∀ q, q < 32 * len → m' (32 * n + q) = f q) (ty : TypeId) :
    ∃ v' w', (apR ty v (.slice ao len cap)).run Tryd.prog W = .ok v' w' ∧ w'.ownsRow B 24 32 v' (n + len) (bl m' (32 * (n + len))) ∧ W.grownBy w' v.ownBlock := by
  obtain ⟨i, hi, hz0, hz1, hz2⟩ := infoR
  have hzz : (Value.agg (vs .u8 32 fun _ => 0)).cells.size = 32 := by simp [Value.cells, vs_size]
  have e : bl m (32 * n) ++ bl f (32 * len) = bl m' (32 * (n + len)) := by
    unfold bl
    rw [Nat.mul_add, List.range_add, List.map_append, List.map_map]
    congr 1
    · exact List.map_congr_left fun j hj => by rw [hm1 j (List.mem_range.1 hj)]
    · refine List.map_congr_left fun j hj => ?_
      show Value.int .u8 (f j) = Value.int .u8 (m' (32 * n + j))
      rw [hm2 j (List.mem_range.1 hj)]
  rcases hb with ⟨rfl, rfl, rfl⟩ | ⟨x0, rfl, rfl⟩ | ⟨b, off, rfl, hlc, hbl, hc⟩
  · have h := run_append_owned_none (P := Tryd.prog) (w := W) B 32 ty 24 i 32 Tryd.underlying32 hi _ n _ ho
    refine ⟨_, _, h, ?_, ⟨rfl, rfl, rfl, Nat.le_refl _, fun _ _ _ => rfl⟩⟩
    rw [← e]
    simpa [bl] using ho
  · obtain ⟨v', w', hrun, ho', hg, _⟩ := run_append_own_at (P := Tryd.prog) W B 32 ty 24 i _ 32 32 Tryd.underlying32 hi hz0 hz1 hz2 hzz (by decide) _ n _ ho x0 0 cap (bl f (32 * 0)) (by rw [bl_len])
      (fun j u hj => by
        have := (bl_get f (32 * 0) j u hj).1
        omega) (bl_one f _) (by unfold maxLen; omega) (by omega) hB
    exact ⟨v', w', hrun, by rw [← e]; exact ho', hg⟩
  · obtain ⟨v', w', hrun, ho', hg, _⟩ := run_append_own_at (P := Tryd.prog) W B 32 ty 24 i _ 32 32 Tryd.underlying32 hi hz0 hz1 hz2 hzz (by decide) _ n _ ho ⟨b, off, none⟩ len cap (bl f (32 * len)) (by rw [bl_len]; omega)
      (fun j u hj => by
        obtain ⟨h1, rfl⟩ := bl_get f (32 * len) j u hj
        rw [addr_add]
        exact hc j h1) (bl_one f _) (by unfold maxLen; omega) (by omega) hB
    exact ⟨v', w', hrun, by rw [← e]; exact ho', hg⟩

/-- The bad ones, and the question behind them. -/
def bdF (g q : Nat → Int) (m j : Nat) : Int := if j < 32 * m then g j else q (j - 32 * m)

theorem gd_bdF (g q : Nat → Int) (m : Nat) : gdB q (bdF g q m) (m + 1) = false := by
  have h : eqR (rt32 (bdF g q m) m) q = true := by
    rw [eqR_congr (c' := q) (d' := q) (fun j hj => by unfold rt32 bdF; rw [if_neg (by omega), show 32 * m + j - 32 * m = j by omega]) (fun _ _ => rfl)]
    exact eqR_self q
  rw [gdB_succ, h]
  simp

attribute [local go_sem ↓] ixKy_eq lvKy_eq svKy_eq sv24_eq lv24_eq lvSg_eq bs22_eq

set_option maxHeartbeats 8000000 in
theorem signQuestions_law (pE : PDep) (pR : PRoo) (pG : PGoo) (pQ : PQue) (a : Option Addr) (n cap : Nat) (f r s : Nat → Int) (b : Option Addr) (m capb : Nat) (g : Nat → Int) (w : World) (hk : Kys w a n cap f) (hf : ∀ j, j < 48 * n → 0 ≤ f j ∧ f j < 256) (hn : 48 * n ≤ 140737488351232) (hr : ∀ j, j < 32 → 0 ≤ r j ∧ r j < 256) (hs : ∀ j, j < 96 → 0 ≤ s j ∧ s j < 256) (hb : Rts w b m capb g) (hm : 32 * m ≤ 140737488351232) (hS : Sh w) (hC : Tab w 2 64 KW) :
    Calls Tryd.prog 5 #[.slice a n cap, .agg (vs .u8 32 r), .agg (vs .u8 96 s), .slice b m capb] w fun e' w' => e' = .returned (.bool true) ∧ Below w.heap.size w w' := by
  obtain ⟨W0, hW0⟩ : ∃ W, (w.alloc (.cells (vs .u8 32 r) 24)).alloc (.cells (vs .u8 96 s) 56) = W := ⟨_, rfl⟩
  have r0 : W0.heap[w.heap.size]? = some (.cells (vs .u8 32 r) 24) := by rw [← hW0]; exact (heap_old (by simp)).trans (heap_new rfl)
  have r1 : W0.heap[w.heap.size + 1]? = some (.cells (vs .u8 96 s) 56) := by rw [← hW0]; exact heap_new (by simp)
  have hB0 : Below w.heap.size w W0 := by rw [← hW0]; exact ((Below.refl _ _).alloc (Nat.le_refl _) _).alloc (by simp) _
  have z1 : w.heap.size + 1 < W0.heap.size := some_ltK r1
  have hS0 := hS.below hB0
  have hC0 := hC.below hB0
  have haw := awake16 pE pR pG W0 hS0
  have hk' : ∀ W : World, Below W0.heap.size W0 W → Kys W a n cap f := fun W h => (hk.below hB0).below h
  have hb' : ∀ W : World, Below W0.heap.size W0 W → Rts W b m capb g := fun W h => (hb.below hB0).below h
  have hlr : ∀ W : World, Below W0.heap.size W0 W → (lv24 ⟨w.heap.size, 0, none⟩).run Tryd.prog W = .ok (.agg (vs .u8 32 r)) W := fun W h => lv24_run ((h.block _ (by omega)).trans r0)
  have hls : ∀ W : World, Below W0.heap.size W0 W → (lvSg ⟨w.heap.size + 1, 0, none⟩).run Tryd.prog W = .ok (.agg (vs .u8 96 s)) W := fun W h => lvSg_run ((h.block _ (by omega)).trans r1)
  have hpq : ∀ (W : World) a c, Below W0.heap.size W0 W → Kys W a n c f → Calls Tryd.prog 17 #[.slice a n c, .agg (vs .u8 32 r), .agg (vs .u8 96 s)] W fun e' w' => e' = .returned (.agg (vs .u8 32 (qsV f n r s))) ∧ Below W.heap.size W w' := fun W a c h hk => pQ a n c f r s W hk hf hr hs hn (hS0.below h)
  have hrq : ∀ W : World, Below W0.heap.size W0 W → Calls Tryd.prog 18 #[.slice a n cap, .agg (vs .u8 32 r), .agg (vs .u8 96 s)] W fun e' w' => e' = .returned (.agg (vs .u8 32 (qsV f n r s))) ∧ Below W.heap.size W w' := fun W h => rQuestion_any a n cap f r s W (hk' W h) hf hr hs hn (hC0.below h)
  have hek : ∀ i, i < n → ∀ W, (Op.equalIn 10000 44 (.agg (vs .u8 48 fun j => f (48 * i + j))) (.agg (vs .u8 48 fun j => f (48 * i + j)))).run Tryd.prog W = .ok true W := fun i hi W => eqK W _ fun j hj => hf _ (by omega)
  generalize qsV f n r s = QV at hpq hrq
  have hg1 : ∀ (W : World) a c, Rts W a m c g → Calls Tryd.prog 19 #[.agg (vs .u8 32 QV), .slice a m c] W fun e' w' => e' = .returned (.bool (gdB QV g m)) ∧ Below W.heap.size W w' := fun W a c h => pG QV g a m c W h (by omega)
  have hg2 : ∀ W : World, Below W0.heap.size W0 W → Calls Tryd.prog 20 #[.agg (vs .u8 32 QV), .slice b m capb] W fun e' w' => e' = .returned (.bool (gdB QV g m)) ∧ Below W.heap.size W w' := fun W h => rGood_any QV g b m capb W (hb' W h) (by omega)
  have hg3 : ∀ (W : World) a c, Rts W a (m + 1) c (bdF g QV m) → Calls Tryd.prog 19 #[.agg (vs .u8 32 QV), .slice a (m + 1 : Nat) c] W fun e' w' => e' = .returned (.bool false) ∧ Below W.heap.size W w' := fun W a c h => by
    have := pG QV (bdF g QV m) a (m + 1) c W h (by omega)
    rw [gd_bdF] at this
    exact this
  have hsa : ∀ (W : World) a c, Below W0.heap.size W0 W → Rts W a m c g → Calls Tryd.prog 21 #[.slice a m c, .slice b m capb] W fun e' w' => e' = .returned (.bool true) ∧ Below W.heap.size W w' := fun W a' c h hr => rsame_true a' b m c capb g g W hr (hb' W h) (fun _ _ => rfl) (by omega)
  have hap : ∀ (B W : World) v, Below B.heap.size B W → Below W0.heap.size W0 W → W.ownsRow B.heap.size 24 32 v 0 (bl g (32 * 0)) → ∀ ty : TypeId, ∃ v' w', (apR ty v (.slice b m capb)).run Tryd.prog W = .ok v' w' ∧ w'.ownsRow B.heap.size 24 32 v' m (bl g (32 * m)) ∧ W.grownBy w' v.ownBlock := fun B W v h h0 ho ty => by
    have := apR_own W B.heap.size v 0 g ho b m capb g (hb' W h0) (by omega) h.size g (fun q _ => rfl) (fun q _ => by rw [Nat.mul_zero, Nat.zero_add]) ty
    rw [Nat.zero_add] at this
    exact this
  have haq : ∀ (B W : World) v y, Below B.heap.size B W → W.ownsRow B.heap.size 24 32 v m (bl g (32 * m)) → W.heap[y]? = some (.cells (vs .u8 32 QV) 24) → ∀ ty : TypeId, ∃ v' w', (apR ty v (.slice (some ⟨y, 0, none⟩) 1 1)).run Tryd.prog W = .ok v' w' ∧ w'.ownsRow B.heap.size 24 32 v' (m + 1) (bl (bdF g QV m) (32 * (m + 1))) ∧ W.grownBy w' v.ownBlock := fun B W v y h ho hy ty =>
    apR_own W B.heap.size v m g ho (some ⟨y, 0, none⟩) 1 1 QV (.inr (.inr ⟨y, 0, rfl, by omega, some_ltK hy, fun j hj => by rw [Nat.zero_add]; exact row_int hy j (by omega)⟩)) (by omega) h.size (bdF g QV m) (fun q hq => by unfold bdF; rw [if_pos hq]) (fun q hq => by unfold bdF; rw [if_neg (by omega), show 32 * m + q - 32 * m = q by omega]) ty
  generalize gdB QV g m = GB at hg1 hg2
  generalize bdF g QV m = LF at hg3 haq
  have HB := hid hB0
  have HW := hid hW0
  have HAW := hid haw
  have HK := hid hk'
  have HBB := hid hb'
  have HLR0 := hid hlr
  have HLS0 := hid hls
  have HPQ := hid hpq
  have HRQ0 := hid hrq
  have HEK := hid hek
  have HG10 := hid hg1
  have HG20 := hid hg2
  have HG30 := hid hg3
  have HSA0 := hid hsa
  have HAP0 := hid hap
  have HAQ0 := hid haq
  clear hB0 hW0 haw hk' hb' hlr hls hpq hrq hek hg1 hg2 hg3 hsa hap haq hk hf hr hs hb hS hS0 hC hC0 r0 r1 pE pR pG pQ
  go_enter Tryd.func5, Tryd.ntmps5
  go_upto_region 1 with fail
  rw [HW.out]
  clear HW
  go_upto_region 3 with (go_at_call 7; refine HAW.out.mono ?_; rintro e' w1 ⟨rfl, hb1⟩)
  have HB1 := hid hb1
  clear hb1
  go_upto_region 4 with (at_builtin; refine wpList_append_kys _ rfl _ _ rfl w1.heap.size _ 0 f rfl (World.ownsRow_made _ #[] 0 (Nat.le_refl _) (Nat.zero_le _) rfl) a n cap f rfl (HK.out _ (HB1.out.alloc HB1.out.size _)) (by omega) (by simp) f (fun q _ => rfl) (fun q _ => by rw [Nat.mul_zero, Nat.zero_add]) ?_; intro v' w2 ho hgr)
  rw [Nat.zero_add] at ho
  obtain ⟨a2, c2, rfl, hk2⟩ := own_kys ho
  have hb2 : Below w1.heap.size w1 w2 := below_grownK ((Below.refl _ _).alloc (Nat.le_refl _) _) (World.ownsRow_made (e := 44) (size := 48) _ #[] 0 (Nat.le_refl _) (Nat.zero_le _) rfl) (by simp) hgr
  have hB2 := HB1.out.trans (hb2.mono HB1.out.size)
  have lr := HLR0.out w2 hB2
  have ls := HLS0.out w2 hB2
  have zr := zero_root
  have v10 := fun W => sv24_newv W (fun _ => 0) QV
  have HB2 := hid hB2
  have HK2 := hid hk2
  clear hB2 hk2 hb2 ho hgr HB1 HAW
  go_upto_region 5 with (go_at_call 17; refine (HPQ.out _ _ _ HB2.out HK2.out).mono ?_; rintro e' w3 ⟨rfl, hb3⟩)
  obtain ⟨W3, hW3⟩ : ∃ W, w3.alloc (.cells (vs .u8 32 QV) 24) = W := ⟨_, rfl⟩
  rw [hW3]
  have r3 : W3.heap[w3.heap.size]? = some (.cells (vs .u8 32 QV) 24) := by rw [← hW3]; exact heap_new rfl
  have hE3 : Below w2.heap.size w2 W3 := by rw [← hW3]; exact hb3.alloc hb3.size _
  have hB3 : Below W0.heap.size W0 W3 := HB2.out.trans (hE3.mono HB2.out.size)
  have hk3 := HK2.out.below hE3
  obtain ⟨y, ey⟩ : ∃ y, w3.heap.size = y := ⟨_, rfl⟩
  rw [ey] at r3 ⊢
  have up3 : ∀ W : World, Below W3.heap.size W3 W → Below W0.heap.size W0 W := fun W h => hB3.trans (h.mono hB3.size)
  have hlq : ∀ W : World, Below W3.heap.size W3 W → (lv24 ⟨y, 0, none⟩).run Tryd.prog W = .ok (.agg (vs .u8 32 QV)) W := fun W h => lv24_run ((h.block _ (some_ltK r3)).trans r3)
  have hlr := fun W h => HLR0.out W (up3 W h)
  have hls := fun W h => HLS0.out W (up3 W h)
  have hrq := fun W h => HRQ0.out W (up3 W h)
  have hBd : Below W3.heap.size W3 W3.drew := (Below.refl _ _).drew
  have HLQ := hid hlq
  have HLR := hid hlr
  have HLS := hid hls
  have HRQ := hid hrq
  have HK3 := hid hk3
  have UP3 := hid up3
  clear hlq hlr hls hrq hk3 up3 r3 hE3 hB3 hW3 ey hb3 lr ls zr v10 HB2 HK2 HPQ HLR0 HLS0 HRQ0
  refine wp_region_noPanic ?_
  refine wp_region_held_drew (S := fun W => Below W3.heap.size W3 W) (by kernel_rfl) (hBd) (fun hHeld => ?_)
  refine tk 0 (v := ?v1601) ?y1601 hHeld ?r1601
  case y1601 => intro w hSw; have ld0 := HLQ.out w hSw; go_simp; try with_reducible rfl
  refine tk 1 (v := ?v1602) ?y1602 hHeld ?r1602
  case y1602 => intro w hSw; go_simp; try with_reducible rfl
  refine tk 2 (v := ?v1603) ?y1603 hHeld ?r1603
  case y1603 => intro w hSw; have ld0 := HLR.out w hSw; go_simp; try with_reducible rfl
  refine tk 3 (v := ?v1604) ?y1604 hHeld ?r1604
  case y1604 => intro w hSw; have ld0 := HLS.out w hSw; go_simp; try with_reducible rfl
  try simp only [Act.put, List.setIfInBounds_toArray, List.set_cons_zero, List.set_cons_succ, Array.toArray_toList, List.getElem_toArray, List.getElem_cons_zero, List.getElem_cons_succ]
  refine wpAnyH_ready (rs := [4]) (by kernel_rfl) (by simp) ?_
  refine AllReadyH.cons rfl (fun K hK => ?_) AllReadyH.nil
  go_simp
  refine (HRQ.out _ hBd).mono ?_
  rintro e' x4 ⟨rfl, hd4⟩
  dsimp only
  have hc4 : Below W3.heap.size W3 x4 := hBd.trans (hd4.mono hBd.size)
  refine hK.out _ _ (hc4) (fun hHeld => ?_)
  clear hK K
  try simp only [Act.put, List.setIfInBounds_toArray, List.set_cons_zero, List.set_cons_succ, Array.toArray_toList, List.getElem_toArray, List.getElem_cons_zero, List.getElem_cons_succ]
  refine wpAnyH_take (i := 5) rfl (by kernel_rfl) (by kernel_rfl) (by kernel_rfl) (fun _ _ _ h => h) (yields_neo (by rfl) _ _ _ rfl QV QV rfl rfl) hHeld ?_
  rw [eqR_self, Bool.not_true]
  try simp only [Act.put, List.setIfInBounds_toArray, List.set_cons_zero, List.set_cons_succ, Array.toArray_toList, List.getElem_toArray, List.getElem_cons_zero, List.getElem_cons_succ]
  refine wpAnyH_done (by kernel_rfl) ?_ _
  refine NoPanic.normal ?_
  have hk4 := HK3.out.below hc4
  have HK4 := hid hk4
  have HC4 := hid hc4
  clear hk4 hc4 hd4 hBd hHeld HRQ HLR HLS HK3
  go_wp2
  go_loopg [11] (n + 1) (fun k c wr => ∃ i : Nat, c = .int .i64 i ∧ i ≤ n ∧ n - i < k ∧ Below x4.heap.size x4 wr)
  case atStart => exact ⟨0, rfl, by omega, by omega, Below.refl _ _⟩
  case round =>
    obtain ⟨i, rfl, hi, hk, hw⟩ := hrel
    by_cases hin : i < n
    · have hz : (i : Int) < (n : Int) := by omega
      have hwW := UP3.out wr (HC4.out.trans (hw.mono HC4.out.size))
      rcases HK.out wr hwW with ⟨_, h0, _⟩ | ⟨_, _, h0⟩ | ⟨b', off, ea, hlc, hbl, hc⟩
      · omega
      · omega
      rcases HK4.out.below hw with ⟨_, h0, _⟩ | ⟨_, _, h0⟩ | ⟨b'', off', ea', hlc', hbl', hc'⟩
      · omega
      · omega
      subst ea ea'
      have ix1 := fun W => ixKy_run W b' off n cap i hin
      have ix2 := fun W => ixKy_run W b'' off' n c2 i hin
      have le1 : (lvKy ⟨b', off + 48 * i, none⟩).run Tryd.prog wr.drew = .ok (.agg (vs .u8 48 fun j => f (48 * i + j))) wr.drew := lvKy_mid fun j hj => by rw [Nat.add_assoc]; exact hc (48 * i + j) (by omega)
      have le2 : (lvKy ⟨b'', off' + 48 * i, none⟩).run Tryd.prog wr.drew = .ok (.agg (vs .u8 48 fun j => f (48 * i + j))) wr.drew := lvKy_mid fun j hj => by rw [Nat.add_assoc]; exact hc' (48 * i + j) (by omega)
      have hek := HEK.out i hin
      generalize (vs .u8 48 fun j => f (48 * i + j)) = KV at le1 le2 hek
      obtain ⟨O, eO⟩ : ∃ O, off + 48 * i = O := ⟨_, rfl⟩
      obtain ⟨O', eO'⟩ : ∃ O, off' + 48 * i = O := ⟨_, rfl⟩
      simp only [eO] at ix1 le1
      simp only [eO'] at ix2 le2
      have HWW := hid hw
      clear hw hwW hc hc' hbl hbl' eO eO'
      go_wp2_with fail
      go_region
      all_goals go_wp2
      all_goals go_roundg (n - i)
      all_goals (first | (case measure => omega) | skip)
      all_goals exact ⟨i + 1, by simp, by omega, by omega, HWW.out.drew⟩
    · have hz : ¬ (i : Int) < (n : Int) := by omega
      have HWW := hid (HC4.out.trans (hw.mono HC4.out.size))
      clear hw HEK HK HK4 HC4
      go_upto_region 12 with fail
      clear hz
      obtain ⟨wk, ewc⟩ : ∃ u, wr = u := ⟨_, rfl⟩
      rw [ewc] at HWW ⊢
      clear ewc
      have hlq2 : ∀ W : World, Below wk.heap.size wk W → (lv24 ⟨y, 0, none⟩).run Tryd.prog W = .ok (.agg (vs .u8 32 QV)) W := fun W h => HLQ.out W (HWW.out.trans (h.mono HWW.out.size))
      have upc : ∀ W : World, Below wk.heap.size wk W → Below W0.heap.size W0 W := fun W h => UP3.out W (HWW.out.trans (h.mono HWW.out.size))
      have hap := fun (W : World) v (h : Below wk.heap.size wk W) => HAP0.out wk W v h (upc W h)
      have haq := fun (W : World) v y (h : Below wk.heap.size wk W) => HAQ0.out wk W v y h
      have hBe : Below wk.heap.size wk wk.drew := (Below.refl _ _).drew
      have HLQ2 := hid hlq2
      have UPC := hid upc
      have HAP := hid hap
      have HAQ := hid haq
      clear hlq2 upc hap haq HAP0 HAQ0
      go_cut [12] from 14 (fun u wx => ∃ a c, u = .slice a (m + 1 : Nat) c ∧ Rts wx a (m + 1) c LF ∧ Below wk.heap.size wk wx)
      case first =>
        refine wp_region_noPanic ?_
        refine wp_region_held_drew (S := fun W => Below wk.heap.size wk W) (by kernel_rfl) (hBe) (fun hHeld => ?_)
        obtain ⟨wd, ewd⟩ : ∃ u, wk.drew = u := ⟨_, rfl⟩
        rw [ewd] at hBe hHeld ⊢
        clear ewd
        refine tk 1 (v := ?v1605) ?y1605 hHeld ?r1605
        case y1605 => intro w hSw; go_simp; try with_reducible rfl
        refine tk 3 (v := ?v1606) ?y1606 hHeld ?r1606
        case y1606 => intro w hSw; have ld0 := HLQ2.out w hSw; go_simp; try with_reducible rfl
        try simp only [Act.put, List.setIfInBounds_toArray, List.set_cons_zero, List.set_cons_succ, Array.toArray_toList, List.getElem_toArray, List.getElem_cons_zero, List.getElem_cons_succ]
        refine wpAnyH_ready (rs := [0, 4]) (by kernel_rfl) (by simp) ?_
        refine AllReadyH.cons rfl (fun K hK => ?_) (AllReadyH.cons rfl (fun K hK => ?_) AllReadyH.nil)
        · have bs := bs22_0 wd
          go_simp
          have hc1 : Below wk.heap.size wk (wd.alloc (.cells #[] 24)) := (hBe).alloc (hBe).size _
          have hw1 : (wd.alloc (.cells #[] 24)).ownsRow wk.heap.size 24 32 (.slice (some ⟨wd.heap.size, 0, none⟩) 0 0) 0 (bl g (32 * 0)) := World.ownsRow_made _ #[] 0 (hBe).size (Nat.zero_le _) rfl
          refine hK.out _ _ (hc1) (fun hHeld => ?_)
          clear hK K
          try simp only [Act.put, List.setIfInBounds_toArray, List.set_cons_zero, List.set_cons_succ, Array.toArray_toList, List.getElem_toArray, List.getElem_cons_zero, List.getElem_cons_succ]
          refine wpAnyH_ready (rs := [2, 4]) (by kernel_rfl) (by simp) ?_
          refine AllReadyH.cons rfl (fun K hK => ?_) (AllReadyH.cons rfl (fun K hK => ?_) AllReadyH.nil)
          · obtain ⟨v2, x2, hp2, hw2, hg2⟩ := HAP.out (wd.alloc (.cells #[] 24)) (.slice (some ⟨wd.heap.size, 0, none⟩) 0 0) (hc1) hw1 32
            refine wp_appendR_is _ _ rfl _ _ _ _ rfl rfl hp2 ?_
            have hc2 : Below wk.heap.size wk x2 := below_grownS (hc1) hw1 (hc1).size hg2
            refine hK.out _ _ (hc2) (fun hHeld => ?_)
            clear hK K
            try simp only [Act.put, List.setIfInBounds_toArray, List.set_cons_zero, List.set_cons_succ, Array.toArray_toList, List.getElem_toArray, List.getElem_cons_zero, List.getElem_cons_succ]
            refine wpAnyH_ready (rs := [4]) (by kernel_rfl) (by simp) ?_
            refine AllReadyH.cons rfl (fun K hK => ?_) AllReadyH.nil
            have bs := bs22_1 x2 QV
            go_simp
            have hc3 : Below wk.heap.size wk (x2.alloc (.cells (vs .u8 32 QV) 24)) := (hc2).alloc (hc2).size _
            have hr3 : (x2.alloc (.cells (vs .u8 32 QV) 24)).heap[x2.heap.size]? = some (.cells (vs .u8 32 QV) 24) := heap_new (by simp)
            have hw3 := own_gen hw2 ((Below.refl x2.heap.size x2).alloc (Nat.le_refl _) (.cells (vs .u8 32 QV) 24))
            refine hK.out _ _ (hc3) (fun hHeld => ?_)
            clear hK K
            try simp only [Act.put, List.setIfInBounds_toArray, List.set_cons_zero, List.set_cons_succ, Array.toArray_toList, List.getElem_toArray, List.getElem_cons_zero, List.getElem_cons_succ]
            refine wpAnyH_ready (rs := [5]) (by kernel_rfl) (by simp) ?_
            refine AllReadyH.cons rfl (fun K hK => ?_) AllReadyH.nil
            obtain ⟨v4, x4, hp4, hw4, hg4⟩ := HAQ.out (x2.alloc (.cells (vs .u8 32 QV) 24)) v2 _ (hc3) hw3 hr3 32
            refine wp_appendR_is _ _ rfl _ _ _ _ rfl rfl hp4 ?_
            have hc4 : Below wk.heap.size wk x4 := below_grownS (hc3) hw3 (hc3).size hg4
            refine hK.out _ _ (hc4) (fun hHeld => ?_)
            clear hK K
            try simp only [Act.put, List.setIfInBounds_toArray, List.set_cons_zero, List.set_cons_succ, Array.toArray_toList, List.getElem_toArray, List.getElem_cons_zero, List.getElem_cons_succ]
            refine tk 6 (v := ?v9004) ?y9004 hHeld ?r9004
            case y9004 => intro w hSw; go_simp; try with_reducible rfl
            try simp only [Act.put, List.setIfInBounds_toArray, List.set_cons_zero, List.set_cons_succ, Array.toArray_toList, List.getElem_toArray, List.getElem_cons_zero, List.getElem_cons_succ]
            refine wpAnyH_done (by kernel_rfl) ?_ _
            refine NoPanic.normal ?_
            go_wp2
            go_meet
            obtain ⟨a9, c9, ev9, hr9⟩ := own_rts hw4
            exact ⟨a9, c9, ev9, hr9, hc4⟩
          · have bs := bs22_1 (wd.alloc (.cells #[] 24)) QV
            go_simp
            have hc5 : Below wk.heap.size wk ((wd.alloc (.cells #[] 24)).alloc (.cells (vs .u8 32 QV) 24)) := (hc1).alloc (hc1).size _
            have hr5 : ((wd.alloc (.cells #[] 24)).alloc (.cells (vs .u8 32 QV) 24)).heap[wd.heap.size + 1]? = some (.cells (vs .u8 32 QV) 24) := heap_new (by simp)
            have hw5 := own_gen hw1 ((Below.refl (wd.alloc (.cells #[] 24)).heap.size (wd.alloc (.cells #[] 24))).alloc (Nat.le_refl _) (.cells (vs .u8 32 QV) 24))
            refine hK.out _ _ (hc5) (fun hHeld => ?_)
            clear hK K
            try simp only [Act.put, List.setIfInBounds_toArray, List.set_cons_zero, List.set_cons_succ, Array.toArray_toList, List.getElem_toArray, List.getElem_cons_zero, List.getElem_cons_succ]
            refine wpAnyH_ready (rs := [2]) (by kernel_rfl) (by simp) ?_
            refine AllReadyH.cons rfl (fun K hK => ?_) AllReadyH.nil
            obtain ⟨v6, x6, hp6, hw6, hg6⟩ := HAP.out ((wd.alloc (.cells #[] 24)).alloc (.cells (vs .u8 32 QV) 24)) (.slice (some ⟨wd.heap.size, 0, none⟩) 0 0) (hc5) hw5 32
            refine wp_appendR_is _ _ rfl _ _ _ _ rfl rfl hp6 ?_
            have hc6 : Below wk.heap.size wk x6 := below_grownS (hc5) hw5 (hc5).size hg6
            have hr6 : x6.heap[wd.heap.size + 1]? = some (.cells (vs .u8 32 QV) 24) := (hg6.block _ (some_ltK hr5) (fun e => by have h9 : wd.heap.size + 1 = wd.heap.size := Option.some.inj e; omega)).trans hr5
            refine hK.out _ _ (hc6) (fun hHeld => ?_)
            clear hK K
            try simp only [Act.put, List.setIfInBounds_toArray, List.set_cons_zero, List.set_cons_succ, Array.toArray_toList, List.getElem_toArray, List.getElem_cons_zero, List.getElem_cons_succ]
            refine wpAnyH_ready (rs := [5]) (by kernel_rfl) (by simp) ?_
            refine AllReadyH.cons rfl (fun K hK => ?_) AllReadyH.nil
            obtain ⟨v7, x7, hp7, hw7, hg7⟩ := HAQ.out x6 v6 _ (hc6) hw6 hr6 32
            refine wp_appendR_is _ _ rfl _ _ _ _ rfl rfl hp7 ?_
            have hc7 : Below wk.heap.size wk x7 := below_grownS (hc6) hw6 (hc6).size hg7
            refine hK.out _ _ (hc7) (fun hHeld => ?_)
            clear hK K
            try simp only [Act.put, List.setIfInBounds_toArray, List.set_cons_zero, List.set_cons_succ, Array.toArray_toList, List.getElem_toArray, List.getElem_cons_zero, List.getElem_cons_succ]
            refine tk 6 (v := ?v9007) ?y9007 hHeld ?r9007
            case y9007 => intro w hSw; go_simp; try with_reducible rfl
            try simp only [Act.put, List.setIfInBounds_toArray, List.set_cons_zero, List.set_cons_succ, Array.toArray_toList, List.getElem_toArray, List.getElem_cons_zero, List.getElem_cons_succ]
            refine wpAnyH_done (by kernel_rfl) ?_ _
            refine NoPanic.normal ?_
            go_wp2
            go_meet
            obtain ⟨a9, c9, ev9, hr9⟩ := own_rts hw7
            exact ⟨a9, c9, ev9, hr9, hc7⟩
        · have bs := bs22_1 wd QV
          go_simp
          have hc8 : Below wk.heap.size wk (wd.alloc (.cells (vs .u8 32 QV) 24)) := (hBe).alloc (hBe).size _
          have hr8 : (wd.alloc (.cells (vs .u8 32 QV) 24)).heap[wd.heap.size]? = some (.cells (vs .u8 32 QV) 24) := heap_new (by simp)
          refine hK.out _ _ (hc8) (fun hHeld => ?_)
          clear hK K
          try simp only [Act.put, List.setIfInBounds_toArray, List.set_cons_zero, List.set_cons_succ, Array.toArray_toList, List.getElem_toArray, List.getElem_cons_zero, List.getElem_cons_succ]
          refine wpAnyH_ready (rs := [0]) (by kernel_rfl) (by simp) ?_
          refine AllReadyH.cons rfl (fun K hK => ?_) AllReadyH.nil
          have bs := bs22_0 (wd.alloc (.cells (vs .u8 32 QV) 24))
          go_simp
          have hc9 : Below wk.heap.size wk ((wd.alloc (.cells (vs .u8 32 QV) 24)).alloc (.cells #[] 24)) := (hc8).alloc (hc8).size _
          have hw9 : ((wd.alloc (.cells (vs .u8 32 QV) 24)).alloc (.cells #[] 24)).ownsRow wk.heap.size 24 32 (.slice (some ⟨wd.heap.size + 1, 0, none⟩) 0 0) 0 (bl g (32 * 0)) := by
            rw [show wd.heap.size + 1 = (wd.alloc (.cells (vs .u8 32 QV) 24)).heap.size by simp]
            exact World.ownsRow_made _ #[] 0 (hc8).size (Nat.zero_le _) rfl
          have hr9 : ((wd.alloc (.cells (vs .u8 32 QV) 24)).alloc (.cells #[] 24)).heap[wd.heap.size]? = some (.cells (vs .u8 32 QV) 24) := (heap_old (some_ltK hr8)).trans hr8
          refine hK.out _ _ (hc9) (fun hHeld => ?_)
          clear hK K
          try simp only [Act.put, List.setIfInBounds_toArray, List.set_cons_zero, List.set_cons_succ, Array.toArray_toList, List.getElem_toArray, List.getElem_cons_zero, List.getElem_cons_succ]
          refine wpAnyH_ready (rs := [2]) (by kernel_rfl) (by simp) ?_
          refine AllReadyH.cons rfl (fun K hK => ?_) AllReadyH.nil
          obtain ⟨v10, x10, hp10, hw10, hg10⟩ := HAP.out ((wd.alloc (.cells (vs .u8 32 QV) 24)).alloc (.cells #[] 24)) (.slice (some ⟨wd.heap.size + 1, 0, none⟩) 0 0) (hc9) hw9 32
          refine wp_appendR_is _ _ rfl _ _ _ _ rfl rfl hp10 ?_
          have hc10 : Below wk.heap.size wk x10 := below_grownS (hc9) hw9 (hc9).size hg10
          have hr10 : x10.heap[wd.heap.size]? = some (.cells (vs .u8 32 QV) 24) := (hg10.block _ (some_ltK hr9) (fun e => by have h9 : wd.heap.size = wd.heap.size + 1 := Option.some.inj e; omega)).trans hr9
          refine hK.out _ _ (hc10) (fun hHeld => ?_)
          clear hK K
          try simp only [Act.put, List.setIfInBounds_toArray, List.set_cons_zero, List.set_cons_succ, Array.toArray_toList, List.getElem_toArray, List.getElem_cons_zero, List.getElem_cons_succ]
          refine wpAnyH_ready (rs := [5]) (by kernel_rfl) (by simp) ?_
          refine AllReadyH.cons rfl (fun K hK => ?_) AllReadyH.nil
          obtain ⟨v11, x11, hp11, hw11, hg11⟩ := HAQ.out x10 v10 _ (hc10) hw10 hr10 32
          refine wp_appendR_is _ _ rfl _ _ _ _ rfl rfl hp11 ?_
          have hc11 : Below wk.heap.size wk x11 := below_grownS (hc10) hw10 (hc10).size hg11
          refine hK.out _ _ (hc11) (fun hHeld => ?_)
          clear hK K
          try simp only [Act.put, List.setIfInBounds_toArray, List.set_cons_zero, List.set_cons_succ, Array.toArray_toList, List.getElem_toArray, List.getElem_cons_zero, List.getElem_cons_succ]
          refine tk 6 (v := ?v9011) ?y9011 hHeld ?r9011
          case y9011 => intro w hSw; go_simp; try with_reducible rfl
          try simp only [Act.put, List.setIfInBounds_toArray, List.set_cons_zero, List.set_cons_succ, Array.toArray_toList, List.getElem_toArray, List.getElem_cons_zero, List.getElem_cons_succ]
          refine wpAnyH_done (by kernel_rfl) ?_ _
          refine NoPanic.normal ?_
          go_wp2
          go_meet
          obtain ⟨a9, c9, ev9, hr9⟩ := own_rts hw11
          exact ⟨a9, c9, ev9, hr9, hc11⟩
      case rest =>
        clear HAP HAQ hBe
        obtain ⟨a12, c12, rfl, hr12, hc12⟩ := hcut
        have hu12 := UPC.out wc hc12
        have bs := bs22_0 wc
        have HR12 := hid hr12
        have HC12 := hid hc12
        have HU12 := hid hu12
        clear hr12 hc12 hu12
        go_upto_region 14 with (at_builtin; refine wpList_append_rts _ rfl _ _ rfl wc.heap.size _ 0 g rfl (World.ownsRow_made _ #[] 0 (Nat.le_refl _) (Nat.zero_le _) rfl) b m capb g rfl (HBB.out _ (HU12.out.alloc HU12.out.size _)) (by omega) (by simp) g (fun q _ => rfl) (fun q _ => by rw [Nat.mul_zero, Nat.zero_add]) ?_; intro v' w6 ho hgr)
        rw [Nat.zero_add] at ho
        obtain ⟨a13, c13, rfl, hr13⟩ := own_rts ho
        have hb6 : Below wc.heap.size wc w6 := below_grownS ((Below.refl _ _).alloc (Nat.le_refl _) _) (World.ownsRow_made (e := 24) (size := 32) _ #[] 0 (Nat.le_refl _) (Nat.zero_le _) rfl) (by simp) hgr
        have hk6 : Below wk.heap.size wk w6 := HC12.out.trans (hb6.mono HC12.out.size)
        have hu6 : Below W0.heap.size W0 w6 := HU12.out.trans (hb6.mono HU12.out.size)
        have hr126 := HR12.out.below hb6
        have hlq3 : ∀ W : World, Below w6.heap.size w6 W → (lv24 ⟨y, 0, none⟩).run Tryd.prog W = .ok (.agg (vs .u8 32 QV)) W := fun W h => HLQ2.out W (hk6.trans (h.mono hk6.size))
        have hg1 := fun (W : World) (h : Below w6.heap.size w6 W) => HG10.out W a13 c13 (hr13.below h)
        have hg2 := fun (W : World) (h : Below w6.heap.size w6 W) => HG20.out W (hu6.trans (h.mono hu6.size))
        have hg3 := fun (W : World) (h : Below w6.heap.size w6 W) => HG30.out W a12 c12 (hr126.below h)
        have hsa := fun (W : World) (h : Below w6.heap.size w6 W) => HSA0.out W a13 c13 (hu6.trans (h.mono hu6.size)) (hr13.below h)
        have hBf : Below w6.heap.size w6 w6.drew := (Below.refl _ _).drew
        have HLQ3 := hid hlq3
        have HG1 := hid hg1
        have HG2 := hid hg2
        have HG3 := hid hg3
        have HSA := hid hsa
        have HU6 := hid hu6
        clear hlq3 hg1 hg2 hg3 hsa hu6 hk6 hr126 hb6 hr13 ho hgr bs HR12 HC12 HU12 HG10 HG20 HG30 HSA0 HLQ2 UPC HBB HLQ UP3 HWW
        cases GB
        · skip
          refine wp_region_noPanic ?_
          refine wp_region_held_drew (S := fun W => Below w6.heap.size w6 W) (by kernel_rfl) (hBf) (fun hHeld => ?_)
          refine tk 0 (v := ?v1607) ?y1607 hHeld ?r1607
          case y1607 => intro w hSw; have ld0 := HLQ3.out w hSw; go_simp; try with_reducible rfl
          refine tk 1 (v := ?v1608) ?y1608 hHeld ?r1608
          case y1608 => intro w hSw; go_simp; try with_reducible rfl
          refine tk 3 (v := ?v1609) ?y1609 hHeld ?r1609
          case y1609 => intro w hSw; have ld0 := HLQ3.out w hSw; go_simp; try with_reducible rfl
          refine tk 4 (v := ?v1610) ?y1610 hHeld ?r1610
          case y1610 => intro w hSw; go_simp; try with_reducible rfl
          try simp only [Act.put, List.setIfInBounds_toArray, List.set_cons_zero, List.set_cons_succ, Array.toArray_toList, List.getElem_toArray, List.getElem_cons_zero, List.getElem_cons_succ]
          refine wpAnyH_ready (rs := [2]) (by kernel_rfl) (by simp) ?_
          refine AllReadyH.cons rfl (fun K hK => ?_) AllReadyH.nil
          go_simp
          refine (HG1.out _ hBf).mono ?_
          rintro e' x7 ⟨rfl, hd7⟩
          dsimp only
          have hc7 : Below w6.heap.size w6 x7 := hBf.trans (hd7.mono hBf.size)
          refine hK.out _ _ (hc7) (fun hHeld => ?_)
          clear hK K
          try simp only [Act.put, List.setIfInBounds_toArray, List.set_cons_zero, List.set_cons_succ, Array.toArray_toList, List.getElem_toArray, List.getElem_cons_zero, List.getElem_cons_succ]
          refine wpAnyH_ready (rs := [5]) (by kernel_rfl) (by simp) ?_
          refine AllReadyH.cons rfl (fun K hK => ?_) AllReadyH.nil
          go_simp
          refine (HG2.out _ hc7).mono ?_
          rintro e' x8 ⟨rfl, hd8⟩
          dsimp only
          have hc8 : Below w6.heap.size w6 x8 := hc7.trans (hd8.mono hc7.size)
          refine hK.out _ _ (hc8) (fun hHeld => ?_)
          clear hK K
          try simp only [Act.put, List.setIfInBounds_toArray, List.set_cons_zero, List.set_cons_succ, Array.toArray_toList, List.getElem_toArray, List.getElem_cons_zero, List.getElem_cons_succ]
          refine tk 6 (v := ?v1611) ?y1611 hHeld ?r1611
          case y1611 => intro w hSw; go_simp; try with_reducible rfl
          refine tk 7 (v := ?v1612) ?y1612 hHeld ?r1612
          case y1612 => intro w hSw; go_simp; try with_reducible rfl
          refine tk 8 (v := ?v1613) ?y1613 hHeld ?r1613
          case y1613 => intro w hSw; have ld0 := HLQ3.out w hSw; go_simp; try with_reducible rfl
          refine tk 9 (v := ?v1614) ?y1614 hHeld ?r1614
          case y1614 => intro w hSw; go_simp; try with_reducible rfl
          try simp only [Act.put, List.setIfInBounds_toArray, List.set_cons_zero, List.set_cons_succ, Array.toArray_toList, List.getElem_toArray, List.getElem_cons_zero, List.getElem_cons_succ]
          refine wpAnyH_ready (rs := [10]) (by kernel_rfl) (by simp) ?_
          refine AllReadyH.cons rfl (fun K hK => ?_) AllReadyH.nil
          go_simp
          refine (HG3.out _ hc8).mono ?_
          rintro e' x9 ⟨rfl, hd9⟩
          dsimp only
          have hc9 : Below w6.heap.size w6 x9 := hc8.trans (hd9.mono hc8.size)
          refine hK.out _ _ (hc9) (fun hHeld => ?_)
          clear hK K
          try simp only [Act.put, List.setIfInBounds_toArray, List.set_cons_zero, List.set_cons_succ, Array.toArray_toList, List.getElem_toArray, List.getElem_cons_zero, List.getElem_cons_succ]
          refine tk 11 (v := ?v1615) ?y1615 hHeld ?r1615
          case y1615 => intro w hSw; go_simp; try with_reducible rfl
          refine tk 12 (v := ?v1616) ?y1616 hHeld ?r1616
          case y1616 => intro w hSw; go_simp; try with_reducible rfl
          refine tk 13 (v := ?v1617) ?y1617 hHeld ?r1617
          case y1617 => intro w hSw; go_simp; try with_reducible rfl
          refine tk 14 (v := ?v1618) ?y1618 hHeld ?r1618
          case y1618 => intro w hSw; go_simp; try with_reducible rfl
          refine tk 15 (v := ?v1619) ?y1619 hHeld ?r1619
          case y1619 => intro w hSw; go_simp; try with_reducible rfl
          try simp only [Act.put, List.setIfInBounds_toArray, List.set_cons_zero, List.set_cons_succ, Array.toArray_toList, List.getElem_toArray, List.getElem_cons_zero, List.getElem_cons_succ]
          refine wpAnyH_ready (rs := [16]) (by kernel_rfl) (by simp) ?_
          refine AllReadyH.cons rfl (fun K hK => ?_) AllReadyH.nil
          go_simp
          refine (HSA.out _ hc9).mono ?_
          rintro e' x10 ⟨rfl, hd10⟩
          dsimp only
          have hc10 : Below w6.heap.size w6 x10 := hc9.trans (hd10.mono hc9.size)
          refine hK.out _ _ (hc10) (fun hHeld => ?_)
          clear hK K
          try simp only [Act.put, List.setIfInBounds_toArray, List.set_cons_zero, List.set_cons_succ, Array.toArray_toList, List.getElem_toArray, List.getElem_cons_zero, List.getElem_cons_succ]
          refine tk 17 (v := ?v1620) ?y1620 hHeld ?r1620
          case y1620 => intro w hSw; go_simp; try with_reducible rfl
          refine tk 18 (v := ?v1621) ?y1621 hHeld ?r1621
          case y1621 => intro w hSw; go_simp; try with_reducible rfl
          try simp only [Act.put, List.setIfInBounds_toArray, List.set_cons_zero, List.set_cons_succ, Array.toArray_toList, List.getElem_toArray, List.getElem_cons_zero, List.getElem_cons_succ]
          refine wpAnyH_done (by kernel_rfl) ?_ _
          refine NoPanic.normal ?_
          go_wp2
          go_ret
          exact ⟨rfl, HB.out.trans ((HU6.out.trans (hc10.mono HU6.out.size)).mono HB.out.size)⟩
        · skip
          refine wp_region_noPanic ?_
          refine wp_region_held_drew (S := fun W => Below w6.heap.size w6 W) (by kernel_rfl) (hBf) (fun hHeld => ?_)
          refine tk 0 (v := ?v1622) ?y1622 hHeld ?r1622
          case y1622 => intro w hSw; have ld0 := HLQ3.out w hSw; go_simp; try with_reducible rfl
          refine tk 1 (v := ?v1623) ?y1623 hHeld ?r1623
          case y1623 => intro w hSw; go_simp; try with_reducible rfl
          refine tk 3 (v := ?v1624) ?y1624 hHeld ?r1624
          case y1624 => intro w hSw; have ld0 := HLQ3.out w hSw; go_simp; try with_reducible rfl
          refine tk 4 (v := ?v1625) ?y1625 hHeld ?r1625
          case y1625 => intro w hSw; go_simp; try with_reducible rfl
          try simp only [Act.put, List.setIfInBounds_toArray, List.set_cons_zero, List.set_cons_succ, Array.toArray_toList, List.getElem_toArray, List.getElem_cons_zero, List.getElem_cons_succ]
          refine wpAnyH_ready (rs := [2]) (by kernel_rfl) (by simp) ?_
          refine AllReadyH.cons rfl (fun K hK => ?_) AllReadyH.nil
          go_simp
          refine (HG1.out _ hBf).mono ?_
          rintro e' x7 ⟨rfl, hd7⟩
          dsimp only
          have hc7 : Below w6.heap.size w6 x7 := hBf.trans (hd7.mono hBf.size)
          refine hK.out _ _ (hc7) (fun hHeld => ?_)
          clear hK K
          try simp only [Act.put, List.setIfInBounds_toArray, List.set_cons_zero, List.set_cons_succ, Array.toArray_toList, List.getElem_toArray, List.getElem_cons_zero, List.getElem_cons_succ]
          refine wpAnyH_ready (rs := [5]) (by kernel_rfl) (by simp) ?_
          refine AllReadyH.cons rfl (fun K hK => ?_) AllReadyH.nil
          go_simp
          refine (HG2.out _ hc7).mono ?_
          rintro e' x8 ⟨rfl, hd8⟩
          dsimp only
          have hc8 : Below w6.heap.size w6 x8 := hc7.trans (hd8.mono hc7.size)
          refine hK.out _ _ (hc8) (fun hHeld => ?_)
          clear hK K
          try simp only [Act.put, List.setIfInBounds_toArray, List.set_cons_zero, List.set_cons_succ, Array.toArray_toList, List.getElem_toArray, List.getElem_cons_zero, List.getElem_cons_succ]
          refine tk 6 (v := ?v1626) ?y1626 hHeld ?r1626
          case y1626 => intro w hSw; go_simp; try with_reducible rfl
          refine tk 7 (v := ?v1627) ?y1627 hHeld ?r1627
          case y1627 => intro w hSw; go_simp; try with_reducible rfl
          refine tk 8 (v := ?v1628) ?y1628 hHeld ?r1628
          case y1628 => intro w hSw; have ld0 := HLQ3.out w hSw; go_simp; try with_reducible rfl
          refine tk 9 (v := ?v1629) ?y1629 hHeld ?r1629
          case y1629 => intro w hSw; go_simp; try with_reducible rfl
          try simp only [Act.put, List.setIfInBounds_toArray, List.set_cons_zero, List.set_cons_succ, Array.toArray_toList, List.getElem_toArray, List.getElem_cons_zero, List.getElem_cons_succ]
          refine wpAnyH_ready (rs := [10]) (by kernel_rfl) (by simp) ?_
          refine AllReadyH.cons rfl (fun K hK => ?_) AllReadyH.nil
          go_simp
          refine (HG3.out _ hc8).mono ?_
          rintro e' x9 ⟨rfl, hd9⟩
          dsimp only
          have hc9 : Below w6.heap.size w6 x9 := hc8.trans (hd9.mono hc8.size)
          refine hK.out _ _ (hc9) (fun hHeld => ?_)
          clear hK K
          try simp only [Act.put, List.setIfInBounds_toArray, List.set_cons_zero, List.set_cons_succ, Array.toArray_toList, List.getElem_toArray, List.getElem_cons_zero, List.getElem_cons_succ]
          refine tk 11 (v := ?v1630) ?y1630 hHeld ?r1630
          case y1630 => intro w hSw; go_simp; try with_reducible rfl
          refine tk 12 (v := ?v1631) ?y1631 hHeld ?r1631
          case y1631 => intro w hSw; go_simp; try with_reducible rfl
          refine tk 13 (v := ?v1632) ?y1632 hHeld ?r1632
          case y1632 => intro w hSw; go_simp; try with_reducible rfl
          refine tk 14 (v := ?v1633) ?y1633 hHeld ?r1633
          case y1633 => intro w hSw; go_simp; try with_reducible rfl
          refine tk 15 (v := ?v1634) ?y1634 hHeld ?r1634
          case y1634 => intro w hSw; go_simp; try with_reducible rfl
          try simp only [Act.put, List.setIfInBounds_toArray, List.set_cons_zero, List.set_cons_succ, Array.toArray_toList, List.getElem_toArray, List.getElem_cons_zero, List.getElem_cons_succ]
          refine wpAnyH_ready (rs := [16]) (by kernel_rfl) (by simp) ?_
          refine AllReadyH.cons rfl (fun K hK => ?_) AllReadyH.nil
          go_simp
          refine (HSA.out _ hc9).mono ?_
          rintro e' x10 ⟨rfl, hd10⟩
          dsimp only
          have hc10 : Below w6.heap.size w6 x10 := hc9.trans (hd10.mono hc9.size)
          refine hK.out _ _ (hc10) (fun hHeld => ?_)
          clear hK K
          try simp only [Act.put, List.setIfInBounds_toArray, List.set_cons_zero, List.set_cons_succ, Array.toArray_toList, List.getElem_toArray, List.getElem_cons_zero, List.getElem_cons_succ]
          refine tk 17 (v := ?v1635) ?y1635 hHeld ?r1635
          case y1635 => intro w hSw; go_simp; try with_reducible rfl
          refine tk 18 (v := ?v1636) ?y1636 hHeld ?r1636
          case y1636 => intro w hSw; go_simp; try with_reducible rfl
          try simp only [Act.put, List.setIfInBounds_toArray, List.set_cons_zero, List.set_cons_succ, Array.toArray_toList, List.getElem_toArray, List.getElem_cons_zero, List.getElem_cons_succ]
          refine wpAnyH_done (by kernel_rfl) ?_ _
          refine NoPanic.normal ?_
          go_wp2
          go_ret
          exact ⟨rfl, HB.out.trans ((HU6.out.trans (hc10.mono HU6.out.size)).mono HB.out.size)⟩

end Go.Proofs.YtmpagacbmoeipaaDoor
