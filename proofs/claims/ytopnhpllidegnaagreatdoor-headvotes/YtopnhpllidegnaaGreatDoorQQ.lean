/- A part. -/
import Derived.Test.YtopnhpllidegnaaGreatDoorSgB
import Derived.Test.YtopnhpllidegnaaGreatDoorQL
import Derived.Test.YtopnhpllidegnaaGreatDoorQO
import Derived.Test.YtopnhpllidegnaaGreatDoorQP
import Derived.Test.YtopnhpllidegnaaGreatDoorQB
import Derived.Test.YtopnhpllidegnaaGreatDoorQH
namespace Go.Proofs.YtopnhpllidegnaaGreatDoor
open Go.RowKit
set_option linter.unusedVariables false
set_option linter.unusedSimpArgs false
section
open Go.RowKit
set_option linter.unusedVariables false
set_option linter.unusedSimpArgs false
set_option maxRecDepth 20000
attribute [local go_sem ↓] sv24_eq lv24_eq sv8_eq ix22_eq bs22_eq
set_option maxHeartbeats 2000000 in
theorem rGood_any (q f : Nat → Int) (a : Option Addr) (n cap : Nat) (w : World) (hr : Rts w a n cap f) (hn : n ≤ 9223372036854775807) :
    Calls Tryz.prog 29 #[.agg (vs .u8 32 q), .slice a n cap] w fun e' w' => e' = .returned (.bool (gdB q f n)) ∧ Below w.heap.size w w' := by
 obtain ⟨W0, hW0⟩ : ∃ W, w.alloc (.cells (vs .u8 32 q) 24) = W := ⟨_, rfl⟩
 have r0 : W0.heap[w.heap.size]? = some (.cells (vs .u8 32 q) 24) := by rw [← hW0]; exact heap_new rfl
 have hB0 : Below w.heap.size w W0 := by rw [← hW0]; exact (Below.refl _ _).alloc (Nat.le_refl _) _
 have z0 : w.heap.size < W0.heap.size := some_ltK r0
 have hr0 := hr.below hB0
 have hlq : ∀ W : World, Below W0.heap.size W0 W → (lv24 ⟨w.heap.size, 0, none⟩).run Tryz.prog W = .ok (.agg (vs .u8 32 q)) W := fun W h => lv24_run ((h.block _ z0).trans r0)
 have HB := hid hB0
 have HW := hid hW0
 have HRR := hid hr0
 have HLQ := hid hlq
 clear hB0 hW0 r0 hr hr0 hlq
 go_enter Tryz.func29, Tryz.ntmps29
 go_upto_region 1 with fail
 rw [HW.out]
 clear HW
 go_wp2
 go_loopw [5] (fun i wr => ∃ k : Nat, k ≤ n ∧ i = .int .i64 k ∧ gdB q f k = true ∧ Below W0.heap.size W0 wr) (fun i _ => n - (intOf i).toNat)
 case atStart => exact ⟨0, by omega, rfl, gdB_zero q f, Below.refl _ _⟩
 case round =>
  obtain ⟨k, hk, rfl, hg, hb⟩ := hrel
  by_cases hlt : k < n
  ·have k1 : (k : Int) < (n : Int) := by omega
   have k2 : IntKind.i64.wrap ((k : Int) + 1) = (k : Int) + 1 := by rw [IntKind.wrap_i64]; omega
   obtain ⟨b1, o1, hb1, hx1, hc1⟩ := HRR.out.at k hlt
   have hla : ∀ W, Below W0.heap.size W0 W → (lv24 ⟨b1, o1, none⟩).run Tryz.prog W = .ok (.agg (vs .u8 32 (rt32 f k))) W := fun W h => lv24_mid (fun j hj => (below_cell h hb1).trans (hc1 j hj))
   have hst := gdB_succ q f k
   have hgt := @gdB_true q f n
   obtain ⟨R, eR⟩ : ∃ R, rt32 f k = R := ⟨_, rfl⟩
   rw [eR] at hla hst
   have HIX := hid hx1
   have HLA := hid hla
   have HST := hid hst
   have HGT := hid hgt
   have HG := hid hg
   have HER := hid eR
   have HDR := hid hb.drew
   clear hx1 hla hst hgt hg hb hc1 hb1 eR
   cases he : eqR R q
   ·have HEQ := hid he
    go_upto_region 4 with fail
    refine wp_region_noPanic ?_
    refine wp_region_held_drew (S := fun W => Below W0.heap.size W0 W) (by kernel_rfl) (HDR.out) (fun hHeld => ?_)
    refine tk 0 (v := ?v305) ?y305 hHeld ?r305
    case y305 => intro w hSw; go_simp; try with_reducible rfl
    refine tk 1 (v := ?v306) ?y306 hHeld ?r306
    case y306 => intro w hSw; go_simp; try with_reducible rfl
    refine tk 2 (v := ?v307) ?y307 hHeld ?r307
    case y307 => intro w hSw; have ld0 := HIX.out w; go_simp; try with_reducible rfl
    refine tk 3 (v := ?v308) ?y308 hHeld ?r308
    case y308 => intro w hSw; have ld0 := HLA.out w hSw; go_simp; try with_reducible rfl
    refine tk 4 (v := ?v309) ?y309 hHeld ?r309
    case y309 => intro w hSw; have ld0 := HLQ.out w hSw; go_simp; try with_reducible rfl
    try simp only [Act.put, z_1, z_2, z_3, z_4, z_5, z_6, z_7]
    refine wpAnyH_take (i := 5) rfl (by kernel_rfl) (by kernel_rfl) (by kernel_rfl) (fun _ _ _ h => h) (yields_eqo (by rfl) _ _ _ rfl R q rfl rfl) hHeld ?_
    rw [HEQ.out]
    try simp only [Act.put, z_1, z_2, z_3, z_4, z_5, z_6, z_7]
    refine wpAnyH_done (by kernel_rfl) ?_ _
    refine NoPanic.normal ?_
    go_wp2
    go_roundw
    case rel => exact ⟨k + 1, by omega, by go_num, by rw [HST.out, HG.out, HEQ.out]; rfl, HDR.out⟩
    case measure => simp [intOf]; omega
   ·have HEQ := hid he
    have hF : gdB q f n = false := by
     cases h : gdB q f n
     ·rfl
     ·have h2 := HGT.out.1 h k hlt
      rw [HER.out, HEQ.out] at h2
      cases h2
    have HF := hid hF
    clear hF
    go_upto_region 4 with fail
    refine wp_region_noPanic ?_
    refine wp_region_held_drew (S := fun W => Below W0.heap.size W0 W) (by kernel_rfl) (HDR.out) (fun hHeld => ?_)
    refine tk 0 (v := ?v310) ?y310 hHeld ?r310
    case y310 => intro w hSw; go_simp; try with_reducible rfl
    refine tk 1 (v := ?v311) ?y311 hHeld ?r311
    case y311 => intro w hSw; go_simp; try with_reducible rfl
    refine tk 2 (v := ?v312) ?y312 hHeld ?r312
    case y312 => intro w hSw; have ld0 := HIX.out w; go_simp; try with_reducible rfl
    refine tk 3 (v := ?v313) ?y313 hHeld ?r313
    case y313 => intro w hSw; have ld0 := HLA.out w hSw; go_simp; try with_reducible rfl
    refine tk 4 (v := ?v314) ?y314 hHeld ?r314
    case y314 => intro w hSw; have ld0 := HLQ.out w hSw; go_simp; try with_reducible rfl
    try simp only [Act.put, z_1, z_2, z_3, z_4, z_5, z_6, z_7]
    refine wpAnyH_take (i := 5) rfl (by kernel_rfl) (by kernel_rfl) (by kernel_rfl) (fun _ _ _ h => h) (yields_eqo (by rfl) _ _ _ rfl R q rfl rfl) hHeld ?_
    rw [HEQ.out]
    try simp only [Act.put, z_1, z_2, z_3, z_4, z_5, z_6, z_7]
    refine wpAnyH_done (by kernel_rfl) ?_ _
    refine NoPanic.normal ?_
    go_wp2
    go_ret
    exact ⟨by rw [HF.out]; rfl, HB.out.trans (HDR.out.mono HB.out.size)⟩
  ·obtain rfl : k = n := by omega
   have HBB := hid hb
   have HG := hid hg
   clear hg hb
   go_wp2
   go_ret
   exact ⟨by rw [HG.out]; rfl, HB.out.trans (HBB.out.mono HB.out.size)⟩
end
section
open Go.RowKit
set_option linter.unusedVariables false
set_option linter.unusedSimpArgs false
set_option maxRecDepth 20000
theorem ap_rowL (W : World) (B : Nat) (v : Value) (n k cp b : Nat) (m c : Nat → Int) (ho : W.ownsRow B 5 1 v n (bl m n)) (hb : ∀ j, j < k → W.cell? ⟨b, j, none⟩ = some (.int .u8 (c j))) (hm : ∀ j, j < k → m (n + j) = c j) (hB : B ≤ W.heap.size) (hn : n + k ≤ 140737488353280) (hk0 : 0 < k) (ty : TypeId) :
    ∃ g' C' w', (ap22 ty v (.slice (some ⟨b, 0, none⟩) k cp)).run Tryz.prog W = .ok (.slice (some ⟨g', 0, none⟩) (n + k) C') w' ∧ w'.ownsRow B 5 1 (.slice (some ⟨g', 0, none⟩) (n + k) C') (n + k) (bl m (n + k)) ∧ Below B W w' := by
 obtain ⟨i, hi, hz0, hz1, hz2⟩ := info_parts info8
 obtain ⟨v', w', hr, ho', hg, _⟩ := run_append_own_at (P := Tryz.prog) W B 39 ty 5 i (.int .u8 0) 1 1 Tryz.underlying39 hi hz0 hz1 hz2 rfl (by decide) v n (bl m n) ho ⟨b, 0, none⟩ k cp (bl c k) (by rw [bl_len, Nat.mul_one])
  (fun j u hj => by
   obtain ⟨h1, rfl⟩ := bl_get c k j u hj
   rw [addr_add, Nat.zero_add]
   exact hb j h1) (bl_one c k) (by unfold maxLen; omega) (by omega) hB
 rw [bl_add' m c n k hm] at ho'
 obtain ⟨g', C', rfl⟩ := owns_pos ho' (by omega)
 exact ⟨g', C', w', hr, ho', below_grown (Below.refl _ _) ho hB hg⟩
theorem qs_one (f r s : Nat → Int) (n j : Nat) (h : j < 48 * n) : qsF f n r s j = f j := by unfold qsF; rw [if_pos h]
theorem qs_two (f r s : Nat → Int) (n j : Nat) (h : j < 32) : qsF f n r s (48 * n + j) = r j := by unfold qsF; rw [if_neg (by omega), if_pos (by omega), show 48 * n + j - 48 * n = j by omega]
theorem qs_three (f r s : Nat → Int) (n j : Nat) : qsF f n r s (48 * n + 32 + j) = s j := by unfold qsF; rw [if_neg (by omega), if_neg (by omega), show 48 * n + 32 + j - (48 * n + 32) = j by omega]
attribute [local go_sem ↓] ixKy_eq lvKy_eq svKy_eq sv24_eq lv24_eq bdRo_eq bs22_eq
set_option maxHeartbeats 4000000 in
theorem rQuestion_any (a : Option Addr) (n cap : Nat) (f r s : Nat → Int) (w : World) (hk : Kys w a n cap f) (hf : ∀ j, j < 48 * n → 0 ≤ f j ∧ f j < 256) (hr : ∀ j, j < 32 → 0 ≤ r j ∧ r j < 256) (hs : ∀ j, j < 96 → 0 ≤ s j ∧ s j < 256) (hn : 48 * n ≤ 140737488351232) (hC : Tab w 0 64 KW) :
    Calls Tryz.prog 25 #[.slice a n cap, .agg (vs .u8 32 r), .agg (vs .u8 96 s)] w fun e' w' => e' = .returned (.agg (vs .u8 32 (qsV f n r s))) ∧ Below w.heap.size w w' := by
 obtain ⟨W0, hW0⟩ : ∃ W, ((w.alloc (.cells (vs .u8 32 r) 24)).alloc (.cells (vs .u8 96 s) 51)).alloc (.cells (vs .u8 32 fun _ => 0) 24) = W := ⟨_, rfl⟩
 have r0 : W0.heap[w.heap.size]? = some (.cells (vs .u8 32 r) 24) := by rw [← hW0]; exact (heap_old (by simp <;> omega)).trans ((heap_old (by simp)).trans (heap_new rfl))
 have r1 : W0.heap[w.heap.size + 1]? = some (.cells (vs .u8 96 s) 51) := by rw [← hW0]; exact (heap_old (by simp)).trans (heap_new (by simp))
 have r2 : W0.heap[w.heap.size + 2]? = some (.cells (vs .u8 32 fun _ => 0) 24) := by rw [← hW0]; exact heap_new (by simp)
 have hB0 : Below w.heap.size w W0 := by rw [← hW0]; exact (((Below.refl _ _).alloc (Nat.le_refl _) _).alloc (by simp) _).alloc (by simp <;> omega) _
 have z2 : w.heap.size + 2 < W0.heap.size := some_ltK r2
 have hk0 := hk.below hB0
 have hC0 := hC.below hB0
 have zr := zero_root
 have hap1 : ∀ (W : World) v, Below W0.heap.size W0 W → W.ownsRow W0.heap.size 5 1 v (48 * n) (bl (qsF f n r s) (48 * n)) → ∀ ty : TypeId, ∃ g C w', (ap22 ty v (.slice (some ⟨w.heap.size, 0, none⟩) 32 32)).run Tryz.prog W = .ok (.slice (some ⟨g, 0, none⟩) (48 * n + 32) C) w' ∧ w'.ownsRow W0.heap.size 5 1 (.slice (some ⟨g, 0, none⟩) (48 * n + 32) C) (48 * n + 32) (bl (qsF f n r s) (48 * n + 32)) ∧ Below W0.heap.size W0 w' := fun W v h ho ty => by
  obtain ⟨g, C, w', h1, h2, h3⟩ := ap_rowL W W0.heap.size v (48 * n) 32 32 w.heap.size (qsF f n r s) r ho (fun j hj => row_int ((h.block _ (by omega)).trans r0) j hj) (fun j hj => qs_two f r s n j hj) h.size (by omega) (by omega) ty
  exact ⟨g, C, w', h1, h2, h.trans h3⟩
 have hap2 : ∀ (W : World) g C, Below W0.heap.size W0 W → W.ownsRow W0.heap.size 5 1 (.slice (some ⟨g, 0, none⟩) (48 * n + 32) C) (48 * n + 32) (bl (qsF f n r s) (48 * n + 32)) → ∀ ty : TypeId, ∃ g' C' w', (ap22 ty (.slice (some ⟨g, 0, none⟩) (48 * n + 32) C) (.slice (some ⟨w.heap.size + 1, 0, none⟩) 96 96)).run Tryz.prog W = .ok (.slice (some ⟨g', 0, none⟩) (48 * n + 128) C') w' ∧ w'.ownsRow W0.heap.size 5 1 (.slice (some ⟨g', 0, none⟩) (48 * n + 128) C') (48 * n + 128) (bl (qsF f n r s) (48 * n + 128)) ∧ Below W0.heap.size W0 w' := fun W g C h ho ty => by
  obtain ⟨g', C', w', h1, h2, h3⟩ := ap_rowL W W0.heap.size _ (48 * n + 32) 96 96 (w.heap.size + 1) (qsF f n r s) s ho (fun j hj => row_int ((h.block _ (by omega)).trans r1) j hj) (fun j hj => qs_three f r s n j) h.size (by omega) (by omega) ty
  exact ⟨g', C', w', h1, h2, h.trans h3⟩
 have hsu : ∀ (W : World) g C, Below W0.heap.size W0 W → W.ownsRow W0.heap.size 5 1 (.slice (some ⟨g, 0, none⟩) (48 * n + 128) C) (48 * n + 128) (bl (qsF f n r s) (48 * n + 128)) → Calls Tryz.prog 30 #[.slice (some ⟨g, 0, none⟩) (48 * n + 128) C] W fun e w' => e = .returned (.agg (vs .u8 32 (qsV f n r s))) ∧ Below W.heap.size W w' := fun W g C h ho => refsum_wide KW (qsF f n r s) (some ⟨g, 0, none⟩) (48 * n + 128) C W (hC0.below h) (own_byF ho) (qsF_bd hf hr hs) (by omega)
 have hq1 := qs_one f r s n
 generalize qsV f n r s = X at hsu ⊢
 generalize qsF f n r s = QF at hap1 hap2 hsu hq1
 have HB := hid hB0
 have HW := hid hW0
 have HK := hid hk0
 have HAP1 := hid hap1
 have HAP2 := hid hap2
 have HSU := hid hsu
 have HR2 := hid r2
 have HQ1 := hid hq1
 clear hB0 hW0 hk0 hk hap1 hap2 hsu hC hC0 hf hr hs r0 r1 r2 hq1
 go_enter Tryz.func25, Tryz.ntmps25
 go_upto_region 1 with fail
 rw [HW.out]
 clear HW zr
 go_wp2
 go_loopg [7, 8] n (fun k v c wr => ∃ (i : Nat) (v' : Value), v = v' ∧ c = .int .i64 i ∧ i ≤ n ∧ n - i ≤ k ∧ wr.ownsRow W0.heap.size 5 1 v' (48 * i) (bl f (48 * i)) ∧ Below W0.heap.size W0 wr)
 case atStart => exact ⟨0, _, rfl, rfl, by omega, by omega, World.ownsRow_nil _ _ _ _, Below.refl _ _⟩
 case round =>
  obtain ⟨i, v, ev, rfl, hi, hk, ho, hw⟩ := hrel
  obtain rfl := ev.symm
  clear ev
  by_cases hin : i < n
  ·have h1 : (i : Int) < (n : Int) := by omega
   rcases HK.out.below hw with ⟨_, h0, _⟩ | ⟨_, _, h0⟩ | ⟨b, off, ea, hlc, hbl, hc⟩
   ·omega
   ·omega
   subst ea
   have ix := fun W => ixKy_run W b off n cap i hin
   have hby : Bys wr (some ⟨b, off + 48 * i, none⟩) 48 48 (fun j => f (48 * i + j)) := .inr (.inr ⟨b, off + 48 * i, rfl, by omega, by omega, hbl, fun j hj => by rw [Nat.add_assoc]; exact hc (48 * i + j) (by omega)⟩)
   have HO := hid ho
   have HWW := hid hw
   have HBY := hid hby
   clear ho hw hby hc hbl
   obtain ⟨P, eP⟩ : ∃ P, off + 48 * i = P := ⟨_, rfl⟩
   rw [eP] at HBY
   simp only [eP] at ix
   go_wp2_with (at_builtin; (refine wpList_append_bys wr rfl _ _ rfl W0.heap.size v (48 * i) (bl f (48 * i)) rfl HO.out (some ⟨b, P, none⟩) 48 48 _ rfl HBY.out (by omega) HWW.out.size ?_); intro v2 w2 ho2 hg2)
   have hb2 := below_grown HWW.out HO.out HWW.out.size hg2
   rw [bl_add' f _ (48 * i) 48 (fun j _ => rfl)] at ho2
   go_roundg (n - (i + 1))
   case measure => omega
   case rel => exact ⟨i + 1, _, rfl, by simp, by omega, Nat.le_refl _, by rw [show 48 * (i + 1) = 48 * i + 48 by omega]; exact ho2, hb2⟩
  ·obtain rfl : i = n := by omega
   have ho' := ho
   rw [blCongr (m := f) (m' := QF) (fun j hj => (HQ1.out j hj).symm)] at ho'
   have hdr : Below W0.heap.size W0 wr.drew := hw.drew
   have hod : wr.drew.ownsRow W0.heap.size 5 1 v (48 * i) (bl QF (48 * i)) := own_below ho' (Below.refl _ _).drew
   have HDR := hid hdr
   have HOD := hid hod
   have hap := HAP1.out
   clear HAP1
   have HAP1 := hid (fun (W : World) h ho ty => hap W v h ho ty)
   clear hap hdr hod ho ho' hw HK HQ1 hk
   go_upto_region 6 with fail
   refine wp_region_noPanic ?_
   refine wp_region_held_drew (S := fun _ => True) (by kernel_rfl) (trivial) (fun hHeld => ?_)
   refine tk 0 (v := ?v901) ?y901 hHeld ?r901
   case y901 => intro w hSw; go_simp; try with_reducible rfl
   refine tk 1 (v := ?v902) ?y902 hHeld ?r902
   case y902 => intro w hSw; go_simp; try with_reducible rfl
   refine tk 3 (v := ?v903) ?y903 hHeld ?r903
   case y903 => intro w hSw; go_simp; try with_reducible rfl
   try simp only [Act.put, z_1, z_2, z_3, z_4, z_5, z_6, z_7]
   refine wpAnyH_ready (rs := [2]) (by kernel_rfl) (by simp) ?_
   refine AllReadyH.cons rfl (fun K hK => ?_) AllReadyH.nil
   obtain ⟨g1, C1, x1, hp1, ho1, hc1⟩ := HAP1.out _ HDR.out HOD.out 39
   refine wp_append_is _ _ rfl _ _ _ _ rfl rfl hp1 ?_
   refine hK.out _ _ (trivial) (fun hHeld => ?_)
   clear hK K
   try simp only [Act.put, z_1, z_2, z_3, z_4, z_5, z_6, z_7]
   refine wpAnyH_ready (rs := [4]) (by kernel_rfl) (by simp) ?_
   refine AllReadyH.cons rfl (fun K hK => ?_) AllReadyH.nil
   obtain ⟨g2, C2, x2, hp2, ho2, hc2⟩ := HAP2.out x1 g1 C1 hc1 ho1 39
   refine wp_append_is _ _ rfl _ _ _ _ rfl rfl hp2 ?_
   refine hK.out _ _ (trivial) (fun hHeld => ?_)
   clear hK K
   try simp only [Act.put, z_1, z_2, z_3, z_4, z_5, z_6, z_7]
   refine wpAnyH_ready (rs := [5]) (by kernel_rfl) (by simp) ?_
   refine AllReadyH.cons rfl (fun K hK => ?_) AllReadyH.nil
   go_simp
   refine (HSU.out x2 g2 C2 hc2 ho2).mono ?_
   rintro e' x3 ⟨rfl, hd3⟩
   dsimp only
   have hc3 : Below W0.heap.size W0 x3 := hc2.trans (hd3.mono hc2.size)
   refine hK.out _ _ (trivial) (fun hHeld => ?_)
   clear hK K
   try simp only [Act.put, z_1, z_2, z_3, z_4, z_5, z_6, z_7]
   refine wpAnyH_ready (rs := [6]) (by kernel_rfl) (by simp) ?_
   refine AllReadyH.cons rfl (fun K hK => ?_) AllReadyH.nil
   have r4 := (hc3.block _ z2).trans HR2.out
   have v3 := sv24_run r4 X
   go_simp
   refine hK.out _ _ (trivial) (fun hHeld => ?_)
   clear hK K
   try simp only [Act.put, z_1, z_2, z_3, z_4, z_5, z_6, z_7]
   refine wpAnyH_done (by kernel_rfl) ?_ _
   refine NoPanic.normal ?_
   go_wp2
   exact ret24 6 (w.heap.size + 2) X 24 rfl rfl rfl (setRow_at r4) ⟨rfl, below_row (HB.out.trans (hc3.mono HB.out.size)) (by omega) _⟩
def ixRo (x i : Value) : Sem Value := Instr.index 24 x i
theorem ixRo_eq (x i : Value) : Instr.index 24 x i = ixRo x i := rfl
attribute [local go_sem ↓] ixRo_eq
def PDom : Prop := ∀ (x : VState) (k e : Int) (w : World), OkState x → -9223372036854775808 ≤ k → k ≤ 9223372036854775807 → 0 ≤ e → e < 18446744073709551616 → Sh w → Calls Tryz.prog 47 #[.agg (cel (sState x)), .int .i64 k, .int .u64 e] w fun e' w' => e' = .returned (.agg (vs .u8 32 (domV x k e))) ∧ Below w.heap.size w w'
def PRoo : Prop := ∀ (a b : Nat → Int) (w : World), (∀ j, j < 32 → 0 ≤ a j ∧ a j < 256) → (∀ j, j < 32 → 0 ≤ b j ∧ b j < 256) → Sh w → Calls Tryz.prog 45 #[.agg (vs .u8 32 a), .agg (vs .u8 32 b)] w fun e' w' => e' = .returned (.agg (vs .u8 32 (tw a b))) ∧ Below w.heap.size w w'
def PQue : Prop := ∀ (a : Option Addr) (n cap : Nat) (f r s : Nat → Int) (w : World), Kys w a n cap f → (∀ j, j < 48 * n → 0 ≤ f j ∧ f j < 256) → (∀ j, j < 32 → 0 ≤ r j ∧ r j < 256) → (∀ j, j < 96 → 0 ≤ s j ∧ s j < 256) → 48 * n ≤ 140737488351232 → Sh w → Calls Tryz.prog 48 #[.slice a n cap, .agg (vs .u8 32 r), .agg (vs .u8 96 s)] w fun e' w' => e' = .returned (.agg (vs .u8 32 (qsV f n r s))) ∧ Below w.heap.size w w'
def PGoo : Prop := ∀ (q f : Nat → Int) (a : Option Addr) (n cap : Nat) (w : World), Rts w a n cap f → n ≤ 9223372036854775807 → Calls Tryz.prog 18 #[.agg (vs .u8 32 q), .slice a n cap] w fun e' w' => e' = .returned (.bool (gdB q f n)) ∧ Below w.heap.size w w'
end
section
open Go.RowKit
set_option linter.unusedVariables false
set_option linter.unusedSimpArgs false
set_option maxRecDepth 20000
attribute [local go_sem ↓] lvState_eq svState_eq bdState_eq sv24_eq lv24_eq
def lvSg (a : Addr) : Sem Value := loadVar 51 a
theorem lvSg_eq (a : Addr) : loadVar 51 a = lvSg a := rfl
def svSg (a : Addr) (v : Value) : Sem Unit := storeVar 51 a v
theorem svSg_eq (a : Addr) (v : Value) : storeVar 51 a v = svSg a v := rfl
def svDd (a : Addr) (v : Value) : Sem Unit := storeVar 158 a v
theorem svDd_eq (a : Addr) (v : Value) : storeVar 158 a v = svDd a v := rfl
def lvDd (a : Addr) : Sem Value := loadVar 158 a
theorem lvDd_eq (a : Addr) : loadVar 158 a = lvDd a := rfl
attribute [local go_sem ↓] lvSg_eq svSg_eq lvDd_eq svDd_eq
end
section
open Go.RowKit
set_option linter.unusedVariables false
set_option linter.unusedSimpArgs false
set_option maxRecDepth 20000
theorem apR_own (W : World) (B : Nat) (v : Value) (n : Nat) (m : Nat → Int) (ho : W.ownsRow B 24 32 v n (bl m (32 * n))) (ao : Option Addr) (len cap : Nat) (f : Nat → Int) (hb : Rts W ao len cap f) (hbd : (n + len) * 32 ≤ 140737488355328) (hB : B ≤ W.heap.size)
    (m' : Nat → Int) (hm1 : ∀ q, q < 32 * n → m' q = m q) (hm2 : ∀ q, q < 32 * len → m' (32 * n + q) = f q) (ty : TypeId) :
    ∃ v' w', (apR ty v (.slice ao len cap)).run Tryz.prog W = .ok v' w' ∧ w'.ownsRow B 24 32 v' (n + len) (bl m' (32 * (n + len))) ∧ W.grownBy w' v.ownBlock := by
 obtain ⟨i, hi, hz0, hz1, hz2⟩ := infoR
 have hzz : (Value.agg (vs .u8 32 fun _ => 0)).cells.size = 32 := by simp [Value.cells, vs_size]
 have e : bl m (32 * n) ++ bl f (32 * len) = bl m' (32 * (n + len)) := by
  unfold bl
  rw [Nat.mul_add, List.range_add, List.map_append, List.map_map]
  congr 1
  ·exact List.map_congr_left fun j hj => by rw [hm1 j (List.mem_range.1 hj)]
  ·refine List.map_congr_left fun j hj => ?_
   show Value.int .u8 (f j) = Value.int .u8 (m' (32 * n + j))
   rw [hm2 j (List.mem_range.1 hj)]
 rcases hb with ⟨rfl, rfl, rfl⟩ | ⟨x0, rfl, rfl⟩ | ⟨b, off, rfl, hlc, hbl, hc⟩
 ·have h := run_append_owned_none (P := Tryz.prog) (w := W) B 32 ty 24 i 32 Tryz.underlying32 hi _ n _ ho
  refine ⟨_, _, h, ?_, ⟨rfl, rfl, rfl, Nat.le_refl _, fun _ _ _ => rfl⟩⟩
  rw [← e]
  simpa [bl] using ho
 ·obtain ⟨v', w', hrun, ho', hg, _⟩ := run_append_own_at (P := Tryz.prog) W B 32 ty 24 i _ 32 32 Tryz.underlying32 hi hz0 hz1 hz2 hzz (by decide) _ n _ ho x0 0 cap (bl f (32 * 0)) (by rw [bl_len])
   (fun j u hj => by
    have := (bl_get f (32 * 0) j u hj).1
    omega) (bl_one f _) (by unfold maxLen; omega) (by omega) hB
  exact ⟨v', w', hrun, by rw [← e]; exact ho', hg⟩
 ·obtain ⟨v', w', hrun, ho', hg, _⟩ := run_append_own_at (P := Tryz.prog) W B 32 ty 24 i _ 32 32 Tryz.underlying32 hi hz0 hz1 hz2 hzz (by decide) _ n _ ho ⟨b, off, none⟩ len cap (bl f (32 * len)) (by rw [bl_len]; omega)
   (fun j u hj => by
    obtain ⟨h1, rfl⟩ := bl_get f (32 * len) j u hj
    rw [addr_add]
    exact hc j h1) (bl_one f _) (by unfold maxLen; omega) (by omega) hB
  exact ⟨v', w', hrun, by rw [← e]; exact ho', hg⟩
attribute [local go_sem ↓] ixKy_eq lvKy_eq svKy_eq sv24_eq lv24_eq lvSg_eq bs22_eq
end
end Go.Proofs.YtopnhpllidegnaaGreatDoor
