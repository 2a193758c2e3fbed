/-
  What the program's take answers.
-/

import Derived.Test.YtmapeodhcllimaaDoorJnE
import Derived.Test.YtmapeodhcllimaaDoorQI
namespace Go.Proofs.YtmapeodhcllimaaDoor

open Go.RowKit

set_option linter.unusedVariables false

set_option linter.unusedSimpArgs false

set_option maxRecDepth 20000

attribute [local go_sem ↓] lvState_eq lvDd_eq lv24_eq sv24_eq lvKy_eq bs22_eq

theorem lim_right {x : VState} (h : rightB x = true) : Lim x := by
  have := right_small h
  exact ⟨by omega, by omega, by omega, by omega, by omega⟩

theorem rts_keep {y : Nat} {V W : World} {q : Nat} {f : Nat → Int} (h : V.heap[q]? = some (.cells (vs .u8 32 f) 24)) (hk : KpL y V W) (hq : q ≠ y) : Rts W (some ⟨q, 0, none⟩) 1 1 f := by
  have := hk _ _ _ h (by decide) (by decide) (by decide) hq
  exact .inr (.inr ⟨q, 0, rfl, Nat.le_refl _, some_ltK this, fun j hj => by rw [Nat.zero_add]; exact row_int this j (by omega)⟩)

/-- What take answers. -/
def TkA (X : VState) (d : VDepositData) (f : Nat → Int) (n y : Nat) (w V : World) (e' : Ending) (V' : World) : Prop :=
  ∃ X' a c, e' = .returned (.tuple #[.slice a (tkK X d) c, .int .i64 (tkE X d f n)]) ∧ (tkE X d f n = 0 → SimF (tkS X d f n) X') ∧ BK w y V' X' ∧ Rts V' a (tkK X d) c (dpQ d) ∧ NwL V.heap.size a (tkK X d) ∧ KpL y V V'

set_option maxHeartbeats 8000000 in
theorem take_any (X : VState) (d : VDepositData) (a : Option Addr) (n cap : Nat) (f : Nat → Int) (y : Nat) (w V : World) (hb : BK w y V X) (hl : Lim X) (hl12 : X.f12.n = X.f11.n) (hd : OkDepositData d) (hr : Rts V a n cap f) (hnn : n ≤ 9223372036854775807) (hS : Sh V) :
    Calls Tryd.prog 17 #[.pointer (some ⟨y, 0, none⟩), .agg (cel (sDepositData d)), .slice a n cap] V (TkA X d f n y w V) := by
  obtain ⟨V1, hV1⟩ : ∃ W, V.alloc (.cells (cel (sDepositData d)) 54) = W := ⟨_, rfl⟩
  have r0 : V1.heap[V.heap.size]? = some (.cells (cel (sDepositData d)) 54) := by rw [← hV1]; exact heap_new rfl
  have hU1 : Up V V1 := by rw [← hV1]; exact (Below.refl _ _).alloc (Nat.le_refl _) _
  have hb1 := hb.below hU1
  have hyV : y < V.heap.size := some_ltK hb.row
  have hwV := hb.kep.size
  have hown := fun (W : World) (h : Up V1 W) => own_any X d.f0 W (hb1.below h).inW hl.1
  have htop := fun (W : World) (i : Nat) (h : BK w y W X) (hi : i < X.f12.n) => topUp_any X i y d.f2 w W h hi
  have hdq := fun (W : World) (h : Up V W) => dq_any d W hd (hS.below h)
  have hgo := fun (W : World) (h : Up V W) => goo_prog (dpQ d) f a n cap W (hr.below h) hnn
  have hen := fun (W : World) (h : BK w y W X) => enroll_any X d y w W h hl hd
  have hls : ∀ W, Up V1 W → (lvState ⟨y, 0, none⟩).run Tryd.prog W = .ok (.agg (cel (sState X))) W := fun W h => lvState_run (upR h hb1.row)
  have HLS := hid hls
  have hlk : ∀ W, Up V1 W → (lvKy ⟨V.heap.size, 0, none⟩).run Tryd.prog W = .ok (.agg (vs .u8 48 d.f0)) W := fun W h => lvKy_mid fun j hj => by rw [Nat.zero_add]; exact cD0 (upR h r0) j hj
  have HLK := hid hlk
  clear hls hlk
  have c2 := fun W (h : Up V1 W) => cD2 (upR h r0)
  have ld := fun W (h : Up V1 W) => lvDd_run (upR h r0)
  have hrr := fun W (h : Up V1 W) => upR h r0
  have HRR := hid hrr
  clear hrr
  unfold TkA
  have hK : tkK X d = if dpO X d < X.f11.n then 0 else 1 := rfl
  have hE : tkE X d f n = if dpO X d < X.f11.n then (if 144115188075855872 < d.f2 then 2 else 0) else if gdB (dpQ d) f n = true then (if 65536 ≤ X.f11.n then 6 else if 144115188075855872 < d.f2 then 2 else 0) else 0 := rfl
  have hT : tkS X d f n = if dpO X d < X.f11.n then balS X (dpO X d) (w64 (X.f12.z (dpO X d) + d.f2)) else if gdB (dpQ d) f n = true then enS X d else X := rfl
  have hO : owN X.f11.z d.f0 X.f11.n = dpO X d := rfl
  simp only [hO] at hown
  obtain ⟨EE, eEE⟩ : ∃ e, tkE X d f n = e := ⟨_, rfl⟩
  obtain ⟨ET, eET⟩ : ∃ e, tkS X d f n = e := ⟨_, rfl⟩
  obtain ⟨KK, eKK⟩ : ∃ e, tkK X d = e := ⟨_, rfl⟩
  rw [eEE] at hE
  rw [eET] at hT
  rw [eKK] at hK
  rw [eEE, eET, eKK]
  have HBK := hid hb1
  have HW := hid hV1
  have HU1 := hid hU1
  have HDQ := hid hdq
  have HGO := hid hgo
  have HEN := hid hen
  have HLD := hid ld
  have HC2 := hid c2
  have hlim1 := hl.1
  by_cases ho : dpO X d < X.f11.n
  · rw [if_pos ho] at hK hE hT
    simp only [if_pos ho, decide_eq_true ho] at hown
    obtain rfl : KK = 0 := hK
    have hTP := hid (fun (W : World) (h : BK w y W X) => htop W (dpO X d) h (by omega))
    have HOW := hid hown
    have hTE : EE = tpE d.f2 := hE
    have hTS : EE = 0 → SimF ET (tpS X (dpO X d) d.f2) := fun h => by
      rw [hT]
      unfold tpS
      rw [hTE] at h
      unfold tpE at h
      by_cases h2 : 144115188075855872 < d.f2
      · rw [if_pos h2] at h; omega
      · rw [if_neg h2]; exact .refl _
    obtain rfl := hTE
    have HTS := hid hTS
    clear hb hl hl12 hd hr hnn hS hV1 hU1 hb1 hown htop hdq hgo hen ld c2 hE hT eEE eET eKK hTS HDQ HGO HEN HLD hO r0 HRR
    generalize dpO X d = o at *
    generalize d.f0 = KF at *
    go_enter Tryd.func17, Tryd.ntmps17
    go_upto_region 1 with fail
    rw [HW.out]
    refine wp_region_noPanic ?_
    refine wp_region_held_drew (S := fun W => Up V1 W) (by kernel_rfl) ((Below.refl _ _).drew) (fun hHeld => ?_)
    generalize V1.drew = wd at hHeld ⊢
    refine tk 0 (v := ?v301) ?y301 hHeld ?r301
    case y301 => intro w hSw; go_simp; try with_reducible rfl
    refine tk 1 (v := ?v302) ?y302 hHeld ?r302
    case y302 => intro w hSw; go_simp; try with_reducible rfl
    refine tk 2 (v := ?v303) ?y303 hHeld ?r303
    case y303 => intro w hSw; have ld0 := HLS.out w hSw; go_simp; try with_reducible rfl
    refine tk 3 (v := ?v304) ?y304 hHeld ?r304
    case y304 => intro w hSw; go_simp; try with_reducible rfl
    refine tk 4 (v := ?v305) ?y305 hHeld ?r305
    case y305 => intro w hSw; have ld0 := HLK.out w hSw; go_simp; try with_reducible rfl
    try simp only [Act.put, List.setIfInBounds_toArray, List.set_cons_zero, List.set_cons_succ, Array.toArray_toList, List.getElem_toArray, List.getElem_cons_zero, List.getElem_cons_succ]
    refine rd1 5 (fun K hK => ?_)
    go_simp
    refine (HOW.out _ hHeld).mono ?_
    rintro e' w1 ⟨rfl, hb1⟩
    dsimp only
    have hc1 := upT hHeld hb1
    refine hK.out _ _ hc1 (fun hHeld => ?_)
    clear hK K
    try simp only [Act.put, List.setIfInBounds_toArray, List.set_cons_zero, List.set_cons_succ, Array.toArray_toList, List.getElem_toArray, List.getElem_cons_zero, List.getElem_cons_succ]
    refine tk 6 (v := ?v306) ?y306 hHeld ?r306
    case y306 => intro w hSw; go_simp; try with_reducible rfl
    refine tk 7 (v := ?v307) ?y307 hHeld ?r307
    case y307 => intro w hSw; go_simp; try with_reducible rfl
    refine tk 8 (v := ?v308) ?y308 hHeld ?r308
    case y308 => intro w hSw; go_simp; try with_reducible rfl
    refine tk 9 (v := ?v309) ?y309 hHeld ?r309
    case y309 => intro w hSw; go_simp; try with_reducible rfl
    refine tk 10 (v := ?v310) ?y310 hHeld ?r310
    case y310 => intro w hSw; go_simp; try with_reducible rfl
    try simp only [Act.put, List.setIfInBounds_toArray, List.set_cons_zero, List.set_cons_succ, Array.toArray_toList, List.getElem_toArray, List.getElem_cons_zero, List.getElem_cons_succ]
    refine wpAnyH_done (by kernel_rfl) ?_ _
    refine NoPanic.normal ?_
    have HU2 := hid hc1
    clear hb1 hc1 hHeld
    go_upto_region 3 with fail
    have c3 := HC2.out w1 HU2.out
    have HB3 := hid (HBK.out.below HU2.out)
    go_wp2_with (go_at_call 43; refine (hTP.out w1 HB3.out).mono ?_; rintro e' w3 ⟨rfl, hb3⟩)
    go_ret2
    exact ⟨_, none, 0, rfl, HTS.out, hb3.1, .inl ⟨rfl, rfl, rfl⟩, .inl rfl, (KpL.of (upT HU1.out HU2.out)).trans hb3.2⟩
  · rw [if_neg ho] at hK hE hT
    simp only [if_neg ho, decide_eq_false ho] at hown
    obtain rfl : KK = 1 := hK
    have HOW := hid hown
    have hTE : gdB (dpQ d) f n = true → EE = enE X d ∧ ET = enS X d := fun h => by
      rw [hE, hT, if_pos h, if_pos h]
      exact ⟨rfl, rfl⟩
    have hTF : gdB (dpQ d) f n = false → EE = 0 ∧ ET = X := fun h => by
      rw [hE, hT, h]
      exact ⟨rfl, rfl⟩
    obtain ⟨QV, eQV⟩ : ∃ q, dpQ d = q := ⟨_, rfl⟩
    simp only [eQV] at HDQ HGO
    rw [eQV] at hTE hTF ⊢
    have HTE := hid hTE
    have HTF := hid hTF
    have HY := hid hyV
    clear hb hl hl12 hd hr hnn hS hV1 hU1 hb1 hown htop hdq hgo hen ld c2 hE hT eEE eET eKK hTE hTF HC2 hO r0 eQV ho hyV hwV hlim1
    generalize d.f0 = KF at *
    go_enter Tryd.func17, Tryd.ntmps17
    go_upto_region 1 with fail
    rw [HW.out]
    clear HW
    refine wp_region_noPanic ?_
    refine wp_region_held_drew (S := fun W => Up V1 W) (by kernel_rfl) ((Below.refl _ _).drew) (fun hHeld => ?_)
    generalize V1.drew = wd at hHeld ⊢
    refine tk 0 (v := ?v311) ?y311 hHeld ?r311
    case y311 => intro w hSw; go_simp; try with_reducible rfl
    refine tk 1 (v := ?v312) ?y312 hHeld ?r312
    case y312 => intro w hSw; go_simp; try with_reducible rfl
    refine tk 2 (v := ?v313) ?y313 hHeld ?r313
    case y313 => intro w hSw; have ld0 := HLS.out w hSw; go_simp; try with_reducible rfl
    refine tk 3 (v := ?v314) ?y314 hHeld ?r314
    case y314 => intro w hSw; go_simp; try with_reducible rfl
    refine tk 4 (v := ?v315) ?y315 hHeld ?r315
    case y315 => intro w hSw; have ld0 := HLK.out w hSw; go_simp; try with_reducible rfl
    try simp only [Act.put, List.setIfInBounds_toArray, List.set_cons_zero, List.set_cons_succ, Array.toArray_toList, List.getElem_toArray, List.getElem_cons_zero, List.getElem_cons_succ]
    refine rd1 5 (fun K hK => ?_)
    go_simp
    refine (HOW.out _ hHeld).mono ?_
    rintro e' w1 ⟨rfl, hb1⟩
    dsimp only
    have hc1 := upT hHeld hb1
    refine hK.out _ _ hc1 (fun hHeld => ?_)
    clear hK K
    try simp only [Act.put, List.setIfInBounds_toArray, List.set_cons_zero, List.set_cons_succ, Array.toArray_toList, List.getElem_toArray, List.getElem_cons_zero, List.getElem_cons_succ]
    refine tk 6 (v := ?v316) ?y316 hHeld ?r316
    case y316 => intro w hSw; go_simp; try with_reducible rfl
    refine tk 7 (v := ?v317) ?y317 hHeld ?r317
    case y317 => intro w hSw; go_simp; try with_reducible rfl
    refine tk 8 (v := ?v318) ?y318 hHeld ?r318
    case y318 => intro w hSw; go_simp; try with_reducible rfl
    refine tk 9 (v := ?v319) ?y319 hHeld ?r319
    case y319 => intro w hSw; go_simp; try with_reducible rfl
    refine tk 10 (v := ?v320) ?y320 hHeld ?r320
    case y320 => intro w hSw; go_simp; try with_reducible rfl
    try simp only [Act.put, List.setIfInBounds_toArray, List.set_cons_zero, List.set_cons_succ, Array.toArray_toList, List.getElem_toArray, List.getElem_cons_zero, List.getElem_cons_succ]
    refine wpAnyH_done (by kernel_rfl) ?_ _
    refine NoPanic.normal ?_
    have HU2 := hid hc1
    clear hb1 hc1 hHeld
    go_upto_region 4 with fail
    have ld1 := HLD.out w1 HU2.out
    have HQ1 := hid (HDQ.out w1 (upT HU1.out HU2.out))
    have zr := zero_root
    clear HLS HLK HOW HDQ
    go_upto_region 5 with (go_at_call 44; refine HQ1.out.mono ?_; rintro e' w3 ⟨rfl, hb3⟩; have sv := sv24_newv w3 (fun _ => 0) QV)
    obtain ⟨W4, y4, hW4, ey4, r4, hd4, b4⟩ := upN2 hb3 (.cells (vs .u8 32 QV) 24)
    rw [hW4, ey4]
    have hu4 := upT HU2.out (upT hb3 hd4)
    have lq4 := lv24_run r4
    have bs1 := fun W => bs22_1 W QV
    obtain ⟨W5, y5, hW5, ey5, r5, hd5, b5⟩ := upN2 hu4 (.cells (vs .u8 32 QV) 24)
    have hu5 := upT hu4 hd5
    have lq5 := lv24_run (upR hd5 r4)
    have RQ5 := hid r5
    have HU5 := hid hu5
    have HG5 := hid (HGO.out W5 (upT HU1.out hu5))
    have y5b : V1.heap.size ≤ y5 := b5
    have y5c : V.heap.size ≤ y5 := Nat.le_trans HU1.out.size y5b
    have y5n : y5 ≠ y := by have := HY.out; omega
    have LD5 := hid (HRR.out W5 hu5)
    clear hW4 ey4 r4 hd4 b4 hu4 hb3 HQ1 HU2 hd5 hu5 sv zr HGO b5 HLD ld1 HRR
    go_upto_region 6 with fail
    clear hW5 ey5 bs1 lq4 r5
    cases hG : gdB QV f n
    · obtain ⟨rfl, rfl⟩ := HTF.out hG
      rw [hG] at HG5
      clear HTE HTF HEN LD5 hG
      go_wp2_with (go_at_call 20; refine HG5.out.mono ?_; rintro e' w6 ⟨rfl, hb6⟩)
      go_ret2
      exact ⟨ET, some ⟨y5, 0, none⟩, 1, rfl, SimF.refl _, HBK.out.below (upT HU5.out hb6), rts_keep RQ5.out (KpL.of hb6) y5n, .inr ⟨_, rfl, y5c⟩, KpL.of (upT HU1.out (upT HU5.out hb6))⟩
    · obtain ⟨e1, e2⟩ := HTE.out hG
      rw [hG] at HG5
      have hen := HEN.out
      simp only [← e1, ← e2] at hen
      clear HEN HTE HTF hG e1 e2
      have HEN := hid hen
      clear hen
      go_upto_region 8 with (go_at_call 20; refine HG5.out.mono ?_; rintro e' w6 ⟨rfl, hb6⟩)
      have ld6 := lvDd_run (upR hb6 LD5.out)
      have HE6 := hid (HEN.out w6 (HBK.out.below (upT HU5.out hb6)))
      have HU6 := hid (upT HU1.out (upT HU5.out hb6))
      have RQ6 := hid (upR hb6 RQ5.out)
      clear LD5 HEN HG5 hb6 RQ5 lq5
      go_wp2_with (go_at_call 45; refine HE6.out.mono ?_; rintro e' w7 ⟨X7, rfl, hs7, hb7, hk7⟩)
      go_ret2
      exact ⟨X7, some ⟨y5, 0, none⟩, 1, rfl, fun h => by rw [if_pos h] at hs7; exact hs7, hb7, rts_keep RQ6.out hk7 y5n, .inr ⟨_, rfl, y5c⟩, (KpL.of HU6.out).trans hk7⟩

end Go.Proofs.YtmapeodhcllimaaDoor
