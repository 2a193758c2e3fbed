/-
  What SignBytes answers, by what the program's functions answer.
-/

import Derived.Test.YtmpagacbmoeipaaDoorSgF
namespace Go.Proofs.YtmpagacbmoeipaaDoor

open Go.RowKit

set_option linter.unusedVariables false

set_option linter.unusedSimpArgs false

set_option maxRecDepth 20000

/-- From the fourth byte on a domain does not hang on its kind. -/
theorem dom_four (x : VState) (k k' e : Int) (j : Nat) (h : 4 ≤ j) : domV x k e j = domV x k' e j := by
  show dmV k _ x.f1 j = dmV k' _ x.f1 j
  unfold dmV
  rw [if_neg (show ¬ j < 4 by omega), if_neg (show ¬ j < 4 by omega)]

theorem dom_low (x : VState) (k e : Int) (j : Nat) (h : j < 4) : domV x k e j = kdB k j := by
  show dmV k _ x.f1 j = kdB k j
  unfold dmV
  rw [if_pos h]

theorem kq_low (k : Int) (i : Nat) (h4 : i < 4) : IntKind.u8.wrap (IntKind.u64.wrap k / 2 ^ min (IntKind.u64.wrap (IntKind.i64.wrap (8 * (i : Int)))).toNat 64) = kdB k i := by
  have q1 : IntKind.i64.wrap (8 * (i : Int)) = 8 * (i : Int) := by rw [IntKind.wrap_i64]; omega
  have q2 : IntKind.u64.wrap (8 * (i : Int)) = 8 * (i : Int) := by rw [IntKind.wrap_u64]; omega
  have e1 : (8 * (i : Int)).toNat = 8 * i := by omega
  have h := kdB_64 k i h4
  unfold nmB at h
  rw [q1, q2, e1, Nat.min_eq_left (by omega), IntKind.wrap_u8, IntKind.wrap_u64]
  exact h

attribute [local go_sem ↓] ixKy_eq lvKy_eq svKy_eq sv24_eq lv24_eq lvSg_eq lvState_eq svState_eq bdState_eq

set_option maxHeartbeats 8000000 in
theorem signBytes_law (pE : PDep) (pR : PRoo) (pG : PGoo) (pQ : PQue) (pD : PDom) (a : Option Addr) (n cap : Nat) (f r s : Nat → Int) (x : VState) (k e : Int) (w : World) (hk : Kys w a n cap f) (hf : ∀ j, j < 48 * n → 0 ≤ f j ∧ f j < 256) (hn : 48 * n ≤ 140737488351232) (hr : ∀ j, j < 32 → 0 ≤ r j ∧ r j < 256) (hs : ∀ j, j < 96 → 0 ≤ s j ∧ s j < 256) (hx : OkState x) (hw : InW w x) (k0 : -9223372036854775808 ≤ k) (k1 : k ≤ 9223372036854775807) (e0 : 0 ≤ e) (e1 : e < 18446744073709551616) (hS : Sh w) :
    Calls Tryd.prog 6 #[.slice a n cap, .agg (vs .u8 32 r), .agg (vs .u8 96 s), .agg (cel (sState x)), .int .i64 k, .int .u64 e] w fun e' w' => e' = .returned (.bool true) ∧ Below w.heap.size w w' := by
  obtain ⟨W0, hW0⟩ : ∃ W, ((w.alloc (.cells (vs .u8 32 r) 24)).alloc (.cells (vs .u8 96 s) 56)).alloc (.cells (cel (sState x)) 49) = W := ⟨_, rfl⟩
  have r0 : W0.heap[w.heap.size]? = some (.cells (vs .u8 32 r) 24) := by rw [← hW0]; exact (heap_old (by simp <;> omega)).trans ((heap_old (by simp)).trans (heap_new rfl))
  have r1 : W0.heap[w.heap.size + 1]? = some (.cells (vs .u8 96 s) 56) := by rw [← hW0]; exact (heap_old (by simp)).trans (heap_new (by simp))
  have r2 : W0.heap[w.heap.size + 1 + 1]? = some (.cells (cel (sState x)) 49) := by rw [← hW0]; exact heap_new (by simp)
  have hB0 : Below w.heap.size w W0 := by rw [← hW0]; exact (((Below.refl _ _).alloc (Nat.le_refl _) _).alloc (by simp) _).alloc (by simp <;> omega) _
  have z2 : w.heap.size + 1 + 1 < W0.heap.size := some_ltK r2
  have hS0 := hS.below hB0
  have hw0 := hw.below hB0
  have haw := awake16 pE pR pG W0 hS0
  have hk0 := hk.below hB0
  have hlr : ∀ W : World, Below W0.heap.size W0 W → (lv24 ⟨w.heap.size, 0, none⟩).run Tryd.prog W = .ok (.agg (vs .u8 32 r)) W := fun W h => lv24_run ((h.block _ (by omega)).trans r0)
  have hls : ∀ W : World, Below W0.heap.size W0 W → (lvSg ⟨w.heap.size + 1, 0, none⟩).run Tryd.prog W = .ok (.agg (vs .u8 96 s)) W := fun W h => lvSg_run ((h.block _ (by omega)).trans r1)
  have hlx : ∀ W : World, Below W0.heap.size W0 W → (lvState ⟨w.heap.size + 1 + 1, 0, none⟩).run Tryd.prog W = .ok (.agg (cel (sState x))) W := fun W h => lvState_run ((h.block _ z2).trans r2)
  have hri : ∀ W : World, Below W0.heap.size W0 W → Calls Tryd.prog 8 #[.agg (cel (sState x))] W fun e w' => e = .returned (.bool (rightB x)) ∧ Below W.heap.size W w' := fun W h => rright_any x W hx.r' (hw0.below h).r' ⟨hx.o10.1, hx.o4.1.1, hx.o18.1.1, hx.o19.1.1, hx.o20.1.1⟩
  have hpq : ∀ W : World, Below W0.heap.size W0 W → Calls Tryd.prog 17 #[.slice a n cap, .agg (vs .u8 32 r), .agg (vs .u8 96 s)] W fun e' w' => e' = .returned (.agg (vs .u8 32 (qsV f n r s))) ∧ Below W.heap.size W w' := fun W h => pQ a n cap f r s W (hk0.below h) hf hr hs hn (hS0.below h)
  have hdo : ∀ (W : World) (q : Int), -9223372036854775808 ≤ q → q ≤ 9223372036854775807 → Below W0.heap.size W0 W → Calls Tryd.prog 9 #[.agg (cel (sState x)), .int .i64 q, .int .u64 e] W fun e' w' => e' = .returned (.agg (vs .u8 32 (domV x q e))) ∧ Below W.heap.size W w' := fun W q q0 q1 h => pD x q e W hx q0 q1 e0 e1 (hS0.below h)
  have hwt : ∀ (W1 W : World) (g : Nat) (s' f' : Nat → Int) (Lw len b off c : Nat), W0.heap.size ≤ g → Below W0.heap.size W0 W1 → Dig KW HW (qsF f n r s) Lw s' f' → W.heap[g]? = some (.cells (dg s' f' (Lw : Int)) 88) → Kept g W1 W → (∀ j, j < len → W.cell? ⟨b, off + j, none⟩ = some (.int .u8 (qsF f n r s (Lw + j)))) → b < W.heap.size → b ≠ g → Lw + len ≤ 48 * n + 128 → len ≤ c → c ≤ 96 →
      Calls Tryd.prog 23 #[.pointer (some ⟨g, 0, none⟩), .slice (some ⟨b, off, none⟩) len c] W fun e w' => e = .returned (.tuple #[]) ∧ Kept g W w' ∧ ∃ s' f', Dig KW HW (qsF f n r s) (Lw + len) s' f' ∧ w'.heap[g]? = some (.cells (dg s' f' ((Lw + len : Nat) : Int)) 88) := fun W1 W g s' f' Lw len b off c hg0 hB1 hd hg hkp hz hb hbg hL hc hc' => by
    have hk := hS0.2.1
    exact write_any KW HW (qsF f n r s) g s' f' Lw len c b off W hd hg (hkp.tab (hS0.below hB1).2 (by omega)) (by omega) hz (fun j hj => qsF_bd hf hr hs _ (by omega)) hbg hb (by omega) hc (by omega)
  have hds : ∀ (W1 W : World) (g : Nat) (s' f' : Nat → Int), W0.heap.size ≤ g → Below W0.heap.size W0 W1 → Dig KW HW (qsF f n r s) (48 * n + 128) s' f' → W.heap[g]? = some (.cells (dg s' f' ((48 * n + 128 : Nat) : Int)) 88) → Kept g W1 W → Calls Tryd.prog 24 #[.pointer (some ⟨g, 0, none⟩)] W fun e w' => e = .returned (.agg (vs .u8 32 (qsV f n r s))) ∧ Below W.heap.size W w' := fun W1 W g s' f' hg0 hB1 hd hg hkp => by
    have hk := hS0.2.1
    exact dsum_any KW HW (qsF f n r s) g s' f' (48 * n + 128) W hd hg (hkp.tab (hS0.below hB1).2 (by omega)) (by omega)
  have hnw : ∀ W : World, Below W0.heap.size W0 W → Calls Tryd.prog 22 #[] W fun e w' => e = .returned (.pointer (some ⟨W.heap.size, 0, none⟩)) ∧ w' = W.alloc (.cells (dg HW (fun _ => 0) 0) 88) := fun W h => new_any HW W (hS0.below h).1
  have hd0 : Dig KW HW (qsF f n r s) (48 * 0) HW (fun _ => 0) := dig_new KW HW (qsF f n r s) HW_bd
  have hq1 := qs_one f r s n
  have hq2 := qs_two f r s n
  have hq3 := qs_three f r s n
  have hqq : ∀ W : World, (Op.equalIn 10000 24 (.agg (vs .u8 32 (qsV f n r s))) (.agg (vs .u8 32 (qsV f n r s)))).run Tryd.prog W = .ok true W := fun W => by rw [eq32g, eqR_self]
  have kb : -9223372036854775808 ≤ IntKind.i64.wrap (k + 1) ∧ IntKind.i64.wrap (k + 1) ≤ 9223372036854775807 := by rw [IntKind.wrap_i64]; omega
  have hlow := fun j hj => dom_low x k e j hj
  have hfour := fun j hj => dom_four x k (IntKind.i64.wrap (k + 1)) e j hj
  have hd1 := fun (W : World) h => hdo W k k0 k1 h
  have hd2 := fun (W : World) h => hdo W (IntKind.i64.wrap (k + 1)) kb.1 kb.2 h
  obtain ⟨k2, ek2⟩ : ∃ q, IntKind.i64.wrap (k + 1) = q := ⟨_, rfl⟩
  rw [ek2] at hfour hd2
  generalize domV x k e = DA at hd1 hlow hfour
  generalize domV x k2 e = DB at hd2 hfour
  generalize qsV f n r s = QV at hpq hds hqq
  generalize qsF f n r s = QF at hwt hds hd0 hq1 hq2 hq3
  have HB := hid hB0
  have HW0 := hid hW0
  have HAW := hid haw
  have HK := hid hk0
  have HLR := hid hlr
  have HLS := hid hls
  have HLX := hid hlx
  have HPQ := hid hpq
  have HD1 := hid hd1
  have HD2 := hid hd2
  have HWT := hid hwt
  have HDS := hid hds
  have HNW := hid hnw
  have HD0 := hid hd0
  have HQ := hid (And.intro hq1 (And.intro hq2 hq3))
  have HR0 := hid (And.intro r0 r1)
  have HLF := hid (And.intro hlow hfour)
  have HK2 := hid ek2
  have HRI0 := hid hri
  clear hB0 hW0 haw hk0 hk hlr hls hlx hpq hdo hd1 hd2 hwt hds hnw hd0 hq1 hq2 hq3 r0 r1 r2 hlow hfour ek2 kb hri hS hS0 hw hw0 hx hf hr hs pE pR pG pQ pD
  go_enter Tryd.func6, Tryd.ntmps6
  go_upto_region 1 with fail
  rw [HW0.out]
  clear HW0
  go_upto_region 3 with (go_at_call 7; refine HAW.out.mono ?_; rintro e' w1 ⟨rfl, hb1⟩)
  have hnw := HNW.out w1 hb1
  obtain ⟨W1, hW1⟩ : ∃ W, w1.alloc (.cells (dg HW (fun _ => 0) 0) 88) = W := ⟨_, rfl⟩
  have g1 : W1.heap[w1.heap.size]? = some (.cells (dg HW (fun _ => 0) ((48 * 0 : Nat) : Int)) 88) := by rw [← hW1]; exact heap_new rfl
  have hE1 : Below w1.heap.size w1 W1 := by rw [← hW1]; exact (Below.refl _ _).alloc (Nat.le_refl _) _
  have hB1 : Below W0.heap.size W0 W1 := hb1.trans (hE1.mono hb1.size)
  have hg0 : W0.heap.size ≤ w1.heap.size := hb1.size
  rw [hW1] at hnw
  obtain ⟨g, eg⟩ : ∃ g, w1.heap.size = g := ⟨_, rfl⟩
  rw [eg] at hnw g1 hg0
  have HNN := hid hnw
  have HG1 := hid g1
  have HB1 := hid hB1
  clear hnw g1 hB1 hE1 hW1 hb1 eg HNW HAW
  go_upto_region 4 with (go_at_call 22; refine HNN.out.mono ?_; rintro e' wn ⟨rfl, ewn⟩; replace ewn := ewn.symm; subst ewn)
  go_wp2
  go_loopg [14] n (fun q c wr => ∃ (i : Nat) (s' f' : Nat → Int), c = .int .i64 i ∧ i ≤ n ∧ n - i ≤ q ∧ Dig KW HW QF (48 * i) s' f' ∧ wr.heap[g]? = some (.cells (dg s' f' ((48 * i : Nat) : Int)) 88) ∧ Kept g W1 wr)
  case atStart => exact ⟨0, HW, fun _ => 0, rfl, by omega, by omega, HD0.out, HG1.out, Kept.refl _ _⟩
  case round =>
    clear HG1 HD0
    obtain ⟨i, s', f', rfl, hi, hk, hd, hg, hkp⟩ := hrel
    have hW1s := HB1.out.size
    by_cases hin : i < n
    · have h1 : (i : Int) < (n : Int) := by omega
      rcases HK.out with ⟨_, h0, _⟩ | ⟨_, _, h0⟩ | ⟨b, off, ea, hlc, hbl, hc⟩
      · omega
      · omega
      subst ea
      have ix := fun W => ixKy_run W b off n cap i hin
      have hwt := HWT.out W1 wr g s' f' (48 * i) 48 b (off + 48 * i) 48 hg0 HB1.out hd hg hkp (fun j hj => by
        rw [HQ.out.1 _ (by omega), Nat.add_assoc]
        exact (hkp.cell (by omega) (by omega)).trans ((below_cell HB1.out hbl).trans (hc (48 * i + j) (by omega)))) (by have := hkp.size; omega) (by omega) (by omega) (by omega) (by omega)
      rw [show 48 * i + 48 = 48 * (i + 1) by omega] at hwt
      obtain ⟨P, eP⟩ : ∃ P, off + 48 * i = P := ⟨_, rfl⟩
      rw [eP] at hwt
      simp only [eP] at ix
      have HWTT := hid hwt
      have HKP := hid hkp
      clear hwt hd hg hkp hc hbl eP
      go_wp2_with (go_at_call 23; refine HWTT.out.mono ?_; rintro e' w2 ⟨rfl, hkp3, s3, f3, hd3, hg3⟩)
      go_roundg (n - (i + 1))
      case measure => omega
      case rel => exact ⟨i + 1, s3, f3, by simp, by omega, Nat.le_refl _, hd3, hg3, HKP.out.trans hkp3⟩
    · obtain rfl : n = i := by omega
      obtain ⟨R0, R1⟩ := HR0.out
      have hwt1 := HWT.out W1 wr g s' f' (48 * n) 32 w.heap.size 0 32 hg0 HB1.out hd hg hkp (fun j hj => by
        rw [HQ.out.2.1 j hj, Nat.zero_add]
        exact (hkp.cell (by omega) (by omega)).trans (row_int ((HB1.out.block _ (by omega)).trans R0) j hj)) (by have := hkp.size; omega) (by omega) (by omega) (by omega) (by omega)
      have HW1 := hid hwt1
      have HKP := hid hkp
      clear hwt1 hd hg hkp
      go_upto_region 11 with (go_at_call 23; refine HW1.out.mono ?_; rintro e' w3 ⟨rfl, hkp3, s3, f3, hd3, hg3⟩)
      have hkq := HKP.out.trans hkp3
      have hwt2 := HWT.out W1 w3 g s3 f3 (48 * n + 32) 96 (w.heap.size + 1) 0 96 hg0 HB1.out hd3 hg3 hkq (fun j hj => by
        rw [HQ.out.2.2 j, Nat.zero_add]
        exact (hkq.cell (by omega) (by omega)).trans (row_int ((HB1.out.block _ (by omega)).trans R1) j hj)) (by have := hkq.size; omega) (by omega) (by omega) (by omega) (by omega)
      have HW2 := hid hwt2
      have HKQ := hid hkq
      clear hwt2 hkq hd3 hg3 hkp3 HW1 HKP
      go_upto_region 12 with (go_at_call 23; refine HW2.out.mono ?_; rintro e' w4 ⟨rfl, hkp4, s4, f4, hd4, hg4⟩)
      have hkr := HKQ.out.trans hkp4
      have hB4 : Below W0.heap.size W0 w4 := HB1.out.trans (hkr.below hg0 hW1s)
      have lr := HLR.out w4 hB4
      have ls := HLS.out w4 hB4
      have hpq := HPQ.out w4 hB4
      have hds := fun (W : World) (h : Below w4.heap.size w4 W) => HDS.out W1 W g s4 f4 hg0 HB1.out hd4 ((h.block _ (some_ltK hg4)).trans hg4) (hkr.trans (Kept.ofBelow h))
      have HPQQ := hid hpq
      have HDSS := hid hds
      have HB4 := hid hB4
      clear hpq hds hB4 hkr hd4 hg4 hkp4 HKQ HW2 R0 R1 HR0 HWT HDS HPQ HQ HK HLR HLS HB1
      go_upto_region 14 with (first
        | (go_at_call 17; refine HPQQ.out.mono ?_; rintro e' w5 ⟨rfl, hb5⟩)
        | (go_at_call 24; refine (HDSS.out w5 hb5).mono ?_; rintro e' w6 ⟨rfl, hb6⟩))
      have hB6 : Below W0.heap.size W0 w6 := HB4.out.trans ((hb5.trans (hb6.mono hb5.size)).mono HB4.out.size)
      have lx := HLX.out w6 hB6
      have hri := HRI0.out w6 hB6
      clear lr ls hqq hb5 hb6 HPQQ HDSS HB4
      cases hRR : rightB x
      · rw [hRR] at hri
        have HRI := hid hri
        have HB6 := hid hB6
        clear hri hB6
        go_wp2_with (go_at_call 8; refine HRI.out.mono ?_; rintro e' w7 ⟨rfl, hb7⟩)
        go_ret
        exact ⟨rfl, HB.out.trans ((HB6.out.trans (hb7.mono HB6.out.size)).mono HB.out.size)⟩
      · rw [hRR] at hri
        have HRI := hid hri
        have HB6 := hid hB6
        have zr := zero_root
        have va := fun W => sv24_newv W (fun _ => 0) DA
        have vb := fun W => sv24_newv W (fun _ => 0) DB
        clear hri hB6
        go_upto_region 16 with (go_at_call 8; refine HRI.out.mono ?_; rintro e' w7 ⟨rfl, hb7⟩)
        have hB7 : Below W0.heap.size W0 w7 := HB6.out.trans (hb7.mono HB6.out.size)
        have lx7 := HLX.out w7 hB7
        have hd1 := HD1.out w7 hB7
        have HDD := hid hd1
        have HB7 := hid hB7
        clear hd1 hB7 lx hb7 HB6 HRI
        go_upto_region 17 with (go_at_call 9; refine HDD.out.mono ?_; rintro e' w8 ⟨rfl, hb8⟩)
        obtain ⟨W8, hW8⟩ : ∃ W, w8.alloc (.cells (vs .u8 32 DA) 24) = W := ⟨_, rfl⟩
        rw [hW8]
        have r8 : W8.heap[w8.heap.size]? = some (.cells (vs .u8 32 DA) 24) := by rw [← hW8]; exact heap_new rfl
        have hB8 : Below W0.heap.size W0 W8 := by rw [← hW8]; exact (HB7.out.trans (hb8.mono HB7.out.size)).alloc (HB7.out.trans (hb8.mono HB7.out.size)).size _
        obtain ⟨ya, eya⟩ : ∃ y, w8.heap.size = y := ⟨_, rfl⟩
        rw [eya] at r8 ⊢
        have lx8 := HLX.out W8 hB8
        have hd2 := HD2.out W8 hB8
        have ek2 := HK2.out
        have HDE := hid hd2
        have HB8 := hid hB8
        have R8 := hid r8
        clear hd2 hB8 r8 hW8 eya hb8 lx7 HDD HB7
        go_upto_region 18 with (go_at_call 9; refine HDE.out.mono ?_; rintro e' w9 ⟨rfl, hb9⟩)
        obtain ⟨W9, hW9⟩ : ∃ W, w9.alloc (.cells (vs .u8 32 DB) 24) = W := ⟨_, rfl⟩
        rw [hW9]
        have r9 : W9.heap[w9.heap.size]? = some (.cells (vs .u8 32 DB) 24) := by rw [← hW9]; exact heap_new rfl
        have hE9 : Below W8.heap.size W8 W9 := by rw [← hW9]; exact hb9.alloc hb9.size _
        obtain ⟨yb, eyb⟩ : ∃ y, w9.heap.size = y := ⟨_, rfl⟩
        rw [eyb] at r9 ⊢
        have ra := (hE9.block _ (some_ltK R8.out)).trans R8.out
        have hE : Below w.heap.size w W9 := HB.out.trans ((HB8.out.trans (hE9.mono HB8.out.size)).mono HB.out.size)
        have RA := hid ra
        have RB := hid r9
        have HE := hid hE
        clear ra r9 hE hE9 hW9 eyb hb9 lx8 zr va vb ek2 HDE HB8 R8
        go_wp2
        go_loopw [17] (fun d wr => ∃ i : Nat, i ≤ 32 ∧ d = .int .i64 (i : Int) ∧ Below W9.heap.size W9 wr) (fun d _ => 32 - (intOf d).toNat)
        case atStart => exact ⟨0, by omega, rfl, Below.refl _ _⟩
        case round =>
          obtain ⟨i, hi, rfl, hb⟩ := hrel
          by_cases h32 : i < 32
          · have i32 : (i : Int) < 32 := by omega
            have i0 : (0 : Int) ≤ (i : Int) := by omega
            have iw : IntKind.i64.wrap ((i : Int) + 1) = (i : Int) + 1 := by rw [IntKind.wrap_i64]; omega
            have hca : wr.drew.cell? ⟨ya, i, none⟩ = some (.int .u8 (DA i)) := row_int ((hb.block _ (some_ltK RA.out)).trans RA.out) i h32
            have hcb : wr.drew.cell? ⟨yb, i, none⟩ = some (.int .u8 (DB i)) := row_int ((hb.block _ (some_ltK RB.out)).trans RB.out) i h32
            have HWW := hid hb
            clear hb
            by_cases h4 : i < 4
            · rw [HLF.out.1 i h4] at hca
              have kq := kq_low k i h4
              have HCA := hid hca
              have h4z : (i : Int) < 4 := by omega
              have g4'' : ¬ (4 : Int) ≤ (i : Int) := by omega
              have g4e : decide ((4 : Int) ≤ (i : Int)) = false := decide_eq_false g4''
              clear hca hcb
              go_upto_region 21 with fail
              refine wp_region_noPanic ?_
              refine wp_region_held_drew (S := fun W => W = wr.drew) (by kernel_rfl) (rfl) (fun hHeld => ?_)
              refine tk 0 (v := ?v2201) ?y2201 hHeld ?r2201
              case y2201 => intro w hSw; go_simp; try with_reducible rfl
              refine tk 1 (v := ?v2202) ?y2202 hHeld ?r2202
              case y2202 => intro w hSw; go_simp; try with_reducible rfl
              refine tk 2 (v := ?v2203) ?y2203 hHeld ?r2203
              case y2203 => intro w hSw; go_simp; try with_reducible rfl
              refine tk 3 (v := ?v2204) ?y2204 hHeld ?r2204
              case y2204 => intro w hSw; go_simp; try with_reducible rfl
              refine tk 4 (v := ?v2205) ?y2205 hHeld ?r2205
              case y2205 => intro w hSw; go_simp; try with_reducible rfl
              refine tk 5 (v := ?v2206) ?y2206 hHeld ?r2206
              case y2206 => intro w hSw; rw [hSw]; have ld := HCA.out; go_simp; try with_reducible rfl
              refine tk 6 (v := ?v2207) ?y2207 hHeld ?r2207
              case y2207 => intro w hSw; go_simp; try with_reducible rfl
              refine tk 7 (v := ?v2208) ?y2208 hHeld ?r2208
              case y2208 => intro w hSw; go_simp; try with_reducible rfl
              refine tk 8 (v := ?v2209) ?y2209 hHeld ?r2209
              case y2209 => intro w hSw; go_simp; try with_reducible rfl
              refine tk 9 (v := ?v2210) ?y2210 hHeld ?r2210
              case y2210 => intro w hSw; go_simp; try with_reducible rfl
              refine tk 10 (v := ?v2211) ?y2211 hHeld ?r2211
              case y2211 => intro w hSw; go_simp; try with_reducible rfl
              refine tk 11 (v := ?v2212) ?y2212 hHeld ?r2212
              case y2212 => intro w hSw; go_simp; try with_reducible rfl
              refine tk 12 (v := ?v2213) ?y2213 hHeld ?r2213
              case y2213 => intro w hSw; go_simp; try with_reducible rfl
              refine tk 13 (v := ?v2214) ?y2214 hHeld ?r2214
              case y2214 => intro w hSw; go_simp; try with_reducible rfl
              refine tk 14 (v := ?v2215) ?y2215 hHeld ?r2215
              case y2215 => intro w hSw; go_simp; try with_reducible rfl
              refine tk 15 (v := ?v2216) ?y2216 hHeld ?r2216
              case y2216 => intro w hSw; go_simp; try with_reducible rfl
              refine tk 16 (v := ?v2217) ?y2217 hHeld ?r2217
              case y2217 => intro w hSw; go_simp; try with_reducible rfl
              refine tk 17 (v := ?v2218) ?y2218 hHeld ?r2218
              case y2218 => intro w hSw; go_simp; try with_reducible rfl
              refine tk 18 (v := ?v2219) ?y2219 hHeld ?r2219
              case y2219 => intro w hSw; go_simp; try with_reducible rfl
              refine tl 19 hHeld ?_
              refine tl 20 hHeld ?_
              refine tl 21 hHeld ?_
              refine tl 22 hHeld ?_
              refine tl 23 hHeld ?_
              refine tl 24 hHeld ?_
              refine tl 25 hHeld ?_
              refine tk 26 (v := ?v2220) ?y2220 hHeld ?r2220
              case y2220 => intro w hSw; go_simp; try with_reducible rfl
              refine tk 27 (v := ?v2221) ?y2221 hHeld ?r2221
              case y2221 => intro w hSw; go_simp; try with_reducible rfl
              try simp only [Act.put, List.setIfInBounds_toArray, List.set_cons_zero, List.set_cons_succ, Array.toArray_toList, List.getElem_toArray, List.getElem_cons_zero, List.getElem_cons_succ]
              refine wpAnyH_done (by kernel_rfl) ?_ _
              refine NoPanic.normal ?_
              go_wp2
              go_roundw
              case rel => exact ⟨i + 1, by omega, by go_num, HWW.out.drew⟩
              case measure => simp [intOf]; omega
            · have g4 : (4 : Int) ≤ (i : Int) := by omega
              have g4' : ¬ (i : Int) < 4 := by omega
              have g4d : decide ((i : Int) < 4) = false := decide_eq_false g4'
              have g4e : decide ((4 : Int) ≤ (i : Int)) = true := decide_eq_true g4
              rw [← HLF.out.2 i (by omega)] at hcb
              have HCA := hid hca
              have HCB := hid hcb
              clear hca hcb
              go_upto_region 21 with fail
              refine wp_region_noPanic ?_
              refine wp_region_held_drew (S := fun W => W = wr.drew) (by kernel_rfl) (rfl) (fun hHeld => ?_)
              refine tk 0 (v := ?v2222) ?y2222 hHeld ?r2222
              case y2222 => intro w hSw; go_simp; try with_reducible rfl
              refine tk 1 (v := ?v2223) ?y2223 hHeld ?r2223
              case y2223 => intro w hSw; go_simp; try with_reducible rfl
              refine tk 2 (v := ?v2224) ?y2224 hHeld ?r2224
              case y2224 => intro w hSw; go_simp; try with_reducible rfl
              refine tl 3 hHeld ?_
              refine tl 4 hHeld ?_
              refine tl 5 hHeld ?_
              refine tl 6 hHeld ?_
              refine tl 7 hHeld ?_
              refine tl 8 hHeld ?_
              refine tl 9 hHeld ?_
              refine tl 10 hHeld ?_
              refine tl 11 hHeld ?_
              refine tl 12 hHeld ?_
              refine tl 13 hHeld ?_
              refine tk 14 (v := ?v2225) ?y2225 hHeld ?r2225
              case y2225 => intro w hSw; go_simp; try with_reducible rfl
              refine tk 15 (v := ?v2226) ?y2226 hHeld ?r2226
              case y2226 => intro w hSw; go_simp; try with_reducible rfl
              refine tk 16 (v := ?v2227) ?y2227 hHeld ?r2227
              case y2227 => intro w hSw; go_simp; try with_reducible rfl
              refine tk 17 (v := ?v2228) ?y2228 hHeld ?r2228
              case y2228 => intro w hSw; go_simp; try with_reducible rfl
              refine tk 18 (v := ?v2229) ?y2229 hHeld ?r2229
              case y2229 => intro w hSw; go_simp; try with_reducible rfl
              refine tk 19 (v := ?v2230) ?y2230 hHeld ?r2230
              case y2230 => intro w hSw; go_simp; try with_reducible rfl
              refine tk 20 (v := ?v2231) ?y2231 hHeld ?r2231
              case y2231 => intro w hSw; go_simp; try with_reducible rfl
              refine tk 21 (v := ?v2232) ?y2232 hHeld ?r2232
              case y2232 => intro w hSw; rw [hSw]; have ld := HCA.out; go_simp; try with_reducible rfl
              refine tk 22 (v := ?v2233) ?y2233 hHeld ?r2233
              case y2233 => intro w hSw; go_simp; try with_reducible rfl
              refine tk 23 (v := ?v2234) ?y2234 hHeld ?r2234
              case y2234 => intro w hSw; go_simp; try with_reducible rfl
              refine tk 24 (v := ?v2235) ?y2235 hHeld ?r2235
              case y2235 => intro w hSw; rw [hSw]; have ld := HCB.out; go_simp; try with_reducible rfl
              refine tk 25 (v := ?v2236) ?y2236 hHeld ?r2236
              case y2236 => intro w hSw; go_simp; try with_reducible rfl
              refine tk 26 (v := ?v2237) ?y2237 hHeld ?r2237
              case y2237 => intro w hSw; go_simp; try with_reducible rfl
              refine tk 27 (v := ?v2238) ?y2238 hHeld ?r2238
              case y2238 => intro w hSw; go_simp; try with_reducible rfl
              try simp only [Act.put, List.setIfInBounds_toArray, List.set_cons_zero, List.set_cons_succ, Array.toArray_toList, List.getElem_toArray, List.getElem_cons_zero, List.getElem_cons_succ]
              refine wpAnyH_done (by kernel_rfl) ?_ _
              refine NoPanic.normal ?_
              go_wp2
              go_roundw
              case rel => exact ⟨i + 1, by omega, by go_num, HWW.out.drew⟩
              case measure => simp [intOf]; omega
          · obtain rfl : i = 32 := by omega
            have HWW := hid hb
            clear hb
            go_wp2
            go_ret
            exact ⟨rfl, HE.out.trans (HWW.out.mono HE.out.size)⟩

end Go.Proofs.YtmpagacbmoeipaaDoor
