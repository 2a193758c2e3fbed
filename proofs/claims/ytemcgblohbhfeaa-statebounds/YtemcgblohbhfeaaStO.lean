/-
  StateBounds, walked.
-/

import Derived.Test.YtemcgblohbhfeaaStN
namespace Go.Proofs.Ytemcgblohbhfeaa

open Go.RowKit

set_option linter.unusedVariables false

set_option linter.unusedSimpArgs false

set_option maxRecDepth 20000

theorem BI.drew {w V : World} {y : Nat} {Y : VState} (h : BI w y V Y) : BI w y V.drew Y := h.below ((Below.refl _ _).drew)

theorem nl_snoc (z : Nat → Int) (n : Nat) : nl z n ++ [.int .u64 0] = nl (fun j => if j < n then z j else 0) (n + 1) := by
  unfold nl
  rw [List.range_succ, List.map_append]
  congr 1
  · refine List.map_congr_left fun j hj => ?_
    show Value.int .u64 (z j) = Value.int .u64 (if j < n then z j else 0)
    rw [if_pos (List.mem_range.1 hj)]
  · simp

theorem src_zero {w : World} {g : Nat} {t : TypeId} (h : w.heap[g]? = some (.cells #[.int .u64 0] t)) : Src w 1 (some ⟨g, 0, none⟩) 1 1 [.int .u64 0] :=
  ⟨(fun h => by cases h), rfl, (fun u hu => by rw [List.mem_singleton.1 hu]; rfl), .inr ⟨g, 0, rfl, some_lt h, (fun j u hj => by
    have hlt := (List.getElem?_eq_some_iff.1 hj).1
    obtain rfl : j = 0 := by simpa using hlt
    rw [row_cell h]
    simpa using hj)⟩⟩

theorem wrap_nn (i : Int) : 0 ≤ IntKind.u64.wrap i := by
  rw [IntKind.wrap_u64]
  omega

theorem okR_more {Y : VState} {a : Option Addr} {c : Nat} (h : OkR Y) : OkR (moreV Y a c fun j => if j < Y.f12.n then Y.f12.z j else 0) := by
  refine ⟨h.o2, h.o11, fun j _ => ?_, h.o14, h.o21⟩
  show 0 ≤ (if j < Y.f12.n then Y.f12.z j else 0) ∧ (if j < Y.f12.n then Y.f12.z j else 0) < 18446744073709551616
  by_cases hj : j < Y.f12.n
  · rw [if_pos hj]
    exact h.o12 j hj
  · rw [if_neg hj]
    exact s64

theorem hdr_out {X : VState} (h : rightB X = true) : X.f4.f0 ≤ 1099511627776 := by
  obtain ⟨_, _, b3, _⟩ := and8 h
  unfold timB at b3
  simp only [Bool.and_eq_true, decide_eq_true_eq] at b3
  omega

theorem upd_bd {z : Nat → Int} {n K : Nat} {D : Int} (h : ∀ j, j < n → 0 ≤ z j) (hD : 0 ≤ D ∧ D ≤ z K) (j : Nat) (hj : j < n) : 0 ≤ (if j = K then D else z j) ∧ (if j = K then D else z j) ≤ z j := by
  by_cases e : j = K
  · subst e
    rw [if_pos rfl]
    exact hD
  · rw [if_neg e]
    exact ⟨h j hj, Int.le_refl _⟩

/-- One balance more. -/
theorem BI.more {w V W : World} {y : Nat} {Y : VState} {a : Option Addr} {c : Nat} (h : BI w y V Y) (hy : w.heap.size ≤ y) (ho : W.ownsRow w.heap.size 22 1 (.slice a (Y.f12.n + 1) c) (Y.f12.n + 1) (nl Y.f12.z Y.f12.n ++ [.int .u64 0])) (hg : V.grownBy W (Value.ownBlock (.slice Y.f12.a Y.f12.n Y.f12.c))) :
    InR (W.setCell ⟨y, 722, none⟩ (.slice a (Y.f12.n + 1) c)) (moreV Y a c (fun j => if j < Y.f12.n then Y.f12.z j else 0)) ∧ (W.setCell ⟨y, 722, none⟩ (.slice a (Y.f12.n + 1) c)).heap[y]? = some (.cells (cel (sState (moreV Y a c (fun j => if j < Y.f12.n then Y.f12.z j else 0)))) 49) ∧ Below w.heap.size w (W.setCell ⟨y, 722, none⟩ (.slice a (Y.f12.n + 1) c)) ∧ (∃ v, W.cell? ⟨y, 722, none⟩ = some v) ∧ W.frozen? ⟨y, 722, none⟩ = false := by
  obtain ⟨D, h1, h2, h3⟩ := h.cpd.o21
  have hne : some y ≠ Value.ownBlock (.slice Y.f12.a Y.f12.n Y.f12.c) := fun e => own_ne h.cpd.o12 h.row (by decide) e.symm
  have hrow : W.heap[y]? = some (.cells (cel (sState Y)) 49) := (hg.block y (some_lt h.row) hne).trans h.row
  have g11 : W.ownsRow w.heap.size 64 86 (.slice Y.f11.a Y.f11.n Y.f11.c) Y.f11.n (flat (fun i => celL (sValidator (Y.f11.z i))) Y.f11.n) := by
    refine h.cpd.o11.kept hg ?_
    rcases h.cpd.o12.2 with ⟨h0, _⟩ | ⟨g, cap, cur, h0, _, hc, _⟩
    · rw [h0]
      cases (Value.ownBlock (.slice Y.f11.a Y.f11.n Y.f11.c)) with
      | none => exact .inl rfl
      | some b => exact .inr (fun e => by cases e)
    · rw [h0]
      exact .inr (own_ne h.cpd.o11 hc (by decide))
  have g21 : W.ownsRow D 22 1 (.slice Y.f21.a Y.f21.n Y.f21.c) Y.f21.n (nl Y.f21.z Y.f21.n) := by
    refine h3.kept hg ?_
    cases ha : Y.f12.a with
    | none =>
      cases (Value.ownBlock (.slice Y.f21.a Y.f21.n Y.f21.c)) with
      | none => exact .inl rfl
      | some b => exact .inr (fun e => by cases e)
    | some ad => exact .inr (own_base h3 (h1 ad ha))
  have hk : Kept y W (W.setCell ⟨y, 722, none⟩ (.slice a (Y.f12.n + 1) c)) := (Kept.refl y W).setCell _ _
  have hbW : Below w.heap.size w W := by
    refine ⟨hg.os.trans h.bel.os, hg.tape.trans h.bel.tape, hg.output.trans h.bel.output, Nat.le_trans h.bel.size hg.size, fun k hk' => (hg.block k (Nat.lt_of_lt_of_le hk' h.bel.size) (fun e => ?_)).trans (h.bel.block k hk')⟩
    have := (h.cpd.o12.lt k e.symm).1
    omega
  refine ⟨⟨?_, ?_, ?_⟩, ?_, hbW.trans (hk.below hy hbW.size), some_cell hrow (by omega), row_frozen hrow _⟩
  · exact own_els (own_keptB g11 hk (own_ne g11 hrow (by decide))) (fun i => by rw [celL_len]; rfl)
  · rw [nl_snoc] at ho
    exact own_nms (own_keptB ho hk (own_ne ho hrow (by decide)))
  · exact own_nms (own_keptB g21 hk (own_ne g21 hrow (by decide)))
  · exact (row_set hrow 722 _).trans (congrArg (fun c => some (Obj.cells c 49)) (st_12 Y a (Y.f12.n + 1) c))

attribute [local go_sem ↓] lvState_eq svState_eq ixU_eq

set_option maxHeartbeats 8000000 in
theorem bounds_law (x : VState) (i less : Int) (w : World) (hx : OkState x) (hw : InW w x) (hn : NilW x) (hl : x.f11.n ≤ 9223372036854775807 ∧ x.f21.n ≤ 9223372036854775807 ∧ x.f12.n ≤ 9223372036854775807) (hi0 : -9223372036854775808 ≤ i) (hi1 : i ≤ 9223372036854775807) (hs0 : 0 ≤ less) (hs1 : less < 18446744073709551616) :
    Calls Try.prog 4 #[.agg (cel (sState x)), .int .i64 i, .int .u64 less] w fun e w' => e = .returned (.bool true) ∧ Below w.heap.size w w' := by
  obtain ⟨W0, hW0⟩ : ∃ W, w.alloc (.cells (cel (sState x)) 49) = W := ⟨_, rfl⟩
  have hB0 : Below w.heap.size w W0 := by rw [← hW0]; exact (Below.refl _ _).alloc (Nat.le_refl _) _
  have r0 : W0.heap[w.heap.size]? = some (.cells (cel (sState x)) 49) := by rw [← hW0]; exact heap_new rfl
  have z0 : w.heap.size < W0.heap.size := by rw [← hW0]; simp
  obtain ⟨b0, eb⟩ : ∃ y, w.heap.size = y := ⟨_, rfl⟩
  have HLV : Hid (∀ X, Below W0.heap.size W0 X → (lvState ⟨b0, 0, none⟩).run Try.prog X = .ok (.agg (cel (sState x))) X) := fun X h => lvState_run (by rw [← eb]; exact (h.block _ z0).trans r0)
  have HIN : Hid (∀ X, Below W0.heap.size W0 X → InW X x) := fun X h => hw.below (hB0.trans (h.mono hB0.size))
  have HB0w := hid hB0
  have HX := hid hx
  have HNW := hid hn
  have HL := hid hl
  have z := zeroState
  clear hB0 r0 hx hw hn hl
  go_enter Try.func4, Try.ntmps4
  go_upto_region 1 with fail
  clear hW0 eb z0
  go_upto_region 3 with (go_at_call 7; refine (awake10 _).mono ?_; rintro e w1 ⟨rfl, hb⟩; have S1 := hid hb; have lv1 := HLV.out _ S1.out; have HR1 := hid (right_any x w1 HX.out.r (HIN.out _ S1.out).r HL.out); clear hb)
  cases hB : rightB x
  · rw [hB] at HR1
    go_wp2_with (go_at_call 9; refine HR1.out.mono ?_; rintro e w2 ⟨rfl, hb⟩; have HB2 := hid (S1.out.trans (hb.mono S1.out.size)); clear hb)
    go_ret
    exact ⟨rfl, HB0w.out.trans (HB2.out.mono HB0w.out.size)⟩
  rw [hB] at HR1
  have HBT := hid hB
  clear hB
  go_upto_region 5 with (go_at_call 9; refine HR1.out.mono ?_; rintro e w2 ⟨rfl, hb⟩; have S2 := hid (S1.out.trans (hb.mono S1.out.size)); have lv2 := HLV.out _ S2.out; clear hb)
  clear lv1 HR1
  have HCP := hid (copy_any x w2 (HIN.out _ S2.out) HNW.out (by have := fit_out HBT.out; omega))
  go_upto_region 6 with (go_at_call 8; refine HCP.out.mono ?_; rintro e w3 ⟨X, rfl, hsim, hcp, hb⟩; have sv := svState_newv w3 oState X; have HSM := hid hsim; have HCD := hid hcp; have HB3 := hid hb; clear hb hsim hcp)
  clear lv2 HCP z
  obtain ⟨y, ey⟩ : ∃ y, w3.heap.size = y := ⟨_, rfl⟩
  obtain ⟨V0, hV⟩ : ∃ V, w3.alloc (.cells (cel (sState X)) 49) = V := ⟨_, rfl⟩
  have HBI0 : Hid (BI w2 y V0 X) := by
    obtain ⟨D, d1, d2, d3⟩ := HCD.out.o21
    have hbv : Below w3.heap.size w3 V0 := by rw [← hV]; exact (Below.refl _ _).alloc (Nat.le_refl _) _
    refine ⟨HB3.out.trans (hbv.mono HB3.out.size), ?_, ⟨ownsRow_below HCD.out.o11 hbv, ownsRow_below HCD.out.o12 hbv, D, d1, d2, ownsRow_below d3 hbv⟩⟩
    rw [← hV, ← ey]
    exact heap_new rfl
  have HY := hid (show w2.heap.size ≤ y by have := HB3.out.size; omega)
  have HRX := hid ((right_sim HSM.out).trans HBT.out)
  have HOX := hid (okR_sim HSM.out HX.out.r)
  have H40 := hid (show 0 ≤ X.f4.f0 by rw [HSM.out.e4]; exact HX.out.o4.1.1)
  rw [hV, ey]
  clear hV ey sv HCD HB3 HSM HBT
  obtain ⟨n, en⟩ : ∃ n, X.f12.n = n := ⟨_, rfl⟩
  have EN := hid en
  have E21 := hid (show X.f21.n = n by rw [(lens_out HRX.out).2, ← (lens_out HRX.out).1]; exact en)
  have l12 := cS12 HBI0.out.row
  rw [en] at l12
  have hn6 : n ≤ 65536 := by rw [← en]; exact (fit_out HRX.out).2.2.2.1
  have HN6 := hid hn6
  clear en
  by_cases hn0 : n = 0
  · obtain ⟨VA, eVA⟩ : ∃ V, V0 = V := ⟨_, rfl⟩
    obtain ⟨z12, ez12⟩ : ∃ z, X.f12.z = z := ⟨_, rfl⟩
    obtain ⟨z21, ez21⟩ : ∃ z, X.f21.z = z := ⟨_, rfl⟩
    have HBI : Hid (BI w2 y VA (lessV X z12 z21 X.f14 X.f4.f0)) := by rw [← eVA, ← ez12, ← ez21]; exact HBI0.out
    have HZ12 : Hid (∀ j, j < n → 0 ≤ z12 j ∧ z12 j ≤ X.f12.z j) := fun j hj => by omega
    have HZ21 : Hid (∀ j, j < n → 0 ≤ z21 j ∧ z21 j ≤ X.f21.z j) := fun j hj => by omega
    have nz : decide (0 < n) = false := by simp; exact hn0
    have nz2 : ¬ (0 : Int) < (n : Int) := by omega
    rw [eVA] at l12 ⊢
    clear ez12 ez21 HBI0 eVA
    obtain ⟨U, eU⟩ : ∃ U, IntKind.u64.wrap i = U := ⟨_, rfl⟩
    have u0 : 0 ≤ U := by rw [← eU]; exact wrap_nn i
    obtain ⟨J, hJ, eJ⟩ : ∃ J : Nat, J < 8 ∧ U % 8 = (J : Int) := ⟨(U % 8).toNat, by omega, by omega⟩
    have lj : VA.cell? ⟨y, 979 + J, none⟩ = some (.int .u64 (X.f14 J)) := by
      rcases seg_na HBI.out.row with h | ⟨b, off, e, _, hc⟩
      · omega
      · cases e
        exact hc J hJ
    have fj := row_frozen HBI.out.row (979 + J)
    have hzk := HOX.out.o14 J hJ
    have hzs := (small_out HOX.out HRX.out).2.2 J hJ
    have hls := less_ok (X.f14 J) less hzk.1 hs0
    obtain ⟨v, ev⟩ : ∃ v, X.f14 J = v := ⟨_, rfl⟩
    rw [ev] at lj hzk hzs hls
    obtain ⟨v0, v1⟩ := hzk
    obtain ⟨d0, d1⟩ := hls
    have nv : (v + 1 == 0) = false := by simp; omega
    have EV := hid ev
    have VV := hid (And.intro d0 d1)
    have j1 : (J : Int) < 8 := by omega
    have j0 : (0 : Int) ≤ (J : Int) := by omega
    clear ev
    go_upto_region 11 with fail
    go_region
    obtain ⟨VB, hV⟩ : ∃ V, (VA.setCell ⟨y, 979 + J, none⟩ (.int .u64 (v - less % (v + 1)))).drew = V := ⟨_, rfl⟩
    obtain ⟨s14, ez⟩ : ∃ z, (fun j => if j = J then v - less % (v + 1) else X.f14 j) = z := ⟨_, rfl⟩
    have HBJ : Hid (BI w2 y VB (lessV X z12 z21 s14 X.f4.f0)) := by
      rw [← hV, ← ez]
      exact (HBI.out.setY HY.out (979 + J) _ (na_set (lessV X z12 z21 X.f14 X.f4.f0) J hJ _) rfl rfl rfl).drew
    have HZ14 : Hid (∀ j, j < 8 → 0 ≤ s14 j ∧ s14 j ≤ X.f14 j) := fun j hj => by
      rw [← ez]
      exact upd_bd (fun j hj => (HOX.out.o14 j hj).1) (by rw [EV.out]; exact VV.out) j hj
    rw [hV]
    clear hV ez EV VV lj fj hzs v0 v1 d0 d1 nv HBI j0 j1 eJ eU u0
    have l4 := cS4 HBJ.out.row
    rw [show (lessV X z12 z21 s14 X.f4.f0).f4.f0 = X.f4.f0 from rfl] at l4
    have fj := row_frozen HBJ.out.row 43
    have hzs := hdr_out HRX.out
    have hls := less_ok X.f4.f0 less H40.out hs0
    have v0 := H40.out
    obtain ⟨v, ev⟩ : ∃ v, X.f4.f0 = v := ⟨_, rfl⟩
    rw [ev] at l4 hzs hls v0
    obtain ⟨d0, d1⟩ := hls
    have nv : (v + 1 == 0) = false := by simp; omega
    have EV := hid ev
    have VV := hid (And.intro d0 d1)
    clear ev
    go_upto_region 12 with fail
    go_region
    obtain ⟨VC, hV⟩ : ∃ V, (VB.setCell ⟨y, 43, none⟩ (.int .u64 (v - less % (v + 1)))).drew = V := ⟨_, rfl⟩
    obtain ⟨sl, esl⟩ : ∃ s, v - less % (v + 1) = s := ⟨_, rfl⟩
    have HBC : Hid (BI w2 y VC (lessV X z12 z21 s14 sl)) := by
      rw [← hV, esl]
      exact (HBJ.out.setY HY.out 43 _ (st_4 (lessV X z12 z21 s14 X.f4.f0) sl) rfl rfl rfl).drew
    have HSL := hid (show sl ≤ X.f4.f0 by rw [EV.out, ← esl]; exact VV.out.2)
    rw [hV]
    clear hV esl EV VV l4 fj hzs v0 d0 d1 nv HBJ
    have HRY : Hid (rightB (lessV X z12 z21 s14 sl) = true) := right_less HRX.out (fun j hj => (HZ12.out j (by rw [← EN.out]; exact hj)).2) (fun j hj => (HZ21.out j (by rw [← E21.out]; exact hj)).2) (fun j hj => (HZ14.out j hj).2) HSL.out
    have HOY : Hid (OkR (lessV X z12 z21 s14 sl)) := ⟨HOX.out.o2, HOX.out.o11, fun j hj => ⟨(HZ12.out j (by rw [← EN.out]; exact hj)).1, Int.lt_of_le_of_lt (HZ12.out j (by rw [← EN.out]; exact hj)).2 (HOX.out.o12 j hj).2⟩, fun j hj => ⟨(HZ14.out j hj).1, Int.lt_of_le_of_lt (HZ14.out j hj).2 (HOX.out.o14 j hj).2⟩, fun j hj => ⟨(HZ21.out j (by rw [← E21.out]; exact hj)).1, Int.lt_of_le_of_lt (HZ21.out j (by rw [← E21.out]; exact hj)).2 (HOX.out.o21 j hj).2⟩⟩
    have EYN : Hid ((lessV X z12 z21 s14 sl).f12.n = n) := EN.out
    have HLY : Hid ((lessV X z12 z21 s14 sl).f11.n ≤ 65536 ∧ (lessV X z12 z21 s14 sl).f21.n ≤ 65536 ∧ (lessV X z12 z21 s14 sl).f12.n ≤ 65536) := by
      have := fit_out HRX.out
      exact ⟨this.2.2.1, this.2.2.2.2.2.2, this.2.2.2.1⟩
    clear HZ12 HZ21 HZ14 HSL
    obtain ⟨Y, eY⟩ : ∃ Y, lessV X z12 z21 s14 sl = Y := ⟨_, rfl⟩
    rw [eY] at HBC HRY HOY EYN HLY
    clear eY
    have lvy := lvState_run HBC.out.row
    have hr := right_any Y VC HOY.out HBC.out.inR (by have := HLY.out; omega)
    rw [HRY.out] at hr
    have HR9 := hid hr
    clear hr
    go_upto_region 15 with (go_at_call 9; refine HR9.out.mono ?_; rintro e w5 ⟨rfl, hb⟩; have HBD := hid (HBC.out.below hb); clear hb)
    clear lvy HR9 HBC
    obtain ⟨W5, hW5⟩ : ∃ W, w5.alloc (.cells #[.int .u64 0] 22) = W := ⟨_, rfl⟩
    have hb5 : Below w5.heap.size w5 W5 := by rw [← hW5]; exact (Below.refl _ _).alloc (Nat.le_refl _) _
    have HBE := hid (HBD.out.below hb5)
    have r5 : W5.heap[w5.heap.size]? = some (.cells #[.int .u64 0] 22) := by rw [← hW5]; exact heap_new rfl
    have SS := hid (src_zero r5)
    have l12 := cS12 HBD.out.row
    obtain ⟨ii, hi, hz0, hz1, hz2⟩ := info_out (P := Try.prog) (t := 22) (z := .int .u64 0) (s := 1) (b := 8) (by kernel_rfl)
    have II := hid (And.intro hi (And.intro hz0 (And.intro hz1 hz2)))
    obtain ⟨q, eq⟩ : ∃ q, w5.heap.size = q := ⟨_, rfl⟩
    rw [eq] at SS
    clear hb5 r5 hi hz0 hz1 hz2
    go_upto_region 16 with (at_builtin; refine app_src _ rfl _ _ 37 rfl w2.heap.size 22 ii (.int .u64 0) 1 8 Try.underlying37 II.out.1 II.out.2.1 II.out.2.2.1 II.out.2.2.2 rfl (by omega) _ Y.f12.n _ rfl HBE.out.cpd.o12 _ _ _ _ rfl SS.out (by unfold maxLen; have := HLY.out; omega) (by have := HLY.out; omega) HBE.out.bel.size ?_; intro v6 w6 ho hg; obtain ⟨a6, c6, rfl⟩ := owns_form ho; obtain ⟨m1, m2, m3, ⟨cd, m4⟩, m5⟩ := HBE.out.more HY.out ho hg; have M1 := hid m1; have M2 := hid m2; have M3 := hid m3; clear m1 m2 m3 ho hg)
    clear l12 hW5 eq m4 m5
    obtain ⟨V6, hV6⟩ : ∃ V, w6.setCell ⟨y, 722, none⟩ (.slice a6 (Y.f12.n + 1) c6) = V := ⟨_, rfl⟩
    rw [hV6] at M1 M2 M3 ⊢
    have HOZ : Hid (OkR (moreV Y a6 c6 fun j => if j < Y.f12.n then Y.f12.z j else 0)) := okR_more HOY.out
    have HRZ : Hid (rightB (moreV Y a6 c6 fun j => if j < Y.f12.n then Y.f12.z j else 0) = false) := right_more HRY.out
    have HLZ := hid (show (moreV Y a6 c6 fun j => if j < Y.f12.n then Y.f12.z j else 0).f11.n ≤ 9223372036854775807 ∧ (moreV Y a6 c6 fun j => if j < Y.f12.n then Y.f12.z j else 0).f21.n ≤ 9223372036854775807 ∧ (moreV Y a6 c6 fun j => if j < Y.f12.n then Y.f12.z j else 0).f12.n ≤ 9223372036854775807 from by
      have := HLY.out
      exact ⟨by show Y.f11.n ≤ _; omega, by show Y.f21.n ≤ _; omega, by show Y.f12.n + 1 ≤ _; omega⟩)
    obtain ⟨Z, eZ⟩ : ∃ Z, (moreV Y a6 c6 fun j => if j < Y.f12.n then Y.f12.z j else 0) = Z := ⟨_, rfl⟩
    rw [eZ] at M1 M2 HOZ HRZ HLZ
    clear eZ hV6
    have lvz := lvState_run M2.out
    have hr := right_any Z V6 HOZ.out M1.out HLZ.out
    rw [HRZ.out] at hr
    have HR9 := hid hr
    clear hr
    go_wp2_with (go_at_call 9; refine HR9.out.mono ?_; rintro e w7 ⟨rfl, hb⟩; have HB7 := hid (M3.out.trans (hb.mono M3.out.size)); clear hb)
    go_ret
    have q1 := HB0w.out.size
    have q2 := S2.out.size
    exact ⟨rfl, HB0w.out.trans ((S2.out.mono (by omega)).trans (HB7.out.mono (by omega)))⟩
  · have n1 : (0 : Int) < (n : Int) := by omega
    obtain ⟨K, hK, eK, t1, t2⟩ := place i n (by omega)
    have nz : ((n : Int) == 0) = false := by simp; exact hn0
    have hmd : IntKind.i64.wrap (i.tmod n + n) = i.tmod n + n := by rw [IntKind.wrap_i64]; omega
    go_upto_region 9 with fail
    clear t1 t2 hmd eK nz l12
    have l12 := cS12 HBI0.out.row
    obtain ⟨g, cur, eg, hgB, hgc, _⟩ := own_block HBI0.out.cpd.o12 (by show 0 < X.f12.n; rw [EN.out]; omega)
    rw [show X.f12.a = some ⟨g, 0, none⟩ from eg, show X.f12.n = n from EN.out] at l12
    have ck : V0.cell? ⟨g, K, none⟩ = some (.int .u64 (X.f12.z K)) := by
      rcases own_nms HBI0.out.cpd.o12 with h | ⟨b, off, e, _, hc⟩
      · rw [show X.f12.n = n from EN.out] at h
        omega
      · rw [show X.f12.a = some ⟨g, 0, none⟩ from eg] at e
        cases e
        have := hc K (by show K < X.f12.n; rw [EN.out]; exact hK)
        rw [Nat.zero_add] at this
        exact this
    obtain ⟨cc, ecc⟩ : ∃ c, X.f12.c = c := ⟨_, rfl⟩
    rw [ecc] at l12
    clear ecc
    have fk := row_frozen hgc K
    have hzk := HOX.out.o12 K (by rw [EN.out]; exact hK)
    have hzs := (small_out HOX.out HRX.out).1 K (by rw [EN.out]; exact hK)
    have hls := less_ok (X.f12.z K) less hzk.1 hs0
    obtain ⟨v, ev⟩ : ∃ v, X.f12.z K = v := ⟨_, rfl⟩
    rw [ev] at ck hzk hzs hls
    obtain ⟨v0, v1⟩ := hzk
    obtain ⟨d0, d1⟩ := hls
    have nv : (v + 1 == 0) = false := by simp; omega
    have ix := fun W => ixU_run W g 0 n cc K hK
    simp only [Nat.zero_add] at ix
    have EG := hid eg
    have EV := hid ev
    have VV := hid (And.intro d0 d1)
    clear eg ev hgB hgc
    go_region
    obtain ⟨V1, hV⟩ : ∃ V, (V0.setCell ⟨g, K, none⟩ (.int .u64 (v - less % (v + 1)))).drew = V := ⟨_, rfl⟩
    obtain ⟨z12, ez⟩ : ∃ z, (fun j => if j = K then v - less % (v + 1) else X.f12.z j) = z := ⟨_, rfl⟩
    have HBI1 : Hid (BI w2 y V1 (lessV X z12 X.f21.z X.f14 X.f4.f0)) := by
      rw [← hV, ← ez]
      exact (HBI0.out.set12 (v - less % (v + 1)) (by rw [EN.out]; exact hK) EG.out).drew
    have HZ12 : Hid (∀ j, j < n → 0 ≤ z12 j ∧ z12 j ≤ X.f12.z j) := fun j hj => by
      rw [← ez]
      exact upd_bd (fun j hj => (HOX.out.o12 j (by rw [EN.out]; exact hj)).1) (by rw [EV.out]; exact VV.out) j hj
    rw [hV]
    clear hV ez EG EV VV l12 ck fk hzs v0 v1 d0 d1 nv ix
    obtain ⟨D, dd1, dd2, o21⟩ := HBI1.out.cpd.o21
    have l21 := cS21 HBI1.out.row
    obtain ⟨g, cur, eg, hgB, hgc, _⟩ := own_block o21 (by show 0 < X.f21.n; rw [E21.out]; omega)
    rw [show (lessV X z12 X.f21.z X.f14 X.f4.f0).f21.a = some ⟨g, 0, none⟩ from eg, show (lessV X z12 X.f21.z X.f14 X.f4.f0).f21.n = n from E21.out] at l21
    have ck : V1.cell? ⟨g, K, none⟩ = some (.int .u64 (X.f21.z K)) := by
      rcases own_nms o21 with h | ⟨b, off, e, _, hc⟩
      · rw [show (lessV X z12 X.f21.z X.f14 X.f4.f0).f21.n = n from E21.out] at h
        omega
      · rw [show (lessV X z12 X.f21.z X.f14 X.f4.f0).f21.a = some ⟨g, 0, none⟩ from eg] at e
        cases e
        have := hc K (by show K < X.f21.n; rw [E21.out]; exact hK)
        rw [Nat.zero_add] at this
        exact this
    obtain ⟨cc, ecc⟩ : ∃ c, (lessV X z12 X.f21.z X.f14 X.f4.f0).f21.c = c := ⟨_, rfl⟩
    rw [ecc] at l21
    clear ecc
    have fk := row_frozen hgc K
    have hzk := HOX.out.o21 K (by rw [E21.out]; exact hK)
    have hzs := (small_out HOX.out HRX.out).2.1 K (by rw [E21.out]; exact hK)
    have hls := less_ok (X.f21.z K) less hzk.1 hs0
    obtain ⟨v, ev⟩ : ∃ v, X.f21.z K = v := ⟨_, rfl⟩
    rw [ev] at ck hzk hzs hls
    obtain ⟨v0, v1⟩ := hzk
    obtain ⟨d0, d1⟩ := hls
    have nv : (v + 1 == 0) = false := by simp; omega
    have ix := fun W => ixU_run W g 0 n cc K hK
    simp only [Nat.zero_add] at ix
    have EG := hid eg
    have EV := hid ev
    have VV := hid (And.intro d0 d1)
    clear eg ev hgB hgc
    clear o21 dd1 dd2
    go_upto_region 10 with fail
    go_region
    obtain ⟨VA, hV⟩ : ∃ V, (V1.setCell ⟨g, K, none⟩ (.int .u64 (v - less % (v + 1)))).drew = V := ⟨_, rfl⟩
    obtain ⟨z21, ez⟩ : ∃ z, (fun j => if j = K then v - less % (v + 1) else X.f21.z j) = z := ⟨_, rfl⟩
    have HBI : Hid (BI w2 y VA (lessV X z12 z21 X.f14 X.f4.f0)) := by
      rw [← hV, ← ez]
      exact (HBI1.out.set21 (v - less % (v + 1)) (by show K < X.f21.n; rw [E21.out]; exact hK) EG.out).drew
    have HZ21 : Hid (∀ j, j < n → 0 ≤ z21 j ∧ z21 j ≤ X.f21.z j) := fun j hj => by
      rw [← ez]
      exact upd_bd (fun j hj => (HOX.out.o21 j (by rw [E21.out]; exact hj)).1) (by rw [EV.out]; exact VV.out) j hj
    rw [hV]
    clear hV ez EG EV VV l21 ck fk hzs v0 v1 d0 d1 nv ix HBI0 HBI1
    obtain ⟨U, eU⟩ : ∃ U, IntKind.u64.wrap i = U := ⟨_, rfl⟩
    have u0 : 0 ≤ U := by rw [← eU]; exact wrap_nn i
    obtain ⟨J, hJ, eJ⟩ : ∃ J : Nat, J < 8 ∧ U % 8 = (J : Int) := ⟨(U % 8).toNat, by omega, by omega⟩
    have lj : VA.cell? ⟨y, 979 + J, none⟩ = some (.int .u64 (X.f14 J)) := by
      rcases seg_na HBI.out.row with h | ⟨b, off, e, _, hc⟩
      · omega
      · cases e
        exact hc J hJ
    have fj := row_frozen HBI.out.row (979 + J)
    have hzk := HOX.out.o14 J hJ
    have hzs := (small_out HOX.out HRX.out).2.2 J hJ
    have hls := less_ok (X.f14 J) less hzk.1 hs0
    obtain ⟨v, ev⟩ : ∃ v, X.f14 J = v := ⟨_, rfl⟩
    rw [ev] at lj hzk hzs hls
    obtain ⟨v0, v1⟩ := hzk
    obtain ⟨d0, d1⟩ := hls
    have nv : (v + 1 == 0) = false := by simp; omega
    have EV := hid ev
    have VV := hid (And.intro d0 d1)
    have j1 : (J : Int) < 8 := by omega
    have j0 : (0 : Int) ≤ (J : Int) := by omega
    clear ev
    go_upto_region 11 with fail
    go_region
    obtain ⟨VB, hV⟩ : ∃ V, (VA.setCell ⟨y, 979 + J, none⟩ (.int .u64 (v - less % (v + 1)))).drew = V := ⟨_, rfl⟩
    obtain ⟨s14, ez⟩ : ∃ z, (fun j => if j = J then v - less % (v + 1) else X.f14 j) = z := ⟨_, rfl⟩
    have HBJ : Hid (BI w2 y VB (lessV X z12 z21 s14 X.f4.f0)) := by
      rw [← hV, ← ez]
      exact (HBI.out.setY HY.out (979 + J) _ (na_set (lessV X z12 z21 X.f14 X.f4.f0) J hJ _) rfl rfl rfl).drew
    have HZ14 : Hid (∀ j, j < 8 → 0 ≤ s14 j ∧ s14 j ≤ X.f14 j) := fun j hj => by
      rw [← ez]
      exact upd_bd (fun j hj => (HOX.out.o14 j hj).1) (by rw [EV.out]; exact VV.out) j hj
    rw [hV]
    clear hV ez EV VV lj fj hzs v0 v1 d0 d1 nv HBI j0 j1 eJ eU u0
    have l4 := cS4 HBJ.out.row
    rw [show (lessV X z12 z21 s14 X.f4.f0).f4.f0 = X.f4.f0 from rfl] at l4
    have fj := row_frozen HBJ.out.row 43
    have hzs := hdr_out HRX.out
    have hls := less_ok X.f4.f0 less H40.out hs0
    have v0 := H40.out
    obtain ⟨v, ev⟩ : ∃ v, X.f4.f0 = v := ⟨_, rfl⟩
    rw [ev] at l4 hzs hls v0
    obtain ⟨d0, d1⟩ := hls
    have nv : (v + 1 == 0) = false := by simp; omega
    have EV := hid ev
    have VV := hid (And.intro d0 d1)
    clear ev
    go_upto_region 12 with fail
    go_region
    obtain ⟨VC, hV⟩ : ∃ V, (VB.setCell ⟨y, 43, none⟩ (.int .u64 (v - less % (v + 1)))).drew = V := ⟨_, rfl⟩
    obtain ⟨sl, esl⟩ : ∃ s, v - less % (v + 1) = s := ⟨_, rfl⟩
    have HBC : Hid (BI w2 y VC (lessV X z12 z21 s14 sl)) := by
      rw [← hV, esl]
      exact (HBJ.out.setY HY.out 43 _ (st_4 (lessV X z12 z21 s14 X.f4.f0) sl) rfl rfl rfl).drew
    have HSL := hid (show sl ≤ X.f4.f0 by rw [EV.out, ← esl]; exact VV.out.2)
    rw [hV]
    clear hV esl EV VV l4 fj hzs v0 d0 d1 nv HBJ
    have HRY : Hid (rightB (lessV X z12 z21 s14 sl) = true) := right_less HRX.out (fun j hj => (HZ12.out j (by rw [← EN.out]; exact hj)).2) (fun j hj => (HZ21.out j (by rw [← E21.out]; exact hj)).2) (fun j hj => (HZ14.out j hj).2) HSL.out
    have HOY : Hid (OkR (lessV X z12 z21 s14 sl)) := ⟨HOX.out.o2, HOX.out.o11, fun j hj => ⟨(HZ12.out j (by rw [← EN.out]; exact hj)).1, Int.lt_of_le_of_lt (HZ12.out j (by rw [← EN.out]; exact hj)).2 (HOX.out.o12 j hj).2⟩, fun j hj => ⟨(HZ14.out j hj).1, Int.lt_of_le_of_lt (HZ14.out j hj).2 (HOX.out.o14 j hj).2⟩, fun j hj => ⟨(HZ21.out j (by rw [← E21.out]; exact hj)).1, Int.lt_of_le_of_lt (HZ21.out j (by rw [← E21.out]; exact hj)).2 (HOX.out.o21 j hj).2⟩⟩
    have EYN : Hid ((lessV X z12 z21 s14 sl).f12.n = n) := EN.out
    have HLY : Hid ((lessV X z12 z21 s14 sl).f11.n ≤ 65536 ∧ (lessV X z12 z21 s14 sl).f21.n ≤ 65536 ∧ (lessV X z12 z21 s14 sl).f12.n ≤ 65536) := by
      have := fit_out HRX.out
      exact ⟨this.2.2.1, this.2.2.2.2.2.2, this.2.2.2.1⟩
    clear HZ12 HZ21 HZ14 HSL
    obtain ⟨Y, eY⟩ : ∃ Y, lessV X z12 z21 s14 sl = Y := ⟨_, rfl⟩
    rw [eY] at HBC HRY HOY EYN HLY
    clear eY
    have lvy := lvState_run HBC.out.row
    have hr := right_any Y VC HOY.out HBC.out.inR (by have := HLY.out; omega)
    rw [HRY.out] at hr
    have HR9 := hid hr
    clear hr
    go_upto_region 15 with (go_at_call 9; refine HR9.out.mono ?_; rintro e w5 ⟨rfl, hb⟩; have HBD := hid (HBC.out.below hb); clear hb)
    clear lvy HR9 HBC
    obtain ⟨W5, hW5⟩ : ∃ W, w5.alloc (.cells #[.int .u64 0] 22) = W := ⟨_, rfl⟩
    have hb5 : Below w5.heap.size w5 W5 := by rw [← hW5]; exact (Below.refl _ _).alloc (Nat.le_refl _) _
    have HBE := hid (HBD.out.below hb5)
    have r5 : W5.heap[w5.heap.size]? = some (.cells #[.int .u64 0] 22) := by rw [← hW5]; exact heap_new rfl
    have SS := hid (src_zero r5)
    have l12 := cS12 HBD.out.row
    obtain ⟨ii, hi, hz0, hz1, hz2⟩ := info_out (P := Try.prog) (t := 22) (z := .int .u64 0) (s := 1) (b := 8) (by kernel_rfl)
    have II := hid (And.intro hi (And.intro hz0 (And.intro hz1 hz2)))
    obtain ⟨q, eq⟩ : ∃ q, w5.heap.size = q := ⟨_, rfl⟩
    rw [eq] at SS
    clear hb5 r5 hi hz0 hz1 hz2
    go_upto_region 16 with (at_builtin; refine app_src _ rfl _ _ 37 rfl w2.heap.size 22 ii (.int .u64 0) 1 8 Try.underlying37 II.out.1 II.out.2.1 II.out.2.2.1 II.out.2.2.2 rfl (by omega) _ Y.f12.n _ rfl HBE.out.cpd.o12 _ _ _ _ rfl SS.out (by unfold maxLen; have := HLY.out; omega) (by have := HLY.out; omega) HBE.out.bel.size ?_; intro v6 w6 ho hg; obtain ⟨a6, c6, rfl⟩ := owns_form ho; obtain ⟨m1, m2, m3, ⟨cd, m4⟩, m5⟩ := HBE.out.more HY.out ho hg; have M1 := hid m1; have M2 := hid m2; have M3 := hid m3; clear m1 m2 m3 ho hg)
    clear l12 hW5 eq m4 m5
    obtain ⟨V6, hV6⟩ : ∃ V, w6.setCell ⟨y, 722, none⟩ (.slice a6 (Y.f12.n + 1) c6) = V := ⟨_, rfl⟩
    rw [hV6] at M1 M2 M3 ⊢
    have HOZ : Hid (OkR (moreV Y a6 c6 fun j => if j < Y.f12.n then Y.f12.z j else 0)) := okR_more HOY.out
    have HRZ : Hid (rightB (moreV Y a6 c6 fun j => if j < Y.f12.n then Y.f12.z j else 0) = false) := right_more HRY.out
    have HLZ := hid (show (moreV Y a6 c6 fun j => if j < Y.f12.n then Y.f12.z j else 0).f11.n ≤ 9223372036854775807 ∧ (moreV Y a6 c6 fun j => if j < Y.f12.n then Y.f12.z j else 0).f21.n ≤ 9223372036854775807 ∧ (moreV Y a6 c6 fun j => if j < Y.f12.n then Y.f12.z j else 0).f12.n ≤ 9223372036854775807 from by
      have := HLY.out
      exact ⟨by show Y.f11.n ≤ _; omega, by show Y.f21.n ≤ _; omega, by show Y.f12.n + 1 ≤ _; omega⟩)
    obtain ⟨Z, eZ⟩ : ∃ Z, (moreV Y a6 c6 fun j => if j < Y.f12.n then Y.f12.z j else 0) = Z := ⟨_, rfl⟩
    rw [eZ] at M1 M2 HOZ HRZ HLZ
    clear eZ hV6
    have lvz := lvState_run M2.out
    have hr := right_any Z V6 HOZ.out M1.out HLZ.out
    rw [HRZ.out] at hr
    have HR9 := hid hr
    clear hr
    go_wp2_with (go_at_call 9; refine HR9.out.mono ?_; rintro e w7 ⟨rfl, hb⟩; have HB7 := hid (M3.out.trans (hb.mono M3.out.size)); clear hb)
    go_ret
    have q1 := HB0w.out.size
    have q2 := S2.out.size
    exact ⟨rfl, HB0w.out.trans ((S2.out.mono (by omega)).trans (HB7.out.mono (by omega)))⟩

end Go.Proofs.Ytemcgblohbhfeaa
