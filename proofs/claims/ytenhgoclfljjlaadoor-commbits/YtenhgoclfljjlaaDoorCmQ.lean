/-
  What the program's Who answers (the code of faf6342).
-/

import Derived.Test.YtenhgoclfljjlaaDoorCmG
import Derived.Test.YtenhgoclfljjlaaDoorCmP
import Derived.Test.YtenhgoclfljjlaaDoorPqJ
namespace Go.Proofs.YtenhgoclfljjlaaDoor

open Go.RowKit

set_option linter.unusedVariables false

set_option linter.unusedSimpArgs false

set_option maxRecDepth 20000

/-- A list of the call's own, as a row that can be worked on. -/
theorem own_sr {w : World} {B : Nat} {v : Value} {l : List Int} (h : w.ownsRow B 22 1 v l.length (iv6 l)) :
    (v = .slice none 0 0 ∧ l = []) ∨ ∃ g C, v = .slice (some ⟨g, 0, none⟩) l.length C ∧ B ≤ g ∧ Q.Sr w g 0 l.toArray w := by
  rcases h.2 with ⟨h1, h2⟩ | ⟨g, cap, cur, h1, hb, hg, h2, h3, h4, h5⟩
  · exact .inl ⟨h1, List.length_eq_zero_iff.1 h2⟩
  · subst h1
    refine .inr ⟨g, cap, rfl, hb, Q.Sr.refl (h.lt g rfl).2 fun j hj => ?_⟩
    have hj2 : j < l.length := by simpa using hj
    have hj' : (iv6 l)[j]? = some (.int .u64 (l.toArray[j]!)) := by
      unfold iv6
      rw [List.getElem?_map, List.getElem?_eq_getElem hj2]
      simp [hj2]
    have := h.cells (g := g) rfl j _ hj'
    rw [addr_add] at this
    exact ⟨this, by simp [World.frozen?, hg]⟩

theorem srt_len6 (l : List Int) : (Q.srtL l).length = l.length := List.length_mergeSort _

theorem sr_nml {w w' : World} {g : Nat} {l : List Int} (h : Q.Sr w g 0 l.toArray w') : Nml w' (some ⟨g, 0, none⟩) l := by
  refine .inr ⟨g, 0, rfl, h.1, fun j hj => ?_⟩
  rw [(h.2.1 j (by simpa using hj)).1]
  simp [hj]

theorem insertion_nil (w : World) : Calls Tryd.prog 50 #[.slice none 0 0, .int .i64 0, .int .i64 0] w fun e w' => e = .returned (.tuple #[]) ∧ w' = w := by
  go_enter Tryd.func50, Tryd.ntmps50
  go_wp2
  go_loopg [6] 0 (fun k s6 wr => s6 = .int .i64 1 ∧ wr = w)
  case atStart => exact ⟨rfl, rfl⟩
  case round =>
    obtain ⟨rfl, rfl⟩ := hrel
    go_wp2
    go_end0
    exact ⟨rfl, rfl⟩

theorem pdq_nil (w : World) : Calls Tryd.prog 37 #[.slice none 0 0, .int .i64 0, .int .i64 0, .int .i64 0] w fun e w' => e = .returned (.tuple #[]) ∧ w' = w := by
  go_enter Tryd.func37, Tryd.ntmps37
  go_wp2
  go_loopg [1, 2] 0 (fun k s1 s2 wr => s1 = .int .i64 0 ∧ s2 = .int .i64 0 ∧ wr = w)
  case atStart => exact ⟨rfl, rfl, rfl⟩
  case round =>
    obtain ⟨rfl, rfl, rfl⟩ := hrel
    go_wp2_with (go_at_call 50; refine (insertion_nil _).mono ?_; rintro e w1 ⟨rfl, hw1⟩; subst hw1)
    (try simp only [Exit.inBlock, Exit.then])
    refine bodyPost_ret (results_none rfl _ _ _) rfl ?_
    exact ⟨rfl, rfl⟩

theorem sort_nil (w : World) : Calls Tryd.prog 27 #[.slice none 0 0] w fun e w' => e = .returned (.tuple #[]) ∧ w' = w := by
  have hl : ∀ W, Calls Tryd.prog 38 #[.int .u64 0] W fun e w' => e = .returned (.int .i64 0) ∧ w' = W := fun W => by
    have h := Tryd.bits_LenL 0 W (by omega) (by omega)
    rw [bitLen_eq _ (by omega)] at h
    exact h
  go_enter Tryd.func27, Tryd.ntmps27
  go_wp2_with (first
    | (go_at_call 38; refine (hl _).mono ?_; rintro e w1 ⟨rfl, hw1⟩; subst hw1)
    | (go_at_call 37; refine (pdq_nil _).mono ?_; rintro e w2 ⟨rfl, hw2⟩; subst hw2))
  go_end0
  exact ⟨rfl, rfl⟩

/-- A list of the call's own, put in order. -/
theorem sort_own (B : Nat) (v : Value) (l : List Int) (w : World) (ho : w.ownsRow B 22 1 v l.length (iv6 l)) (hl : l.length ≤ 1099511627776) :
    Calls Tryd.prog 27 #[v] w fun e w' => e = .returned (.tuple #[]) ∧ (∃ a C, v = .slice a (Q.srtL l).length C ∧ Nml w' a (Q.srtL l)) ∧ Below B w w' := by
  rcases own_sr ho with ⟨rfl, rfl⟩ | ⟨g, C, rfl, hB, hs⟩
  · refine (sort_nil w).mono ?_
    rintro e w' ⟨rfl, rfl⟩
    have e0 : Q.srtL [] = [] := List.mergeSort_nil
    rw [e0]
    exact ⟨rfl, ⟨none, 0, rfl, .inl rfl⟩, Below.refl _ _⟩
  · refine (Q.sort_any g 0 C l w hs (by omega)).mono ?_
    rintro e w' ⟨rfl, hk⟩
    exact ⟨rfl, ⟨some ⟨g, 0, none⟩, C, by rw [srt_len6], sr_nml hk⟩, hk.2.2.mono hB⟩

attribute [local go_sem ↓] lvState_eq svState_eq bdState_eq lvValidator_eq svValidator_eq ixValidator_eq sv24_eq lv24_eq

set_option maxHeartbeats 4000000 in
theorem who_any (x : VState) (sl ix : Int) (a : Option Addr) (nb cap : Nat) (b : Nat → Bool) (w : World) (ho : OkState x) (hx : Lk w x) (hS0 : Sh w) (hb : Z.Bls w a nb cap b) (s0 : 0 ≤ sl) (s1 : sl < 18446744073709551616) (i0 : 0 ≤ ix) (i1 : ix < 18446744073709551616) :
    Calls Tryd.prog 13 #[.agg (cel (sState x)), .int .u64 sl, .int .u64 ix, .slice a nb cap] w (WhA x sl ix b nb w) := by
  obtain ⟨W0, hW0⟩ : ∃ W, w.alloc (.cells (cel (sState x)) 49) = W := ⟨_, rfl⟩
  have r0 : W0.heap[w.heap.size]? = some (.cells (cel (sState x)) 49) := by rw [← hW0]; exact heap_new rfl
  have hB0 : Below w.heap.size w W0 := by rw [← hW0]; exact (Below.refl _ _).alloc (Nat.le_refl _) _
  have l0 : (lvState ⟨w.heap.size, 0, none⟩).run Tryd.prog W0 = .ok (.agg (cel (sState x))) W0 := lvState_run r0
  have hb0 := hb.below hB0
  have hof := of_prog x sl ix W0 ho (hx.below hB0) (hS0.below hB0) s0 s1 i0 i1
  unfold OfA at hof
  have hmn := cmN_le (acE x (sl / 4)).length sl ix i0
  have hlen := acE_len (e := sl / 4) hx.nb
  unfold WhA
  have HB := hid hB0
  have HW := hid hW0
  by_cases h : ix < (cnt (acE x (sl / 4)).length : Int)
  · have hE : cmE (acE x (sl / 4)).length ix = 0 := by unfold cmE; rw [if_pos h]
    rw [hE] at hof
    by_cases hq : nb = cmN (acE x (sl / 4)).length sl ix
    · have hW : whE (acE x (sl / 4)).length sl ix nb = 0 := by unfold whE; rw [if_pos h, if_pos hq]
      have hS : whS x sl ix b nb = whL (acE x (sl / 4)) (cmF (acE x (sl / 4)) (seedV x (sl / 4) 1) sl ix) b nb := by unfold whS; rw [if_pos hW]
      obtain ⟨hi1, hi2⟩ := cmF_inj (x := x) i0 h (seedV x (sl / 4) 1)
      rw [← hq] at hof hi1 hi2 hmn
      have hps : Q.srtL (pick (cmF (acE x (sl / 4)) (seedV x (sl / 4) 1) sl ix) b nb) = _ := pick_sort (L := acE x (sl / 4)) (acL_rise _ _ _) (b := b) hi1 hi2 (fun x y => decide (x ≤ y)) (fun x y => decide_eq_true_iff)
      rw [hW, hS, ← hps]
      generalize cmF (acE x (sl / 4)) (seedV x (sl / 4) 1) sl ix = F at *
      have hnb2 : nb ≤ 65536 := by omega
      have nw : (nb : Int) ≤ 65536 := by omega
      have HOF := hid hof
      have HBL := hid hb0
      clear hof hb0 hb hB0 hW0 r0 hx ho hS0 hps hi1 hi2 hS hW hE hq hmn hlen h
      go_enter Tryd.func13, Tryd.ntmps13
      go_upto_region 1 with fail
      rw [HW.out]
      clear HW
      go_upto_region 6 with (go_at_call 10; refine HOF.out.mono ?_; rintro e' w1 ⟨a1, c1, rfl, hn1, hb1⟩)
      have hbl := HBL.out.below hb1
      have HB1 := hid hb1
      have HN1 := hid hn1
      have HBL1 := hid hbl
      clear hb1 hn1 hbl l0 HOF HBL
      go_wp2
      go_loopw [12, 31] (fun v c wr => ∃ (k : Nat) (v' : Value), k ≤ nb ∧ v = v' ∧ c = .int .i64 k ∧ wr.ownsRow w1.heap.size 22 1 v' (pick F b k).length (iv6 (pick F b k)) ∧ Below w1.heap.size w1 wr) (fun _ c _ => nb - (intOf c).toNat)
      case atStart => exact ⟨0, _, by omega, rfl, rfl, World.ownsRow_nil _ _ _ _, Below.refl _ _⟩
      case round =>
        obtain ⟨k, v, hk, ev, rfl, ho, hw⟩ := hrel
        obtain rfl := ev.symm
        clear ev
        by_cases hkn : k < nb
        · have k1 : (k : Int) < (nb : Int) := by omega
          have k2 : (0 : Int) ≤ (k : Int) := by omega
          obtain ⟨b2, o2, ea2, hbl2, hc2⟩ := Z.bls_at (HBL1.out.below hw) k hkn
          rcases HN1.out.below hw with h0 | ⟨b1, o1, ea1, hbl1, hc1⟩
          · omega
          subst ea1 ea2
          have cl := hc1 k hkn
          have hstep : pick F b (k + 1) = if b k = true then pick F b k ++ [F k] else pick F b k := rfl
          have hpl := pick_len F b k
          obtain ⟨B, hB⟩ : ∃ B, b k = B := ⟨_, rfl⟩
          obtain ⟨V, hV⟩ : ∃ V, F k = V := ⟨_, rfl⟩
          rw [hV] at cl
          rw [hB, hV] at hstep
          rw [hB] at hc2
          have HO := hid ho
          have HWW := hid hw
          have HST := hid hstep
          clear ho hw hstep hc1 hbl1 hbl2 hV hB
          cases B
          · go_wp2
            go_roundw
            case rel => exact ⟨k + 1, _, by omega, rfl, by go_num, by rw [HST.out]; exact HO.out, HWW.out⟩
            case measure => simp [intOf]; omega
          · go_wp2_with (at_builtin; (refine wpList_append_one wr rfl _ _ rfl w1.heap.size v (pick F b k) V rfl HO.out rfl (by omega) HWW.out.size ?_); intro v2 w2 ho2 hg2)
            have hb2 := below_grown HWW.out HO.out HWW.out.size hg2
            go_roundw
            case rel => exact ⟨k + 1, _, by omega, rfl, by go_num, by rw [HST.out]; exact ho2, hb2⟩
            case measure => simp [intOf]; omega
        · obtain rfl : k = nb := by omega
          have hpl := pick_len F b k
          have hin := sort_own w1.heap.size v (pick F b k) wr ho (by omega)
          generalize hZ : Q.srtL (pick F b k) = Z at hin
          have HZ := hid hZ
          have HIN := hid hin
          have HWW := hid hw
          clear hin ho hw hZ
          go_upto_region 14 with (go_at_call 27; refine HIN.out.mono ?_; rintro e' w2 ⟨rfl, ⟨A, C, eA, hn2⟩, hb2⟩)
          subst eA
          go_wp2
          go_ret2
          exact ⟨A, C, by rw [HZ.out]; rfl, by rw [HZ.out]; exact hn2, HB.out.trans ((HB1.out.trans ((HWW.out.trans hb2).mono HB1.out.size)).mono HB.out.size)⟩
    · have hW : whE (acE x (sl / 4)).length sl ix nb = 32 := by unfold whE; rw [if_pos h, if_neg hq]
      have hS : whS x sl ix b nb = [] := by unfold whS; rw [if_neg (by rw [hW]; decide)]
      rw [hW, hS]
      generalize cmN (acE x (sl / 4)).length sl ix = m at *
      have hqz : ((nb : Int) == (m : Int)) = false := by simp; omega
      have HOF := hid hof
      clear hof hb0 hb hB0 hW0 r0 hx ho hS0 hS hW hE hlen h
      go_enter Tryd.func13, Tryd.ntmps13
      go_upto_region 1 with fail
      rw [HW.out]
      clear HW
      go_wp2_with (go_at_call 10; refine HOF.out.mono ?_; rintro e' w1 ⟨a1, c1, rfl, hn1, hb1⟩)
      go_ret2
      exact ⟨none, 0, rfl, .inl rfl, HB.out.trans (hb1.mono HB.out.size)⟩
  · have hE : cmE (acE x (sl / 4)).length ix = 1 := by unfold cmE; rw [if_neg h]
    have hW : whE (acE x (sl / 4)).length sl ix nb = 30 := by unfold whE; rw [if_neg h]
    have hS : whS x sl ix b nb = [] := by unfold whS; rw [if_neg (by rw [hW]; decide)]
    rw [hW, hS]
    rw [hE] at hof
    have HOF := hid hof
    clear hof hb0 hb hB0 hW0 r0 hx ho hS0 hS hW hE hlen h
    go_enter Tryd.func13, Tryd.ntmps13
    go_upto_region 1 with fail
    rw [HW.out]
    clear HW
    go_wp2_with (go_at_call 10; refine HOF.out.mono ?_; rintro e' w1 ⟨a1, c1, rfl, hn1, hb1⟩)
    go_ret2
    exact ⟨none, 0, rfl, .inl rfl, HB.out.trans (hb1.mono HB.out.size)⟩

theorem who_prog : PWho := fun x sl ix a nb cap b w ho hx hS hb s0 s1 i0 i1 => who_any x sl ix a nb cap b w ho hx hS hb s0 s1 i0 i1

end Go.Proofs.YtenhgoclfljjlaaDoor
