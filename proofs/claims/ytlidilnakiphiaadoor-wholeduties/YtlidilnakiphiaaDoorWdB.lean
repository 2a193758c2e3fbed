/-
  What WholeDuties answers, by what the program's functions answer.
-/

import Derived.Test.YtlidilnakiphiaaDoorWdA
import Derived.Test.YtlidilnakiphiaaDoorCmD
import Derived.Test.YtlidilnakiphiaaDoorPkJ
import Derived.Test.YtlidilnakiphiaaDoorSR
import Derived.Test.YtlidilnakiphiaaDoorLkP
import Derived.Test.YtlidilnakiphiaaDoorStP
namespace Go.Proofs.YtlidilnakiphiaaDoor

open Go.RowKit

set_option linter.unusedVariables false

set_option linter.unusedSimpArgs false

set_option maxRecDepth 20000

attribute [local go_sem ↓] lvState_eq svState_eq bdState_eq lvValidator_eq svValidator_eq ixValidator_eq lvCommittee_eq svCommittee_eq ixKy_eq lvKy_eq svKy_eq ix45_eq

set_option maxHeartbeats 16000000 in
theorem wholeDuties_law (pC : PCount) (pO : POf) (pP : PProp) (pS : PSync) (pN : PNext) (x : VState) (e : Int) (w : World) (hx : OkState x) (hw : InW w x) (hl : x.f11.n ≤ 9223372036854775807 ∧ x.f21.n ≤ 9223372036854775807 ∧ x.f12.n ≤ 9223372036854775807) (e0 : 0 ≤ e) (e1 : e < 18446744073709551616) (hS : Sh w) :
    Calls Tryd.prog 3 #[.agg (cel (sState x)), .int .u64 e] w fun e' w' => e' = .returned (.bool true) ∧ Below w.heap.size w w' := by
  obtain ⟨W0, hW0⟩ : ∃ W, w.alloc (.cells (cel (sState x)) 49) = W := ⟨_, rfl⟩
  have r0 : W0.heap[w.heap.size]? = some (.cells (cel (sState x)) 49) := by rw [← hW0]; exact heap_new rfl
  have hB0 : Below w.heap.size w W0 := by rw [← hW0]; exact (Below.refl _ _).alloc (Nat.le_refl _) _
  have z0 : w.heap.size < W0.heap.size := (Array.getElem?_eq_some_iff.1 r0).1
  have hld : ∀ W : World, Below W0.heap.size W0 W → (lvState ⟨w.heap.size, 0, none⟩).run Tryd.prog W = .ok (.agg (cel (sState x))) W := fun W h => lvState_run ((h.block _ z0).trans r0)
  have hcs : ∀ W : World, Below W0.heap.size W0 W → W.cell? ⟨w.heap.size, 721, none⟩ = some (.slice x.f11.a x.f11.n x.f11.c) := fun W h => cS11 ((h.block _ z0).trans r0)
  have hc2 : ∀ W : World, Below W0.heap.size W0 W → W.cell? ⟨w.heap.size, 33, none⟩ = some (.int .u64 x.f2) := fun W h => cS2 ((h.block _ z0).trans r0)
  have hw0 := hw.below hB0
  have hS0 := hS.below hB0
  have hz1 : ∀ W : World, Below W0.heap.size W0 W → Calls Tryd.prog 4 #[.agg (cel (sState oState))] W fun e' w' => e' = .returned (.tuple #[.int .u64 (prV oState), .int .i64 7]) ∧ Below W.heap.size W w' := fun W h => by
    have := pP oState W ok_z15 (lk_zero W) (hS0.below h)
    rw [pr_zero] at this
    exact this
  have hz2 : ∀ W : World, Calls Tryd.prog 5 #[.agg (cel (sState oState)), .int .u64 0] W fun e' w' => e' = .returned (.int .u64 1) ∧ Below W.heap.size W w' := fun W => pC oState 0 W ok_z15 (lk_zero W) (by omega) (by omega)
  have bz := bd_z15
  have hri : ∀ W : World, Below W0.heap.size W0 W → Calls Tryd.prog 6 #[.agg (cel (sState x))] W fun e w' => e = .returned (.bool (rightB x)) ∧ Below W.heap.size W w' := fun W h => right_any x W hx.r (hw0.below h).r hl
  have zs := zeroState
  have svn : ∀ W : World, (svState ⟨W.heap.size, 0, none⟩ (.agg (cel (sState x)))).run Tryd.prog (W.alloc (.cells (cel (sState oState)) 49)) = .ok () (W.alloc (.cells (cel (sState x)) 49)) := fun W => svState_newv W oState x
  generalize prV oState = PV0 at hz1
  obtain ⟨xo, exo⟩ : ∃ y, oState = y := ⟨_, rfl⟩
  rw [exo] at bz zs
  simp only [exo] at hz1 hz2 svn
  have HB := hid hB0
  have HW0 := hid hW0
  have HLD := hid hld
  have HCS := hid hcs
  have HZ1 := hid hz1
  have HZ2 := hid hz2
  have ZS := hid zs
  have SVN := hid svn
  clear hz1 hz2 exo zs svn
  cases hR : rightB x
  · rw [hR] at hri
    have HRI := hid hri
    clear hri hB0 hW0 hld hw0 hw hx r0 hcs hc2 hS0 hS pC pO pP pS pN hl
    go_enter Tryd.func3, Tryd.ntmps3
    go_upto_region 1 with fail
    rw [HW0.out]
    clear HW0
    go_upto_region 4 with (first
      | (go_at_call 4; refine (HZ1.out _ (Below.refl _ _)).mono ?_; rintro e' wp ⟨rfl, hbp⟩)
      | (go_at_call 5; refine (HZ2.out _).mono ?_; rintro e' w1 ⟨rfl, hbq⟩; have hb1 := hbp.trans (hbq.mono hbp.size)))
    have l1 := HLD.out w1 hb1
    clear bz hbp hbq
    go_wp2_with (go_at_call 6; refine (HRI.out w1 hb1).mono ?_; rintro e' w2 ⟨rfl, hb2⟩)
    go_ret
    exact ⟨rfl, HB.out.trans ((hb1.trans (hb2.mono hb1.size)).mono HB.out.size)⟩
  rw [hR] at hri
  have HRI := hid hri
  have hO := rightB_out hR
  have hk0 : Lk W0 x := hO.lk hx hw0
  by_cases hg : 1099511627776 ≤ e ∨ 100 < x.f11.n
  · have hnb := hk0.nb
    obtain ⟨nV, hnV⟩ : ∃ n, x.f11.n = n := ⟨_, rfl⟩
    rw [hnV] at hg hnb
    have hcs' : ∀ W : World, Below W0.heap.size W0 W → W.cell? ⟨w.heap.size, 721, none⟩ = some (.slice x.f11.a nV x.f11.c) := by rw [← hnV]; exact hcs
    generalize x.f11.a = A at *
    generalize x.f11.c = C at *
    have HCS' := hid hcs'
    clear hri hB0 hW0 hld hw0 hw hx r0 hcs hcs' hc2 hS0 hS pC pO pP pS pN hl hO hk0 hnV HCS
    by_cases hn : 100 < nV
    · have hn' : (100 : Int) < (nV : Int) := by omega
      go_enter Tryd.func3, Tryd.ntmps3
      go_upto_region 1 with fail
      rw [HW0.out]
      clear HW0
      go_upto_region 4 with (first
        | (go_at_call 4; refine (HZ1.out _ (Below.refl _ _)).mono ?_; rintro e' wp ⟨rfl, hbp⟩)
        | (go_at_call 5; refine (HZ2.out _).mono ?_; rintro e' w1 ⟨rfl, hbq⟩; have hb1 := hbp.trans (hbq.mono hbp.size)))
      have l1 := HLD.out w1 hb1
      clear bz hbp hbq
      go_wp2_with (go_at_call 6; refine (HRI.out w1 hb1).mono ?_; rintro e' w2 ⟨rfl, hb2⟩; have c2 := HCS'.out w2 (hb1.trans (hb2.mono hb1.size)))
      go_ret
      exact ⟨rfl, HB.out.trans ((hb1.trans (hb2.mono hb1.size)).mono HB.out.size)⟩
    · have hn' : (nV : Int) ≤ 100 := by omega
      have he : 1099511627776 ≤ e := by omega
      go_enter Tryd.func3, Tryd.ntmps3
      go_upto_region 1 with fail
      rw [HW0.out]
      clear HW0
      go_upto_region 4 with (first
        | (go_at_call 4; refine (HZ1.out _ (Below.refl _ _)).mono ?_; rintro e' wp ⟨rfl, hbp⟩)
        | (go_at_call 5; refine (HZ2.out _).mono ?_; rintro e' w1 ⟨rfl, hbq⟩; have hb1 := hbp.trans (hbq.mono hbp.size)))
      have l1 := HLD.out w1 hb1
      clear bz hbp hbq
      go_wp2_with (go_at_call 6; refine (HRI.out w1 hb1).mono ?_; rintro e' w2 ⟨rfl, hb2⟩; have c2 := HCS'.out w2 (hb1.trans (hb2.mono hb1.size)))
      go_ret
      exact ⟨rfl, HB.out.trans ((hb1.trans (hb2.mono hb1.size)).mono HB.out.size)⟩
  have eb : e < 1099511627776 := by omega
  have nb : x.f11.n ≤ 100 := by omega
  have hco : ∀ W : World, Below W0.heap.size W0 W → Calls Tryd.prog 5 #[.agg (cel (sState x)), .int .u64 e] W fun e' w' => e' = .returned (.int .u64 (cnt (acE x e).length : Nat)) ∧ Below W.heap.size W w' := fun W h => pC x e W hx (hk0.below h) e0 e1
  have hof : ∀ (W : World) (t i : Nat), Below W0.heap.size W0 W → t < 4 → i < cnt (acE x e).length → Calls Tryd.prog 7 #[.agg (cel (sState x)), .int .u64 (4 * e + (t : Int)), .int .u64 (i : Int)] W fun e' w' => ∃ a cp, e' = .returned (.tuple #[.slice a (cut (acE x e).length (t * cnt (acE x e).length + i + 1) - cut (acE x e).length (t * cnt (acE x e).length + i)) cp, .int .i64 0]) ∧ N64 w' a (cut (acE x e).length (t * cnt (acE x e).length + i + 1) - cut (acE x e).length (t * cnt (acE x e).length + i)) (fun j => mbr (acE x e) (seedV x e 1) (cut (acE x e).length (t * cnt (acE x e).length + i) + j)) ∧ Below W.heap.size W w' := fun W t i h ht hi => by
    have hc := cnt_bd (acE x e).length
    refine (pO x (4 * e + (t : Int)) (i : Int) W hx (hk0.below h) (hS0.below h) (by omega) (by omega) (by omega) (by omega)).mono ?_
    rintro e' w' ⟨a, cp, he, hn, hb⟩
    have q1 : (4 * e + (t : Int)) / 4 = e := by omega
    have q2 : (4 * e + (t : Int)) % 4 = (t : Int) := by omega
    rw [q1] at he hn
    have hK : pcK (acE x e).length (4 * e + (t : Int)) (i : Int) = t * cnt (acE x e).length + i := by unfold pcK; rw [q2, Int.toNat_natCast, Int.toNat_natCast]
    have hN : cmN (acE x e).length (4 * e + (t : Int)) (i : Int) = cut (acE x e).length (t * cnt (acE x e).length + i + 1) - cut (acE x e).length (t * cnt (acE x e).length + i) := by unfold cmN; rw [if_pos (by omega), hK]
    have hE : cmE (acE x e).length (i : Int) = 0 := by unfold cmE; rw [if_pos (by omega)]
    have hF : cmF (acE x e) (seedV x e 1) (4 * e + (t : Int)) (i : Int) = fun j => mbr (acE x e) (seedV x e 1) (cut (acE x e).length (t * cnt (acE x e).length + i) + j) := by funext j; unfold cmF; rw [hK]
    rw [hN, hE] at he
    rw [hN, hF] at hn
    exact ⟨a, cp, he, hn, hb⟩
  have hFb : ∀ j, j < (acE x e).length → ∃ v : Nat, mbr (acE x e) (seedV x e 1) j = (v : Int) ∧ v < x.f11.n := fun j hj => by
    have := acL_bd x.f11.z e x.f11.n _ (mbr_mem (acE x e) (seedV x e 1) hj)
    exact ⟨(mbr (acE x e) (seedV x e 1) j).toNat, by omega, by omega⟩
  have hfin : ∀ i, i < x.f11.n → ∃ b : Bool, actB (x.f11.z i) e = b ∧ tvF (mbr (acE x e) (seedV x e 1)) (acE x e).length i = (if b = true then 1 else 0) := fun i hi => by
    refine ⟨_, rfl, ?_⟩
    unfold tvF
    rw [tmV_all (L := acE x e) (rise_nodup (acL_rise _ _ _)) (seedV x e 1) (i : Int)]
    have hm : (i : Int) ∈ acE x e ↔ 0 ≤ (i : Int) ∧ (i : Int) < (x.f11.n : Int) ∧ actB (x.f11.z (i : Int).toNat) e = true := acL_mem x.f11.z e x.f11.n (i : Int)
    rw [Int.toNat_natCast] at hm
    by_cases ha : actB (x.f11.z i) e = true
    · rw [if_pos ha, if_pos (hm.2 ⟨by omega, by omega, ha⟩)]
      rfl
    · rw [if_neg ha, if_neg (fun h => ha (hm.1 h).2.2)]
      rfl
  have hmn : (acE x e).length ≤ 100 := Nat.le_trans (acL_len _ _ _) nb
  have hc := cnt_bd (acE x e).length
  have hmo := fun q => cut_mono (acE x e).length (j := q) (k := q + 1) (by omega)
  have hle := fun q (h : q + 1 ≤ 4 * cnt (acE x e).length) => cut_le (acE x e).length (k := q + 1) h
  have hc0 := cut_zero (acE x e).length
  have hce := cut_end (acE x e).length
  have hel := hk0.el
  have hact : ∀ (i : Nat) (E : Int) (W : World), Calls Tryd.prog 8 #[.agg (cel (sValidator (x.f11.z i))), .int .u64 E] W fun e' w' => e' = .returned (.bool (actB (x.f11.z i) E)) ∧ Below W.heap.size W w' := fun i E W => active_any (x.f11.z i) E W
  have hsl := hk0.sl
  have hpp : ∀ (k : Nat) (W : World), k < 4 → Below W0.heap.size W0 W → Calls Tryd.prog 4 #[.agg (cel (sState (atS x (4 * (x.f2 / 4) + (k : Int)))))] W fun e' w' => e' = .returned (.tuple #[.int .u64 (prV (atS x (4 * (x.f2 / 4) + (k : Int)))), .int .i64 (prE (atS x (4 * (x.f2 / 4) + (k : Int))))]) ∧ Below W.heap.size W w' := fun k W hk h => pP _ W (ok_atS hx (by omega) (by omega)) (lk_atS (hk0.below h) (by omega) (by omega)) (hS0.below h)
  have hpr : ∀ k : Nat, k < 4 → _ := fun k hk => pr_atS x (x.f2 / 4) (4 * (x.f2 / 4) + (k : Int)) (by omega)
  have hsy : ∀ W : World, Below W0.heap.size W0 W → Calls Tryd.prog 9 #[.agg (cel (sState x))] W fun e' w' => ∃ a c, e' = .returned (.tuple #[.slice a (syL x).length c, .int .i64 (syE x)]) ∧ Nml w' a (syL x) ∧ Below W.heap.size W w' := fun W h => pS x W hx (hk0.below h) (hS0.below h)
  have hnx : ∀ W : World, Below W0.heap.size W0 W → Calls Tryd.prog 10 #[.agg (cel (sState x))] W fun e' w' => e' = .returned (.tuple #[.agg (cel (sCommittee (nxC x))), .int .i64 (syE x)]) ∧ Below W.heap.size W w' := fun W h => pN x W hx (hk0.below h) (hS0.below h)
  have hs2 := sy_two x
  have hky : syE x = 0 → ∀ j, kyF x j = (nxC x).f0.f0 j := fun h j => by unfold nxC; rw [if_pos h]
  have hkf : ∀ j, kyF x j = (x.f11.z ((syL x).getD (j / 48) 0).toNat).f0 (j % 48) := fun _ => rfl
  have hat : ∀ (W : World) (y : Nat) (v : Int), W.heap[y]? = some (.cells (cel (sState x)) 49) → ((W.setCell ⟨y, 33, none⟩ (.int .u64 v)).setCell ⟨y, 43, none⟩ (.int .u64 0)).heap[y]? = some (.cells (cel (sState (atS x v))) 49) := fun W y v h => atS_at v h
  have hcs' := hcs
  generalize mbr (acE x e) (seedV x e 1) = F at *
  generalize (acE x e).length = m at *
  generalize cut m = Ct at *
  generalize cnt m = c at *
  obtain ⟨nV, hnV⟩ : ∃ n, x.f11.n = n := ⟨_, rfl⟩
  rw [hnV] at hcs' hFb hfin nb hel hpr hs2
  generalize x.f11.a = A at hcs' hel
  generalize x.f11.c = C at hcs'
  generalize x.f11.z = z at hfin hel hact hpr hs2 hkf
  obtain ⟨E, eE⟩ : ∃ E, x.f2 / 4 = E := ⟨_, rfl⟩
  obtain ⟨T, eT⟩ : ∃ T, x.f2 = T := ⟨_, rfl⟩
  rw [eE] at hpp hpr hs2
  simp only [eT] at hc2 hsl
  rw [eT] at eE
  obtain ⟨sl0, sl1⟩ := hsl
  have qd : IntKind.u64.wrap (T.tdiv 4) = E := by rw [Int.tdiv_eq_ediv_of_nonneg sl0, IntKind.wrap_u64]; omega
  have E0 : 0 ≤ E := by omega
  have E1 : E < 274877906944 := by omega
  generalize nxC x = NC at hnx hky
  generalize kyF x = KF at hky hkf
  generalize syE x = SE at hsy hnx hs2 hky
  generalize syL x = SL at hsy hs2 hkf
  have HCO := hid hco
  have HOF := hid hof
  have HFB := hid hFb
  have HFI := hid hfin
  have HMO := hid hmo
  have HLE := hid hle
  have HC0 := hid hc0
  have HCE := hid hce
  have HEL := hid hel
  have HAT := hid hact
  have HCX := hid hcs'
  have HC2 := hid hc2
  have HPP := hid hpp
  have HPR := hid hpr
  have HSY := hid hsy
  have HNX := hid hnx
  have HS2 := hid hs2
  have HKY := hid (And.intro hky hkf)
  have HATS := hid hat
  have QD := hid (And.intro qd (And.intro E0 E1))
  clear hco hof hFb hfin hmo hle hc0 hce hel hact hcs' hcs HCS hri hB0 hW0 hld hw0 hw hx r0 hS0 hS pC pO pP pS pN hO hk0 hnV hR hg hc2 hpp hpr hsy hnx hs2 hky hkf hat qd E0 E1 eE eT sl0 sl1 hl
  have zz := zero_100i
  obtain ⟨hc1, hc2⟩ := hc
  have c1 : (1 : Int) ≤ (c : Int) := by omega
  have c2 : (c : Int) ≤ 2 := by omega
  go_enter Tryd.func3, Tryd.ntmps3
  go_upto_region 1 with fail
  rw [HW0.out]
  clear HW0
  go_upto_region 4 with (first
    | (go_at_call 4; refine (HZ1.out _ (Below.refl _ _)).mono ?_; rintro e' wp ⟨rfl, hbp⟩)
    | (go_at_call 5; refine (HZ2.out _).mono ?_; rintro e' w1 ⟨rfl, hbq⟩; have hb1 := hbp.trans (hbq.mono hbp.size)))
  have l1 := HLD.out w1 hb1
  clear bz hbp hbq
  go_upto_region 7 with (go_at_call 6; refine (HRI.out w1 hb1).mono ?_; rintro e' w2 ⟨rfl, hb2⟩; have hB2 := hb1.trans (hb2.mono hb1.size); have c2 := HCX.out w2 hB2)
  obtain ⟨W3, hW3⟩ : ∃ W, w2.alloc (.cells (vs .i64 100 fun _ => 0) 55) = W := ⟨_, rfl⟩
  rw [hW3]
  have r3 : W3.heap[w2.heap.size]? = some (.cells (vs .i64 100 fun _ => 0) 55) := by rw [← hW3]; exact heap_new rfl
  have hE3 : Below w2.heap.size w2 W3 := by rw [← hW3]; exact (Below.refl _ _).alloc (Nat.le_refl _) _
  have hB3 : Below W0.heap.size W0 W3 := hB2.trans (hE3.mono hB2.size)
  rw [tw_zero F] at r3
  have l3 := HLD.out W3 hB3
  have HB2 := hid hB2
  have HB3 := hid hB3
  have HR3 := hid r3
  have HE3 := hid hE3
  clear l1 c2 hb1 hb2 hB2 hW3 r3 hE3 hB3 zz
  obtain ⟨g, eg⟩ : ∃ g, w2.heap.size = g := ⟨_, rfl⟩
  go_upto_region 8 with (go_at_call 5; refine (HCO.out W3 HB3.out).mono ?_; rintro e' w4 ⟨rfl, hb4⟩)
  have hT4 : w4.heap[g]? = some (.cells (vs .i64 100 (tvF F 0)) 55) ∧ Below g w2 w4 := by
    rw [← eg]
    exact ⟨(hb4.block _ (some_lt HR3.out)).trans HR3.out, HE3.out.trans (hb4.mono HE3.out.size)⟩
  have HT4 := hid hT4
  have HG := hid eg
  have h0b : ∀ W : World, Below g w2 W → Below W0.heap.size W0 W := fun W h => by
    rw [← eg] at h
    exact HB2.out.trans (h.mono HB2.out.size)
  have H0B := hid h0b
  have hgs : ∀ W : World, Below g w2 W → g ≤ W.heap.size := fun W h => by
    have := h.size
    omega
  have HGS := hid hgs
  clear hgs
  have hgb : w.heap.size < g ∧ W0.heap.size ≤ g := by
    rw [← eg]
    exact ⟨Nat.lt_of_lt_of_le z0 HB2.out.size, HB2.out.size⟩
  have HGB := hid hgb
  clear l3 hb4 HR3 HE3 HB3 hT4 h0b hgb HRI HCO eg
  have ew : IntKind.u64.wrap (4 * e) = 4 * e := by rw [IntKind.wrap_u64]; omega
  go_wp2
  go_loopw [9] (fun d wr => ∃ t : Nat, t ≤ 4 ∧ d = .int .u64 (4 * e + (t : Int)) ∧ wr.heap[g]? = some (.cells (vs .i64 100 (tvF F (Ct (t * c)))) 55) ∧ Below g w2 wr) (fun d _ => (4 * e + 4 - intOf d).toNat)
  case atStart =>
    refine ⟨0, by omega, by go_num, ?_, HT4.out.2⟩
    rw [Nat.zero_mul, HC0.out]
    exact HT4.out.1
  case round =>
    obtain ⟨t, ht, rfl, hr, hb⟩ := hrel
    clear HT4
    by_cases ht4 : t < 4
    · have t1 : 4 * e + (t : Int) < 4 * e + 4 := by omega
      obtain ⟨sl, esl⟩ : ∃ s, 4 * e + (t : Int) = s := ⟨_, rfl⟩
      have sw : IntKind.u64.wrap (sl + 1) = sl + 1 := by rw [IntKind.wrap_u64]; omega
      have hof := fun (W : World) (i : Nat) (h : Below g w2 W) (hi : i < c) => HOF.out W t i (H0B.out W h) ht4 hi
      rw [esl] at t1 hof ⊢
      have tc : t * c + c ≤ 4 * c := by have := Nat.mul_le_mul_right c (show t + 1 ≤ 4 by omega); rw [Nat.succ_mul] at this; exact this
      have et : (t + 1) * c = t * c + c := Nat.succ_mul t c
      obtain ⟨T', eT'⟩ : ∃ T, t * c = T := ⟨_, rfl⟩
      rw [eT'] at hof tc et hr
      have HOF1 := hid hof
      have HR := hid hr
      have HBB := hid hb
      have HSL := hid esl
      have HET := hid et
      have HTC := hid tc
      clear hof hr hb esl eT' et tc
      go_wp2
      go_loopw [10] (fun d wr => ∃ i : Nat, i ≤ c ∧ d = .int .u64 (i : Int) ∧ wr.heap[g]? = some (.cells (vs .i64 100 (tvF F (Ct (T' + i)))) 55) ∧ Below g w2 wr) (fun d _ => c - (intOf d).toNat)
      case atStart => exact ⟨0, by omega, rfl, HR.out, HBB.out⟩
      case round =>
        clear HR HBB
        obtain ⟨i, hi, rfl, hr, hb⟩ := hrel
        by_cases hic : i < c
        · have i1 : (i : Int) < (c : Int) := by omega
          have i3 : (i : Int) < 3 := by omega
          have iw : IntKind.u64.wrap ((i : Int) + 1) = (i : Int) + 1 := by rw [IntKind.wrap_u64]; omega
          have l5 := HLD.out wr (H0B.out wr hb)
          have hof := HOF1.out wr i hb hic
          have hmo := HMO.out (T' + i)
          have hle := HLE.out (T' + i) (by have := HTC.out; omega)
          obtain ⟨q, eq⟩ : ∃ q, Ct (T' + i) = q := ⟨_, rfl⟩
          obtain ⟨p, ep⟩ : ∃ p, Ct (T' + i + 1) - q = p := ⟨_, rfl⟩
          rw [eq] at hof hmo hr
          rw [ep] at hof
          have eq' : Ct (T' + (i + 1)) = q + p := by rw [← ep, show T' + (i + 1) = T' + i + 1 by omega]; omega
          have hpm : q + p ≤ m := by rw [← ep]; omega
          have HOF2 := hid hof
          have HR := hid hr
          have HBB := hid hb
          have HEQ := hid eq'
          clear hof hr hb eq ep eq' hmo hle
          go_upto_region 17 with (go_at_call 7; refine HOF2.out.mono ?_; rintro e' w5 ⟨a5, p5, rfl, hn5, hb5⟩)
          have hr5 := (hb5.block _ (some_lt HR.out)).trans HR.out
          have hb5' : Below g w2 w5 := HBB.out.trans (hb5.mono (HGS.out _ HBB.out))
          have HR5 := hid hr5
          have HN5 := hid hn5
          have HB5 := hid hb5'
          clear hr5 hn5 hb5 hb5' l5 HR HBB HOF2
          go_wp2
          go_loopw [13] (fun d wr => ∃ k : Nat, k ≤ p ∧ d = .int .i64 (k : Int) ∧ wr.heap[g]? = some (.cells (vs .i64 100 (tvF F (q + k))) 55) ∧ Kept g w5 wr) (fun d _ => p - (intOf d).toNat)
          case atStart => exact ⟨0, by omega, rfl, HR5.out, Kept.refl _ _⟩
          case round =>
            obtain ⟨k, hk, rfl, hr, hkp⟩ := hrel
            by_cases hkq : k < p
            · have k1 : (k : Int) < (p : Int) := by omega
              have k2 : (0 : Int) ≤ (k : Int) := by omega
              have kw : IntKind.i64.wrap ((k : Int) + 1) = (k : Int) + 1 := by rw [IntKind.wrap_i64]; omega
              obtain ⟨v, ev, hv⟩ := HFB.out (q + k) (by omega)
              rcases HN5.out with h0 | ⟨b, off, ea, hbl, hc⟩
              · omega
              subst ea
              have hne : b ≠ g := n64_neW HR5.out hc (by omega)
              have hcl : wr.cell? ⟨b, off + k, none⟩ = some (.int .u64 (v : Int)) := by
                rw [← ev]
                exact (World.cell?_of_block (hkp.block b hbl hne)).trans (hc k hkq)
              have hcx : wr.cell? ⟨w.heap.size, 721, none⟩ = some (.slice A nV C) := by
                refine (World.cell?_of_block (hkp.block _ ?_ ?_)).trans (HCX.out w5 (H0B.out w5 HB5.out))
                · exact Nat.lt_of_lt_of_le HGB.out.1 (HGS.out _ HB5.out)
                · show w.heap.size ≠ g
                  have := HGB.out.1
                  omega
              have v1 : (v : Int) < (nV : Int) := by omega
              have v2 : (0 : Int) ≤ (v : Int) := by omega
              have v3 : (v : Int) < 100 := by omega
              have nw : IntKind.u64.wrap (nV : Int) = (nV : Int) := by rw [IntKind.wrap_u64]; omega
              have ct : wr.cell? ⟨g, v, none⟩ = some (.int .i64 (tvF F (q + k) v)) := row_int hr v (by omega)
              have fz : wr.frozen? ⟨g, v, none⟩ = false := row_frozen hr v
              have hstep := tw_step F (q + k) v ev
              have tl : 0 ≤ tvF F (q + k) v ∧ tvF F (q + k) v ≤ 100 := by
                have := tmV_le F (v : Int) (q + k)
                unfold tvF
                omega
              obtain ⟨X, eX⟩ : ∃ X, tvF F (q + k) v = X := ⟨_, rfl⟩
              rw [eX] at ct hstep tl
              obtain ⟨x0, x1⟩ := tl
              have HCL := hid (show wr.drew.cell? ⟨b, off + k, none⟩ = some (.int .u64 (v : Int)) from hcl)
              have HCS := hid (show wr.drew.cell? ⟨w.heap.size, 721, none⟩ = some (.slice A nV C) from hcx)
              have HCT := hid ct
              have HFZ := hid fz
              have HCL2 := hid hcl
              have HR := hid hr
              have HK := hid hkp
              have HS := hid hstep
              clear hr hkp hstep ct fz hcl hcx hc hbl ev eX
              go_upto_region 20 with fail
              refine wp_region_noPanic ?_
              refine wp_region_held_drew (S := fun W => W = wr.drew) (by kernel_rfl) (rfl) (fun hHeld => ?_)
              refine tk 0 (v := ?v1) ?y1 hHeld ?r1
              case y1 => intro w hSw; go_simp; try with_reducible rfl
              refine tk 1 (v := ?v2) ?y2 hHeld ?r2
              case y2 => intro w hSw; go_simp; try with_reducible rfl
              refine tk 2 (v := ?v3) ?y3 hHeld ?r3
              case y3 => intro w hSw; go_simp; try with_reducible rfl
              refine tk 3 (v := ?v4) ?y4 hHeld ?r4
              case y4 => intro w hSw; rw [hSw]; have ld := HCL.out; go_simp; try with_reducible rfl
              refine tk 4 (v := ?v5) ?y5 hHeld ?r5
              case y5 => intro w hSw; go_simp; try with_reducible rfl
              refine tk 5 (v := ?v6) ?y6 hHeld ?r6
              case y6 => intro w hSw; rw [hSw]; have ld := HCS.out; go_simp; try with_reducible rfl
              refine tk 6 (v := ?v7) ?y7 hHeld ?r7
              case y7 => intro w hSw; go_simp; try with_reducible rfl
              refine tk 7 (v := ?v8) ?y8 hHeld ?r8
              case y8 => intro w hSw; go_simp; try with_reducible rfl
              refine tk 8 (v := ?v9) ?y9 hHeld ?r9
              case y9 => intro w hSw; go_simp; try with_reducible rfl
              try simp only [Act.put, List.setIfInBounds_toArray, List.set_cons_zero, List.set_cons_succ, Array.toArray_toList, List.getElem_toArray, List.getElem_cons_zero, List.getElem_cons_succ]
              refine wpAnyH_done (by kernel_rfl) ?_ _
              refine NoPanic.normal ?_
              go_upto_region 22 with fail
              have d1 : wr.drew.cell? ⟨b, off + k, none⟩ = some (.int .u64 (v : Int)) := HCL2.out
              have d2 : wr.drew.cell? ⟨g, v, none⟩ = some (.int .i64 X) := HCT.out
              have d3 : wr.drew.frozen? ⟨g, v, none⟩ = false := HFZ.out
              go_wp2
              go_roundw
              case rel =>
                refine ⟨k + 1, by omega, by go_num, ?_, ?_⟩
                · exact (row_set (w := wr.drew) HR.out v _).trans (by rw [HS.out]; rfl)
                · exact HK.out.drew.setCell _ _
              case measure => simp [intOf]; omega
            · obtain rfl : k = p := by omega
              have HR := hid hr
              have HK := hid hkp
              clear hr hkp
              have pw : (0 : Int) ≤ (k : Int) := by omega
              go_wp2
              go_roundw
              case rel => exact ⟨i + 1, by omega, by go_num, by rw [HEQ.out]; exact HR.out, HB5.out.trans (HK.out.below (Nat.le_refl _) (HGS.out _ HB5.out))⟩
              case measure => simp [intOf]; omega
        · obtain rfl : i = c := by omega
          have HR := hid hr
          have HBB := hid hb
          clear hr hb
          go_wp2
          go_roundw
          case rel => exact ⟨t + 1, by omega, by rw [← HSL.out]; go_num, by rw [HET.out]; exact HR.out, HBB.out⟩
          case measure => simp [intOf]; have := HSL.out; omega
    · obtain rfl : t = 4 := by omega
      rw [HCE.out] at hr
      obtain ⟨s5, es5⟩ : ∃ s, 4 * e + ((4 : Nat) : Int) = s := ⟨_, rfl⟩
      rw [es5]
      have hs5 : ¬ s5 < 4 * e + 4 := by omega
      clear es5
      have HR := hid hr
      have HBB := hid hb
      clear hr hb
      clear HOF HFB HMO HLE HC0 HCE
      go_wp2
      clear hs5
      go_loopw [14] (fun d wr => ∃ i : Nat, i ≤ nV ∧ d = .int .i64 (i : Int) ∧ wr.heap[g]? = some (.cells (vs .i64 100 (tvF F m)) 55) ∧ Below g w2 wr) (fun d _ => nV - (intOf d).toNat)
      case atStart => exact ⟨0, by omega, rfl, HR.out, HBB.out⟩
      case round =>
        clear HR HBB
        obtain ⟨i, hi, rfl, hr, hb⟩ := hrel
        have c4 := HCX.out wr (H0B.out wr hb)
        by_cases hin : i < nV
        · have i1 : (i : Int) < (nV : Int) := by omega
          have i2 : (0 : Int) ≤ (i : Int) := by omega
          have i3 : (i : Int) < 100 := by omega
          obtain ⟨bb, eb', hfi⟩ := HFI.out i hin
          have hac := HAT.out i e
          rw [eb'] at hac
          have hw4 := H0B.out wr hb
          rcases HEL.out.below hw4 with h0 | ⟨b, off, ea, hbl, hcc⟩
          · omega
          subst ea
          have ix := fun W => ixValidator_run W b off nV C i hin
          have hv4 : ∀ W, Below wr.heap.size wr W → (lvValidator ⟨b, off + 86 * i, none⟩).run Tryd.prog W = .ok (.agg (cel (sValidator (z i)))) W := fun W h => lvValidator_at (rangeAt_below (hcc i hin) hbl h)
          have hT : ∀ W, Below wr.heap.size wr W → W.cell? ⟨g, i, none⟩ = some (.int .i64 (if bb = true then 1 else 0)) := fun W h => by
            rw [← hfi]
            exact row_int ((h.block _ (some_lt hr)).trans hr) i (by omega)
          have hc4 : ∀ W, Below wr.heap.size wr W → W.cell? ⟨w.heap.size, 721, none⟩ = some (.slice (some ⟨b, off, none⟩) nV C) := fun W h => (below_cell h (Nat.lt_of_lt_of_le z0 hw4.size)).trans c4
          obtain ⟨P, eP⟩ : ∃ P, off + 86 * i = P := ⟨_, rfl⟩
          rw [eP] at hv4
          simp only [eP] at ix
          obtain ⟨V, eV⟩ : ∃ V, z i = V := ⟨_, rfl⟩
          rw [eV] at hv4 hac
          have HT := hid hT
          have HC4 := hid hc4
          have HV4 := hid hv4
          have IX := hid ix
          have HAC := hid hac
          have HR := hid hr
          have HBB := hid hb
          clear hT hc4 hv4 ix hac hr hb hfi eb' hcc hbl eP eV hw4
          cases bb
          · have HT' : Hid (∀ W, Below wr.heap.size wr W → W.cell? ⟨g, i, none⟩ = some (.int .i64 0)) := hid HT.out
            clear HT
            have HT := HT'
            clear HT'
            go_upto_region 26 with fail
            refine wp_region_noPanic ?_
            refine wp_region_held_drew (S := fun W => Below wr.heap.size wr W) (by kernel_rfl) ((Below.refl _ _).drew) (fun hHeld => ?_)
            refine tk 0 (v := ?v10) ?y10 hHeld ?r10
            case y10 => intro w hSw; go_simp; try with_reducible rfl
            refine tk 1 (v := ?v11) ?y11 hHeld ?r11
            case y11 => intro w hSw; have ld := HC4.out w hSw; go_simp; try with_reducible rfl
            refine tk 2 (v := ?v12) ?y12 hHeld ?r12
            case y12 => intro w hSw; go_simp; try with_reducible rfl
            refine tk 3 (v := ?v13) ?y13 hHeld ?r13
            case y13 => intro w hSw; have ld := IX.out w; go_simp; try with_reducible rfl
            refine tk 4 (v := ?v14) ?y14 hHeld ?r14
            case y14 => intro w hSw; have ld := HV4.out w hSw; go_simp; try with_reducible rfl
            refine tk 5 (v := ?v15) ?y15 hHeld ?r15
            case y15 => intro w hSw; go_simp; try with_reducible rfl
            refine tk 7 (v := ?v16) ?y16 hHeld ?r16
            case y16 => intro w hSw; go_simp; try with_reducible rfl
            refine tk 8 (v := ?v17) ?y17 hHeld ?r17
            case y17 => intro w hSw; go_simp; try with_reducible rfl
            refine tk 9 (v := ?v18) ?y18 hHeld ?r18
            case y18 => intro w hSw; have ld := HT.out w hSw; go_simp; try with_reducible rfl
            refine tk 10 (v := ?v19) ?y19 hHeld ?r19
            case y19 => intro w hSw; go_simp; try with_reducible rfl
            try simp only [Act.put, List.setIfInBounds_toArray, List.set_cons_zero, List.set_cons_succ, Array.toArray_toList, List.getElem_toArray, List.getElem_cons_zero, List.getElem_cons_succ]
            refine wpAnyH_ready (rs := [6]) (by kernel_rfl) (by simp) ?_
            refine AllReadyH.cons rfl (fun K hK => ?_) AllReadyH.nil
            go_simp
            refine (HAC.out _).mono ?_
            rintro e' w6 ⟨rfl, hb6⟩
            dsimp only
            have hB6 : Below wr.heap.size wr w6 := ((Below.refl _ _).drew).trans hb6
            refine hK.out _ _ (hB6) (fun hHeld => ?_)
            clear hK K
            try simp only [Act.put, List.setIfInBounds_toArray, List.set_cons_zero, List.set_cons_succ, Array.toArray_toList, List.getElem_toArray, List.getElem_cons_zero, List.getElem_cons_succ]
            refine tk 11 (v := ?v20) ?y20 hHeld ?r20
            case y20 => intro w hSw; go_simp; try with_reducible rfl
            refine tk 12 (v := ?v21) ?y21 hHeld ?r21
            case y21 => intro w hSw; go_simp; try with_reducible rfl
            refine tk 13 (v := ?v22) ?y22 hHeld ?r22
            case y22 => intro w hSw; go_simp; try with_reducible rfl
            refine tk 14 (v := ?v23) ?y23 hHeld ?r23
            case y23 => intro w hSw; go_simp; try with_reducible rfl
            refine tk 15 (v := ?v24) ?y24 hHeld ?r24
            case y24 => intro w hSw; have ld := HT.out w hSw; go_simp; try with_reducible rfl
            refine tk 16 (v := ?v25) ?y25 hHeld ?r25
            case y25 => intro w hSw; go_simp; try with_reducible rfl
            refine tk 17 (v := ?v26) ?y26 hHeld ?r26
            case y26 => intro w hSw; go_simp; try with_reducible rfl
            try simp only [Act.put, List.setIfInBounds_toArray, List.set_cons_zero, List.set_cons_succ, Array.toArray_toList, List.getElem_toArray, List.getElem_cons_zero, List.getElem_cons_succ]
            refine wpAnyH_done (by kernel_rfl) ?_ _
            refine NoPanic.normal ?_
            go_wp2
            go_roundw
            case rel => exact ⟨i + 1, by omega, by go_num, (hB6.block _ (some_lt HR.out)).trans HR.out, HBB.out.trans (hB6.mono (HGS.out _ HBB.out))⟩
            case measure => simp [intOf]; omega
          · have HT' : Hid (∀ W, Below wr.heap.size wr W → W.cell? ⟨g, i, none⟩ = some (.int .i64 1)) := hid HT.out
            clear HT
            have HT := HT'
            clear HT'
            go_upto_region 26 with fail
            refine wp_region_noPanic ?_
            refine wp_region_held_drew (S := fun W => Below wr.heap.size wr W) (by kernel_rfl) ((Below.refl _ _).drew) (fun hHeld => ?_)
            refine tk 0 (v := ?v27) ?y27 hHeld ?r27
            case y27 => intro w hSw; go_simp; try with_reducible rfl
            refine tk 1 (v := ?v28) ?y28 hHeld ?r28
            case y28 => intro w hSw; have ld := HC4.out w hSw; go_simp; try with_reducible rfl
            refine tk 2 (v := ?v29) ?y29 hHeld ?r29
            case y29 => intro w hSw; go_simp; try with_reducible rfl
            refine tk 3 (v := ?v30) ?y30 hHeld ?r30
            case y30 => intro w hSw; have ld := IX.out w; go_simp; try with_reducible rfl
            refine tk 4 (v := ?v31) ?y31 hHeld ?r31
            case y31 => intro w hSw; have ld := HV4.out w hSw; go_simp; try with_reducible rfl
            refine tk 5 (v := ?v32) ?y32 hHeld ?r32
            case y32 => intro w hSw; go_simp; try with_reducible rfl
            refine tk 7 (v := ?v33) ?y33 hHeld ?r33
            case y33 => intro w hSw; go_simp; try with_reducible rfl
            refine tk 8 (v := ?v34) ?y34 hHeld ?r34
            case y34 => intro w hSw; go_simp; try with_reducible rfl
            refine tk 9 (v := ?v35) ?y35 hHeld ?r35
            case y35 => intro w hSw; have ld := HT.out w hSw; go_simp; try with_reducible rfl
            refine tk 10 (v := ?v36) ?y36 hHeld ?r36
            case y36 => intro w hSw; go_simp; try with_reducible rfl
            try simp only [Act.put, List.setIfInBounds_toArray, List.set_cons_zero, List.set_cons_succ, Array.toArray_toList, List.getElem_toArray, List.getElem_cons_zero, List.getElem_cons_succ]
            refine wpAnyH_ready (rs := [6]) (by kernel_rfl) (by simp) ?_
            refine AllReadyH.cons rfl (fun K hK => ?_) AllReadyH.nil
            go_simp
            refine (HAC.out _).mono ?_
            rintro e' w6 ⟨rfl, hb6⟩
            dsimp only
            have hB6 : Below wr.heap.size wr w6 := ((Below.refl _ _).drew).trans hb6
            refine hK.out _ _ (hB6) (fun hHeld => ?_)
            clear hK K
            try simp only [Act.put, List.setIfInBounds_toArray, List.set_cons_zero, List.set_cons_succ, Array.toArray_toList, List.getElem_toArray, List.getElem_cons_zero, List.getElem_cons_succ]
            refine tk 11 (v := ?v37) ?y37 hHeld ?r37
            case y37 => intro w hSw; go_simp; try with_reducible rfl
            refine tk 12 (v := ?v38) ?y38 hHeld ?r38
            case y38 => intro w hSw; go_simp; try with_reducible rfl
            refine tk 13 (v := ?v39) ?y39 hHeld ?r39
            case y39 => intro w hSw; go_simp; try with_reducible rfl
            refine tk 14 (v := ?v40) ?y40 hHeld ?r40
            case y40 => intro w hSw; go_simp; try with_reducible rfl
            refine tk 15 (v := ?v41) ?y41 hHeld ?r41
            case y41 => intro w hSw; have ld := HT.out w hSw; go_simp; try with_reducible rfl
            refine tk 16 (v := ?v42) ?y42 hHeld ?r42
            case y42 => intro w hSw; go_simp; try with_reducible rfl
            refine tk 17 (v := ?v43) ?y43 hHeld ?r43
            case y43 => intro w hSw; go_simp; try with_reducible rfl
            try simp only [Act.put, List.setIfInBounds_toArray, List.set_cons_zero, List.set_cons_succ, Array.toArray_toList, List.getElem_toArray, List.getElem_cons_zero, List.getElem_cons_succ]
            refine wpAnyH_done (by kernel_rfl) ?_ _
            refine NoPanic.normal ?_
            go_wp2
            go_roundw
            case rel => exact ⟨i + 1, by omega, by go_num, (hB6.block _ (some_lt HR.out)).trans HR.out, HBB.out.trans (hB6.mono (HGS.out _ HBB.out))⟩
            case measure => simp [intOf]; omega
        · obtain rfl : nV = i := by omega
          have c5 := HC2.out wr (H0B.out wr hb)
          obtain ⟨qd, E0, E1⟩ := QD.out
          have HBB := hid (H0B.out wr hb)
          clear hr hb HFI
          go_upto_region 29 with fail
          clear c4 c5 qd
          go_wp2
          go_loopw [16] (fun d wr => ∃ k : Nat, k ≤ 4 ∧ d = .int .u64 (k : Int) ∧ Below W0.heap.size W0 wr) (fun d _ => 4 - (intOf d).toNat)
          case atStart => exact ⟨0, by omega, rfl, HBB.out⟩
          case round =>
            clear HBB
            obtain ⟨k, hk, rfl, hb⟩ := hrel
            by_cases hk4 : k < 4
            · have k1 : (k : Int) < 4 := by omega
              have kw : IntKind.u64.wrap ((k : Int) + 1) = (k : Int) + 1 := by rw [IntKind.wrap_u64]; omega
              have l6 := HLD.out wr hb
              have zs := ZS.out
              have sv := SVN.out wr
              obtain ⟨W5, hW5⟩ : ∃ W, wr.alloc (.cells (cel (sState x)) 49) = W := ⟨_, rfl⟩
              have r5 : W5.heap[wr.heap.size]? = some (.cells (cel (sState x)) 49) := by rw [← hW5]; exact heap_new rfl
              have hE5 : Below wr.heap.size wr W5 := by rw [← hW5]; exact (Below.refl _ _).alloc (Nat.le_refl _) _
              have hB5 : Below W0.heap.size W0 W5 := hb.trans (hE5.mono hb.size)
              have y0 : W0.heap.size ≤ wr.heap.size := hb.size
              rw [hW5] at sv
              obtain ⟨y, ey⟩ : ∃ y, wr.heap.size = y := ⟨_, rfl⟩
              rw [ey] at sv r5 y0
              have mw : IntKind.u64.wrap (4 * E) = 4 * E := by rw [IntKind.wrap_u64]; omega
              have aw : IntKind.u64.wrap (4 * E + (k : Int)) = 4 * E + (k : Int) := by rw [IntKind.wrap_u64]; omega
              have hpp := HPP.out k
              have hpr := HPR.out k hk4
              have hat := HATS.out W5 y (4 * E + (k : Int)) r5
              obtain ⟨S, eS⟩ : ∃ S, 4 * E + (k : Int) = S := ⟨_, rfl⟩
              rw [eS] at aw hpp hpr hat
              have f1 := row_frozen r5 33
              have f2 : (W5.setCell ⟨y, 33, none⟩ (.int .u64 S)).frozen? ⟨y, 43, none⟩ = false := row_frozen (row_set r5 33 _) 43
              have g1 := cS2 r5
              have g2 := cS43 (w := W5.setCell ⟨y, 33, none⟩ (.int .u64 S)) (x := slS x S) (by rw [row_set r5 33, set2])
              obtain ⟨W6, hW6⟩ : ∃ W, (W5.setCell ⟨y, 33, none⟩ (.int .u64 S)).setCell ⟨y, 43, none⟩ (.int .u64 0) = W := ⟨_, rfl⟩
              rw [hW6] at hat
              have hB6 : Below W0.heap.size W0 W6 := by rw [← hW6]; exact (hB5.setCell (p := ⟨y, 33, none⟩) y0 _).setCell (p := ⟨y, 43, none⟩) y0 _
              have l7 := lvState_run hat
              have hpp6 := hpp W6 hk4 hB6
              generalize prV (atS x S) = PV at hpp6 hpr
              generalize prE (atS x S) = PE at hpp6 hpr
              generalize atS x S = xs at l7 hpp6
              have HP6 := hid hpp6
              have HPRR := hid hpr
              have HB6 := hid hB6
              have HW6 := hid hW6
              clear hb hE5 hB5 y0 hpp hpr hat hB6 hpp6 hW6 r5
              go_upto_region 33 with fail
              clear sv l6 zs hW5 ey
              go_upto_region 35 with fail
              rw [HW6.out]
              clear f1 f2 g1 g2 HW6 mw aw
              go_upto_region 36 with (go_at_call 4; refine HP6.out.mono ?_; rintro e' w7 ⟨rfl, hb7⟩)
              have hB7 : Below W0.heap.size W0 w7 := HB6.out.trans (hb7.mono HB6.out.size)
              clear l7 hb7 HP6 HB6
              rcases HPRR.out with ⟨hE0, V, hV, hVn, hVa⟩ | hE7
              · subst hE0 hV
                have c8 := HCX.out w7 hB7
                rcases HEL.out.below hB7 with h0 | ⟨b, off, ea, hbl, hcc⟩
                · omega
                subst ea
                have ix := fun W => ixValidator_u W b off nV C V hVn
                have lv := lvValidator_at (hcc V hVn)
                obtain ⟨P, eP⟩ : ∃ P, off + 86 * V = P := ⟨_, rfl⟩
                rw [eP] at lv
                simp only [eP] at ix
                have hac := HAT.out V E
                rw [hVa] at hac
                generalize z V = VV at lv hac
                have HAC := hid hac
                have HB7 := hid hB7
                have vn : (V : Int) < (nV : Int) := by omega
                have v0 : (0 : Int) ≤ (V : Int) := by omega
                have nw : IntKind.u64.wrap (nV : Int) = (nV : Int) := by rw [IntKind.wrap_u64]; omega
                clear hac hB7 hcc hbl eP hVa HPRR
                go_wp2_with (go_at_call 8; refine (HAC.out _).mono ?_; rintro e' w8 ⟨rfl, hb8⟩)
                go_roundw
                case rel => exact ⟨k + 1, by omega, by go_num, HB7.out.trans (hb8.mono HB7.out.size)⟩
                case measure => simp [intOf]; omega
              · subst hE7
                have HB7 := hid hB7
                clear hB7 HPRR
                go_wp2
                go_roundw
                case rel => exact ⟨k + 1, by omega, by go_num, HB7.out⟩
                case measure => simp [intOf]; omega
            · obtain rfl : k = 4 := by omega
              have l6 := HLD.out wr hb
              have hsy := HSY.out wr hb
              have HSYY := hid hsy
              have HBB := hid hb
              clear hsy hb HPP HPR HATS SVN ZS
              go_upto_region 39 with (go_at_call 9; refine HSYY.out.mono ?_; rintro e' w7 ⟨a7, c7, rfl, hn7, hb7⟩)
              have hB7 : Below W0.heap.size W0 w7 := HBB.out.trans (hb7.mono HBB.out.size)
              have l7 := HLD.out w7 hB7
              have hnx := HNX.out w7 hB7
              have zc := zeroCommittee
              have sc := fun W => svCommittee_newv W oCommittee NC
              generalize oCommittee = oc at zc sc
              have HNXX := hid hnx
              have HB7 := hid hB7
              have HN7 := hid hn7
              clear hnx hB7 hn7 l6 hb7 HSYY HBB
              go_upto_region 40 with (go_at_call 10; refine HNXX.out.mono ?_; rintro e' w8 ⟨rfl, hb8⟩)
              obtain ⟨W9, hW9⟩ : ∃ W, w8.alloc (.cells (cel (sCommittee NC)) 47) = W := ⟨_, rfl⟩
              rw [hW9]
              have r9 : W9.heap[w8.heap.size]? = some (.cells (cel (sCommittee NC)) 47) := by rw [← hW9]; exact heap_new rfl
              have hE9 : Below w7.heap.size w7 W9 := by rw [← hW9]; exact hb8.alloc hb8.size _
              obtain ⟨y9, ey9⟩ : ∃ y, w8.heap.size = y := ⟨_, rfl⟩
              rw [ey9] at r9 ⊢
              have hB9 : Below W0.heap.size W0 W9 := HB7.out.trans (hE9.mono HB7.out.size)
              have H9 := hid (And.intro r9 (And.intro hE9 hB9))
              clear hW9 ey9 r9 hE9 hB9 hb8 zc sc l7 HNXX
              rcases HS2.out with ⟨hE, hL, hV⟩ | ⟨hE, hL⟩
              · subst hE
                rw [hL]
                have hk0 := HKY.out.1 rfl
                have HK0 := hid hk0
                have HV := hid hV
                have HLL := hid hL
                clear hL hV hk0
                go_wp2
                go_loopw [24] (fun d wr => ∃ k : Nat, k ≤ 8 ∧ d = .int .i64 (k : Int) ∧ Below W9.heap.size W9 wr) (fun d _ => 8 - (intOf d).toNat)
                case atStart => exact ⟨0, by omega, rfl, Below.refl _ _⟩
                case round =>
                  obtain ⟨k, hk, rfl, hb⟩ := hrel
                  by_cases hk8 : k < 8
                  · have k1 : (k : Int) < 8 := by omega
                    have k2 : (0 : Int) ≤ (k : Int) := by omega
                    obtain ⟨V, eV, hVn, hVa⟩ := HV.out k hk8
                    have hbw : Below W0.heap.size W0 wr := H9.out.2.2.trans (hb.mono H9.out.2.2.size)
                    have hb7w : Below w7.heap.size w7 wr := H9.out.2.1.trans (hb.mono H9.out.2.1.size)
                    rcases HN7.out with h0 | ⟨b1, o1, ea1, hbl1, hc1⟩
                    · have := HLL.out; omega
                    rcases HEL.out.below hbw with h0 | ⟨b, off, ea, hbl, hcc⟩
                    · omega
                    subst ea ea1
                    have hcl : ∀ W : World, Below wr.heap.size wr W → W.cell? ⟨b1, o1 + k, none⟩ = some (.int .u64 (V : Int)) := fun W h => by
                      rw [← eV]
                      exact (below_cell (hb7w.trans (h.mono hb7w.size)) hbl1).trans (hc1 k (by rw [HLL.out]; exact hk8))
                    have hc4 : ∀ W, Below wr.heap.size wr W → W.cell? ⟨w.heap.size, 721, none⟩ = some (.slice (some ⟨b, off, none⟩) nV C) := fun W h => HCX.out W (hbw.trans (h.mono hbw.size))
                    have ix := fun W => ixValidator_u W b off nV C V hVn
                    have hv4 : ∀ W, Below wr.heap.size wr W → (lvValidator ⟨b, off + 86 * V, none⟩).run Tryd.prog W = .ok (.agg (cel (sValidator (z V)))) W := fun W h => lvValidator_at (rangeAt_below (hcc V hVn) hbl h)
                    have hkv : ∀ W : World, Below wr.heap.size wr W → (lvKy ⟨b, off + 86 * V, none⟩).run Tryd.prog W = .ok (.agg (vs .u8 48 (z V).f0)) W := fun W h => lvKy_mid fun j hj => (rangeAt_below (hcc V hVn) hbl h) j _ (by
                      show (celL (sValidator (z V)))[j]? = _
                      exact seg_by0 _ _ _ j hj)
                    have hi5 := fun W => ix45_run W y9 0 k hk8
                    rw [Nat.zero_add] at hi5
                    have hkc : ∀ W : World, Below wr.heap.size wr W → (lvKy ⟨y9, 48 * k, none⟩).run Tryd.prog W = .ok (.agg (vs .u8 48 (z V).f0)) W := fun W h => lvKy_mid fun j hj => by
                      have hrw := ((hb.trans (h.mono hb.size)).block _ (some_lt H9.out.1)).trans H9.out.1
                      rw [cel_C] at hrw
                      rw [row_int hrw (48 * k + j) (by omega), if_pos (by omega), ← HK0.out, HKY.out.2, show (48 * k + j) / 48 = k by omega, eV, Int.toNat_natCast, show (48 * k + j) % 48 = j by omega]
                    have hac := HAT.out V (E + 1)
                    rw [hVa] at hac
                    obtain ⟨P, eP⟩ : ∃ P, off + 86 * V = P := ⟨_, rfl⟩
                    rw [eP] at hv4 hkv
                    simp only [eP] at ix
                    obtain ⟨E2, eE2⟩ : ∃ E2, E + 1 = E2 := ⟨_, rfl⟩
                    have e2w : IntKind.u64.wrap (E + 1) = E2 := by rw [IntKind.wrap_u64]; omega
                    rw [eE2] at hac
                    obtain ⟨KV, eKV⟩ : ∃ f, (z V).f0 = f := ⟨_, rfl⟩
                    rw [eKV] at hkv hkc
                    generalize z V = VV at hv4 hac
                    have HCL := hid hcl
                    have HC4 := hid hc4
                    have IX := hid ix
                    have HV4 := hid hv4
                    have HKV := hid hkv
                    have HI5 := hid hi5
                    have HKC := hid hkc
                    have HAC := hid hac
                    have HBW := hid hb
                    have vn : (V : Int) < (nV : Int) := by omega
                    have vn' : ¬ (nV : Int) ≤ (V : Int) := by omega
                    have vd : decide ((nV : Int) ≤ (V : Int)) = false := decide_eq_false vn'
                    have v0 : (0 : Int) ≤ (V : Int) := by omega
                    have nw : IntKind.u64.wrap (nV : Int) = (nV : Int) := by rw [IntKind.wrap_u64]; omega
                    have kw : IntKind.i64.wrap ((k : Int) + 1) = (k : Int) + 1 := by rw [IntKind.wrap_i64]; omega
                    clear hcl hc4 ix hv4 hkv hi5 hkc hac hb hbw hb7w hc1 hbl1 hcc hbl eV hVa eP eE2 eKV
                    go_upto_region 45 with fail
                    refine wp_region_noPanic ?_
                    refine wp_region_held_drew (S := fun W => Below wr.heap.size wr W) (by kernel_rfl) ((Below.refl _ _).drew) (fun hHeld => ?_)
                    refine tk 0 (v := ?v44) ?y44 hHeld ?r44
                    case y44 => intro w hSw; go_simp; try with_reducible rfl
                    refine tk 1 (v := ?v45) ?y45 hHeld ?r45
                    case y45 => intro w hSw; go_simp; try with_reducible rfl
                    refine tk 2 (v := ?v46) ?y46 hHeld ?r46
                    case y46 => intro w hSw; go_simp; try with_reducible rfl
                    refine tk 3 (v := ?v47) ?y47 hHeld ?r47
                    case y47 => intro w hSw; have ld := HCL.out w hSw; go_simp; try with_reducible rfl
                    refine tk 4 (v := ?v48) ?y48 hHeld ?r48
                    case y48 => intro w hSw; go_simp; try with_reducible rfl
                    refine tk 5 (v := ?v49) ?y49 hHeld ?r49
                    case y49 => intro w hSw; have ld := HC4.out w hSw; go_simp; try with_reducible rfl
                    refine tk 6 (v := ?v50) ?y50 hHeld ?r50
                    case y50 => intro w hSw; go_simp; try with_reducible rfl
                    refine tk 7 (v := ?v51) ?y51 hHeld ?r51
                    case y51 => intro w hSw; go_simp; try with_reducible rfl
                    refine tk 8 (v := ?v52) ?y52 hHeld ?r52
                    case y52 => intro w hSw; go_simp; try with_reducible rfl
                    refine tk 9 (v := ?v53) ?y53 hHeld ?r53
                    case y53 => intro w hSw; go_simp; try with_reducible rfl
                    refine tk 10 (v := ?v54) ?y54 hHeld ?r54
                    case y54 => intro w hSw; go_simp; try with_reducible rfl
                    refine tk 11 (v := ?v55) ?y55 hHeld ?r55
                    case y55 => intro w hSw; have ld := HC4.out w hSw; go_simp; try with_reducible rfl
                    refine tk 12 (v := ?v56) ?y56 hHeld ?r56
                    case y56 => intro w hSw; go_simp; try with_reducible rfl
                    refine tk 13 (v := ?v57) ?y57 hHeld ?r57
                    case y57 => intro w hSw; go_simp; try with_reducible rfl
                    refine tk 14 (v := ?v58) ?y58 hHeld ?r58
                    case y58 => intro w hSw; go_simp; try with_reducible rfl
                    refine tk 15 (v := ?v59) ?y59 hHeld ?r59
                    case y59 => intro w hSw; have ld := HCL.out w hSw; go_simp; try with_reducible rfl
                    refine tk 16 (v := ?v60) ?y60 hHeld ?r60
                    case y60 => intro w hSw; have ld := IX.out w; go_simp; try with_reducible rfl
                    refine tk 17 (v := ?v61) ?y61 hHeld ?r61
                    case y61 => intro w hSw; have ld := HV4.out w hSw; go_simp; try with_reducible rfl
                    refine tk 18 (v := ?v62) ?y62 hHeld ?r62
                    case y62 => intro w hSw; go_simp; try with_reducible rfl
                    refine tk 19 (v := ?v63) ?y63 hHeld ?r63
                    case y63 => intro w hSw; go_simp; try with_reducible rfl
                    try simp only [Act.put, List.setIfInBounds_toArray, List.set_cons_zero, List.set_cons_succ, Array.toArray_toList, List.getElem_toArray, List.getElem_cons_zero, List.getElem_cons_succ]
                    refine wpAnyH_ready (rs := [20]) (by kernel_rfl) (by simp) ?_
                    refine AllReadyH.cons rfl (fun K hK => ?_) AllReadyH.nil
                    go_simp
                    refine (HAC.out _).mono ?_
                    rintro e' w6 ⟨rfl, hb6⟩
                    dsimp only
                    have hB6 : Below wr.heap.size wr w6 := ((Below.refl _ _).drew).trans hb6
                    refine hK.out _ _ (hB6) (fun hHeld => ?_)
                    clear hK K
                    try simp only [Act.put, List.setIfInBounds_toArray, List.set_cons_zero, List.set_cons_succ, Array.toArray_toList, List.getElem_toArray, List.getElem_cons_zero, List.getElem_cons_succ]
                    refine tk 21 (v := ?v64) ?y64 hHeld ?r64
                    case y64 => intro w hSw; go_simp; try with_reducible rfl
                    refine tk 22 (v := ?v65) ?y65 hHeld ?r65
                    case y65 => intro w hSw; go_simp; try with_reducible rfl
                    refine tk 23 (v := ?v66) ?y66 hHeld ?r66
                    case y66 => intro w hSw; go_simp; try with_reducible rfl
                    refine tk 24 (v := ?v67) ?y67 hHeld ?r67
                    case y67 => intro w hSw; go_simp; try with_reducible rfl
                    refine tk 25 (v := ?v68) ?y68 hHeld ?r68
                    case y68 => intro w hSw; go_simp; try with_reducible rfl
                    refine tk 26 (v := ?v69) ?y69 hHeld ?r69
                    case y69 => intro w hSw; have ld := HI5.out w; go_simp; try with_reducible rfl
                    refine tk 27 (v := ?v70) ?y70 hHeld ?r70
                    case y70 => intro w hSw; have ld := HKC.out w hSw; go_simp; try with_reducible rfl
                    refine tk 28 (v := ?v71) ?y71 hHeld ?r71
                    case y71 => intro w hSw; go_simp; try with_reducible rfl
                    refine tk 29 (v := ?v72) ?y72 hHeld ?r72
                    case y72 => intro w hSw; have ld := HC4.out w hSw; go_simp; try with_reducible rfl
                    refine tk 30 (v := ?v73) ?y73 hHeld ?r73
                    case y73 => intro w hSw; go_simp; try with_reducible rfl
                    refine tk 31 (v := ?v74) ?y74 hHeld ?r74
                    case y74 => intro w hSw; go_simp; try with_reducible rfl
                    refine tk 32 (v := ?v75) ?y75 hHeld ?r75
                    case y75 => intro w hSw; go_simp; try with_reducible rfl
                    refine tk 33 (v := ?v76) ?y76 hHeld ?r76
                    case y76 => intro w hSw; have ld := HCL.out w hSw; go_simp; try with_reducible rfl
                    refine tk 34 (v := ?v77) ?y77 hHeld ?r77
                    case y77 => intro w hSw; have ld := IX.out w; go_simp; try with_reducible rfl
                    refine tk 35 (v := ?v78) ?y78 hHeld ?r78
                    case y78 => intro w hSw; go_simp; try with_reducible rfl
                    refine tk 36 (v := ?v79) ?y79 hHeld ?r79
                    case y79 => intro w hSw; have ld := HKV.out w hSw; go_simp; try with_reducible rfl
                    try simp only [Act.put, List.setIfInBounds_toArray, List.set_cons_zero, List.set_cons_succ, Array.toArray_toList, List.getElem_toArray, List.getElem_cons_zero, List.getElem_cons_succ]
                    refine wpAnyH_take (i := 37) rfl (by kernel_rfl) (by kernel_rfl) (by kernel_rfl) (fun _ _ _ h => h) (yields_neK (by rfl) _ _ _ rfl KV rfl rfl) hHeld ?_
                    try simp only [Act.put, List.setIfInBounds_toArray, List.set_cons_zero, List.set_cons_succ, Array.toArray_toList, List.getElem_toArray, List.getElem_cons_zero, List.getElem_cons_succ]
                    refine tk 38 (v := ?v80) ?y80 hHeld ?r80
                    case y80 => intro w hSw; go_simp; try with_reducible rfl
                    try simp only [Act.put, List.setIfInBounds_toArray, List.set_cons_zero, List.set_cons_succ, Array.toArray_toList, List.getElem_toArray, List.getElem_cons_zero, List.getElem_cons_succ]
                    refine wpAnyH_done (by kernel_rfl) ?_ _
                    refine NoPanic.normal ?_
                    go_wp2
                    go_roundw
                    case rel => exact ⟨k + 1, by omega, by go_num, HBW.out.trans (hB6.mono HBW.out.size)⟩
                    case measure => simp [intOf]; omega
                  · obtain rfl : k = 8 := by omega
                    have hE : Below w.heap.size w wr := HB.out.trans ((H9.out.2.2.trans (hb.mono H9.out.2.2.size)).mono HB.out.size)
                    have HE := hid hE
                    clear hE hb
                    go_wp2
                    go_ret
                    exact ⟨rfl, HE.out⟩
              · subst hE hL
                go_wp2
                go_loopw [24] (fun d wr => d = .int .i64 0 ∧ Below W9.heap.size W9 wr) (fun _ _ => 0)
                case atStart => exact ⟨rfl, Below.refl _ _⟩
                case round =>
                  obtain ⟨rfl, hb⟩ := hrel
                  have hE : Below w.heap.size w wr := HB.out.trans ((H9.out.2.2.trans (hb.mono H9.out.2.2.size)).mono HB.out.size)
                  have HE := hid hE
                  clear hE hb
                  go_wp2
                  go_ret
                  exact ⟨rfl, HE.out⟩

end Go.Proofs.YtlidilnakiphiaaDoor
