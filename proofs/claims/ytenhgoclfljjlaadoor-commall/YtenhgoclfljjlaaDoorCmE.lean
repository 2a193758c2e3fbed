/-
  What CommAll answers, by what the program's Count and Of answer.
-/

import Derived.Test.YtenhgoclfljjlaaDoorCQ
import Derived.Test.YtenhgoclfljjlaaDoorStP
namespace Go.Proofs.YtenhgoclfljjlaaDoor

open Go.RowKit

set_option linter.unusedVariables false

set_option linter.unusedSimpArgs false

set_option maxRecDepth 20000

attribute [local go_sem ↓] lvState_eq svState_eq bdState_eq lvValidator_eq svValidator_eq ixValidator_eq

/-- How often each one stood so far, as numbers of the array. -/
def tvF (F : Nat → Int) (M : Nat) (j : Nat) : Int := (tmV F (j : Int) M : Nat)

theorem tmV_le (F : Nat → Int) (v : Int) (M : Nat) : tmV F v M ≤ M := by
  induction M with
  | zero => exact Nat.le_refl _
  | succ M ih =>
    show (if F M = v then tmV F v M + 1 else tmV F v M) ≤ M + 1
    split <;> omega

theorem tv_step (F : Nat → Int) (M v : Nat) (hv : F M = (v : Int)) : (vs .i64 300 (tvF F M)).setIfInBounds v (.int .i64 (tvF F M v + 1)) = vs .i64 300 (tvF F (M + 1)) := by
  rw [vs_set]
  refine vs_congr fun j _ => ?_
  unfold tvF
  show _ = ((if F M = (j : Int) then tmV F j M + 1 else tmV F j M : Nat) : Int)
  by_cases h : j = v
  · subst h
    rw [if_pos rfl, if_pos hv]
    rfl
  · rw [if_neg h, if_neg (by omega)]

theorem zero_300i (w : World) : (zeroValue 60).run Tryd.prog w = .ok (.agg (vs .i64 300 fun _ => 0)) w := by kernel_rfl

theorem tv_zero (F : Nat → Int) : vs .i64 300 (fun _ => 0) = vs .i64 300 (tvF F 0) := vs_congr fun j _ => rfl

theorem n64_ne {W : World} {g n b off : Nat} {f F : Nat → Int} {t : TypeId} (hg : W.heap[g]? = some (.cells (vs .i64 300 f) t)) (h : ∀ j, j < n → W.cell? ⟨b, off + j, none⟩ = some (.int .u64 (F j))) (h0 : 0 < n) : b ≠ g := fun e => by
  subst e
  have h1 := h 0 h0
  rw [row_cell hg] at h1
  by_cases hk : off + 0 < 300
  · rw [vs_get _ _ _ _ hk] at h1
    cases h1
  · rw [vs_get_none _ _ _ _ (by omega)] at h1
    cases h1

set_option maxHeartbeats 8000000 in
theorem commAll_law (pC : PCount) (pO : POf) (x : VState) (e : Int) (w : World) (hx : OkState x) (hw : InW w x) (e0 : 0 ≤ e) (e1 : e < 18446744073709551616) (hS : Sh w) :
    Calls Tryd.prog 4 #[.agg (cel (sState x)), .int .u64 e] w fun e' w' => e' = .returned (.bool true) ∧ Below w.heap.size w w' := by
  obtain ⟨W0, hW0⟩ : ∃ W, w.alloc (.cells (cel (sState x)) 49) = W := ⟨_, rfl⟩
  have r0 : W0.heap[w.heap.size]? = some (.cells (cel (sState x)) 49) := by rw [← hW0]; exact heap_new rfl
  have hB0 : Below w.heap.size w W0 := by rw [← hW0]; exact (Below.refl _ _).alloc (Nat.le_refl _) _
  have z0 : w.heap.size < W0.heap.size := (Array.getElem?_eq_some_iff.1 r0).1
  have hld : ∀ W : World, Below W0.heap.size W0 W → (lvState ⟨w.heap.size, 0, none⟩).run Tryd.prog W = .ok (.agg (cel (sState x))) W := fun W h => lvState_run ((h.block _ z0).trans r0)
  have hcs : ∀ W : World, Below W0.heap.size W0 W → W.cell? ⟨w.heap.size, 721, none⟩ = some (.slice x.f11.a x.f11.n x.f11.c) := fun W h => cS11 ((h.block _ z0).trans r0)
  have hw0 := hw.below hB0
  have hS0 := hS.below hB0
  have haw := awake14 pC pO W0 hS0
  have hri : ∀ W : World, Below W0.heap.size W0 W → Calls Tryd.prog 7 #[.agg (cel (sState x))] W fun e w' => e = .returned (.bool (rightB x)) ∧ Below W.heap.size W w' := fun W h => rright_any x W hx.r' (hw0.below h).r' ⟨hx.o10.1, hx.o4.1.1, hx.o18.1.1, hx.o19.1.1, hx.o20.1.1⟩
  have HB := hid hB0
  have HW0 := hid hW0
  have HLD := hid hld
  have HAW := hid haw
  have HCS := hid hcs
  cases hR : rightB x
  · rw [hR] at hri
    have HRI := hid hri
    clear hri hB0 hW0 hld hw0 hw hx r0 haw hcs hS0 hS pC pO
    go_enter Tryd.func4, Tryd.ntmps4
    go_upto_region 1 with fail
    rw [HW0.out]
    clear HW0
    go_upto_region 3 with (go_at_call 6; refine HAW.out.mono ?_; rintro e' w1 ⟨rfl, hb1⟩)
    have l1 := HLD.out w1 hb1
    go_wp2_with (go_at_call 7; refine (HRI.out w1 hb1).mono ?_; rintro e' w2 ⟨rfl, hb2⟩)
    go_ret
    exact ⟨rfl, HB.out.trans ((hb1.trans (hb2.mono hb1.size)).mono HB.out.size)⟩
  rw [hR] at hri
  have HRI := hid hri
  have hO := rightB_out hR
  have hk0 : Lk W0 x := hO.lk hx hw0
  by_cases hg : 2199023255552 ≤ e ∨ 300 < x.f11.n
  · have hnb := hk0.nb
    obtain ⟨nV, hnV⟩ : ∃ n, x.f11.n = n := ⟨_, rfl⟩
    rw [hnV] at hg hnb
    have hcs' : ∀ W : World, Below W0.heap.size W0 W → W.cell? ⟨w.heap.size, 721, none⟩ = some (.slice x.f11.a nV x.f11.c) := by rw [← hnV]; exact hcs
    generalize x.f11.a = A at *
    generalize x.f11.c = C at *
    have HCS' := hid hcs'
    clear hri hB0 hW0 hld hw0 hw hx r0 haw hcs hcs' hS0 hS pC pO hO hk0 hnV HCS
    by_cases he : 2199023255552 ≤ e
    · go_enter Tryd.func4, Tryd.ntmps4
      go_upto_region 1 with fail
      rw [HW0.out]
      clear HW0
      go_upto_region 3 with (go_at_call 6; refine HAW.out.mono ?_; rintro e' w1 ⟨rfl, hb1⟩)
      have l1 := HLD.out w1 hb1
      go_wp2_with (go_at_call 7; refine (HRI.out w1 hb1).mono ?_; rintro e' w2 ⟨rfl, hb2⟩)
      go_ret
      exact ⟨rfl, HB.out.trans ((hb1.trans (hb2.mono hb1.size)).mono HB.out.size)⟩
    · have hn : (300 : Int) < (nV : Int) := by omega
      go_enter Tryd.func4, Tryd.ntmps4
      go_upto_region 1 with fail
      rw [HW0.out]
      clear HW0
      go_upto_region 3 with (go_at_call 6; refine HAW.out.mono ?_; rintro e' w1 ⟨rfl, hb1⟩)
      have l1 := HLD.out w1 hb1
      go_wp2_with (go_at_call 7; refine (HRI.out w1 hb1).mono ?_; rintro e' w2 ⟨rfl, hb2⟩; have c2 := HCS'.out w2 (hb1.trans (hb2.mono hb1.size)))
      go_ret
      exact ⟨rfl, HB.out.trans ((hb1.trans (hb2.mono hb1.size)).mono HB.out.size)⟩
  have eb : e < 2199023255552 := by omega
  have nb : x.f11.n ≤ 300 := by omega
  have hco : ∀ W : World, Below W0.heap.size W0 W → Calls Tryd.prog 8 #[.agg (cel (sState x)), .int .u64 e] W fun e' w' => e' = .returned (.int .u64 (cnt (acE x e).length : Nat)) ∧ Below W.heap.size W w' := fun W h => pC x e W hx (hk0.below h) e0 e1
  have hof : ∀ (W : World) (t i : Nat), Below W0.heap.size W0 W → t < 4 → i < cnt (acE x e).length → Calls Tryd.prog 10 #[.agg (cel (sState x)), .int .u64 (4 * e + (t : Int)), .int .u64 (i : Int)] W fun e' w' => ∃ a cp, e' = .returned (.tuple #[.slice a (cut (acE x e).length (t * cnt (acE x e).length + i + 1) - cut (acE x e).length (t * cnt (acE x e).length + i)) cp, .int .i64 0]) ∧ N64 w' a (cut (acE x e).length (t * cnt (acE x e).length + i + 1) - cut (acE x e).length (t * cnt (acE x e).length + i)) (fun j => mbr (acE x e) (seedV x e 1) (cut (acE x e).length (t * cnt (acE x e).length + i) + j)) ∧ Below W.heap.size W w' := fun W t i h ht hi => by
    have hc := cnt_bd (acE x e).length
    refine (pO x (4 * e + (t : Int)) (i : Int) W hx (hk0.below h) (hS0.below h) (by omega) (by omega) (by omega) (by omega)).mono ?_
    rintro e' w' ⟨a, cp, he, hn, hb⟩
    have q1 : (4 * e + (t : Int)) / 4 = e := by omega
    have q2 : (4 * e + (t : Int)) % 4 = (t : Int) := by omega
    rw [q1] at he hn
    have hK : pcK (acE x e).length (4 * e + (t : Int)) (i : Int) = t * cnt (acE x e).length + i := by unfold pcK; rw [q2, Int.toNat_natCast, Int.toNat_natCast]
    have hN : cmN (acE x e).length (4 * e + (t : Int)) (i : Int) = cut (acE x e).length (t * cnt (acE x e).length + i + 1) - cut (acE x e).length (t * cnt (acE x e).length + i) := by unfold cmN; rw [if_pos (by omega), hK]
    have hE : cmE (acE x e).length (i : Int) = 0 := by unfold cmE; rw [if_pos (by omega)]
    have hF : cmF (acE x e) (seedV x e 1) (4 * e + (t : Int)) (i : Int) = fun j => mbr (acE x e) (seedV x e 1) (cut (acE x e).length (t * cnt (acE x e).length + i) + j) := by funext j; unfold cmF; rw [hK]
    rw [hN, hE] at he
    rw [hN, hF] at hn
    exact ⟨a, cp, he, hn, hb⟩
  have hofn : ∀ (W : World) (t : Nat), Below W0.heap.size W0 W → t < 4 → Calls Tryd.prog 10 #[.agg (cel (sState x)), .int .u64 (4 * e + (t : Int)), .int .u64 (cnt (acE x e).length : Nat)] W fun e' w' => ∃ a cp, e' = .returned (.tuple #[.slice a 0 cp, .int .i64 1]) ∧ Below W.heap.size W w' := fun W t h ht => by
    have hc := cnt_bd (acE x e).length
    refine (pO x (4 * e + (t : Int)) (cnt (acE x e).length : Nat) W hx (hk0.below h) (hS0.below h) (by omega) (by omega) (by omega) (by omega)).mono ?_
    rintro e' w' ⟨a, cp, he, hn, hb⟩
    have q1 : (4 * e + (t : Int)) / 4 = e := by omega
    rw [q1] at he
    have hN : cmN (acE x e).length (4 * e + (t : Int)) (cnt (acE x e).length : Nat) = 0 := by unfold cmN; rw [if_neg (by omega)]
    have hE : cmE (acE x e).length (cnt (acE x e).length : Nat) = 1 := by unfold cmE; rw [if_neg (by omega)]
    rw [hN, hE] at he
    exact ⟨a, cp, he, hb⟩
  have hFb : ∀ j, j < (acE x e).length → ∃ v : Nat, mbr (acE x e) (seedV x e 1) j = (v : Int) ∧ v < x.f11.n := fun j hj => by
    have := acL_bd x.f11.z e x.f11.n _ (mbr_mem (acE x e) (seedV x e 1) hj)
    exact ⟨(mbr (acE x e) (seedV x e 1) j).toNat, by omega, by omega⟩
  have hfin : ∀ i, i < x.f11.n → ∃ b : Bool, actB (x.f11.z i) e = b ∧ tvF (mbr (acE x e) (seedV x e 1)) (acE x e).length i = (if b = true then 1 else 0) := fun i hi => by
    refine ⟨_, rfl, ?_⟩
    unfold tvF
    rw [tmV_all (L := acE x e) (rise_nodup (acL_rise _ _ _)) (seedV x e 1) (i : Int)]
    have hm : (i : Int) ∈ acE x e ↔ 0 ≤ (i : Int) ∧ (i : Int) < (x.f11.n : Int) ∧ actB (x.f11.z (i : Int).toNat) e = true := acL_mem x.f11.z e x.f11.n (i : Int)
    rw [Int.toNat_natCast] at hm
    by_cases ha : actB (x.f11.z i) e = true
    · rw [if_pos ha, if_pos (hm.2 ⟨by omega, by omega, ha⟩)]
      rfl
    · rw [if_neg ha, if_neg (fun h => ha (hm.1 h).2.2)]
      rfl
  have hmn : (acE x e).length ≤ 300 := Nat.le_trans (acL_len _ _ _) nb
  have hc := cnt_bd (acE x e).length
  have hst := cut_step (acE x e).length
  have hmo := fun q => cut_mono (acE x e).length (j := q) (k := q + 1) (by omega)
  have hle := fun q (h : q + 1 ≤ 4 * cnt (acE x e).length) => cut_le (acE x e).length (k := q + 1) h
  have hc0 := cut_zero (acE x e).length
  have hce := cut_end (acE x e).length
  have hel := hk0.el
  have hact : ∀ (i : Nat) (W : World), Calls Tryd.prog 15 #[.agg (cel (sValidator (x.f11.z i))), .int .u64 e] W fun e' w' => e' = .returned (.bool (actB (x.f11.z i) e)) ∧ Below W.heap.size W w' := fun i W => ractive_any (x.f11.z i) e W
  have hcs' := hcs
  generalize mbr (acE x e) (seedV x e 1) = F at *
  generalize (acE x e).length = m at *
  generalize cut m = Ct at *
  generalize cnt m = c at *
  obtain ⟨nV, hnV⟩ : ∃ n, x.f11.n = n := ⟨_, rfl⟩
  rw [hnV] at hcs' hFb hfin nb hel
  generalize x.f11.a = A at hcs' hel
  generalize x.f11.c = C at hcs'
  generalize x.f11.z = z at hfin hel hact
  obtain ⟨D, hD⟩ : ∃ D, m / (4 * c) = D := ⟨_, rfl⟩
  rw [hD] at hst
  have hDb : D ≤ m := by rw [← hD]; exact Nat.div_le_self _ _
  have HCO := hid hco
  have HOF := hid hof
  have HON := hid hofn
  have HFB := hid hFb
  have HFI := hid hfin
  have HST := hid hst
  have HMO := hid hmo
  have HLE := hid hle
  have HC0 := hid hc0
  have HCE := hid hce
  have HEL := hid hel
  have HAT := hid hact
  have HCX := hid hcs'
  clear hco hof hofn hFb hfin hst hmo hle hc0 hce hel hact hcs' hcs HCS hri hB0 hW0 hld hw0 hw hx r0 haw hS0 hS pC pO hO hk0 hnV hR hg hD
  have zz := zero_300i
  obtain ⟨hc1, hc2⟩ := hc
  have c1 : (1 : Int) ≤ (c : Int) := by omega
  have c2 : (c : Int) ≤ 2 := by omega
  go_enter Tryd.func4, Tryd.ntmps4
  go_upto_region 1 with fail
  rw [HW0.out]
  clear HW0
  go_upto_region 3 with (go_at_call 6; refine HAW.out.mono ?_; rintro e' w1 ⟨rfl, hb1⟩)
  have l1 := HLD.out w1 hb1
  go_upto_region 6 with (go_at_call 7; refine (HRI.out w1 hb1).mono ?_; rintro e' w2 ⟨rfl, hb2⟩; have hB2 := hb1.trans (hb2.mono hb1.size); have c2 := HCX.out w2 hB2)
  obtain ⟨W3, hW3⟩ : ∃ W, w2.alloc (.cells (vs .i64 300 fun _ => 0) 60) = W := ⟨_, rfl⟩
  rw [hW3]
  have r3 : W3.heap[w2.heap.size]? = some (.cells (vs .i64 300 fun _ => 0) 60) := by rw [← hW3]; exact heap_new rfl
  have hE3 : Below w2.heap.size w2 W3 := by rw [← hW3]; exact (Below.refl _ _).alloc (Nat.le_refl _) _
  have hB3 : Below W0.heap.size W0 W3 := hB2.trans (hE3.mono hB2.size)
  rw [tv_zero F] at r3
  have l3 := HLD.out W3 hB3
  have HB2 := hid hB2
  have HB3 := hid hB3
  have HR3 := hid r3
  have HE3 := hid hE3
  clear l1 c2 hb1 hb2 hB2 hW3 r3 hE3 hB3 zz
  obtain ⟨g, eg⟩ : ∃ g, w2.heap.size = g := ⟨_, rfl⟩
  go_upto_region 7 with (go_at_call 8; refine (HCO.out W3 HB3.out).mono ?_; rintro e' w4 ⟨rfl, hb4⟩)
  have hT4 : w4.heap[g]? = some (.cells (vs .i64 300 (tvF F 0)) 60) ∧ Below g w2 w4 := by
    rw [← eg]
    exact ⟨(hb4.block _ (some_lt HR3.out)).trans HR3.out, HE3.out.trans (hb4.mono HE3.out.size)⟩
  have HT4 := hid hT4
  have HG := hid eg
  have h0b : ∀ W : World, Below g w2 W → Below W0.heap.size W0 W := fun W h => by
    rw [← eg] at h
    exact HB2.out.trans (h.mono HB2.out.size)
  have H0B := hid h0b
  have hgs : ∀ W : World, Below g w2 W → g ≤ W.heap.size := fun W h => by
    have := h.size
    omega
  have HGS := hid hgs
  clear hgs
  have hgb : w.heap.size < g ∧ W0.heap.size ≤ g := by
    rw [← eg]
    exact ⟨Nat.lt_of_lt_of_le z0 HB2.out.size, HB2.out.size⟩
  have HGB := hid hgb
  clear l3 hb4 HR3 HE3 HB3 hT4 h0b hgb HRI HAW HCO eg
  have ew : IntKind.u64.wrap (4 * e) = 4 * e := by rw [IntKind.wrap_u64]; omega
  go_wp2
  go_loopw [7, 8, 9] (fun a b d wr => ∃ (t : Nat) (ls ms : Int), t ≤ 4 ∧ a = .int .i64 ls ∧ b = .int .i64 ms ∧ d = .int .u64 (4 * e + (t : Int)) ∧ (D : Int) ≤ ls ∧ ls ≤ 1048576 ∧ 0 ≤ ms ∧ ms ≤ (D : Int) + 1 ∧ wr.heap[g]? = some (.cells (vs .i64 300 (tvF F (Ct (t * c)))) 60) ∧ Below g w2 wr) (fun _ _ d _ => (4 * e + 4 - intOf d).toNat)
  case atStart =>
    refine ⟨0, 1048576, 0, by omega, rfl, rfl, by go_num, by omega, by omega, by omega, by omega, ?_, HT4.out.2⟩
    rw [Nat.zero_mul, HC0.out]
    exact HT4.out.1
  case round =>
    obtain ⟨t, ls, ms, ht, rfl, rfl, rfl, s1, s2, s3, s4, hr, hb⟩ := hrel
    clear HT4
    by_cases ht4 : t < 4
    · have t1 : 4 * e + (t : Int) < 4 * e + 4 := by omega
      obtain ⟨sl, esl⟩ : ∃ s, 4 * e + (t : Int) = s := ⟨_, rfl⟩
      have sw : IntKind.u64.wrap (sl + 1) = sl + 1 := by rw [IntKind.wrap_u64]; omega
      have hof := fun (W : World) (i : Nat) (h : Below g w2 W) (hi : i < c) => HOF.out W t i (H0B.out W h) ht4 hi
      have hon := fun (W : World) (h : Below g w2 W) => HON.out W t (H0B.out W h) ht4
      rw [esl] at t1 hof hon ⊢
      have tc : t * c + c ≤ 4 * c := by have := Nat.mul_le_mul_right c (show t + 1 ≤ 4 by omega); rw [Nat.succ_mul] at this; exact this
      have et : (t + 1) * c = t * c + c := Nat.succ_mul t c
      obtain ⟨T, eT⟩ : ∃ T, t * c = T := ⟨_, rfl⟩
      rw [eT] at hof tc et hr
      have HOF1 := hid hof
      have HON1 := hid hon
      have HR := hid hr
      have HBB := hid hb
      have HSL := hid esl
      have HET := hid et
      have HTC := hid tc
      clear hof hon hr hb esl eT et tc
      go_wp2
      go_loopw [7, 8, 10] (fun a b d wr => ∃ (i : Nat) (ls ms : Int), i ≤ c ∧ a = .int .i64 ls ∧ b = .int .i64 ms ∧ d = .int .u64 (i : Int) ∧ (D : Int) ≤ ls ∧ ls ≤ 1048576 ∧ 0 ≤ ms ∧ ms ≤ (D : Int) + 1 ∧ wr.heap[g]? = some (.cells (vs .i64 300 (tvF F (Ct (T + i)))) 60) ∧ Below g w2 wr) (fun _ _ d _ => c - (intOf d).toNat)
      case atStart => exact ⟨0, ls, ms, by omega, rfl, rfl, rfl, s1, s2, s3, s4, HR.out, HBB.out⟩
      case round =>
        clear HR HBB s1 s2 s3 s4
        obtain ⟨i, ls, ms, hi, rfl, rfl, rfl, s1, s2, s3, s4, hr, hb⟩ := hrel
        by_cases hic : i < c
        · have i1 : (i : Int) < (c : Int) := by omega
          have iw : IntKind.u64.wrap ((i : Int) + 1) = (i : Int) + 1 := by rw [IntKind.wrap_u64]; omega
          have l5 := HLD.out wr (H0B.out wr hb)
          have hof := HOF1.out wr i hb hic
          have hst := HST.out (T + i)
          have hmo := HMO.out (T + i)
          have hle := HLE.out (T + i) (by have := HTC.out; omega)
          obtain ⟨q, eq⟩ : ∃ q, Ct (T + i) = q := ⟨_, rfl⟩
          obtain ⟨p, ep⟩ : ∃ p, Ct (T + i + 1) - q = p := ⟨_, rfl⟩
          rw [eq] at hof hst hmo hr
          rw [ep] at hof hst
          have eq' : Ct (T + (i + 1)) = q + p := by rw [← ep, show T + (i + 1) = T + i + 1 by omega]; omega
          have hpm : q + p ≤ m := by rw [← ep]; omega
          have HOF2 := hid hof
          have HR := hid hr
          have HBB := hid hb
          have HEQ := hid eq'
          clear hof hr hb eq ep eq' hmo hle
          go_upto_region 18 with (go_at_call 10; refine HOF2.out.mono ?_; rintro e' w5 ⟨a5, p5, rfl, hn5, hb5⟩)
          have hr5 := (hb5.block _ (some_lt HR.out)).trans HR.out
          have hb5' : Below g w2 w5 := HBB.out.trans (hb5.mono (HGS.out _ HBB.out))
          have HR5 := hid hr5
          have HN5 := hid hn5
          have HB5 := hid hb5'
          clear hr5 hn5 hb5 hb5' l5 HR HBB HOF2
          go_wp2
          go_loopw [13] (fun d wr => ∃ k : Nat, k ≤ p ∧ d = .int .i64 (k : Int) ∧ wr.heap[g]? = some (.cells (vs .i64 300 (tvF F (q + k))) 60) ∧ Kept g w5 wr) (fun d _ => p - (intOf d).toNat)
          case atStart => exact ⟨0, by omega, rfl, HR5.out, Kept.refl _ _⟩
          case round =>
            obtain ⟨k, hk, rfl, hr, hkp⟩ := hrel
            by_cases hkq : k < p
            · have k1 : (k : Int) < (p : Int) := by omega
              have k2 : (0 : Int) ≤ (k : Int) := by omega
              have kw : IntKind.i64.wrap ((k : Int) + 1) = (k : Int) + 1 := by rw [IntKind.wrap_i64]; omega
              obtain ⟨v, ev, hv⟩ := HFB.out (q + k) (by omega)
              rcases HN5.out with h0 | ⟨b, off, ea, hbl, hc⟩
              · omega
              subst ea
              have hne : b ≠ g := n64_ne HR5.out hc (by omega)
              have hcl : wr.cell? ⟨b, off + k, none⟩ = some (.int .u64 (v : Int)) := by
                rw [← ev]
                exact (World.cell?_of_block (hkp.block b hbl hne)).trans (hc k hkq)
              have hcx : wr.cell? ⟨w.heap.size, 721, none⟩ = some (.slice A nV C) := by
                refine (World.cell?_of_block (hkp.block _ ?_ ?_)).trans (HCX.out w5 (H0B.out w5 HB5.out))
                · exact Nat.lt_of_lt_of_le HGB.out.1 (HGS.out _ HB5.out)
                · show w.heap.size ≠ g
                  have := HGB.out.1
                  omega
              have v1 : (v : Int) < (nV : Int) := by omega
              have v2 : (0 : Int) ≤ (v : Int) := by omega
              have v3 : (v : Int) < 300 := by omega
              have nw : IntKind.u64.wrap (nV : Int) = (nV : Int) := by rw [IntKind.wrap_u64]; omega
              have ct : wr.cell? ⟨g, v, none⟩ = some (.int .i64 (tvF F (q + k) v)) := row_int hr v (by omega)
              have fz : wr.frozen? ⟨g, v, none⟩ = false := row_frozen hr v
              have hstep := tv_step F (q + k) v ev
              have tl : 0 ≤ tvF F (q + k) v ∧ tvF F (q + k) v ≤ 300 := by
                have := tmV_le F (v : Int) (q + k)
                unfold tvF
                omega
              obtain ⟨X, eX⟩ : ∃ X, tvF F (q + k) v = X := ⟨_, rfl⟩
              rw [eX] at ct hstep tl
              obtain ⟨x0, x1⟩ := tl
              have HCL := hid (show wr.drew.cell? ⟨b, off + k, none⟩ = some (.int .u64 (v : Int)) from hcl)
              have HCS := hid (show wr.drew.cell? ⟨w.heap.size, 721, none⟩ = some (.slice A nV C) from hcx)
              have HCT := hid ct
              have HFZ := hid fz
              have HCL2 := hid hcl
              have HR := hid hr
              have HK := hid hkp
              have HS := hid hstep
              clear hr hkp hstep ct fz hcl hcx hc hbl ev eX
              go_upto_region 21 with fail
              refine wp_region_noPanic ?_
              refine wp_region_held_drew (S := fun W => W = wr.drew) (by kernel_rfl) (rfl) (fun hHeld => ?_)
              refine tk 0 (v := ?v1) ?y1 hHeld ?r1
              case y1 => intro w hSw; go_simp; try with_reducible rfl
              refine tk 1 (v := ?v2) ?y2 hHeld ?r2
              case y2 => intro w hSw; go_simp; try with_reducible rfl
              refine tk 2 (v := ?v3) ?y3 hHeld ?r3
              case y3 => intro w hSw; go_simp; try with_reducible rfl
              refine tk 3 (v := ?v4) ?y4 hHeld ?r4
              case y4 => intro w hSw; rw [hSw]; have ld := HCL.out; go_simp; try with_reducible rfl
              refine tk 4 (v := ?v5) ?y5 hHeld ?r5
              case y5 => intro w hSw; go_simp; try with_reducible rfl
              refine tk 5 (v := ?v6) ?y6 hHeld ?r6
              case y6 => intro w hSw; rw [hSw]; have ld := HCS.out; go_simp; try with_reducible rfl
              refine tk 6 (v := ?v7) ?y7 hHeld ?r7
              case y7 => intro w hSw; go_simp; try with_reducible rfl
              refine tk 7 (v := ?v8) ?y8 hHeld ?r8
              case y8 => intro w hSw; go_simp; try with_reducible rfl
              refine tk 8 (v := ?v9) ?y9 hHeld ?r9
              case y9 => intro w hSw; go_simp; try with_reducible rfl
              try simp only [Act.put, List.setIfInBounds_toArray, List.set_cons_zero, List.set_cons_succ, Array.toArray_toList, List.getElem_toArray, List.getElem_cons_zero, List.getElem_cons_succ]
              refine wpAnyH_done (by kernel_rfl) ?_ _
              refine NoPanic.normal ?_
              go_upto_region 23 with fail
              have d1 : wr.drew.cell? ⟨b, off + k, none⟩ = some (.int .u64 (v : Int)) := HCL2.out
              have d2 : wr.drew.cell? ⟨g, v, none⟩ = some (.int .i64 X) := HCT.out
              have d3 : wr.drew.frozen? ⟨g, v, none⟩ = false := HFZ.out
              go_wp2
              go_roundw
              case rel =>
                refine ⟨k + 1, by omega, by go_num, ?_, ?_⟩
                · exact (row_set (w := wr.drew) HR.out v _).trans (by rw [HS.out]; rfl)
                · exact HK.out.drew.setCell _ _
              case measure => simp [intOf]; omega
            · obtain rfl : k = p := by omega
              have HR := hid hr
              have HK := hid hkp
              clear hr hkp
              have pw : (0 : Int) ≤ (k : Int) := by omega
              go_wp2
              go_roundw
              case rel =>
                refine ⟨i + 1, _, _, by omega, rfl, rfl, by go_num, ?_, ?_, ?_, ?_, ?_, HB5.out.trans (HK.out.below (Nat.le_refl _) (HGS.out _ HB5.out))⟩
                · omega
                · omega
                · omega
                · omega
                · rw [HEQ.out]
                  exact HR.out
              case measure => simp [intOf]; omega
        · obtain rfl : i = c := by omega
          have l5 := HLD.out wr (H0B.out wr hb)
          have hon := HON1.out wr hb
          have HON2 := hid hon
          have HR := hid hr
          have HBB := hid hb
          clear hon hr hb
          go_wp2_with (go_at_call 10; refine HON2.out.mono ?_; rintro e' w5 ⟨a5, p5, rfl, hb5⟩)
          go_roundw
          case rel =>
            refine ⟨t + 1, _, _, by omega, rfl, rfl, by rw [← HSL.out]; go_num, s1, s2, s3, s4, ?_, HBB.out.trans (hb5.mono (HGS.out _ HBB.out))⟩
            rw [HET.out]
            exact (hb5.block _ (some_lt HR.out)).trans HR.out
          case measure => simp [intOf]; have := HSL.out; omega
    · obtain rfl : t = 4 := by omega
      rw [HCE.out] at hr
      obtain ⟨s5, es5⟩ : ∃ s, 4 * e + ((4 : Nat) : Int) = s := ⟨_, rfl⟩
      rw [es5]
      have hs5 : ¬ s5 < 4 * e + 4 := by omega
      clear es5
      have HR := hid hr
      have HBB := hid hb
      clear hr hb
      go_wp2
      go_loopw [16] (fun d wr => ∃ i : Nat, i ≤ nV ∧ d = .int .i64 (i : Int) ∧ wr.heap[g]? = some (.cells (vs .i64 300 (tvF F m)) 60) ∧ Below g w2 wr) (fun d _ => nV - (intOf d).toNat)
      case atStart => exact ⟨0, by omega, rfl, HR.out, HBB.out⟩
      case round =>
        clear HR HBB
        obtain ⟨i, hi, rfl, hr, hb⟩ := hrel
        have c4 := HCX.out wr (H0B.out wr hb)
        by_cases hin : i < nV
        · have i1 : (i : Int) < (nV : Int) := by omega
          have i2 : (0 : Int) ≤ (i : Int) := by omega
          have i3 : (i : Int) < 300 := by omega
          obtain ⟨bb, eb', hfi⟩ := HFI.out i hin
          have hac := HAT.out i
          rw [eb'] at hac
          have hw4 := H0B.out wr hb
          rcases HEL.out.below hw4 with h0 | ⟨b, off, ea, hbl, hcc⟩
          · omega
          subst ea
          have ix := fun W => ixValidator_run W b off nV C i hin
          have hv4 : ∀ W, Below wr.heap.size wr W → (lvValidator ⟨b, off + 86 * i, none⟩).run Tryd.prog W = .ok (.agg (cel (sValidator (z i)))) W := fun W h => lvValidator_at (rangeAt_below (hcc i hin) hbl h)
          have hT : ∀ W, Below wr.heap.size wr W → W.cell? ⟨g, i, none⟩ = some (.int .i64 (if bb = true then 1 else 0)) := fun W h => by
            rw [← hfi]
            exact row_int ((h.block _ (some_lt hr)).trans hr) i (by omega)
          have hc4 : ∀ W, Below wr.heap.size wr W → W.cell? ⟨w.heap.size, 721, none⟩ = some (.slice (some ⟨b, off, none⟩) nV C) := fun W h => (below_cell h (Nat.lt_of_lt_of_le z0 hw4.size)).trans c4
          obtain ⟨P, eP⟩ : ∃ P, off + 86 * i = P := ⟨_, rfl⟩
          rw [eP] at hv4
          simp only [eP] at ix
          obtain ⟨V, eV⟩ : ∃ V, z i = V := ⟨_, rfl⟩
          rw [eV] at hv4 hac
          have HT := hid hT
          have HC4 := hid hc4
          have HV4 := hid hv4
          have IX := hid ix
          have HAC := hid hac
          have HR := hid hr
          have HBB := hid hb
          clear hT hc4 hv4 ix hac hr hb hfi eb' hcc hbl eP eV hw4
          cases bb
          · have HT' : Hid (∀ W, Below wr.heap.size wr W → W.cell? ⟨g, i, none⟩ = some (.int .i64 0)) := hid HT.out
            clear HT
            have HT := HT'
            clear HT'
            go_upto_region 32 with fail
            refine wp_region_noPanic ?_
            refine wp_region_held_drew (S := fun W => Below wr.heap.size wr W) (by kernel_rfl) ((Below.refl _ _).drew) (fun hHeld => ?_)
            refine tk 0 (v := ?v10) ?y10 hHeld ?r10
            case y10 => intro w hSw; go_simp; try with_reducible rfl
            refine tk 1 (v := ?v11) ?y11 hHeld ?r11
            case y11 => intro w hSw; go_simp; try with_reducible rfl
            refine tk 2 (v := ?v12) ?y12 hHeld ?r12
            case y12 => intro w hSw; have ld := HT.out w hSw; go_simp; try with_reducible rfl
            refine tk 3 (v := ?v13) ?y13 hHeld ?r13
            case y13 => intro w hSw; go_simp; try with_reducible rfl
            refine tk 4 (v := ?v14) ?y14 hHeld ?r14
            case y14 => intro w hSw; go_simp; try with_reducible rfl
            refine tk 5 (v := ?v15) ?y15 hHeld ?r15
            case y15 => intro w hSw; have ld := HC4.out w hSw; go_simp; try with_reducible rfl
            refine tk 6 (v := ?v16) ?y16 hHeld ?r16
            case y16 => intro w hSw; go_simp; try with_reducible rfl
            refine tk 7 (v := ?v17) ?y17 hHeld ?r17
            case y17 => intro w hSw; have ld := IX.out w; go_simp; try with_reducible rfl
            refine tk 8 (v := ?v18) ?y18 hHeld ?r18
            case y18 => intro w hSw; have ld := HV4.out w hSw; go_simp; try with_reducible rfl
            refine tk 9 (v := ?v19) ?y19 hHeld ?r19
            case y19 => intro w hSw; go_simp; try with_reducible rfl
            try simp only [Act.put, List.setIfInBounds_toArray, List.set_cons_zero, List.set_cons_succ, Array.toArray_toList, List.getElem_toArray, List.getElem_cons_zero, List.getElem_cons_succ]
            refine wpAnyH_ready (rs := [10]) (by kernel_rfl) (by simp) ?_
            refine AllReadyH.cons rfl (fun K hK => ?_) AllReadyH.nil
            go_simp
            refine (HAC.out _).mono ?_
            rintro e' w6 ⟨rfl, hb6⟩
            dsimp only
            have hB6 : Below wr.heap.size wr w6 := ((Below.refl _ _).drew).trans hb6
            refine hK.out _ _ (hB6) (fun hHeld => ?_)
            clear hK K
            try simp only [Act.put, List.setIfInBounds_toArray, List.set_cons_zero, List.set_cons_succ, Array.toArray_toList, List.getElem_toArray, List.getElem_cons_zero, List.getElem_cons_succ]
            refine tk 11 (v := ?v20) ?y20 hHeld ?r20
            case y20 => intro w hSw; go_simp; try with_reducible rfl
            refine tk 12 (v := ?v21) ?y21 hHeld ?r21
            case y21 => intro w hSw; go_simp; try with_reducible rfl
            refine tk 13 (v := ?v22) ?y22 hHeld ?r22
            case y22 => intro w hSw; go_simp; try with_reducible rfl
            refine tk 14 (v := ?v23) ?y23 hHeld ?r23
            case y23 => intro w hSw; go_simp; try with_reducible rfl
            refine tk 15 (v := ?v24) ?y24 hHeld ?r24
            case y24 => intro w hSw; have ld := HT.out w hSw; go_simp; try with_reducible rfl
            refine tk 16 (v := ?v25) ?y25 hHeld ?r25
            case y25 => intro w hSw; go_simp; try with_reducible rfl
            refine tk 17 (v := ?v26) ?y26 hHeld ?r26
            case y26 => intro w hSw; go_simp; try with_reducible rfl
            try simp only [Act.put, List.setIfInBounds_toArray, List.set_cons_zero, List.set_cons_succ, Array.toArray_toList, List.getElem_toArray, List.getElem_cons_zero, List.getElem_cons_succ]
            refine wpAnyH_done (by kernel_rfl) ?_ _
            refine NoPanic.normal ?_
            go_wp2
            go_roundw
            case rel => exact ⟨i + 1, by omega, by go_num, (hB6.block _ (some_lt HR.out)).trans HR.out, HBB.out.trans (hB6.mono (HGS.out _ HBB.out))⟩
            case measure => simp [intOf]; omega
          · have HT' : Hid (∀ W, Below wr.heap.size wr W → W.cell? ⟨g, i, none⟩ = some (.int .i64 1)) := hid HT.out
            clear HT
            have HT := HT'
            clear HT'
            go_upto_region 32 with fail
            refine wp_region_noPanic ?_
            refine wp_region_held_drew (S := fun W => Below wr.heap.size wr W) (by kernel_rfl) ((Below.refl _ _).drew) (fun hHeld => ?_)
            refine tk 0 (v := ?v701) ?y701 hHeld ?r701
            case y701 => intro w hSw; go_simp; try with_reducible rfl
            refine tk 1 (v := ?v702) ?y702 hHeld ?r702
            case y702 => intro w hSw; go_simp; try with_reducible rfl
            refine tk 2 (v := ?v703) ?y703 hHeld ?r703
            case y703 => intro w hSw; have ld := HT.out w hSw; go_simp; try with_reducible rfl
            refine tk 3 (v := ?v704) ?y704 hHeld ?r704
            case y704 => intro w hSw; go_simp; try with_reducible rfl
            refine tk 4 (v := ?v705) ?y705 hHeld ?r705
            case y705 => intro w hSw; go_simp; try with_reducible rfl
            refine tk 5 (v := ?v706) ?y706 hHeld ?r706
            case y706 => intro w hSw; have ld := HC4.out w hSw; go_simp; try with_reducible rfl
            refine tk 6 (v := ?v707) ?y707 hHeld ?r707
            case y707 => intro w hSw; go_simp; try with_reducible rfl
            refine tk 7 (v := ?v708) ?y708 hHeld ?r708
            case y708 => intro w hSw; have ld := IX.out w; go_simp; try with_reducible rfl
            refine tk 8 (v := ?v709) ?y709 hHeld ?r709
            case y709 => intro w hSw; have ld := HV4.out w hSw; go_simp; try with_reducible rfl
            refine tk 9 (v := ?v710) ?y710 hHeld ?r710
            case y710 => intro w hSw; go_simp; try with_reducible rfl
            try simp only [Act.put, List.setIfInBounds_toArray, List.set_cons_zero, List.set_cons_succ, Array.toArray_toList, List.getElem_toArray, List.getElem_cons_zero, List.getElem_cons_succ]
            refine wpAnyH_ready (rs := [10]) (by kernel_rfl) (by simp) ?_
            refine AllReadyH.cons rfl (fun K hK => ?_) AllReadyH.nil
            go_simp
            refine (HAC.out _).mono ?_
            rintro e' w6 ⟨rfl, hb6⟩
            dsimp only
            have hB6 : Below wr.heap.size wr w6 := ((Below.refl _ _).drew).trans hb6
            refine hK.out _ _ (hB6) (fun hHeld => ?_)
            clear hK K
            try simp only [Act.put, List.setIfInBounds_toArray, List.set_cons_zero, List.set_cons_succ, Array.toArray_toList, List.getElem_toArray, List.getElem_cons_zero, List.getElem_cons_succ]
            refine tk 11 (v := ?v711) ?y711 hHeld ?r711
            case y711 => intro w hSw; go_simp; try with_reducible rfl
            refine tk 12 (v := ?v712) ?y712 hHeld ?r712
            case y712 => intro w hSw; go_simp; try with_reducible rfl
            refine tk 13 (v := ?v713) ?y713 hHeld ?r713
            case y713 => intro w hSw; go_simp; try with_reducible rfl
            refine tk 14 (v := ?v714) ?y714 hHeld ?r714
            case y714 => intro w hSw; go_simp; try with_reducible rfl
            refine tk 15 (v := ?v715) ?y715 hHeld ?r715
            case y715 => intro w hSw; have ld := HT.out w hSw; go_simp; try with_reducible rfl
            refine tk 16 (v := ?v716) ?y716 hHeld ?r716
            case y716 => intro w hSw; go_simp; try with_reducible rfl
            refine tk 17 (v := ?v717) ?y717 hHeld ?r717
            case y717 => intro w hSw; go_simp; try with_reducible rfl
            try simp only [Act.put, List.setIfInBounds_toArray, List.set_cons_zero, List.set_cons_succ, Array.toArray_toList, List.getElem_toArray, List.getElem_cons_zero, List.getElem_cons_succ]
            refine wpAnyH_done (by kernel_rfl) ?_ _
            refine NoPanic.normal ?_
            go_wp2
            go_roundw
            case rel => exact ⟨i + 1, by omega, by go_num, (hB6.block _ (some_lt HR.out)).trans HR.out, HBB.out.trans (hB6.mono (HGS.out _ HBB.out))⟩
            case measure => simp [intOf]; omega
        · obtain rfl : i = nV := by omega
          have HBB := hid hb
          clear hr hb
          have d1 : ms - ls ≤ 1 := by omega
          go_wp2
          go_ret
          exact ⟨rfl, HB.out.trans ((H0B.out wr HBB.out).mono HB.out.size)⟩

end Go.Proofs.YtenhgoclfljjlaaDoor
