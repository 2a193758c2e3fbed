/-
  What pdqsortOrdered and slices.Sort make of a row of numbers.
-/

import Derived.Test.YtenhgoclfljjlaaDoorPQ
import Derived.Test.YtenhgoclfljjlaaDoorPR
import Derived.Test.YtenhgoclfljjlaaDoorPqG
import Derived.Test.YtenhgoclfljjlaaDoorPS
namespace Go.Proofs.YtenhgoclfljjlaaDoor.Q

open Go.RowKit

set_option linter.unusedVariables false

set_option linter.unusedSimpArgs false

set_option maxRecDepth 1000000

/-- What pdqsortOrdered answers for parts that are shorter than N. -/
def PdQ (N : Nat) : Prop := ∀ (g off n cap a b l : Nat) (d : Array Int) (w : World), b - a < N → Sr w g off d w → d.size = n → a ≤ b → b ≤ n → n < 4611686018427387904 → l < 4611686018427387904 → Sort.Below Sort.ltInt a b d →
  Calls Tryd.prog 37 #[.slice (some ⟨g, off, none⟩) n cap, .int .i64 a, .int .i64 b, .int .i64 l] w (SrE w g off (pq d a b l true true))

set_option maxHeartbeats 12800000 in
theorem pdq_step (N : Nat) (ih : PdQ N) : PdQ (N + 1) := by
  intro g off n cap a0 b0 l0 d w hN hS hn hab hb hz hl hB
  obtain ⟨res, hres⟩ : ∃ res, pq d a0 b0 l0 true true = res := ⟨_, rfl⟩
  rw [hres]
  have HR := hid hres
  have IH := hid ih
  clear hres ih
  go_enter Tryd.func37, Tryd.ntmps37
  go_wp2
  go_loopg [1, 2, 3, 8, 9] (b0 - a0) (fun k s1 s2 s3 s8 s9 wr => ∃ (a b l : Nat) (wb wp : Bool) (dk : Array Int), s1 = .int .i64 a ∧ s2 = .int .i64 b ∧ s3 = .int .i64 l ∧ s8 = .bool wb ∧ s9 = .bool wp ∧ a ≤ b ∧ b ≤ n ∧ b - a ≤ k ∧ k ≤ b0 - a0 ∧ l ≤ l0 ∧ dk.size = n ∧ Sort.Below Sort.ltInt a b dk ∧ Sr w g off dk wr ∧ pq dk a b l wb wp = res)
  case atStart => exact ⟨a0, b0, l0, true, true, d, rfl, rfl, rfl, rfl, rfl, hab, hb, Nat.le_refl _, Nat.le_refl _, Nat.le_refl _, hn, hB, hS, HR.out⟩
  case round =>
    clear HR hS hB hab hb hn
    obtain ⟨a, b, l, wb, wp, dk, rfl, rfl, rfl, rfl, rfl, hab, hb, hk, hkN, hll, hd, hB, hs, heq⟩ := hrel
    have HS := hid hs
    have HE := hid heq
    have HK := hid (And.intro hk (And.intro hkN hN))
    have HB := hid hB
    clear hs heq hB
    by_cases h12 : b - a ≤ 12
    · have h12z : (b : Int) - (a : Int) ≤ 12 := by omega
      have hc := insertion_any g off n cap a b dk wr HS.out.start hd hab hb hz
      have HC := hid hc
      clear hc
      go_wp2_with (go_at_call 50; refine HC.out.mono ?_; rintro e w1 ⟨rfl, k1⟩)
      (try simp only [Exit.inBlock, Exit.then])
      refine bodyPost_ret (results_none rfl _ _ _) rfl ?_
      exact ⟨rfl, by rw [← HE.out, show pq dk a b l wb wp = _ from Sort.pdq_small h12]; exact HS.out.trans k1⟩
    · have h12z : ¬ (b : Int) - (a : Int) ≤ 12 := by omega
      by_cases hl0 : l = 0
      · subst hl0
        have hc := heap_any g off n cap a b dk wr HS.out.start hd hab hb hz
        have HC := hid hc
        clear hc
        go_wp2_with (go_at_call 51; refine HC.out.mono ?_; rintro e w1 ⟨rfl, k1⟩)
        (try simp only [Exit.inBlock, Exit.then])
        refine bodyPost_ret (results_none rfl _ _ _) rfl ?_
        exact ⟨rfl, by rw [← HE.out, show pq dk a b 0 wb wp = _ from Sort.pdq_heap h12 rfl]; exact HS.out.trans k1⟩
      · have hl0z : ((l : Int) == 0) = false := by simp; omega
        obtain ⟨D1, D2, D3, l1, p0, pv, hn0, hn1, f, hr⟩ := pq_round (wb := wb) (wp := wp) hd h12 hl0 hb HB.out
        obtain ⟨r1, r2, r3, r4, r5, r6, r7, n1, n2, n3, p0a, p0b, pva, pvb, hls, r8, r9, r10⟩ := hr
        rw [HE.out] at r8 r9 r10
        have hA : wb = false → Calls Tryd.prog 52 #[.slice (some ⟨g, off, none⟩) n cap, .int .i64 a, .int .i64 b] wr (SrE wr g off D1) := fun h => by rw [(r1 h).1]; exact break_any g off n cap a b dk wr HS.out.start hd hab hb hz
        have hP : ∀ W, Sr w g off D1 W → Calls Tryd.prog 53 #[.slice (some ⟨g, off, none⟩) n cap, .int .i64 a, .int .i64 b] W (PvE W g off D1 (p0, hn0)) := fun W h => by rw [← r3]; exact pivot_any g off n cap a b D1 W h.start n1 hab hb (by omega) hz
        have hV : hn0 = .decreasing → ∀ W, Sr w g off D1 W → Calls Tryd.prog 54 #[.slice (some ⟨g, off, none⟩) n cap, .int .i64 a, .int .i64 b] W (SrE W g off D2) := fun h W hh => by rw [(r4 h).1]; exact reverse_any g off n cap a b D1 W hh.start n1 hab hb hz
        have hI : (wb && wp && decide (hn1 = .increasing)) = true → ∀ W, Sr w g off D2 W → Calls Tryd.prog 55 #[.slice (some ⟨g, off, none⟩) n cap, .int .i64 a, .int .i64 b] W (PiE W g off (D3, f)) := fun h W hh => by rw [← r6 h]; exact partial_any g off n cap a b D2 W hh.start n2 (by omega) hb hz
        have HA := hid hA
        have HP := hid hP
        have HV := hid hV
        have HI := hid hI
        have R1 := hid r1
        have R2 := hid r2
        have R4 := hid r4
        have R5 := hid r5
        have R7 := hid r7
        have R8 := hid r8
        have R9 := hid r9
        have R10 := hid r10
        clear hA hP hV hI r1 r2 r3 r4 r5 r6 r7 r8 r9 r10 HB hd HE
        go_upto_if 35 with fail
        go_cut [3] from 19 (fun v wx => v = .int .i64 (l1 : Nat) ∧ Sr w g off D1 wx)
        case first =>
          cases wb
          · obtain ⟨e1, e2⟩ := R1.out rfl
            go_wp2_with (go_at_call 52; refine (HA.out rfl).mono ?_; rintro e w1 ⟨rfl, k1⟩)
            go_meet
            exact ⟨by congr 1; omega, HS.out.trans k1⟩
          · obtain ⟨e1, e2⟩ := R2.out rfl
            subst e1
            subst e2
            go_wp2_with fail
            go_meet
            exact ⟨rfl, HS.out⟩
        case rest =>
          clear HS HA R1 R2
          obtain ⟨rfl, hs⟩ := hcut
          have HS := hid hs
          clear hs
          go_upto_if 50 with (go_at_call 53; refine (HP.out _ HS.out).mono ?_; rintro e w1 ⟨rfl, k1⟩)
          have HS1 := hid (HS.out.trans k1)
          clear k1 HS HP
          go_cut [11, 12] from 19 (fun v u wx => v = .int .i64 (pv : Nat) ∧ u = .int .i64 (Sort.hintCode hn1) ∧ Sr w g off D2 wx)
          case first =>
            by_cases hh : hn0 = .decreasing
            · obtain ⟨_, e2, e3⟩ := R4.out hh
              have hcd : Sort.hintCode hn0 = 2 := by rw [hh]; rfl
              go_wp2_with (go_at_call 54; refine (HV.out hh _ HS1.out).mono ?_; rintro e w2 ⟨rfl, k2⟩)
              go_meet
              exact ⟨by congr 1; omega, by rw [e3]; rfl, HS1.out.trans k2⟩
            · obtain ⟨e1, e2, e3⟩ := R5.out hh
              subst e1
              subst e2
              subst e3
              have hcd : (Sort.hintCode hn1 == 2) = false := by cases hn1 <;> first | rfl | exact absurd rfl hh
              go_wp2_with fail
              go_meet
              exact ⟨rfl, rfl, HS1.out⟩
          case rest =>
            clear HS1 HV R4 R5
            obtain ⟨rfl, rfl, hs⟩ := hcut
            have HS := hid hs
            clear hs
            obtain ⟨T, hT⟩ : ∃ T, (wb && wp && decide (hn1 = .increasing)) = T := ⟨_, rfl⟩
            go_upto_region 15 with fail
            go_cut [12, 68] from 19 (fun v u wx => v = .int .i64 (Sort.hintCode hn1) ∧ u = .bool T ∧ Sr w g off D2 wx)
            case first =>
              subst hT
              cases wb <;> cases wp <;> cases hn1 <;> (go_wp2_with fail; go_meet; exact ⟨rfl, rfl, HS.out⟩)
            case rest =>
              clear HS
              obtain ⟨rfl, rfl, hs⟩ := hcut
              have HS := hid hs
              rw [hT] at HI R7
              clear hs hT
              go_upto_if 68 with fail
              go_cut [8] from 19 (fun v wx => v = .bool wb ∧ f = false ∧ Sr w g off D3 wx)
              case first =>
                cases T
                · obtain ⟨e1, e2⟩ := R7.out rfl
                  subst e1
                  go_wp2_with fail
                  go_meet
                  exact ⟨rfl, e2, HS.out⟩
                · cases f
                  · go_wp2_with (go_at_call 55; refine (HI.out rfl _ HS.out).mono ?_; rintro e w2 ⟨rfl, k2⟩)
                    go_meet
                    exact ⟨rfl, by simp, HS.out.trans k2⟩
                  · go_wp2_with (go_at_call 55; refine (HI.out rfl _ HS.out).mono ?_; rintro e w2 ⟨rfl, k2⟩)
                    (try simp only [Exit.inBlock, Exit.then])
                    refine bodyPost_ret (results_none rfl _ _ _) rfl ?_
                    exact ⟨rfl, by rw [R8.out (by simp)]; exact HS.out.trans k2⟩
              case rest =>
                clear HS HI R7 R8
                obtain ⟨rfl, rfl, hs⟩ := hcut
                have hc := hs.cell n3
                have hf := hs.soft n3
                have HS := hid hs
                clear hs
                obtain ⟨T, hT⟩ : ∃ T, (decide (0 < a) && !ls (el D3 (a - 1)) (el D3 pv)) = T := ⟨_, rfl⟩
                have HT := hid hT
                clear hT
                go_upto_region 17 with fail
                go_cut [87] from 19 (fun v wx => v = .bool T ∧ Sr w g off D3 wx)
                case first =>
                  rcases Nat.eq_zero_or_pos a with ha | ha
                  · have haz : decide ((0 : Int) < (a : Int)) = false := decide_eq_false (by omega)
                    have haz2 : decide (0 < a) = false := decide_eq_false (by omega)
                    have HA0 := hid ha
                    clear ha
                    go_quiet (first | (go_at_call 56; refine Calls.quiet_of_same (less_any _ _ _)))
                    go_wp2_with fail
                    go_meet
                    exact ⟨by rw [← HT.out, decide_eq_false (by have := HA0.out; omega)]; rfl, HS.out.drewN nq⟩
                  · have haz : (0 : Int) < (a : Int) := by omega
                    go_quiet (first | (go_at_call 56; refine Calls.quiet_of_same (less_any _ _ _)))
                    go_wp2_with fail
                    go_meet
                    exact ⟨by rw [← HT.out, decide_eq_true ha]; simp, HS.out.drewN nq⟩
                case rest =>
                  clear HS hc hf
                  obtain ⟨rfl, hs⟩ := hcut
                  have HS := hid hs
                  clear hs
                  cases T
                  · have hno : ¬ (0 < a ∧ Sort.ltInt D3[a - 1]! D3[pv]! = false) := fun h => by
                      have := HT.out
                      rw [decide_eq_true h.1, show ls (el D3 (a - 1)) (el D3 pv) = false from h.2] at this
                      cases this
                    obtain ⟨mid, ap, D4, hx, m1, m2, n4, B1, B2, q1, q2⟩ := R10.out rfl hno
                    have hPT := part_any g off n cap a b pv D3 wc HS.out.start n3 pva pvb hb hz
                    rw [hx] at hPT
                    have HPT := hid hPT
                    have HX := hid (And.intro B1 B2)
                    have Q1 := hid q1
                    have Q2 := hid q2
                    clear hPT hx q1 q2 B1 B2 HT R9 R10 hno
                    go_upto_if 113 with (go_at_call 58; refine HPT.out.mono ?_; rintro e w2 ⟨rfl, k2⟩)
                    have HS2 := hid (HS.out.trans k2)
                    clear k2 HS HPT
                    obtain ⟨k0, k1, k2⟩ := HK.out
                    by_cases h4 : mid - a < b - mid
                    · have h4z : (mid : Int) - (a : Int) < (b : Int) - (mid : Int) := by omega
                      obtain ⟨z1, z2, z3⟩ := Q1.out h4
                      have hc := IH.out g off n cap a mid l1 D4 w2 (by omega) HS2.out.start n4 m1 (by omega) hz (by omega) HX.out.1
                      have HC := hid hc
                      have Z := hid (And.intro z1 (And.intro z2 z3))
                      clear hc z1 z2 z3 Q1 Q2 HX
                      go_wp2_with (go_at_call 37; refine HC.out.mono ?_; rintro e w3 ⟨rfl, k3⟩)
                      go_roundg (b - (mid + 1))
                      case measure => omega
                      case rel => exact ⟨mid + 1, b, l1, decide (mid - a ≥ (b - a) / 8), ap, _, by simp, rfl, rfl, congrArg Value.bool (decide_eq_decide.2 ⟨fun h => by omega, fun h => by omega⟩), rfl, by omega, hb, Nat.le_refl _, by omega, by omega, Z.out.1, Z.out.2.1, HS2.out.trans k3, Z.out.2.2⟩
                    · have h4z : ¬ (mid : Int) - (a : Int) < (b : Int) - (mid : Int) := by omega
                      obtain ⟨z1, z2, z3⟩ := Q2.out h4
                      have hc := IH.out g off n cap (mid + 1) b l1 D4 w2 (by omega) HS2.out.start n4 (by omega) hb hz (by omega) HX.out.2
                      rw [Int.natCast_add] at hc
                      have HC := hid hc
                      have Z := hid (And.intro z1 (And.intro z2 z3))
                      clear hc z1 z2 z3 Q1 Q2 HX
                      go_wp2_with (go_at_call 37; refine HC.out.mono ?_; rintro e w3 ⟨rfl, k3⟩)
                      go_roundg (mid - a)
                      case measure => omega
                      case rel => exact ⟨a, mid, l1, decide (b - mid ≥ (b - a) / 8), ap, _, rfl, rfl, rfl, congrArg Value.bool (decide_eq_decide.2 ⟨fun h => by omega, fun h => by omega⟩), rfl, m1, by omega, Nat.le_refl _, by omega, by omega, Z.out.1, Z.out.2.1, HS2.out.trans k3, Z.out.2.2⟩
                  · have hyes : 0 < a ∧ Sort.ltInt D3[a - 1]! D3[pv]! = false := by
                      have := HT.out
                      rw [Bool.and_eq_true, decide_eq_true_eq, Bool.not_eq_true'] at this
                      exact this
                    obtain ⟨mid, D4, hx, m1, m2, n4, B1, q1⟩ := R9.out rfl hyes.1 hyes.2
                    have hPT := equal_any g off n cap a b pv D3 wc HS.out.start n3 pva pvb hb hz
                    rw [hx] at hPT
                    have HPT := hid hPT
                    have Z := hid (And.intro B1 q1)
                    clear hPT hx q1 B1 HT R9 R10 hyes
                    go_wp2_with (go_at_call 57; refine HPT.out.mono ?_; rintro e w2 ⟨rfl, k2⟩)
                    obtain ⟨k0, k1, k2'⟩ := HK.out
                    go_roundg (b - mid)
                    case measure => omega
                    case rel => exact ⟨mid, b, l1, wb, wp, D4, rfl, rfl, rfl, rfl, rfl, m2, hb, Nat.le_refl _, by omega, by omega, n4, Z.out.1, HS.out.trans k2, Z.out.2⟩

theorem pdq_all : ∀ N, PdQ N
  | 0 => fun _ _ _ _ _ _ _ _ _ h => absurd h (Nat.not_lt_zero _)
  | N + 1 => pdq_step N (pdq_all N)

/-- Numbers that are put in order. -/
def srtL (l : List Int) : List Int := l.mergeSort fun x y => decide (x ≤ y)

theorem srt_pq (l : List Int) : pq l.toArray 0 l.length (Sort.bitsLen l.length) true true = (srtL l).toArray := by
  have h := Sort.sortInt l
  unfold Sort.sort at h
  rw [List.size_toArray] at h
  unfold srtL
  rw [← h]

set_option maxHeartbeats 1600000 in
theorem sort_any (g off cap : Nat) (l : List Int) (w : World) (hS : Sr w g off l.toArray w) (hz : l.length < 4611686018427387904) :
    Calls Tryd.prog 27 #[.slice (some ⟨g, off, none⟩) l.length cap] w (SrE w g off (srtL l).toArray) := by
  have hc := pdq_all (l.length + 1) g off l.length cap 0 l.length (Sort.bitsLen l.length) l.toArray w (by omega) hS List.size_toArray (Nat.zero_le _) (Nat.le_refl _) hz (Nat.lt_of_le_of_lt ((Sort.bitsLen_le_iff l.length 62).2 hz) (by omega)) (.inl rfl)
  rw [srt_pq l] at hc
  have hl : ∀ W, Calls Tryd.prog 38 #[.int .u64 (l.length : Int)] W fun e w' => e = .returned (.int .i64 (Sort.bitsLen l.length : Nat)) ∧ w' = W := fun W => by
    have h := Tryd.bits_LenL (l.length : Int) W (by omega) (by omega)
    rw [Int.toNat_natCast, bitLen_eq _ (by omega)] at h
    exact h
  generalize srtL l = S at hc ⊢
  generalize l.length = n at hc hl hz ⊢
  generalize Sort.bitsLen n = B at hc hl
  have nw : IntKind.u64.wrap (n : Int) = (n : Int) := by rw [IntKind.wrap_u64]; omega
  have HC := hid hc
  have HL := hid hl
  clear hc hl hS
  go_enter Tryd.func27, Tryd.ntmps27
  go_wp2_with (first
    | (go_at_call 38; refine (HL.out _).mono ?_; rintro e w1 ⟨rfl, hw1⟩; subst hw1)
    | (go_at_call 37; refine HC.out.mono ?_; rintro e w2 ⟨rfl, k2⟩))
  go_end0
  exact ⟨rfl, k2⟩

end Go.Proofs.YtenhgoclfljjlaaDoor.Q
