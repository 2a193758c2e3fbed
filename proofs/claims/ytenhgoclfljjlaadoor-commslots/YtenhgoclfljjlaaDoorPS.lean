/-
  What partialInsertionSortOrdered makes of a row.
  One round of pdqsortOrdered, told in plain words (no memory in this text).
-/
import Derived.Test.YtenhgoclfljjlaaDoorPQ
import Derived.BigRegion

import Derived.Deep.Cut

import Derived.Deep.CutRange

import Derived.Deep.CutBlock

import Derived.Sort.WalkA6

import Derived.Sort.AssemblyPlain

import Derived.Sort.Walk13a

namespace Go.Proofs.YtenhgoclfljjlaaDoor.Q

open Go.RowKit

set_option linter.unusedVariables false

set_option linter.unusedSimpArgs false

set_option maxRecDepth 1000000

theorem ss_bd (d : Array Int) (b : Nat) : ∀ (m i : Nat), b - i = m → i ≤ b → i ≤ Sort.scanSorted Sort.ltInt d b i ∧ Sort.scanSorted Sort.ltInt d b i ≤ b
  | 0, i, hm, hi => by
    rw [scanSorted_stop Sort.ltInt d b i (.inl (by omega))]
    omega
  | m + 1, i, hm, hi => by
    cases hl : Sort.ltInt d[i]! d[i - 1]! with
    | true =>
      rw [scanSorted_stop Sort.ltInt d b i (.inr hl)]
      omega
    | false =>
      rw [scanSorted_go Sort.ltInt d b i (by omega) hl]
      have := ss_bd d b m (i + 1) (by omega) (by omega)
      omega

/-- What partialInsertionSortOrdered answers. -/
def PiE (w : World) (g off : Nat) (p : Array Int × Bool) (e : Ending) (w' : World) : Prop := e = .returned (.bool p.2) ∧ Sr w g off p.1 w'

set_option maxHeartbeats 12800000 in
theorem partial_any (g off n cap a b : Nat) (d : Array Int) (w : World) (hS : Sr w g off d w) (hn : d.size = n) (hab : a < b) (hb : b ≤ n) (hz : n < 4611686018427387904) :
    Calls Tryd.prog 55 #[.slice (some ⟨g, off, none⟩) n cap, .int .i64 a, .int .i64 b] w (PiE w g off (Sort.partialInsertionSort Sort.ltInt d a b)) := by
  go_enter Tryd.func55, Tryd.ntmps55
  go_wp2
  go_loopg [7, 8] 6 (fun k s7 s8 wr => ∃ (i s : Nat) (dk : Array Int), s7 = .int .i64 i ∧ s8 = .int .i64 s ∧ a < i ∧ i ≤ b ∧ s ≤ 5 ∧ 5 - s < k ∧ dk.size = n ∧ Sr w g off dk wr ∧ Sort.partialIns Sort.ltInt a b (5 - s) i dk = Sort.partialInsertionSort Sort.ltInt d a b)
  case atStart => exact ⟨a + 1, 0, d, by simp, rfl, by omega, by omega, by omega, by omega, hn, hS, rfl⟩
  case round =>
    obtain ⟨i, s, dk, rfl, rfl, h1, h2, h5, hk, hd, hs, heq⟩ := hrel
    have HS := hid hs
    clear hs hS
    by_cases hs5 : s < 5
    · have hs5z : (s : Int) < 5 := by omega
      obtain ⟨K, hK⟩ : ∃ K, Sort.scanSorted Sort.ltInt dk b i = K := ⟨_, rfl⟩
      have bK := ss_bd dk b _ i rfl h2
      rw [hK] at bK
      obtain ⟨aK, bK⟩ := bK
      have ht : K = b → Sort.partialInsertionSort Sort.ltInt d a b = (dk, true) := fun h => heq.symm.trans (pi_true Sort.ltInt a b s i dk hs5 (hK.trans h))
      have hf : K ≠ b → b - a < 50 → Sort.partialInsertionSort Sort.ltInt d a b = (dk, false) := fun h h' => heq.symm.trans (pi_short Sort.ltInt a b s i dk hs5 (by rw [hK]; exact h) h')
      have hg : K ≠ b → ¬ b - a < 50 → Sort.partialIns Sort.ltInt a b (5 - (s + 1)) K (Sort.fixUp Sort.ltInt b K (Sort.fixDown Sort.ltInt a K (Sort.swp dk K (K - 1)))) = Sort.partialInsertionSort Sort.ltInt d a b := fun h h' => (pi_go Sort.ltInt a b s i K dk hs5 hK h h').symm.trans heq
      have HT := hid ht
      have HF := hid hf
      have HG := hid hg
      have HK := hid hK
      clear ht hf hg hK heq
      go_upto_block 2 with fail
      go_cut [7] from 13 to 132 (fun v wx => v = .int .i64 (K : Nat) ∧ Sr w g off dk wx)
      case first =>
        go_wp2_with fail
        go_loopg [7] (b - i) (fun k v wx => ∃ i2 : Nat, v = .int .i64 i2 ∧ i ≤ i2 ∧ i2 ≤ b ∧ b - i2 ≤ k ∧ Sr w g off dk wx ∧ Sort.scanSorted Sort.ltInt dk b i2 = K)
        case atStart => exact ⟨i, rfl, Nat.le_refl _, h2, Nat.le_refl _, HS.out, HK.out⟩
        case round =>
          clear HS
          obtain ⟨i2, rfl, hq, hq2, hk2, hs, hsc⟩ := hrel
          have hc := hs.cell hd
          have hf := hs.soft hd
          have HS2 := hid hs
          have HSC := hid hsc
          clear hs hsc
          by_cases hij : i2 < b
          · have hijz : (i2 : Int) < (b : Int) := by omega
            go_wp2_with fail
            go_quiet (first | (go_at_call 56; refine Calls.quiet_of_same (less_any _ _ _)))
            go_wp2
            · have hl : ls (el dk (i2)) (el dk (i2 - 1)) = false := by
                have : (!ls (el dk (i2)) (el dk (i2 - 1))) = true := by assumption
                simpa using this
              go_roundg (b - (i2 + 1))
              case measure => omega
              case rel => exact ⟨i2 + 1, by simp, by omega, by omega, Nat.le_refl _, HS2.out.drewN nq, (scanSorted_go _ dk b i2 hij hl).symm.trans HSC.out⟩
            · have hl : ls (el dk (i2)) (el dk (i2 - 1)) = true := by
                have : (!ls (el dk (i2)) (el dk (i2 - 1))) = false := by assumption
                simpa using this
              go_meet
              exact ⟨by rw [show i2 = K from (scanSorted_stop _ dk b i2 (.inr hl)).symm.trans HSC.out], HS2.out.drewN nq⟩
          · have hijz : decide ((i2 : Int) < (b : Int)) = false := decide_eq_false (by omega)
            go_wp2_with fail
            go_quiet (first | (go_at_call 56; refine Calls.quiet_of_same (less_any _ _ _)))
            go_wp2
            go_meet
            exact ⟨by rw [show i2 = K from (scanSorted_stop Sort.ltInt dk b i2 (.inl hij)).symm.trans HSC.out], HS2.out.drewN nq⟩
      case rest =>
        clear HS
        obtain ⟨rfl, hs⟩ := hcut
        have HS := hid hs
        clear hs
        by_cases hKb : K = b
        · have hp := HT.out hKb
          have HP := hid hp
          have hKz : ((K : Int) == (b : Int)) = true := by simp; omega
          clear hp HT HF HG
          go_wp2
          go_ret
          exact ⟨by rw [HP.out]; rfl, by rw [HP.out]; exact HS.out⟩
        · have hKz : ((K : Int) == (b : Int)) = false := by simp; omega
          by_cases h50 : b - a < 50
          · have hp := HF.out hKb h50
            have HP := hid hp
            have h50z : (b : Int) - (a : Int) < 50 := by omega
            clear hp HT HF HG
            go_wp2
            go_ret
            exact ⟨by rw [HP.out]; rfl, by rw [HP.out]; exact HS.out⟩
          · have h50z : ¬ (b : Int) - (a : Int) < 50 := by omega
            have hgo := HG.out hKb h50
            obtain ⟨D1, hD1⟩ : ∃ D, Sort.swp dk K (K - 1) = D := ⟨_, rfl⟩
            rw [hD1] at hgo
            obtain ⟨D2, hD2⟩ : ∃ D, Sort.fixDown Sort.ltInt a K D1 = D := ⟨_, rfl⟩
            rw [hD2] at hgo
            obtain ⟨D3, hD3⟩ : ∃ D, Sort.fixUp Sort.ltInt b K D2 = D := ⟨_, rfl⟩
            rw [hD3] at hgo
            have hd1 : D1.size = n := by rw [← hD1, swp_size]; exact hd
            have hs1 := HS.out.swap hd (i := K) (j := K - 1) (by omega) (by omega) 1 rfl rfl
            rw [hD1] at hs1
            have hc := HS.out.cell hd
            have hf := HS.out.soft hd
            have HGO := hid hgo
            have HD2 := hid hD2
            have HD3 := hid hD3
            have HS1 := hid hs1
            clear hgo hD1 hD2 hD3 hs1 HT HF HG HS
            go_upto_region 11 with fail
            go_region
            have HS := HS1
            clear HS1 hc hf
            go_upto_if 61 with fail
            go_cut [9] from 13 to 132 (fun v wx => D2.size = n ∧ Sr w g off D2 wx)
            case first =>
              by_cases h2a : 2 ≤ K - a
              · have h2z : (2 : Int) ≤ (K : Int) - (a : Int) := by omega
                have hD2 : Sort.shiftDown Sort.ltInt (K - 1) D1 = D2 := (if_pos h2a).symm.trans HD2.out
                have HDD := hid hD2
                clear hD2
                go_wp2
                go_loopg [9] K (fun k v wx => ∃ (j : Nat) (dj : Array Int), v = .int .i64 j ∧ j ≤ K - 1 ∧ j < k ∧ dj.size = n ∧ Sr w g off dj wx ∧ Sort.shiftDown Sort.ltInt j dj = D2)
                case atStart => exact ⟨K - 1, D1, by congr 1; omega, Nat.le_refl _, by omega, hd1, HS.out, HDD.out⟩
                case round =>
                  clear HS
                  obtain ⟨j, dj, rfl, hj, hk2, hdj, hs, hsh⟩ := hrel
                  have hc := hs.cell hdj
                  have hf := hs.soft hdj
                  have HS2 := hid hs
                  have HSH := hid hsh
                  clear hs hsh
                  by_cases hj1 : 1 ≤ j
                  · have hj1z : (1 : Int) ≤ (j : Int) := by omega
                    go_wp2_with fail
                    go_quiet (first | (go_at_call 56; refine Calls.quiet_of_same (less_any _ _ _)))
                    go_wp2
                    · have hl : ls (el dj (j)) (el dj (j - 1)) = false := by
                        have : (!ls (el dj (j)) (el dj (j - 1))) = true := by assumption
                        simpa using this
                      go_meet
                      have e : D2 = dj := HSH.out.symm.trans (shiftDown_stop Sort.ltInt j dj (.inr hl))
                      exact ⟨e ▸ hdj, e ▸ HS2.out.drewN nq⟩
                    · have hl : ls (el dj (j)) (el dj (j - 1)) = true := by
                        have : (!ls (el dj (j)) (el dj (j - 1))) = false := by assumption
                        simpa using this
                      go_region
                      all_goals go_wp2
                      go_roundg j
                      case measure => omega
                      case rel => exact ⟨j - 1, Sort.swp dj j (j - 1), by congr 1; omega, by omega, by omega, by rw [swp_size]; exact hdj, HS2.out.swap hdj (by omega) (by omega) _ rfl rfl, (shiftDown_go Sort.ltInt j dj hj1 hl).symm.trans HSH.out⟩
                  · have hj1z : ¬ (1 : Int) ≤ (j : Int) := by omega
                    go_wp2
                    go_meet
                    have e : D2 = dj := HSH.out.symm.trans (shiftDown_stop Sort.ltInt j dj (.inl (by omega)))
                    exact ⟨e ▸ hdj, e ▸ HS2.out⟩
              · have h2z : ¬ (2 : Int) ≤ (K : Int) - (a : Int) := by omega
                have hD2 : D1 = D2 := (if_neg h2a).symm.trans HD2.out
                subst hD2
                go_wp2
                go_meet
                exact ⟨hd1, HS.out⟩
            case rest =>
              clear HS hd1
              obtain ⟨hd2, hs⟩ := hcut
              have HS := hid hs
              clear hs
              by_cases h2b : 2 ≤ b - K
              · have h2z : (2 : Int) ≤ (b : Int) - (K : Int) := by omega
                have hD3 : Sort.shiftUp Sort.ltInt b (K + 1) D2 = D3 := (if_pos h2b).symm.trans HD3.out
                have HDD := hid hD3
                have hk0 : 5 - s < gk := by omega
                have HK0 := hid hk0
                clear hD3 hk0
                go_wp2
                go_loopg [10] (b + 1) (fun k v wx => ∃ (j : Nat) (dj : Array Int), v = .int .i64 j ∧ K + 1 ≤ j ∧ j ≤ b ∧ b - j < k ∧ dj.size = n ∧ Sr w g off dj wx ∧ Sort.shiftUp Sort.ltInt b j dj = D3)
                case atStart => exact ⟨K + 1, D2, by simp, Nat.le_refl _, by omega, by omega, hd2, HS.out, HDD.out⟩
                case round =>
                  clear HS
                  obtain ⟨j, dj, rfl, hj, hjb, hk2, hdj, hs, hsh⟩ := hrel
                  have hc := hs.cell hdj
                  have hf := hs.soft hdj
                  have HS2 := hid hs
                  have HSH := hid hsh
                  clear hs hsh
                  by_cases hj1 : j < b
                  · have hj1z : (j : Int) < (b : Int) := by omega
                    go_wp2_with fail
                    go_quiet (first | (go_at_call 56; refine Calls.quiet_of_same (less_any _ _ _)))
                    go_wp2
                    · have hl : ls (el dj (j)) (el dj (j - 1)) = false := by
                        have : (!ls (el dj (j)) (el dj (j - 1))) = true := by assumption
                        simpa using this
                      have e : D3 = dj := HSH.out.symm.trans (shiftUp_stop Sort.ltInt b j dj (.inr hl))
                      have HEJ := hid e
                      clear e
                      go_roundg (5 - s)
                      case measure => exact HK0.out
                      case rel => exact ⟨K, s + 1, dj, rfl, by simp, by omega, bK, by omega, by omega, hdj, HS2.out.drewN nq, by rw [← HEJ.out]; exact HGO.out⟩
                    · have hl : ls (el dj (j)) (el dj (j - 1)) = true := by
                        have : (!ls (el dj (j)) (el dj (j - 1))) = false := by assumption
                        simpa using this
                      go_region
                      all_goals go_wp2
                      go_roundg (b - j)
                      case measure => omega
                      case rel => exact ⟨j + 1, Sort.swp dj j (j - 1), by simp, by omega, by omega, by omega, by rw [swp_size]; exact hdj, HS2.out.swap hdj (by omega) (by omega) _ rfl rfl, (shiftUp_go Sort.ltInt b j dj hj1 hl).symm.trans HSH.out⟩
                  · have hj1z : ¬ (j : Int) < (b : Int) := by omega
                    have e : D3 = dj := HSH.out.symm.trans (shiftUp_stop Sort.ltInt b j dj (.inl hj1))
                    have HEJ := hid e
                    clear e
                    go_wp2
                    go_roundg (5 - s)
                    case measure => exact HK0.out
                    case rel => exact ⟨K, s + 1, dj, rfl, by simp, by omega, bK, by omega, by omega, hdj, HS2.out, by rw [← HEJ.out]; exact HGO.out⟩
              · have h2z : ¬ (2 : Int) ≤ (b : Int) - (K : Int) := by omega
                have hD3 : D2 = D3 := (if_neg h2b).symm.trans HD3.out
                have HEJ := hid hD3
                clear hD3
                go_wp2
                go_roundg (5 - s)
                case measure => omega
                case rel => exact ⟨K, s + 1, D2, rfl, by simp, by omega, bK, by omega, by omega, hd2, HS.out, by rw [HEJ.out]; exact HGO.out⟩
    · have hs5z : ¬ (s : Int) < 5 := by omega
      obtain rfl : s = 5 := by omega
      have HE := hid heq
      clear heq
      go_wp2
      go_ret
      exact ⟨by rw [← HE.out]; rfl, by rw [← HE.out]; exact HS.out⟩

end Go.Proofs.YtenhgoclfljjlaaDoor.Q

namespace Go.Proofs.YtenhgoclfljjlaaDoor.Q

open Go.RowKit

set_option linter.unusedVariables false

/-- A row sorted from a to b by pdqsortOrdered. -/
abbrev pq (d : Array Int) (a b l : Nat) (wb wp : Bool) : Array Int := Sort.pdq Sort.ltInt d a b l wb wp

theorem pq_perm {d : Array Int} {a b l : Nat} {wb wp : Bool} (hab : a ≤ b) (hb : b ≤ d.size) (hB : Sort.Below Sort.ltInt a b d) : Sort.PermIn a b d (pq d a b l wb wp) ∧ Sort.SortedIn Sort.ltInt a b (pq d a b l wb wp) := Sort.pdq_sorts Sort.ltInt Sort.swo_ltInt d a b l wb wp hab hb hB

/-- Where the elements that are equal to the one ahead of the part are set apart. -/
def EqR (D3 : Array Int) (n a b l1 pv : Nat) (wb wp : Bool) (res : Array Int) : Prop :=
  ∃ mid D4, Sort.partitionEqual Sort.ltInt D3 a b pv = (mid, D4) ∧ a < mid ∧ mid ≤ b ∧ D4.size = n ∧ Sort.Below Sort.ltInt mid b D4 ∧ pq D4 mid b l1 wb wp = res

/-- Where the part is parted in two. -/
def PtR (D3 : Array Int) (n a b l1 pv : Nat) (res : Array Int) : Prop :=
  ∃ mid ap D4, Sort.partition Sort.ltInt D3 a b pv = (mid, ap, D4) ∧ a ≤ mid ∧ mid < b ∧ D4.size = n ∧ Sort.Below Sort.ltInt a mid D4 ∧ Sort.Below Sort.ltInt (mid + 1) b D4 ∧
    (mid - a < b - mid → (pq D4 a mid l1 true true).size = n ∧ Sort.Below Sort.ltInt (mid + 1) b (pq D4 a mid l1 true true) ∧ pq (pq D4 a mid l1 true true) (mid + 1) b l1 (decide (mid - a ≥ (b - a) / 8)) ap = res) ∧
    (¬ mid - a < b - mid → (pq D4 (mid + 1) b l1 true true).size = n ∧ Sort.Below Sort.ltInt a mid (pq D4 (mid + 1) b l1 true true) ∧ pq (pq D4 (mid + 1) b l1 true true) a mid l1 (decide (b - mid ≥ (b - a) / 8)) ap = res)

theorem eq_round {D3 : Array Int} {n a b l1 pv : Nat} {wb wp : Bool} (hn : D3.size = n) (ha : 0 < a) (h1 : a ≤ pv) (h2 : pv < b) (hb : b ≤ n) (hB : Sort.Below Sort.ltInt a b D3) (hl : Sort.ltInt D3[a - 1]! D3[pv]! = false)
    (res : Array Int) (hr : a < (Sort.partitionEqual Sort.ltInt D3 a b pv).1 ∧ (Sort.partitionEqual Sort.ltInt D3 a b pv).1 ≤ b → res = pq (Sort.partitionEqual Sort.ltInt D3 a b pv).2 (Sort.partitionEqual Sort.ltInt D3 a b pv).1 b l1 wb wp) : EqR D3 n a b l1 pv wb wp res := by
  unfold EqR
  generalize hx : Sort.partitionEqual Sort.ltInt D3 a b pv = X at hr ⊢
  obtain ⟨mid, D4⟩ := X
  obtain ⟨r1, r2, r3, r4, _⟩ := Sort.round_eq Sort.swo_ltInt (Sort.partitionEqual_holds Sort.ltInt) ha h1 h2 (by omega) hB hl hx
  exact ⟨mid, D4, rfl, r1, r2, r3.trans hn, r4, (hr ⟨r1, r2⟩).symm⟩

theorem pt_round {D3 : Array Int} {n a b l1 pv : Nat} (hn : D3.size = n) (h1 : a ≤ pv) (h2 : pv < b) (hb : b ≤ n) (hB : Sort.Below Sort.ltInt a b D3) (res : Array Int)
    (hr1 : a ≤ (Sort.partition Sort.ltInt D3 a b pv).1 ∧ (Sort.partition Sort.ltInt D3 a b pv).1 < b → (Sort.partition Sort.ltInt D3 a b pv).1 - a < b - (Sort.partition Sort.ltInt D3 a b pv).1 →
      res = pq (pq (Sort.partition Sort.ltInt D3 a b pv).2.2 a (Sort.partition Sort.ltInt D3 a b pv).1 l1 true true) ((Sort.partition Sort.ltInt D3 a b pv).1 + 1) b l1 (decide ((Sort.partition Sort.ltInt D3 a b pv).1 - a ≥ (b - a) / 8)) (Sort.partition Sort.ltInt D3 a b pv).2.1)
    (hr2 : a ≤ (Sort.partition Sort.ltInt D3 a b pv).1 ∧ (Sort.partition Sort.ltInt D3 a b pv).1 < b → ¬ (Sort.partition Sort.ltInt D3 a b pv).1 - a < b - (Sort.partition Sort.ltInt D3 a b pv).1 →
      res = pq (pq (Sort.partition Sort.ltInt D3 a b pv).2.2 ((Sort.partition Sort.ltInt D3 a b pv).1 + 1) b l1 true true) a (Sort.partition Sort.ltInt D3 a b pv).1 l1 (decide (b - (Sort.partition Sort.ltInt D3 a b pv).1 ≥ (b - a) / 8)) (Sort.partition Sort.ltInt D3 a b pv).2.1) : PtR D3 n a b l1 pv res := by
  unfold PtR
  generalize hx : Sort.partition Sort.ltInt D3 a b pv = X at hr1 hr2 ⊢
  obtain ⟨mid, ap, D4⟩ := X
  obtain ⟨r1, r2, r3, r4, r5, r6, r7⟩ := Sort.round_part Sort.swo_ltInt (Sort.partition_holds Sort.ltInt) h1 h2 (by omega) hB hx
  have n4 := r3.trans hn
  refine ⟨mid, ap, D4, rfl, r1, r2, n4, r4, r5, fun h => ?_, fun h => ?_⟩
  · obtain ⟨p, s⟩ := pq_perm (l := l1) (wb := true) (wp := true) r1 (by omega) r4
    exact ⟨p.1.trans n4, (r6 _ p s).1, (hr1 ⟨r1, r2⟩ h).symm⟩
  · obtain ⟨p, s⟩ := pq_perm (l := l1) (wb := true) (wp := true) (show mid + 1 ≤ b by omega) (by omega) r5
    exact ⟨p.1.trans n4, (r7 _ p s).1, (hr2 ⟨r1, r2⟩ h).symm⟩

/-- What a round does till it parts. -/
structure Rnd (dk : Array Int) (n a b lim : Nat) (wb wp : Bool) (D1 D2 D3 : Array Int) (l1 p0 pv : Nat) (h0 h1 : Sort.Hint) (f : Bool) : Prop where
  off : wb = false → D1 = Sort.breakPatterns dk a b ∧ l1 = lim - 1
  on : wb = true → D1 = dk ∧ l1 = lim
  piv : Sort.choosePivot Sort.ltInt D1 a b = (p0, h0)
  dec : h0 = .decreasing → D2 = Sort.reverseRange D1 a b ∧ pv = (b - 1) - (p0 - a) ∧ h1 = .increasing
  inc : h0 ≠ .decreasing → D2 = D1 ∧ pv = p0 ∧ h1 = h0
  tried : (wb && wp && decide (h1 = .increasing)) = true → Sort.partialInsertionSort Sort.ltInt D2 a b = (D3, f)
  left : (wb && wp && decide (h1 = .increasing)) = false → D3 = D2 ∧ f = false
  n1 : D1.size = n
  n2 : D2.size = n
  n3 : D3.size = n
  p0a : a ≤ p0
  p0b : p0 < b
  pva : a ≤ pv
  pvb : pv < b
  less : l1 ≤ lim
  done : f = true → pq dk a b lim wb wp = D3
  eq : f = false → 0 < a → Sort.ltInt D3[a - 1]! D3[pv]! = false → EqR D3 n a b l1 pv wb wp (pq dk a b lim wb wp)
  part : f = false → ¬ (0 < a ∧ Sort.ltInt D3[a - 1]! D3[pv]! = false) → PtR D3 n a b l1 pv (pq dk a b lim wb wp)

theorem pq_round {dk : Array Int} {n a b lim : Nat} {wb wp : Bool} (hn : dk.size = n) (h12 : ¬ b - a ≤ 12) (hl : ¬ lim = 0) (hb : b ≤ n) (hB : Sort.Below Sort.ltInt a b dk) :
    ∃ D1 D2 D3 l1 p0 pv h0 h1 f, Rnd dk n a b lim wb wp D1 D2 D3 l1 p0 pv h0 h1 f := by
  obtain ⟨s1, _, c1, s2, _, pv, s3, B3⟩ := Sort.rd_facts (limit := lim) (wb := wb) (wp := wp) Sort.swo_ltInt Sort.partialInsertionSort_holds Sort.reverseRange_holds (show a < b by omega) (show b ≤ dk.size by omega) hB
  refine ⟨(Sort.rd Sort.ltInt dk a b lim wb wp).d1, (Sort.rd Sort.ltInt dk a b lim wb wp).d2, (Sort.rd Sort.ltInt dk a b lim wb wp).pi.1, (Sort.rd Sort.ltInt dk a b lim wb wp).lim, (Sort.rd Sort.ltInt dk a b lim wb wp).c.1, (Sort.rd Sort.ltInt dk a b lim wb wp).pivot, (Sort.rd Sort.ltInt dk a b lim wb wp).c.2, (Sort.rd Sort.ltInt dk a b lim wb wp).hint, (Sort.rd Sort.ltInt dk a b lim wb wp).pi.2,
    { off := fun h => by subst h; exact Sort.rd_false, on := fun h => by subst h; exact Sort.rd_true, piv := Sort.rd_c.symm, dec := Sort.rd_dec, inc := Sort.rd_not,
      tried := fun h => by rw [Sort.rd_pi_yes h], left := fun h => by rw [Sort.rd_pi_no h]; exact ⟨rfl, rfl⟩, n1 := s1.trans hn, n2 := s2.trans hn, n3 := s3.trans hn, p0a := c1.1, p0b := c1.2, pva := pv.1, pvb := pv.2, less := Sort.rd_lim_le,
      done := fun h => Sort.pdq_done h12 hl h, eq := fun hf ha hlt => ?_, part := fun hf hnot => ?_ }⟩
  · exact eq_round (s3.trans hn) ha pv.1 pv.2 hb B3 hlt _ (fun h => Sort.pdq_eq h12 hl hf (by rw [hlt]; simp; omega) h)
  · have hc : (decide (a > 0) && !Sort.ltInt (Sort.rd Sort.ltInt dk a b lim wb wp).pi.1[a - 1]! (Sort.rd Sort.ltInt dk a b lim wb wp).pi.1[(Sort.rd Sort.ltInt dk a b lim wb wp).pivot]!) = false := by
      rcases Nat.eq_zero_or_pos a with h | h
      · rw [decide_eq_false (by omega)]; rfl
      · cases hx : Sort.ltInt (Sort.rd Sort.ltInt dk a b lim wb wp).pi.1[a - 1]! (Sort.rd Sort.ltInt dk a b lim wb wp).pi.1[(Sort.rd Sort.ltInt dk a b lim wb wp).pivot]! with
        | true => simp
        | false => exact absurd ⟨h, hx⟩ hnot
    exact pt_round (s3.trans hn) pv.1 pv.2 hb B3 _ (fun h h' => Sort.pdq_left h12 hl hf hc h h') (fun h h' => Sort.pdq_right h12 hl hf hc h h')

end Go.Proofs.YtenhgoclfljjlaaDoor.Q
