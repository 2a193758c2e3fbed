/-
  Lists of bytes; what the reference's Same and ssz.totalLength answer.
-/
import Derived.Test.YtfhplpcbaoefeaaSzS
namespace Go.Proofs.Ytfhplpcbaoefeaa
open Go.RowKit
set_option linter.unusedVariables false
set_option linter.unusedSimpArgs false

/-- The parts of a slice of slices of bytes. -/
def Parts (w : World) (a : Option Addr) (n : Nat) (A : Nat → Option Addr) (L C : Nat → Nat) (f : Nat → Nat → Int) : Prop :=
  n = 0 ∨ ∃ b off, a = some ⟨b, off, none⟩ ∧ b < w.heap.size ∧ ∀ r, r < n → w.cell? ⟨b, off + r, none⟩ = some (.slice (A r) (L r) (C r)) ∧ Bys w (A r) (L r) (C r) (f r)
theorem Parts.below {w w' : World} {a : Option Addr} {n : Nat} {A : Nat → Option Addr} {L C : Nat → Nat} {f : Nat → Nat → Int} (h : Parts w a n A L C f) (hb : Below w.heap.size w w') : Parts w' a n A L C f := by
  rcases h with h | ⟨b, off, h1, h2, h3⟩
  · exact .inl h
  · exact .inr ⟨b, off, h1, Nat.lt_of_lt_of_le h2 hb.size, fun r hr => ⟨(below_cell hb h2).trans (h3 r hr).1, (h3 r hr).2.below hb⟩⟩
theorem parts_at {w : World} {a : Option Addr} {n : Nat} {A : Nat → Option Addr} {L C : Nat → Nat} {f : Nat → Nat → Int} (h : Parts w a n A L C f) (r : Nat) (hr : r < n) :
    ∃ b off, a = some ⟨b, off, none⟩ ∧ b < w.heap.size ∧ w.cell? ⟨b, off + r, none⟩ = some (.slice (A r) (L r) (C r)) ∧ Bys w (A r) (L r) (C r) (f r) := by
  rcases h with h | ⟨b, off, h1, h2, h3⟩
  · omega
  · exact ⟨b, off, h1, h2, (h3 r hr).1, (h3 r hr).2⟩

/-- Are they the same bytes, part by part? -/
def samB (n : Nat) (L : Nat → Nat) (f : Nat → Nat → Int) (n' : Nat) (L' : Nat → Nat) (f' : Nat → Nat → Int) : Bool := decide (n = n') && (List.range n).all fun r => (strF (f r) (L r)).toList == (strF (f' r) (L' r)).toList
theorem samB_true {n : Nat} {L : Nat → Nat} {f : Nat → Nat → Int} {L' : Nat → Nat} {f' : Nat → Nat → Int} (h : ∀ r, r < n → (strF (f r) (L r)).toList = (strF (f' r) (L' r)).toList) : samB n L f n L' f' = true := by
  unfold samB
  simp only [Bool.and_eq_true, decide_eq_true_eq, List.all_eq_true, List.mem_range, beq_iff_eq]
  exact ⟨trivial, h⟩
theorem samB_out {n : Nat} {L : Nat → Nat} {f : Nat → Nat → Int} {n' : Nat} {L' : Nat → Nat} {f' : Nat → Nat → Int} (h : samB n L f n' L' f' = true) : n = n' ∧ ∀ r, r < n → (strF (f r) (L r)).toList = (strF (f' r) (L' r)).toList := by
  unfold samB at h
  simpa only [Bool.and_eq_true, decide_eq_true_eq, List.all_eq_true, List.mem_range, beq_iff_eq] using h
theorem samB_len {n : Nat} {L : Nat → Nat} {f : Nat → Nat → Int} {n' : Nat} {L' : Nat → Nat} {f' : Nat → Nat → Int} (h : ¬ n = n') : samB n L f n' L' f' = false := by
  cases hb : samB n L f n' L' f'
  · rfl
  · exact absurd (samB_out hb).1 h
theorem samB_false {n : Nat} {L : Nat → Nat} {f : Nat → Nat → Int} {n' : Nat} {L' : Nat → Nat} {f' : Nat → Nat → Int} {r : Nat} (hr : r < n) (h : ¬ (strF (f r) (L r)).toList = (strF (f' r) (L' r)).toList) : samB n L f n' L' f' = false := by
  cases hb : samB n L f n' L' f'
  · rfl
  · exact absurd ((samB_out hb).2 r hr) h

set_option maxRecDepth 20000 in
set_option maxHeartbeats 400000 in
theorem same_any (a : Option Addr) (n c : Nat) (A : Nat → Option Addr) (L C : Nat → Nat) (f : Nat → Nat → Int) (a' : Option Addr) (n' c' : Nat) (A' : Nat → Option Addr) (L' C' : Nat → Nat) (f' : Nat → Nat → Int) (w : World) (h1 : Parts w a n A L C f) (h2 : Parts w a' n' A' L' C' f') (hn : n ≤ 9223372036854775807) :
    Calls Try.prog 7 #[.slice a n c, .slice a' n' c'] w fun e w' => e = .returned (.bool (samB n L f n' L' f')) ∧ Below w.heap.size w w' := by
  by_cases hnm : n = n'
  · subst hnm
    have H1 := hid h1
    have H2 := hid h2
    clear h1 h2
    go_enter Try.func7, Try.ntmps7
    go_wp2
    go_loopw [5] (fun v wr => ∃ k : Nat, k ≤ n ∧ v = .int .i64 k ∧ Below w.heap.size w wr ∧ ∀ r, r < k → (strF (f r) (L r)).toList = (strF (f' r) (L' r)).toList) (fun v _ => n - (intOf v).toNat)
    case atStart => exact ⟨0, by omega, rfl, Below.refl _ _, fun i hi => by omega⟩
    case round =>
      obtain ⟨k, hk, rfl, hb, hs⟩ := hrel
      by_cases hkn : k < n
      · obtain ⟨b1, o1, rfl, hb1, c10, y1⟩ := parts_at H1.out k hkn
        obtain ⟨b2, o2, rfl, hb2, c20, y2⟩ := parts_at H2.out k hkn
        have c1 := (below_cell hb hb1).trans c10
        have c2 := (below_cell hb hb2).trans c20
        have v1 := conv_bys wr.drew _ _ _ _ (y1.below hb.drew)
        have v2 := conv_bys wr.drew _ _ _ _ (y2.below hb.drew)
        obtain ⟨s1, e1⟩ : ∃ s, strF (f k) (L k) = s := ⟨_, rfl⟩
        obtain ⟨s2, e2⟩ : ∃ s, strF (f' k) (L' k) = s := ⟨_, rfl⟩
        rw [e1] at v1
        rw [e2] at v2
        have k1 : (k : Int) < (n : Int) := by omega
        have k2 : (0 : Int) ≤ (k : Int) := by omega
        have HB := hid hb
        have HS := hid hs
        have EE := hid (And.intro e1 e2)
        clear hb hs c10 c20 e1 e2 y1 y2
        by_cases hxy : s1.toList = s2.toList
        · have heq : (s1.toList == s2.toList) = true := by simpa using hxy
          have EQ := hid hxy
          clear hxy
          go_wp2
          go_region
          go_wp2
          go_roundw
          case rel =>
            refine ⟨k + 1, by omega, by go_num, HB.out.drew, fun i hi => ?_⟩
            by_cases e : i = k
            · subst e; rw [EE.out.1, EE.out.2]; exact EQ.out
            · exact HS.out i (by omega)
          case measure => simp [intOf]; omega
        · have e := hid (samB_false (L := L) (f := f) (L' := L') (f' := f') (n' := n) hkn (by rw [EE.out.1, EE.out.2]; exact hxy))
          have heq : (s1.toList == s2.toList) = false := by simpa using hxy
          clear hxy
          go_wp2
          go_region
          go_wp2
          go_ret
          exact ⟨e.out ▸ rfl, HB.out.drew⟩
      · have ek : k = n := by omega
        subst ek
        have e := hid (samB_true hs)
        have HB := hid hb
        clear hs hb
        go_wp2
        go_ret
        exact ⟨e.out ▸ rfl, HB.out⟩
  · have e := hid (samB_len (L := L) (f := f) (L' := L') (f' := f') hnm)
    have h3 : ¬ (n : Int) = (n' : Int) := by omega
    clear h1 h2
    go_enter Try.func7, Try.ntmps7
    go_wp2
    go_ret
    exact ⟨e.out ▸ rfl, Below.refl _ _⟩

/-- How many bytes the first k parts have. -/
def sumL (L : Nat → Nat) : Nat → Nat
  | 0 => 0
  | k + 1 => sumL L k + L k
theorem sumL_mono (L : Nat → Nat) {i j : Nat} (h : i ≤ j) : sumL L i ≤ sumL L j := by
  induction j with
  | zero => have : i = 0 := by omega
            subst this
            exact Nat.le_refl _
  | succ j ih =>
    by_cases hj : i ≤ j
    · have := ih hj
      show sumL L i ≤ sumL L j + L j
      omega
    · have : i = j + 1 := by omega
      subst this
      exact Nat.le_refl _

/-- The answer of totalLength. -/
def totR (s : Nat) : Ending := if s < 4294967296 then .returned (.tuple #[.int .u64 (s : Int), .int .i64 0]) else .returned (.tuple #[.int .u64 0, .int .i64 1])
theorem totR_ok {s : Nat} (h : s < 4294967296) : totR s = .returned (.tuple #[.int .u64 (s : Int), .int .i64 0]) := by unfold totR; rw [if_pos h]
theorem totR_big {s : Nat} (h : ¬ s < 4294967296) : totR s = .returned (.tuple #[.int .u64 0, .int .i64 1]) := by unfold totR; rw [if_neg h]

set_option maxRecDepth 20000 in
set_option maxHeartbeats 400000 in
theorem total_any (hd : Nat) (a : Option Addr) (n c : Nat) (A : Nat → Option Addr) (L C : Nat → Nat) (f : Nat → Nat → Int) (w : World) (h : Parts w a n A L C f) (hn : n ≤ 9223372036854775807) (hh : hd < 4294967296) (hL : ∀ r, r < n → L r ≤ 9223372036854775807) :
    Calls Try.prog 21 #[.int .u64 hd, .slice a n c] w fun e w' => e = totR (hd + sumL L n) ∧ w' = w := by
  have H := hid h
  have HL := hid hL
  clear h hL
  go_enter Try.func21, Try.ntmps21
  go_wp2
  go_loopw [6, 12] (fun t v wr => ∃ k : Nat, k ≤ n ∧ v = .int .i64 k ∧ t = .int .u64 ((hd + sumL L k : Nat) : Int) ∧ hd + sumL L k < 4294967296 ∧ wr = w) (fun _ v _ => n - (intOf v).toNat)
  case atStart => exact ⟨0, by omega, rfl, rfl, by simpa [sumL] using hh, rfl⟩
  case round =>
    obtain ⟨k, hk, rfl, rfl, ht, rfl⟩ := hrel
    by_cases hkn : k < n
    · obtain ⟨b1, o1, rfl, hb1, c1, y1⟩ := parts_at H.out k hkn
      have hLk := HL.out k hkn
      have hsu : sumL L (k + 1) = sumL L k + L k := rfl
      have hmo := sumL_mono L (i := k + 1) (j := n) (by omega)
      obtain ⟨T, eT⟩ : ∃ T, hd + sumL L k = T := ⟨_, rfl⟩
      obtain ⟨l, el⟩ : ∃ l, L k = l := ⟨_, rfl⟩
      rw [el] at c1 hLk hsu
      rw [eT] at ht ⊢
      have k1 : (k : Int) < (n : Int) := by omega
      have k2 : (0 : Int) ≤ (k : Int) := by omega
      have t1 : (T : Int) < 4294967296 := by omega
      have t2 : (0 : Int) ≤ (T : Int) := by omega
      have l1 : (l : Int) ≤ 9223372036854775807 := by omega
      have l2 : (0 : Int) ≤ (l : Int) := by omega
      by_cases hbig : 4294967296 ≤ T + l
      · have hb' : (4294967296 : Int) ≤ (T : Int) + (l : Int) := by omega
        have E : Hid (¬ hd + sumL L n < 4294967296) := by show ¬ hd + sumL L n < 4294967296; omega
        clear hsu hmo eT el y1
        go_wp2
        go_ret2
        exact ⟨(totR_big E.out).symm, rfl⟩
      · have hb' : ¬ (4294967296 : Int) ≤ (T : Int) + (l : Int) := by omega
        have E : Hid (hd + sumL L (k + 1) = T + l) := by show hd + sumL L (k + 1) = T + l; omega
        clear hsu hmo eT el y1
        go_wp2
        go_roundw
        case rel => exact ⟨k + 1, by omega, by go_num, by rw [E.out]; go_num, by rw [E.out]; omega, trivial⟩
        case measure => simp [intOf]; omega
    · have ek : k = n := by omega
      subst ek
      obtain ⟨T, eT⟩ : ∃ T, hd + sumL L k = T := ⟨_, rfl⟩
      rw [eT] at ht ⊢
      have ET := hid eT
      clear eT
      go_wp2
      go_ret2
      rw [ET.out]
      exact ⟨(totR_ok ht).symm, rfl⟩

end Go.Proofs.Ytfhplpcbaoefeaa
