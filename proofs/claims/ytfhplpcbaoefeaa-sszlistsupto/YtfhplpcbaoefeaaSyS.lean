/-
  Each and Many, whole: the program and the reference answer the same; what is laid again.
-/
import Derived.Test.YtfhplpcbaoefeaaSyP
import Derived.Test.YtfhplpcbaoefeaaSyR
import Derived.Test.YtfhplpcbaoefeaaSzN
import Derived.Test.YtfhplpcbaoefeaaSyN
namespace Go.Proofs.Ytfhplpcbaoefeaa
open Go.RowKit
set_option linter.unusedVariables false
set_option linter.unusedSimpArgs false

theorem sum_find (L : Nat → Nat) : ∀ n x, x < sumL L n → ∃ r, r < n ∧ sumL L r ≤ x ∧ x < sumL L r + L r
  | 0, x, h => absurd h (Nat.not_lt_zero _)
  | n + 1, x, h => by
    have hs : sumL L (n + 1) = sumL L n + L n := rfl
    by_cases h2 : x < sumL L n
    · obtain ⟨r, h3, h4, h5⟩ := sum_find L n x h2
      exact ⟨r, by omega, h4, h5⟩
    · exact ⟨n, by omega, by omega, by omega⟩
theorem many_sum {os : Nat → Nat} {len n : Nat} (h0 : os 0 = 4 * n) (hn1 : 1 ≤ n) (hr : ∀ r, r < n → os r ≤ endAt os len n r) : ∀ r, r ≤ n → 4 * n + sumL (fun r => endAt os len n r - os r) r = (if r < n then os r else len)
  | 0, _ => by
    rw [if_pos (by omega), h0]
    rfl
  | r + 1, h => by
    have ih := many_sum h0 hn1 hr r (by omega)
    have h1 := hr r (by omega)
    rw [if_pos (by omega)] at ih
    have hs : sumL (fun r => endAt os len n r - os r) (r + 1) = sumL (fun r => endAt os len n r - os r) r + (endAt os len n r - os r) := rfl
    rw [hs]
    have e : endAt os len n r = (if r + 1 < n then os (r + 1) else len) := rfl
    rw [← e]
    omega
theorem many_again {m : Nat → Int} {os : Nat → Nat} {len n : Nat} (hm : ∀ j, 0 ≤ m j ∧ m j < 256) (h0 : os 0 = 4 * n) (hn1 : 1 ≤ n) (hos : ∀ i, i < n → o4 m (4 * i) = (os i : Int)) (hr : ∀ r, r < n → os r ≤ endAt os len n r) :
    4 * n + sumL (fun r => endAt os len n r - os r) n = len ∧ layM (fun r q => m (os r + q)) (fun r => endAt os len n r - os r) n = (List.range len).map m := by
  have hsum := many_sum h0 hn1 hr
  have ht := hsum n (Nat.le_refl _)
  rw [if_neg (by omega)] at ht
  refine ⟨ht, ?_⟩
  have hl := layM_len (fun r q => m (os r + q)) (fun r => endAt os len n r - os r) n
  obtain ⟨L, eL⟩ : ∃ L, (fun r => endAt os len n r - os r) = L := ⟨_, rfl⟩
  rw [eL] at hsum ht hl ⊢
  have key : ∀ j, j < len → (layM (fun r q => m (os r + q)) L n).getD j 0 = m j := by
    intro j hj
    by_cases h1 : j < 4 * n
    · obtain ⟨i, q, rfl, hq, hi⟩ : ∃ i q, j = 4 * i + q ∧ q < 4 ∧ i < n := ⟨j / 4, j % 4, by omega, by omega, by omega⟩
      show (offs L (4 * n) n ++ cats _ L n).getD (4 * i + q) 0 = _
      have h2 := hsum i (by omega)
      rw [if_pos hi] at h2
      rw [getD_left _ _ _ (by rw [offs_len]; omega), offs_get L (4 * n) n i q hi hq, h2, ← hos i hi]
      exact bt_o4 m (4 * i) q hm hq
    · obtain ⟨r, hrn, h2, h3⟩ := sum_find L n (j - 4 * n) (by omega)
      have h4 := hsum r (by omega)
      rw [if_pos hrn] at h4
      have h5 := layM_part (fun r q => m (os r + q)) L n r (j - 4 * n - sumL L r) hrn (by omega)
      rw [show 4 * n + sumL L r + (j - 4 * n - sumL L r) = j by omega] at h5
      rw [h5]
      exact congrArg m (by omega)
  apply List.ext_getElem?
  intro j
  by_cases hj : j < len
  · have := key j hj
    rw [List.getD_eq_getElem?_getD, List.getElem?_eq_getElem (by omega)] at this
    rw [List.getElem?_eq_getElem (by omega), List.getElem?_map, List.getElem?_range hj]
    exact congrArg some this
  · rw [List.getElem?_eq_none (by omega), List.getElem?_eq_none (by simp; omega)]

/-- All blocks below lo and from hi on stay. -/
structure KI (lo hi : Nat) (w w' : World) : Prop where
  os : w'.os = w.os
  tape : w'.tape = w.tape
  output : w'.output = w.output
  size : w.heap.size ≤ w'.heap.size
  block : ∀ k, k < w.heap.size → k < lo ∨ hi ≤ k → w'.heap[k]? = w.heap[k]?
theorem KI.below {lo hi B : Nat} {a b : World} (h : KI lo hi a b) (h1 : B ≤ lo) (h3 : B ≤ a.heap.size) : Below B a b := ⟨h.os, h.tape, h.output, h.size, fun k hk => h.block k (by omega) (.inl (by omega))⟩
/-- What may be wiped. -/
def Wi (w w' : World) (v : Value) : Prop :=
  ∀ W : World, w'.heap.size ≤ W.heap.size → (∀ k, w.heap.size ≤ k → k < w'.heap.size → W.heap[k]? = w'.heap[k]?) → Calls Try.prog 11 #[v] W fun e W' => e = .returned (.tuple #[]) ∧ KI w.heap.size w'.heap.size W W'
theorem wi_zero (w w' : World) (a : Option Addr) (c : Nat) : Wi w w' (.slice a 0 c) := fun W _ _ => (wipe_zero a c W).mono (by
  rintro e W' ⟨rfl, hb⟩
  exact ⟨rfl, hb.os, hb.tape, hb.output, hb.size, fun k hk _ => hb.block k hk⟩)
theorem wi_row {w w' : World} {g gp n len : Nat} {m : Nat → Int} {P : Nat → Value} (hgp : w'.heap[gp]? = some (.cells (vals n P) 22)) (hg : Row8 w' g) (hc : ∀ j, j < len → w'.cell? ⟨g, j, none⟩ = some (.int .u8 (m j))) (hne : g ≠ gp) (h1 : w.heap.size ≤ g) (h2 : w.heap.size ≤ gp) (hlen : len ≤ 140737488351232) (hn : n ≤ 9223372036854775807)
    (hP : ∀ r, r < n → ∃ x L, P r = .slice (some ⟨g, x, none⟩) L L ∧ x + L ≤ len) : Wi w w' (.slice (some ⟨gp, 0, none⟩) n n) := by
  intro W hW hk
  obtain ⟨cur, hcur⟩ := hg
  have z1 := (Array.getElem?_eq_some_iff.1 hcur).1
  have z2 := (Array.getElem?_eq_some_iff.1 hgp).1
  refine (wipe2_any g gp n len P W ⟨P, m, cur, (hk gp h2 z2).trans hgp, fun _ _ _ => rfl, (hk g h1 z1).trans hcur, fun j hj => ?_, Kp2.refl _ _ _⟩ hne hlen hn hP).mono ?_
  · have := hc j hj
    rw [cell_of_row w' g j cur _ (0, 0) hcur] at this
    exact this
  · rintro e W' ⟨rfl, hb⟩
    exact ⟨rfl, hb.os, hb.tape, hb.output, hb.size, fun k hk' h => hb.block k hk' (by omega) (by omega)⟩
/-- The program's answer. -/
def PA (N : Nat) (E : Int) (L : Nat → Nat) (f : Nat → Nat → Int) (w : World) (e : Ending) (w' : World) : Prop :=
  ∃ a c A C, e = .returned (.tuple #[.slice a N c, .int .i64 E]) ∧ Parts w' a N A L C f ∧ Below w.heap.size w w' ∧ Wi w w' (.slice a N c)
theorem pa_none {E : Int} {L : Nat → Nat} {f : Nat → Nat → Int} {w w' : World} (hb : Below w.heap.size w w') : PA 0 E L f w (.returned (.tuple #[.slice none 0 0, .int .i64 E])) w' := ⟨none, 0, fun _ => none, fun _ => 0, rfl, .inl rfl, hb, wi_zero _ _ _ _⟩

theorem each_full (m : Nat → Int) (len : Nat) (size most : Int) (hlen : len ≤ 1048576) (hs : size ≤ 9223372036854775807) (hm1 : most ≤ 9223372036854775807) : ∃ (N : Nat) (E : Int) (L : Nat → Nat) (f : Nat → Nat → Int), N ≤ 1048576 ∧
    (∀ (w : World) ao cap, Bys w ao len cap m → len ≤ cap → Calls Try.prog 5 #[.slice ao len cap, .int .i64 size, .int .i64 most] w (PA N E L f w)) ∧
    (∀ (w : World) ao cap, Bys w ao len cap m → len ≤ cap → Calls Try.prog 6 #[.slice ao len cap, .int .i64 size, .int .i64 most] w (LAns N E L f w)) := by
  by_cases h1 : size < 1
  · refine ⟨0, 1, fun _ => 0, fun _ _ => 0, by omega, fun w ao cap _ _ => (each_arg1 ao len cap size most w h1).mono ?_, fun w ao cap _ _ => reach_arg1 _ _ ao len cap size most w h1⟩
    rintro e w' ⟨rfl, rfl⟩
    exact pa_none (Below.refl _ _)
  by_cases h2 : most < 0
  · refine ⟨0, 1, fun _ => 0, fun _ _ => 0, by omega, fun w ao cap _ _ => (each_arg2 ao len cap size most w h1 h2).mono ?_, fun w ao cap _ _ => reach_arg2 _ _ ao len cap size most w h1 h2⟩
    rintro e w' ⟨rfl, rfl⟩
    exact pa_none (Below.refl _ _)
  obtain ⟨s, rfl⟩ : ∃ s : Nat, size = (s : Int) := ⟨size.toNat, by omega⟩
  by_cases h3 : (len : Int) % (s : Int) = 0
  · obtain ⟨n, hn⟩ : ∃ n : Nat, len = n * s := by
      have h4 : len % s = 0 := by
        have : ((len % s : Nat) : Int) = 0 := by rw [Int.natCast_emod]; exact h3
        omega
      exact ⟨len / s, (Nat.div_mul_cancel (Nat.dvd_of_mod_eq_zero h4)).symm⟩
    have hs1 : 1 ≤ s := by omega
    have hnl : n ≤ len := by rw [hn]; exact Nat.le_mul_of_pos_right _ (by omega)
    by_cases h4 : most < (n : Int)
    · have hn' : (len : Int) = (n : Int) * (s : Int) := by rw [hn, Int.natCast_mul]
      refine ⟨0, 6, fun _ => 0, fun _ _ => 0, by omega, fun w ao cap _ _ => (each_long ao len cap s most w (by omega) h1 h2 n hn' hs h4 (by omega)).mono ?_, fun w ao cap _ _ => reach_long _ _ ao len cap s most w (by omega) h1 h2 n hn' hs h4 (by omega)⟩
      rintro e w' ⟨rfl, rfl⟩
      exact pa_none (Below.refl _ _)
    · refine ⟨n, 0, fun _ => s, fun i q => m (i * s + q), by omega, fun w ao cap hb hc => (each_row m ao len cap s n most w hb (by omega) hs1 (by omega) hn (by omega) (by omega) hm1).mono ?_, fun w ao cap hb hc => reach_ok m ao len cap s n most w hb hc hlen hs1 (by omega) hn (by omega) (by omega) hm1⟩
      rintro e w' ⟨ga, gp, rfl, x1, x2, x3, x4⟩
      by_cases h0 : n = 0
      · subst h0
        exact ⟨_, _, fun _ => none, fun _ => 0, rfl, .inl rfl, x4, wi_zero _ _ _ _⟩
      · obtain ⟨g, rfl, y1, y2, y3, y4⟩ := x2 (by rw [hn]; exact Nat.mul_pos (by omega) (by omega))
        have hst : ∀ r, (r + 1) * s = r * s + s := fun r => by rw [Nat.add_mul, Nat.one_mul]
        have hbd : ∀ r, r < n → (r + 1) * s ≤ len := fun r hr => by rw [hn]; exact Nat.mul_le_mul_right _ (by omega)
        obtain ⟨A, hA⟩ := parts_of (L := fun _ => s) (f := fun i q => m (i * s + q)) x3 (fun r hr => by
          have h := pc_bys (row8_lt y2) y4 (r * s) ((r + 1) * s) (by have := hst r; omega) (hbd r hr) (by omega)
          rw [show (r + 1) * s - r * s = s by have := hst r; omega] at h
          exact h)
        exact ⟨_, _, A, _, rfl, hA, x4, wi_row x3 y2 y4 y3 y1 x1 (by omega) (by omega) (fun r hr => pc_form g _ _ len (by have := hst r; omega) (hbd r hr))⟩
  · refine ⟨0, 4, fun _ => 0, fun _ _ => 0, by omega, fun w ao cap _ _ => (each_size ao len cap s most w (by omega) h1 h2 h3 hs).mono ?_, fun w ao cap _ _ => reach_size _ _ ao len cap s most w (by omega) h1 h2 h3 hs⟩
    rintro e w' ⟨rfl, rfl⟩
    exact pa_none (Below.refl _ _)

theorem many_full (m : Nat → Int) (hm : ∀ j, 0 ≤ m j ∧ m j < 256) (len : Nat) (most : Int) (hlen : len ≤ 1048576) (hm1 : most ≤ 9223372036854775807) : ∃ (N : Nat) (E : Int) (L : Nat → Nat) (f : Nat → Nat → Int), N ≤ 1048576 ∧
    (∀ (w : World) ao cap, Bys w ao len cap m → len ≤ cap → cap ≤ 9223372036854775807 → Calls Try.prog 8 #[.slice ao len cap, .int .i64 most] w (PA N E L f w)) ∧
    (∀ (w : World) ao cap, Bys w ao len cap m → len ≤ cap → Calls Try.prog 9 #[.slice ao len cap, .int .i64 most] w (LAns N E L f w)) ∧
    (E = 0 → 4 * N + sumL L N = len ∧ layM f L N = (List.range len).map m ∧ ∀ r, r < N → L r ≤ 9223372036854775807) := by
  have none : ∀ (E : Int), E ≠ 0 →
      (∀ (w : World) ao cap, Bys w ao len cap m → len ≤ cap → cap ≤ 9223372036854775807 → Calls Try.prog 8 #[.slice ao len cap, .int .i64 most] w fun e w' => e = .returned (.tuple #[.slice none 0 0, .int .i64 E]) ∧ Below w.heap.size w w') →
      (∀ (w : World) ao cap, Bys w ao len cap m → len ≤ cap → Calls Try.prog 9 #[.slice ao len cap, .int .i64 most] w (LAns 0 E (fun _ => 0) (fun _ _ => 0) w)) →
      ∃ (N : Nat) (E : Int) (L : Nat → Nat) (f : Nat → Nat → Int), N ≤ 1048576 ∧
    (∀ (w : World) ao cap, Bys w ao len cap m → len ≤ cap → cap ≤ 9223372036854775807 → Calls Try.prog 8 #[.slice ao len cap, .int .i64 most] w (PA N E L f w)) ∧
    (∀ (w : World) ao cap, Bys w ao len cap m → len ≤ cap → Calls Try.prog 9 #[.slice ao len cap, .int .i64 most] w (LAns N E L f w)) ∧
    (E = 0 → 4 * N + sumL L N = len ∧ layM f L N = (List.range len).map m ∧ ∀ r, r < N → L r ≤ 9223372036854775807) := fun E hE h1 h2 =>
    ⟨0, E, fun _ => 0, fun _ _ => 0, by omega, fun w ao cap hb hc hcp => (h1 w ao cap hb hc hcp).mono (by rintro e w' ⟨rfl, hbw⟩; exact pa_none hbw), h2, fun h => absurd h hE⟩
  have hm' : ∀ j, j < len → 0 ≤ m j ∧ m j < 256 := fun j _ => hm j
  by_cases h1 : most < 0
  · exact none 1 (by decide) (fun w ao cap _ _ _ => many_arg m ao len cap most w h1) (fun w ao cap _ _ => rmany_arg _ _ ao len cap most w h1)
  by_cases h2 : len = 0
  · refine ⟨0, 0, fun _ => 0, fun _ _ => 0, by omega, fun w ao cap _ _ _ => (many_none m ao len cap most w (by omega) h2).mono (by rintro e w' ⟨rfl, hbw⟩; exact pa_none hbw), fun w ao cap _ _ => rmany_none _ _ ao len cap most w (by omega) h2, fun _ => ⟨?_, ?_, fun r hr => absurd hr (by omega)⟩⟩
    · subst h2; rfl
    · subst h2; rfl
  by_cases h3 : len < 4
  · exact none 4 (by decide) (fun w ao cap _ _ _ => many_short m ao len cap most w (by omega) (by omega) h3) (fun w ao cap _ _ => rmany_short _ _ ao len cap most w (by omega) (by omega) h3)
  have hb4 := o4_bd m 0 (fun j _ _ => hm j)
  obtain ⟨F, hF⟩ : ∃ F : Nat, o4 m 0 = (F : Int) := ⟨(o4 m 0).toNat, by omega⟩
  by_cases h4 : F = 0
  · exact none 5 (by decide) (fun w ao cap hb hc hcp => many_zero m ao len cap most w hb hm' (by omega) hc hcp (by omega) hm1 (by omega) F hF h4) (fun w ao cap hb hc => rmany_zero m _ _ ao len cap most w hb hm hlen hc (by omega) hm1 (by omega) F hF h4)
  by_cases h5 : F % 4 = 0
  · by_cases h6 : len < F
    · exact none 5 (by decide) (fun w ao cap hb hc hcp => many_far m ao len cap most w hb hm' (by omega) hc hcp (by omega) hm1 (by omega) F hF h4 h5 h6) (fun w ao cap hb hc => rmany_far m _ _ ao len cap most w hb hm hlen hc (by omega) hm1 (by omega) F hF h4 h5 h6)
    obtain ⟨n, hn⟩ : ∃ n, F = 4 * n := ⟨F / 4, by omega⟩
    have hn1 : 1 ≤ n := by omega
    by_cases h7 : most < (n : Int)
    · exact none 6 (by decide) (fun w ao cap hb hc hcp => many_long m ao len cap most w hb hm' (by omega) hc hcp (by omega) hm1 (by omega) F hF n hn hn1 (by omega) h7) (fun w ao cap hb hc => rmany_long m _ _ ao len cap most w hb hm hlen hc (by omega) hm1 (by omega) F hF n hn hn1 (by omega) h7)
    have hfi : o4 m 0 = ((4 * n : Nat) : Int) := by rw [hF, hn]
    obtain ⟨os, hos⟩ : ∃ os : Nat → Nat, ∀ i, o4 m (4 * i) = (os i : Int) := ⟨fun i => (o4 m (4 * i)).toNat, fun i => by
      have := o4_bd m (4 * i) (fun j _ _ => hm j)
      show o4 m (4 * i) = (((o4 m (4 * i)).toNat : Nat) : Int)
      omega⟩
    have hob : ∀ i, i < n → os i < 4294967296 := fun i _ => by
      have := o4_bd m (4 * i) (fun j _ _ => hm j)
      have := hos i
      omega
    have h0 : os 0 = 4 * n := by
      have := hos 0
      rw [Nat.mul_zero, hfi] at this
      omega
    cases h8 : risB (fun i => (os i : Int)) ((4 * n : Nat) : Int) len n with
    | false =>
      have hor : ordB (fun i => (os i : Int)) len n = false := by
        cases ho : ordB (fun i => (os i : Int)) len n with
        | false => rfl
        | true =>
          have := (ris_ord (os := os) (hd := 4 * n) (len := len) (nz := n) (by omega)).2 ⟨h0, ho⟩
          rw [h8] at this
          cases this
      refine none 5 (by decide) (fun w ao cap hb hc hcp => many_order m ao len cap most w hb hm' (by omega) hc hcp n hn1 hfi (by omega) (by omega) hm1 os (fun i _ => hos i) hob hor) (fun w ao cap hb hc => (rmany_order m ao len cap n most w hb hm hlen hc hn1 (by omega) (by omega) hm1 os (fun i _ => hos i) hfi h8).mono ?_)
      rintro e w' ⟨a, c, A, C, rfl, _, hbw⟩
      exact ⟨a, c, A, C, rfl, .inl rfl, hbw⟩
    | true =>
      have hro := risB_out h8
      have hr : ∀ r, r < n → os r ≤ endAt os len n r ∧ endAt os len n r ≤ len := fun r hr => by
        have h1 := hro r hr
        unfold risAt at h1
        dsimp only at h1
        unfold endAt
        by_cases h : r + 1 < n
        · rw [if_pos h]
          have h2 := hro (r + 1) h
          unfold risAt at h2
          rw [if_neg (by omega)] at h2
          dsimp only at h2
          rw [show r + 1 - 1 = r by omega] at h2
          omega
        · rw [if_neg h]
          omega
      have hle : ∀ i, i < n → os i ≤ len := fun i hi => by have := hr i hi; omega
      have hmo : ∀ i, i + 1 < n → os i ≤ os (i + 1) := fun i hi => by
        have := (hr i (by omega)).1
        unfold endAt at this
        rw [if_pos hi] at this
        exact this
      obtain ⟨e1, e2⟩ := many_again (len := len) hm h0 hn1 (fun i _ => hos i) (fun r h => (hr r h).1)
      refine ⟨n, 0, fun r => endAt os len n r - os r, fun r q => m (os r + q), by omega, fun w ao cap hb hc hcp => (many_row m ao len cap n most w hb hm' (by omega) hc hcp hn1 hfi (by omega) (by omega) hm1 os (fun i _ => hos i) hle hmo).mono ?_, fun w ao cap hb hc => rmany_ok m ao len cap n most w hb hm hlen hc hn1 (by omega) (by omega) hm1 os (fun i _ => hos i) hfi h8, fun _ => ⟨e1, e2, fun r h => by have := (hr r h).2; show endAt os len n r - os r ≤ _; omega⟩⟩
      rintro e w' ⟨g, C, gp, rfl, x1, x2, x3, x4, x5, x6, x7, x8⟩
      obtain ⟨A, hA⟩ := parts_of (L := fun r => endAt os len n r - os r) (f := fun r q => m (os r + q)) x6 (fun r h => pc_bys (row8_lt x4) x3 (os r) (endAt os len n r) (hr r h).1 (hr r h).2 (by omega))
      exact ⟨_, _, A, _, rfl, hA, x8, wi_row x6 x4 x3 x7 x1 x2 (by omega) (by omega) (fun r h => pc_form g _ _ len (hr r h).1 (hr r h).2)⟩
  · exact none 5 (by decide) (fun w ao cap hb hc hcp => many_odd m ao len cap most w hb hm' (by omega) hc hcp (by omega) hm1 (by omega) F hF h4 h5) (fun w ao cap hb hc => rmany_odd m _ _ ao len cap most w hb hm hlen hc (by omega) hm1 (by omega) F hF h4 h5)

end Go.Proofs.Ytfhplpcbaoefeaa
