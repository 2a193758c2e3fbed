/-
  Committees as plain numbers: how many, where they are cut, who stands in them.
-/

import Derived.Test.YtlidilnakiphiaaDoorLQ
import Derived.Test.YtlidilnakiphiaaDoorVQ
namespace Go.Proofs.YtlidilnakiphiaaDoor

open Go.RowKit

set_option linter.unusedVariables false

set_option linter.unusedSimpArgs false

/-- Who is active: rising, each once. -/
theorem acL_mem (z : Nat → VValidator) (e : Int) (k : Nat) (v : Int) : v ∈ acL z e k ↔ 0 ≤ v ∧ v < (k : Int) ∧ actB (z v.toNat) e = true := by
  induction k with
  | zero => exact ⟨fun h => (List.not_mem_nil h).elim, fun h => by omega⟩
  | succ k ih =>
    unfold acL
    cases hb : actB (z k) e
    · rw [if_neg (by simp), ih]
      constructor
      · rintro ⟨h0, h1, h2⟩; exact ⟨h0, by omega, h2⟩
      · rintro ⟨h0, h1, h2⟩
        refine ⟨h0, ?_, h2⟩
        by_cases hv : v = (k : Int)
        · subst hv
          rw [Int.toNat_natCast, hb] at h2
          cases h2
        · omega
    · rw [if_pos rfl, List.mem_append, ih, List.mem_singleton]
      constructor
      · rintro (⟨h0, h1, h2⟩ | rfl)
        · exact ⟨h0, by omega, h2⟩
        · exact ⟨by omega, by omega, by rw [Int.toNat_natCast]; exact hb⟩
      · rintro ⟨h0, h1, h2⟩
        by_cases hv : v = (k : Int)
        · exact .inr hv
        · exact .inl ⟨h0, by omega, h2⟩

theorem acL_rise (z : Nat → VValidator) (e : Int) (k : Nat) : (acL z e k).Pairwise (· < ·) := by
  induction k with
  | zero => exact List.Pairwise.nil
  | succ k ih =>
    unfold acL
    split
    · rw [List.pairwise_append]
      refine ⟨ih, List.pairwise_singleton _ _, fun a ha b hb => ?_⟩
      rw [List.mem_singleton] at hb
      have := acL_bd z e k a ha
      omega
    · exact ih

theorem rise_nodup {l : List Int} (h : l.Pairwise (· < ·)) : l.Nodup := h.imp (fun h => by omega)

/-- How many committees a slot has. -/
def cnt (n : Nat) : Nat := if n / 8 < 1 then 1 else if 2 < n / 8 then 2 else n / 8

theorem cnt_bd (n : Nat) : 1 ≤ cnt n ∧ cnt n ≤ 2 := by
  unfold cnt
  split
  · omega
  · split <;> omega

/-- Where a piece begins. -/
def cut (n k : Nat) : Nat := n * k / (4 * cnt n)

theorem cut_zero (n : Nat) : cut n 0 = 0 := by unfold cut; rw [Nat.mul_zero, Nat.zero_div]

theorem cut_end (n : Nat) : cut n (4 * cnt n) = n := Nat.mul_div_cancel _ (by have := cnt_bd n; omega)

theorem cut_mono (n : Nat) {j k : Nat} (h : j ≤ k) : cut n j ≤ cut n k := Nat.div_le_div_right (Nat.mul_le_mul_left _ h)

theorem cut_le (n : Nat) {k : Nat} (h : k ≤ 4 * cnt n) : cut n k ≤ n := by
  have := cut_mono n h
  rwa [cut_end] at this

theorem cut_step (n k : Nat) : n / (4 * cnt n) ≤ cut n (k + 1) - cut n k ∧ cut n (k + 1) - cut n k ≤ n / (4 * cnt n) + 1 := by
  have hc := cnt_bd n
  unfold cut
  rw [Nat.mul_succ]
  obtain ⟨S, hS⟩ : ∃ S, 4 * cnt n = S := ⟨_, rfl⟩
  obtain ⟨a, ha⟩ : ∃ a, n * k = a := ⟨_, rfl⟩
  rw [hS, ha]
  have h8 : S = 4 ∨ S = 8 := by omega
  rcases h8 with rfl | rfl <;> omega

/-- The committee of a piece: its first place, its length. -/
def pcK (n : Nat) (sl ix : Int) : Nat := (sl % 4).toNat * cnt n + ix.toNat

def cmN (n : Nat) (sl ix : Int) : Nat := if ix < (cnt n : Int) then cut n (pcK n sl ix + 1) - cut n (pcK n sl ix) else 0

def cmE (n : Nat) (ix : Int) : Int := if ix < (cnt n : Int) then 0 else 1

theorem pcK_lt {n : Nat} {sl ix : Int} (h0 : 0 ≤ ix) (h1 : ix < (cnt n : Int)) : pcK n sl ix < 4 * cnt n := by
  unfold pcK
  have h4 : (sl % 4).toNat ≤ 3 := by omega
  have := Nat.mul_le_mul_right (cnt n) h4
  omega

/-- Who stands at a place of the shuffled list. -/
def mbr (L : List Int) (s : Nat → Int) (j : Nat) : Int := L.getD (plV s L.length 6 j).toNat 0

theorem getD_mem (L : List Int) (i : Nat) (h : i < L.length) : L.getD i 0 ∈ L := by
  rw [List.getD_eq_getElem?_getD, List.getElem?_eq_getElem h]
  exact List.getElem_mem h

theorem mbr_mem (L : List Int) (s : Nat → Int) {j : Nat} (h : j < L.length) : mbr L s j ∈ L := by
  have := plV_bd s (n := L.length) (i := j) (by omega) (by omega) 6
  exact getD_mem L _ (by omega)

theorem getD_inj {L : List Int} (hL : L.Nodup) {i j : Nat} (hi : i < L.length) (hj : j < L.length) (h : L.getD i 0 = L.getD j 0) : i = j := by
  rw [List.getD_eq_getElem?_getD, List.getD_eq_getElem?_getD, List.getElem?_eq_getElem hi, List.getElem?_eq_getElem hj] at h
  exact (List.getElem_inj hL).1 h

theorem mbr_inj {L : List Int} (hL : L.Nodup) (s : Nat → Int) {i j : Nat} (hi : i < L.length) (hj : j < L.length) (h : mbr L s i = mbr L s j) : i = j := by
  have h1 := plV_bd s (n := L.length) (i := i) (by omega) (by omega) 6
  have h2 := plV_bd s (n := L.length) (i := j) (by omega) (by omega) 6
  have h3 := getD_inj hL (by omega) (by omega) h
  have h4 : plV s L.length 6 (i : Int) = plV s L.length 6 (j : Int) := by omega
  have b1 := bk_pl s (n := L.length) (i := i) (by omega) (by omega)
  have b2 := bk_pl s (n := L.length) (i := j) (by omega) (by omega)
  rw [h4, b2] at b1
  omega

theorem mbr_onto (L : List Int) (s : Nat → Int) {v : Int} (h : v ∈ L) : ∃ j, j < L.length ∧ mbr L s j = v := by
  obtain ⟨i, hi, rfl⟩ := List.getElem_of_mem h
  have h1 := bkV_bd s (n := L.length) (i := i) (by omega) (by omega) 6
  refine ⟨(bkV s L.length 6 i).toNat, by omega, ?_⟩
  unfold mbr
  rw [Int.toNat_of_nonneg h1.1, pl_bk s (by omega) (by omega), Int.toNat_natCast, List.getD_eq_getElem?_getD, List.getElem?_eq_getElem hi]
  rfl

/-- A committee's members. -/
def cmF (L : List Int) (s : Nat → Int) (sl ix : Int) (j : Nat) : Int := mbr L s (cut L.length (pcK L.length sl ix) + j)

/-- How often one stands among the first places. -/
def tmV (f : Nat → Int) (v : Int) : Nat → Nat
  | 0 => 0
  | m + 1 => if f m = v then tmV f v m + 1 else tmV f v m

theorem tmV_none {f : Nat → Int} {v : Int} {m : Nat} (h : ∀ j, j < m → f j ≠ v) : tmV f v m = 0 := by
  induction m with
  | zero => rfl
  | succ m ih =>
    show (if f m = v then tmV f v m + 1 else tmV f v m) = 0
    rw [if_neg (h m (by omega)), ih fun j hj => h j (by omega)]

theorem tmV_one {f : Nat → Int} {v : Int} {m j : Nat} (hj : j < m) (hv : f j = v) (h : ∀ i, i < m → f i = v → i = j) : tmV f v m = 1 := by
  induction m with
  | zero => omega
  | succ m ih =>
    show (if f m = v then tmV f v m + 1 else tmV f v m) = 1
    by_cases hm : j = m
    · subst hm
      rw [if_pos hv, tmV_none fun i hi e => by have := h i (by omega) e; omega]
    · rw [if_neg (fun e => by have := h m (by omega) e; omega), ih (by omega) (fun i hi e => h i (by omega) e)]

theorem tmV_all {L : List Int} (hL : L.Nodup) (s : Nat → Int) (v : Int) : tmV (mbr L s) v L.length = if v ∈ L then 1 else 0 := by
  split
  · rename_i h
    obtain ⟨j, hj, hv⟩ := mbr_onto L s h
    exact tmV_one hj hv fun i hi e => mbr_inj hL s hi hj (e.trans hv.symm)
  · rename_i h
    exact tmV_none fun j hj e => h (by rw [← e]; exact mbr_mem L s hj)

end Go.Proofs.YtlidilnakiphiaaDoor
