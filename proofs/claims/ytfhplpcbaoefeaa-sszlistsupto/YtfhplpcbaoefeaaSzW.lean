/-
  Bytes that were laid, read again.
-/
import Derived.Test.YtfhplpcbaoefeaaSzV
namespace Go.Proofs.Ytfhplpcbaoefeaa
open Go.RowKit
set_option linter.unusedVariables false
set_option linter.unusedSimpArgs false

theorem wpAnyH_mono {P : Program} {md : Region.Mode} {ops : Array Oper} {Q : Exit → Act → World → Prop} {S S' : World → Prop} (h : ∀ w, S' w → S w) : ∀ (fuel : Nat) (listed : Array Bool) (a : Act) (w : World), wpAnyH P md ops Q S' fuel listed a w → wpAnyH P md ops Q S fuel listed a w
  | 0, _, _, _, hh => hh
  | fuel + 1, listed, a, w, hh => ⟨hh.1, fun i hi => wpOp_mono (fun a' w' hw => ⟨h _ hw.1, wpAnyH_mono h fuel _ _ _ hw.2⟩) (hh.2 i hi)⟩
theorem getD_left (l r : List Int) (j : Nat) (h : j < l.length) : (l ++ r).getD j 0 = l.getD j 0 := by
  simp [List.getD_eq_getElem?_getD, List.getElem?_append_left h]
theorem getD_right (l r : List Int) (j : Nat) : (l ++ r).getD (l.length + j) 0 = r.getD j 0 := by
  simp [List.getD_eq_getElem?_getD, List.getElem?_append_right (Nat.le_add_right _ _)]
theorem getD_map (m : Nat → Int) (n j : Nat) (h : j < n) : ((List.range n).map m).getD j 0 = m j := by
  simp [List.getD_eq_getElem?_getD, List.getElem?_range h]
theorem iv_bl (l : List Int) : iv l = bl (fun j => l.getD j 0) l.length := by
  unfold iv bl
  apply List.ext_getElem?
  intro j
  by_cases hj : j < l.length
  · simp [List.getD_eq_getElem?_getD, hj]
  · simp [hj]
theorem owns_bys {w : World} {B : Nat} {v : Value} {n : Nat} {l : List Int} (h : w.ownsRow B 5 1 v n (iv l)) : n = l.length ∧ ∃ a C, v = .slice a n C ∧ n ≤ C ∧ C ≤ 9223372036854775807 ∧ Bys w a n C (fun j => l.getD j 0) := by
  have hl : n = l.length := by have := h.1; rw [iv_len] at this; omega
  refine ⟨hl, ?_⟩
  subst hl
  rw [iv_bl] at h
  rcases h.2 with ⟨h1, h0⟩ | ⟨g, cap, cur, h1, h2, h3, h4, h5, h6, h7⟩
  · rw [h0]
    exact ⟨none, 0, by rw [h1], Nat.le_refl _, by omega, .inl ⟨rfl, rfl, rfl⟩⟩
  · subst h1
    obtain ⟨_, hb, hc, hd, hcell⟩ := own_cells h
    exact ⟨_, cap, rfl, hc, hd, .inr (.inr ⟨g, 0, rfl, hc, hd, hb, fun j hj => by rw [Nat.zero_add]; exact hcell j hj⟩)⟩
/-- The string of bytes. -/
def sL (l : List Int) : ByteArray := strF (fun j => l.getD j 0) l.length

theorem fourL_get (x j : Nat) (h : j < 4) : (fourL x).getD j 0 = bt x j := by
  rcases (by omega : j = 0 ∨ j = 1 ∨ j = 2 ∨ j = 3) with rfl | rfl | rfl | rfl <;> rfl
theorem o4_bt (m : Nat → Int) (k x : Nat) (hx : x < 4294967296) (h : ∀ j, j < 4 → m (k + j) = bt x j) : o4 m k = (x : Int) := by
  have h0 := h 0 (by omega)
  have h1 := h 1 (by omega)
  have h2 := h 2 (by omega)
  have h3 := h 3 (by omega)
  unfold o4
  rw [Nat.add_zero] at h0
  rw [h0, h1, h2, h3]
  show (x : Int) % 256 + (x : Int) / 256 % 256 * 256 + (x : Int) / 65536 % 256 * 65536 + (x : Int) / 16777216 % 256 * 16777216 = (x : Int)
  omega
theorem bt_byte (x j : Nat) : 0 ≤ bt x j ∧ bt x j < 256 := by
  unfold bt
  split <;> omega
theorem offs_get (L : Nat → Nat) (H n i j : Nat) (hi : i < n) (hj : j < 4) : (offs L H n).getD (4 * i + j) 0 = bt ((H + sumL L i : Nat) : Int) j := by
  induction n with
  | zero => omega
  | succ n ih =>
    unfold offs
    have hl := offs_len L H n
    by_cases h : i < n
    · rw [getD_left _ _ _ (by omega), ih h]
    · have e : i = n := by omega
      subst e
      rw [← hl, getD_right, fourL_get _ _ hj]
theorem cats_get (f : Nat → Nat → Int) (L : Nat → Nat) (n r q : Nat) (hr : r < n) (hq : q < L r) : (cats f L n).getD (sumL L r + q) 0 = f r q := by
  induction n with
  | zero => omega
  | succ n ih =>
    unfold cats
    have hl := cats_len f L n
    by_cases h : r < n
    · have hm := sumL_mono L (i := r + 1) (j := n) (by omega)
      have hs : sumL L (r + 1) = sumL L r + L r := rfl
      rw [getD_left _ _ _ (by omega), ih h]
    · have e : r = n := by omega
      subst e
      rw [← hl, getD_right]
      exact getD_map _ _ _ hq
theorem offs_byte (L : Nat → Nat) (H n : Nat) : ∀ z ∈ offs L H n, 0 ≤ z ∧ z < 256 := by
  induction n with
  | zero => intro z hz; cases hz
  | succ n ih =>
    intro z hz
    unfold offs at hz
    rcases List.mem_append.1 hz with h | h
    · exact ih z h
    · simp only [fourL, List.mem_cons, List.not_mem_nil, or_false] at h
      rcases h with rfl | rfl | rfl | rfl <;> exact bt_byte _ _
theorem cats_byte (f : Nat → Nat → Int) (L : Nat → Nat) (n : Nat) (hf : ∀ r, r < n → ∀ q, q < L r → 0 ≤ f r q ∧ f r q < 256) : ∀ z ∈ cats f L n, 0 ≤ z ∧ z < 256 := by
  induction n with
  | zero => intro z hz; cases hz
  | succ n ih =>
    intro z hz
    unfold cats at hz
    rcases List.mem_append.1 hz with h | h
    · exact ih (fun r hr => hf r (by omega)) z h
    · obtain ⟨q, hq, rfl⟩ := List.mem_map.1 h
      exact hf n (by omega) q (List.mem_range.1 hq)
theorem getD_byte {l : List Int} (h : ∀ z ∈ l, 0 ≤ z ∧ z < 256) (j : Nat) : 0 ≤ l.getD j 0 ∧ l.getD j 0 < 256 := by
  rw [List.getD_eq_getElem?_getD]
  by_cases hj : j < l.length
  · rw [List.getElem?_eq_getElem hj]
    exact h _ (List.getElem_mem hj)
  · rw [List.getElem?_eq_none (by omega)]
    decide
theorem layM_byte (f : Nat → Nat → Int) (L : Nat → Nat) (n : Nat) (hf : ∀ r, r < n → ∀ q, q < L r → 0 ≤ f r q ∧ f r q < 256) (j : Nat) : 0 ≤ (layM f L n).getD j 0 ∧ (layM f L n).getD j 0 < 256 :=
  getD_byte (fun z hz => (List.mem_append.1 hz).elim (offs_byte L _ n z) (cats_byte f L n hf z)) j
theorem layM_off (f : Nat → Nat → Int) (L : Nat → Nat) (n i : Nat) (hi : i < n) (ht : 4 * n + sumL L n < 4294967296) : o4 (fun j => (layM f L n).getD j 0) (4 * i) = ((4 * n + sumL L i : Nat) : Int) := by
  have hm := sumL_mono L (i := i) (j := n) (by omega)
  refine o4_bt _ _ _ (by omega) fun j hj => ?_
  show (offs L (4 * n) n ++ cats f L n).getD (4 * i + j) 0 = _
  rw [getD_left _ _ _ (by rw [offs_len]; omega), offs_get L (4 * n) n i j hi hj]
theorem layM_part (f : Nat → Nat → Int) (L : Nat → Nat) (n r q : Nat) (hr : r < n) (hq : q < L r) : (layM f L n).getD (4 * n + sumL L r + q) 0 = f r q := by
  show (offs L (4 * n) n ++ cats f L n).getD (4 * n + sumL L r + q) 0 = _
  have hl := offs_len L (4 * n) n
  rw [Nat.add_assoc]
  conv => lhs; arg 2; rw [← hl]
  rw [getD_right]
  exact cats_get f L n r q hr hq

/-- Pieces of a block's bytes. -/
theorem pc_bys {w : World} {g len : Nat} {m : Nat → Int} (hg : g < w.heap.size) (hc : ∀ j, j < len → w.cell? ⟨g, j, none⟩ = some (.int .u8 (m j))) (lo hi : Nat) (h1 : lo ≤ hi) (h2 : hi ≤ len) (hl : len ≤ 9223372036854775807) :
    ∃ A, pc (some ⟨g, 0, none⟩) lo hi = .slice A (hi - lo) (hi - lo) ∧ Bys w A (hi - lo) (hi - lo) (fun q => m (lo + q)) := by
  by_cases e : hi = lo
  · exact ⟨some ⟨g, 0, none⟩, by unfold pc; rw [if_pos e], .inr (.inl ⟨_, rfl, by omega⟩)⟩
  · refine ⟨some ⟨g, lo, none⟩, by unfold pc; rw [if_neg e, Option.map_some, addr_add, Nat.zero_add], .inr (.inr ⟨g, lo, rfl, Nat.le_refl _, by omega, hg, fun j hj => hc _ (by omega)⟩)⟩
theorem parts_of {w : World} {gp n : Nat} {P : Nat → Value} {L : Nat → Nat} {f : Nat → Nat → Int} {t : TypeId} (h : w.heap[gp]? = some (.cells (vals n P) t)) (hp : ∀ r, r < n → ∃ A, P r = .slice A (L r) (L r) ∧ Bys w A (L r) (L r) (f r)) : ∃ A, Parts w (some ⟨gp, 0, none⟩) n A L L f := by
  have hch : ∃ A : Nat → Option Addr, ∀ r, r < n → P r = .slice (A r) (L r) (L r) ∧ Bys w (A r) (L r) (L r) (f r) := by
    refine ⟨fun r => if hr : r < n then Classical.choose (hp r hr) else none, fun r hr => ?_⟩
    simp only [dif_pos hr]
    exact Classical.choose_spec (hp r hr)
  obtain ⟨A, hA⟩ := hch
  refine ⟨A, .inr ⟨gp, 0, rfl, (Array.getElem?_eq_some_iff.1 h).1, fun r hr => ⟨?_, (hA r hr).2⟩⟩⟩
  rw [Nat.zero_add, vals_cell h r hr, (hA r hr).1]

/-- Many of what LayMany lays, whatever the most. -/
def mmE (n : Nat) (most : Int) : Int := if most < 0 then 1 else if most < n then 6 else 0
theorem many_laid (f : Nat → Nat → Int) (L : Nat → Nat) (n : Nat) (most : Int) (ao : Option Addr) (cap : Nat) (w : World) (hf : ∀ r, r < n → ∀ q, q < L r → 0 ≤ f r q ∧ f r q < 256) (ht : 4 * n + sumL L n < 4294967296)
    (hb : Bys w ao (4 * n + sumL L n) cap (fun j => (layM f L n).getD j 0)) (hlc : 4 * n + sumL L n ≤ cap) (hcap : cap ≤ 9223372036854775807) (hmo : most ≤ 9223372036854775807) :
    Calls Try.prog 8 #[.slice ao (4 * n + sumL L n) cap, .int .i64 most] w fun e w' => ∃ a' N' c' A' L' f', e = .returned (.tuple #[.slice a' N' c', .int .i64 (mmE n most)]) ∧ Below w.heap.size w w' ∧ N' ≤ 9223372036854775807 ∧ Parts w' a' N' A' L' L' f' ∧ ((n : Int) ≤ most → samB N' L' f' n L f = true) := by
  have hm : ∀ j, j < 4 * n + sumL L n → 0 ≤ (layM f L n).getD j 0 ∧ (layM f L n).getD j 0 < 256 := fun j _ => layM_byte f L n hf j
  by_cases h1 : most < 0
  · refine (many_arg (fun j => (layM f L n).getD j 0) ao _ cap most w h1).mono ?_
    rintro e w' ⟨rfl, h2⟩
    refine ⟨none, 0, 0, fun _ => none, fun _ => 0, fun _ _ => 0, ?_, h2, by omega, .inl rfl, fun h => by omega⟩
    unfold mmE
    rw [if_pos h1]
  by_cases h0 : n = 0
  · subst h0
    refine (many_none (fun j => (layM f L 0).getD j 0) ao _ cap most w (by omega) (by simp [sumL])).mono ?_
    rintro e w' ⟨rfl, h2⟩
    refine ⟨none, 0, 0, fun _ => none, fun _ => 0, fun _ _ => 0, ?_, h2, by omega, .inl rfl, fun h => samB_true fun r hr => by omega⟩
    unfold mmE
    rw [if_neg h1, if_neg (by omega)]
  have hoff := fun i hi => layM_off f L n i hi ht
  have h00 := hoff 0 (by omega)
  rw [Nat.mul_zero] at h00
  have e0 : 4 * n + sumL L 0 = 4 * n := by simp [sumL]
  rw [e0] at h00
  have hmono := fun {i j : Nat} (h : i ≤ j) => sumL_mono L h
  by_cases h3 : most < n
  · refine (many_long (fun j => (layM f L n).getD j 0) ao _ cap most w hb hm (by omega) hlc hcap (by omega) hmo (by omega) (4 * n) h00 n rfl (by omega) (by omega) h3).mono ?_
    rintro e w' ⟨rfl, h2⟩
    refine ⟨none, 0, 0, fun _ => none, fun _ => 0, fun _ _ => 0, ?_, h2, by omega, .inl rfl, fun h => by omega⟩
    unfold mmE
    rw [if_neg h1, if_pos h3]
  · refine (many_ok (fun j => (layM f L n).getD j 0) ao _ cap n most w hb hm (by omega) hlc hcap (by omega) h00 (by omega) (by omega) hmo (fun i => 4 * n + sumL L i) hoff (fun i hi => by have := hmono (i := i) (j := n) (by omega); omega) (fun i hi => by have := hmono (i := i) (j := i + 1) (by omega); omega)).mono ?_
    rintro e w' ⟨g, C, gp, rfl, x1, x2, x3, x4, x5, x6, x7, x8⟩
    have hend : ∀ r, r < n → endAt (fun i => 4 * n + sumL L i) (4 * n + sumL L n) n r = 4 * n + sumL L (r + 1) := by
      intro r hr
      unfold endAt
      by_cases h : r + 1 < n
      · rw [if_pos h]
      · rw [if_neg h, show r + 1 = n by omega]
    obtain ⟨A, hP⟩ := parts_of (L := L) (f := fun r q => (layM f L n).getD (4 * n + sumL L r + q) 0) x6 (fun r hr => by
      unfold prts
      rw [hend r hr]
      have hs : sumL L (r + 1) = sumL L r + L r := rfl
      have hmo2 := hmono (i := r + 1) (j := n) (by omega)
      obtain ⟨A, h1, h2⟩ := pc_bys x4 x3 (4 * n + sumL L r) (4 * n + sumL L (r + 1)) (by omega) (by omega) (by omega)
      rw [show 4 * n + sumL L (r + 1) - (4 * n + sumL L r) = L r by omega] at h1 h2
      exact ⟨A, h1, h2⟩)
    refine ⟨_, n, n, A, L, _, ?_, x8, by omega, hP, fun _ => samB_true fun r hr => ?_⟩
    · unfold mmE
      rw [if_neg h1, if_neg h3]
    · congr 1
      unfold strF
      rw [List.map_congr_left fun q hq => layM_part f L n r q hr (List.mem_range.1 hq)]

end Go.Proofs.Ytfhplpcbaoefeaa
