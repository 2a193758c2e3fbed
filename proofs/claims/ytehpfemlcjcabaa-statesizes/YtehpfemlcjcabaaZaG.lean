/-
  A container's bytes, cut again.
  What the reference's Lay answers.
-/
import Derived.Test.YtehpfemlcjcabaaZaF
namespace Go.Proofs.Ytehpfemlcjcabaa.Z

open Go.RowKit

set_option linter.unusedVariables false

set_option linter.unusedSimpArgs false

theorem hdB_four (zs : Nat → Int) (f : Nat → Nat → Int) (L : Nat → Nat) (H n k j : Nat) (hf : Fits zs L n) (hk : k < n) (h0 : zs k = 0) (hj : j < 4) : (hdB zs f L H n).getD (hdL zs k + j) 0 = bt ((H + loL zs L k : Nat) : Int) j := by
  induction n with
  | zero => omega
  | succ n ih =>
    unfold hdB
    have hl := hdB_len zs f L H n (fun r hr => hf r (by omega))
    by_cases h : k < n
    · have h1 := hdL_mono zs (i := k + 1) (j := n) (by omega)
      have h2 : hdL zs (k + 1) = hdL zs k + inH (zs k) := rfl
      have h3 : inH (zs k) = 4 := by unfold inH; rw [if_pos h0]
      rw [getD_left _ _ _ (by omega), ih (fun r hr => hf r (by omega)) h]
    · have e : k = n := by omega
      subst e
      rw [← hl, getD_right, if_pos h0, fourL_get _ _ hj]

theorem hdB_part (zs : Nat → Int) (f : Nat → Nat → Int) (L : Nat → Nat) (H n k q : Nat) (hf : Fits zs L n) (hk : k < n) (h0 : ¬ zs k = 0) (hq : q < L k) : (hdB zs f L H n).getD (hdL zs k + q) 0 = f k q := by
  induction n with
  | zero => omega
  | succ n ih =>
    unfold hdB
    have hl := hdB_len zs f L H n (fun r hr => hf r (by omega))
    by_cases h : k < n
    · have h1 := hdL_mono zs (i := k + 1) (j := n) (by omega)
      have h2 : hdL zs (k + 1) = hdL zs k + inH (zs k) := rfl
      have h3 : inH (zs k) = (zs k).toNat := by unfold inH; rw [if_neg h0]
      have h4 := hf k (by omega) h0
      rw [getD_left _ _ _ (by omega), ih (fun r hr => hf r (by omega)) h]
    · have e : k = n := by omega
      subst e
      rw [← hl, getD_right, if_neg h0]
      exact getD_map _ _ _ hq

theorem loB_part (zs : Nat → Int) (f : Nat → Nat → Int) (L : Nat → Nat) (n k q : Nat) (hk : k < n) (h0 : zs k = 0) (hq : q < L k) : (loB zs f L n).getD (loL zs L k + q) 0 = f k q := by
  induction n with
  | zero => omega
  | succ n ih =>
    unfold loB
    have hl := loB_len zs f L n
    by_cases h : k < n
    · have h1 := loL_mono zs L (i := k + 1) (j := n) (by omega)
      have h2 : loL zs L (k + 1) = loL zs L k + (if zs k = 0 then L k else 0) := rfl
      rw [if_pos h0] at h2
      rw [getD_left _ _ _ (by omega), ih h]
    · have e : k = n := by omega
      subst e
      rw [← hl, getD_right, if_pos h0]
      exact getD_map _ _ _ hq

theorem offL_get (zs m : Nat → Int) (n k : Nat) (hk : k < n) (h0 : zs k = 0) : (offL zs m n).getD (zn zs k) 0 = o4 m (hdL zs k) := by
  induction n with
  | zero => omega
  | succ n ih =>
    show (offL zs m n ++ (if zs n = 0 then [o4 m (hdL zs n)] else [])).getD (zn zs k) 0 = _
    have hl := offL_zn zs m n
    by_cases h : k < n
    · have h1 := zn_lt zs h h0
      rw [getD_left _ _ _ (by omega), ih h]
    · have e : k = n := by omega
      subst e
      rw [if_pos h0, ← hl]
      have := getD_right (offL zs m k) [o4 m (hdL zs k)] 0
      rw [Nat.add_zero] at this
      rw [this]
      rfl

theorem ixz_spec (zs : Nat → Int) {n j : Nat} (hj : j < zn zs n) : ixz zs n j < n ∧ zs (ixz zs n j) = 0 ∧ zn zs (ixz zs n j) = j := by
  refine ⟨ixz_lt zs hj, ?_⟩
  induction n with
  | zero => simp [zn] at hj
  | succ n ih =>
    unfold ixz
    by_cases h : zs n = 0 ∧ zn zs n = j
    · rw [if_pos h]; exact h
    · rw [if_neg h]
      refine ih ?_
      by_cases h0 : zs n = 0
      · have h1 := (zn_succ zs n).1 h0
        have h2 : ¬ zn zs n = j := fun e => h ⟨h0, e⟩
        omega
      · have h1 := (zn_succ zs n).2 h0
        omega

theorem loL_same (zs : Nat → Int) (L : Nat → Nat) {a b : Nat} (h : a ≤ b) (hz : zn zs a = zn zs b) : loL zs L a = loL zs L b := by
  induction b with
  | zero => have : a = 0 := by omega
            subst this
            rfl
  | succ b ih =>
    by_cases e : a = b + 1
    · subst e; rfl
    · have h1 := zn_mono zs (i := a) (j := b) (by omega)
      have h2 : zn zs (b + 1) = zn zs b + (if zs b = 0 then 1 else 0) := rfl
      have h3 : ¬ zs b = 0 := by
        intro h0
        rw [if_pos h0] at h2
        omega
      rw [if_neg h3] at h2
      show _ = loL zs L b + (if zs b = 0 then L b else 0)
      rw [if_neg h3, ih (by omega) (by omega)]
      rfl

theorem ixz_mono (zs : Nat → Int) {n i : Nat} (hi : i + 1 < zn zs n) : ixz zs n i < ixz zs n (i + 1) := by
  obtain ⟨h1, h2, h3⟩ := ixz_spec zs (n := n) (j := i) (by omega)
  obtain ⟨h4, h5, h6⟩ := ixz_spec zs (n := n) (j := i + 1) hi
  by_cases h : ixz zs n i < ixz zs n (i + 1)
  · exact h
  · have := zn_mono zs (i := ixz zs n (i + 1)) (j := ixz zs n i) (by omega)
    omega

/-- Where the part number r begins and ends, by offsets. -/
def cB (zs : Nat → Int) (os : Nat → Nat) (r : Nat) : Nat := if zs r = 0 then os (zn zs r) else hdL zs r

def cE (zs : Nat → Int) (os : Nat → Nat) (len nz r : Nat) : Nat := if zs r = 0 then endAt os len nz (zn zs r) else hdL zs r + (zs r).toNat

theorem cut_parts {w : World} {g gp len n : Nat} {zs m : Nat → Int} {os : Nat → Nat} {t : TypeId} (hg : g < w.heap.size) (hc : ∀ j, j < len → w.cell? ⟨g, j, none⟩ = some (.int .u8 (m j))) (hl : len ≤ 9223372036854775807)
    (hp : w.heap[gp]? = some (.cells (vals n (cpart (some ⟨g, 0, none⟩) zs os len (zn zs n))) t)) (hbe : ∀ r, r < n → cB zs os r ≤ cE zs os len (zn zs n) r ∧ cE zs os len (zn zs n) r ≤ len) :
    ∃ A, Parts w (some ⟨gp, 0, none⟩) n A (fun r => cE zs os len (zn zs n) r - cB zs os r) (fun r => cE zs os len (zn zs n) r - cB zs os r) (fun r q => m (cB zs os r + q)) := by
  refine parts_of hp fun r hr => ?_
  obtain ⟨h1, h2⟩ := hbe r hr
  obtain ⟨A, hA, hB⟩ := pc_bys hg hc _ _ h1 h2 hl
  refine ⟨A, ?_, hB⟩
  rw [← hA]
  unfold cpart cB cE
  by_cases h0 : zs r = 0
  · rw [if_pos h0, if_pos h0, if_pos h0]
    rfl
  · rw [if_neg h0, if_neg h0, if_neg h0]
section
variable (zs : Nat → Int) (f : Nat → Nat → Int) (L : Nat → Nat) (n : Nat)

theorem layC_off (hf : Fits zs L n) (ht : hdL zs n + loL zs L n < 4294967296) (k : Nat) (hk : k < n) (h0 : zs k = 0) : offN zs (fun j => (layC zs f L n).getD j 0) n (zn zs k) = hdL zs n + loL zs L k := by
  have hm := loL_mono zs L (i := k) (j := n) (by omega)
  have hlen := hdB_len zs f L (hdL zs n) n hf
  have h1 := hdL_mono zs (i := k + 1) (j := n) (by omega)
  have h2 : hdL zs (k + 1) = hdL zs k + inH (zs k) := rfl
  have h3 : inH (zs k) = 4 := by unfold inH; rw [if_pos h0]
  unfold offN
  rw [offL_get zs _ n k hk h0, o4_bt _ _ (hdL zs n + loL zs L k) (by omega) (fun j hj => by
    show (hdB zs f L (hdL zs n) n ++ loB zs f L n).getD (hdL zs k + j) 0 = _
    rw [getD_left _ _ _ (by omega), hdB_four zs f L (hdL zs n) n k j hf hk h0 hj])]
  omega

theorem layC_offs (hf : Fits zs L n) (ht : hdL zs n + loL zs L n < 4294967296) (i : Nat) (hi : i < zn zs n) : offN zs (fun j => (layC zs f L n).getD j 0) n i = hdL zs n + loL zs L (ixz zs n i) := by
  obtain ⟨h1, h2, h3⟩ := ixz_spec zs hi
  have := layC_off zs f L n hf ht (ixz zs n i) h1 h2
  rw [h3] at this
  exact this

theorem layC_end (hf : Fits zs L n) (ht : hdL zs n + loL zs L n < 4294967296) (r : Nat) (hr : r < n) (h0 : zs r = 0) : endAt (offN zs (fun j => (layC zs f L n).getD j 0) n) (hdL zs n + loL zs L n) (zn zs n) (zn zs r) = hdL zs n + loL zs L (r + 1) := by
  have hz := (zn_succ zs r).1 h0
  unfold endAt
  by_cases h : zn zs r + 1 < zn zs n
  · rw [if_pos h, layC_offs zs f L n hf ht _ h]
    obtain ⟨h1, h2, h3⟩ := ixz_spec zs h
    have hm := ixz_mono zs h
    rw [ixz_at zs hr h0] at hm
    rw [loL_same zs L (a := r + 1) (b := ixz zs n (zn zs r + 1)) (by omega) (by omega)]
  · rw [if_neg h]
    have h1 := zn_lt zs hr h0
    rw [loL_same zs L (a := r + 1) (b := n) (by omega) (by omega)]

theorem layC_part (hf : Fits zs L n) (ht : hdL zs n + loL zs L n < 4294967296) (r q : Nat) (hr : r < n) (hq : q < L r) : (layC zs f L n).getD (cB zs (offN zs (fun j => (layC zs f L n).getD j 0) n) r + q) 0 = f r q := by
  have hlen := hdB_len zs f L (hdL zs n) n hf
  unfold cB
  by_cases h0 : zs r = 0
  · rw [if_pos h0, layC_off zs f L n hf ht r hr h0]
    show (hdB zs f L (hdL zs n) n ++ loB zs f L n).getD (hdL zs n + loL zs L r + q) 0 = _
    rw [Nat.add_assoc]
    conv => lhs; arg 2; rw [← hlen]
    rw [getD_right, loB_part zs f L n r q hr h0 hq]
  · rw [if_neg h0]
    have h1 := hdL_mono zs (i := r + 1) (j := n) (by omega)
    have h2 : hdL zs (r + 1) = hdL zs r + inH (zs r) := rfl
    have h3 : inH (zs r) = (zs r).toNat := by unfold inH; rw [if_neg h0]
    have h4 := hf r hr h0
    show (hdB zs f L (hdL zs n) n ++ loB zs f L n).getD (hdL zs r + q) 0 = _
    rw [getD_left _ _ _ (by omega), hdB_part zs f L (hdL zs n) n r q hf hr h0 hq]

theorem layC_byte (hb : ∀ r, r < n → ∀ q, q < L r → 0 ≤ f r q ∧ f r q < 256) (j : Nat) : 0 ≤ (layC zs f L n).getD j 0 ∧ (layC zs f L n).getD j 0 < 256 := by
  have hp : ∀ k, k ≤ n → (∀ z ∈ hdB zs f L (hdL zs n) k, 0 ≤ z ∧ z < 256) ∧ (∀ z ∈ loB zs f L k, 0 ≤ z ∧ z < 256) := by
    intro k
    induction k with
    | zero => exact fun _ => ⟨fun z hz => (by cases hz), fun z hz => (by cases hz)⟩
    | succ k ih =>
      intro hk
      obtain ⟨h1, h2⟩ := ih (by omega)
      have h3 : ∀ z ∈ prt f L k, 0 ≤ z ∧ z < 256 := by
        intro z hz
        obtain ⟨q, hq, rfl⟩ := List.mem_map.1 hz
        exact hb k (by omega) q (List.mem_range.1 hq)
      refine ⟨fun z hz => ?_, fun z hz => ?_⟩
      · unfold hdB at hz
        rcases List.mem_append.1 hz with h | h
        · exact h1 z h
        · by_cases h0 : zs k = 0
          · rw [if_pos h0] at h
            simp only [fourL, List.mem_cons, List.not_mem_nil, or_false] at h
            rcases h with rfl | rfl | rfl | rfl <;> exact bt_byte _ _
          · rw [if_neg h0] at h
            exact h3 z h
      · unfold loB at hz
        rcases List.mem_append.1 hz with h | h
        · exact h2 z h
        · by_cases h0 : zs k = 0
          · rw [if_pos h0] at h
            exact h3 z h
          · rw [if_neg h0] at h
            cases h
  obtain ⟨h1, h2⟩ := hp n (Nat.le_refl _)
  exact getD_byte (fun z hz => (List.mem_append.1 hz).elim (h1 z) (h2 z)) j

end

end Go.Proofs.Ytehpfemlcjcabaa.Z

namespace Go.Proofs.Ytehpfemlcjcabaa.Z

open Go.RowKit

set_option linter.unusedVariables false

set_option linter.unusedSimpArgs false

/-- Two rows of the call's own, apart. -/
def Two (w : World) (B : Nat) (v : Value) (n : Nat) (xs : List Value) (u : Value) (m : Nat) (ys : List Value) : Prop :=
  w.ownsRow B 5 1 v n xs ∧ w.ownsRow B 5 1 u m ys ∧ ∀ k, v.ownBlock = some k → u.ownBlock ≠ some k

theorem Two.below {w w' : World} {B : Nat} {v : Value} {n : Nat} {xs : List Value} {u : Value} {m : Nat} {ys : List Value} (h : Two w B v n xs u m ys) (hb : Below w.heap.size w w') : Two w' B v n xs u m ys :=
  ⟨owns_below h.1 hb, owns_below h.2.1 hb, h.2.2⟩

theorem Two.step {w w' : World} {B : Nat} {v v' : Value} {n n' : Nat} {xs xs' : List Value} {u : Value} {m : Nat} {ys : List Value} (h : Two w B v n xs u m ys) (ho : w'.ownsRow B 5 1 v' n' xs') (hg : w.grownBy w' v.ownBlock) (hl : v'.ownBlock = v.ownBlock ∨ v'.ownBlock = some w.heap.size) : Two w' B v' n' xs' u m ys := by
  obtain ⟨h1, h2, h3⟩ := h
  refine ⟨ho, ?_, fun k hk hu => ?_⟩
  · refine ⟨h2.1, ?_⟩
    rcases h2.2 with h4 | ⟨g, cap, cur, h4, h5, h6, h7⟩
    · exact .inl h4
    · refine .inr ⟨g, cap, cur, h4, h5, ?_, h7⟩
      rw [← h6]
      refine hg.block g (Array.getElem?_eq_some_iff.1 h6).1 fun e => ?_
      exact h3 g e.symm (by rw [h4]; rfl)
  · rcases hl with hl | hl
    · exact h3 k (hl ▸ hk) hu
    · have := (h2.lt k hu).2
      rw [hl] at hk
      cases hk
      omega

end Go.Proofs.Ytehpfemlcjcabaa.Z
