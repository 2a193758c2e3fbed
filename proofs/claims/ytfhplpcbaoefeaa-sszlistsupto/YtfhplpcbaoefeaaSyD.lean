/-
  What was cut, laid again, is the bytes; ssz.Cut whole.
-/
import Derived.Test.YtfhplpcbaoefeaaSyC
namespace Go.Proofs.Ytfhplpcbaoefeaa
open Go.RowKit
set_option linter.unusedVariables false
set_option linter.unusedSimpArgs false

/-- Why Cut answers no parts (0: it does); the parts' lengths and bytes. -/
def cutE (zs m : Nat → Int) (n len : Nat) : Int :=
  if szB zs n = false then 1 else if len < hdL zs n then 4 else if zn zs n = 0 ∧ hdL zs n < len then 4 else if 0 < zn zs n ∧ ¬ offN zs m n 0 = hdL zs n then 5 else if ordB (fun i => (offN zs m n i : Int)) len (zn zs n) = false then 5 else 0
def cLn (zs m : Nat → Int) (n len r : Nat) : Nat := cE zs (offN zs m n) len (zn zs n) r - cB zs (offN zs m n) r
def cFn (zs m : Nat → Int) (n r q : Nat) : Int := m (cB zs (offN zs m n) r + q)
/-- What Cut asks of bytes that it cuts. -/
structure CutOk (zs m : Nat → Int) (n len : Nat) : Prop where
  sz : szB zs n = true
  hd : hdL zs n ≤ len
  no : zn zs n = 0 → len = hdL zs n
  fi : 0 < zn zs n → offN zs m n 0 = hdL zs n
  le : ∀ i, i < zn zs n → offN zs m n i ≤ len
  mo : ∀ i, i + 1 < zn zs n → offN zs m n i ≤ offN zs m n (i + 1)
theorem cutE_ok {zs m : Nat → Int} {n len : Nat} (h : cutE zs m n len = 0) : CutOk zs m n len := by
  unfold cutE at h
  by_cases h1 : szB zs n = false
  · rw [if_pos h1] at h; omega
  rw [if_neg h1] at h
  by_cases h2 : len < hdL zs n
  · rw [if_pos h2] at h; omega
  rw [if_neg h2] at h
  by_cases h3 : zn zs n = 0 ∧ hdL zs n < len
  · rw [if_pos h3] at h; omega
  rw [if_neg h3] at h
  by_cases h4 : 0 < zn zs n ∧ ¬ offN zs m n 0 = hdL zs n
  · rw [if_pos h4] at h; omega
  rw [if_neg h4] at h
  by_cases h5 : ordB (fun i => (offN zs m n i : Int)) len (zn zs n) = false
  · rw [if_pos h5] at h; omega
  have ho := ordB_out (show ordB (fun i => (offN zs m n i : Int)) len (zn zs n) = true by simpa using h5)
  refine ⟨by simpa using h1, by omega, fun h => ?_, fun h => ?_, fun i hi => ?_, fun i hi => ?_⟩
  · have : ¬ hdL zs n < len := fun h' => h3 ⟨h, h'⟩
    omega
  · by_cases e : offN zs m n 0 = hdL zs n
    · exact e
    · exact absurd ⟨h, e⟩ h4
  · have := (ho i hi).2
    dsimp only at this
    omega
  · have := (ho (i + 1) hi).1
    rw [if_neg (by omega), Nat.add_sub_cancel] at this
    dsimp only at this
    omega
section
variable {zs m : Nat → Int} {n len : Nat} (h : CutOk zs m n len)
include h
/-- The offset number i, the last one being the bytes' end. -/
def osx (zs m : Nat → Int) (n len i : Nat) : Nat := if i < zn zs n then offN zs m n i else len
theorem osx_mono (i : Nat) : osx zs m n len i ≤ osx zs m n len (i + 1) := by
  unfold osx
  by_cases h1 : i + 1 < zn zs n
  · rw [if_pos (by omega), if_pos h1]
    exact h.mo i h1
  · rw [if_neg h1]
    by_cases h2 : i < zn zs n
    · rw [if_pos h2]
      exact h.le i h2
    · rw [if_neg h2]
      exact Nat.le_refl _
omit h in
theorem osx_end (r : Nat) (hr : r < n) (h0 : zs r = 0) : cE zs (offN zs m n) len (zn zs n) r = osx zs m n len (zn zs r + 1) ∧ cB zs (offN zs m n) r = osx zs m n len (zn zs r) := by
  have hz := zn_lt zs hr h0
  unfold cE cB osx endAt
  rw [if_pos h0, if_pos h0, if_pos hz]
  exact ⟨rfl, rfl⟩
theorem cut_sum (k : Nat) (hk : k ≤ n) : hdL zs n + loL zs (cLn zs m n len) k = osx zs m n len (zn zs k) := by
  induction k with
  | zero =>
    show hdL zs n + 0 = osx zs m n len 0
    unfold osx
    by_cases hz : 0 < zn zs n
    · rw [if_pos hz, h.fi hz]; rfl
    · rw [if_neg hz, h.no (by omega)]; rfl
  | succ k ih =>
    have h1 := ih (by omega)
    have h2 : loL zs (cLn zs m n len) (k + 1) = loL zs (cLn zs m n len) k + (if zs k = 0 then cLn zs m n len k else 0) := rfl
    by_cases h0 : zs k = 0
    · rw [if_pos h0] at h2
      have h3 := (zn_succ zs k).1 h0
      have h4 := osx_end (zs := zs) (m := m) (n := n) (len := len) k (by omega) h0
      have h5 := osx_mono h (zn zs k)
      have h6 : cLn zs m n len k = osx zs m n len (zn zs k + 1) - osx zs m n len (zn zs k) := by unfold cLn; rw [h4.1, h4.2]
      rw [h3]
      omega
    · rw [if_neg h0] at h2
      rw [(zn_succ zs k).2 h0]
      omega
theorem cut_total : hdL zs n + loL zs (cLn zs m n len) n = len := by
  rw [cut_sum h n (Nat.le_refl _)]
  unfold osx
  rw [if_neg (by omega)]
theorem cut_fits : Fits zs (cLn zs m n len) n := by
  intro r hr hne
  have hok := (szB_out h.sz).2.2 r hr
  unfold okS at hok
  unfold cLn cE cB
  rw [if_neg hne, if_neg hne]
  omega
theorem cut_bounds (r : Nat) (hr : r < n) : cB zs (offN zs m n) r ≤ cE zs (offN zs m n) len (zn zs n) r ∧ cE zs (offN zs m n) len (zn zs n) r ≤ len := by
  by_cases h0 : zs r = 0
  · obtain ⟨h1, h2⟩ := osx_end r hr h0
    rw [h1, h2]
    refine ⟨osx_mono h _, ?_⟩
    unfold osx
    by_cases h3 : zn zs r + 1 < zn zs n
    · rw [if_pos h3]; exact h.le _ h3
    · rw [if_neg h3]; exact Nat.le_refl _
  · have h1 := hdL_mono zs (i := r + 1) (j := n) (by omega)
    have h2 : hdL zs (r + 1) = hdL zs r + inH (zs r) := rfl
    have h3 : inH (zs r) = (zs r).toNat := by unfold inH; rw [if_neg h0]
    have h4 := h.hd
    unfold cE cB
    rw [if_neg h0, if_neg h0]
    omega
theorem cut_off (hm : ∀ j, 0 ≤ m j ∧ m j < 256) (k : Nat) (hk : k < n) (h0 : zs k = 0) : ((hdL zs n + loL zs (cLn zs m n len) k : Nat) : Int) = o4 m (hdL zs k) := by
  rw [cut_sum h k (by omega)]
  unfold osx
  rw [if_pos (zn_lt zs hk h0)]
  unfold offN
  rw [offL_get zs m n k hk h0]
  have := o4_bd m (hdL zs k) (fun j _ _ => hm j)
  omega
end
theorem bt_o4 (m : Nat → Int) (k j : Nat) (hm : ∀ j, 0 ≤ m j ∧ m j < 256) (hj : j < 4) : bt (o4 m k) j = m (k + j) := by
  have h0 := hm k
  have h1 := hm (k + 1)
  have h2 := hm (k + 2)
  have h3 := hm (k + 3)
  rcases (by omega : j = 0 ∨ j = 1 ∨ j = 2 ∨ j = 3) with rfl | rfl | rfl | rfl
  · show (m k + m (k + 1) * 256 + m (k + 2) * 65536 + m (k + 3) * 16777216) % 256 = m k
    omega
  · show (m k + m (k + 1) * 256 + m (k + 2) * 65536 + m (k + 3) * 16777216) / 256 % 256 = m (k + 1)
    omega
  · show (m k + m (k + 1) * 256 + m (k + 2) * 65536 + m (k + 3) * 16777216) / 65536 % 256 = m (k + 2)
    omega
  · show (m k + m (k + 1) * 256 + m (k + 2) * 65536 + m (k + 3) * 16777216) / 16777216 % 256 = m (k + 3)
    omega
theorem hdL_find (zs : Nat → Int) (n j : Nat) (hj : j < hdL zs n) : ∃ k, k < n ∧ hdL zs k ≤ j ∧ j < hdL zs (k + 1) := by
  induction n with
  | zero => simp [hdL] at hj
  | succ n ih =>
    by_cases h : j < hdL zs n
    · obtain ⟨k, h1, h2⟩ := ih h
      exact ⟨k, by omega, h2⟩
    · exact ⟨n, by omega, by omega, hj⟩
theorem loL_find (zs : Nat → Int) (L : Nat → Nat) (n j : Nat) (hj : j < loL zs L n) : ∃ k, k < n ∧ zs k = 0 ∧ loL zs L k ≤ j ∧ j < loL zs L k + L k := by
  induction n with
  | zero => simp [loL] at hj
  | succ n ih =>
    by_cases h : j < loL zs L n
    · obtain ⟨k, h1, h2⟩ := ih h
      exact ⟨k, by omega, h2⟩
    · have h2 : loL zs L (n + 1) = loL zs L n + (if zs n = 0 then L n else 0) := rfl
      by_cases h0 : zs n = 0
      · rw [if_pos h0] at h2
        exact ⟨n, by omega, h0, by omega, by omega⟩
      · rw [if_neg h0] at h2
        omega
/-- What was cut, laid again, is the bytes. -/
theorem cut_again {zs m : Nat → Int} {n len : Nat} (h : CutOk zs m n len) (hm : ∀ j, 0 ≤ m j ∧ m j < 256) : layC zs (cFn zs m n) (cLn zs m n len) n = (List.range len).map m := by
  have hf := cut_fits h
  have ht := cut_total h
  have hl := layC_len zs (cFn zs m n) (cLn zs m n len) n hf
  have hhl := hdB_len zs (cFn zs m n) (cLn zs m n len) (hdL zs n) n hf
  have key : ∀ j, j < len → (layC zs (cFn zs m n) (cLn zs m n len) n).getD j 0 = m j := by
    intro j hj
    unfold layC
    by_cases h1 : j < hdL zs n
    · rw [getD_left _ _ _ (by omega)]
      obtain ⟨k, hk, h2, h3⟩ := hdL_find zs n j h1
      have h4 : hdL zs (k + 1) = hdL zs k + inH (zs k) := rfl
      obtain ⟨q, rfl⟩ : ∃ q, j = hdL zs k + q := ⟨j - hdL zs k, by omega⟩
      by_cases h0 : zs k = 0
      · have h5 : inH (zs k) = 4 := by unfold inH; rw [if_pos h0]
        rw [hdB_four _ _ _ _ _ _ _ hf hk h0 (by omega), cut_off h hm k hk h0, bt_o4 m _ _ hm (by omega)]
      · have h5 : inH (zs k) = (zs k).toNat := by unfold inH; rw [if_neg h0]
        have h6 := hf k hk h0
        rw [hdB_part _ _ _ _ _ _ _ hf hk h0 (by omega)]
        unfold cFn cB
        rw [if_neg h0]
    · obtain ⟨i, rfl⟩ : ∃ i, j = hdL zs n + i := ⟨j - hdL zs n, by omega⟩
      conv => lhs; arg 2; rw [← hhl]
      rw [getD_right]
      obtain ⟨k, hk, h0, h2, h3⟩ := loL_find zs (cLn zs m n len) n i (by omega)
      obtain ⟨q, rfl⟩ : ∃ q, i = loL zs (cLn zs m n len) k + q := ⟨i - loL zs (cLn zs m n len) k, by omega⟩
      rw [loB_part _ _ _ _ _ _ hk h0 (by omega)]
      unfold cFn
      rw [(osx_end k hk h0).2, ← cut_sum h k (by omega), Nat.add_assoc]
  apply List.ext_getElem?
  intro j
  by_cases hj : j < len
  · have := key j hj
    rw [List.getD_eq_getElem?_getD, List.getElem?_eq_getElem (by omega)] at this
    rw [List.getElem?_eq_getElem (by omega), List.getElem?_map, List.getElem?_range hj]
    exact congrArg some this
  · rw [List.getElem?_eq_none (by omega), List.getElem?_eq_none (by simp; omega)]

/-- Cut, whatever it is handed. -/
theorem cut_any (zs m : Nat → Int) (ao : Option Addr) (len cap : Nat) (sa : Option Addr) (n sc : Nat) (w : World) (hb : Bys w ao len cap m) (hm : ∀ j, 0 ≤ m j ∧ m j < 256) (hlen : len ≤ 140737488351232) (hlc : len ≤ cap) (hcap : cap ≤ 9223372036854775807) (hn : Nms .i64 w sa n zs) (hnb : n ≤ 9223372036854775807) :
    Calls Try.prog 12 #[.slice ao len cap, .slice sa n sc] w fun e w' => ∃ a' N' A', e = .returned (.tuple #[.slice a' N' N', .int .i64 (cutE zs m n len)]) ∧ N' = (if cutE zs m n len = 0 then n else 0) ∧ Parts w' a' N' A' (cLn zs m n len) (cLn zs m n len) (cFn zs m n) ∧ Below w.heap.size w w' := by
  have hm' : ∀ j, j < len → 0 ≤ m j ∧ m j < 256 := fun j _ => hm j
  have none_ : ∀ E : Int, cutE zs m n len = E → E ≠ 0 → (Calls Try.prog 12 #[.slice ao len cap, .slice sa n sc] w fun e w' => e = .returned (.tuple #[.slice none 0 0, .int .i64 E]) ∧ Below w.heap.size w w') → Calls Try.prog 12 #[.slice ao len cap, .slice sa n sc] w fun e w' => ∃ a' N' A', e = .returned (.tuple #[.slice a' N' N', .int .i64 (cutE zs m n len)]) ∧ N' = (if cutE zs m n len = 0 then n else 0) ∧ Parts w' a' N' A' (cLn zs m n len) (cLn zs m n len) (cFn zs m n) ∧ Below w.heap.size w w' := by
    intro E hE h0 hc
    refine hc.mono ?_
    rintro e w' ⟨rfl, hb'⟩
    exact ⟨none, 0, fun _ => none, by rw [hE], by rw [hE, if_neg h0], .inl rfl, hb'⟩
  cases hs : szB zs n
  · refine none_ 1 (by unfold cutE; rw [if_pos hs]) (by decide) (cut_arg zs m ao len cap sa n sc w hn hnb hs)
  have h1 : ¬ szB zs n = false := by rw [hs]; simp
  by_cases h2 : len < hdL zs n
  · exact none_ 4 (by unfold cutE; rw [if_neg h1, if_pos h2]) (by decide) (cut_short zs m ao len cap sa n sc w hlen hn hs h2)
  by_cases h3 : zn zs n = 0 ∧ hdL zs n < len
  · exact none_ 4 (by unfold cutE; rw [if_neg h1, if_neg h2, if_pos h3]) (by decide) (cut_long zs m ao len cap sa n sc w hb hm' hlen hlc hcap hn hs (by omega) h3.1 h3.2)
  by_cases h4 : 0 < zn zs n ∧ ¬ offN zs m n 0 = hdL zs n
  · exact none_ 5 (by unfold cutE; rw [if_neg h1, if_neg h2, if_neg h3, if_pos h4]) (by decide) (cut_first zs m ao len cap sa n sc w hb hm' hlen hlc hcap hn hs (by omega) h4.1 h4.2)
  cases h5 : ordB (fun i => (offN zs m n i : Int)) len (zn zs n)
  · by_cases h6 : 0 < zn zs n
    · refine none_ 5 (by unfold cutE; rw [if_neg h1, if_neg h2, if_neg h3, if_neg h4, if_pos h5]) (by decide) (cut_order zs m ao len cap sa n sc w hb hm' hlen hlc hcap hn hs (by omega) h6 ?_ h5)
      by_cases e : offN zs m n 0 = hdL zs n
      · exact e
      · exact absurd ⟨h6, e⟩ h4
    · have : zn zs n = 0 := by omega
      rw [this] at h5
      cases h5
  · have hE : cutE zs m n len = 0 := by unfold cutE; rw [if_neg h1, if_neg h2, if_neg h3, if_neg h4, if_neg (by rw [h5]; simp)]
    have hok := cutE_ok hE
    refine (cut_ok zs m ao len cap sa n sc w hb hm' hlen hlc hcap hn hs hok.hd hok.no hok.fi hok.le hok.mo).mono ?_
    rintro e w' ⟨g, C, gp, rfl, x1, x2, x3, x4, x5, x6, x7, x8⟩
    obtain ⟨A, hP⟩ := cut_parts x4 x3 (by omega) x6 (fun r hr => cut_bounds hok r hr)
    exact ⟨_, n, A, by rw [hE], by rw [hE, if_pos rfl], hP, x8⟩

end Go.Proofs.Ytfhplpcbaoefeaa
