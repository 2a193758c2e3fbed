/-
  What SszLays answers.
  What was cut, laid again, is the bytes; ssz.Cut whole.
  A container's bytes, cut again: the parts themselves.
  What the reference's rises answers.
  Strings told apart; which bytes have which parts.
-/
import Derived.Test.YtehpfemlcjcabaaZaG
namespace Go.Proofs.Ytehpfemlcjcabaa.Z

open Go.RowKit

set_option linter.unusedVariables false

set_option linter.unusedSimpArgs false

end Go.Proofs.Ytehpfemlcjcabaa.Z

namespace Go.Proofs.Ytehpfemlcjcabaa.Z

open Go.RowKit

set_option linter.unusedVariables false

set_option linter.unusedSimpArgs false

/-- Why Cut answers no parts (0: it does); the parts' lengths and bytes. -/
def cutE (zs m : Nat → Int) (n len : Nat) : Int :=
  if szB zs n = false then 1 else if len < hdL zs n then 4 else if zn zs n = 0 ∧ hdL zs n < len then 4 else if 0 < zn zs n ∧ ¬ offN zs m n 0 = hdL zs n then 5 else if ordB (fun i => (offN zs m n i : Int)) len (zn zs n) = false then 5 else 0

def cLn (zs m : Nat → Int) (n len r : Nat) : Nat := cE zs (offN zs m n) len (zn zs n) r - cB zs (offN zs m n) r

def cFn (zs m : Nat → Int) (n r q : Nat) : Int := m (cB zs (offN zs m n) r + q)

/-- What Cut asks of bytes that it cuts. -/
structure CutOk (zs m : Nat → Int) (n len : Nat) : Prop where
  sz : szB zs n = true
  hd : hdL zs n ≤ len
  no : zn zs n = 0 → len = hdL zs n
  fi : 0 < zn zs n → offN zs m n 0 = hdL zs n
  le : ∀ i, i < zn zs n → offN zs m n i ≤ len
  mo : ∀ i, i + 1 < zn zs n → offN zs m n i ≤ offN zs m n (i + 1)

theorem cutE_ok {zs m : Nat → Int} {n len : Nat} (h : cutE zs m n len = 0) : CutOk zs m n len := by
  unfold cutE at h
  by_cases h1 : szB zs n = false
  · rw [if_pos h1] at h; omega
  rw [if_neg h1] at h
  by_cases h2 : len < hdL zs n
  · rw [if_pos h2] at h; omega
  rw [if_neg h2] at h
  by_cases h3 : zn zs n = 0 ∧ hdL zs n < len
  · rw [if_pos h3] at h; omega
  rw [if_neg h3] at h
  by_cases h4 : 0 < zn zs n ∧ ¬ offN zs m n 0 = hdL zs n
  · rw [if_pos h4] at h; omega
  rw [if_neg h4] at h
  by_cases h5 : ordB (fun i => (offN zs m n i : Int)) len (zn zs n) = false
  · rw [if_pos h5] at h; omega
  have ho := ordB_out (show ordB (fun i => (offN zs m n i : Int)) len (zn zs n) = true by simpa using h5)
  refine ⟨by simpa using h1, by omega, fun h => ?_, fun h => ?_, fun i hi => ?_, fun i hi => ?_⟩
  · have : ¬ hdL zs n < len := fun h' => h3 ⟨h, h'⟩
    omega
  · by_cases e : offN zs m n 0 = hdL zs n
    · exact e
    · exact absurd ⟨h, e⟩ h4
  · have := (ho i hi).2
    dsimp only at this
    omega
  · have := (ho (i + 1) hi).1
    rw [if_neg (by omega), Nat.add_sub_cancel] at this
    dsimp only at this
    omega
section
variable {zs m : Nat → Int} {n len : Nat} (h : CutOk zs m n len)
include h

/-- The offset number i, the last one being the bytes' end. -/
def osx (zs m : Nat → Int) (n len i : Nat) : Nat := if i < zn zs n then offN zs m n i else len

theorem osx_mono (i : Nat) : osx zs m n len i ≤ osx zs m n len (i + 1) := by
  unfold osx
  by_cases h1 : i + 1 < zn zs n
  · rw [if_pos (by omega), if_pos h1]
    exact h.mo i h1
  · rw [if_neg h1]
    by_cases h2 : i < zn zs n
    · rw [if_pos h2]
      exact h.le i h2
    · rw [if_neg h2]
      exact Nat.le_refl _
omit h in

theorem osx_end (r : Nat) (hr : r < n) (h0 : zs r = 0) : cE zs (offN zs m n) len (zn zs n) r = osx zs m n len (zn zs r + 1) ∧ cB zs (offN zs m n) r = osx zs m n len (zn zs r) := by
  have hz := zn_lt zs hr h0
  unfold cE cB osx endAt
  rw [if_pos h0, if_pos h0, if_pos hz]
  exact ⟨rfl, rfl⟩

theorem cut_bounds (r : Nat) (hr : r < n) : cB zs (offN zs m n) r ≤ cE zs (offN zs m n) len (zn zs n) r ∧ cE zs (offN zs m n) len (zn zs n) r ≤ len := by
  by_cases h0 : zs r = 0
  · obtain ⟨h1, h2⟩ := osx_end r hr h0
    rw [h1, h2]
    refine ⟨osx_mono h _, ?_⟩
    unfold osx
    by_cases h3 : zn zs r + 1 < zn zs n
    · rw [if_pos h3]; exact h.le _ h3
    · rw [if_neg h3]; exact Nat.le_refl _
  · have h1 := hdL_mono zs (i := r + 1) (j := n) (by omega)
    have h2 : hdL zs (r + 1) = hdL zs r + inH (zs r) := rfl
    have h3 : inH (zs r) = (zs r).toNat := by unfold inH; rw [if_neg h0]
    have h4 := h.hd
    unfold cE cB
    rw [if_neg h0, if_neg h0]
    omega

end

/-- Cut, whatever it is handed. -/
theorem cut_any (zs m : Nat → Int) (ao : Option Addr) (len cap : Nat) (sa : Option Addr) (n sc : Nat) (w : World) (hb : Bys w ao len cap m) (hm : ∀ j, 0 ≤ m j ∧ m j < 256) (hlen : len ≤ 140737488351232) (hlc : len ≤ cap) (hcap : cap ≤ 9223372036854775807) (hn : Nms .i64 w sa n zs) (hnb : n ≤ 9223372036854775807) :
    Calls Try.prog 36 #[.slice ao len cap, .slice sa n sc] w fun e w' => ∃ a' N' A', e = .returned (.tuple #[.slice a' N' N', .int .i64 (cutE zs m n len)]) ∧ N' = (if cutE zs m n len = 0 then n else 0) ∧ Parts w' a' N' A' (cLn zs m n len) (cLn zs m n len) (cFn zs m n) ∧ Below w.heap.size w w' := by
  have hm' : ∀ j, j < len → 0 ≤ m j ∧ m j < 256 := fun j _ => hm j
  have none_ : ∀ E : Int, cutE zs m n len = E → E ≠ 0 → (Calls Try.prog 36 #[.slice ao len cap, .slice sa n sc] w fun e w' => e = .returned (.tuple #[.slice none 0 0, .int .i64 E]) ∧ Below w.heap.size w w') → Calls Try.prog 36 #[.slice ao len cap, .slice sa n sc] w fun e w' => ∃ a' N' A', e = .returned (.tuple #[.slice a' N' N', .int .i64 (cutE zs m n len)]) ∧ N' = (if cutE zs m n len = 0 then n else 0) ∧ Parts w' a' N' A' (cLn zs m n len) (cLn zs m n len) (cFn zs m n) ∧ Below w.heap.size w w' := by
    intro E hE h0 hc
    refine hc.mono ?_
    rintro e w' ⟨rfl, hb'⟩
    exact ⟨none, 0, fun _ => none, by rw [hE], by rw [hE, if_neg h0], .inl rfl, hb'⟩
  cases hs : szB zs n
  · refine none_ 1 (by unfold cutE; rw [if_pos hs]) (by decide) (cut_arg zs m ao len cap sa n sc w hn hnb hs)
  have h1 : ¬ szB zs n = false := by rw [hs]; simp
  by_cases h2 : len < hdL zs n
  · exact none_ 4 (by unfold cutE; rw [if_neg h1, if_pos h2]) (by decide) (cut_short zs m ao len cap sa n sc w hlen hn hs h2)
  by_cases h3 : zn zs n = 0 ∧ hdL zs n < len
  · exact none_ 4 (by unfold cutE; rw [if_neg h1, if_neg h2, if_pos h3]) (by decide) (cut_long zs m ao len cap sa n sc w hb hm' hlen hlc hcap hn hs (by omega) h3.1 h3.2)
  by_cases h4 : 0 < zn zs n ∧ ¬ offN zs m n 0 = hdL zs n
  · exact none_ 5 (by unfold cutE; rw [if_neg h1, if_neg h2, if_neg h3, if_pos h4]) (by decide) (cut_first zs m ao len cap sa n sc w hb hm' hlen hlc hcap hn hs (by omega) h4.1 h4.2)
  cases h5 : ordB (fun i => (offN zs m n i : Int)) len (zn zs n)
  · by_cases h6 : 0 < zn zs n
    · refine none_ 5 (by unfold cutE; rw [if_neg h1, if_neg h2, if_neg h3, if_neg h4, if_pos h5]) (by decide) (cut_order zs m ao len cap sa n sc w hb hm' hlen hlc hcap hn hs (by omega) h6 ?_ h5)
      by_cases e : offN zs m n 0 = hdL zs n
      · exact e
      · exact absurd ⟨h6, e⟩ h4
    · have : zn zs n = 0 := by omega
      rw [this] at h5
      cases h5
  · have hE : cutE zs m n len = 0 := by unfold cutE; rw [if_neg h1, if_neg h2, if_neg h3, if_neg h4, if_neg (by rw [h5]; simp)]
    have hok := cutE_ok hE
    refine (cut_ok zs m ao len cap sa n sc w hb hm' hlen hlc hcap hn hs hok.hd hok.no hok.fi hok.le hok.mo).mono ?_
    rintro e w' ⟨g, C, gp, rfl, x1, x2, x3, x4, x5, x6, x7, x8⟩
    obtain ⟨A, hP⟩ := cut_parts x4 x3 (by omega) x6 (fun r hr => cut_bounds hok r hr)
    exact ⟨_, n, A, by rw [hE], by rw [hE, if_pos rfl], hP, x8⟩

end Go.Proofs.Ytehpfemlcjcabaa.Z

namespace Go.Proofs.Ytehpfemlcjcabaa.Z

open Go.RowKit

set_option linter.unusedVariables false

set_option linter.unusedSimpArgs false

theorem bys_congr {w : World} {a : Option Addr} {len cap : Nat} {m m' : Nat → Int} (h : Bys w a len cap m) (he : ∀ j, j < len → m j = m' j) : Bys w a len cap m' := by
  rcases h with h | h | ⟨b, off, h1, h2, h3, h4, h5⟩
  · exact .inl h
  · exact .inr (.inl h)
  · exact .inr (.inr ⟨b, off, h1, h2, h3, h4, fun j hj => by rw [h5 j hj, he j hj]⟩)

theorem cut_laid2 (zs : Nat → Int) (f : Nat → Nat → Int) (L : Nat → Nat) (n : Nat) (ao : Option Addr) (cap : Nat) (sa : Option Addr) (sc : Nat) (w : World) (hb : ∀ r, r < n → ∀ q, q < L r → 0 ≤ f r q ∧ f r q < 256) (hf : Fits zs L n) (ht : hdL zs n + loL zs L n < 4294967296)
    (hy : Bys w ao (hdL zs n + loL zs L n) cap (fun j => (layC zs f L n).getD j 0)) (hlc : hdL zs n + loL zs L n ≤ cap) (hcap : cap ≤ 9223372036854775807) (hn : Nms .i64 w sa n zs) (hsz : szB zs n = true) :
    Calls Try.prog 36 #[.slice ao (hdL zs n + loL zs L n) cap, .slice sa n sc] w fun e w' => ∃ gp A, e = .returned (.tuple #[.slice (some ⟨gp, 0, none⟩) n n, .int .i64 0]) ∧ Parts w' (some ⟨gp, 0, none⟩) n A L L f ∧ Below w.heap.size w w' := by
  have hoff := layC_offs zs f L n hf ht
  refine (cut_ok zs (fun j => (layC zs f L n).getD j 0) ao _ cap sa n sc w hy (fun j _ => layC_byte zs f L n hb j) (by omega) hlc hcap hn hsz (by omega) (fun h => ?_) (fun h => ?_) (fun i hi => ?_) (fun i hi => ?_)).mono ?_
  · have := loL_same zs L (a := 0) (b := n) (by omega) (by rw [h]; rfl)
    have e : loL zs L 0 = 0 := rfl
    omega
  · rw [hoff 0 h]
    obtain ⟨h1, h2, h3⟩ := ixz_spec zs h
    have := loL_same zs L (a := 0) (b := ixz zs n 0) (by omega) (by rw [h3]; rfl)
    have e : loL zs L 0 = 0 := rfl
    omega
  · rw [hoff i hi]
    obtain ⟨h1, h2, h3⟩ := ixz_spec zs hi
    have := loL_mono zs L (i := ixz zs n i) (j := n) (by omega)
    omega
  · rw [hoff i (by omega), hoff (i + 1) hi]
    have h1 := ixz_mono zs hi
    have := loL_mono zs L (i := ixz zs n i) (j := ixz zs n (i + 1)) (by omega)
    omega
  · rintro e w' ⟨g, C, gp, rfl, x1, x2, x3, x4, x5, x6, x7, x8⟩
    have hlen : ∀ r, r < n → cE zs (offN zs (fun j => (layC zs f L n).getD j 0) n) (hdL zs n + loL zs L n) (zn zs n) r - cB zs (offN zs (fun j => (layC zs f L n).getD j 0) n) r = L r ∧ cB zs (offN zs (fun j => (layC zs f L n).getD j 0) n) r ≤ cE zs (offN zs (fun j => (layC zs f L n).getD j 0) n) (hdL zs n + loL zs L n) (zn zs n) r ∧ cE zs (offN zs (fun j => (layC zs f L n).getD j 0) n) (hdL zs n + loL zs L n) (zn zs n) r ≤ hdL zs n + loL zs L n := by
      intro r hr
      unfold cE cB
      by_cases h0 : zs r = 0
      · rw [if_pos h0, if_pos h0, layC_off zs f L n hf ht r hr h0, layC_end zs f L n hf ht r hr h0]
        have h1 := loL_mono zs L (i := r + 1) (j := n) (by omega)
        have h2 : loL zs L (r + 1) = loL zs L r + (if zs r = 0 then L r else 0) := rfl
        rw [if_pos h0] at h2
        omega
      · rw [if_neg h0, if_neg h0]
        have h1 := hdL_mono zs (i := r + 1) (j := n) (by omega)
        have h2 : hdL zs (r + 1) = hdL zs r + inH (zs r) := rfl
        have h3 : inH (zs r) = (zs r).toNat := by unfold inH; rw [if_neg h0]
        have h4 := hf r hr h0
        omega
    obtain ⟨A, hP⟩ := cut_parts x4 x3 (by omega) x6 (fun r hr => (hlen r hr).2)
    refine ⟨gp, A, rfl, ?_, x8⟩
    rcases hP with h | ⟨b, off, h1, h2, h3⟩
    · exact .inl h
    · refine .inr ⟨b, off, h1, h2, fun r hr => ?_⟩
      have := h3 r hr
      dsimp only at this
      rw [(hlen r hr).1] at this
      exact ⟨this.1, bys_congr this.2 fun q hq => layC_part zs f L n hf ht r q hr hq⟩

end Go.Proofs.Ytehpfemlcjcabaa.Z

namespace Go.Proofs.Ytehpfemlcjcabaa.Z

open Go.RowKit

set_option linter.unusedVariables false

set_option linter.unusedSimpArgs false

/-- Do the offsets rise, from the first on, none above n? -/
def risAt (os : Nat → Int) (first n : Int) (i : Nat) : Prop := (if i = 0 then os 0 = first else os (i - 1) ≤ os i) ∧ os i ≤ n

instance (os : Nat → Int) (first n : Int) (i : Nat) : Decidable (risAt os first n i) := by unfold risAt; infer_instance

end Go.Proofs.Ytehpfemlcjcabaa.Z

namespace Go.Proofs.Ytehpfemlcjcabaa.Z

open Go.RowKit

set_option linter.unusedVariables false

set_option linter.unusedSimpArgs false

end Go.Proofs.Ytehpfemlcjcabaa.Z
