/-
  A container's bytes, cut again: the parts themselves.
-/
import Derived.Test.YtfhplpcbaoefeaaSyA
namespace Go.Proofs.Ytfhplpcbaoefeaa
open Go.RowKit
set_option linter.unusedVariables false
set_option linter.unusedSimpArgs false

theorem bys_congr {w : World} {a : Option Addr} {len cap : Nat} {m m' : Nat → Int} (h : Bys w a len cap m) (he : ∀ j, j < len → m j = m' j) : Bys w a len cap m' := by
  rcases h with h | h | ⟨b, off, h1, h2, h3, h4, h5⟩
  · exact .inl h
  · exact .inr (.inl h)
  · exact .inr (.inr ⟨b, off, h1, h2, h3, h4, fun j hj => by rw [h5 j hj, he j hj]⟩)
theorem cut_laid2 (zs : Nat → Int) (f : Nat → Nat → Int) (L : Nat → Nat) (n : Nat) (ao : Option Addr) (cap : Nat) (sa : Option Addr) (sc : Nat) (w : World) (hb : ∀ r, r < n → ∀ q, q < L r → 0 ≤ f r q ∧ f r q < 256) (hf : Fits zs L n) (ht : hdL zs n + loL zs L n < 4294967296)
    (hy : Bys w ao (hdL zs n + loL zs L n) cap (fun j => (layC zs f L n).getD j 0)) (hlc : hdL zs n + loL zs L n ≤ cap) (hcap : cap ≤ 9223372036854775807) (hn : Nms .i64 w sa n zs) (hsz : szB zs n = true) :
    Calls Try.prog 12 #[.slice ao (hdL zs n + loL zs L n) cap, .slice sa n sc] w fun e w' => ∃ gp A, e = .returned (.tuple #[.slice (some ⟨gp, 0, none⟩) n n, .int .i64 0]) ∧ Parts w' (some ⟨gp, 0, none⟩) n A L L f ∧ Below w.heap.size w w' := by
  have hoff := layC_offs zs f L n hf ht
  refine (cut_ok zs (fun j => (layC zs f L n).getD j 0) ao _ cap sa n sc w hy (fun j _ => layC_byte zs f L n hb j) (by omega) hlc hcap hn hsz (by omega) (fun h => ?_) (fun h => ?_) (fun i hi => ?_) (fun i hi => ?_)).mono ?_
  · have := loL_same zs L (a := 0) (b := n) (by omega) (by rw [h]; rfl)
    have e : loL zs L 0 = 0 := rfl
    omega
  · rw [hoff 0 h]
    obtain ⟨h1, h2, h3⟩ := ixz_spec zs h
    have := loL_same zs L (a := 0) (b := ixz zs n 0) (by omega) (by rw [h3]; rfl)
    have e : loL zs L 0 = 0 := rfl
    omega
  · rw [hoff i hi]
    obtain ⟨h1, h2, h3⟩ := ixz_spec zs hi
    have := loL_mono zs L (i := ixz zs n i) (j := n) (by omega)
    omega
  · rw [hoff i (by omega), hoff (i + 1) hi]
    have h1 := ixz_mono zs hi
    have := loL_mono zs L (i := ixz zs n i) (j := ixz zs n (i + 1)) (by omega)
    omega
  · rintro e w' ⟨g, C, gp, rfl, x1, x2, x3, x4, x5, x6, x7, x8⟩
    have hlen : ∀ r, r < n → cE zs (offN zs (fun j => (layC zs f L n).getD j 0) n) (hdL zs n + loL zs L n) (zn zs n) r - cB zs (offN zs (fun j => (layC zs f L n).getD j 0) n) r = L r ∧ cB zs (offN zs (fun j => (layC zs f L n).getD j 0) n) r ≤ cE zs (offN zs (fun j => (layC zs f L n).getD j 0) n) (hdL zs n + loL zs L n) (zn zs n) r ∧ cE zs (offN zs (fun j => (layC zs f L n).getD j 0) n) (hdL zs n + loL zs L n) (zn zs n) r ≤ hdL zs n + loL zs L n := by
      intro r hr
      unfold cE cB
      by_cases h0 : zs r = 0
      · rw [if_pos h0, if_pos h0, layC_off zs f L n hf ht r hr h0, layC_end zs f L n hf ht r hr h0]
        have h1 := loL_mono zs L (i := r + 1) (j := n) (by omega)
        have h2 : loL zs L (r + 1) = loL zs L r + (if zs r = 0 then L r else 0) := rfl
        rw [if_pos h0] at h2
        omega
      · rw [if_neg h0, if_neg h0]
        have h1 := hdL_mono zs (i := r + 1) (j := n) (by omega)
        have h2 : hdL zs (r + 1) = hdL zs r + inH (zs r) := rfl
        have h3 : inH (zs r) = (zs r).toNat := by unfold inH; rw [if_neg h0]
        have h4 := hf r hr h0
        omega
    obtain ⟨A, hP⟩ := cut_parts x4 x3 (by omega) x6 (fun r hr => (hlen r hr).2)
    refine ⟨gp, A, rfl, ?_, x8⟩
    rcases hP with h | ⟨b, off, h1, h2, h3⟩
    · exact .inl h
    · refine .inr ⟨b, off, h1, h2, fun r hr => ?_⟩
      have := h3 r hr
      dsimp only at this
      rw [(hlen r hr).1] at this
      exact ⟨this.1, bys_congr this.2 fun q hq => layC_part zs f L n hf ht r q hr hq⟩

end Go.Proofs.Ytfhplpcbaoefeaa
