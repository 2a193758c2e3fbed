/-
  What Cut answers, with where its parts lie; and wipe of them.
-/
import Derived.Test.YtfhplpcbaoefeaaSyD
import Derived.Test.YtfhplpcbaoefeaaSyM
namespace Go.Proofs.Ytfhplpcbaoefeaa
open Go.RowKit
set_option linter.unusedVariables false
set_option linter.unusedSimpArgs false

/-- Where the parts lie that Cut answers. -/
def CRow (zs m : Nat → Int) (n len : Nat) (w w' : World) (a' : Option Addr) : Prop :=
  ∃ g gp, a' = some ⟨gp, 0, none⟩ ∧ w.heap.size ≤ g ∧ w.heap.size ≤ gp ∧ g ≠ gp ∧ Row8 w' g ∧ (∀ j, j < len → w'.cell? ⟨g, j, none⟩ = some (.int .u8 (m j))) ∧ w'.heap[gp]? = some (.cells (vals n (cpart (some ⟨g, 0, none⟩) zs (offN zs m n) len (zn zs n))) 22)
set_option maxHeartbeats 1000000 in
theorem cut_full (zs m : Nat → Int) (ao : Option Addr) (len cap : Nat) (sa : Option Addr) (n sc : Nat) (w : World) (hb : Bys w ao len cap m) (hm : ∀ j, 0 ≤ m j ∧ m j < 256) (hlen : len ≤ 140737488351232) (hlc : len ≤ cap) (hcap : cap ≤ 9223372036854775807) (hn : Nms .i64 w sa n zs) (hnb : n ≤ 9223372036854775807) :
    Calls Try.prog 12 #[.slice ao len cap, .slice sa n sc] w fun e w' => ∃ a' N' A', e = .returned (.tuple #[.slice a' N' N', .int .i64 (cutE zs m n len)]) ∧ N' = (if cutE zs m n len = 0 then n else 0) ∧ Parts w' a' N' A' (cLn zs m n len) (cLn zs m n len) (cFn zs m n) ∧ Below w.heap.size w w' ∧ (cutE zs m n len = 0 → CRow zs m n len w w' a') := by
  have hm' : ∀ j, j < len → 0 ≤ m j ∧ m j < 256 := fun j _ => hm j
  have none_ : ∀ E : Int, cutE zs m n len = E → E ≠ 0 → (Calls Try.prog 12 #[.slice ao len cap, .slice sa n sc] w fun e w' => e = .returned (.tuple #[.slice none 0 0, .int .i64 E]) ∧ Below w.heap.size w w') → Calls Try.prog 12 #[.slice ao len cap, .slice sa n sc] w fun e w' => ∃ a' N' A', e = .returned (.tuple #[.slice a' N' N', .int .i64 (cutE zs m n len)]) ∧ N' = (if cutE zs m n len = 0 then n else 0) ∧ Parts w' a' N' A' (cLn zs m n len) (cLn zs m n len) (cFn zs m n) ∧ Below w.heap.size w w' ∧ (cutE zs m n len = 0 → CRow zs m n len w w' a') := by
    intro E hE h0 hc
    refine hc.mono ?_
    rintro e w' ⟨rfl, hb'⟩
    exact ⟨none, 0, fun _ => none, by rw [hE], by rw [hE, if_neg h0], .inl rfl, hb', fun e => absurd (hE.symm.trans e) h0⟩
  cases hs : szB zs n
  · refine none_ 1 (by unfold cutE; rw [if_pos hs]) (by decide) (cut_arg zs m ao len cap sa n sc w hn hnb hs)
  have h1 : ¬ szB zs n = false := by rw [hs]; simp
  by_cases h2 : len < hdL zs n
  · exact none_ 4 (by unfold cutE; rw [if_neg h1, if_pos h2]) (by decide) (cut_short zs m ao len cap sa n sc w hlen hn hs h2)
  by_cases h3 : zn zs n = 0 ∧ hdL zs n < len
  · exact none_ 4 (by unfold cutE; rw [if_neg h1, if_neg h2, if_pos h3]) (by decide) (cut_long zs m ao len cap sa n sc w hb hm' hlen hlc hcap hn hs (by omega) h3.1 h3.2)
  by_cases h4 : 0 < zn zs n ∧ ¬ offN zs m n 0 = hdL zs n
  · exact none_ 5 (by unfold cutE; rw [if_neg h1, if_neg h2, if_neg h3, if_pos h4]) (by decide) (cut_first zs m ao len cap sa n sc w hb hm' hlen hlc hcap hn hs (by omega) h4.1 h4.2)
  cases h5 : ordB (fun i => (offN zs m n i : Int)) len (zn zs n)
  · by_cases h6 : 0 < zn zs n
    · refine none_ 5 (by unfold cutE; rw [if_neg h1, if_neg h2, if_neg h3, if_neg h4, if_pos h5]) (by decide) (cut_order zs m ao len cap sa n sc w hb hm' hlen hlc hcap hn hs (by omega) h6 ?_ h5)
      by_cases e : offN zs m n 0 = hdL zs n
      · exact e
      · exact absurd ⟨h6, e⟩ h4
    · have : zn zs n = 0 := by omega
      rw [this] at h5
      cases h5
  · have hE : cutE zs m n len = 0 := by unfold cutE; rw [if_neg h1, if_neg h2, if_neg h3, if_neg h4, if_neg (by rw [h5]; simp)]
    have hok := cutE_ok hE
    refine (cut_row zs m ao len cap sa n sc w hb hm' hlen hlc hcap hn hs hok.hd hok.no hok.fi hok.le hok.mo).mono ?_
    rintro e w' ⟨g, C, gp, rfl, x1, x2, x3, x4, x5, x6, x7, x8⟩
    obtain ⟨A, hP⟩ := cut_parts (row8_lt x4) x3 (by omega) x6 (fun r hr => cut_bounds hok r hr)
    exact ⟨_, n, A, by rw [hE], by rw [hE, if_pos rfl], hP, x8, fun _ => ⟨g, gp, rfl, x1, x2, x7, x4, x3, x6⟩⟩

theorem pc_form (g lo hi len : Nat) (h1 : lo ≤ hi) (h2 : hi ≤ len) : ∃ x L, pc (some ⟨g, 0, none⟩) lo hi = .slice (some ⟨g, x, none⟩) L L ∧ x + L ≤ len := by
  unfold pc
  by_cases e : hi = lo
  · rw [if_pos e]
    exact ⟨0, hi - lo, rfl, by omega⟩
  · rw [if_neg e, Option.map_some, addr_add, Nat.zero_add]
    exact ⟨lo, hi - lo, rfl, by omega⟩
/-- wipe of the parts that Cut answered keeps all that lay there ahead of the cut. -/
theorem wipe_cut {zs m : Nat → Int} {n len : Nat} {w w' : World} {a' : Option Addr} (h : CRow zs m n len w w' a') (hok : CutOk zs m n len) (hlen : len ≤ 140737488351232) (W : World) (hW : Below w'.heap.size w' W) :
    Calls Try.prog 11 #[.slice a' n n] W fun e w'' => e = .returned (.tuple #[]) ∧ Below w.heap.size W w'' := by
  obtain ⟨g, gp, rfl, h1, h2, h3, ⟨cur, h4⟩, h5, h6⟩ := h
  have z1 := (Array.getElem?_eq_some_iff.1 h6).1
  have z2 := (Array.getElem?_eq_some_iff.1 h4).1
  have hnb := (szB_out hok.sz).2.1
  refine wipe_any w.heap.size g gp n len _ W ⟨_, m, cur, (hW.block _ z1).trans h6, fun _ _ _ => rfl, (hW.block _ z2).trans h4, fun j hj => ?_, Below.refl _ _⟩ h3 h1 h2 hlen (by omega) fun r hr => ?_
  · rw [← cell_of_row w' g j cur _ (0, 0) h4]
    exact h5 j hj
  · obtain ⟨b1, b2⟩ := cut_bounds hok r hr
    obtain ⟨x, L, hx, hl⟩ := pc_form g _ _ len b1 b2
    refine ⟨x, L, ?_, hl⟩
    rw [← hx]
    unfold cpart cB cE prts
    by_cases e : zs r = 0
    · simp only [if_pos e]
    · simp only [if_neg e]

end Go.Proofs.Ytfhplpcbaoefeaa
