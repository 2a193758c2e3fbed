/-
  Parts laid by sizes that none of them is open; the value of a ProposerSlashing, what Enc answers.
-/
import Derived.Test.YtokbhcgooboocaaDoorOpAp
import Derived.Test.YtokbhcgooboocaaDoorCoAp
import Derived.Test.YtokbhcgooboocaaDoorCoBp
namespace Go.Proofs.YtokbhcgooboocaaDoor
open Go.RowKit
set_option linter.unusedVariables false
set_option linter.unusedSimpArgs false
set_option maxRecDepth 20000

/-- Parts laid, each with its size. -/
theorem olayF (ps : List Pt) (zs : Nat → Int) (n g sa : Nat) (w : World) (hn : ps.length = n) (h1 : 1 ≤ n) (h2 : n ≤ 64) (hz : ∀ r, r < n → zs r = ((ps.getD r nilP).2.1 : Int) ∧ 1 ≤ (ps.getD r nilP).2.1 ∧ (ps.getD r nilP).2.1 ≤ 65536) (hg : w.heap[g]? = some (.cells (ps.map ptv).toArray 34)) (hs : w.heap[sa]? = some (.cells (vs .i64 n zs) 3)) (hb : ∀ r, r < n → Bys w (ps.getD r nilP).1 (ps.getD r nilP).2.1 (ps.getD r nilP).2.2.1 (ps.getD r nilP).2.2.2) (ht : ln7 (ps.map ptb) < 4294967296) :
    Calls Tryd.prog 25 #[.slice (some ⟨g, 0, none⟩) n n, .slice (some ⟨sa, 0, none⟩) n n] w fun e w' => ∃ v, e = .returned (.tuple #[v, .int .i64 0]) ∧ w'.ownsRow w.heap.size 5 1 v (ln7 (ps.map ptb)) (bl (ct7 (ps.map ptb)) (ln7 (ps.map ptb))) ∧ Below w.heap.size w w' := by
  have hz0 : ∀ r, r < ps.length → zs r ≠ 0 := fun r hr => by have := hz r (by omega); omega
  have eh := lay_hdL ps zs (fun r hr => ⟨(hz r (by omega)).1, (hz r (by omega)).2.1⟩) ps.length (Nat.le_refl _)
  rw [List.take_of_length_le (Nat.le_refl _), hn] at eh
  have el := lay_lo zs (fun r => (ps.getD r nilP).2.2.2) (fun r => (ps.getD r nilP).2.1) n (fun r hr => hz0 r (by omega))
  have ec := lay_head ps zs (Z.hdL zs n) hz0 ps.length (Nat.le_refl _)
  rw [List.take_of_length_le (Nat.le_refl _), hn] at ec
  have h := olay ps zs n g sa w hn (Z.szB_true h1 h2 (fun i hi => ⟨by have := hz i hi; omega, by have := hz i hi; omega⟩)) hg hs hb (fun r hr => (hz r hr).2.2) (fun r hr _ => ((hz r hr).1).symm) (by rw [eh, el.1]; omega)
  have e3 : Z.layC zs (fun r => (ps.getD r nilP).2.2.2) (fun r => (ps.getD r nilP).2.1) n = cl7 (ps.map ptb) := by
    unfold Z.layC
    rw [el.2, List.append_nil]
    exact ec
  rw [el.1, Nat.add_zero, eh, e3, ← bl_ct7] at h
  exact h

attribute [local go_sem ↓] bsP_eq lvSignedHeader_eq

end Go.Proofs.YtokbhcgooboocaaDoor
