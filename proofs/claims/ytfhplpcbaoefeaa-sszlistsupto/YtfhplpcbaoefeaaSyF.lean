/-
  What SszEnds answers.
-/
import Derived.Test.YtfhplpcbaoefeaaSyE
namespace Go.Proofs.Ytfhplpcbaoefeaa
open Go.RowKit
set_option linter.unusedVariables false
set_option linter.unusedSimpArgs false

/-- Cut of bytes that are not the parts' own. -/
theorem cut_pack (zs : Nat → Int) (f : Nat → Nat → Int) (L : Nat → Nat) (n : Nat) (m : Nat → Int) (ao : Option Addr) (len cap : Nat) (sa : Option Addr) (sc : Nat) (w : World) (hb : Bys w ao len cap m) (hm : ∀ j, 0 ≤ m j ∧ m j < 256) (hlen : len ≤ 140737488351232) (hlc : len ≤ cap) (hcap : cap ≤ 9223372036854775807) (hn : Nms .i64 w sa n zs) (hnb : n ≤ 9223372036854775807) (hf : ∀ r, r < n → ∀ q, q < L r → 0 ≤ f r q ∧ f r q < 256) :
    ∃ (E : Int) (L1 : Nat → Nat) (f1 : Nat → Nat → Int), (Calls Try.prog 12 #[.slice ao len cap, .slice sa n sc] w fun e w' => ∃ a' N' A', e = .returned (.tuple #[.slice a' N' N', .int .i64 E]) ∧ N' = (if E = 0 then n else 0) ∧ Parts w' a' N' A' L1 L1 f1 ∧ Below w.heap.size w w') ∧ (E = 0 → (List.range len).map m ≠ layC zs f L n → samB n L1 f1 n L f = false) :=
  ⟨_, _, _, cut_any zs m ao len cap sa n sc w hb hm hlen hlc hcap hn hnb, fun hE hne => cut_other hE hm hf hne⟩
theorem empty_bytes (w : World) {B : Nat} (h : B ≤ w.heap.size) : (w.alloc (.cells #[] 5)).ownsRow B 5 1 (.slice (some ⟨w.heap.size, 0, none⟩) 0 0) 0 [] :=
  World.ownsRow_made w #[] 0 h (Nat.zero_le _) rfl
theorem copy_bl {w1 : World} {v : Value} {n B : Nat} {m : Nat → Int} (h : w1.ownsRow B 5 1 v (0 + n) ([] ++ bl m n)) : w1.ownsRow B 5 1 v n (bl m n) := by
  rw [Nat.zero_add, List.nil_append] at h
  exact h
/-- A byte of an own row, written. -/
theorem bys_set {w : World} {B g n C : Nat} {m : Nat → Int} (h : w.ownsRow B 5 1 (.slice (some ⟨g, 0, none⟩) n C) n (bl m n)) (i : Nat) (v : Int) (hi : i < n) :
    Bys (w.setCell ⟨g, i, none⟩ (.int .u8 v)) (some ⟨g, 0, none⟩) n C (fun j => if j = i then v else m j) ∧ w.frozen? ⟨g, i, none⟩ = false ∧ B ≤ g := by
  obtain ⟨h1, h2, h3, h4, h5⟩ := own_cells h
  rcases h.2 with ⟨h6, _⟩ | ⟨g', cap, cur, h6, h7, h8, h9, h10, h11, h12⟩
  · cases h6
  · cases h6
    refine ⟨.inr (.inr ⟨g, 0, rfl, h3, h4, ?_, fun j hj => ?_⟩), row_frozen h8 i, h7⟩
    · have : (w.setCell ⟨g, i, none⟩ (.int .u8 v)).heap.size = w.heap.size := by simp [World.setCell]
      omega
    · rw [Nat.zero_add]
      have hr := row_set h8 i (.int .u8 v)
      rw [row_cell hr, Array.getElem?_setIfInBounds]
      show _ = some (Value.int .u8 (if j = i then v else m j))
      by_cases e : j = i
      · subst e
        rw [if_pos rfl, if_pos (by omega), if_pos rfl]
      · rw [if_neg (fun h => e h.symm), if_neg e, ← row_cell h8 j]
        exact h5 j hj
theorem map_len {m : Nat → Int} {len : Nat} {l : List Int} (h : len ≠ l.length) : (List.range len).map m ≠ l := by
  intro e
  apply h
  rw [← e]
  simp
theorem map_at {m : Nat → Int} {l : List Int} {i : Nat} (hi : i < l.length) (h : m i ≠ l.getD i 0) : (List.range l.length).map m ≠ l := by
  intro e
  apply h
  rw [← e]
  simp [List.getD_eq_getElem?_getD, List.getElem?_range, hi]

attribute [local go_sem ↓] sl22_eq

end Go.Proofs.Ytfhplpcbaoefeaa
