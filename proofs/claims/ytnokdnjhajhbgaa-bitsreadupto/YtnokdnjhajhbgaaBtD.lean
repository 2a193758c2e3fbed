/-
  Appends and slices of bits; what the reference's Vector, List and Same answer.
-/
import Derived.Test.YtnokdnjhajhbgaaBtC
namespace Go.Proofs.Ytnokdnjhajhbgaa
open Go.RowKit
set_option linter.unusedVariables false
set_option linter.unusedSimpArgs false

def bbl (f : Nat → Bool) (n : Nat) : List Value := (List.range n).map fun i => Value.bool (f i)
theorem bbl_len (f : Nat → Bool) (n : Nat) : (bbl f n).length = n := by simp [bbl]
theorem bbl_one (f : Nat → Bool) (n : Nat) : ∀ u ∈ bbl f n, u.oneCell' = true := by
  intro u hu
  obtain ⟨i, _, rfl⟩ := List.mem_map.1 hu
  rfl
theorem bbl_get (f : Nat → Bool) (n j : Nat) (u : Value) (h : (bbl f n)[j]? = some u) : j < n ∧ u = .bool (f j) := by
  have hj := (List.getElem?_eq_some_iff.1 h).1
  rw [bbl_len] at hj
  refine ⟨hj, ?_⟩
  unfold bbl at h
  rw [List.getElem?_map, List.getElem?_range hj] at h
  simpa using h.symm
theorem bbl_at (f : Nat → Bool) (n j : Nat) (hj : j < n) : (bbl f n)[j]? = some (.bool (f j)) := by
  unfold bbl
  rw [List.getElem?_map, List.getElem?_range hj]
  rfl
theorem bbl_snoc (f : Nat → Bool) (n : Nat) (v : Bool) (hv : v = f n) : bbl f n ++ [.bool v] = bbl f (n + 1) := by
  unfold bbl
  rw [List.range_succ, List.map_append, hv]
  rfl
theorem bbl_congr {f g : Nat → Bool} {n : Nat} (h : ∀ i, i < n → f i = g i) : bbl f n = bbl g n := by
  unfold bbl
  refine List.map_congr_left fun i hi => ?_
  rw [h i (List.mem_range.1 hi)]

/-- append of bits onto a slice of the call's own. -/
theorem wpList_append_bls (w : World) {ops : Array Oper} {rest : List Oper} {o : Oper} {a : Act} {Q : Exit → Act → World → Prop} (hgd : o.guard = none) (s x : Operand)
    (ho : o.op = .call { callee := .builtin .append, args := #[s, x], argTypes := #[22, 22] })
    (base : Nat) (v : Value) (n : Nat) (xs : List Value) (hs : a.eval s = v) (hown : w.ownsRow base 4 1 v n xs)
    (ao : Option Addr) (len cap : Nat) (f : Nat → Bool) (hx : a.eval x = .slice ao len cap) (hb : Bls w ao len cap f) (hbd : n + len ≤ 140737488355328) (hbase : base ≤ w.heap.size)
    (h : ∀ v' w', w'.ownsRow base 4 1 v' (n + len) (xs ++ bbl f len) → w.grownBy w' v.ownBlock → wpList Try.prog ops Q rest (a.put o.dst v') w') :
    wpList Try.prog ops Q (o :: rest) a w := by
  obtain ⟨i, hi, hz0, hz1, hz2⟩ := info_parts infoB
  rcases hb with ⟨rfl, rfl, rfl⟩ | ⟨x0, rfl, rfl⟩ | ⟨b, off, rfl, hlc, hcm, hbl, hc⟩
  · refine wpList_append_own_none hgd s x 22 ho base 4 i 1 Try.underlying22 hi v n xs hs hown hx (h v w ?_ ⟨rfl, rfl, rfl, Nat.le_refl _, fun _ _ _ => rfl⟩)
    simpa [bbl] using hown
  · exact wpList_append_own w hgd s x 22 ho base 4 i (.bool false) 1 1 Try.underlying22 hi hz0 hz1 hz2 rfl (by decide) v n xs hs hown x0 0 cap (bbl f 0) hx (by rw [bbl_len])
      (fun j u hj => by
        have := (bbl_get f 0 j u hj).1
        omega) (bbl_one f 0) (by unfold maxLen; omega) (by omega) hbase (fun v' w' h1 h2 _ => h v' w' h1 h2)
  · exact wpList_append_own w hgd s x 22 ho base 4 i (.bool false) 1 1 Try.underlying22 hi hz0 hz1 hz2 rfl (by decide) v n xs hs hown ⟨b, off, none⟩ len cap (bbl f len) hx (by rw [bbl_len]; omega)
      (fun j u hj => by
        obtain ⟨h1, rfl⟩ := bbl_get f len j u hj
        rw [addr_add]
        exact hc j h1) (bbl_one f len) (by unfold maxLen; omega) (by omega) hbase (fun v' w' h1 h2 _ => h v' w' h1 h2)
/-- append of one bit. -/
theorem wpList_append_bit (w : World) {ops : Array Oper} {rest : List Oper} {o : Oper} {a : Act} {Q : Exit → Act → World → Prop} (hgd : o.guard = none) (s x : Operand)
    (ho : o.op = .call { callee := .builtin .append, args := #[s, x], argTypes := #[22, 22] })
    (base : Nat) (v : Value) (n : Nat) (f : Nat → Bool) (z : Bool) (hs : a.eval s = v) (hown : w.ownsRow base 4 1 v n (bbl f n))
    (hx : a.eval x = .slice (some ⟨w.heap.size, 0, none⟩) 1 1) (hz : z = f n) (hbd : n + 1 ≤ 140737488355328) (hbase : base ≤ w.heap.size)
    (h : ∀ g C w', w'.ownsRow base 4 1 (.slice (some ⟨g, 0, none⟩) (n + 1) C) (n + 1) (bbl f (n + 1)) → w.grownBy w' v.ownBlock → wpList Try.prog ops Q rest (a.put o.dst (.slice (some ⟨g, 0, none⟩) (n + 1) C)) w') :
    wpList Try.prog ops Q (o :: rest) a (w.alloc (.cells #[.bool z] 4)) := by
  obtain ⟨i, hi, hz0, hz1, hz2⟩ := info_parts infoB
  refine wpList_append_own _ hgd s x 22 ho base 4 i (.bool false) 1 1 Try.underlying22 hi hz0 hz1 hz2 rfl (by decide) v n (bbl f n) hs (hown.alloc _) ⟨w.heap.size, 0, none⟩ 1 1 [.bool z] hx rfl (cell_one_new _ _ _)
    (fun u hu => by simp at hu; subst hu; rfl) (by unfold maxLen; omega) (by omega) (by simp; omega) (fun v' w' h1 h2 _ => ?_)
  rw [bbl_snoc f n z hz] at h1
  obtain ⟨g, C, rfl⟩ := owns_pos h1 (by omega)
  refine h g C w' h1 ⟨h2.os, h2.tape, h2.output, ?_, fun k hk hne => ?_⟩
  · have := h2.size
    simp at this
    omega
  · exact (h2.block k (by simp; omega) hne).trans (heap_old hk)
theorem ownsRow_kept {w w' : World} {base : Nat} {e : TypeId} {v : Value} {n : Nat} {xs : List Value} (h : w.ownsRow base e 1 v n xs) (hk : ∀ (g : Nat) (cur : Array Value), w.heap[g]? = some (.cells cur e (0, 0)) → w'.heap[g]? = w.heap[g]?) : w'.ownsRow base e 1 v n xs := by
  refine ⟨h.1, ?_⟩
  rcases h.2 with h1 | ⟨g, cap, cur, h1, h2, h3, h4⟩
  · exact .inl h1
  · exact .inr ⟨g, cap, cur, h1, h2, (hk g cur h3).trans h3, h4⟩
theorem owns_below {w w' : World} {base : Nat} {e : TypeId} {v : Value} {n : Nat} {xs : List Value} (h : w.ownsRow base e 1 v n xs) (hb : Below w.heap.size w w') : w'.ownsRow base e 1 v n xs :=
  ownsRow_kept h fun g cur hg => hb.block g (Array.getElem?_eq_some_iff.1 hg).1
/-- The bits of a slice of the call's own. -/
theorem owns_bls {w : World} {B : Nat} {v : Value} {n : Nat} {f : Nat → Bool} (h : w.ownsRow B 4 1 v n (bbl f n)) : ∃ a C, v = .slice a n C ∧ n ≤ C ∧ C ≤ 9223372036854775807 ∧ Bls w a n C f ∧ ∀ x, a = some x → B ≤ x.block := by
  rcases h.2 with ⟨h1, h0⟩ | ⟨g, cap, cur, h1, h2, h3, h4, h5, h6, h7⟩
  · subst h0
    exact ⟨none, 0, h1, Nat.le_refl _, by omega, .inl ⟨rfl, rfl, rfl⟩, fun x hx => by cases hx⟩
  · unfold maxLen at h5
    refine ⟨_, cap, h1, h4, by omega, .inr (.inr ⟨g, 0, rfl, h4, by omega, (Array.getElem?_eq_some_iff.1 h3).1, fun j hj => ?_⟩), fun x hx => by cases hx; exact h2⟩
    subst h1
    have := h.cells (g := g) rfl j _ (bbl_at f n j hj)
    rw [addr_add] at this
    exact this

/-- A slice of bits, whole. -/
def slB (x : Value) (lo hi : Option Value) : Sem Value := Instr.sliceAt 22 x lo hi none
theorem slB_eq (x : Value) (lo hi : Option Value) : Instr.sliceAt 22 x lo hi none = slB x lo hi := rfl
theorem slB_run (W : World) (ao : Option Addr) (len cap hi : Nat) (h2 : hi ≤ cap) :
    (slB (.slice ao len cap) none (some (.int .i64 hi))).run Try.prog W = .ok (.slice ao hi cap) W := by
  have hi8 : ∃ i, Try.prog.info? 4 = some i ∧ i.size = 1 := by
    obtain ⟨i, hi, _, hz, _⟩ := info_parts infoB
    exact ⟨i, hi, hz⟩
  obtain ⟨i, hi8, hz⟩ := hi8
  have b1 : ∀ (k n : Nat) (c : BoundsCode), k ≤ n → (Instr.sliceBound (.int .i64 (k : Int)) n c).run Try.prog W = .ok k W := by
    intro k n c hk
    have h0 : (k : Int) ≤ (n : Int) := by omega
    simp [Instr.sliceBound, asIntOf, h0]
  have c2 := fun c => b1 hi cap c h2
  have am : ∀ y : Addr, y.add 0 = y := fun y => rfl
  unfold slB Instr.sliceAt
  cases ao <;> simp [run_underlying Try.underlying22, Instr.slice, Instr.sliceBounds, c2, sizeOf, typeInfo, hi8, hz, am]

/-- Are they the same bits? -/
def smB (f : Nat → Bool) (n : Nat) (g : Nat → Bool) (m : Nat) : Bool := decide (n = m) && (List.range n).all fun j => f j == g j
theorem smB_true {f g : Nat → Bool} {n : Nat} (h : ∀ i, i < n → f i = g i) : smB f n g n = true := by
  unfold smB
  simp only [Bool.and_eq_true, decide_eq_true_eq, List.all_eq_true, List.mem_range, beq_iff_eq]
  exact ⟨trivial, h⟩
theorem smB_out {f g : Nat → Bool} {n m : Nat} (h : smB f n g m = true) : n = m ∧ ∀ i, i < n → f i = g i := by
  unfold smB at h
  simpa only [Bool.and_eq_true, decide_eq_true_eq, List.all_eq_true, List.mem_range, beq_iff_eq] using h
theorem smB_len {f g : Nat → Bool} {n m : Nat} (h : ¬ n = m) : smB f n g m = false := by
  cases hb : smB f n g m
  · rfl
  · exact absurd (smB_out hb).1 h
theorem smB_false {f g : Nat → Bool} {n m i : Nat} (hi : i < n) (h : ¬ f i = g i) : smB f n g m = false := by
  cases hb : smB f n g m
  · rfl
  · exact absurd ((smB_out hb).2 i hi) h

set_option maxHeartbeats 400000 in
theorem same_any (f : Nat → Bool) (a : Option Addr) (n c : Nat) (g : Nat → Bool) (b : Option Addr) (m d : Nat) (w : World) (h1 : Bls w a n c f) (h2 : Bls w b m d g) :
    Calls Try.prog 12 #[.slice a n c, .slice b m d] w fun e w' => e = .returned (.bool (smB f n g m)) ∧ Below w.heap.size w w' := by
  by_cases hnm : n = m
  · subst hnm
    have hn := bls_len h1
    have H1 := hid h1
    have H2 := hid h2
    clear h1 h2
    go_enter Try.func12, Try.ntmps12
    go_wp2
    go_loopw [5] (fun v wr => ∃ k : Nat, k ≤ n ∧ v = .int .i64 k ∧ Below w.heap.size w wr ∧ ∀ i, i < k → f i = g i) (fun v _ => n - (intOf v).toNat)
    case atStart => exact ⟨0, by omega, rfl, Below.refl _ _, fun i hi => by omega⟩
    case round =>
      obtain ⟨k, hk, rfl, hb, hs⟩ := hrel
      by_cases hkn : k < n
      · obtain ⟨b1, o1, rfl, hb1, c10⟩ := bls_at H1.out k hkn
        obtain ⟨b2, o2, rfl, hb2, c20⟩ := bls_at H2.out k hkn
        have c1 := (below_cell hb hb1).trans c10
        have c2 := (below_cell hb hb2).trans c20
        obtain ⟨x, ex⟩ : ∃ x, f k = x := ⟨_, rfl⟩
        obtain ⟨y, ey⟩ : ∃ y, g k = y := ⟨_, rfl⟩
        rw [ex] at c1
        rw [ey] at c2
        have k1 : (k : Int) < (n : Int) := by omega
        have k2 : (0 : Int) ≤ (k : Int) := by omega
        have HB := hid hb
        have HS := hid hs
        have EE := hid (And.intro ex ey)
        clear hb hs c10 c20 ex ey
        by_cases hxy : x = y
        · subst hxy
          have EQ : Hid (f k = g k) := EE.out.1.trans EE.out.2.symm
          go_wp2
          go_region
          go_wp2
          go_roundw
          case rel =>
            refine ⟨k + 1, by omega, by go_num, HB.out.drew, fun i hi => ?_⟩
            by_cases e : i = k
            · subst e; exact EQ.out
            · exact HS.out i (by omega)
          case measure => simp [intOf]; omega
        · have e := hid (smB_false (f := f) (g := g) (n := n) (m := n) hkn (by rw [EE.out.1, EE.out.2]; exact hxy))
          have hne : (!(x == y)) = true := by simpa using hxy
          clear hxy
          go_wp2
          go_region
          go_wp2
          go_ret
          exact ⟨e.out ▸ rfl, HB.out.drew⟩
      · have ek : k = n := by omega
        subst ek
        have e := hid (smB_true hs)
        have HB := hid hb
        clear hs hb
        go_wp2
        go_ret
        exact ⟨e.out ▸ rfl, HB.out⟩
  · have e := hid (smB_len (f := f) (g := g) hnm)
    have h3 : ¬ (n : Int) = (m : Int) := by omega
    clear h1 h2
    go_enter Try.func12, Try.ntmps12
    go_wp2
    go_ret
    exact ⟨e.out ▸ rfl, Below.refl _ _⟩

end Go.Proofs.Ytnokdnjhajhbgaa
