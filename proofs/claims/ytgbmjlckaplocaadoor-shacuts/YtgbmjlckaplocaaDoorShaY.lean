/-
  Copies of a digest, and slices of bytes, for ShaCuts.
-/
import Derived.Test.YtgbmjlckaplocaaDoorShaT
import Derived.Maps.AppendAt
import Derived.Deep.RegionWith
import Derived.Deep.RegionHeld3
namespace Go.Proofs.YtgbmjlckaplocaaDoor
open Go.RowKit
set_option linter.unusedVariables false
set_option linter.unusedSimpArgs false

/-- A slice of bytes, whole. -/
def sl22 (x : Value) (lo hi : Option Value) : Sem Value := Instr.sliceAt 22 x lo hi none
theorem sl22_eq (x : Value) (lo hi : Option Value) : Instr.sliceAt 22 x lo hi none = sl22 x lo hi := rfl
theorem sl22_run (W : World) (ao : Option Addr) (len cap lo hi : Nat) (l h : Option Value) (hl : l = some (.int .i64 lo) ∨ l = none ∧ lo = 0) (hh : h = some (.int .i64 hi) ∨ h = none ∧ hi = len) (h1 : lo ≤ hi) (h2 : hi ≤ len) (h3 : len ≤ cap) :
    (sl22 (.slice ao len cap) l h).run Tryd.prog W = .ok (.slice (if cap = lo then ao else ao.map (·.add lo)) (hi - lo) (cap - lo)) W := by
  have hi8 : ∃ i, Tryd.prog.info? 5 = some i ∧ i.size = 1 := by
    obtain ⟨i, hi, _, hz, _⟩ := info_parts info8
    exact ⟨i, hi, hz⟩
  obtain ⟨i, hi8, hz⟩ := hi8
  have b1 : ∀ (k n : Nat) (c : BoundsCode), k ≤ n → (Instr.sliceBound (.int .i64 (k : Int)) n c).run Tryd.prog W = .ok k W := by
    intro k n c hk
    have h0 : (k : Int) ≤ (n : Int) := by omega
    simp [Instr.sliceBound, asIntOf, h0]
  have c1 := fun c => b1 lo hi c h1
  have c2 := fun c => b1 hi cap c (by omega)
  unfold sl22 Instr.sliceAt
  rcases hl with rfl | ⟨rfl, rfl⟩ <;> rcases hh with rfl | ⟨rfl, rfl⟩ <;>
    simp [run_underlying Tryd.underlying22, Instr.slice, Instr.sliceBounds, c1, c2, sizeOf, typeInfo, hi8, hz]
theorem bys_part {w : World} {ao : Option Addr} {len cap : Nat} {m : Nat → Int} (h : Bys w ao len cap m) (lo hi : Nat) (h1 : lo ≤ hi) (h2 : hi ≤ len) :
    Bys w (if cap = lo then ao else ao.map (·.add lo)) (hi - lo) (cap - lo) (fun j => m (lo + j)) := by
  rcases h with ⟨rfl, rfl, rfl⟩ | ⟨x, rfl, rfl⟩ | ⟨b, off, rfl, h3, h4, h5, h6⟩
  · have e : lo = 0 := by omega
    subst e
    exact .inl ⟨by simp, by omega, rfl⟩
  · by_cases hc : cap = lo
    · rw [if_pos hc]
      exact .inr (.inl ⟨x, rfl, by omega⟩)
    · rw [if_neg hc]
      exact .inr (.inl ⟨x.add lo, rfl, by omega⟩)
  · by_cases hc : cap = lo
    · rw [if_pos hc]
      exact .inr (.inl ⟨_, rfl, by omega⟩)
    · rw [if_neg hc]
      refine .inr (.inr ⟨b, off + lo, by rw [Option.map_some, addr_add], by omega, by omega, h5, fun j hj => ?_⟩)
      rw [Nat.add_assoc]
      exact h6 (lo + j) (by omega)
theorem bys_len {w : World} {ao : Option Addr} {len cap : Nat} {m : Nat → Int} (h : Bys w ao len cap m) : 0 < len → len ≤ cap := by
  intro hp
  rcases h with ⟨_, h, _⟩ | ⟨_, _, h⟩ | ⟨b, off, _, h3, _⟩
  · omega
  · omega
  · exact h3

/-- The copies that were made, and where each stands. -/
structure Cps (w : World) (mm : Nat → Int) (base q len nc : Nat) (v7 v8 : Value) (p E : Nat → Nat) : Prop where
  own7 : w.ownsRow base 30 1 v7 nc ((List.range nc).map fun k => Value.pointer (some ⟨p k, 0, none⟩))
  own8 : w.ownsRow base 3 1 v8 nc ((List.range nc).map fun k => Value.int .i64 (E k))
  dig : ∀ k, k < nc → q < p k ∧ E k ≤ len ∧ ∃ s f, Dig KW HW mm (E k) s f ∧ w.heap[p k]? = some (.cells (dg s f (E k)) 47)
  mono : ∀ j k, j < k → k < nc → p j < p k

theorem ownsRow_kept {w w' : World} {base : Nat} {e : TypeId} {v : Value} {n : Nat} {xs : List Value} (h : w.ownsRow base e 1 v n xs) (hk : ∀ (g : Nat) (cur : Array Value), w.heap[g]? = some (.cells cur e (0, 0)) → w'.heap[g]? = w.heap[g]?) : w'.ownsRow base e 1 v n xs := by
  refine ⟨h.1, ?_⟩
  rcases h.2 with h1 | ⟨g, cap, cur, h1, h2, h3, h4⟩
  · exact .inl h1
  · exact .inr ⟨g, cap, cur, h1, h2, (hk g cur h3).trans h3, h4⟩
/-- What leaves pointers, numbers and all digests but q alone leaves the copies alone. -/
theorem Cps.keep {w w' : World} {mm : Nat → Int} {base q len nc : Nat} {v7 v8 : Value} {p E : Nat → Nat} (h : Cps w mm base q len nc v7 v8 p E) {s f : Nat → Int} {n : Int} (hq : w.heap[q]? = some (.cells (dg s f n) 47)) (hk : Kept q w w') : Cps w' mm base q len nc v7 v8 p E := by
  have hne : ∀ (g : Nat) (cur : Array Value) (t : TypeId), t ≠ 47 → w.heap[g]? = some (.cells cur t (0, 0)) → w'.heap[g]? = w.heap[g]? := by
    intro g cur t ht hg
    refine hk.block g (Array.getElem?_eq_some_iff.1 hg).1 ?_
    rintro rfl
    rw [hq] at hg
    injection hg with hg
    injection hg with _ hg _
    exact ht hg.symm
  refine ⟨ownsRow_kept h.own7 fun g cur hg => hne g cur _ (by decide) hg, ownsRow_kept h.own8 fun g cur hg => hne g cur _ (by decide) hg, fun k hk' => ?_, h.mono⟩
  obtain ⟨h1, h2, s, f, h3, h4⟩ := h.dig k hk'
  exact ⟨h1, h2, s, f, h3, (hk.block _ (Array.getElem?_eq_some_iff.1 h4).1 (by omega)).trans h4⟩
theorem Cps.below {w w' : World} {mm : Nat → Int} {base q len nc : Nat} {v7 v8 : Value} {p E : Nat → Nat} (h : Cps w mm base q len nc v7 v8 p E) (hk : Below w.heap.size w w') : Cps w' mm base q len nc v7 v8 p E := by
  refine ⟨ownsRow_kept h.own7 fun g cur hg => hk.block g (Array.getElem?_eq_some_iff.1 hg).1, ownsRow_kept h.own8 fun g cur hg => hk.block g (Array.getElem?_eq_some_iff.1 hg).1, fun k hk' => ?_, h.mono⟩
  obtain ⟨h1, h2, s, f, h3, h4⟩ := h.dig k hk'
  exact ⟨h1, h2, s, f, h3, (hk.block _ (Array.getElem?_eq_some_iff.1 h4).1).trans h4⟩

theorem info30 : (Tryd.prog.info? 30).map (fun i => (i.zero, i.size, i.bytes)) = some (some (.pointer none), 1, 8) := by kernel_rfl
theorem info3 : (Tryd.prog.info? 3).map (fun i => (i.zero, i.size, i.bytes)) = some (some (.int .i64 0), 1, 8) := by kernel_rfl
theorem snoc_map (f g : Nat → Value) (n : Nat) (v : Value) (hf : ∀ k, k < n → f k = g k) (hv : v = g n) : (List.range n).map f ++ [v] = (List.range (n + 1)).map g := by
  rw [List.range_succ, List.map_append, hv]
  congr 1
  exact List.map_congr_left fun k hk => hf k (List.mem_range.1 hk)

/-- One more copy, and its end: append onto the two slices. -/
theorem wpList_append_ptr (w : World) {ops : Array Oper} {rest : List Oper} {o : Oper} {a : Act} {Q : Exit → Act → World → Prop} (hgd : o.guard = none) (s x : Operand)
    (ho : o.op = .call { callee := .builtin .append, args := #[s, x], argTypes := #[33, 33] })
    (base : Nat) (v : Value) (n : Nat) (xs : List Value) (z : Value) (hz : z.oneCell' = true) (hs : a.eval s = v) (hown : w.ownsRow base 30 1 v n xs)
    (hx : a.eval x = .slice (some ⟨w.heap.size, 0, none⟩) 1 1) (hbd : n ≤ 100) (hbase : base ≤ w.heap.size)
    (h : ∀ v' w', w'.ownsRow base 30 1 v' (n + 1) (xs ++ [z]) → w.grownBy w' v.ownBlock → wpList Tryd.prog ops Q rest (a.put o.dst v') w') :
    wpList Tryd.prog ops Q (o :: rest) a (w.alloc (.cells #[z] 30)) := by
  obtain ⟨i, hi, hz0, hz1, hz2⟩ := info_parts info30
  refine wpList_append_own _ hgd s x 33 ho base 30 i (.pointer none) 1 8 Tryd.underlying33 hi hz0 hz1 hz2 rfl (by decide) v n xs hs (hown.alloc _) ⟨w.heap.size, 0, none⟩ 1 1 [z] hx rfl (cell_one_new _ _ _)
    (fun u hu => by simp at hu; subst hu; exact hz) (by unfold maxLen; omega) (by omega) (by simp; omega) (fun v' w' h1 h2 _ => ?_)
  refine h v' w' h1 ⟨h2.os, h2.tape, h2.output, ?_, fun k hk hne => ?_⟩
  · have := h2.size
    simp at this
    omega
  · exact (h2.block k (by simp; omega) hne).trans (heap_old hk)
theorem wpList_append_num (w : World) {ops : Array Oper} {rest : List Oper} {o : Oper} {a : Act} {Q : Exit → Act → World → Prop} (hgd : o.guard = none) (s x : Operand)
    (ho : o.op = .call { callee := .builtin .append, args := #[s, x], argTypes := #[29, 29] })
    (base : Nat) (v : Value) (n : Nat) (xs : List Value) (z : Value) (hz : z.oneCell' = true) (hs : a.eval s = v) (hown : w.ownsRow base 3 1 v n xs)
    (hx : a.eval x = .slice (some ⟨w.heap.size, 0, none⟩) 1 1) (hbd : n ≤ 100) (hbase : base ≤ w.heap.size)
    (h : ∀ v' w', w'.ownsRow base 3 1 v' (n + 1) (xs ++ [z]) → w.grownBy w' v.ownBlock → wpList Tryd.prog ops Q rest (a.put o.dst v') w') :
    wpList Tryd.prog ops Q (o :: rest) a (w.alloc (.cells #[z] 3)) := by
  obtain ⟨i, hi, hz0, hz1, hz2⟩ := info_parts info3
  refine wpList_append_own _ hgd s x 29 ho base 3 i (.int .i64 0) 1 8 Tryd.underlying29 hi hz0 hz1 hz2 rfl (by decide) v n xs hs (hown.alloc _) ⟨w.heap.size, 0, none⟩ 1 1 [z] hx rfl (cell_one_new _ _ _)
    (fun u hu => by simp at hu; subst hu; exact hz) (by unfold maxLen; omega) (by omega) (by simp; omega) (fun v' w' h1 h2 _ => ?_)
  refine h v' w' h1 ⟨h2.os, h2.tape, h2.output, ?_, fun k hk hne => ?_⟩
  · have := h2.size
    simp at this
    omega
  · exact (h2.block k (by simp; omega) hne).trans (heap_old hk)

theorem own_other {w : World} {base : Nat} {e : TypeId} {v : Value} {n : Nat} {xs : List Value} (h : w.ownsRow base e 1 v n xs) {g : Nat} {cur : Array Value} {t : TypeId} (hg : w.heap[g]? = some (.cells cur t (0, 0))) (ht : t ≠ e) : some g ≠ v.ownBlock := by
  rcases h.2 with ⟨h1, _⟩ | ⟨g', cap, cur', h1, _, h3, _⟩
  · rw [h1]; intro h; cases h
  · rw [h1]
    intro h
    have h : g = g' := by simpa [Value.ownBlock] using h
    subst h
    rw [hg] at h3
    injection h3 with h3
    injection h3 with _ h3 _
    exact ht h3
/-- Behind the two appends the copies are one more. -/
theorem Cps.snoc {w w1 w2 w3 : World} {mm : Nat → Int} {base q len nc : Nat} {v7 v8 v7' v8' : Value} {p E : Nat → Nat} (h : Cps w mm base q len nc v7 v8 p E) {s f : Nat → Int} {at' : Nat} (hd : Dig KW HW mm at' s f) (hat : at' ≤ len) (hq : q < w.heap.size) (hqh : w.heap[q]? = some (.cells (dg s f at') 47)) (hbase : base ≤ q)
    (h1 : w1 = w.alloc (.cells (dg s f at') 47)) (o7 : w2.ownsRow base 30 1 v7' (nc + 1) (((List.range nc).map fun k => Value.pointer (some ⟨p k, 0, none⟩)) ++ [.pointer (some ⟨w.heap.size, 0, none⟩)])) (g7 : w1.grownBy w2 v7.ownBlock)
    (o8 : w3.ownsRow base 3 1 v8' (nc + 1) (((List.range nc).map fun k => Value.int .i64 (E k)) ++ [.int .i64 at'])) (g8 : w2.grownBy w3 v8.ownBlock) :
    ∃ p' E', Cps w3 mm base q len (nc + 1) v7' v8' p' E' ∧ w3.heap[q]? = some (.cells (dg s f at') 47) ∧ Below base w w3 := by
  subst h1
  have hz2 := g7.size
  have hz3 := g8.size
  simp at hz2
  have own7 : (w.alloc (.cells (dg s f at') 47)).ownsRow base 30 1 v7 nc _ := h.own7.alloc _
  have own8 : (w.alloc (.cells (dg s f at') 47)).ownsRow base 3 1 v8 nc _ := h.own8.alloc _
  -- any digest stays
  have stay : ∀ (g : Nat) (cur : Array Value), (w.alloc (.cells (dg s f at') 47)).heap[g]? = some (.cells cur 47) → w3.heap[g]? = some (.cells cur 47) := by
    intro g cur hg
    have hl := (Array.getElem?_eq_some_iff.1 hg).1
    have e2 := (g7.block g hl (own_other own7 hg (by decide))).trans hg
    have own82 : w2.ownsRow base 3 1 v8 nc _ := ownsRow_kept own8 fun g' cur' hg' => g7.block g' (Array.getElem?_eq_some_iff.1 hg').1 (own_other own7 hg' (by decide))
    exact (g8.block g (Array.getElem?_eq_some_iff.1 e2).1 (own_other own82 e2 (by decide))).trans e2
  have own82 : w2.ownsRow base 3 1 v8 nc _ := ownsRow_kept own8 fun g' cur' hg' => g7.block g' (Array.getElem?_eq_some_iff.1 hg').1 (own_other own7 hg' (by decide))
  refine ⟨fun k => if k < nc then p k else w.heap.size, fun k => if k < nc then E k else at', ⟨?_, ?_, fun k hk => ?_, fun j k hjk hk => ?_⟩, stay q _ ((heap_old hq).trans hqh), ?_⟩
  · have e := snoc_map (fun k => Value.pointer (some ⟨p k, 0, none⟩)) (fun k => Value.pointer (some ⟨if k < nc then p k else w.heap.size, 0, none⟩)) nc (.pointer (some ⟨w.heap.size, 0, none⟩)) (fun k hk => by simp only [if_pos hk]) (by simp only [if_neg (Nat.lt_irrefl nc)])
    rw [e] at o7
    exact ownsRow_kept o7 fun g cur hg => g8.block g (Array.getElem?_eq_some_iff.1 hg).1 (own_other own82 hg (by decide))
  · have e := snoc_map (fun k => Value.int .i64 (E k)) (fun k => Value.int .i64 ((if k < nc then E k else at' : Nat) : Int)) nc (.int .i64 at') (fun k hk => by simp only [if_pos hk]) (by simp only [if_neg (Nat.lt_irrefl nc)])
    rw [e] at o8
    exact o8
  · by_cases hk' : k < nc
    · rw [if_pos hk', if_pos hk']
      obtain ⟨a1, a2, s', f', a3, a4⟩ := h.dig k hk'
      exact ⟨a1, a2, s', f', a3, stay _ _ ((heap_old (Array.getElem?_eq_some_iff.1 a4).1).trans a4)⟩
    · rw [if_neg hk', if_neg hk']
      exact ⟨hq, hat, s, f, hd, stay _ _ (heap_new rfl)⟩
  · by_cases hk' : k < nc
    · rw [if_pos hk', if_pos (by omega)]
      exact h.mono j k hjk hk'
    · rw [if_neg hk', if_pos (by omega)]
      obtain ⟨_, _, s', f', _, a4⟩ := h.dig j (by omega)
      exact (Array.getElem?_eq_some_iff.1 a4).1
  · have hb1 : Below base w (w.alloc (.cells (dg s f at') 47)) := (Below.refl _ _).alloc (by omega) _
    have hb2 : Below base w w2 := below_grown hb1 own7 (by simp; omega) g7
    exact below_grown hb2 own82 (by omega) g8

theorem Cps.mid {w w2 : World} {mm : Nat → Int} {base q len nc : Nat} {v7 v8 : Value} {p E : Nat → Nat} (h : Cps w mm base q len nc v7 v8 p E) (c : Array Value) (g7 : (w.alloc (.cells c 47)).grownBy w2 v7.ownBlock) :
    w2.ownsRow base 3 1 v8 nc ((List.range nc).map fun k => Value.int .i64 (E k)) :=
  ownsRow_kept (h.own8.alloc _) fun g' cur' hg' => g7.block g' (Array.getElem?_eq_some_iff.1 hg').1 (own_other (h.own7.alloc _) hg' (by decide))
theorem own_bytes {w : World} {base : Nat} {v : Value} {n : Nat} {m : Nat → Int} (h : w.ownsRow base 5 1 v n (bl m n)) :
    ∃ ga C, v = .slice ga n C ∧ Byz w ga n C m ∧ (∀ b off, ga = some ⟨b, off, none⟩ → base ≤ b) ∧ (0 < n → ∃ g cur, ga = some ⟨g, 0, none⟩ ∧ base ≤ g ∧ w.heap[g]? = some (.cells cur 5) ∧ n ≤ cur.size) := by
  rcases h.2 with ⟨h1, h2⟩ | ⟨g, cap, cur, h1, h2, h3, h4, h5, h6, h7⟩
  · subst h2
    exact ⟨none, 0, h1, .inl rfl, (fun b off h => by cases h), fun h => by omega⟩
  · subst h1
    obtain ⟨a1, a2, a3, a4, a5⟩ := own_cells h
    exact ⟨_, cap, rfl, .inr ⟨g, 0, rfl, a3, a4, a2, fun j hj => by rw [Nat.zero_add]; exact a5 j hj⟩, (fun b off h => by cases h; exact h2), fun _ => ⟨g, cur, rfl, h2, h3, by omega⟩⟩

end Go.Proofs.YtgbmjlckaplocaaDoor
