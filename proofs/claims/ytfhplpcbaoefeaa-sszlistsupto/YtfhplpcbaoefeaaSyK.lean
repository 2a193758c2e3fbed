/-
  What the reference's Cut answers.
-/
import Derived.Test.YtfhplpcbaoefeaaSyI
import Derived.Test.YtfhplpcbaoefeaaSyE
namespace Go.Proofs.Ytfhplpcbaoefeaa
open Go.RowKit
set_option linter.unusedVariables false
set_option linter.unusedSimpArgs false

theorem infoI : (Try.prog.info? 3).map (fun i => (i.zero, i.size, i.bytes)) = some (some (.int .i64 0), 1, 8) := by kernel_rfl
theorem wpList_append_int (w : World) {ops : Array Oper} {rest : List Oper} {o : Oper} {a : Act} {Q : Exit → Act → World → Prop} (hgd : o.guard = none) (s x : Operand)
    (ho : o.op = .call { callee := .builtin .append, args := #[s, x], argTypes := #[35, 35] })
    (base : Nat) (v : Value) (n : Nat) (xs : List Value) (z : Value) (hz : z.oneCell' = true) (hs : a.eval s = v) (hown : w.ownsRow base 3 1 v n xs)
    (hx : a.eval x = .slice (some ⟨w.heap.size, 0, none⟩) 1 1) (hbd : n ≤ 1000000000000) (hbase : base ≤ w.heap.size)
    (h : ∀ v' w', w'.ownsRow base 3 1 v' (n + 1) (xs ++ [z]) → w.grownBy w' v.ownBlock → wpList Try.prog ops Q rest (a.put o.dst v') w') :
    wpList Try.prog ops Q (o :: rest) a (w.alloc (.cells #[z] 3)) := by
  obtain ⟨i, hi, hz0, hz1, hz2⟩ := info_parts infoI
  refine wpList_append_own _ hgd s x 35 ho base 3 i (.int .i64 0) 1 8 Try.underlying35 hi hz0 hz1 hz2 rfl (by decide) v n xs hs (hown.alloc _) ⟨w.heap.size, 0, none⟩ 1 1 [z] hx rfl (cell_one_new _ _ _)
    (fun u hu => by simp at hu; subst hu; exact hz) (by unfold maxLen; omega) (by omega) (by simp; omega) (fun v' w' h1 h2 _ => ?_)
  refine h v' w' h1 ⟨h2.os, h2.tape, h2.output, ?_, fun k hk hne => ?_⟩
  · have := h2.size
    simp at this
    omega
  · exact (h2.block k (by simp; omega) hne).trans (heap_old hk)
theorem owns_ints {w : World} {base : Nat} {v : Value} {n : Nat} {L : List Int} (h : w.ownsRow base 3 1 v n (L.map (Value.int .i64))) : n = L.length ∧ ∃ a C, v = .slice a n C ∧ Nms .i64 w a n (fun j => L.getD j 0) := by
  have hl : n = L.length := by have := h.1; rw [List.length_map] at this; omega
  refine ⟨hl, ?_⟩
  rcases h.2 with ⟨h1, h2⟩ | ⟨g, cap, cur, h1, h2, h3, h4, h5, h6, h7⟩
  · subst h2
    exact ⟨none, 0, h1, .inl rfl⟩
  · subst h1
    refine ⟨_, cap, rfl, .inr ⟨g, 0, rfl, (Array.getElem?_eq_some_iff.1 h3).1, fun j hj => ?_⟩⟩
    have := h.cells (g := g) rfl j (.int .i64 (L.getD j 0)) (by rw [List.getElem?_map, List.getElem?_eq_getElem (by omega), List.getD_eq_getElem?_getD, List.getElem?_eq_getElem (by omega)]; rfl)
    rw [addr_add] at this
    exact this
theorem own_bys {w : World} {B : Nat} {a : Option Addr} {n C : Nat} {m : Nat → Int} (h : w.ownsRow B 5 1 (.slice a n C) n (bl m n)) : Bys w a n C m := by
  rcases h.2 with ⟨h1, h0⟩ | ⟨g, cap, cur, h1, _⟩
  · cases h1
    exact .inl ⟨rfl, rfl, rfl⟩
  · cases h1
    obtain ⟨h2, h3, h4, h5, h6⟩ := own_cells h
    exact .inr (.inr ⟨g, 0, rfl, h4, h5, h3, fun j hj => by rw [Nat.zero_add]; exact h6 j hj⟩)
/-- Parts of the call's own, in a row of its own. -/
def PR (w : World) (B : Nat) (A : Nat → Option Addr) (L C : Nat → Nat) (f : Nat → Nat → Int) (r : Nat) (v : Value) : Prop :=
  w.ownsRow B 22 1 v r ((List.range r).map fun j => Value.slice (A j) (L j) (C j)) ∧ ∀ j, j < r → w.ownsRow B 5 1 (.slice (A j) (L j) (C j)) (L j) (bl (f j) (L j))
theorem PR.below {w w' : World} {B : Nat} {A : Nat → Option Addr} {L C : Nat → Nat} {f : Nat → Nat → Int} {r : Nat} {v : Value} (h : PR w B A L C f r v) (hb : Below w.heap.size w w') : PR w' B A L C f r v :=
  ⟨owns_below h.1 hb, fun j hj => owns_below (h.2 j hj) hb⟩
theorem owns_form {w : World} {B : Nat} {e : TypeId} {v : Value} {n : Nat} {xs : List Value} (h : w.ownsRow B e 1 v n xs) : ∃ a c, v = .slice a n c := by
  rcases h.2 with ⟨h1, h0⟩ | ⟨g, cap, cur, h1, _⟩
  · subst h0
    exact ⟨_, _, h1⟩
  · exact ⟨_, _, h1⟩
theorem owns_other {w w' : World} {B : Nat} {v u : Value} {n m : Nat} {xs ys : List Value} (h : w.ownsRow B 5 1 v n xs) (ho : w.ownsRow B 22 1 u m ys) (hg : w.grownBy w' u.ownBlock) : w'.ownsRow B 5 1 v n xs := by
  refine ownsRow_kept h fun g cur hc => hg.block g (Array.getElem?_eq_some_iff.1 hc).1 fun e => ?_
  rcases ho.2 with ⟨h1, _⟩ | ⟨g', cap, cur', h1, _, h3, _⟩
  · subst h1
    cases e
  · subst h1
    have e' : g = g' := by cases e; rfl
    subst e'
    rw [h3] at hc
    cases hc
theorem PR.step {w w' : World} {B : Nat} {A : Nat → Option Addr} {L C : Nat → Nat} {f : Nat → Nat → Int} {r : Nat} {v v' z : Value} (h : PR w B A L C f r v) (hz : w.ownsRow B 5 1 z (L r) (bl (f r) (L r)))
    (ho : w'.ownsRow B 22 1 v' (r + 1) (((List.range r).map fun j => Value.slice (A j) (L j) (C j)) ++ [z])) (hg : w.grownBy w' v.ownBlock) : ∃ A' C', PR w' B A' L C' f (r + 1) v' := by
  obtain ⟨a, c, rfl⟩ := owns_form hz
  refine ⟨fun j => if j = r then a else A j, fun j => if j = r then c else C j, ?_, fun j hj => ?_⟩
  · have e : ((List.range (r + 1)).map fun j => Value.slice (if j = r then a else A j) (L j) (if j = r then c else C j)) = ((List.range r).map fun j => Value.slice (A j) (L j) (C j)) ++ [.slice a (L r) c] := by
      rw [List.range_succ, List.map_append, List.map_cons, List.map_nil, if_pos rfl, if_pos rfl]
      congr 1
      refine List.map_congr_left fun j hj => ?_
      have := List.mem_range.1 hj
      rw [if_neg (by omega), if_neg (by omega)]
    rw [e]
    exact ho
  · dsimp only
    by_cases e : j = r
    · subst e
      rw [if_pos rfl, if_pos rfl]
      exact owns_other hz h.1 hg
    · rw [if_neg e, if_neg e]
      exact owns_other (h.2 j (by omega)) h.1 hg
theorem at_row {w : World} {B n N : Nat} {v : Value} {L : List Int} {x : Int} (hN : n + 1 = N) (h : w.ownsRow B 3 1 v (n + 1) (L.map (Value.int .i64) ++ [.int .i64 x])) : ∃ b off c, v = .slice (some ⟨b, off, none⟩) N c ∧ b < w.heap.size ∧ ∀ j, j < N → w.cell? ⟨b, off + j, none⟩ = some (.int .i64 ((L ++ [x]).getD j 0)) := by
  subst hN
  have h' : w.ownsRow B 3 1 v (n + 1) ((L ++ [x]).map (Value.int .i64)) := by rw [List.map_append]; exact h
  obtain ⟨_, a, C, hv, hn⟩ := owns_ints h'
  rcases hn with h | ⟨b, off, rfl, h2, h3⟩
  · omega
  · exact ⟨b, off, C, hv, h2, h3⟩
theorem at_loose {zs m : Nat → Int} {k len r : Nat} (hm : ∀ j, j < len → 0 ≤ m j ∧ m j < 256) (hhd : hdL zs k ≤ len) (hr : r < k) (h0 : zs r = 0) :
    (offL zs m k ++ [(len : Int)]).getD (zn zs r) 0 = ((cB zs (offN zs m k) r : Nat) : Int) ∧ (offL zs m k ++ [(len : Int)]).getD (zn zs r + 1) 0 = ((cE zs (offN zs m k) len (zn zs k) r : Nat) : Int) := by
  have hl : (offL zs m k).length = zn zs k := offL_zn zs m k
  have hz := zn_lt zs hr h0
  unfold cB cE endAt
  rw [if_pos h0, if_pos h0, List.getD_eq_getElem?_getD, List.getD_eq_getElem?_getD, List.getElem?_append_left (by omega), (offN_cast zs m len k _ hm hhd hz).1]
  refine ⟨rfl, ?_⟩
  by_cases h1 : zn zs r + 1 < zn zs k
  · rw [if_pos h1, List.getElem?_append_left (by omega), (offN_cast zs m len k _ hm hhd h1).1]
    rfl
  · rw [if_neg h1, List.getElem?_append_right (by omega), show zn zs r + 1 - (offL zs m k).length = 0 by omega]
    rfl
theorem below_new {w w' : World} {x : Obj} (hg : (w.alloc x).grownBy w' (some w.heap.size)) : Below w.heap.size w w' :=
  ⟨hg.os, hg.tape, hg.output, by have := hg.size; simp at this; omega, fun k hk => (hg.block k (by simp; omega) (by simp; omega)).trans (heap_old hk)⟩
theorem wp_append_new (w : World) {o : Oper} {a : Act} {K : Act → World → Prop} {Q : Exit → Act → World → Prop} (s x : Operand)
    (ho : o.op = .call { callee := .builtin .append, args := #[s, x], argTypes := #[22, 22] })
    (base : Nat) (v : Value) (n : Nat) (xs : List Value) (hs : a.eval s = v) (hown : w.ownsRow base 5 1 v n xs)
    (ad : Addr) (len cap : Nat) (m : Nat → Int) (hx : a.eval x = .slice (some ad) len cap) (hb : Bys w (some ad) len cap m) (hbd : n + len ≤ 140737488355328) (hbase : base ≤ w.heap.size)
    (h : ∀ v' w', w'.ownsRow base 5 1 v' (n + len) (xs ++ bl m len) → w.grownBy w' v.ownBlock → K (a.put o.dst v') w') : o.wp Try.prog a w K Q := by
  obtain ⟨i, hi, hz0, hz1, hz2⟩ := info_parts info8
  rcases hb with ⟨e, _⟩ | ⟨x0, e, rfl⟩ | ⟨b, off, e, hlc, hcm, hbl, hc⟩
  · cases e
  · exact wp_append_own w s x 22 ho base 5 i (.int .u8 0) 1 1 Try.underlying22 hi hz0 hz1 hz2 rfl (by decide) v n xs hs hown ad 0 cap (bl m 0) hx (by rw [bl_len])
      (fun j u hj => by
        have := (bl_get m 0 j u hj).1
        omega) (bl_one m 0) (by unfold maxLen; omega) (by omega) hbase (fun v' w' h1 h2 _ => h v' w' h1 h2)
  · cases e
    exact wp_append_own w s x 22 ho base 5 i (.int .u8 0) 1 1 Try.underlying22 hi hz0 hz1 hz2 rfl (by decide) v n xs hs hown ⟨b, off, none⟩ len cap (bl m len) hx (by rw [bl_len]; omega)
      (fun j u hj => by
        obtain ⟨h1, rfl⟩ := bl_get m len j u hj
        rw [addr_add]
        exact hc j h1) (bl_one m len) (by unfold maxLen; omega) (by omega) hbase (fun v' w' h1 h2 _ => h v' w' h1 h2)
theorem wp_append_part (w : World) {o : Oper} {a : Act} {K : Act → World → Prop} {Q : Exit → Act → World → Prop} (s x : Operand)
    (ho : o.op = .call { callee := .builtin .append, args := #[s, x], argTypes := #[24, 24] })
    (base : Nat) (v : Value) (n : Nat) (xs : List Value) (z : Value) (hz : z.oneCell' = true) (hs : a.eval s = v) (hown : w.ownsRow base 22 1 v n xs)
    (hx : a.eval x = .slice (some ⟨w.heap.size, 0, none⟩) 1 1) (hbd : n ≤ 1000000000000) (hbase : base ≤ w.heap.size)
    (h : ∀ v' w', w'.ownsRow base 22 1 v' (n + 1) (xs ++ [z]) → w.grownBy w' v.ownBlock → K (a.put o.dst v') w') : o.wp Try.prog a (w.alloc (.cells #[z] 22)) K Q := by
  obtain ⟨i, hi, hz0, hz1, hz2⟩ := info_parts info22'
  refine wp_append_own _ s x 24 ho base 22 i (.slice none 0 0) 1 24 Try.underlying24 hi hz0 hz1 hz2 rfl (by decide) v n xs hs (hown.alloc _) ⟨w.heap.size, 0, none⟩ 1 1 [z] hx rfl (cell_one_new _ _ _)
    (fun u hu => by simp at hu; subst hu; exact hz) (by unfold maxLen; omega) (by omega) (by simp; omega) (fun v' w' h1 h2 _ => ?_)
  refine h v' w' h1 ⟨h2.os, h2.tape, h2.output, ?_, fun k hk hne => ?_⟩
  · have := h2.size
    simp at this
    omega
  · exact (h2.block k (by simp; omega) hne).trans (heap_old hk)
/-- Parts that lie behind B. -/
def Fr (B : Nat) (A : Nat → Option Addr) (N : Nat) : Prop := ∀ r, r < N → ∀ b o, A r = some ⟨b, o, none⟩ → B ≤ b
theorem fr_owns {w : World} {B n : Nat} {a : Option Addr} {c : Nat} {xs : List Value} (h : w.ownsRow B 5 1 (.slice a n c) n xs) (b o : Nat) (e : a = some ⟨b, o, none⟩) : B ≤ b := by
  subst e
  rcases h.2 with ⟨h1, _⟩ | ⟨g, cap, cur, h1, h2, _⟩
  · cases h1
  · cases h1
    exact h2
/-- The reference's answer. -/
def RAns (zs m : Nat → Int) (n len : Nat) (w : World) (e : Ending) (w' : World) : Prop :=
  ∃ a' N' c' A' C', e = .returned (.tuple #[.slice a' N' c', .int .i64 (cutE zs m n len)]) ∧ N' = (if cutE zs m n len = 0 then n else 0) ∧ Parts w' a' N' A' (cLn zs m n len) C' (cFn zs m n) ∧ Below w.heap.size w w'
/-- The same, and the parts are new. -/
def RAnsF (zs m : Nat → Int) (n len : Nat) (w : World) (e : Ending) (w' : World) : Prop :=
  ∃ a' N' c' A' C', e = .returned (.tuple #[.slice a' N' c', .int .i64 (cutE zs m n len)]) ∧ N' = (if cutE zs m n len = 0 then n else 0) ∧ Parts w' a' N' A' (cLn zs m n len) C' (cFn zs m n) ∧ Below w.heap.size w w' ∧ Fr w.heap.size A' N'
theorem RAnsF.ans {zs m : Nat → Int} {n len : Nat} {w w' : World} {e : Ending} (h : RAnsF zs m n len w e w') : RAns zs m n len w e w' := by
  obtain ⟨a', N', c', A', C', h1, h2, h3, h4, _⟩ := h
  exact ⟨a', N', c', A', C', h1, h2, h3, h4⟩
theorem rans_none {zs m : Nat → Int} {n len : Nat} {w w' : World} {E : Int} (hE : cutE zs m n len = E) (h0 : E ≠ 0) (hb : Below w.heap.size w w') : RAnsF zs m n len w (.returned (.tuple #[.slice none 0 0, .int .i64 E])) w' :=
  ⟨none, 0, 0, fun _ => none, fun _ => 0, by rw [hE], by rw [hE, if_neg h0], .inl rfl, hb, fun r hr => absurd hr (by omega)⟩
theorem ris_ord {os : Nat → Nat} {hd len nz : Nat} (hz : 0 < nz) : risB (fun i => (os i : Int)) hd len nz = true ↔ (os 0 = hd ∧ ordB (fun i => (os i : Int)) len nz = true) := by
  constructor
  · intro h
    have h' := risB_out h
    have h0 := h' 0 hz
    unfold risAt at h0
    rw [if_pos rfl] at h0
    dsimp only at h0
    refine ⟨by omega, ordB_true fun i hi => ?_⟩
    have hi' := h' i hi
    unfold risAt at hi'
    unfold ordAt
    dsimp only at hi' ⊢
    by_cases e : i = 0
    · rw [if_pos e]
      omega
    · rw [if_neg e] at hi' ⊢
      exact hi'
  · rintro ⟨h1, h2⟩
    refine risB_true fun i hi => ?_
    have h' := ordB_out h2 i hi
    unfold ordAt at h'
    unfold risAt
    dsimp only at h' ⊢
    by_cases e : i = 0
    · rw [if_pos e]
      subst e
      omega
    · rw [if_neg e] at h' ⊢
      exact h'

attribute [local go_sem ↓] sl22_eq

end Go.Proofs.Ytfhplpcbaoefeaa
