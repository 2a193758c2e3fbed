/-
  What ssz.Lay answers.
-/
import Derived.Test.YtfhplpcbaoefeaaSzY
import Derived.ScopeJumps
namespace Go.Proofs.Ytfhplpcbaoefeaa
open Go.RowKit
set_option linter.unusedVariables false
set_option linter.unusedSimpArgs false

/-- Which part is the loose one number j. -/
def ixz (zs : Nat → Int) : Nat → Nat → Nat
  | 0, _ => 0
  | n + 1, j => if zs n = 0 ∧ zn zs n = j then n else ixz zs n j
theorem ixz_at (zs : Nat → Int) {k n : Nat} (hk : k < n) (h0 : zs k = 0) : ixz zs n (zn zs k) = k := by
  induction n with
  | zero => omega
  | succ n ih =>
    unfold ixz
    by_cases e : k = n
    · subst e
      rw [if_pos ⟨h0, rfl⟩]
    · have h := zn_lt zs (k := k) (n := n) (by omega) h0
      rw [if_neg (by omega), ih (by omega)]
theorem zn_succ (zs : Nat → Int) (k : Nat) : (zs k = 0 → zn zs (k + 1) = zn zs k + 1) ∧ (¬ zs k = 0 → zn zs (k + 1) = zn zs k) := by
  refine ⟨fun h => ?_, fun h => ?_⟩
  · show zn zs k + (if zs k = 0 then 1 else 0) = _
    rw [if_pos h]
  · show zn zs k + (if zs k = 0 then 1 else 0) = _
    rw [if_neg h, Nat.add_zero]
theorem loose_sum (zs : Nat → Int) (L : Nat → Nat) (n k : Nat) (hk : k ≤ n) : sumL (fun j => L (ixz zs n j)) (zn zs k) = loL zs L k := by
  induction k with
  | zero => rfl
  | succ k ih =>
    have h1 := ih (by omega)
    show _ = loL zs L k + (if zs k = 0 then L k else 0)
    by_cases h : zs k = 0
    · rw [(zn_succ zs k).1 h, if_pos h, ← h1]
      show sumL _ (zn zs k) + L (ixz zs n (zn zs k)) = _
      rw [ixz_at zs (by omega) h]
    · rw [(zn_succ zs k).2 h, if_neg h, h1]
      rfl
theorem loose_cats (zs : Nat → Int) (f : Nat → Nat → Int) (L : Nat → Nat) (n k : Nat) (hk : k ≤ n) : cats (fun j => f (ixz zs n j)) (fun j => L (ixz zs n j)) (zn zs k) = loB zs f L k := by
  induction k with
  | zero => rfl
  | succ k ih =>
    have h1 := ih (by omega)
    show _ = loB zs f L k ++ (if zs k = 0 then prt f L k else [])
    by_cases h : zs k = 0
    · rw [(zn_succ zs k).1 h, if_pos h, ← h1]
      show cats _ _ (zn zs k) ++ (List.range (L (ixz zs n (zn zs k)))).map (f (ixz zs n (zn zs k))) = _
      rw [ixz_at zs (by omega) h]
      rfl
    · rw [(zn_succ zs k).2 h, if_neg h, h1, List.append_nil]
/-- The loose parts among the first k, as values. -/
def lvs (zs : Nat → Int) (P : Nat → Value) (n k : Nat) : List Value := (List.range (zn zs k)).map fun j => P (ixz zs n j)
theorem lvs_succ (zs : Nat → Int) (P : Nat → Value) (n k : Nat) (hk : k < n) (h : zs k = 0) : lvs zs P n (k + 1) = lvs zs P n k ++ [P k] := by
  unfold lvs
  rw [(zn_succ zs k).1 h, List.range_succ, List.map_append]
  simp [ixz_at zs hk h]
theorem lvs_skip (zs : Nat → Int) (P : Nat → Value) (n k : Nat) (h : ¬ zs k = 0) : lvs zs P n (k + 1) = lvs zs P n k := by
  unfold lvs
  rw [(zn_succ zs k).2 h]
theorem info22' : (Try.prog.info? 22).map (fun i => (i.zero, i.size, i.bytes)) = some (some (.slice none 0 0), 1, 24) := by kernel_rfl
/-- append of one part. -/
theorem wpList_append_part (w : World) {ops : Array Oper} {rest : List Oper} {o : Oper} {a : Act} {Q : Exit → Act → World → Prop} (hgd : o.guard = none) (s x : Operand)
    (ho : o.op = .call { callee := .builtin .append, args := #[s, x], argTypes := #[24, 24] })
    (base : Nat) (v : Value) (n : Nat) (xs : List Value) (z : Value) (hz : z.oneCell' = true) (hs : a.eval s = v) (hown : w.ownsRow base 22 1 v n xs)
    (hx : a.eval x = .slice (some ⟨w.heap.size, 0, none⟩) 1 1) (hbd : n ≤ 1000000000000) (hbase : base ≤ w.heap.size)
    (h : ∀ v' w', w'.ownsRow base 22 1 v' (n + 1) (xs ++ [z]) → w.grownBy w' v.ownBlock → wpList Try.prog ops Q rest (a.put o.dst v') w') :
    wpList Try.prog ops Q (o :: rest) a (w.alloc (.cells #[z] 22)) := by
  obtain ⟨i, hi, hz0, hz1, hz2⟩ := info_parts info22'
  refine wpList_append_own _ hgd s x 24 ho base 22 i (.slice none 0 0) 1 24 Try.underlying24 hi hz0 hz1 hz2 rfl (by decide) v n xs hs (hown.alloc _) ⟨w.heap.size, 0, none⟩ 1 1 [z] hx rfl (cell_one_new _ _ _)
    (fun u hu => by simp at hu; subst hu; exact hz) (by unfold maxLen; omega) (by omega) (by simp; omega) (fun v' w' h1 h2 _ => ?_)
  refine h v' w' h1 ⟨h2.os, h2.tape, h2.output, ?_, fun k hk hne => ?_⟩
  · have := h2.size
    simp at this
    omega
  · exact (h2.block k (by simp; omega) hne).trans (heap_old hk)
/-- Parts that lie in a row of the call's own. -/
theorem owns_parts {w : World} {B : Nat} {v : Value} {n : Nat} {A : Nat → Option Addr} {L C : Nat → Nat} {f : Nat → Nat → Int} (h : w.ownsRow B 22 1 v n ((List.range n).map fun j => Value.slice (A j) (L j) (C j))) (hb : ∀ j, j < n → Bys w (A j) (L j) (C j) (f j)) : ∃ a c, v = .slice a n c ∧ Parts w a n A L C f ∧ ∀ x, a = some x → B ≤ x.block := by
  rcases h.2 with ⟨h1, h0⟩ | ⟨g, cap, cur, h1, h2, h3, h4, h5, h6, h7⟩
  · subst h0
    exact ⟨none, 0, h1, .inl rfl, fun x hx => by cases hx⟩
  · subst h1
    refine ⟨_, cap, rfl, .inr ⟨g, 0, rfl, (Array.getElem?_eq_some_iff.1 h3).1, fun r hr => ⟨?_, hb r hr⟩⟩, fun x hx => by cases hx; exact h2⟩
    have := h.cells (g := g) rfl r (.slice (A r) (L r) (C r)) (by rw [List.getElem?_map, List.getElem?_range hr]; rfl)
    rw [addr_add] at this
    exact this

/-- The frame with which Lay's one end is reached. -/
def RefL (v0 v1 : Value) (err : Int) (a' : Act) : Prop := ∃ u6 u7 u9 u10 u11 u12 u13 u14 u15 u16 u17 u18 u19 u20 u21 u22 u23 u24 u25 u26 u27 u28 u29 u30 u31 u32 u33 u34 u35 u36 u37 u38 u39 u40 u41 u42 u43 u44 u45 u46 u47 u48 u49 u50 u51 u52 u53 u54 u55 u56 u57 u58 u59, a' = { tmps := #[v0, v1, undef, undef, .slice none 0 0, .int .i64 0, u6, u7, .int .i64 err, u9, u10, u11, u12, u13, u14, u15, u16, u17, u18, u19, u20, u21, u22, u23, u24, u25, u26, u27, u28, u29, u30, u31, u32, u33, u34, u35, u36, u37, u38, u39, u40, u41, u42, u43, u44, u45, u46, u47, u48, u49, u50, u51, u52, u53, u54, u55, u56, u57, u58, u59], defers := [] }
theorem ixz_lt (zs : Nat → Int) {n j : Nat} (hj : j < zn zs n) : ixz zs n j < n := by
  induction n with
  | zero => simp [zn] at hj
  | succ n ih =>
    unfold ixz
    by_cases h : zs n = 0 ∧ zn zs n = j
    · rw [if_pos h]; omega
    · rw [if_neg h]
      have : j < zn zs n := by
        by_cases h0 : zs n = 0
        · have h1 := (zn_succ zs n).1 h0
          have h2 : ¬ zn zs n = j := fun e => h ⟨h0, e⟩
          omega
        · have h1 := (zn_succ zs n).2 h0
          omega
      have := ih this
      omega
theorem loose_bys {w : World} {a : Option Addr} {n : Nat} {A : Nat → Option Addr} {L C : Nat → Nat} {f : Nat → Nat → Int} {zs : Nat → Int} (h : Parts w a n A L C f) {j : Nat} (hj : j < zn zs n) : Bys w (A (ixz zs n j)) (L (ixz zs n j)) (C (ixz zs n j)) (f (ixz zs n j)) := by
  obtain ⟨_, _, _, _, _, h5⟩ := parts_at h (ixz zs n j) (ixz_lt zs hj)
  exact h5
theorem owns_base {w : World} {B B' : Nat} {e : TypeId} {v : Value} {n : Nat} {xs : List Value} (h : w.ownsRow B e 1 v n xs) (hB : B' ≤ B) : w.ownsRow B' e 1 v n xs := by
  refine ⟨h.1, ?_⟩
  rcases h.2 with h1 | ⟨g, cap, cur, h1, h2, h3⟩
  · exact .inl h1
  · exact .inr ⟨g, cap, cur, h1, by omega, h3⟩

end Go.Proofs.Ytfhplpcbaoefeaa
