/-
  The fields of a state whose bytes may be refused, read.
  A copy of a state.
  Validators looked at: who is active, sums; lists of numbers that grow.
  What the document's Active, CanSlash, Epoch, Actives, Total, All and Churn answer.
  What the document's All and Churn answer.
  What LookActives answers, by what the program's functions answer.
  The state of the statements' own awake.
  What the document's RootAt, Leak and Seed answer.
  What word.Bytes, word.Read and the document's like of them answer, beside package sha.
  What the program's RootAt, Leak and Seed answer.
-/
import Derived.Test.YtmapeodhcllimaaDoorQB
import Derived.Test.YtmapeodhcllimaaDoorStD
import Derived.Test.YtmapeodhcllimaaDoorStY
import Derived.Test.YtmapeodhcllimaaDoorMaE
import Derived.Test.YtmapeodhcllimaaDoorHaG
import Derived.Test.YtmapeodhcllimaaDoorHaE
import Derived.Test.YtmapeodhcllimaaDoorMaC
import Derived.Test.YtmapeodhcllimaaDoorMaD
import Derived.Laws.AppendOwnNone

import Derived.BigQuiet

import Derived.Deep.QuietTactic

import Derived.Deep.RegionHeld3

import Derived.Deep.Onto

import Derived.Handy

import Derived.ArgAppend

namespace Go.Proofs.YtmapeodhcllimaaDoor

open Go.RowKit

set_option linter.unusedVariables false

set_option linter.unusedSimpArgs false

set_option maxRecDepth 20000

/-- The state of nothing but zeros. -/
def oState : VState := ⟨0, fun _ => 0, 0, oFork, oHeader, fun _ => 0, fun _ => 0, ⟨none, 0, 0, fun _ => 0⟩, oEth1, ⟨none, 0, 0, fun _ => oEth1⟩, 0, ⟨none, 0, 0, fun _ => oValidator⟩, ⟨none, 0, 0, fun _ => 0⟩, fun _ => 0, fun _ => 0, ⟨none, 0, 0, fun _ => 0⟩, ⟨none, 0, 0, fun _ => 0⟩, fun _ => false, oCheckpoint, oCheckpoint, oCheckpoint, ⟨none, 0, 0, fun _ => 0⟩, oCommittee, oCommittee⟩

theorem zeroState (W : World) : (zeroValue 49).run Tryd.prog W = .ok (.agg (cel (sState oState))) W := by kernel_rfl

theorem bdState_0 (W : World) : (bdState #[]).run Tryd.prog W = .ok (.agg (cel (sState oState))) W := by kernel_rfl

theorem some_lt {X : World} {r : Nat} {o : Obj} (h : X.heap[r]? = some o) : r < X.heap.size := (Array.getElem?_eq_some_iff.1 h).1

theorem some_cell {X : World} {y i : Nat} {x : VState} (h : X.heap[y]? = some (.cells (cel (sState x)) 49)) (hi : i < 1957) : ∃ v, X.cell? ⟨y, i, none⟩ = some v := ⟨_, (row_cell h i).trans (Array.getElem?_eq_getElem (by rw [cel_size, slState]; exact hi))⟩

attribute [local go_sem ↓] lvState_eq svState_eq bdState_eq

end Go.Proofs.YtmapeodhcllimaaDoor

namespace Go.Proofs.YtmapeodhcllimaaDoor

open Go.RowKit

set_option linter.unusedVariables false

set_option linter.unusedSimpArgs false

set_option maxRecDepth 20000

/-- What a slice holds that is appended. -/
def Src (w : World) (k : Nat) (a : Option Addr) (n c : Nat) (news : List Value) : Prop :=
  (a = none → n = 0 ∧ c = 0) ∧ news.length = n * k ∧ (∀ u ∈ news, u.oneCell' = true) ∧ (n = 0 ∨ ∃ b off, a = some ⟨b, off, none⟩ ∧ b < w.heap.size ∧ w.rangeAt b off news)

theorem Src.below {w w' : World} {k : Nat} {a : Option Addr} {n c : Nat} {news : List Value} (h : Src w k a n c news) (hb : Below w.heap.size w w') : Src w' k a n c news := by
  refine ⟨h.1, h.2.1, h.2.2.1, ?_⟩
  rcases h.2.2.2 with h0 | ⟨b, off, e, hl, hr⟩
  · exact .inl h0
  · exact .inr ⟨b, off, e, Nat.lt_of_lt_of_le hl hb.size, rangeAt_below hr hl hb⟩

theorem app_src {P : Program} (w : World) {ops : Array Oper} {rest : List Oper} {o : Oper} {a : Act} {Q : Exit → Act → World → Prop} (hgd : o.guard = none) (s x : Operand) (t : TypeId)
    (ho : o.op = .call { callee := .builtin .append, args := #[s, x], argTypes := #[t, t] })
    (base : Nat) (e : TypeId) (i : TypeInfo) (z : Value) (size bytes : Nat) (ht : P.underlying t = some (.slice e)) (hi : P.info? e = some i) (hz : i.zero = some z)
    (hsize : i.size = size) (hby : i.bytes = bytes) (hzs : z.cells.size = size) (hsz : 0 < size)
    (v : Value) (n : Nat) (xs : List Value) (hs : a.eval s = v) (hown : w.ownsRow base e size v n xs)
    (ao : Option Addr) (len cap : Nat) (news : List Value) (hx : a.eval x = .slice ao len cap) (hsrc : Src w size ao len cap news)
    (h63 : n + len ≤ maxLen) (hbytes : (n + len) * bytes ≤ 140737488355328) (hbase : base ≤ w.heap.size)
    (h : ∀ v' w', w'.ownsRow base e size v' (n + len) (xs ++ news) → w.grownBy w' v.ownBlock → wpList P ops Q rest (a.put o.dst v') w') : wpList P ops Q (o :: rest) a w := by
  obtain ⟨h1, h2, h3, h4⟩ := hsrc
  cases ao with
  | none =>
    obtain ⟨rfl, rfl⟩ := h1 rfl
    obtain rfl : news = [] := List.length_eq_zero_iff.1 (by rw [h2, Nat.zero_mul])
    refine wpList_append_own_none hgd s x t ho base e i size ht hi v n xs hs hown hx (h v w ?_ ⟨rfl, rfl, rfl, Nat.le_refl _, fun _ _ _ => rfl⟩)
    rw [Nat.add_zero, List.append_nil]
    exact hown
  | some ad =>
    refine wpList_append_own w hgd s x t ho base e i z size bytes ht hi hz hsize hby hzs hsz v n xs hs hown ad len cap news hx h2 (fun j u hj => ?_) h3 h63 hbytes hbase (fun v' w' g1 g2 _ => h v' w' g1 g2)
    rcases h4 with rfl | ⟨b, off, e', _, hr⟩
    · have := (List.getElem?_eq_some_iff.1 hj).1
      rw [h2, Nat.zero_mul] at this
      omega
    · cases e'
      rw [addr_add]
      exact hr j u hj

theorem owns_form {w : World} {B : Nat} {e : TypeId} {k : Nat} {v : Value} {n : Nat} {xs : List Value} (h : w.ownsRow B e k v n xs) : ∃ a c, v = .slice a n c := by
  rcases h.2 with ⟨rfl, rfl⟩ | ⟨g, cap, cur, rfl, _⟩
  · exact ⟨none, 0, rfl⟩
  · exact ⟨_, cap, rfl⟩

/-- Elements one behind the other. -/
def flat (e : Nat → List Value) : Nat → List Value
  | 0 => []
  | n + 1 => flat e n ++ e n

theorem flat_len {e : Nat → List Value} {k : Nat} (h : ∀ i, (e i).length = k) : ∀ n, (flat e n).length = n * k
  | 0 => by simp [flat]
  | n + 1 => by
    show (flat e n ++ e n).length = _
    rw [List.length_append, flat_len h n, h n, Nat.succ_mul]

theorem flat_at {e : Nat → List Value} {k : Nat} (h : ∀ i, (e i).length = k) (i j : Nat) (hj : j < k) : ∀ n, i < n → (flat e n)[i * k + j]? = (e i)[j]?
  | 0, hi => absurd hi (Nat.not_lt_zero _)
  | n + 1, hi => by
    show (flat e n ++ e n)[i * k + j]? = _
    by_cases hn : i < n
    · rw [List.getElem?_append_left (by rw [flat_len h n]; have : (i + 1) * k ≤ n * k := Nat.mul_le_mul_right k hn; rw [Nat.succ_mul] at this; omega), flat_at h i j hj n hn]
    · obtain rfl : i = n := by omega
      rw [List.getElem?_append_right (by rw [flat_len h]; omega), flat_len h, Nat.add_sub_cancel_left]

theorem flat_one {e : Nat → List Value} (h : ∀ i, ∀ u ∈ e i, u.oneCell' = true) : ∀ n, ∀ u ∈ flat e n, u.oneCell' = true
  | 0, u, hu => by cases hu
  | n + 1, u, hu => by
    rcases List.mem_append.1 (show u ∈ flat e n ++ e n from hu) with h1 | h1
    · exact flat_one h n u h1
    · exact h n u h1

def nl (z : Nat → Int) (n : Nat) : List Value := (List.range n).map fun i => Value.int .u64 (z i)

theorem nl_len (z : Nat → Int) (n : Nat) : (nl z n).length = n := by simp [nl]

theorem nl_at (z : Nat → Int) (n j : Nat) (hj : j < n) : (nl z n)[j]? = some (.int .u64 (z j)) := by simp [nl, List.getElem?_range hj]

theorem nl_get (z : Nat → Int) (n j : Nat) (u : Value) (h : (nl z n)[j]? = some u) : j < n ∧ u = .int .u64 (z j) := by
  have hj : j < n := by have := (List.getElem?_eq_some_iff.1 h).1; rwa [nl_len] at this
  rw [nl_at z n j hj] at h
  exact ⟨hj, (Option.some.inj h).symm⟩

theorem nl_one (z : Nat → Int) (n : Nat) : ∀ u ∈ nl z n, u.oneCell' = true := fun u hu => by
  obtain ⟨i, _, rfl⟩ := List.mem_map.1 hu
  rfl

/-- Lists as sources. -/
theorem src_rts {w : World} {a : Option Addr} {n c : Nat} {f : Nat → Int} (h : Rts w a n c f) : Src w 32 a n c (bl f (32 * n)) := by
  refine ⟨fun ha => ?_, by rw [bl_len, Nat.mul_comm], bl_one _ _, ?_⟩
  · rcases h with ⟨_, h1, h2⟩ | ⟨_, h1, _⟩ | ⟨_, _, h1, _⟩
    · exact ⟨h1, h2⟩
    · rw [ha] at h1
      cases h1
    · rw [ha] at h1
      cases h1
  · rcases h with ⟨_, h1, _⟩ | ⟨_, _, h1⟩ | ⟨b, off, h1, _, h2, h3⟩
    · exact .inl h1
    · exact .inl h1
    · exact .inr ⟨b, off, h1, h2, fun j u hj => by
        obtain ⟨k1, rfl⟩ := bl_get f (32 * n) j u hj
        exact h3 j k1⟩

theorem src_bys {w : World} {a : Option Addr} {n c : Nat} {f : Nat → Int} (h : Bys w a n c f) : Src w 1 a n c (bl f n) := by
  refine ⟨fun ha => ?_, by rw [bl_len, Nat.mul_one], bl_one _ _, ?_⟩
  · rcases h with ⟨_, h1, h2⟩ | ⟨_, h1, _⟩ | ⟨_, _, h1, _⟩
    · exact ⟨h1, h2⟩
    · rw [ha] at h1
      cases h1
    · rw [ha] at h1
      cases h1
  · rcases h with ⟨_, h1, _⟩ | ⟨_, _, h1⟩ | ⟨b, off, h1, _, _, h2, h3⟩
    · exact .inl h1
    · exact .inl h1
    · exact .inr ⟨b, off, h1, h2, fun j u hj => by
        obtain ⟨k1, rfl⟩ := bl_get f n j u hj
        exact h3 j k1⟩

theorem src_nms {w : World} {a : Option Addr} {n c : Nat} {f : Nat → Int} (h : Z.Nms .u64 w a n f) (hn : a = none → n = 0 ∧ c = 0) : Src w 1 a n c (nl f n) := by
  refine ⟨hn, by rw [nl_len, Nat.mul_one], nl_one _ _, ?_⟩
  rcases h with h1 | ⟨b, off, h1, h2, h3⟩
  · exact .inl h1
  · exact .inr ⟨b, off, h1, h2, fun j u hj => by
      obtain ⟨k1, rfl⟩ := nl_get f n j u hj
      exact h3 j k1⟩

theorem src_els {w : World} {a : Option Addr} {n c k : Nat} {e : Nat → List Value} (h : Els w a n k e) (hn : a = none → n = 0 ∧ c = 0) (hk : ∀ i, (e i).length = k) (h1 : ∀ i, ∀ u ∈ e i, u.oneCell' = true) : Src w k a n c (flat e n) := by
  refine ⟨hn, flat_len hk n, flat_one h1 n, ?_⟩
  rcases h with h0 | ⟨b, off, e1, h2, h3⟩
  · exact .inl h0
  · refine .inr ⟨b, off, e1, h2, fun j u hj => ?_⟩
    have hlt : j < n * k := by have := (List.getElem?_eq_some_iff.1 hj).1; rwa [flat_len hk] at this
    have hkp : 0 < k := by
      rcases Nat.eq_zero_or_pos k with h0 | h0
      · rw [h0, Nat.mul_zero] at hlt
        omega
      · exact h0
    have hi : j / k < n := Nat.div_lt_of_lt_mul (by rw [Nat.mul_comm]; exact hlt)
    have hm := Nat.mod_lt j hkp
    have ej : j = j / k * k + j % k := by rw [Nat.mul_comm]; exact (Nat.div_add_mod j k).symm
    rw [ej, flat_at hk _ _ hm n hi] at hj
    have := h3 (j / k) hi (j % k) u hj
    rw [show off + k * (j / k) + j % k = off + j by rw [Nat.add_assoc, Nat.div_add_mod]] at this
    exact this

/-- Rows of one's own, read. -/
theorem own_range {w : World} {B : Nat} {e : TypeId} {k : Nat} {a : Option Addr} {n c : Nat} {xs : List Value} (h : w.ownsRow B e k (.slice a n c) n xs) : n = 0 ∨ ∃ g, a = some ⟨g, 0, none⟩ ∧ B ≤ g ∧ g < w.heap.size ∧ w.rangeAt g 0 xs := by
  rcases h.2 with ⟨_, h0⟩ | ⟨g, cap, cur, hv, hB, hg, _, _, hs, ht⟩
  · exact .inl h0
  · cases hv
    refine .inr ⟨g, rfl, hB, some_lt hg, fun j u hj => ?_⟩
    rw [Nat.zero_add, row_cell hg, ← hj, ← ht]
    have hlt := (List.getElem?_eq_some_iff.1 hj).1
    rw [h.1] at hlt
    rw [List.getElem?_take_of_lt hlt, Array.getElem?_toList]

theorem own_nms {w : World} {B : Nat} {a : Option Addr} {n c : Nat} {z : Nat → Int} (h : w.ownsRow B 22 1 (.slice a n c) n (nl z n)) : Z.Nms .u64 w a n z := by
  rcases own_range h with h0 | ⟨g, e, _, hg, hr⟩
  · exact .inl h0
  · exact .inr ⟨g, 0, e, hg, fun j hj => hr j _ (nl_at z n j hj)⟩

theorem own_els {w : World} {B k : Nat} {t : TypeId} {a : Option Addr} {n c : Nat} {e : Nat → List Value} (h : w.ownsRow B t k (.slice a n c) n (flat e n)) (hk : ∀ i, (e i).length = k) : Els w a n k e := by
  rcases own_range h with h0 | ⟨g, e1, _, hg, hr⟩
  · exact .inl h0
  · refine .inr ⟨g, 0, e1, hg, fun i hi j u hj => ?_⟩
    have hlt : j < k := by have := (List.getElem?_eq_some_iff.1 hj).1; rwa [hk i] at this
    have := hr (i * k + j) u (by rw [flat_at hk i j hlt n hi]; exact hj)
    rw [Nat.mul_comm i k] at this
    rw [Nat.zero_add] at this ⊢
    exact this

structure NilW (x : VState) : Prop where
  n9 : x.f9.a = none → x.f9.n = 0 ∧ x.f9.c = 0
  n11 : x.f11.a = none → x.f11.n = 0 ∧ x.f11.c = 0
  n12 : x.f12.a = none → x.f12.n = 0 ∧ x.f12.c = 0
  n21 : x.f21.a = none → x.f21.n = 0 ∧ x.f21.c = 0

attribute [local go_sem ↓] lvState_eq svState_eq

theorem retState1 {fn : Func} {R : Ending → World → Prop} {a : Act} {w' : World} (t : Tmp) (b : Nat) (c : VState) (ty : TypeId) (h : fn.results = #[.cell t 49]) (hd : a.defers = []) (ht : a.tmps.getD t undef = .pointer (some ⟨b, 0, none⟩)) (hr : w'.heap[b]? = some (.cells (cel (sState c)) ty))
    (hR : R (.returned (.agg (cel (sState c)))) w') : bodyPost Tryd.prog fn R .ret a w' :=
  bodyPost_ret (results_cell h a.tmps _ b _ ht (load_row hr 49 _ Tryd.underlying49 rfl (by rw [cel_size, slState]; kernel_rfl))) hd hR

end Go.Proofs.YtmapeodhcllimaaDoor

namespace Go.Proofs.YtmapeodhcllimaaDoor

open Go.RowKit

set_option linter.unusedVariables false

set_option linter.unusedSimpArgs false

set_option maxRecDepth 20000

/-- Is a validator active? May it be slashed? -/
def actB (v : VValidator) (e : Int) : Bool := decide (v.f5 ≤ e) && decide (e < v.f6)

/-- The actives below k. -/
def acL (z : Nat → VValidator) (e : Int) : Nat → List Int
  | 0 => []
  | k + 1 => if actB (z k) e = true then acL z e k ++ [(k : Int)] else acL z e k

theorem acL_len (z : Nat → VValidator) (e : Int) (k : Nat) : (acL z e k).length ≤ k := by
  induction k with
  | zero => exact Nat.le_refl _
  | succ k ih =>
    unfold acL
    split
    · simp; omega
    · omega

/-- Numbers, as values. -/
def iv6 (l : List Int) : List Value := l.map (Value.int .u64)

theorem info64 : (Tryd.prog.info? 22).map (fun i => (i.zero, i.size, i.bytes)) = some (some (.int .u64 0), 1, 8) := by kernel_rfl

/-- append of one number onto a slice of the call's own. -/
theorem wpList_append_one (w : World) {ops : Array Oper} {rest : List Oper} {o : Oper} {a : Act} {Q : Exit → Act → World → Prop} (hgd : o.guard = none) (s x : Operand)
    (ho : o.op = .call { callee := .builtin .append, args := #[s, x], argTypes := #[37, 37] })
    (base : Nat) (v : Value) (l : List Int) (z : Int) (hs : a.eval s = v) (hown : w.ownsRow base 22 1 v l.length (iv6 l))
    (hx : a.eval x = .slice (some ⟨w.heap.size, 0, none⟩) 1 1) (hbd : l.length + 1 ≤ 17592186044416) (hbase : base ≤ w.heap.size)
    (h : ∀ v' w', w'.ownsRow base 22 1 v' (l ++ [z]).length (iv6 (l ++ [z])) → w.grownBy w' v.ownBlock → wpList Tryd.prog ops Q rest (a.put o.dst v') w') :
    wpList Tryd.prog ops Q (o :: rest) a (w.alloc (.cells #[.int .u64 z] 22)) := by
  obtain ⟨i, hi, hz0, hz1, hz2⟩ := info_parts info64
  refine wpList_append_own _ hgd s x 37 ho base 22 i (.int .u64 0) 1 8 Tryd.underlying37 hi hz0 hz1 hz2 rfl (by decide) v l.length (iv6 l) hs (hown.alloc _) ⟨w.heap.size, 0, none⟩ 1 1 [.int .u64 z] hx rfl (cell_one_new _ _ _)
    (fun u hu => by simp at hu; subst hu; rfl) (by unfold maxLen; omega) (by omega) (by simp; omega) (fun v' w' h1 h2 _ => ?_)
  have e : iv6 l ++ [.int .u64 z] = iv6 (l ++ [z]) := by simp [iv6]
  rw [e] at h1
  refine h v' w' (by rw [List.length_append]; exact h1) ⟨h2.os, h2.tape, h2.output, ?_, fun k hk hne => ?_⟩
  · have := h2.size
    simp at this
    omega
  · exact (h2.block k (by simp; omega) hne).trans (heap_old hk)

/-- The numbers of a list, in memory. -/
def Nml (w : World) (a : Option Addr) (l : List Int) : Prop := Z.Nms .u64 w a l.length (fun j => l.getD j 0)

theorem own_nml {w : World} {B : Nat} {v : Value} {l : List Int} (h : w.ownsRow B 22 1 v l.length (iv6 l)) : ∃ a C, v = .slice a l.length C ∧ Nml w a l := by
  rcases h.2 with ⟨h1, h2⟩ | ⟨g, cap, cur, h1, _, _, h2, h3, _⟩
  · subst h1
    exact ⟨none, 0, by rw [h2], .inl h2⟩
  · subst h1
    refine ⟨some ⟨g, 0, none⟩, cap, rfl, .inr ⟨g, 0, rfl, (h.lt g rfl).2, fun j hj => ?_⟩⟩
    have hj' : (iv6 l)[j]? = some (.int .u64 (l.getD j 0)) := by
      unfold iv6
      rw [List.getElem?_map, List.getElem?_eq_getElem hj, List.getD_eq_getElem?_getD, List.getElem?_eq_getElem hj]
      rfl
    have := h.cells (g := g) rfl j _ hj'
    rw [addr_add] at this
    exact this

theorem own_below {w w' : World} {B : Nat} {e : TypeId} {v : Value} {n : Nat} {xs : List Value} (h : w.ownsRow B e 1 v n xs) (hb : Below w.heap.size w w') : w'.ownsRow B e 1 v n xs := by
  refine ⟨h.1, ?_⟩
  rcases h.2 with h | ⟨g, cap, cur, e1, e2, e3, e4⟩
  · exact .inl h
  · exact .inr ⟨g, cap, cur, e1, e2, (hb.block _ (Array.getElem?_eq_some_iff.1 e3).1).trans e3, e4⟩

theorem ret_int {k : IntKind} {a b : Int} (h : a = b) : Ending.returned (.int k a) = .returned (.int k b) := by rw [h]

theorem ret_bool {a b : Bool} (h : a = b) : Ending.returned (.bool a) = .returned (.bool b) := by rw [h]

end Go.Proofs.YtmapeodhcllimaaDoor

namespace Go.Proofs.YtmapeodhcllimaaDoor

open Go.RowKit

set_option linter.unusedVariables false

set_option linter.unusedSimpArgs false

set_option maxRecDepth 20000

/-- What is looked at of a state. -/
structure Lk (w : World) (x : VState) : Prop where
  el : Els w x.f11.a x.f11.n 86 (fun i => celL (sValidator (x.f11.z i)))
  nb : x.f11.n ≤ 65536
  ef : ∀ j, j < x.f11.n → 0 ≤ (x.f11.z j).f2 ∧ (x.f11.z j).f2 ≤ 32000000000
  sl : 0 ≤ x.f2 ∧ x.f2 < 1099511627776

theorem Lk.below {w w' : World} {x : VState} (h : Lk w x) (hb : Below w.heap.size w w') : Lk w' x := ⟨h.el.below hb, h.nb, h.ef, h.sl⟩

attribute [local go_sem ↓] lvState_eq svState_eq bdState_eq lvValidator_eq svValidator_eq ixValidator_eq

theorem ixValidator_u (w : World) (b off len cap i : Nat) (h : i < len) : (ixValidator (.slice (some ⟨b, off, none⟩) len cap) (.int .u64 i)).run Tryd.prog w = .ok (.pointer (some ⟨b, off + 86 * i, none⟩)) w := by
  unfold ixValidator Instr.indexAt
  have h1 : (0 : Int) ≤ (i : Int) ∧ (i : Int) < (len : Int) := by omega
  simp only [asIntOf, Sem.run_bind, Sem.run_pure, Result.andThen_ok, run_underlying Tryd.underlying36, if_pos h1, sizeValidator, Addr.add_mid, Int.toNat_natCast]
  rw [Nat.mul_comm]

set_option maxHeartbeats 1000000 in
theorem ractive_any (v : VValidator) (e : Int) (w : World) :
    Calls Tryd.prog 10 #[.agg (cel (sValidator v)), .int .u64 e] w fun e' w' => e' = .returned (.bool (actB v e)) ∧ Below w.heap.size w w' := by
  obtain ⟨W0, hW0⟩ : ∃ W, w.alloc (.cells (cel (sValidator v)) 63) = W := ⟨_, rfl⟩
  have r0 : W0.heap[w.heap.size]? = some (.cells (cel (sValidator v)) 63) := by rw [← hW0]; exact heap_new rfl
  have hB0 : Below w.heap.size w W0 := by rw [← hW0]; exact (Below.refl _ _).alloc (Nat.le_refl _) _
  have l5 := seg_nu r0 5 v.f5 rfl 83 rfl
  have l6 := seg_nu r0 6 v.f6 rfl 84 rfl
  have hE : actB v e = (decide (v.f5 ≤ e) && decide (e < v.f6)) := rfl
  generalize v.f5 = p at *
  generalize v.f6 = q at *
  have HB := hid hB0
  have HW := hid hW0
  have HE := hid hE
  clear hB0 hW0 r0 hE
  by_cases h : p ≤ e
  · have d1 : decide (p ≤ e) = true := by simp [h]
    go_enter Tryd.func10, Tryd.ntmps10
    go_upto_region 1 with fail
    rw [HW.out]
    clear HW
    go_wp2
    go_ret
    exact ⟨ret_bool (by rw [HE.out, d1, Bool.true_and]), HB.out⟩
  · have d1 : decide (p ≤ e) = false := by simp [h]
    go_enter Tryd.func10, Tryd.ntmps10
    go_upto_region 1 with fail
    rw [HW.out]
    clear HW
    go_wp2
    go_ret
    exact ⟨ret_bool (by rw [HE.out, d1, Bool.false_and]), HB.out⟩

theorem own_down {w : World} {B B' : Nat} {e : TypeId} {s n : Nat} {v : Value} {xs : List Value} (h : w.ownsRow B e s v n xs) (hB : B' ≤ B) : w.ownsRow B' e s v n xs := by
  refine ⟨h.1, ?_⟩
  rcases h.2 with h | ⟨g, cap, cur, e1, e2, e3⟩
  · exact .inl h
  · exact .inr ⟨g, cap, cur, e1, Nat.le_trans hB e2, e3⟩

end Go.Proofs.YtmapeodhcllimaaDoor

namespace Go.Proofs.YtmapeodhcllimaaDoor

open Go.RowKit

set_option linter.unusedVariables false

set_option linter.unusedSimpArgs false

set_option maxRecDepth 20000

attribute [local go_sem ↓] lvState_eq svState_eq bdState_eq lvValidator_eq svValidator_eq ixValidator_eq

/-- The actives of a state's epoch; their sum; how many may come. -/
def acS (x : VState) : List Int := acL x.f11.z (x.f2 / 4) x.f11.n

def chuS (x : VState) : Int := if ((acS x).length : Int) / 32 < 2 then 2 else ((acS x).length : Int) / 32

end Go.Proofs.YtmapeodhcllimaaDoor

namespace Go.Proofs.YtmapeodhcllimaaDoor

open Go.RowKit

set_option linter.unusedVariables false

set_option linter.unusedSimpArgs false

set_option maxRecDepth 20000

attribute [local go_sem ↓] lvState_eq svState_eq bdState_eq lvValidator_eq svValidator_eq ixValidator_eq

theorem RtO.lk {x : VState} (h : RtO x) {w : World} (hx : OkState x) (hw : InW w x) : Lk w x := by
  refine ⟨hw.i11, h.c0, fun j hj => ?_, hx.o2.1, h.c7⟩
  have hv := h.cv j hj
  have ho := (hx.o11 j hj).2.2.1
  unfold vldB at hv
  simp only [Bool.and_eq_true, decide_eq_true_eq] at hv
  exact ⟨ho.1, hv.2.1⟩

theorem lvValidator_row {w : World} {b : Nat} {x : VValidator} {t : TypeId} (h : w.heap[b]? = some (.cells (cel (sValidator x)) t)) : (lvValidator ⟨b, 0, none⟩).run Tryd.prog w = .ok (.agg (cel (sValidator x))) w :=
  loadAt_var (load_row h 63 _ Tryd.underlying63 rfl (by rw [cel_size, slValidator]; kernel_rfl))

theorem OkState.r' {x : VState} (h : OkState x) : OkR x := ⟨h.o2, h.o11, h.o12, h.o14, h.o21⟩

theorem InW.r' {w : World} {x : VState} (h : InW w x) : InR w x := ⟨h.i11, h.i12, h.i21⟩

end Go.Proofs.YtmapeodhcllimaaDoor

namespace Go.Proofs.YtmapeodhcllimaaDoor

open Go.RowKit

set_option linter.unusedVariables false

set_option linter.unusedSimpArgs false

set_option maxRecDepth 100000

def bvV (ps : Array (Nat × Value)) : Sem Value := Instr.build 63 ps

theorem bvV_eq (ps : Array (Nat × Value)) : Instr.build 63 ps = bvV ps := rfl

def bsV (n : Nat) (ps : Array (Nat × Value)) : Sem Value := Instr.buildSlice 36 n ps

theorem bsV_eq (n : Nat) (ps : Array (Nat × Value)) : Instr.buildSlice 36 n ps = bsV n ps := rfl

/-- One validator that is active up to the epoch 9. -/
def oV1 : VValidator := ⟨fun _ => 0, fun _ => 0, 32000000000, false, 0, 0, 9, 0⟩

def X0 (g1 g2 g3 g4 g5 : Nat) : VState := { oState with f11 := ⟨some ⟨g1, 0, none⟩, 1, 1, fun _ => oV1⟩, f12 := ⟨some ⟨g2, 0, none⟩, 1, 1, fun _ => 0⟩, f15 := ⟨some ⟨g3, 0, none⟩, 1, 1, fun _ => 0⟩, f16 := ⟨some ⟨g4, 0, none⟩, 1, 1, fun _ => 0⟩, f21 := ⟨some ⟨g5, 0, none⟩, 1, 1, fun _ => 0⟩ }

end Go.Proofs.YtmapeodhcllimaaDoor

namespace Go.Proofs.YtmapeodhcllimaaDoor

open Go.RowKit

set_option linter.unusedVariables false

set_option linter.unusedSimpArgs false

set_option maxRecDepth 20000

def ix31 (x i : Value) : Sem Value := Instr.indexAt 31 x i

theorem ix31_eq (x i : Value) : Instr.indexAt 31 x i = ix31 x i := rfl

/-- Less; the epoch ahead; the leak. -/
def lesV (a b : Int) : Int := if a < b then 0 else a - b

attribute [local go_sem ↓] lvState_eq svState_eq bdState_eq lvValidator_eq svValidator_eq ixValidator_eq sv24_eq lv24_eq bd27_eq sv8_eq ix31_eq

/-- What a seed is the sum of. -/
def sdM (k e : Int) (m : Nat → Int) (j : Nat) : Int := if j < 4 then nmB k j else if j < 12 then nmB e (j - 4) else m (j - 12)

def mixP (e : Int) : Nat := ((e % 8 + 6) % 8).toNat

def mixV (x : VState) (e : Int) (j : Nat) : Int := x.f13 (32 * mixP e + j)

def seedV (x : VState) (e k : Int) : Nat → Int := shaV KW HW (sdM (k % 4294967296) e (mixV x e)) 44

end Go.Proofs.YtmapeodhcllimaaDoor

namespace Go.Proofs.YtmapeodhcllimaaDoor

open Go.RowKit

set_option linter.unusedVariables false

set_option linter.unusedSimpArgs false

/-- The byte at place i, the lowest first. -/
def bt (n : Int) : Nat → Int
  | 0 => n % 256
  | 1 => n / 256 % 256
  | 2 => n / 65536 % 256
  | 3 => n / 16777216 % 256
  | 4 => n / 4294967296 % 256
  | 5 => n / 1099511627776 % 256
  | 6 => n / 281474976710656 % 256
  | _ => n / 72057594037927936 % 256

/-- The number of eight bytes. -/
def num8 (z0 z1 z2 z3 z4 z5 z6 z7 : Int) : Int := z0 + z1 * 256 + z2 * 65536 + z3 * 16777216 + z4 * 4294967296 + z5 * 1099511627776 + z6 * 281474976710656 + z7 * 72057594037927936

end Go.Proofs.YtmapeodhcllimaaDoor

namespace Go.Proofs.YtmapeodhcllimaaDoor

open Go.RowKit

set_option linter.unusedVariables false

set_option linter.unusedSimpArgs false

set_option maxRecDepth 20000

set_option maxHeartbeats 1000000 in
theorem wbytes_any (n : Int) (w : World) (h0 : 0 ≤ n) (h1 : n ≤ 18446744073709551615) :
    Calls Tryd.prog 85 #[.int .u64 n] w fun e w' => e = .returned (.agg (vs .u8 8 (nmB n))) ∧ Below w.heap.size w w' := by
  have e0 : vs .u8 8 (nmB n) = #[.int .u8 (n % 256), .int .u8 (n / 256 % 256), .int .u8 (n / 65536 % 256), .int .u8 (n / 16777216 % 256), .int .u8 (n / 4294967296 % 256), .int .u8 (n / 1099511627776 % 256), .int .u8 (n / 281474976710656 % 256), .int .u8 (n / 72057594037927936)] := by
    have e7 : n / 72057594037927936 = n / 72057594037927936 % 256 := by omega
    have e1 : n % 256 = n / 1 % 256 := by omega
    rw [e7, e1]
    rfl
  rw [e0]
  clear e0
  go_enter Tryd.func85, Tryd.ntmps85
  go_wp2
  go_rounds 9
  go_returns
  exact ⟨rfl, by go_grown⟩

/-- One number behind another, 0 where it is below. -/
theorem lessR_any (a b : Int) (w : World) (ha : 0 ≤ a) (ha' : a < 18446744073709551616) (hb : 0 ≤ b) (hb' : b < 18446744073709551616) :
    Calls Tryd.prog 47 #[.int .u64 a, .int .u64 b] w fun e w' => e = .returned (.int .u64 (lesV a b)) ∧ w' = w := by
  by_cases h : a < b
  · have e0 : lesV a b = 0 := by unfold lesV; rw [if_pos h]
    rw [e0]
    clear e0
    go_enter Tryd.func47, Tryd.ntmps47
    go_wp2
    go_ret
    exact ⟨rfl, rfl⟩
  · have e0 : lesV a b = a - b := by unfold lesV; rw [if_neg h]
    rw [e0]
    clear e0
    go_enter Tryd.func47, Tryd.ntmps47
    go_wp2
    go_ret
    exact ⟨rfl, rfl⟩

attribute [local go_sem ↓] lvState_eq svState_eq bdState_eq lvValidator_eq svValidator_eq ixValidator_eq sv24_eq lv24_eq bd27_eq sv8_eq ix31_eq

end Go.Proofs.YtmapeodhcllimaaDoor
