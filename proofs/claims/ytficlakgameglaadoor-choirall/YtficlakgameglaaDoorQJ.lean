/-
  A copy of a state.
  What the reference's Proposer answers.
  The statements' own few: a state with some validators; and their awake, by what the program's functions answer.
  What the program's functions of layer 15 have to answer, and the statements' own alone and awake.
-/
import Derived.Test.YtficlakgameglaaDoorQD
import Derived.Test.YtficlakgameglaaDoorPkB
import Derived.Test.YtficlakgameglaaDoorQI
import Derived.Test.YtficlakgameglaaDoorQL
import Derived.Deep.Cut

import Derived.ArgAppend

namespace Go.Proofs.YtficlakgameglaaDoor

open Go.RowKit

set_option linter.unusedVariables false

set_option linter.unusedSimpArgs false

set_option maxRecDepth 20000

/-- What a slice holds that is appended. -/
def Src (w : World) (k : Nat) (a : Option Addr) (n c : Nat) (news : List Value) : Prop :=
  (a = none → n = 0 ∧ c = 0) ∧ news.length = n * k ∧ (∀ u ∈ news, u.oneCell' = true) ∧ (n = 0 ∨ ∃ b off, a = some ⟨b, off, none⟩ ∧ b < w.heap.size ∧ w.rangeAt b off news)

theorem Src.below {w w' : World} {k : Nat} {a : Option Addr} {n c : Nat} {news : List Value} (h : Src w k a n c news) (hb : Below w.heap.size w w') : Src w' k a n c news := by
  refine ⟨h.1, h.2.1, h.2.2.1, ?_⟩
  rcases h.2.2.2 with h0 | ⟨b, off, e, hl, hr⟩
  · exact .inl h0
  · exact .inr ⟨b, off, e, Nat.lt_of_lt_of_le hl hb.size, rangeAt_below hr hl hb⟩

theorem app_src {P : Program} (w : World) {ops : Array Oper} {rest : List Oper} {o : Oper} {a : Act} {Q : Exit → Act → World → Prop} (hgd : o.guard = none) (s x : Operand) (t : TypeId)
    (ho : o.op = .call { callee := .builtin .append, args := #[s, x], argTypes := #[t, t] })
    (base : Nat) (e : TypeId) (i : TypeInfo) (z : Value) (size bytes : Nat) (ht : P.underlying t = some (.slice e)) (hi : P.info? e = some i) (hz : i.zero = some z)
    (hsize : i.size = size) (hby : i.bytes = bytes) (hzs : z.cells.size = size) (hsz : 0 < size)
    (v : Value) (n : Nat) (xs : List Value) (hs : a.eval s = v) (hown : w.ownsRow base e size v n xs)
    (ao : Option Addr) (len cap : Nat) (news : List Value) (hx : a.eval x = .slice ao len cap) (hsrc : Src w size ao len cap news)
    (h63 : n + len ≤ maxLen) (hbytes : (n + len) * bytes ≤ 140737488355328) (hbase : base ≤ w.heap.size)
    (h : ∀ v' w', w'.ownsRow base e size v' (n + len) (xs ++ news) → w.grownBy w' v.ownBlock → wpList P ops Q rest (a.put o.dst v') w') : wpList P ops Q (o :: rest) a w := by
  obtain ⟨h1, h2, h3, h4⟩ := hsrc
  cases ao with
  | none =>
    obtain ⟨rfl, rfl⟩ := h1 rfl
    obtain rfl : news = [] := List.length_eq_zero_iff.1 (by rw [h2, Nat.zero_mul])
    refine wpList_append_own_none hgd s x t ho base e i size ht hi v n xs hs hown hx (h v w ?_ ⟨rfl, rfl, rfl, Nat.le_refl _, fun _ _ _ => rfl⟩)
    rw [Nat.add_zero, List.append_nil]
    exact hown
  | some ad =>
    refine wpList_append_own w hgd s x t ho base e i z size bytes ht hi hz hsize hby hzs hsz v n xs hs hown ad len cap news hx h2 (fun j u hj => ?_) h3 h63 hbytes hbase (fun v' w' g1 g2 _ => h v' w' g1 g2)
    rcases h4 with rfl | ⟨b, off, e', _, hr⟩
    · have := (List.getElem?_eq_some_iff.1 hj).1
      rw [h2, Nat.zero_mul] at this
      omega
    · cases e'
      rw [addr_add]
      exact hr j u hj

theorem owns_form {w : World} {B : Nat} {e : TypeId} {k : Nat} {v : Value} {n : Nat} {xs : List Value} (h : w.ownsRow B e k v n xs) : ∃ a c, v = .slice a n c := by
  rcases h.2 with ⟨rfl, rfl⟩ | ⟨g, cap, cur, rfl, _⟩
  · exact ⟨none, 0, rfl⟩
  · exact ⟨_, cap, rfl⟩

/-- Elements one behind the other. -/
def flat (e : Nat → List Value) : Nat → List Value
  | 0 => []
  | n + 1 => flat e n ++ e n

theorem flat_len {e : Nat → List Value} {k : Nat} (h : ∀ i, (e i).length = k) : ∀ n, (flat e n).length = n * k
  | 0 => by simp [flat]
  | n + 1 => by
    show (flat e n ++ e n).length = _
    rw [List.length_append, flat_len h n, h n, Nat.succ_mul]

theorem flat_at {e : Nat → List Value} {k : Nat} (h : ∀ i, (e i).length = k) (i j : Nat) (hj : j < k) : ∀ n, i < n → (flat e n)[i * k + j]? = (e i)[j]?
  | 0, hi => absurd hi (Nat.not_lt_zero _)
  | n + 1, hi => by
    show (flat e n ++ e n)[i * k + j]? = _
    by_cases hn : i < n
    · rw [List.getElem?_append_left (by rw [flat_len h n]; have : (i + 1) * k ≤ n * k := Nat.mul_le_mul_right k hn; rw [Nat.succ_mul] at this; omega), flat_at h i j hj n hn]
    · obtain rfl : i = n := by omega
      rw [List.getElem?_append_right (by rw [flat_len h]; omega), flat_len h, Nat.add_sub_cancel_left]

theorem flat_one {e : Nat → List Value} (h : ∀ i, ∀ u ∈ e i, u.oneCell' = true) : ∀ n, ∀ u ∈ flat e n, u.oneCell' = true
  | 0, u, hu => by cases hu
  | n + 1, u, hu => by
    rcases List.mem_append.1 (show u ∈ flat e n ++ e n from hu) with h1 | h1
    · exact flat_one h n u h1
    · exact h n u h1

def nl (z : Nat → Int) (n : Nat) : List Value := (List.range n).map fun i => Value.int .u64 (z i)

theorem nl_len (z : Nat → Int) (n : Nat) : (nl z n).length = n := by simp [nl]

theorem nl_at (z : Nat → Int) (n j : Nat) (hj : j < n) : (nl z n)[j]? = some (.int .u64 (z j)) := by simp [nl, List.getElem?_range hj]

theorem nl_get (z : Nat → Int) (n j : Nat) (u : Value) (h : (nl z n)[j]? = some u) : j < n ∧ u = .int .u64 (z j) := by
  have hj : j < n := by have := (List.getElem?_eq_some_iff.1 h).1; rwa [nl_len] at this
  rw [nl_at z n j hj] at h
  exact ⟨hj, (Option.some.inj h).symm⟩

theorem nl_one (z : Nat → Int) (n : Nat) : ∀ u ∈ nl z n, u.oneCell' = true := fun u hu => by
  obtain ⟨i, _, rfl⟩ := List.mem_map.1 hu
  rfl

/-- Lists as sources. -/
theorem src_rts {w : World} {a : Option Addr} {n c : Nat} {f : Nat → Int} (h : Rts w a n c f) : Src w 32 a n c (bl f (32 * n)) := by
  refine ⟨fun ha => ?_, by rw [bl_len, Nat.mul_comm], bl_one _ _, ?_⟩
  · rcases h with ⟨_, h1, h2⟩ | ⟨_, h1, _⟩ | ⟨_, _, h1, _⟩
    · exact ⟨h1, h2⟩
    · rw [ha] at h1
      cases h1
    · rw [ha] at h1
      cases h1
  · rcases h with ⟨_, h1, _⟩ | ⟨_, _, h1⟩ | ⟨b, off, h1, _, h2, h3⟩
    · exact .inl h1
    · exact .inl h1
    · exact .inr ⟨b, off, h1, h2, fun j u hj => by
        obtain ⟨k1, rfl⟩ := bl_get f (32 * n) j u hj
        exact h3 j k1⟩

theorem src_bys {w : World} {a : Option Addr} {n c : Nat} {f : Nat → Int} (h : Bys w a n c f) : Src w 1 a n c (bl f n) := by
  refine ⟨fun ha => ?_, by rw [bl_len, Nat.mul_one], bl_one _ _, ?_⟩
  · rcases h with ⟨_, h1, h2⟩ | ⟨_, h1, _⟩ | ⟨_, _, h1, _⟩
    · exact ⟨h1, h2⟩
    · rw [ha] at h1
      cases h1
    · rw [ha] at h1
      cases h1
  · rcases h with ⟨_, h1, _⟩ | ⟨_, _, h1⟩ | ⟨b, off, h1, _, _, h2, h3⟩
    · exact .inl h1
    · exact .inl h1
    · exact .inr ⟨b, off, h1, h2, fun j u hj => by
        obtain ⟨k1, rfl⟩ := bl_get f n j u hj
        exact h3 j k1⟩

theorem src_nms {w : World} {a : Option Addr} {n c : Nat} {f : Nat → Int} (h : Z.Nms .u64 w a n f) (hn : a = none → n = 0 ∧ c = 0) : Src w 1 a n c (nl f n) := by
  refine ⟨hn, by rw [nl_len, Nat.mul_one], nl_one _ _, ?_⟩
  rcases h with h1 | ⟨b, off, h1, h2, h3⟩
  · exact .inl h1
  · exact .inr ⟨b, off, h1, h2, fun j u hj => by
      obtain ⟨k1, rfl⟩ := nl_get f n j u hj
      exact h3 j k1⟩

theorem src_els {w : World} {a : Option Addr} {n c k : Nat} {e : Nat → List Value} (h : Els w a n k e) (hn : a = none → n = 0 ∧ c = 0) (hk : ∀ i, (e i).length = k) (h1 : ∀ i, ∀ u ∈ e i, u.oneCell' = true) : Src w k a n c (flat e n) := by
  refine ⟨hn, flat_len hk n, flat_one h1 n, ?_⟩
  rcases h with h0 | ⟨b, off, e1, h2, h3⟩
  · exact .inl h0
  · refine .inr ⟨b, off, e1, h2, fun j u hj => ?_⟩
    have hlt : j < n * k := by have := (List.getElem?_eq_some_iff.1 hj).1; rwa [flat_len hk] at this
    have hkp : 0 < k := by
      rcases Nat.eq_zero_or_pos k with h0 | h0
      · rw [h0, Nat.mul_zero] at hlt
        omega
      · exact h0
    have hi : j / k < n := Nat.div_lt_of_lt_mul (by rw [Nat.mul_comm]; exact hlt)
    have hm := Nat.mod_lt j hkp
    have ej : j = j / k * k + j % k := by rw [Nat.mul_comm]; exact (Nat.div_add_mod j k).symm
    rw [ej, flat_at hk _ _ hm n hi] at hj
    have := h3 (j / k) hi (j % k) u hj
    rw [show off + k * (j / k) + j % k = off + j by rw [Nat.add_assoc, Nat.div_add_mod]] at this
    exact this

/-- Rows of one's own, read. -/
theorem own_range {w : World} {B : Nat} {e : TypeId} {k : Nat} {a : Option Addr} {n c : Nat} {xs : List Value} (h : w.ownsRow B e k (.slice a n c) n xs) : n = 0 ∨ ∃ g, a = some ⟨g, 0, none⟩ ∧ B ≤ g ∧ g < w.heap.size ∧ w.rangeAt g 0 xs := by
  rcases h.2 with ⟨_, h0⟩ | ⟨g, cap, cur, hv, hB, hg, _, _, hs, ht⟩
  · exact .inl h0
  · cases hv
    refine .inr ⟨g, rfl, hB, some_lt hg, fun j u hj => ?_⟩
    rw [Nat.zero_add, row_cell hg, ← hj, ← ht]
    have hlt := (List.getElem?_eq_some_iff.1 hj).1
    rw [h.1] at hlt
    rw [List.getElem?_take_of_lt hlt, Array.getElem?_toList]

theorem own_nms {w : World} {B : Nat} {a : Option Addr} {n c : Nat} {z : Nat → Int} (h : w.ownsRow B 22 1 (.slice a n c) n (nl z n)) : Z.Nms .u64 w a n z := by
  rcases own_range h with h0 | ⟨g, e, _, hg, hr⟩
  · exact .inl h0
  · exact .inr ⟨g, 0, e, hg, fun j hj => hr j _ (nl_at z n j hj)⟩

theorem own_els {w : World} {B k : Nat} {t : TypeId} {a : Option Addr} {n c : Nat} {e : Nat → List Value} (h : w.ownsRow B t k (.slice a n c) n (flat e n)) (hk : ∀ i, (e i).length = k) : Els w a n k e := by
  rcases own_range h with h0 | ⟨g, e1, _, hg, hr⟩
  · exact .inl h0
  · refine .inr ⟨g, 0, e1, hg, fun i hi j u hj => ?_⟩
    have hlt : j < k := by have := (List.getElem?_eq_some_iff.1 hj).1; rwa [hk i] at this
    have := hr (i * k + j) u (by rw [flat_at hk i j hlt n hi]; exact hj)
    rw [Nat.mul_comm i k] at this
    rw [Nat.zero_add] at this ⊢
    exact this

structure NilW (x : VState) : Prop where
  n9 : x.f9.a = none → x.f9.n = 0 ∧ x.f9.c = 0
  n11 : x.f11.a = none → x.f11.n = 0 ∧ x.f11.c = 0
  n12 : x.f12.a = none → x.f12.n = 0 ∧ x.f12.c = 0
  n21 : x.f21.a = none → x.f21.n = 0 ∧ x.f21.c = 0

attribute [local go_sem ↓] lvState_eq svState_eq

theorem retState1 {fn : Func} {R : Ending → World → Prop} {a : Act} {w' : World} (t : Tmp) (b : Nat) (c : VState) (ty : TypeId) (h : fn.results = #[.cell t 49]) (hd : a.defers = []) (ht : a.tmps.getD t undef = .pointer (some ⟨b, 0, none⟩)) (hr : w'.heap[b]? = some (.cells (cel (sState c)) ty))
    (hR : R (.returned (.agg (cel (sState c)))) w') : bodyPost Tryd.prog fn R .ret a w' :=
  bodyPost_ret (results_cell h a.tmps _ b _ ht (load_row hr 49 _ Tryd.underlying49 rfl (by rw [cel_size, slState]; kernel_rfl))) hd hR

end Go.Proofs.YtficlakgameglaaDoor

namespace Go.Proofs.YtficlakgameglaaDoor

open Go.RowKit

set_option linter.unusedVariables false

set_option linter.unusedSimpArgs false

set_option maxRecDepth 20000

attribute [local go_sem ↓] lvState_eq svState_eq bdState_eq lvValidator_eq svValidator_eq ixValidator_eq sv24_eq lv24_eq sv8_eq

/-- Who proposes. -/
def prS (x : VState) : Nat → Int := shaV KW HW (sd8 (seedV x (x.f2 / 4) 0) x.f2) 40

def prL (x : VState) : List Int := dwL x.f11.z (acE x (x.f2 / 4)) (prS x) 1

def prE (x : VState) : Int := dwE x.f11.z (acE x (x.f2 / 4)) (prS x) 1

def prV (x : VState) : Int := (prL x).getD 0 0

theorem dw_one (z : Nat → VValidator) (L : List Int) (s : Nat → Int) (want : Nat) : (dwE z L s want = 0 ∧ (dwL z L s want).length = want ∧ ∀ v ∈ dwL z L s want, v ∈ L) ∨ (dwE z L s want = 7 ∧ dwL z L s want = []) := by
  unfold dwE dwL
  by_cases h : dwO z L s want = true
  · rw [if_pos h, if_pos h]
    unfold dwO at h
    rw [Bool.and_eq_true, decide_eq_true_eq, decide_eq_true_eq] at h
    exact .inl ⟨rfl, by rw [List.length_take]; omega, fun v hv => drL_mem z L s h.1 256 v (List.mem_of_mem_take hv)⟩
  · rw [if_neg h, if_neg h]
    exact .inr ⟨rfl, rfl⟩

end Go.Proofs.YtficlakgameglaaDoor

namespace Go.Proofs.YtficlakgameglaaDoor

open Go.RowKit

set_option linter.unusedVariables false

set_option linter.unusedSimpArgs false

set_option maxRecDepth 100000

/-- A validator that is active from the start. -/
def oV2 : VValidator := ⟨fun _ => 0, fun _ => 0, 32000000000, false, 0, 0, 18446744073709551615, 18446744073709551615⟩

/-- The lists of such a state. -/
structure FS where
  a11 : Option Addr
  n11 : Nat
  c11 : Nat
  a12 : Option Addr
  n12 : Nat
  c12 : Nat
  a15 : Option Addr
  n15 : Nat
  c15 : Nat
  a16 : Option Addr
  n16 : Nat
  c16 : Nat
  a21 : Option Addr
  n21 : Nat
  c21 : Nat

def fX (s : FS) : VState := { oState with f11 := ⟨s.a11, s.n11, s.c11, fun _ => oV2⟩, f12 := ⟨s.a12, s.n12, s.c12, fun _ => 32000000000⟩, f15 := ⟨s.a15, s.n15, s.c15, fun _ => 0⟩, f16 := ⟨s.a16, s.n16, s.c16, fun _ => 0⟩, f21 := ⟨s.a21, s.n21, s.c21, fun _ => 0⟩ }

def fs0 : FS := ⟨none, 0, 0, none, 0, 0, none, 0, 0, none, 0, 0, none, 0, 0⟩

theorem okCz : OkState (fX fs0) := by
  have z : (0 : Int) ≤ 0 ∧ (0 : Int) < 256 := by decide
  have zz : (0 : Int) ≤ 0 ∧ (0 : Int) < 18446744073709551616 := by decide
  exact ⟨zz, fun _ _ => z, zz, ⟨fun _ _ => z, fun _ _ => z, zz⟩, ⟨zz, zz, fun _ _ => z, fun _ _ => z, fun _ _ => z⟩, fun _ _ => z, fun _ _ => z, fun _ h => absurd h (Nat.not_lt_zero _), ⟨fun _ _ => z, zz, fun _ _ => z⟩, fun _ h => absurd h (Nat.not_lt_zero _), zz, fun _ h => absurd h (Nat.not_lt_zero _), fun _ h => absurd h (Nat.not_lt_zero _), fun _ _ => z, fun _ _ => zz, fun _ h => absurd h (Nat.not_lt_zero _), fun _ h => absurd h (Nat.not_lt_zero _), ⟨zz, fun _ _ => z⟩, ⟨zz, fun _ _ => z⟩, ⟨zz, fun _ _ => z⟩, fun _ h => absurd h (Nat.not_lt_zero _), ⟨fun _ _ => z, fun _ _ => z⟩, ⟨fun _ _ => z, fun _ _ => z⟩⟩

attribute [local go_sem ↓] lvState_eq svState_eq bdState_eq bvV_eq bsV_eq

end Go.Proofs.YtficlakgameglaaDoor

namespace Go.Proofs.YtficlakgameglaaDoor

open Go.RowKit

set_option linter.unusedVariables false

set_option linter.unusedSimpArgs false

set_option maxRecDepth 100000

/-- What the program's functions have to answer. -/
def PProp : Prop := ∀ (x : VState) (w : World), OkState x → Lk w x → Sh w → Calls Tryd.prog 42 #[.agg (cel (sState x))] w fun e' w' => e' = .returned (.tuple #[.int .u64 (prV x), .int .i64 (prE x)]) ∧ Below w.heap.size w w'

/-- A state with one validator, that is active. -/
def X2 (g1 g2 g3 g4 g5 : Nat) : VState := { oState with f11 := ⟨some ⟨g1, 0, none⟩, 1, 1, fun _ => oV2⟩, f12 := ⟨some ⟨g2, 0, none⟩, 1, 1, fun _ => 0⟩, f15 := ⟨some ⟨g3, 0, none⟩, 1, 1, fun _ => 0⟩, f16 := ⟨some ⟨g4, 0, none⟩, 1, 1, fun _ => 0⟩, f21 := ⟨some ⟨g5, 0, none⟩, 1, 1, fun _ => 0⟩ }

theorem ok_z15 : OkState oState := by
  have h := okCz
  exact ⟨h.o0, h.o1, h.o2, h.o3, h.o4, h.o5, h.o6, h.o7, h.o8, h.o9, h.o10, fun _ hj => absurd hj (Nat.not_lt_zero _), fun _ hj => absurd hj (Nat.not_lt_zero _), h.o13, h.o14, fun _ hj => absurd hj (Nat.not_lt_zero _), fun _ hj => absurd hj (Nat.not_lt_zero _), h.o18, h.o19, h.o20, fun _ hj => absurd hj (Nat.not_lt_zero _), h.o22, h.o23⟩

theorem setRow_other {w : World} {b k : Nat} {C : Array Value} (h : k ≠ b) : (w.setRow b C).heap[k]? = w.heap[k]? := by
  simp only [World.setRow, Array.getElem?_modify]
  rw [if_neg (fun e => h e.symm)]

attribute [local go_sem ↓] lvState_eq svState_eq bdState_eq lvValidator_eq svValidator_eq ixValidator_eq bvV_eq bsV_eq

end Go.Proofs.YtficlakgameglaaDoor
