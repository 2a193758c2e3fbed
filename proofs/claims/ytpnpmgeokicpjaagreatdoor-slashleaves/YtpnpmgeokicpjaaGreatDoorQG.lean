/-
  The fields of a state whose bytes may be refused, read.
  A state without lists, read.
  A copy of a state.
  What LookActives answers, by what the program's functions answer.
  Numbers handed in, copied by append.
  The state of the statements' own awake.
  Arguments, opened: numbers; how many values they hold.
  Arguments, opened: bits; how many values they hold.
-/
import Derived.Test.YtpnpmgeokicpjaaGreatDoorQF
import Derived.Test.YtpnpmgeokicpjaaGreatDoorQJ
import Derived.Test.YtpnpmgeokicpjaaGreatDoorStY
import Derived.Test.YtpnpmgeokicpjaaGreatDoorRows
import Derived.ChangeSlices

import Derived.ChangeArms

import Derived.ChangeOld

import Derived.SizedLaws

import Derived.Deep.Grids

namespace Go.Proofs.YtpnpmgeokicpjaaGreatDoor

open Go.RowKit

set_option linter.unusedVariables false

set_option linter.unusedSimpArgs false

set_option maxRecDepth 20000

/-- The state of nothing but zeros. -/
def oState : VState := ⟨0, fun _ => 0, 0, oFork, oHeader, fun _ => 0, fun _ => 0, ⟨none, 0, 0, fun _ => 0⟩, oEth1, ⟨none, 0, 0, fun _ => oEth1⟩, 0, ⟨none, 0, 0, fun _ => oValidator⟩, ⟨none, 0, 0, fun _ => 0⟩, fun _ => 0, fun _ => 0, ⟨none, 0, 0, fun _ => 0⟩, ⟨none, 0, 0, fun _ => 0⟩, fun _ => false, oCheckpoint, oCheckpoint, oCheckpoint, ⟨none, 0, 0, fun _ => 0⟩, oCommittee, oCommittee⟩

theorem zeroState (W : World) : (zeroValue 49).run Tryz.prog W = .ok (.agg (cel (sState oState))) W := by kernel_rfl

theorem bdState_0 (W : World) : (bdState #[]).run Tryz.prog W = .ok (.agg (cel (sState oState))) W := by kernel_rfl

/-- What stands while a state is read: the result's block, the state's own. -/
def RI (w : World) (r y : Nat) (x : VState) (X : World) : Prop := Below w.heap.size w X ∧ X.heap[r]? = some (.cells (cel (sState oState)) 49) ∧ X.heap[y]? = some (.cells (cel (sState x)) 49)

theorem some_lt {X : World} {r : Nat} {o : Obj} (h : X.heap[r]? = some o) : r < X.heap.size := (Array.getElem?_eq_some_iff.1 h).1

theorem some_cell {X : World} {y i : Nat} {x : VState} (h : X.heap[y]? = some (.cells (cel (sState x)) 49)) (hi : i < 1957) : ∃ v, X.cell? ⟨y, i, none⟩ = some v := ⟨_, (row_cell h i).trans (Array.getElem?_eq_getElem (by rw [cel_size, slState]; exact hi))⟩

theorem RI.below {w X X' : World} {r y : Nat} {x : VState} (h : RI w r y x X) (hb : Below X.heap.size X X') : RI w r y x X' :=
  ⟨h.1.trans (hb.mono h.1.size), (hb.block r (some_lt h.2.1)).trans h.2.1, (hb.block y (some_lt h.2.2)).trans h.2.2⟩

theorem RI.kept {w X X' : World} {r y : Nat} {x x' : VState} (h : RI w r y x X) (hr : r ≠ y) (hy : w.heap.size ≤ y) (hk : Kept y X X') (hn : X'.heap[y]? = some (.cells (cel (sState x')) 49)) : RI w r y x' X' :=
  ⟨h.1.trans (hk.below hy h.1.size), (hk.block r (some_lt h.2.1) hr).trans h.2.1, hn⟩

theorem RI.set {w X : World} {r y : Nat} {x x' : VState} (h : RI w r y x X) (hr : r ≠ y) (hy : w.heap.size ≤ y) (i : Nat) (v : Value) (he : (cel (sState x)).setIfInBounds i v = cel (sState x')) : RI w r y x' (X.setCell ⟨y, i, none⟩ v) :=
  h.kept hr hy ((Kept.refl y X).setCell i v) ((row_set h.2.2 i v).trans (congrArg (fun c => some (Obj.cells c 49)) he))

theorem RI.row {w X : World} {r y : Nat} {x x' : VState} (h : RI w r y x X) (hr : r ≠ y) (hy : w.heap.size ≤ y) : RI w r y x' (X.setRow y (cel (sState x'))) :=
  h.kept hr hy ((Kept.refl y X).setRow _) (setRow_at h.2.2)

attribute [local go_sem ↓] lvState_eq svState_eq bdState_eq ixP_eq

end Go.Proofs.YtpnpmgeokicpjaaGreatDoor

namespace Go.Proofs.YtpnpmgeokicpjaaGreatDoor

open Go.RowKit

set_option linter.unusedVariables false

set_option linter.unusedSimpArgs false

set_option maxRecDepth 20000

theorem putL_eq (C : Array Value) (o : Nat) (l : List Value) (h : o + l.length ≤ C.size) : putL C o l = (C.toList.take o ++ l ++ C.toList.drop (o + l.length)).toArray := by
  apply Array.ext'
  apply List.ext_getElem?
  intro i
  have hc : C.toList.length = C.size := Array.length_toList
  rw [Array.getElem?_toList, putL_get _ _ _ _ h]
  by_cases h1 : i < o
  · rw [if_neg (by omega), List.append_assoc, List.getElem?_append_left (by rw [List.length_take]; omega), List.getElem?_take_of_lt h1, Array.getElem?_toList]
  · rw [List.append_assoc, List.getElem?_append_right (by rw [List.length_take]; omega), List.length_take, Nat.min_eq_left (by omega)]
    by_cases h2 : i < o + l.length
    · rw [if_pos ⟨by omega, h2⟩, List.getElem?_append_left (by omega)]
    · rw [if_neg (by omega), List.getElem?_append_right (by omega), List.getElem?_drop, show o + l.length + (i - o - l.length) = i by omega, Array.getElem?_toList]

theorem RI.put {w X : World} {r y : Nat} {x x' : VState} (h : RI w r y x X) (hr : r ≠ y) (hy : w.heap.size ≤ y) (l1 m m' l2 : List Seg) (e1 : sState x = l1 ++ m ++ l2) (e2 : sState x' = l1 ++ m' ++ l2) (hm : slen m' = slen m) (o : Nat) (ho : slen l1 = o) : RI w r y x' (X.setCells y o (celL m')) := by
  refine h.kept hr hy (setCells_kept _ _ (Kept.refl y X)) ((setCells_row _ _ h.2.2).trans (congrArg (fun c => some (Obj.cells c 49)) ?_))
  have hs : slen (l1 ++ m ++ l2) = slen l1 + slen m + slen l2 := by
    rw [← celL_len, celL_app, celL_app, List.length_append, List.length_append, celL_len, celL_len, celL_len]
  rw [e1, e2, putL_eq _ _ _ (by rw [cel_size, celL_len, hm, hs]; omega), celL_len, hm, ← ho, cel_put]

attribute [local go_sem ↓] lvState_eq svState_eq bdState_eq ixP_eq svFork_eq svHeader_eq svEth1_eq svCheckpoint_eq svCommittee_eq

end Go.Proofs.YtpnpmgeokicpjaaGreatDoor

namespace Go.Proofs.YtpnpmgeokicpjaaGreatDoor

open Go.RowKit

set_option linter.unusedVariables false

set_option linter.unusedSimpArgs false

set_option maxRecDepth 20000

/-- What a slice holds that is appended. -/
def Src (w : World) (k : Nat) (a : Option Addr) (n c : Nat) (news : List Value) : Prop :=
  (a = none → n = 0 ∧ c = 0) ∧ news.length = n * k ∧ (∀ u ∈ news, u.oneCell' = true) ∧ (n = 0 ∨ ∃ b off, a = some ⟨b, off, none⟩ ∧ b < w.heap.size ∧ w.rangeAt b off news)

theorem Src.below {w w' : World} {k : Nat} {a : Option Addr} {n c : Nat} {news : List Value} (h : Src w k a n c news) (hb : Below w.heap.size w w') : Src w' k a n c news := by
  refine ⟨h.1, h.2.1, h.2.2.1, ?_⟩
  rcases h.2.2.2 with h0 | ⟨b, off, e, hl, hr⟩
  · exact .inl h0
  · exact .inr ⟨b, off, e, Nat.lt_of_lt_of_le hl hb.size, rangeAt_below hr hl hb⟩

theorem app_src {P : Program} (w : World) {ops : Array Oper} {rest : List Oper} {o : Oper} {a : Act} {Q : Exit → Act → World → Prop} (hgd : o.guard = none) (s x : Operand) (t : TypeId)
    (ho : o.op = .call { callee := .builtin .append, args := #[s, x], argTypes := #[t, t] })
    (base : Nat) (e : TypeId) (i : TypeInfo) (z : Value) (size bytes : Nat) (ht : P.underlying t = some (.slice e)) (hi : P.info? e = some i) (hz : i.zero = some z)
    (hsize : i.size = size) (hby : i.bytes = bytes) (hzs : z.cells.size = size) (hsz : 0 < size)
    (v : Value) (n : Nat) (xs : List Value) (hs : a.eval s = v) (hown : w.ownsRow base e size v n xs)
    (ao : Option Addr) (len cap : Nat) (news : List Value) (hx : a.eval x = .slice ao len cap) (hsrc : Src w size ao len cap news)
    (h63 : n + len ≤ maxLen) (hbytes : (n + len) * bytes ≤ 140737488355328) (hbase : base ≤ w.heap.size)
    (h : ∀ v' w', w'.ownsRow base e size v' (n + len) (xs ++ news) → w.grownBy w' v.ownBlock → wpList P ops Q rest (a.put o.dst v') w') : wpList P ops Q (o :: rest) a w := by
  obtain ⟨h1, h2, h3, h4⟩ := hsrc
  cases ao with
  | none =>
    obtain ⟨rfl, rfl⟩ := h1 rfl
    obtain rfl : news = [] := List.length_eq_zero_iff.1 (by rw [h2, Nat.zero_mul])
    refine wpList_append_own_none hgd s x t ho base e i size ht hi v n xs hs hown hx (h v w ?_ ⟨rfl, rfl, rfl, Nat.le_refl _, fun _ _ _ => rfl⟩)
    rw [Nat.add_zero, List.append_nil]
    exact hown
  | some ad =>
    refine wpList_append_own w hgd s x t ho base e i z size bytes ht hi hz hsize hby hzs hsz v n xs hs hown ad len cap news hx h2 (fun j u hj => ?_) h3 h63 hbytes hbase (fun v' w' g1 g2 _ => h v' w' g1 g2)
    rcases h4 with rfl | ⟨b, off, e', _, hr⟩
    · have := (List.getElem?_eq_some_iff.1 hj).1
      rw [h2, Nat.zero_mul] at this
      omega
    · cases e'
      rw [addr_add]
      exact hr j u hj

theorem grown_new {B s : Nat} {w w' : World} {v : Value} {n : Nat} {xs : List Value} {e : TypeId} (hb : Below B w w) (ho : (w.alloc (.cells #[] e)).ownsRow w.heap.size e s v n xs) (hg : (w.alloc (.cells #[] e)).grownBy w' v.ownBlock) : Below w.heap.size w w' :=
  ⟨hg.os, hg.tape, hg.output, Nat.le_trans (by simp) hg.size, fun k hk => (hg.block k (by simp; omega) (fun e => by have := (ho.lt k e.symm).1; omega)).trans (heap_old hk)⟩

theorem owns_form {w : World} {B : Nat} {e : TypeId} {k : Nat} {v : Value} {n : Nat} {xs : List Value} (h : w.ownsRow B e k v n xs) : ∃ a c, v = .slice a n c := by
  rcases h.2 with ⟨rfl, rfl⟩ | ⟨g, cap, cur, rfl, _⟩
  · exact ⟨none, 0, rfl⟩
  · exact ⟨_, cap, rfl⟩

/-- Elements one behind the other. -/
def flat (e : Nat → List Value) : Nat → List Value
  | 0 => []
  | n + 1 => flat e n ++ e n

theorem flat_len {e : Nat → List Value} {k : Nat} (h : ∀ i, (e i).length = k) : ∀ n, (flat e n).length = n * k
  | 0 => by simp [flat]
  | n + 1 => by
    show (flat e n ++ e n).length = _
    rw [List.length_append, flat_len h n, h n, Nat.succ_mul]

theorem flat_at {e : Nat → List Value} {k : Nat} (h : ∀ i, (e i).length = k) (i j : Nat) (hj : j < k) : ∀ n, i < n → (flat e n)[i * k + j]? = (e i)[j]?
  | 0, hi => absurd hi (Nat.not_lt_zero _)
  | n + 1, hi => by
    show (flat e n ++ e n)[i * k + j]? = _
    by_cases hn : i < n
    · rw [List.getElem?_append_left (by rw [flat_len h n]; have : (i + 1) * k ≤ n * k := Nat.mul_le_mul_right k hn; rw [Nat.succ_mul] at this; omega), flat_at h i j hj n hn]
    · obtain rfl : i = n := by omega
      rw [List.getElem?_append_right (by rw [flat_len h]; omega), flat_len h, Nat.add_sub_cancel_left]

theorem flat_one {e : Nat → List Value} (h : ∀ i, ∀ u ∈ e i, u.oneCell' = true) : ∀ n, ∀ u ∈ flat e n, u.oneCell' = true
  | 0, u, hu => by cases hu
  | n + 1, u, hu => by
    rcases List.mem_append.1 (show u ∈ flat e n ++ e n from hu) with h1 | h1
    · exact flat_one h n u h1
    · exact h n u h1

def nl (z : Nat → Int) (n : Nat) : List Value := (List.range n).map fun i => Value.int .u64 (z i)

theorem nl_len (z : Nat → Int) (n : Nat) : (nl z n).length = n := by simp [nl]

theorem nl_at (z : Nat → Int) (n j : Nat) (hj : j < n) : (nl z n)[j]? = some (.int .u64 (z j)) := by simp [nl, List.getElem?_range hj]

theorem nl_get (z : Nat → Int) (n j : Nat) (u : Value) (h : (nl z n)[j]? = some u) : j < n ∧ u = .int .u64 (z j) := by
  have hj : j < n := by have := (List.getElem?_eq_some_iff.1 h).1; rwa [nl_len] at this
  rw [nl_at z n j hj] at h
  exact ⟨hj, (Option.some.inj h).symm⟩

theorem nl_one (z : Nat → Int) (n : Nat) : ∀ u ∈ nl z n, u.oneCell' = true := fun u hu => by
  obtain ⟨i, _, rfl⟩ := List.mem_map.1 hu
  rfl

/-- Lists as sources. -/
theorem src_rts {w : World} {a : Option Addr} {n c : Nat} {f : Nat → Int} (h : Rts w a n c f) : Src w 32 a n c (bl f (32 * n)) := by
  refine ⟨fun ha => ?_, by rw [bl_len, Nat.mul_comm], bl_one _ _, ?_⟩
  · rcases h with ⟨_, h1, h2⟩ | ⟨_, h1, _⟩ | ⟨_, _, h1, _⟩
    · exact ⟨h1, h2⟩
    · rw [ha] at h1
      cases h1
    · rw [ha] at h1
      cases h1
  · rcases h with ⟨_, h1, _⟩ | ⟨_, _, h1⟩ | ⟨b, off, h1, _, h2, h3⟩
    · exact .inl h1
    · exact .inl h1
    · exact .inr ⟨b, off, h1, h2, fun j u hj => by
        obtain ⟨k1, rfl⟩ := bl_get f (32 * n) j u hj
        exact h3 j k1⟩

theorem src_bys {w : World} {a : Option Addr} {n c : Nat} {f : Nat → Int} (h : Bys w a n c f) : Src w 1 a n c (bl f n) := by
  refine ⟨fun ha => ?_, by rw [bl_len, Nat.mul_one], bl_one _ _, ?_⟩
  · rcases h with ⟨_, h1, h2⟩ | ⟨_, h1, _⟩ | ⟨_, _, h1, _⟩
    · exact ⟨h1, h2⟩
    · rw [ha] at h1
      cases h1
    · rw [ha] at h1
      cases h1
  · rcases h with ⟨_, h1, _⟩ | ⟨_, _, h1⟩ | ⟨b, off, h1, _, _, h2, h3⟩
    · exact .inl h1
    · exact .inl h1
    · exact .inr ⟨b, off, h1, h2, fun j u hj => by
        obtain ⟨k1, rfl⟩ := bl_get f n j u hj
        exact h3 j k1⟩

theorem src_nms {w : World} {a : Option Addr} {n c : Nat} {f : Nat → Int} (h : Z.Nms .u64 w a n f) (hn : a = none → n = 0 ∧ c = 0) : Src w 1 a n c (nl f n) := by
  refine ⟨hn, by rw [nl_len, Nat.mul_one], nl_one _ _, ?_⟩
  rcases h with h1 | ⟨b, off, h1, h2, h3⟩
  · exact .inl h1
  · exact .inr ⟨b, off, h1, h2, fun j u hj => by
      obtain ⟨k1, rfl⟩ := nl_get f n j u hj
      exact h3 j k1⟩

theorem src_els {w : World} {a : Option Addr} {n c k : Nat} {e : Nat → List Value} (h : Els w a n k e) (hn : a = none → n = 0 ∧ c = 0) (hk : ∀ i, (e i).length = k) (h1 : ∀ i, ∀ u ∈ e i, u.oneCell' = true) : Src w k a n c (flat e n) := by
  refine ⟨hn, flat_len hk n, flat_one h1 n, ?_⟩
  rcases h with h0 | ⟨b, off, e1, h2, h3⟩
  · exact .inl h0
  · refine .inr ⟨b, off, e1, h2, fun j u hj => ?_⟩
    have hlt : j < n * k := by have := (List.getElem?_eq_some_iff.1 hj).1; rwa [flat_len hk] at this
    have hkp : 0 < k := by
      rcases Nat.eq_zero_or_pos k with h0 | h0
      · rw [h0, Nat.mul_zero] at hlt
        omega
      · exact h0
    have hi : j / k < n := Nat.div_lt_of_lt_mul (by rw [Nat.mul_comm]; exact hlt)
    have hm := Nat.mod_lt j hkp
    have ej : j = j / k * k + j % k := by rw [Nat.mul_comm]; exact (Nat.div_add_mod j k).symm
    rw [ej, flat_at hk _ _ hm n hi] at hj
    have := h3 (j / k) hi (j % k) u hj
    rw [show off + k * (j / k) + j % k = off + j by rw [Nat.add_assoc, Nat.div_add_mod]] at this
    exact this

/-- Rows of one's own, read. -/
theorem own_range {w : World} {B : Nat} {e : TypeId} {k : Nat} {a : Option Addr} {n c : Nat} {xs : List Value} (h : w.ownsRow B e k (.slice a n c) n xs) : n = 0 ∨ ∃ g, a = some ⟨g, 0, none⟩ ∧ B ≤ g ∧ g < w.heap.size ∧ w.rangeAt g 0 xs := by
  rcases h.2 with ⟨_, h0⟩ | ⟨g, cap, cur, hv, hB, hg, _, _, hs, ht⟩
  · exact .inl h0
  · cases hv
    refine .inr ⟨g, rfl, hB, some_lt hg, fun j u hj => ?_⟩
    rw [Nat.zero_add, row_cell hg, ← hj, ← ht]
    have hlt := (List.getElem?_eq_some_iff.1 hj).1
    rw [h.1] at hlt
    rw [List.getElem?_take_of_lt hlt, Array.getElem?_toList]

theorem own_nms {w : World} {B : Nat} {a : Option Addr} {n c : Nat} {z : Nat → Int} (h : w.ownsRow B 22 1 (.slice a n c) n (nl z n)) : Z.Nms .u64 w a n z := by
  rcases own_range h with h0 | ⟨g, e, _, hg, hr⟩
  · exact .inl h0
  · exact .inr ⟨g, 0, e, hg, fun j hj => hr j _ (nl_at z n j hj)⟩

theorem own_els {w : World} {B k : Nat} {t : TypeId} {a : Option Addr} {n c : Nat} {e : Nat → List Value} (h : w.ownsRow B t k (.slice a n c) n (flat e n)) (hk : ∀ i, (e i).length = k) : Els w a n k e := by
  rcases own_range h with h0 | ⟨g, e1, _, hg, hr⟩
  · exact .inl h0
  · refine .inr ⟨g, 0, e1, hg, fun i hi j u hj => ?_⟩
    have hlt : j < k := by have := (List.getElem?_eq_some_iff.1 hj).1; rwa [hk i] at this
    have := hr (i * k + j) u (by rw [flat_at hk i j hlt n hi]; exact hj)
    rw [Nat.mul_comm i k] at this
    rw [Nat.zero_add] at this ⊢
    exact this

theorem owns_keptY {w w' : World} {B k y : Nat} {t : TypeId} {v : Value} {n : Nat} {xs : List Value} (h : w.ownsRow B t k v n xs) (hk : Kept y w w') (hy : y < B) : w'.ownsRow B t k v n xs := by
  refine ⟨h.1, ?_⟩
  rcases h.2 with h1 | ⟨g, cap, cur, h1, h2, h3, h4⟩
  · exact .inl h1
  · exact .inr ⟨g, cap, cur, h1, h2, (hk.block g (some_lt h3) (by omega)).trans h3, h4⟩

structure NilW (x : VState) : Prop where
  n9 : x.f9.a = none → x.f9.n = 0 ∧ x.f9.c = 0
  n11 : x.f11.a = none → x.f11.n = 0 ∧ x.f11.c = 0
  n12 : x.f12.a = none → x.f12.n = 0 ∧ x.f12.c = 0
  n21 : x.f21.a = none → x.f21.n = 0 ∧ x.f21.c = 0

attribute [local go_sem ↓] lvState_eq svState_eq

theorem retState1 {fn : Func} {R : Ending → World → Prop} {a : Act} {w' : World} (t : Tmp) (b : Nat) (c : VState) (ty : TypeId) (h : fn.results = #[.cell t 49]) (hd : a.defers = []) (ht : a.tmps.getD t undef = .pointer (some ⟨b, 0, none⟩)) (hr : w'.heap[b]? = some (.cells (cel (sState c)) ty))
    (hR : R (.returned (.agg (cel (sState c)))) w') : bodyPost Tryz.prog fn R .ret a w' :=
  bodyPost_ret (results_cell h a.tmps _ b _ ht (load_row hr 49 _ Tryz.underlying49 rfl (by rw [cel_size, slState]; kernel_rfl))) hd hR

end Go.Proofs.YtpnpmgeokicpjaaGreatDoor

namespace Go.Proofs.YtpnpmgeokicpjaaGreatDoor

open Go.RowKit

set_option linter.unusedVariables false

set_option linter.unusedSimpArgs false

set_option maxRecDepth 20000

attribute [local go_sem ↓] lvState_eq svState_eq bdState_eq lvValidator_eq svValidator_eq ixValidator_eq

theorem RtO.lk {x : VState} (h : RtO x) {w : World} (hx : OkState x) (hw : InW w x) : Lk w x := by
  refine ⟨hw.i11, h.c0, fun j hj => ?_, hx.o2.1, h.c7⟩
  have hv := h.cv j hj
  have ho := (hx.o11 j hj).2.2.1
  unfold vldB at hv
  simp only [Bool.and_eq_true, decide_eq_true_eq] at hv
  exact ⟨ho.1, hv.2.1⟩

theorem lvValidator_row {w : World} {b : Nat} {x : VValidator} {t : TypeId} (h : w.heap[b]? = some (.cells (cel (sValidator x)) t)) : (lvValidator ⟨b, 0, none⟩).run Tryz.prog w = .ok (.agg (cel (sValidator x))) w :=
  loadAt_var (load_row h 60 _ Tryz.underlying60 rfl (by rw [cel_size, slValidator]; kernel_rfl))

theorem OkState.r' {x : VState} (h : OkState x) : OkR x := ⟨h.o2, h.o11, h.o12, h.o14, h.o21⟩

theorem InW.r' {w : World} {x : VState} (h : InW w x) : InR w x := ⟨h.i11, h.i12, h.i21⟩

end Go.Proofs.YtpnpmgeokicpjaaGreatDoor

namespace Go.Proofs.YtpnpmgeokicpjaaGreatDoor

open Go.RowKit

set_option linter.unusedVariables false

set_option linter.unusedSimpArgs false

set_option maxRecDepth 20000

/-- The numbers of a slice, whatever it is, with its room. -/
def L64 (w : World) (a : Option Addr) (len cap : Nat) (f : Nat → Int) : Prop :=
  (a = none ∧ len = 0 ∧ cap = 0) ∨ (∃ x, a = some x ∧ len = 0) ∨ ∃ b off, a = some ⟨b, off, none⟩ ∧ b < w.heap.size ∧ ∀ j, j < len → w.cell? ⟨b, off + j, none⟩ = some (.int .u64 (f j))

theorem L64.nms {w : World} {a : Option Addr} {len cap : Nat} {f : Nat → Int} (h : L64 w a len cap f) : Z.Nms .u64 w a len f := by
  rcases h with ⟨_, h, _⟩ | ⟨_, _, h⟩ | h
  · exact .inl h
  · exact .inl h
  · exact .inr h

theorem L64.below {w w' : World} {a : Option Addr} {len cap : Nat} {f : Nat → Int} (h : L64 w a len cap f) (hb : Below w.heap.size w w') : L64 w' a len cap f := by
  rcases h with h | h | ⟨b, off, h1, h2, h3⟩
  · exact .inl h
  · exact .inr (.inl h)
  · exact .inr (.inr ⟨b, off, h1, Nat.lt_of_lt_of_le h2 hb.size, fun j hj => (below_cell hb h2).trans (h3 j hj)⟩)

end Go.Proofs.YtpnpmgeokicpjaaGreatDoor

namespace Go.Proofs.YtpnpmgeokicpjaaGreatDoor

open Go.RowKit

set_option linter.unusedVariables false

set_option linter.unusedSimpArgs false

set_option maxRecDepth 100000

def bvV (ps : Array (Nat × Value)) : Sem Value := Instr.build 60 ps

theorem bvV_eq (ps : Array (Nat × Value)) : Instr.build 60 ps = bvV ps := rfl

def bsV (n : Nat) (ps : Array (Nat × Value)) : Sem Value := Instr.buildSlice 36 n ps

theorem bsV_eq (n : Nat) (ps : Array (Nat × Value)) : Instr.buildSlice 36 n ps = bsV n ps := rfl

/-- One validator that is active up to the epoch 9. -/
def oV1 : VValidator := ⟨fun _ => 0, fun _ => 0, 32000000000, false, 0, 0, 9, 0⟩

def X0 (g1 g2 g3 g4 g5 : Nat) : VState := { oState with f11 := ⟨some ⟨g1, 0, none⟩, 1, 1, fun _ => oV1⟩, f12 := ⟨some ⟨g2, 0, none⟩, 1, 1, fun _ => 0⟩, f15 := ⟨some ⟨g3, 0, none⟩, 1, 1, fun _ => 0⟩, f16 := ⟨some ⟨g4, 0, none⟩, 1, 1, fun _ => 0⟩, f21 := ⟨some ⟨g5, 0, none⟩, 1, 1, fun _ => 0⟩ }

end Go.Proofs.YtpnpmgeokicpjaaGreatDoor

namespace Go.Proofs.YtpnpmgeokicpjaaGreatDoor

open Go.RowKit Go.ChangeShapes Go.WideShapes

set_option linter.unusedVariables false

set_option linter.unusedSimpArgs false

/-- What an argument's datum holds. -/
def Holds1 {H : Type} (d : DataW H) (cap : Nat) : Prop := d = .nil ∧ cap = 0 ∨ ∃ el sp, d = .slice el sp ∧ el.length + sp.length = cap

/-- The form's own reach. -/
theorem holds_sized {H : Type} {ts : List TypeId} {ds : List (DataW H)} (h : (DataW.weightsEach Tryz.prog ts ds).all (· ≤ reachBytes) = true) {j : Nat} {t e : TypeId} {d : DataW H} {cap : Nat} (ht : ts[j]? = some t) (hd : ds[j]? = some d) (hu : Tryz.prog.underlying t = some (.slice e)) (hc : Holds1 d cap) :
    cap * Tryz.prog.bytesOf e ≤ 140737488351232 := by
  rcases hc with ⟨_, rfl⟩ | ⟨el, sp, rfl, rfl⟩
  · simp
  · exact sized_slice h ht hd hu

theorem spot_none {w : World} {x : Addr} {v : Value} (h : w.cell? (x.add 0) = some v) : ∃ b off, x = ⟨b, off, none⟩ := by
  obtain ⟨b, off, spot⟩ := x
  have hs : spot = none := by
    have := World.cell?_spot h
    simpa [Addr.add] using this
  subst hs
  exact ⟨b, off, rfl⟩

theorem open_u64s {H : Type} {enc : TypeId × Value → H} {W : World} {base : Nat} {held : Bool} {a : Option Addr} {len cap : Nat} {d : DataW H} {ps : List MemPlace} (h : DataW.Trod enc Tryz.prog W base (fun _ => true) held 37 (.slice a len cap) d ps) :
    ∃ m : Nat → Int, L64 W a len cap m ∧ (∀ q, 0 ≤ m q ∧ m q < 18446744073709551616) ∧ len ≤ cap ∧ Holds1 d cap := by
  obtain ⟨fuel, hf⟩ := h
  rcases open_ints Tryz.underlying37 Tryz.underlying22 (by kernel_rfl) hf with ⟨hcs, hx⟩ | ⟨x, l, c, zs, hcs, _, hl, hm, hz, hx, hcell, hwz⟩
  · simp [Value.cells] at hcs
    obtain ⟨rfl, rfl, rfl⟩ := hcs
    simp only [Prod.mk.injEq] at hx
    exact ⟨fun _ => 0, .inl ⟨rfl, rfl, rfl⟩, fun _ => (by decide : (0 : Int) ≤ 0 ∧ (0 : Int) < 18446744073709551616), Nat.le_refl _, .inl ⟨hx.1, rfl⟩⟩
  · simp [Value.cells] at hcs
    obtain ⟨rfl, rfl, rfl⟩ := hcs
    simp only [Prod.mk.injEq] at hx
    simp only [if_true] at hz
    have bd : ∀ q, 0 ≤ zs.getD q 0 ∧ zs.getD q 0 < 18446744073709551616 := by
      intro q
      by_cases hq : q < zs.length
      · rw [List.getD_eq_getElem?_getD, List.getElem?_eq_getElem hq, Option.getD_some]
        have := bounds_u64 (hwz _ (List.getElem_mem hq))
        omega
      · rw [List.getD_eq_getElem?_getD, List.getElem?_eq_none (by omega)]
        decide
    refine ⟨fun q => zs.getD q 0, ?_, bd, hl, .inr ⟨_, _, hx.1, by simp [lits]; omega⟩⟩
    by_cases h0 : len = 0
    · exact .inr (.inl ⟨x, rfl, h0⟩)
    · obtain ⟨b, off, rfl⟩ := spot_none (hcell 0 (by omega))
      refine .inr (.inr ⟨b, off, rfl, World.block_lt_of_cell? W _ (hcell 0 (by omega)), fun j hj => ?_⟩)
      have := hcell j (by omega)
      rw [addr_add] at this
      exact this

end Go.Proofs.YtpnpmgeokicpjaaGreatDoor

namespace Go.Proofs.YtpnpmgeokicpjaaGreatDoor

open Go.RowKit Go.ChangeShapes Go.WideShapes Go.Deep

set_option linter.unusedVariables false

set_option linter.unusedSimpArgs false

theorem open_blsZ {H : Type} {enc : TypeId × Value → H} {W : World} {base : Nat} {held : Bool} {a : Option Addr} {len cap : Nat} {d : DataW H} {ps : List MemPlace} (h : DataW.Trod enc Tryz.prog W base (fun _ => true) held 50 (.slice a len cap) d ps) :
    ∃ f, Z.Bls W a len cap f ∧ len ≤ cap ∧ Holds1 d cap := by
  obtain ⟨fuel, hf⟩ := h
  rcases open_bools Tryz.underlying50 Tryz.underlying4 (by kernel_rfl) hf with ⟨hcs, hx⟩ | ⟨x, l, c, B, hcs, _, hl, hm, hx, hcell⟩
  · simp [Value.cells] at hcs
    obtain ⟨rfl, rfl, rfl⟩ := hcs
    simp only [Prod.mk.injEq] at hx
    exact ⟨fun _ => false, .inl ⟨rfl, rfl, rfl⟩, Nat.le_refl _, .inl ⟨hx.1, rfl⟩⟩
  · simp [Value.cells] at hcs
    obtain ⟨rfl, rfl, rfl⟩ := hcs
    simp only [Prod.mk.injEq] at hx
    refine ⟨B, ?_, hl, .inr ⟨_, _, hx.1, by simp; omega⟩⟩
    by_cases h0 : len = 0
    · exact .inr (.inl ⟨x, rfl, h0⟩)
    · obtain ⟨b, off, rfl⟩ := spot_none (hcell 0 (by omega))
      unfold maxLen at hm
      refine .inr (.inr ⟨b, off, rfl, hl, by omega, World.block_lt_of_cell? W _ (hcell 0 (by omega)), fun j hj => ?_⟩)
      have := hcell j (by omega)
      rw [addr_add] at this
      exact this

end Go.Proofs.YtpnpmgeokicpjaaGreatDoor
