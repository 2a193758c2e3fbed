/-
  A state without lists, read.
  The fixed answers that every statement of layer 10 asks first are right.
  StateBounds: less in a right state leaves it right; one balance more does not.
  A copy of a state, whole.
  What stands while a copy of a state is changed.
  What slices.Clone answers for the lists of a state.
-/
import Derived.Test.YtmapeodhcllimaaDoorQC
import Derived.Test.YtmapeodhcllimaaDoorStD
import Derived.Test.YtmapeodhcllimaaDoorQB
import Derived.BigRegion

namespace Go.Proofs.YtmapeodhcllimaaDoor

open Go.RowKit

set_option linter.unusedVariables false

set_option linter.unusedSimpArgs false

set_option maxRecDepth 20000

theorem putL_eq (C : Array Value) (o : Nat) (l : List Value) (h : o + l.length ≤ C.size) : putL C o l = (C.toList.take o ++ l ++ C.toList.drop (o + l.length)).toArray := by
  apply Array.ext'
  apply List.ext_getElem?
  intro i
  have hc : C.toList.length = C.size := Array.length_toList
  rw [Array.getElem?_toList, putL_get _ _ _ _ h]
  by_cases h1 : i < o
  · rw [if_neg (by omega), List.append_assoc, List.getElem?_append_left (by rw [List.length_take]; omega), List.getElem?_take_of_lt h1, Array.getElem?_toList]
  · rw [List.append_assoc, List.getElem?_append_right (by rw [List.length_take]; omega), List.length_take, Nat.min_eq_left (by omega)]
    by_cases h2 : i < o + l.length
    · rw [if_pos ⟨by omega, h2⟩, List.getElem?_append_left (by omega)]
    · rw [if_neg (by omega), List.getElem?_append_right (by omega), List.getElem?_drop, show o + l.length + (i - o - l.length) = i by omega, Array.getElem?_toList]

attribute [local go_sem ↓] lvState_eq svState_eq bdState_eq svFork_eq svHeader_eq svEth1_eq svCheckpoint_eq svCommittee_eq

end Go.Proofs.YtmapeodhcllimaaDoor

namespace Go.Proofs.YtmapeodhcllimaaDoor

open Go.RowKit

set_option linter.unusedVariables false

set_option linter.unusedSimpArgs false

set_option maxRecDepth 20000

def V3 : VState := { oState with f2 := 3 }

attribute [local go_sem ↓] lvState_eq svState_eq bdState_eq

end Go.Proofs.YtmapeodhcllimaaDoor

namespace Go.Proofs.YtmapeodhcllimaaDoor

open Go.RowKit

set_option linter.unusedVariables false

set_option linter.unusedSimpArgs false

set_option maxRecDepth 20000

theorem own_keptB {w w' : World} {B k b : Nat} {t : TypeId} {v : Value} {n : Nat} {xs : List Value} (h : w.ownsRow B t k v n xs) (hk : Kept b w w') (hne : v.ownBlock ≠ some b) : w'.ownsRow B t k v n xs := by
  refine ⟨h.1, ?_⟩
  rcases h.2 with h1 | ⟨g, cap, cur, rfl, h2, h3, h4⟩
  · exact .inl h1
  · exact .inr ⟨g, cap, cur, rfl, h2, (hk.block g (some_lt h3) (fun e => hne (by rw [e]; rfl))).trans h3, h4⟩

theorem own_ne {w : World} {B k b : Nat} {t t' : TypeId} {v : Value} {n : Nat} {xs : List Value} {C : Array Value} (h : w.ownsRow B t k v n xs) (hb : w.heap[b]? = some (.cells C t')) (ht : t ≠ t') : v.ownBlock ≠ some b := by
  rcases h.2 with ⟨rfl, _⟩ | ⟨g, cap, cur, rfl, h2, h3, h4⟩
  · intro e
    cases e
  · intro e
    cases e
    rw [hb] at h3
    cases h3
    exact ht rfl

/-- The place that an integer names among n. -/
theorem place (i : Int) (n : Nat) (hn : 0 < n) : ∃ K : Nat, K < n ∧ (i.tmod n + n).tmod n = (K : Int) ∧ -(n : Int) < i.tmod n ∧ i.tmod n < n := by
  have h1 : -(n : Int) < i.tmod n := by
    have := Int.lt_tmod_of_pos i (show (0 : Int) < n by omega)
    omega
  have h2 : i.tmod n < n := Int.tmod_lt_of_pos i (by omega)
  have h3 : 0 ≤ (i.tmod n + n).tmod n := Int.tmod_nonneg _ (by omega)
  have h4 : (i.tmod n + n).tmod n < n := Int.tmod_lt_of_pos _ (by omega)
  exact ⟨((i.tmod n + n).tmod n).toNat, by omega, by omega, h1, h2⟩

end Go.Proofs.YtmapeodhcllimaaDoor

namespace Go.Proofs.YtmapeodhcllimaaDoor

open Go.RowKit

set_option linter.unusedVariables false

set_option linter.unusedSimpArgs false

set_option maxRecDepth 20000

/-- Alike but for where the lists lie, all fields. -/
structure SimF (x X : VState) : Prop where
  e0 : X.f0 = x.f0
  e1 : X.f1 = x.f1
  e2 : X.f2 = x.f2
  e3 : X.f3 = x.f3
  e4 : X.f4 = x.f4
  e5 : X.f5 = x.f5
  e6 : X.f6 = x.f6
  l7 : X.f7.n = x.f7.n
  z7 : X.f7.z = x.f7.z
  e8 : X.f8 = x.f8
  l9 : X.f9.n = x.f9.n
  z9 : X.f9.z = x.f9.z
  e10 : X.f10 = x.f10
  l11 : X.f11.n = x.f11.n
  z11 : X.f11.z = x.f11.z
  l12 : X.f12.n = x.f12.n
  z12 : X.f12.z = x.f12.z
  e13 : X.f13 = x.f13
  e14 : X.f14 = x.f14
  l15 : X.f15.n = x.f15.n
  z15 : X.f15.z = x.f15.z
  l16 : X.f16.n = x.f16.n
  z16 : X.f16.z = x.f16.z
  e17 : X.f17 = x.f17
  e18 : X.f18 = x.f18
  e19 : X.f19 = x.f19
  e20 : X.f20 = x.f20
  l21 : X.f21.n = x.f21.n
  z21 : X.f21.z = x.f21.z
  e22 : X.f22 = x.f22
  e23 : X.f23 = x.f23

/-- The copied lists. -/
structure CpdF (B : Nat) (w : World) (X : VState) : Prop where
  o7 : w.ownsRow B 24 32 (.slice X.f7.a X.f7.n X.f7.c) X.f7.n (bl X.f7.z (32 * X.f7.n))
  o9 : w.ownsRow B 34 65 (.slice X.f9.a X.f9.n X.f9.c) X.f9.n (flat (fun i => celL (sEth1 (X.f9.z i))) X.f9.n)
  o11 : w.ownsRow B 63 86 (.slice X.f11.a X.f11.n X.f11.c) X.f11.n (flat (fun i => celL (sValidator (X.f11.z i))) X.f11.n)
  o12 : w.ownsRow B 22 1 (.slice X.f12.a X.f12.n X.f12.c) X.f12.n (nl X.f12.z X.f12.n)
  o15 : w.ownsRow B 5 1 (.slice X.f15.a X.f15.n X.f15.c) X.f15.n (bl X.f15.z X.f15.n)
  o16 : w.ownsRow B 5 1 (.slice X.f16.a X.f16.n X.f16.c) X.f16.n (bl X.f16.z X.f16.n)
  o21 : w.ownsRow B 22 1 (.slice X.f21.a X.f21.n X.f21.c) X.f21.n (nl X.f21.z X.f21.n)
  d15 : ∀ ad ad', X.f15.a = some ad → X.f16.a = some ad' → ad.block ≠ ad'.block
  d12 : ∀ ad ad', X.f12.a = some ad → X.f21.a = some ad' → ad.block ≠ ad'.block

attribute [local go_sem ↓] lvState_eq svState_eq

end Go.Proofs.YtmapeodhcllimaaDoor

namespace Go.Proofs.YtmapeodhcllimaaDoor

open Go.RowKit

set_option linter.unusedVariables false

set_option linter.unusedSimpArgs false

set_option maxRecDepth 20000

structure BF (w : World) (y : Nat) (V : World) (Y : VState) : Prop where
  bel : Below w.heap.size w V
  row : V.heap[y]? = some (.cells (cel (sState Y)) 49)
  cpd : CpdF w.heap.size V Y

theorem own_byF {w : World} {B : Nat} {a : Option Addr} {n c : Nat} {z : Nat → Int} (h : w.ownsRow B 5 1 (.slice a n c) n (bl z n)) : Bys w a n c z := by
  obtain ⟨a', c', e, hb⟩ := own_at h
  cases e
  exact hb

theorem own_rtF {w : World} {B : Nat} {a : Option Addr} {n c : Nat} {z : Nat → Int} (h : w.ownsRow B 24 32 (.slice a n c) n (bl z (32 * n))) : Rts w a n c z := by
  rcases h.2 with ⟨hv, h0⟩ | ⟨g, cap, cur, hv, hB, hg, h1, h2, hs, ht⟩
  · cases hv
    exact .inl ⟨rfl, rfl, rfl⟩
  · cases hv
    refine .inr (.inr ⟨g, 0, rfl, h1, some_lt hg, fun j hj => ?_⟩)
    have := bl_at z (32 * n) j hj
    rw [← ht, List.getElem?_take_of_lt (by omega), Array.getElem?_toList] at this
    rw [Nat.zero_add, row_cell hg, this]

theorem BF.inW {w : World} {y : Nat} {V : World} {Y : VState} (h : BF w y V Y) : InW V Y :=
  ⟨own_rtF h.cpd.o7, own_els h.cpd.o9 (fun i => by rw [celL_len]; rfl), own_els h.cpd.o11 (fun i => by rw [celL_len]; rfl), own_nms h.cpd.o12, own_byF h.cpd.o15, own_byF h.cpd.o16, own_nms h.cpd.o21⟩

theorem CpdF.below {B : Nat} {V V' : World} {Y : VState} (h : CpdF B V Y) (hb : Below V.heap.size V V') : CpdF B V' Y :=
  ⟨ownsRow_below h.o7 hb, ownsRow_below h.o9 hb, ownsRow_below h.o11 hb, ownsRow_below h.o12 hb, ownsRow_below h.o15 hb, ownsRow_below h.o16 hb, ownsRow_below h.o21 hb, h.d15, h.d12⟩

theorem BF.below {w V V' : World} {y : Nat} {Y : VState} (h : BF w y V Y) (hb : Below V.heap.size V V') : BF w y V' Y :=
  ⟨h.bel.trans (hb.mono h.bel.size), (hb.block y (some_lt h.row)).trans h.row, h.cpd.below hb⟩

theorem BF.drew {w V : World} {y : Nat} {Y : VState} (h : BF w y V Y) : BF w y V.drew Y := h.below ((Below.refl _ _).drew)

/-- A cell of the state itself changed. -/
theorem BF.setY {w V : World} {y : Nat} {Y Y' : VState} (h : BF w y V Y) (hy : w.heap.size ≤ y) (i : Nat) (v : Value) (he : (cel (sState Y)).setIfInBounds i v = cel (sState Y')) (e7 : Y'.f7 = Y.f7) (e9 : Y'.f9 = Y.f9) (e11 : Y'.f11 = Y.f11) (e12 : Y'.f12 = Y.f12) (e15 : Y'.f15 = Y.f15) (e16 : Y'.f16 = Y.f16) (e21 : Y'.f21 = Y.f21) : BF w y (V.setCell ⟨y, i, none⟩ v) Y' := by
  have hk : Kept y V (V.setCell ⟨y, i, none⟩ v) := (Kept.refl y V).setCell _ _
  refine ⟨h.bel.trans (hk.below hy h.bel.size), (row_set h.row i v).trans (congrArg (fun c => some (Obj.cells c 49)) he), ⟨?_, ?_, ?_, ?_, ?_, ?_, ?_, ?_, ?_⟩⟩
  · rw [e7]
    exact own_keptB h.cpd.o7 hk (own_ne h.cpd.o7 h.row (by decide))
  · rw [e9]
    exact own_keptB h.cpd.o9 hk (own_ne h.cpd.o9 h.row (by decide))
  · rw [e11]
    exact own_keptB h.cpd.o11 hk (own_ne h.cpd.o11 h.row (by decide))
  · rw [e12]
    exact own_keptB h.cpd.o12 hk (own_ne h.cpd.o12 h.row (by decide))
  · rw [e15]
    exact own_keptB h.cpd.o15 hk (own_ne h.cpd.o15 h.row (by decide))
  · rw [e16]
    exact own_keptB h.cpd.o16 hk (own_ne h.cpd.o16 h.row (by decide))
  · rw [e21]
    exact own_keptB h.cpd.o21 hk (own_ne h.cpd.o21 h.row (by decide))
  · rw [e15, e16]
    exact h.cpd.d15
  · rw [e12, e21]
    exact h.cpd.d12

/-- A row kept while another one grows. -/
theorem own_grown {w w' : World} {B B' k k' : Nat} {t t' : TypeId} {v v' : Value} {n n' : Nat} {xs xs' : List Value} (h : w.ownsRow B t k v n xs) (h' : w.ownsRow B' t' k' v' n' xs') (hg : w.grownBy w' v'.ownBlock) (hne : t ≠ t' ∨ ∀ b, v.ownBlock = some b → v'.ownBlock ≠ some b) : w'.ownsRow B t k v n xs := by
  refine h.kept hg ?_
  rcases h'.2 with ⟨h0, _⟩ | ⟨g, cap, cur, h0, _, hc, _⟩
  · rw [h0]
    cases v.ownBlock with
    | none => exact .inl rfl
    | some b => exact .inr (fun e => by cases e)
  · rw [h0]
    refine .inr ?_
    rcases hne with ht | hd
    · exact own_ne h hc ht
    · exact fun e => hd g e (by rw [h0]; rfl)

theorem slice_own {a : Option Addr} {n c b : Nat} (h : Value.ownBlock (.slice a n c) = some b) : ∃ ad, a = some ad ∧ ad.block = b := by
  cases a with
  | none => cases h
  | some ad => exact ⟨ad, rfl, by cases h; rfl⟩

theorem okF_sim {x X : VState} (h : SimF x X) (hx : OkState x) : OkState X := by
  refine ⟨by rw [h.e0]; exact hx.o0, by rw [h.e1]; exact hx.o1, by rw [h.e2]; exact hx.o2, by rw [h.e3]; exact hx.o3, by rw [h.e4]; exact hx.o4, by rw [h.e5]; exact hx.o5, by rw [h.e6]; exact hx.o6, fun j hj => by rw [h.z7]; exact hx.o7 j (by rw [← h.l7]; exact hj), by rw [h.e8]; exact hx.o8, fun j hj => by rw [h.z9]; exact hx.o9 j (by rw [← h.l9]; exact hj), by rw [h.e10]; exact hx.o10, fun j hj => by rw [h.z11]; exact hx.o11 j (by rw [← h.l11]; exact hj), fun j hj => by rw [h.z12]; exact hx.o12 j (by rw [← h.l12]; exact hj), by rw [h.e13]; exact hx.o13, by rw [h.e14]; exact hx.o14, fun j hj => by rw [h.z15]; exact hx.o15 j (by rw [← h.l15]; exact hj), fun j hj => by rw [h.z16]; exact hx.o16 j (by rw [← h.l16]; exact hj), by rw [h.e18]; exact hx.o18, by rw [h.e19]; exact hx.o19, by rw [h.e20]; exact hx.o20, fun j hj => by rw [h.z21]; exact hx.o21 j (by rw [← h.l21]; exact hj), by rw [h.e22]; exact hx.o22, by rw [h.e23]; exact hx.o23⟩

end Go.Proofs.YtmapeodhcllimaaDoor

namespace Go.Proofs.YtmapeodhcllimaaDoor

open Go.RowKit

set_option linter.unusedVariables false

set_option linter.unusedSimpArgs false

set_option maxRecDepth 20000

theorem eqnilR2 (w : World) (a : Option Addr) (l c : Nat) : (binOp .eql 32 (.slice a l c) (.slice none 0 0)).run Tryd.prog w = .ok (.bool a.isNone) w := by
  simp only [binOp]
  simp [run_equal_slice_nil w 32 24 a l c Tryd.underlying32]

set_option maxHeartbeats 1000000 in
theorem clR (a : Option Addr) (n c : Nat) (news : List Value) (w : World) (hs : Src w 32 a n c news) (hb : n * 32 ≤ 140737488351232) :
    Calls Tryd.prog 37 #[.slice a n c] w fun e w' => ∃ a' c', e = .returned (.slice a' n c') ∧ w'.ownsRow w.heap.size 24 32 (.slice a' n c') n news ∧ Below w.heap.size w w' := by
  cases a with
  | none =>
    obtain ⟨rfl, rfl⟩ := hs.1 rfl
    obtain rfl : news = [] := List.length_eq_zero_iff.1 (by rw [hs.2.1, Nat.zero_mul])
    have q := eqnilR2 w none 0 0
    go_enter Tryd.func37, Tryd.ntmps37
    go_wp2
    go_ret
    exact ⟨none, 0, rfl, World.ownsRow_nil _ _ _ _, Below.refl _ _⟩
  | some x =>
    obtain ⟨i, hi, hz0, hz1, hz2⟩ := info_out (P := Tryd.prog) (t := 24) (z := .agg (vs .u8 32 fun _ => 0)) (s := 32) (b := 32) (by kernel_rfl)
    have II := hid (And.intro hi (And.intro hz0 (And.intro hz1 hz2)))
    have HS := hid (hs.below ((Below.refl w.heap.size w).alloc (Nat.le_refl _) (.cells #[] 24)))
    have q := eqnilR2 w (some x) n c
    clear hs hi hz0 hz1 hz2
    go_enter Tryd.func37, Tryd.ntmps37
    go_wp2_with (at_builtin; refine app_src _ rfl _ _ 32 rfl w.heap.size 24 i (.agg (vs .u8 32 fun _ => 0)) 32 32 Tryd.underlying32 II.out.1 II.out.2.1 II.out.2.2.1 II.out.2.2.2 (by simp [Value.cells, vs_size]) (by omega) _ 0 [] rfl (World.ownsRow_made _ #[] 0 (Nat.le_refl _) (Nat.zero_le _) rfl) _ _ _ news rfl HS.out (by unfold maxLen; omega) (by omega) (by simp) ?_; intro v6 w6 ho hg; obtain ⟨a6, c6, rfl⟩ := owns_form ho)
    go_ret
    rw [Nat.zero_add, List.nil_append] at ho
    exact ⟨a6, c6, rfl, ho, below_grownS ((Below.refl _ _).alloc (Nat.le_refl _) _) (World.ownsRow_made (e := 24) (size := 32) _ #[] 0 (Nat.le_refl _) (Nat.zero_le _) rfl) (by simp) hg⟩

theorem eqnilE (w : World) (a : Option Addr) (l c : Nat) : (binOp .eql 35 (.slice a l c) (.slice none 0 0)).run Tryd.prog w = .ok (.bool a.isNone) w := by
  simp only [binOp]
  simp [run_equal_slice_nil w 35 34 a l c Tryd.underlying35]

set_option maxHeartbeats 1000000 in
theorem clE (a : Option Addr) (n c : Nat) (news : List Value) (w : World) (hs : Src w 65 a n c news) (hb : n * 72 ≤ 140737488351232) :
    Calls Tryd.prog 38 #[.slice a n c] w fun e w' => ∃ a' c', e = .returned (.slice a' n c') ∧ w'.ownsRow w.heap.size 34 65 (.slice a' n c') n news ∧ Below w.heap.size w w' := by
  cases a with
  | none =>
    obtain ⟨rfl, rfl⟩ := hs.1 rfl
    obtain rfl : news = [] := List.length_eq_zero_iff.1 (by rw [hs.2.1, Nat.zero_mul])
    have q := eqnilE w none 0 0
    go_enter Tryd.func38, Tryd.ntmps38
    go_wp2
    go_ret
    exact ⟨none, 0, rfl, World.ownsRow_nil _ _ _ _, Below.refl _ _⟩
  | some x =>
    obtain ⟨i, hi, hz0, hz1, hz2⟩ := info_out (P := Tryd.prog) (t := 34) (z := .agg (cel (sEth1 oEth1))) (s := 65) (b := 72) (by kernel_rfl)
    have II := hid (And.intro hi (And.intro hz0 (And.intro hz1 hz2)))
    have HS := hid (hs.below ((Below.refl w.heap.size w).alloc (Nat.le_refl _) (.cells #[] 34)))
    have q := eqnilE w (some x) n c
    clear hs hi hz0 hz1 hz2
    go_enter Tryd.func38, Tryd.ntmps38
    go_wp2_with (at_builtin; refine app_src _ rfl _ _ 35 rfl w.heap.size 34 i (.agg (cel (sEth1 oEth1))) 65 72 Tryd.underlying35 II.out.1 II.out.2.1 II.out.2.2.1 II.out.2.2.2 (by show (cel _).size = _; rw [cel_size]; rfl) (by omega) _ 0 [] rfl (World.ownsRow_made _ #[] 0 (Nat.le_refl _) (Nat.zero_le _) rfl) _ _ _ news rfl HS.out (by unfold maxLen; omega) (by omega) (by simp) ?_; intro v6 w6 ho hg; obtain ⟨a6, c6, rfl⟩ := owns_form ho)
    go_ret
    rw [Nat.zero_add, List.nil_append] at ho
    exact ⟨a6, c6, rfl, ho, below_grownS ((Below.refl _ _).alloc (Nat.le_refl _) _) (World.ownsRow_made (e := 34) (size := 65) _ #[] 0 (Nat.le_refl _) (Nat.zero_le _) rfl) (by simp) hg⟩

theorem eqnilV (w : World) (a : Option Addr) (l c : Nat) : (binOp .eql 36 (.slice a l c) (.slice none 0 0)).run Tryd.prog w = .ok (.bool a.isNone) w := by
  simp only [binOp]
  simp [run_equal_slice_nil w 36 63 a l c Tryd.underlying36]

set_option maxHeartbeats 1000000 in
theorem clV (a : Option Addr) (n c : Nat) (news : List Value) (w : World) (hs : Src w 86 a n c news) (hb : n * 128 ≤ 140737488351232) :
    Calls Tryd.prog 39 #[.slice a n c] w fun e w' => ∃ a' c', e = .returned (.slice a' n c') ∧ w'.ownsRow w.heap.size 63 86 (.slice a' n c') n news ∧ Below w.heap.size w w' := by
  cases a with
  | none =>
    obtain ⟨rfl, rfl⟩ := hs.1 rfl
    obtain rfl : news = [] := List.length_eq_zero_iff.1 (by rw [hs.2.1, Nat.zero_mul])
    have q := eqnilV w none 0 0
    go_enter Tryd.func39, Tryd.ntmps39
    go_wp2
    go_ret
    exact ⟨none, 0, rfl, World.ownsRow_nil _ _ _ _, Below.refl _ _⟩
  | some x =>
    obtain ⟨i, hi, hz0, hz1, hz2⟩ := info_out (P := Tryd.prog) (t := 63) (z := .agg (cel (sValidator oValidator))) (s := 86) (b := 128) (by kernel_rfl)
    have II := hid (And.intro hi (And.intro hz0 (And.intro hz1 hz2)))
    have HS := hid (hs.below ((Below.refl w.heap.size w).alloc (Nat.le_refl _) (.cells #[] 63)))
    have q := eqnilV w (some x) n c
    clear hs hi hz0 hz1 hz2
    go_enter Tryd.func39, Tryd.ntmps39
    go_wp2_with (at_builtin; refine app_src _ rfl _ _ 36 rfl w.heap.size 63 i (.agg (cel (sValidator oValidator))) 86 128 Tryd.underlying36 II.out.1 II.out.2.1 II.out.2.2.1 II.out.2.2.2 (by show (cel _).size = _; rw [cel_size]; rfl) (by omega) _ 0 [] rfl (World.ownsRow_made _ #[] 0 (Nat.le_refl _) (Nat.zero_le _) rfl) _ _ _ news rfl HS.out (by unfold maxLen; omega) (by omega) (by simp) ?_; intro v6 w6 ho hg; obtain ⟨a6, c6, rfl⟩ := owns_form ho)
    go_ret
    rw [Nat.zero_add, List.nil_append] at ho
    exact ⟨a6, c6, rfl, ho, below_grownS ((Below.refl _ _).alloc (Nat.le_refl _) _) (World.ownsRow_made (e := 63) (size := 86) _ #[] 0 (Nat.le_refl _) (Nat.zero_le _) rfl) (by simp) hg⟩

theorem eqnilU (w : World) (a : Option Addr) (l c : Nat) : (binOp .eql 37 (.slice a l c) (.slice none 0 0)).run Tryd.prog w = .ok (.bool a.isNone) w := by
  simp only [binOp]
  simp [run_equal_slice_nil w 37 22 a l c Tryd.underlying37]

set_option maxHeartbeats 1000000 in
theorem clU (a : Option Addr) (n c : Nat) (news : List Value) (w : World) (hs : Src w 1 a n c news) (hb : n * 8 ≤ 140737488351232) :
    Calls Tryd.prog 40 #[.slice a n c] w fun e w' => ∃ a' c', e = .returned (.slice a' n c') ∧ w'.ownsRow w.heap.size 22 1 (.slice a' n c') n news ∧ Below w.heap.size w w' := by
  cases a with
  | none =>
    obtain ⟨rfl, rfl⟩ := hs.1 rfl
    obtain rfl : news = [] := List.length_eq_zero_iff.1 (by rw [hs.2.1, Nat.zero_mul])
    have q := eqnilU w none 0 0
    go_enter Tryd.func40, Tryd.ntmps40
    go_wp2
    go_ret
    exact ⟨none, 0, rfl, World.ownsRow_nil _ _ _ _, Below.refl _ _⟩
  | some x =>
    obtain ⟨i, hi, hz0, hz1, hz2⟩ := info_out (P := Tryd.prog) (t := 22) (z := .int .u64 0) (s := 1) (b := 8) (by kernel_rfl)
    have II := hid (And.intro hi (And.intro hz0 (And.intro hz1 hz2)))
    have HS := hid (hs.below ((Below.refl w.heap.size w).alloc (Nat.le_refl _) (.cells #[] 22)))
    have q := eqnilU w (some x) n c
    clear hs hi hz0 hz1 hz2
    go_enter Tryd.func40, Tryd.ntmps40
    go_wp2_with (at_builtin; refine app_src _ rfl _ _ 37 rfl w.heap.size 22 i (.int .u64 0) 1 8 Tryd.underlying37 II.out.1 II.out.2.1 II.out.2.2.1 II.out.2.2.2 (by rfl) (by omega) _ 0 [] rfl (World.ownsRow_made _ #[] 0 (Nat.le_refl _) (Nat.zero_le _) rfl) _ _ _ news rfl HS.out (by unfold maxLen; omega) (by omega) (by simp) ?_; intro v6 w6 ho hg; obtain ⟨a6, c6, rfl⟩ := owns_form ho)
    go_ret
    rw [Nat.zero_add, List.nil_append] at ho
    exact ⟨a6, c6, rfl, ho, below_grownS ((Below.refl _ _).alloc (Nat.le_refl _) _) (World.ownsRow_made (e := 22) (size := 1) _ #[] 0 (Nat.le_refl _) (Nat.zero_le _) rfl) (by simp) hg⟩

theorem eqnilB (w : World) (a : Option Addr) (l c : Nat) : (binOp .eql 39 (.slice a l c) (.slice none 0 0)).run Tryd.prog w = .ok (.bool a.isNone) w := by
  simp only [binOp]
  simp [run_equal_slice_nil w 39 5 a l c Tryd.underlying39]

set_option maxHeartbeats 1000000 in
theorem clB (a : Option Addr) (n c : Nat) (news : List Value) (w : World) (hs : Src w 1 a n c news) (hb : n * 1 ≤ 140737488351232) :
    Calls Tryd.prog 41 #[.slice a n c] w fun e w' => ∃ a' c', e = .returned (.slice a' n c') ∧ w'.ownsRow w.heap.size 5 1 (.slice a' n c') n news ∧ Below w.heap.size w w' := by
  cases a with
  | none =>
    obtain ⟨rfl, rfl⟩ := hs.1 rfl
    obtain rfl : news = [] := List.length_eq_zero_iff.1 (by rw [hs.2.1, Nat.zero_mul])
    have q := eqnilB w none 0 0
    go_enter Tryd.func41, Tryd.ntmps41
    go_wp2
    go_ret
    exact ⟨none, 0, rfl, World.ownsRow_nil _ _ _ _, Below.refl _ _⟩
  | some x =>
    obtain ⟨i, hi, hz0, hz1, hz2⟩ := info_out (P := Tryd.prog) (t := 5) (z := .int .u8 0) (s := 1) (b := 1) (by kernel_rfl)
    have II := hid (And.intro hi (And.intro hz0 (And.intro hz1 hz2)))
    have HS := hid (hs.below ((Below.refl w.heap.size w).alloc (Nat.le_refl _) (.cells #[] 5)))
    have q := eqnilB w (some x) n c
    clear hs hi hz0 hz1 hz2
    go_enter Tryd.func41, Tryd.ntmps41
    go_wp2_with (at_builtin; refine app_src _ rfl _ _ 39 rfl w.heap.size 5 i (.int .u8 0) 1 1 Tryd.underlying39 II.out.1 II.out.2.1 II.out.2.2.1 II.out.2.2.2 (by rfl) (by omega) _ 0 [] rfl (World.ownsRow_made _ #[] 0 (Nat.le_refl _) (Nat.zero_le _) rfl) _ _ _ news rfl HS.out (by unfold maxLen; omega) (by omega) (by simp) ?_; intro v6 w6 ho hg; obtain ⟨a6, c6, rfl⟩ := owns_form ho)
    go_ret
    rw [Nat.zero_add, List.nil_append] at ho
    exact ⟨a6, c6, rfl, ho, below_grownS ((Below.refl _ _).alloc (Nat.le_refl _) _) (World.ownsRow_made (e := 5) (size := 1) _ #[] 0 (Nat.le_refl _) (Nat.zero_le _) rfl) (by simp) hg⟩

end Go.Proofs.YtmapeodhcllimaaDoor
