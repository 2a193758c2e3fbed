/- A part. -/
import Derived.Test.YtopnhpllidegnaaGreatDoorQG
import Derived.Test.YtopnhpllidegnaaGreatDoorStQ
import Derived.BigRegion
namespace Go.Proofs.YtopnhpllidegnaaGreatDoor
open Go.RowKit
set_option linter.unusedVariables false
set_option linter.unusedSimpArgs false
set_option maxRecDepth 20000
structure BF (w : World) (y : Nat) (V : World) (Y : VState) : Prop where
 bel : Below w.heap.size w V
 row : V.heap[y]? = some (.cells (cel (sState Y)) 49)
 cpd : CpdF w.heap.size V Y
theorem own_byF {w : World} {B : Nat} {a : Option Addr} {n c : Nat} {z : Nat → Int} (h : w.ownsRow B 5 1 (.slice a n c) n (bl z n)) : Bys w a n c z := by
 obtain ⟨a', c', e, hb⟩ := own_at h
 cases e
 exact hb
theorem own_rtF {w : World} {B : Nat} {a : Option Addr} {n c : Nat} {z : Nat → Int} (h : w.ownsRow B 24 32 (.slice a n c) n (bl z (32 * n))) : Rts w a n c z := by
 rcases h.2 with ⟨hv, h0⟩ | ⟨g, cap, cur, hv, hB, hg, h1, h2, hs, ht⟩
 ·cases hv
  exact .inl ⟨rfl, rfl, rfl⟩
 ·cases hv
  refine .inr (.inr ⟨g, 0, rfl, h1, some_lt hg, fun j hj => ?_⟩)
  have := bl_at z (32 * n) j hj
  rw [← ht, List.getElem?_take_of_lt (by omega), Array.getElem?_toList] at this
  rw [Nat.zero_add, row_cell hg, this]
theorem BF.inW {w : World} {y : Nat} {V : World} {Y : VState} (h : BF w y V Y) : InW V Y :=
 ⟨own_rtF h.cpd.o7, own_els h.cpd.o9 (fun i => by rw [celL_len]; rfl), own_els h.cpd.o11 (fun i => by rw [celL_len]; rfl), own_nms h.cpd.o12, own_byF h.cpd.o15, own_byF h.cpd.o16, own_nms h.cpd.o21⟩
theorem CpdF.below {B : Nat} {V V' : World} {Y : VState} (h : CpdF B V Y) (hb : Below V.heap.size V V') : CpdF B V' Y :=
 ⟨ownsRow_below h.o7 hb, ownsRow_below h.o9 hb, ownsRow_below h.o11 hb, ownsRow_below h.o12 hb, ownsRow_below h.o15 hb, ownsRow_below h.o16 hb, ownsRow_below h.o21 hb, h.d15, h.d12⟩
theorem BF.below {w V V' : World} {y : Nat} {Y : VState} (h : BF w y V Y) (hb : Below V.heap.size V V') : BF w y V' Y :=
 ⟨h.bel.trans (hb.mono h.bel.size), (hb.block y (some_lt h.row)).trans h.row, h.cpd.below hb⟩
theorem BF.drew {w V : World} {y : Nat} {Y : VState} (h : BF w y V Y) : BF w y V.drew Y := h.below ((Below.refl _ _).drew)
theorem BF.setY {w V : World} {y : Nat} {Y Y' : VState} (h : BF w y V Y) (hy : w.heap.size ≤ y) (i : Nat) (v : Value) (he : (cel (sState Y)).setIfInBounds i v = cel (sState Y')) (e7 : Y'.f7 = Y.f7) (e9 : Y'.f9 = Y.f9) (e11 : Y'.f11 = Y.f11) (e12 : Y'.f12 = Y.f12) (e15 : Y'.f15 = Y.f15) (e16 : Y'.f16 = Y.f16) (e21 : Y'.f21 = Y.f21) : BF w y (V.setCell ⟨y, i, none⟩ v) Y' := by
 have hk : Kept y V (V.setCell ⟨y, i, none⟩ v) := (Kept.refl y V).setCell _ _
 refine ⟨h.bel.trans (hk.below hy h.bel.size), (row_set h.row i v).trans (congrArg (fun c => some (Obj.cells c 49)) he), ⟨?_, ?_, ?_, ?_, ?_, ?_, ?_, ?_, ?_⟩⟩
 ·rw [e7]
  exact own_keptB h.cpd.o7 hk (own_ne h.cpd.o7 h.row (by decide))
 ·rw [e9]
  exact own_keptB h.cpd.o9 hk (own_ne h.cpd.o9 h.row (by decide))
 ·rw [e11]
  exact own_keptB h.cpd.o11 hk (own_ne h.cpd.o11 h.row (by decide))
 ·rw [e12]
  exact own_keptB h.cpd.o12 hk (own_ne h.cpd.o12 h.row (by decide))
 ·rw [e15]
  exact own_keptB h.cpd.o15 hk (own_ne h.cpd.o15 h.row (by decide))
 ·rw [e16]
  exact own_keptB h.cpd.o16 hk (own_ne h.cpd.o16 h.row (by decide))
 ·rw [e21]
  exact own_keptB h.cpd.o21 hk (own_ne h.cpd.o21 h.row (by decide))
 ·rw [e15, e16]
  exact h.cpd.d15
 ·rw [e12, e21]
  exact h.cpd.d12
theorem own_grown {w w' : World} {B B' k k' : Nat} {t t' : TypeId} {v v' : Value} {n n' : Nat} {xs xs' : List Value} (h : w.ownsRow B t k v n xs) (h' : w.ownsRow B' t' k' v' n' xs') (hg : w.grownBy w' v'.ownBlock) (hne : t ≠ t' ∨ ∀ b, v.ownBlock = some b → v'.ownBlock ≠ some b) : w'.ownsRow B t k v n xs := by
 refine h.kept hg ?_
 rcases h'.2 with ⟨h0, _⟩ | ⟨g, cap, cur, h0, _, hc, _⟩
 ·rw [h0]
  cases v.ownBlock with
  | none => exact .inl rfl
  | some b => exact .inr (fun e => by cases e)
 ·rw [h0]
  refine .inr ?_
  rcases hne with ht | hd
  ·exact own_ne h hc ht
  ·exact fun e => hd g e (by rw [h0]; rfl)
theorem cel_by_set (l1 l2 : List Seg) (N p : Nat) (g : Nat → Int) (v : Int) (h : p < N) : (cel (l1 ++ [.by N g] ++ l2)).setIfInBounds (slen l1 + p) (.int .u8 v) = cel (l1 ++ [.by N (fun j => if j = p then v else g j)] ++ l2) := by
 have e : ∀ u, celL [.by N u] = bl u N := fun u => by
  show (List.range N).map _ ++ [] = _
  rw [List.append_nil]
  rfl
 have hb : (bl g N).set p (.int .u8 v) = bl (fun j => if j = p then v else g j) N := by
  apply List.ext_getElem?
  intro j
  rw [List.getElem?_set]
  by_cases h1 : j < N
  ·by_cases h2 : p = j
   ·subst h2
    rw [if_pos rfl, if_pos (by rw [bl_len]; exact h), bl_at _ _ _ h, if_pos rfl]
   ·rw [if_neg h2, bl_at _ _ _ h1, bl_at _ _ _ h1, if_neg (fun e => h2 e.symm)]
  ·rw [if_neg (by omega), List.getElem?_eq_none (by rw [bl_len]; omega), List.getElem?_eq_none (by rw [bl_len]; omega)]
 unfold cel
 rw [celL_app, celL_app, celL_app, celL_app, e, e, ← hb, ← celL_len l1]
 simp only [List.setIfInBounds_toArray, List.append_assoc]
 rw [List.set_append_right _ _ (by omega), Nat.add_sub_cancel_left, List.set_append_left _ _ (by rw [bl_len]; exact h)]
theorem st_13 (x : VState) (p : Nat) (hp : p < 256) (v : Int) : (cel (sState x)).setIfInBounds (723 + p) (.int .u8 v) = cel (sState { x with f13 := fun j => if j = p then v else x.f13 j }) := by
 have e := cel_by_set ((sState x).take 21) ((sState x).drop 22) 256 p x.f13 v hp
 rw [show slen ((sState x).take 21) = 723 by kernel_rfl, show (sState x).take 21 ++ [Seg.by 256 x.f13] ++ (sState x).drop 22 = sState x by kernel_rfl, show ∀ u, (sState x).take 21 ++ [Seg.by 256 u] ++ (sState x).drop 22 = sState { x with f13 := u } from fun u => by kernel_rfl] at e
 exact e
theorem mix_at {w : World} {g : Nat} {x : VState} {t : TypeId} (h : w.heap[g]? = some (.cells (cel (sState x)) t)) (p : Nat) (hp : p < 256) : w.cell? ⟨g, 723 + p, none⟩ = some (.int .u8 (x.f13 p)) := by
 obtain ⟨b, off, e, _, _, hc⟩ := bys_at (cS13 h) (by omega)
 cases e
 exact hc p hp
theorem okF_sim {x X : VState} (h : SimF x X) (hx : OkState x) : OkState X := by
 refine ⟨by rw [h.e0]; exact hx.o0, by rw [h.e1]; exact hx.o1, by rw [h.e2]; exact hx.o2, by rw [h.e3]; exact hx.o3, by rw [h.e4]; exact hx.o4, by rw [h.e5]; exact hx.o5, by rw [h.e6]; exact hx.o6, fun j hj => by rw [h.z7]; exact hx.o7 j (by rw [← h.l7]; exact hj), by rw [h.e8]; exact hx.o8, fun j hj => by rw [h.z9]; exact hx.o9 j (by rw [← h.l9]; exact hj), by rw [h.e10]; exact hx.o10, fun j hj => by rw [h.z11]; exact hx.o11 j (by rw [← h.l11]; exact hj), fun j hj => by rw [h.z12]; exact hx.o12 j (by rw [← h.l12]; exact hj), by rw [h.e13]; exact hx.o13, by rw [h.e14]; exact hx.o14, fun j hj => by rw [h.z15]; exact hx.o15 j (by rw [← h.l15]; exact hj), fun j hj => by rw [h.z16]; exact hx.o16 j (by rw [← h.l16]; exact hj), by rw [h.e18]; exact hx.o18, by rw [h.e19]; exact hx.o19, by rw [h.e20]; exact hx.o20, fun j hj => by rw [h.z21]; exact hx.o21 j (by rw [← h.l21]; exact hj), by rw [h.e22]; exact hx.o22, by rw [h.e23]; exact hx.o23⟩
theorem mS_sim {x X : VState} (h : SimF x X) : qS X = qS x := by
 unfold qS
 rw [h.e0, h.e1, h.e2, h.e3, h.e4, h.e5, h.e6, h.l7, h.z7, h.e8, h.l9, h.z9, h.e10, h.l11, h.z11, h.l12, h.z12, h.e13, h.e14, h.l15, h.z15, h.l16, h.z16, h.e17, h.e18, h.e19, h.e20, h.l21, h.z21, h.e22, h.e23]
theorem fit_sim {x X : VState} (h : SimF x X) : fitB X = fitB x := by
 unfold fitB
 rw [h.l7, h.l9, h.l11, h.l12, h.l15, h.l16, h.l21]
end Go.Proofs.YtopnhpllidegnaaGreatDoor
