/-
  The reach of a state that is handed in.
  What the reference's Next answers.
  Committees compared.
  What changes of a copied state do; who proposes in states that differ where it does not matter.
  States that are answered; a copy's fields and votes changed; votes compared.
  What the reference's domains, signing roots and Good answer.
  What the reference's Good, Message and Question answer.
-/
import Derived.Test.YtmapeodhcllimaaDoorStP
import Derived.Test.YtmapeodhcllimaaDoorPkB
import Derived.Test.YtmapeodhcllimaaDoorQG
import Derived.Test.YtmapeodhcllimaaDoorQD
import Derived.Test.YtmapeodhcllimaaDoorQH
import Derived.Test.YtmapeodhcllimaaDoorQC
import Derived.Test.YtmapeodhcllimaaDoorQN
import Derived.Test.YtmapeodhcllimaaDoorStY
import Derived.SizedLaws

import Derived.DeepKeys

namespace Go.Proofs.YtmapeodhcllimaaDoor

open Go.RowKit

set_option linter.unusedVariables false

set_option linter.unusedSimpArgs false

set_option maxRecDepth 20000

/-- How great the lists may be. -/
def Rch (x : VState) : Prop := x.f7.n * 32 ≤ 140737488351232 ∧ x.f9.n * 72 ≤ 140737488351232 ∧ x.f11.n * 128 ≤ 140737488351232 ∧ x.f12.n * 8 ≤ 140737488351232 ∧ x.f15.n ≤ 140737488351232 ∧ x.f16.n ≤ 140737488351232 ∧ x.f21.n * 8 ≤ 140737488351232

end Go.Proofs.YtmapeodhcllimaaDoor

namespace Go.Proofs.YtmapeodhcllimaaDoor

open Go.RowKit

set_option linter.unusedVariables false

set_option linter.unusedSimpArgs false

set_option maxRecDepth 20000

theorem lvKy_mid {w : World} {b o : Nat} {c : Nat → Int} (h : ∀ j, j < 48 → w.cell? ⟨b, o + j, none⟩ = some (.int .u8 (c j))) : (lvKy ⟨b, o, none⟩).run Tryd.prog w = .ok (.agg (vs .u8 48 c)) w := by
  have hr : w.rangeAt b o ((List.range 48).map fun i => Value.int .u8 (c i)) := by
    intro j v hj
    have hlt : j < 48 := by
      have := (List.getElem?_eq_some_iff.1 hj).1
      simpa using this
    rw [h j hlt]
    simp [hlt] at hj
    rw [hj]
  exact loadAt_var (run_loadAt_mid w b o 44 _ _ hr Tryd.underlying44 rfl (by rw [List.length_map, List.length_range]; kernel_rfl))

def bdC15 (ps : Array (Nat × Value)) : Sem Value := Instr.build 47 ps

theorem bdC15_eq (ps : Array (Nat × Value)) : Instr.build 47 ps = bdC15 ps := rfl

def ix45 (x i : Value) : Sem Value := Instr.indexAt 45 x i

theorem ix45_eq (x i : Value) : Instr.indexAt 45 x i = ix45 x i := rfl

attribute [local go_sem ↓] lvState_eq svState_eq bdState_eq lvValidator_eq svValidator_eq ixValidator_eq lvCommittee_eq svCommittee_eq bdC15_eq ixKy_eq lvKy_eq svKy_eq ix45_eq

end Go.Proofs.YtmapeodhcllimaaDoor

namespace Go.Proofs.YtmapeodhcllimaaDoor

open Go.RowKit

set_option linter.unusedVariables false

set_option linter.unusedSimpArgs false

set_option maxRecDepth 20000

theorem lits_u8 (d : Nat) (c : Int) (h : 0 ≤ c ∧ c < 256) : Tryd.prog.keyLits (d + 1) 5 [.int .u8 c] = some [.int .u8 c] := by
  have hw : (Lit.int .u8 c).wf = true := by
    have : IntKind.u8.min = 0 ∧ IntKind.u8.max = 255 := by decide
    simp [Lit.wf, this]
    omega
  simp [Program.keyLits, Tryd.underlying5, hw]

/-- The bytes of a row, from a place on. -/
theorem bl_part (f : Nat → Int) (n o k : Nat) (h : o + k ≤ n) : ((bl f n).drop o).take k = bl (fun j => f (o + j)) k := by
  apply List.ext_getElem?
  intro j
  rw [List.getElem?_take]
  by_cases hj : j < k
  · rw [if_pos hj, List.getElem?_drop]
    unfold bl
    rw [List.getElem?_map, List.getElem?_range (by omega), List.getElem?_map, List.getElem?_range hj]
    rfl
  · rw [if_neg hj]
    unfold bl
    rw [List.getElem?_eq_none (by simp; omega)]

end Go.Proofs.YtmapeodhcllimaaDoor

namespace Go.Proofs.YtmapeodhcllimaaDoor

open Go.RowKit

set_option linter.unusedVariables false

set_option linter.unusedSimpArgs false

set_option maxRecDepth 20000

theorem put_seg (l1 m m' l2 : List Seg) (hm : slen m' = slen m) : putL (cel (l1 ++ m ++ l2)) (slen l1) (celL m') = cel (l1 ++ m' ++ l2) := by
  have hs : slen (l1 ++ m ++ l2) = slen l1 + slen m + slen l2 := by
    rw [← celL_len, celL_app, celL_app, List.length_append, List.length_append, celL_len, celL_len, celL_len]
  rw [putL_eq _ _ _ (by rw [cel_size, celL_len, hm, hs]; omega), celL_len, hm, cel_put]

theorem celL_by (N : Nat) (u : Nat → Int) : celL [.by N u] = bl u N := by
  show (List.range N).map _ ++ [] = _
  rw [List.append_nil]
  rfl

theorem byte_at {w : World} {g : Nat} {t : TypeId} (l1 l2 : List Seg) (N : Nat) (f : Nat → Int) (h : w.heap[g]? = some (.cells (cel (l1 ++ [.by N f] ++ l2)) t)) (p : Nat) (hp : p < N) : w.cell? ⟨g, slen l1 + p, none⟩ = some (.int .u8 (f p)) := by
  rw [row_cell h]
  show (celL (l1 ++ [.by N f] ++ l2)).toArray[slen l1 + p]? = _
  rw [List.getElem?_toArray, celL_app, celL_app, List.append_assoc, List.getElem?_append_right (by rw [celL_len]; omega), celL_len, Nat.add_sub_cancel_left, celL_by, List.getElem?_append_left (by rw [bl_len]; exact hp)]
  unfold bl
  rw [List.getElem?_map, List.getElem?_range hp]
  rfl

theorem splitKA (x : VState) (u : Nat → Int) : sState { x with f1 := u } = (sState x).take 1 ++ [.by 32 u] ++ (sState x).drop 2 := by kernel_rfl

theorem len1 (x : VState) : slen ((sState x).take 1) = 1 := by kernel_rfl

theorem at1 {w : World} {g : Nat} {x : VState} {t : TypeId} (h : w.heap[g]? = some (.cells (cel (sState x)) t)) (p : Nat) (hp : p < 32) : w.cell? ⟨g, 1 + p, none⟩ = some (.int .u8 (x.f1 p)) := by
  have := byte_at ((sState x).take 1) ((sState x).drop 2) 32 x.f1 (t := t) (by rw [← splitKA]; exact h) p hp
  rw [len1] at this
  exact this

end Go.Proofs.YtmapeodhcllimaaDoor

namespace Go.Proofs.YtmapeodhcllimaaDoor

open Go.RowKit

set_option linter.unusedVariables false

set_option linter.unusedSimpArgs false

set_option maxRecDepth 20000

theorem SimF.refl (x : VState) : SimF x x := ⟨rfl, rfl, rfl, rfl, rfl, rfl, rfl, rfl, rfl, rfl, rfl, rfl, rfl, rfl, rfl, rfl, rfl, rfl, rfl, rfl, rfl, rfl, rfl, rfl, rfl, rfl, rfl, rfl, rfl, rfl, rfl⟩

theorem SimF.symm {x y : VState} (h : SimF x y) : SimF y x := ⟨h.e0.symm, h.e1.symm, h.e2.symm, h.e3.symm, h.e4.symm, h.e5.symm, h.e6.symm, h.l7.symm, h.z7.symm, h.e8.symm, h.l9.symm, h.z9.symm, h.e10.symm, h.l11.symm, h.z11.symm, h.l12.symm, h.z12.symm, h.e13.symm, h.e14.symm, h.l15.symm, h.z15.symm, h.l16.symm, h.z16.symm, h.e17.symm, h.e18.symm, h.e19.symm, h.e20.symm, h.l21.symm, h.z21.symm, h.e22.symm, h.e23.symm⟩

theorem SimF.trans {x y z : VState} (h : SimF x y) (k : SimF y z) : SimF x z := ⟨k.e0.trans h.e0, k.e1.trans h.e1, k.e2.trans h.e2, k.e3.trans h.e3, k.e4.trans h.e4, k.e5.trans h.e5, k.e6.trans h.e6, k.l7.trans h.l7, k.z7.trans h.z7, k.e8.trans h.e8, k.l9.trans h.l9, k.z9.trans h.z9, k.e10.trans h.e10, k.l11.trans h.l11, k.z11.trans h.z11, k.l12.trans h.l12, k.z12.trans h.z12, k.e13.trans h.e13, k.e14.trans h.e14, k.l15.trans h.l15, k.z15.trans h.z15, k.l16.trans h.l16, k.z16.trans h.z16, k.e17.trans h.e17, k.e18.trans h.e18, k.e19.trans h.e19, k.e20.trans h.e20, k.l21.trans h.l21, k.z21.trans h.z21, k.e22.trans h.e22, k.e23.trans h.e23⟩

theorem rightF {x X : VState} (h : SimF x X) : rightB X = rightB x := by
  unfold rightB fitB lensB timB
  rw [h.e2, h.e4, h.e10, h.e14, h.e18, h.e19, h.e20, h.l7, h.l9, h.l11, h.z11, h.l12, h.z12, h.l15, h.l16, h.l21, h.z21]

/-- Lists that lie from a block on; lists that lie in another block. -/
def NwL (B : Nat) (a : Option Addr) (n : Nat) : Prop := n = 0 ∨ ∃ ad, a = some ad ∧ B ≤ ad.block

def AwL (b : Nat) (a : Option Addr) (n : Nat) : Prop := n = 0 ∨ ∃ ad, a = some ad ∧ ad.block ≠ b

structure Nw (B : Nat) (X : VState) : Prop where
  p7 : NwL B X.f7.a X.f7.n
  p9 : NwL B X.f9.a X.f9.n
  p11 : NwL B X.f11.a X.f11.n
  p12 : NwL B X.f12.a X.f12.n
  p15 : NwL B X.f15.a X.f15.n
  p16 : NwL B X.f16.a X.f16.n
  p21 : NwL B X.f21.a X.f21.n

structure Aw (b : Nat) (X : VState) : Prop where
  q7 : AwL b X.f7.a X.f7.n
  q9 : AwL b X.f9.a X.f9.n
  q11 : AwL b X.f11.a X.f11.n
  q12 : AwL b X.f12.a X.f12.n
  q15 : AwL b X.f15.a X.f15.n
  q16 : AwL b X.f16.a X.f16.n
  q21 : AwL b X.f21.a X.f21.n

theorem NwL.aw {B b : Nat} {a : Option Addr} {n : Nat} (h : NwL B a n) (hb : b < B) : AwL b a n := by
  rcases h with h | ⟨ad, e, hB⟩
  · exact .inl h
  · exact .inr ⟨ad, e, by omega⟩

theorem NwL.mono {B C : Nat} {a : Option Addr} {n : Nat} (h : NwL B a n) (hb : C ≤ B) : NwL C a n := by
  rcases h with h | ⟨ad, e, hB⟩
  · exact .inl h
  · exact .inr ⟨ad, e, by omega⟩

theorem Nw.aw {B b : Nat} {X : VState} (h : Nw B X) (hb : b < B) : Aw b X := ⟨h.p7.aw hb, h.p9.aw hb, h.p11.aw hb, h.p12.aw hb, h.p15.aw hb, h.p16.aw hb, h.p21.aw hb⟩

theorem Nw.mono {B C : Nat} {X : VState} (h : Nw B X) (hb : C ≤ B) : Nw C X := ⟨h.p7.mono hb, h.p9.mono hb, h.p11.mono hb, h.p12.mono hb, h.p15.mono hb, h.p16.mono hb, h.p21.mono hb⟩

theorem rts_aw {w : World} {a : Option Addr} {n c : Nat} {f : Nat → Int} (h : Rts w a n c f) {b : Nat} (hb : w.heap.size ≤ b) : AwL b a n := by
  rcases h with ⟨_, h, _⟩ | ⟨_, _, h⟩ | ⟨k, off, e, _, hl, _⟩
  · exact .inl h
  · exact .inl h
  · exact .inr ⟨_, e, by show k ≠ b; omega⟩

theorem bys_aw {w : World} {a : Option Addr} {n c : Nat} {f : Nat → Int} (h : Bys w a n c f) {b : Nat} (hb : w.heap.size ≤ b) : AwL b a n := by
  rcases h with ⟨_, h, _⟩ | ⟨_, _, h⟩ | ⟨k, off, e, _, _, hl, _⟩
  · exact .inl h
  · exact .inl h
  · exact .inr ⟨_, e, by show k ≠ b; omega⟩

theorem els_aw {w : World} {a : Option Addr} {n k : Nat} {f : Nat → List Value} (h : Els w a n k f) {b : Nat} (hb : w.heap.size ≤ b) : AwL b a n := by
  rcases h with h | ⟨k, off, e, hl, _⟩
  · exact .inl h
  · exact .inr ⟨_, e, by show k ≠ b; omega⟩

theorem nms_aw {w : World} {a : Option Addr} {n : Nat} {f : Nat → Int} (h : Z.Nms .u64 w a n f) {b : Nat} (hb : w.heap.size ≤ b) : AwL b a n := by
  rcases h with h | ⟨k, off, e, hl, _⟩
  · exact .inl h
  · exact .inr ⟨_, e, by show k ≠ b; omega⟩

theorem InW.aw {w : World} {X : VState} (h : InW w X) {b : Nat} (hb : w.heap.size ≤ b) : Aw b X := ⟨rts_aw h.i7 hb, els_aw h.i9 hb, els_aw h.i11 hb, nms_aw h.i12 hb, bys_aw h.i15 hb, bys_aw h.i16 hb, nms_aw h.i21 hb⟩

theorem rts_kept {w w' : World} {a : Option Addr} {n c b : Nat} {f : Nat → Int} (h : Rts w a n c f) (ha : AwL b a n) (hk : Kept b w w') : Rts w' a n c f := by
  rcases h with h | h | ⟨k, off, e, h1, hl, hc⟩
  · exact .inl h
  · exact .inr (.inl h)
  · rcases ha with h0 | ⟨ad, e2, hne⟩
    · exact .inr (.inl ⟨_, e, h0⟩)
    · rw [e] at e2
      cases e2
      exact .inr (.inr ⟨k, off, e, h1, Nat.lt_of_lt_of_le hl hk.size, fun j hj => (hk.cell hl hne).trans (hc j hj)⟩)

theorem bys_kept {w w' : World} {a : Option Addr} {n c b : Nat} {f : Nat → Int} (h : Bys w a n c f) (ha : AwL b a n) (hk : Kept b w w') : Bys w' a n c f := by
  rcases h with h | h | ⟨k, off, e, h1, h2, hl, hc⟩
  · exact .inl h
  · exact .inr (.inl h)
  · rcases ha with h0 | ⟨ad, e2, hne⟩
    · subst h0
      exact .inr (.inr ⟨k, off, e, h1, h2, Nat.lt_of_lt_of_le hl hk.size, fun j hj => absurd hj (Nat.not_lt_zero _)⟩)
    · rw [e] at e2
      cases e2
      exact .inr (.inr ⟨k, off, e, h1, h2, Nat.lt_of_lt_of_le hl hk.size, fun j hj => (hk.cell hl hne).trans (hc j hj)⟩)

theorem els_kept {w w' : World} {a : Option Addr} {n k b : Nat} {f : Nat → List Value} (h : Els w a n k f) (ha : AwL b a n) (hk : Kept b w w') : Els w' a n k f := by
  rcases h with h | ⟨g, off, e, hl, hc⟩
  · exact .inl h
  · rcases ha with h0 | ⟨ad, e2, hne⟩
    · exact .inl h0
    · rw [e] at e2
      cases e2
      exact .inr ⟨g, off, e, Nat.lt_of_lt_of_le hl hk.size, fun i hi j u hj => (hk.cell hl hne).trans (hc i hi j u hj)⟩

theorem nms_kept {w w' : World} {a : Option Addr} {n b : Nat} {f : Nat → Int} (h : Z.Nms .u64 w a n f) (ha : AwL b a n) (hk : Kept b w w') : Z.Nms .u64 w' a n f := by
  rcases h with h | ⟨g, off, e, hl, hc⟩
  · exact .inl h
  · rcases ha with h0 | ⟨ad, e2, hne⟩
    · exact .inl h0
    · rw [e] at e2
      cases e2
      exact .inr ⟨g, off, e, Nat.lt_of_lt_of_le hl hk.size, fun i hi => (hk.cell hl hne).trans (hc i hi)⟩

theorem InW.kept {w w' : World} {X : VState} {b : Nat} (h : InW w X) (ha : Aw b X) (hk : Kept b w w') : InW w' X := ⟨rts_kept h.i7 ha.q7 hk, els_kept h.i9 ha.q9 hk, els_kept h.i11 ha.q11 hk, nms_kept h.i12 ha.q12 hk, bys_kept h.i15 ha.q15 hk, bys_kept h.i16 ha.q16 hk, nms_kept h.i21 ha.q21 hk⟩

/-- A state that was answered: its contents Y, its lists in new memory. -/
structure Res (B : Nat) (w : World) (Y X : VState) : Prop where
  sim : SimF Y X
  inw : InW w X
  nil : NilW X
  new : Nw B X

theorem Res.below {B : Nat} {w w' : World} {Y X : VState} (h : Res B w Y X) (hb : Below w.heap.size w w') : Res B w' Y X := ⟨h.sim, h.inw.below hb, h.nil, h.new⟩

theorem Res.to {B C : Nat} {w : World} {Y Z X : VState} (h : Res B w Y X) (hB : C ≤ B) (hs : SimF Z X) : Res C w Z X := ⟨hs, h.inw, h.nil, h.new.mono hB⟩

theorem nilO : NilW oState := ⟨fun _ => ⟨rfl, rfl⟩, fun _ => ⟨rfl, rfl⟩, fun _ => ⟨rfl, rfl⟩, fun _ => ⟨rfl, rfl⟩⟩

theorem inwO (w : World) : InW w oState := ⟨.inl ⟨rfl, rfl, rfl⟩, .inl rfl, .inl rfl, .inl rfl, .inl ⟨rfl, rfl, rfl⟩, .inl ⟨rfl, rfl, rfl⟩, .inl rfl⟩

theorem nwO (B : Nat) : Nw B oState := ⟨.inl rfl, .inl rfl, .inl rfl, .inl rfl, .inl rfl, .inl rfl, .inl rfl⟩

theorem resO (B : Nat) (w : World) : Res B w oState oState := ⟨.refl _, inwO w, nilO, nwO B⟩

theorem own_nil {w : World} {B k : Nat} {t : TypeId} {a : Option Addr} {n c : Nat} {xs : List Value} (h : w.ownsRow B t k (.slice a n c) n xs) (ha : a = none) : n = 0 ∧ c = 0 := by
  rcases h.2 with ⟨hv, h0⟩ | ⟨g, cap, cur, hv, _⟩
  · cases hv; exact ⟨h0, rfl⟩
  · cases hv; cases ha

theorem CpdF.nil {B : Nat} {w : World} {X : VState} (h : CpdF B w X) : NilW X := ⟨own_nil h.o9, own_nil h.o11, own_nil h.o12, own_nil h.o21⟩

theorem own_nw {w : World} {B k : Nat} {t : TypeId} {a : Option Addr} {n c : Nat} {xs : List Value} (h : w.ownsRow B t k (.slice a n c) n xs) : NwL B a n := by
  rcases own_range h with h0 | ⟨g, e, hB, _⟩
  · exact .inl h0
  · exact .inr ⟨_, e, hB⟩

theorem CpdF.nw {B : Nat} {w : World} {X : VState} (h : CpdF B w X) : Nw B X := ⟨own_nw h.o7, own_nw h.o9, own_nw h.o11, own_nw h.o12, own_nw h.o15, own_nw h.o16, own_nw h.o21⟩

theorem BF.res {w V : World} {y : Nat} {Y : VState} (h : BF w y V Y) : Res w.heap.size V Y Y := ⟨.refl _, h.inW, h.cpd.nil, h.cpd.nw⟩

/-- Cells of the state itself changed, its lists left where they are. -/
theorem BF.cells {w V : World} {y : Nat} {Y Y' : VState} (h : BF w y V Y) (hy : w.heap.size ≤ y) (o : Nat) (l : List Value) (he : putL (cel (sState Y)) o l = cel (sState Y')) (e7 : Y'.f7 = Y.f7) (e9 : Y'.f9 = Y.f9) (e11 : Y'.f11 = Y.f11) (e12 : Y'.f12 = Y.f12) (e15 : Y'.f15 = Y.f15) (e16 : Y'.f16 = Y.f16) (e21 : Y'.f21 = Y.f21) : BF w y (V.setCells y o l) Y' := by
  have hk : Kept y V (V.setCells y o l) := setCells_kept l o (Kept.refl y V)
  refine ⟨h.bel.trans (hk.below hy h.bel.size), (setCells_row l o h.row).trans (congrArg (fun c => some (Obj.cells c 49)) he), ⟨?_, ?_, ?_, ?_, ?_, ?_, ?_, ?_, ?_⟩⟩
  · rw [e7]; exact own_keptB h.cpd.o7 hk (own_ne h.cpd.o7 h.row (by decide))
  · rw [e9]; exact own_keptB h.cpd.o9 hk (own_ne h.cpd.o9 h.row (by decide))
  · rw [e11]; exact own_keptB h.cpd.o11 hk (own_ne h.cpd.o11 h.row (by decide))
  · rw [e12]; exact own_keptB h.cpd.o12 hk (own_ne h.cpd.o12 h.row (by decide))
  · rw [e15]; exact own_keptB h.cpd.o15 hk (own_ne h.cpd.o15 h.row (by decide))
  · rw [e16]; exact own_keptB h.cpd.o16 hk (own_ne h.cpd.o16 h.row (by decide))
  · rw [e21]; exact own_keptB h.cpd.o21 hk (own_ne h.cpd.o21 h.row (by decide))
  · rw [e15, e16]; exact h.cpd.d15
  · rw [e12, e21]; exact h.cpd.d12

theorem flat_same {e e' : Nat → List Value} : ∀ n, (∀ i, i < n → e i = e' i) → flat e n = flat e' n
  | 0, _ => rfl
  | n + 1, h => by
    show flat e n ++ e n = flat e' n ++ e' n
    rw [flat_same n fun i hi => h i (by omega), h n (by omega)]

/-- Literals of bytes. -/
def litR (f : Nat → Int) (n : Nat) : List Lit := (List.range n).map fun j => Lit.int .u8 (f j)

theorem mapM_is {α β : Type} {f : α → Option β} {g : α → β} : ∀ {l : List α}, (∀ i ∈ l, f i = some (g i)) → l.mapM f = some (l.map g)
  | [], _ => by simp
  | i :: l, h => by
    have h1 := h i (List.mem_cons_self ..)
    have h2 := mapM_is (l := l) fun j hj => h j (List.mem_cons_of_mem _ hj)
    simp [List.mapM_cons, h1, h2]

theorem flat_sing {α β : Type} (g : α → β) : ∀ l : List α, (l.map fun i => [g i]).flatten = l.map g
  | [] => rfl
  | i :: l => by
    show [g i] ++ (l.map fun i => [g i]).flatten = _
    rw [flat_sing g l]
    rfl

theorem lits_by {t : TypeId} {n : Nat} (hu : Tryd.prog.underlying t = some (.array n 5)) (hc : Tryd.prog.cellsOf t = n) (d : Nat) (f : Nat → Int) (h : ∀ j, j < n → 0 ≤ f j ∧ f j < 256) : Tryd.prog.keyLits (d + 2) t (bl f n) = some (litR f n) := by
  have c1 : Tryd.prog.cellsOf 5 = 1 := by kernel_rfl
  have e : (List.range n).mapM (fun i => Tryd.prog.keyLits (d + 1) 5 (((bl f n).drop (i * Tryd.prog.cellsOf 5)).take (Tryd.prog.cellsOf 5))) = some ((List.range n).map fun i => [Lit.int .u8 (f i)]) := mapM_is fun i hi => by
    have hi := List.mem_range.1 hi
    rw [c1, Nat.mul_one, bl_part f n i 1 (by omega)]
    exact lits_u8 d (f (i + 0)) (h i hi)
  unfold Program.keyLits
  rw [hu]
  show (if (bl f n).length = Tryd.prog.cellsOf t then _ else none) = _
  rw [if_pos (by rw [bl_len, hc]), e]
  exact congrArg some (flat_sing (fun i => Lit.int .u8 (f i)) (List.range n))

theorem lits_u64 (d : Nat) (c : Int) (h : 0 ≤ c ∧ c < 18446744073709551616) : Tryd.prog.keyLits (d + 1) 22 [.int .u64 c] = some [.int .u64 c] := by
  have hw : (Lit.int .u64 c).wf = true := by
    have : IntKind.u64.min = 0 ∧ IntKind.u64.max = 18446744073709551615 := by decide
    simp [Lit.wf, this]
    omega
  simp [Program.keyLits, Tryd.underlying22, hw]

/-- '==' of votes, kept whole. -/
def eqoE (x y : Value) : Sem Value := binOp .eql 34 x y

theorem eqoE_eq (x y : Value) : binOp .eql 34 x y = eqoE x y := rfl

end Go.Proofs.YtmapeodhcllimaaDoor

namespace Go.Proofs.YtmapeodhcllimaaDoor

open Go.RowKit

set_option linter.unusedVariables false

set_option linter.unusedSimpArgs false

set_option maxRecDepth 20000

/-- A version, loaded; versions and roots built. -/
def lvVer (a : Addr) : Sem Value := loadVar 26 a

theorem lvVer_eq (a : Addr) : loadVar 26 a = lvVer a := rfl

theorem lvVer_mid {w : World} {b o : Nat} {c : Nat → Int} (h : ∀ j, j < 4 → w.cell? ⟨b, o + j, none⟩ = some (.int .u8 (c j))) : (lvVer ⟨b, o, none⟩).run Tryd.prog w = .ok (.agg (vs .u8 4 c)) w := by
  have hr : w.rangeAt b o ((List.range 4).map fun i => Value.int .u8 (c i)) := by
    intro j v hj
    have hlt : j < 4 := by
      have := (List.getElem?_eq_some_iff.1 hj).1
      simpa using this
    rw [h j hlt]
    simp [hlt] at hj
    rw [hj]
  exact loadAt_var (run_loadAt_mid w b o 26 _ _ hr Tryd.underlying26 rfl (by rw [List.length_map, List.length_range]; kernel_rfl))

def bdVer (ps : Array (Nat × Value)) : Sem Value := Instr.build 26 ps

theorem bdVer_eq (ps : Array (Nat × Value)) : Instr.build 26 ps = bdVer ps := rfl

theorem bdVer_0 (W : World) : (bdVer #[]).run Tryd.prog W = .ok (.agg (vs .u8 4 fun _ => 0)) W := by kernel_rfl

def bdRo (ps : Array (Nat × Value)) : Sem Value := Instr.build 24 ps

theorem bdRo_eq (ps : Array (Nat × Value)) : Instr.build 24 ps = bdRo ps := rfl

theorem bdRo_0 (W : World) : (bdRo #[]).run Tryd.prog W = .ok (.agg (vs .u8 32 fun _ => 0)) W := by kernel_rfl

theorem cS42 {w : World} {g : Nat} {x : VState} {t : TypeId} (h : w.heap[g]? = some (.cells (cel (sState x)) t)) : w.cell? ⟨g, 42, none⟩ = some (.int .u64 x.f3.f2) := seg_nu h 5 x.f3.f2 (by kernel_rfl) 42 (by kernel_rfl)

theorem splitF3 (x : VState) : sState x = (sState x).take 3 ++ [.by 4 x.f3.f0] ++ (sState x).drop 4 := by kernel_rfl

theorem splitF4 (x : VState) : sState x = (sState x).take 4 ++ [.by 4 x.f3.f1] ++ (sState x).drop 5 := by kernel_rfl

theorem len3 (x : VState) : slen ((sState x).take 3) = 34 := by kernel_rfl

theorem len4 (x : VState) : slen ((sState x).take 4) = 38 := by kernel_rfl

theorem at3 {w : World} {g : Nat} {x : VState} {t : TypeId} (h : w.heap[g]? = some (.cells (cel (sState x)) t)) (p : Nat) (hp : p < 4) : w.cell? ⟨g, 34 + p, none⟩ = some (.int .u8 (x.f3.f0 p)) := by
  have := byte_at ((sState x).take 3) ((sState x).drop 4) 4 x.f3.f0 (t := t) (by rw [← splitF3]; exact h) p hp
  rw [len3] at this
  exact this

theorem at4 {w : World} {g : Nat} {x : VState} {t : TypeId} (h : w.heap[g]? = some (.cells (cel (sState x)) t)) (p : Nat) (hp : p < 4) : w.cell? ⟨g, 38 + p, none⟩ = some (.int .u8 (x.f3.f1 p)) := by
  have := byte_at ((sState x).take 4) ((sState x).drop 5) 4 x.f3.f1 (t := t) (by rw [← splitF4]; exact h) p hp
  rw [len4] at this
  exact this

attribute [local go_sem ↓] lvState_eq svState_eq bdState_eq sv24_eq lv24_eq sv8_eq ix22_eq lvVer_eq bdVer_eq bdRo_eq

end Go.Proofs.YtmapeodhcllimaaDoor

namespace Go.Proofs.YtmapeodhcllimaaDoor

open Go.RowKit

set_option linter.unusedVariables false

set_option linter.unusedSimpArgs false

set_option maxRecDepth 20000

theorem bsR3 (W : World) (a b c : Nat → Int) : (bs22 3 #[(0, .agg (vs .u8 32 a)), (1, .agg (vs .u8 32 b)), (2, .agg (vs .u8 32 c))]).run Tryd.prog W = .ok (.slice (some ⟨W.heap.size, 0, none⟩) 3 3) (W.alloc (.cells (vs .u8 96 (fl7 [a, b, c])) 24)) := by kernel_rfl

attribute [local go_sem ↓] sv24_eq lv24_eq sv8_eq ix22_eq bs22_eq

theorem cD2 {w : World} {g : Nat} {d : VDepositData} {t : TypeId} (h : w.heap[g]? = some (.cells (cel (sDepositData d)) t)) : w.cell? ⟨g, 80, none⟩ = some (.int .u64 d.f2) := seg_nu h 2 d.f2 (by kernel_rfl) 80 (by kernel_rfl)

theorem cD0 {w : World} {g : Nat} {d : VDepositData} {t : TypeId} (h : w.heap[g]? = some (.cells (cel (sDepositData d)) t)) (p : Nat) (hp : p < 48) : w.cell? ⟨g, p, none⟩ = some (.int .u8 (d.f0 p)) := by
  have := byte_at [] [.by 32 d.f1, .nu d.f2, .by 96 d.f3] 48 d.f0 (t := t) h p hp
  rw [show slen [] + p = p from Nat.zero_add p] at this
  exact this

theorem cD1 {w : World} {g : Nat} {d : VDepositData} {t : TypeId} (h : w.heap[g]? = some (.cells (cel (sDepositData d)) t)) (p : Nat) (hp : p < 32) : w.cell? ⟨g, 48 + p, none⟩ = some (.int .u8 (d.f1 p)) := byte_at [.by 48 d.f0] [.nu d.f2, .by 96 d.f3] 32 d.f1 (t := t) h p hp

theorem tvV_bd {f : Nat → Int} {len : Nat} {n : Int} (hf : ByB f (32 * len)) (j : Nat) (hj : j < 32) : 0 ≤ treeV f len n j ∧ treeV f len n j < 256 := by
  unfold treeV
  split
  · exact nd_bd hf _ _ j hj
  · exact ⟨Int.le_refl _, by show (0 : Int) < 256; decide⟩

end Go.Proofs.YtmapeodhcllimaaDoor
