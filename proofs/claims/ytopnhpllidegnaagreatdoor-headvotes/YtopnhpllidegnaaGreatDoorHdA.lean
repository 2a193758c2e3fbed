/- A part. -/
import Derived.Test.YtopnhpllidegnaaGreatDoorSuC
import Derived.Test.YtopnhpllidegnaaGreatDoorSuE
import Derived.Test.YtopnhpllidegnaaGreatDoorStS
import Derived.Test.YtopnhpllidegnaaGreatDoorStY
import Derived.Test.YtopnhpllidegnaaGreatDoorQL
namespace Go.Proofs.YtopnhpllidegnaaGreatDoor
open Go.RowKit
set_option linter.unusedVariables false
set_option linter.unusedSimpArgs false
set_option maxRecDepth 20000
theorem SimF.refl (x : VState) : SimF x x := ⟨rfl, rfl, rfl, rfl, rfl, rfl, rfl, rfl, rfl, rfl, rfl, rfl, rfl, rfl, rfl, rfl, rfl, rfl, rfl, rfl, rfl, rfl, rfl, rfl, rfl, rfl, rfl, rfl, rfl, rfl, rfl⟩
theorem SimF.symm {x y : VState} (h : SimF x y) : SimF y x := ⟨h.e0.symm, h.e1.symm, h.e2.symm, h.e3.symm, h.e4.symm, h.e5.symm, h.e6.symm, h.l7.symm, h.z7.symm, h.e8.symm, h.l9.symm, h.z9.symm, h.e10.symm, h.l11.symm, h.z11.symm, h.l12.symm, h.z12.symm, h.e13.symm, h.e14.symm, h.l15.symm, h.z15.symm, h.l16.symm, h.z16.symm, h.e17.symm, h.e18.symm, h.e19.symm, h.e20.symm, h.l21.symm, h.z21.symm, h.e22.symm, h.e23.symm⟩
theorem SimF.trans {x y z : VState} (h : SimF x y) (k : SimF y z) : SimF x z := ⟨k.e0.trans h.e0, k.e1.trans h.e1, k.e2.trans h.e2, k.e3.trans h.e3, k.e4.trans h.e4, k.e5.trans h.e5, k.e6.trans h.e6, k.l7.trans h.l7, k.z7.trans h.z7, k.e8.trans h.e8, k.l9.trans h.l9, k.z9.trans h.z9, k.e10.trans h.e10, k.l11.trans h.l11, k.z11.trans h.z11, k.l12.trans h.l12, k.z12.trans h.z12, k.e13.trans h.e13, k.e14.trans h.e14, k.l15.trans h.l15, k.z15.trans h.z15, k.l16.trans h.l16, k.z16.trans h.z16, k.e17.trans h.e17, k.e18.trans h.e18, k.e19.trans h.e19, k.e20.trans h.e20, k.l21.trans h.l21, k.z21.trans h.z21, k.e22.trans h.e22, k.e23.trans h.e23⟩
theorem rE_sim {x X : VState} (h : SimF x X) : rE X = rE x := by unfold rE; rw [fit_sim h]
theorem rS_sim {x X : VState} (h : SimF x X) : rS X = rS x := by
 have e : mS X = mS x := by
  unfold mS pF pL
  rw [mS_sim h]
 have l : tL X = tL x := by
  unfold tL pL
  rw [mS_sim h]
 unfold rS
 rw [fit_sim h, e, l]
theorem rightF {x X : VState} (h : SimF x X) : rightB X = rightB x := by
 unfold rightB fitB lensB timB
 rw [h.e2, h.e4, h.e10, h.e14, h.e18, h.e19, h.e20, h.l7, h.l9, h.l11, h.z11, h.l12, h.z12, h.l15, h.l16, h.l21, h.z21]
def NwL (B : Nat) (a : Option Addr) (n : Nat) : Prop := n = 0 ∨ ∃ ad, a = some ad ∧ B ≤ ad.block
def AwL (b : Nat) (a : Option Addr) (n : Nat) : Prop := n = 0 ∨ ∃ ad, a = some ad ∧ ad.block ≠ b
structure Nw (B : Nat) (X : VState) : Prop where
 p7 : NwL B X.f7.a X.f7.n
 p9 : NwL B X.f9.a X.f9.n
 p11 : NwL B X.f11.a X.f11.n
 p12 : NwL B X.f12.a X.f12.n
 p15 : NwL B X.f15.a X.f15.n
 p16 : NwL B X.f16.a X.f16.n
 p21 : NwL B X.f21.a X.f21.n
structure Aw (b : Nat) (X : VState) : Prop where
 q7 : AwL b X.f7.a X.f7.n
 q9 : AwL b X.f9.a X.f9.n
 q11 : AwL b X.f11.a X.f11.n
 q12 : AwL b X.f12.a X.f12.n
 q15 : AwL b X.f15.a X.f15.n
 q16 : AwL b X.f16.a X.f16.n
 q21 : AwL b X.f21.a X.f21.n
theorem NwL.aw {B b : Nat} {a : Option Addr} {n : Nat} (h : NwL B a n) (hb : b < B) : AwL b a n := by
 rcases h with h | ⟨ad, e, hB⟩
 ·exact .inl h
 ·exact .inr ⟨ad, e, by omega⟩
theorem NwL.mono {B C : Nat} {a : Option Addr} {n : Nat} (h : NwL B a n) (hb : C ≤ B) : NwL C a n := by
 rcases h with h | ⟨ad, e, hB⟩
 ·exact .inl h
 ·exact .inr ⟨ad, e, by omega⟩
theorem Nw.aw {B b : Nat} {X : VState} (h : Nw B X) (hb : b < B) : Aw b X := ⟨h.p7.aw hb, h.p9.aw hb, h.p11.aw hb, h.p12.aw hb, h.p15.aw hb, h.p16.aw hb, h.p21.aw hb⟩
theorem Nw.mono {B C : Nat} {X : VState} (h : Nw B X) (hb : C ≤ B) : Nw C X := ⟨h.p7.mono hb, h.p9.mono hb, h.p11.mono hb, h.p12.mono hb, h.p15.mono hb, h.p16.mono hb, h.p21.mono hb⟩
theorem rts_aw {w : World} {a : Option Addr} {n c : Nat} {f : Nat → Int} (h : Rts w a n c f) {b : Nat} (hb : w.heap.size ≤ b) : AwL b a n := by
 rcases h with ⟨_, h, _⟩ | ⟨_, _, h⟩ | ⟨k, off, e, _, hl, _⟩
 ·exact .inl h
 ·exact .inl h
 ·exact .inr ⟨_, e, by show k ≠ b; omega⟩
theorem bys_aw {w : World} {a : Option Addr} {n c : Nat} {f : Nat → Int} (h : Bys w a n c f) {b : Nat} (hb : w.heap.size ≤ b) : AwL b a n := by
 rcases h with ⟨_, h, _⟩ | ⟨_, _, h⟩ | ⟨k, off, e, _, _, hl, _⟩
 ·exact .inl h
 ·exact .inl h
 ·exact .inr ⟨_, e, by show k ≠ b; omega⟩
theorem els_aw {w : World} {a : Option Addr} {n k : Nat} {f : Nat → List Value} (h : Els w a n k f) {b : Nat} (hb : w.heap.size ≤ b) : AwL b a n := by
 rcases h with h | ⟨k, off, e, hl, _⟩
 ·exact .inl h
 ·exact .inr ⟨_, e, by show k ≠ b; omega⟩
theorem nms_aw {w : World} {a : Option Addr} {n : Nat} {f : Nat → Int} (h : Z.Nms .u64 w a n f) {b : Nat} (hb : w.heap.size ≤ b) : AwL b a n := by
 rcases h with h | ⟨k, off, e, hl, _⟩
 ·exact .inl h
 ·exact .inr ⟨_, e, by show k ≠ b; omega⟩
theorem InW.aw {w : World} {X : VState} (h : InW w X) {b : Nat} (hb : w.heap.size ≤ b) : Aw b X := ⟨rts_aw h.i7 hb, els_aw h.i9 hb, els_aw h.i11 hb, nms_aw h.i12 hb, bys_aw h.i15 hb, bys_aw h.i16 hb, nms_aw h.i21 hb⟩
theorem rts_kept {w w' : World} {a : Option Addr} {n c b : Nat} {f : Nat → Int} (h : Rts w a n c f) (ha : AwL b a n) (hk : Kept b w w') : Rts w' a n c f := by
 rcases h with h | h | ⟨k, off, e, h1, hl, hc⟩
 ·exact .inl h
 ·exact .inr (.inl h)
 ·rcases ha with h0 | ⟨ad, e2, hne⟩
  ·exact .inr (.inl ⟨_, e, h0⟩)
  ·rw [e] at e2
   cases e2
   exact .inr (.inr ⟨k, off, e, h1, Nat.lt_of_lt_of_le hl hk.size, fun j hj => (hk.cell hl hne).trans (hc j hj)⟩)
theorem bys_kept {w w' : World} {a : Option Addr} {n c b : Nat} {f : Nat → Int} (h : Bys w a n c f) (ha : AwL b a n) (hk : Kept b w w') : Bys w' a n c f := by
 rcases h with h | h | ⟨k, off, e, h1, h2, hl, hc⟩
 ·exact .inl h
 ·exact .inr (.inl h)
 ·rcases ha with h0 | ⟨ad, e2, hne⟩
  ·subst h0
   exact .inr (.inr ⟨k, off, e, h1, h2, Nat.lt_of_lt_of_le hl hk.size, fun j hj => absurd hj (Nat.not_lt_zero _)⟩)
  ·rw [e] at e2
   cases e2
   exact .inr (.inr ⟨k, off, e, h1, h2, Nat.lt_of_lt_of_le hl hk.size, fun j hj => (hk.cell hl hne).trans (hc j hj)⟩)
theorem els_kept {w w' : World} {a : Option Addr} {n k b : Nat} {f : Nat → List Value} (h : Els w a n k f) (ha : AwL b a n) (hk : Kept b w w') : Els w' a n k f := by
 rcases h with h | ⟨g, off, e, hl, hc⟩
 ·exact .inl h
 ·rcases ha with h0 | ⟨ad, e2, hne⟩
  ·exact .inl h0
  ·rw [e] at e2
   cases e2
   exact .inr ⟨g, off, e, Nat.lt_of_lt_of_le hl hk.size, fun i hi j u hj => (hk.cell hl hne).trans (hc i hi j u hj)⟩
theorem nms_kept {w w' : World} {a : Option Addr} {n b : Nat} {f : Nat → Int} (h : Z.Nms .u64 w a n f) (ha : AwL b a n) (hk : Kept b w w') : Z.Nms .u64 w' a n f := by
 rcases h with h | ⟨g, off, e, hl, hc⟩
 ·exact .inl h
 ·rcases ha with h0 | ⟨ad, e2, hne⟩
  ·exact .inl h0
  ·rw [e] at e2
   cases e2
   exact .inr ⟨g, off, e, Nat.lt_of_lt_of_le hl hk.size, fun i hi => (hk.cell hl hne).trans (hc i hi)⟩
theorem InW.kept {w w' : World} {X : VState} {b : Nat} (h : InW w X) (ha : Aw b X) (hk : Kept b w w') : InW w' X := ⟨rts_kept h.i7 ha.q7 hk, els_kept h.i9 ha.q9 hk, els_kept h.i11 ha.q11 hk, nms_kept h.i12 ha.q12 hk, bys_kept h.i15 ha.q15 hk, bys_kept h.i16 ha.q16 hk, nms_kept h.i21 ha.q21 hk⟩
structure Res (B : Nat) (w : World) (Y X : VState) : Prop where
 sim : SimF Y X
 inw : InW w X
 nil : NilW X
 new : Nw B X
theorem Res.below {B : Nat} {w w' : World} {Y X : VState} (h : Res B w Y X) (hb : Below w.heap.size w w') : Res B w' Y X := ⟨h.sim, h.inw.below hb, h.nil, h.new⟩
theorem Res.to {B C : Nat} {w : World} {Y Z X : VState} (h : Res B w Y X) (hB : C ≤ B) (hs : SimF Z X) : Res C w Z X := ⟨hs, h.inw, h.nil, h.new.mono hB⟩
theorem rsame_sim (a b : VState) (w : World) (ha : OkState a) (ia : InW w a) (ib : InW w b) (h : SimF a b) :
    Calls Tryz.prog 11 #[.agg (cel (sState a)), .agg (cel (sState b))] w fun e w' => e = .returned (.bool true) ∧ Below w.heap.size w w' :=
 rsame_eq a b w ha (okF_sim h ha) ia ib (rE_sim h) (rS_sim h)
theorem nilO : NilW oState := ⟨fun _ => ⟨rfl, rfl⟩, fun _ => ⟨rfl, rfl⟩, fun _ => ⟨rfl, rfl⟩, fun _ => ⟨rfl, rfl⟩⟩
theorem inwO (w : World) : InW w oState := ⟨.inl ⟨rfl, rfl, rfl⟩, .inl rfl, .inl rfl, .inl rfl, .inl ⟨rfl, rfl, rfl⟩, .inl ⟨rfl, rfl, rfl⟩, .inl rfl⟩
theorem nwO (B : Nat) : Nw B oState := ⟨.inl rfl, .inl rfl, .inl rfl, .inl rfl, .inl rfl, .inl rfl, .inl rfl⟩
theorem resO (B : Nat) (w : World) : Res B w oState oState := ⟨.refl _, inwO w, nilO, nwO B⟩
theorem own_nil {w : World} {B k : Nat} {t : TypeId} {a : Option Addr} {n c : Nat} {xs : List Value} (h : w.ownsRow B t k (.slice a n c) n xs) (ha : a = none) : n = 0 ∧ c = 0 := by
 rcases h.2 with ⟨hv, h0⟩ | ⟨g, cap, cur, hv, _⟩
 ·cases hv; exact ⟨h0, rfl⟩
 ·cases hv; cases ha
theorem CpdF.nil {B : Nat} {w : World} {X : VState} (h : CpdF B w X) : NilW X := ⟨own_nil h.o9, own_nil h.o11, own_nil h.o12, own_nil h.o21⟩
theorem own_nw {w : World} {B k : Nat} {t : TypeId} {a : Option Addr} {n c : Nat} {xs : List Value} (h : w.ownsRow B t k (.slice a n c) n xs) : NwL B a n := by
 rcases own_range h with h0 | ⟨g, e, hB, _⟩
 ·exact .inl h0
 ·exact .inr ⟨_, e, hB⟩
theorem CpdF.nw {B : Nat} {w : World} {X : VState} (h : CpdF B w X) : Nw B X := ⟨own_nw h.o7, own_nw h.o9, own_nw h.o11, own_nw h.o12, own_nw h.o15, own_nw h.o16, own_nw h.o21⟩
theorem BF.res {w V : World} {y : Nat} {Y : VState} (h : BF w y V Y) : Res w.heap.size V Y Y := ⟨.refl _, h.inW, h.cpd.nil, h.cpd.nw⟩
theorem BF.cells {w V : World} {y : Nat} {Y Y' : VState} (h : BF w y V Y) (hy : w.heap.size ≤ y) (o : Nat) (l : List Value) (he : putL (cel (sState Y)) o l = cel (sState Y')) (e7 : Y'.f7 = Y.f7) (e9 : Y'.f9 = Y.f9) (e11 : Y'.f11 = Y.f11) (e12 : Y'.f12 = Y.f12) (e15 : Y'.f15 = Y.f15) (e16 : Y'.f16 = Y.f16) (e21 : Y'.f21 = Y.f21) : BF w y (V.setCells y o l) Y' := by
 have hk : Kept y V (V.setCells y o l) := setCells_kept l o (Kept.refl y V)
 refine ⟨h.bel.trans (hk.below hy h.bel.size), (setCells_row l o h.row).trans (congrArg (fun c => some (Obj.cells c 49)) he), ⟨?_, ?_, ?_, ?_, ?_, ?_, ?_, ?_, ?_⟩⟩
 ·rw [e7]; exact own_keptB h.cpd.o7 hk (own_ne h.cpd.o7 h.row (by decide))
 ·rw [e9]; exact own_keptB h.cpd.o9 hk (own_ne h.cpd.o9 h.row (by decide))
 ·rw [e11]; exact own_keptB h.cpd.o11 hk (own_ne h.cpd.o11 h.row (by decide))
 ·rw [e12]; exact own_keptB h.cpd.o12 hk (own_ne h.cpd.o12 h.row (by decide))
 ·rw [e15]; exact own_keptB h.cpd.o15 hk (own_ne h.cpd.o15 h.row (by decide))
 ·rw [e16]; exact own_keptB h.cpd.o16 hk (own_ne h.cpd.o16 h.row (by decide))
 ·rw [e21]; exact own_keptB h.cpd.o21 hk (own_ne h.cpd.o21 h.row (by decide))
 ·rw [e15, e16]; exact h.cpd.d15
 ·rw [e12, e21]; exact h.cpd.d12
theorem flat_same {e e' : Nat → List Value} : ∀ n, (∀ i, i < n → e i = e' i) → flat e n = flat e' n
 | 0, _ => rfl
 | n + 1, h => by
  show flat e n ++ e n = flat e' n ++ e' n
  rw [flat_same n fun i hi => h i (by omega), h n (by omega)]
def vtZ (z : Nat → VEth1) (n : Nat) (v : VEth1) (j : Nat) : VEth1 := if j < n then z j else v
def mor9 (Y : VState) (a : Option Addr) (c : Nat) (v : VEth1) : VState := { Y with f9 := ⟨a, Y.f9.n + 1, c, vtZ Y.f9.z Y.f9.n v⟩ }
theorem flat_vt (z : Nat → VEth1) (n : Nat) (v : VEth1) : flat (fun i => celL (sEth1 (z i))) n ++ celL (sEth1 v) = flat (fun i => celL (sEth1 (vtZ z n v i))) (n + 1) := by
 show _ = flat (fun i => celL (sEth1 (vtZ z n v i))) n ++ celL (sEth1 (vtZ z n v n))
 have e : vtZ z n v n = v := if_neg (Nat.lt_irrefl n)
 rw [e, flat_same n fun i hi => by show celL (sEth1 (z i)) = celL (sEth1 (vtZ z n v i)); rw [show vtZ z n v i = z i from if_pos hi]]
theorem BF.app9 {w V W : World} {y : Nat} {Y : VState} {a : Option Addr} {c : Nat} (v : VEth1) (h : BF w y V Y) (hy : w.heap.size ≤ y) (ho : W.ownsRow w.heap.size 34 65 (.slice a (Y.f9.n + 1) c) (Y.f9.n + 1) (flat (fun i => celL (sEth1 (Y.f9.z i))) Y.f9.n ++ celL (sEth1 v))) (hg : V.grownBy W (Value.ownBlock (.slice Y.f9.a Y.f9.n Y.f9.c))) :
    BF w y (W.setCell ⟨y, 719, none⟩ (.slice a (Y.f9.n + 1) c)) (mor9 Y a c v) ∧ (∃ u, W.cell? ⟨y, 719, none⟩ = some u) ∧ W.frozen? ⟨y, 719, none⟩ = false := by
 have hne : some y ≠ Value.ownBlock (.slice Y.f9.a Y.f9.n Y.f9.c) := fun e => own_ne h.cpd.o9 h.row (by decide) e.symm
 have hrow : W.heap[y]? = some (.cells (cel (sState Y)) 49) := (hg.block y (some_lt h.row) hne).trans h.row
 have hk : Kept y W (W.setCell ⟨y, 719, none⟩ (.slice a (Y.f9.n + 1) c)) := (Kept.refl y W).setCell _ _
 have hbW : Below w.heap.size w W := by
  refine ⟨hg.os.trans h.bel.os, hg.tape.trans h.bel.tape, hg.output.trans h.bel.output, Nat.le_trans h.bel.size hg.size, fun k hk' => (hg.block k (Nat.lt_of_lt_of_le hk' h.bel.size) (fun e => ?_)).trans (h.bel.block k hk')⟩
  have := (h.cpd.o9.lt k e.symm).1
  omega
 rw [flat_vt] at ho
 have g9 := own_keptB ho hk (own_ne ho hrow (by decide))
 have p7 := own_grown h.cpd.o7 h.cpd.o9 hg (.inl (by decide))
 have g7 := own_keptB p7 hk (own_ne p7 hrow (by decide))
 have p11 := own_grown h.cpd.o11 h.cpd.o9 hg (.inl (by decide))
 have g11 := own_keptB p11 hk (own_ne p11 hrow (by decide))
 have p12 := own_grown h.cpd.o12 h.cpd.o9 hg (.inl (by decide))
 have g12 := own_keptB p12 hk (own_ne p12 hrow (by decide))
 have p15 := own_grown h.cpd.o15 h.cpd.o9 hg (.inl (by decide))
 have g15 := own_keptB p15 hk (own_ne p15 hrow (by decide))
 have p16 := own_grown h.cpd.o16 h.cpd.o9 hg (.inl (by decide))
 have g16 := own_keptB p16 hk (own_ne p16 hrow (by decide))
 have p21 := own_grown h.cpd.o21 h.cpd.o9 hg (.inl (by decide))
 have g21 := own_keptB p21 hk (own_ne p21 hrow (by decide))
 refine ⟨⟨hbW.trans (hk.below hy hbW.size), (row_set hrow 719 _).trans (congrArg (fun c => some (Obj.cells c 49)) (st_9 Y a (Y.f9.n + 1) c)), ⟨g7, g9, g11, g12, g15, g16, g21, h.cpd.d15, h.cpd.d12⟩⟩, some_cell hrow (by omega), row_frozen hrow _⟩
def litR (f : Nat → Int) (n : Nat) : List Lit := (List.range n).map fun j => Lit.int .u8 (f j)
theorem litR_len (f : Nat → Int) (n : Nat) : (litR f n).length = n := by simp [litR]
theorem litR_inj {f g : Nat → Int} {n : Nat} : litR f n = litR g n ↔ ∀ j, j < n → f j = g j := by
 unfold litR
 rw [List.map_inj_left]
 constructor
 ·intro h j hj
  exact (Lit.int.inj (h j (List.mem_range.2 hj))).2
 ·intro h j hj
  rw [h j (List.mem_range.1 hj)]
theorem mapM_is {α β : Type} {f : α → Option β} {g : α → β} : ∀ {l : List α}, (∀ i ∈ l, f i = some (g i)) → l.mapM f = some (l.map g)
 | [], _ => by simp
 | i :: l, h => by
  have h1 := h i (List.mem_cons_self ..)
  have h2 := mapM_is (l := l) fun j hj => h j (List.mem_cons_of_mem _ hj)
  simp [List.mapM_cons, h1, h2]
theorem flat_sing {α β : Type} (g : α → β) : ∀ l : List α, (l.map fun i => [g i]).flatten = l.map g
 | [] => rfl
 | i :: l => by
  show [g i] ++ (l.map fun i => [g i]).flatten = _
  rw [flat_sing g l]
  rfl
theorem lits_by {t : TypeId} {n : Nat} (hu : Tryz.prog.underlying t = some (.array n 5)) (hc : Tryz.prog.cellsOf t = n) (d : Nat) (f : Nat → Int) (h : ∀ j, j < n → 0 ≤ f j ∧ f j < 256) : Tryz.prog.keyLits (d + 2) t (bl f n) = some (litR f n) := by
 have c1 : Tryz.prog.cellsOf 5 = 1 := by kernel_rfl
 have e : (List.range n).mapM (fun i => Tryz.prog.keyLits (d + 1) 5 (((bl f n).drop (i * Tryz.prog.cellsOf 5)).take (Tryz.prog.cellsOf 5))) = some ((List.range n).map fun i => [Lit.int .u8 (f i)]) := mapM_is fun i hi => by
  have hi := List.mem_range.1 hi
  rw [c1, Nat.mul_one, bl_part f n i 1 (by omega)]
  exact lits_u8 d (f (i + 0)) (h i hi)
 unfold Program.keyLits
 rw [hu]
 show (if (bl f n).length = Tryz.prog.cellsOf t then _ else none) = _
 rw [if_pos (by rw [bl_len, hc]), e]
 exact congrArg some (flat_sing (fun i => Lit.int .u8 (f i)) (List.range n))
theorem lits_u64 (d : Nat) (c : Int) (h : 0 ≤ c ∧ c < 18446744073709551616) : Tryz.prog.keyLits (d + 1) 22 [.int .u64 c] = some [.int .u64 c] := by
 have hw : (Lit.int .u64 c).wf = true := by
  have : IntKind.u64.min = 0 ∧ IntKind.u64.max = 18446744073709551615 := by decide
  simp [Lit.wf, this]
  omega
 simp [Program.keyLits, Tryz.underlying22, hw]
def eqE (a b : VEth1) : Bool := eqR a.f0 b.f0 && (decide (a.f1 = b.f1) && eqR a.f2 b.f2)
theorem eqR_iff {c d : Nat → Int} : eqR c d = true ↔ ∀ j, j < 32 → c j = d j := by
 unfold eqR
 rw [List.all_eq_true]
 constructor
 ·intro h j hj
  exact eq_of_beq (h j (List.mem_range.2 hj))
 ·intro h j hj
  rw [h j (List.mem_range.1 hj)]
  exact beq_self_eq_true _
def litE (v : VEth1) : List Lit := litR v.f0 32 ++ ([.int .u64 v.f1] ++ (litR v.f2 32 ++ []))
theorem litE_iff (a b : VEth1) : litE a = litE b ↔ eqE a b = true := by
 unfold litE eqE
 rw [Bool.and_eq_true, Bool.and_eq_true, decide_eq_true_iff, eqR_iff, eqR_iff, ← litR_inj (n := 32), ← litR_inj (n := 32)]
 constructor
 ·intro h
  obtain ⟨h1, h2⟩ := List.append_inj h (by rw [litR_len, litR_len])
  obtain ⟨h3, h4⟩ := List.append_inj h2 rfl
  rw [List.append_nil, List.append_nil] at h4
  exact ⟨h1, (Lit.int.inj (List.cons.inj h3).1).2, h4⟩
 ·rintro ⟨h1, h2, h3⟩
  rw [h1, h2, h3]
theorem cel_E (v : VEth1) : celL (sEth1 v) = bl v.f0 32 ++ ([Value.int .u64 v.f1] ++ bl v.f2 32) := by
 show (List.range 32).map _ ++ ([Value.int .u64 v.f1] ++ ((List.range 32).map _ ++ [])) = _
 rw [List.append_nil]
 rfl
theorem lits_E (v : VEth1) (h : OkEth1 v) : Tryz.prog.keyLits 5 34 (celL (sEth1 v)) = some (litE v) := by
 have c1 : Tryz.prog.cellsOf 24 = 32 := by kernel_rfl
 have c2 : Tryz.prog.cellsOf 22 = 1 := by kernel_rfl
 have c3 : Tryz.prog.cellsOf 34 = 65 := by kernel_rfl
 have h1 := lits_by Tryz.underlying24 c1 2 v.f0 h.1
 have h2 := lits_u64 3 v.f1 h.2.1
 have h3 := lits_by Tryz.underlying24 c1 2 v.f2 h.2.2
 have e1 : (celL (sEth1 v)).take 32 = bl v.f0 32 := by rw [cel_E, List.take_left' (bl_len _ _)]
 have e2 : ((celL (sEth1 v)).drop 32).take 1 = [.int .u64 v.f1] := by rw [cel_E, List.drop_left' (bl_len _ _)]; rfl
 have e3 : ((celL (sEth1 v)).drop 33).take 32 = bl v.f2 32 := by
  rw [cel_E, show 33 = 32 + 1 from rfl, ← List.drop_drop, List.drop_left' (bl_len _ _)]
  show (bl v.f2 32).take 32 = bl v.f2 32
  exact List.take_of_length_le (by rw [bl_len]; omega)
 have hu := Tryz.underlying34
 unfold Program.keyLits
 rw [hu]
 show (if (celL (sEth1 v)).length = Tryz.prog.cellsOf 34 ∧ _ then _ else none) = _
 rw [if_pos ⟨by rw [celL_len, c3]; rfl, by kernel_rfl⟩]
 simp [List.mapM_cons, c1, c2, e1, e2, e3, h1, h2, h3, litE]
theorem eqEth (w : World) (a b : VEth1) (ha : OkEth1 a) (hb : OkEth1 b) : (Op.equalIn 10000 34 (.agg (cel (sEth1 a))) (.agg (cel (sEth1 b)))).run Tryz.prog w = .ok (eqE a b) w := by
 have hk : Tryz.prog.keyTypeAt 5 34 = true := by kernel_rfl
 have hf : ∀ v : VEth1, (Value.agg (cel (sEth1 v))).formed Tryz.prog 34 = true := fun v => by
  simp only [Value.formed, Tryz.underlying34]
  rw [cel_size, show slen (sEth1 v) = 65 from rfl]
  kernel_rfl
 obtain ⟨r, h1, h2⟩ := run_equalIn_deep (P := Tryz.prog) 9995 5 34 hk w 5 5 (.agg (cel (sEth1 a))) (.agg (cel (sEth1 b))) _ _ (hf a) (hf b) (lits_E a ha) (lits_E b hb)
 rw [litE_iff] at h2
 rw [show eqE a b = r from by
  cases r
  ·cases h : eqE a b
   ·rfl
   ·exact absurd (h2.2 h) (by decide)
  ·exact h2.1 rfl]
 exact h1
def eqoE (x y : Value) : Sem Value := binOp .eql 34 x y
theorem eqoE_eq (x y : Value) : binOp .eql 34 x y = eqoE x y := rfl
theorem eqoE_run (w : World) (a b : VEth1) (ha : OkEth1 a) (hb : OkEth1 b) : (eqoE (.agg (cel (sEth1 a))) (.agg (cel (sEth1 b)))).run Tryz.prog w = .ok (.bool (eqE a b)) w := by
 have h := eqEth w a b ha hb
 unfold eqoE
 have h2 : (Op.equalIn Op.maxDepth 34 (.agg (cel (sEth1 a))) (.agg (cel (sEth1 b)))).run Tryz.prog w = .ok (eqE a b) w := h
 simp [binOp, Op.equal, h2]
theorem yields_eqoE {ops : Array Oper} {S : World → Prop} {op : Oper} {a : Act} (hw : Region.wanted op (yielded ops a.tmps) = true) (x y : Operand) (rt : TypeId) (ho : op.op = .binOp .eql 34 x y rt) (c d : VEth1) (hc : OkEth1 c) (hd : OkEth1 d)
    (hx : a.eval x = .agg (cel (sEth1 c))) (hy : a.eval y = .agg (cel (sEth1 d))) : YieldsIf Tryz.prog ops S op (.bool (eqE c d)) a :=
 .inl ⟨hw, fun w _ => by
  have h := eqoE_run w c d hc hd
  unfold eqoE at h
  unfold execOp
  simp [ho, hx, hy, eqGuard, h]⟩
end Go.Proofs.YtopnhpllidegnaaGreatDoor
