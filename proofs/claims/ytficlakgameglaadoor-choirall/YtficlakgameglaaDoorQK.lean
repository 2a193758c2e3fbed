/-
  States alike, by the reference.
  The reach of a state that is handed in.
  States that are answered; a copy's fields and votes changed; votes compared.
-/
import Derived.Test.YtficlakgameglaaDoorSuB
import Derived.Test.YtficlakgameglaaDoorStP
import Derived.Test.YtficlakgameglaaDoorQR
import Derived.Test.YtficlakgameglaaDoorStY
import Derived.SizedLaws

namespace Go.Proofs.YtficlakgameglaaDoor

open Go.RowKit

set_option linter.unusedVariables false

set_option linter.unusedSimpArgs false

set_option maxRecDepth 20000

/-- What the reference answers for a state: the error, the bytes. -/
def rE (x : VState) : Int := if fitB x = true then 0 else 6

def rS (x : VState) : ByteArray := if fitB x = true then Z.strF (mS x) (tL x) else Z.strF (mS x) 0

theorem renc_str (x : VState) (w : World) (hx : OkState x) (hw : InW w x) (E : Int) (hE : rE x = E) (s : ByteArray) (hs : rS x = s) :
    Calls Tryd.prog 20 #[.agg (cel (sState x))] w fun e w' => ∃ a n c, e = .returned (.tuple #[.slice a n c, .int .i64 E]) ∧ (∀ X, Below w'.heap.size w' X → (convert 39 9 (.slice a n c)).run Tryd.prog X = .ok (.string s) X) ∧ Below w.heap.size w w' := by
  refine (renc_any x w hx hw).mono ?_
  rintro e w' ⟨a, n, c, E', rfl, h | h, hb⟩
  · obtain ⟨hf, rfl, rfl, hy⟩ := h
    unfold rE at hE
    unfold rS at hs
    rw [if_pos hf] at hE hs
    rw [← hE, ← hs]
    exact ⟨a, _, c, rfl, fun X hX => Z.conv_bys X a _ c _ (hy.below hX), hb⟩
  · obtain ⟨hf, rfl, rfl, rfl, rfl⟩ := h
    unfold rE at hE
    unfold rS at hs
    rw [if_neg (by rw [hf]; decide)] at hE hs
    rw [← hE, ← hs]
    exact ⟨none, 0, 0, rfl, fun X hX => Z.conv_bys X none 0 0 (mS x) (.inl ⟨rfl, rfl, rfl⟩), hb⟩

attribute [local go_sem ↓] lvState_eq svState_eq

set_option maxHeartbeats 4000000 in
theorem rsame_eq (a b : VState) (w : World) (ha : OkState a) (hb : OkState b) (ia : InW w a) (ib : InW w b) (hE : rE b = rE a) (hS : rS b = rS a) :
    Calls Tryd.prog 10 #[.agg (cel (sState a)), .agg (cel (sState b))] w fun e w' => e = .returned (.bool true) ∧ Below w.heap.size w w' := by
  obtain ⟨W1, hW1⟩ : ∃ W, w.alloc (.cells (cel (sState a)) 49) = W := ⟨_, rfl⟩
  obtain ⟨W2, hW2⟩ : ∃ W, W1.alloc (.cells (cel (sState b)) 49) = W := ⟨_, rfl⟩
  have z1 : W1.heap.size = w.heap.size + 1 := by rw [← hW1]; simp
  obtain ⟨y1, ey1⟩ : ∃ y, w.heap.size = y := ⟨_, rfl⟩
  obtain ⟨y2, ey2⟩ : ∃ y, W1.heap.size = y := ⟨_, rfl⟩
  have r1 : W2.heap[y1]? = some (.cells (cel (sState a)) 49) := by
    rw [← hW2, ← ey1]
    refine (heap_old (by omega)).trans ?_
    rw [← hW1]
    exact heap_new rfl
  have r2 : W2.heap[y2]? = some (.cells (cel (sState b)) 49) := by
    rw [← hW2, ← ey2]
    exact heap_new rfl
  have hB : Below w.heap.size w W2 := by
    rw [← hW2, ← hW1]
    exact ((Below.refl _ _).alloc (Nat.le_refl _) _).alloc (by simp) _
  obtain ⟨E, eE⟩ : ∃ E, rE a = E := ⟨_, rfl⟩
  obtain ⟨S, eS⟩ : ∃ S, rS a = S := ⟨_, rfl⟩
  have lv1 := lvState_run r1
  have HA := hid (renc_str a W2 ha (ia.below hB) E eE S eS)
  have HBB : Hid (∀ X, Below W2.heap.size W2 X → Calls Tryd.prog 20 #[.agg (cel (sState b))] X fun e w' => ∃ a n c, e = .returned (.tuple #[.slice a n c, .int .i64 E]) ∧ (∀ Y, Below w'.heap.size w' Y → (convert 39 9 (.slice a n c)).run Tryd.prog Y = .ok (.string S) Y) ∧ Below X.heap.size X w') := fun X h => renc_str b X hb (ib.below (hB.trans (h.mono hB.size))) E (hE.trans eE) S (hS.trans eS)
  have HL2 : Hid (∀ X, Below W2.heap.size W2 X → (lvState ⟨y2, 0, none⟩).run Tryd.prog X = .ok (.agg (cel (sState b))) X) := fun X h => lvState_run ((h.block y2 (some_lt r2)).trans r2)
  have HB := hid hB
  clear r1 r2 hB eE eS ha hb ia ib hE hS z1
  go_enter Tryd.func10, Tryd.ntmps10
  go_upto_region 1 with fail
  clear hW1 hW2 ey1 ey2
  go_upto_region 2 with (go_at_call 20; refine HA.out.mono ?_; rintro e w3 ⟨a3, n3, c3, rfl, hcv, hb3⟩; have C3 := hid hcv; have lv2 := HL2.out w3 hb3; have HC := hid (HBB.out w3 hb3); have HB3 := hid (HB.out.trans (hb3.mono HB.out.size)); clear hcv hb3)
  go_upto_region 3 with (go_at_call 20; refine HC.out.mono ?_; rintro e w4 ⟨a4, n4, c4, rfl, hcv, hb4⟩; have cv4 := hcv w4 (Below.refl _ _); have cv3 := C3.out w4 hb4; have HB4 := hid (HB3.out.trans (hb4.mono HB3.out.size)); clear hcv hb4)
  go_wp2
  go_ret
  exact ⟨rfl, HB4.out⟩

end Go.Proofs.YtficlakgameglaaDoor

namespace Go.Proofs.YtficlakgameglaaDoor

open Go.RowKit

set_option linter.unusedVariables false

set_option linter.unusedSimpArgs false

set_option maxRecDepth 20000

/-- How great the lists may be. -/
def Rch (x : VState) : Prop := x.f7.n * 32 ≤ 140737488351232 ∧ x.f9.n * 72 ≤ 140737488351232 ∧ x.f11.n * 128 ≤ 140737488351232 ∧ x.f12.n * 8 ≤ 140737488351232 ∧ x.f15.n ≤ 140737488351232 ∧ x.f16.n ≤ 140737488351232 ∧ x.f21.n * 8 ≤ 140737488351232

end Go.Proofs.YtficlakgameglaaDoor

namespace Go.Proofs.YtficlakgameglaaDoor

open Go.RowKit

set_option linter.unusedVariables false

set_option linter.unusedSimpArgs false

set_option maxRecDepth 20000

theorem SimF.refl (x : VState) : SimF x x := ⟨rfl, rfl, rfl, rfl, rfl, rfl, rfl, rfl, rfl, rfl, rfl, rfl, rfl, rfl, rfl, rfl, rfl, rfl, rfl, rfl, rfl, rfl, rfl, rfl, rfl, rfl, rfl, rfl, rfl, rfl, rfl⟩

theorem SimF.symm {x y : VState} (h : SimF x y) : SimF y x := ⟨h.e0.symm, h.e1.symm, h.e2.symm, h.e3.symm, h.e4.symm, h.e5.symm, h.e6.symm, h.l7.symm, h.z7.symm, h.e8.symm, h.l9.symm, h.z9.symm, h.e10.symm, h.l11.symm, h.z11.symm, h.l12.symm, h.z12.symm, h.e13.symm, h.e14.symm, h.l15.symm, h.z15.symm, h.l16.symm, h.z16.symm, h.e17.symm, h.e18.symm, h.e19.symm, h.e20.symm, h.l21.symm, h.z21.symm, h.e22.symm, h.e23.symm⟩

theorem SimF.trans {x y z : VState} (h : SimF x y) (k : SimF y z) : SimF x z := ⟨k.e0.trans h.e0, k.e1.trans h.e1, k.e2.trans h.e2, k.e3.trans h.e3, k.e4.trans h.e4, k.e5.trans h.e5, k.e6.trans h.e6, k.l7.trans h.l7, k.z7.trans h.z7, k.e8.trans h.e8, k.l9.trans h.l9, k.z9.trans h.z9, k.e10.trans h.e10, k.l11.trans h.l11, k.z11.trans h.z11, k.l12.trans h.l12, k.z12.trans h.z12, k.e13.trans h.e13, k.e14.trans h.e14, k.l15.trans h.l15, k.z15.trans h.z15, k.l16.trans h.l16, k.z16.trans h.z16, k.e17.trans h.e17, k.e18.trans h.e18, k.e19.trans h.e19, k.e20.trans h.e20, k.l21.trans h.l21, k.z21.trans h.z21, k.e22.trans h.e22, k.e23.trans h.e23⟩

theorem rE_sim {x X : VState} (h : SimF x X) : rE X = rE x := by unfold rE; rw [fit_sim h]

theorem rS_sim {x X : VState} (h : SimF x X) : rS X = rS x := by
  have e : mS X = mS x := by
    unfold mS pF pL
    rw [mS_sim h]
  have l : tL X = tL x := by
    unfold tL pL
    rw [mS_sim h]
  unfold rS
  rw [fit_sim h, e, l]

theorem rightF {x X : VState} (h : SimF x X) : rightB X = rightB x := by
  unfold rightB fitB lensB timB
  rw [h.e2, h.e4, h.e10, h.e14, h.e18, h.e19, h.e20, h.l7, h.l9, h.l11, h.z11, h.l12, h.z12, h.l15, h.l16, h.l21, h.z21]

/-- Lists that lie from a block on; lists that lie in another block. -/
def NwL (B : Nat) (a : Option Addr) (n : Nat) : Prop := n = 0 ∨ ∃ ad, a = some ad ∧ B ≤ ad.block

def AwL (b : Nat) (a : Option Addr) (n : Nat) : Prop := n = 0 ∨ ∃ ad, a = some ad ∧ ad.block ≠ b

structure Nw (B : Nat) (X : VState) : Prop where
  p7 : NwL B X.f7.a X.f7.n
  p9 : NwL B X.f9.a X.f9.n
  p11 : NwL B X.f11.a X.f11.n
  p12 : NwL B X.f12.a X.f12.n
  p15 : NwL B X.f15.a X.f15.n
  p16 : NwL B X.f16.a X.f16.n
  p21 : NwL B X.f21.a X.f21.n

structure Aw (b : Nat) (X : VState) : Prop where
  q7 : AwL b X.f7.a X.f7.n
  q9 : AwL b X.f9.a X.f9.n
  q11 : AwL b X.f11.a X.f11.n
  q12 : AwL b X.f12.a X.f12.n
  q15 : AwL b X.f15.a X.f15.n
  q16 : AwL b X.f16.a X.f16.n
  q21 : AwL b X.f21.a X.f21.n

theorem NwL.aw {B b : Nat} {a : Option Addr} {n : Nat} (h : NwL B a n) (hb : b < B) : AwL b a n := by
  rcases h with h | ⟨ad, e, hB⟩
  · exact .inl h
  · exact .inr ⟨ad, e, by omega⟩

theorem NwL.mono {B C : Nat} {a : Option Addr} {n : Nat} (h : NwL B a n) (hb : C ≤ B) : NwL C a n := by
  rcases h with h | ⟨ad, e, hB⟩
  · exact .inl h
  · exact .inr ⟨ad, e, by omega⟩

theorem Nw.aw {B b : Nat} {X : VState} (h : Nw B X) (hb : b < B) : Aw b X := ⟨h.p7.aw hb, h.p9.aw hb, h.p11.aw hb, h.p12.aw hb, h.p15.aw hb, h.p16.aw hb, h.p21.aw hb⟩

theorem Nw.mono {B C : Nat} {X : VState} (h : Nw B X) (hb : C ≤ B) : Nw C X := ⟨h.p7.mono hb, h.p9.mono hb, h.p11.mono hb, h.p12.mono hb, h.p15.mono hb, h.p16.mono hb, h.p21.mono hb⟩

theorem rts_aw {w : World} {a : Option Addr} {n c : Nat} {f : Nat → Int} (h : Rts w a n c f) {b : Nat} (hb : w.heap.size ≤ b) : AwL b a n := by
  rcases h with ⟨_, h, _⟩ | ⟨_, _, h⟩ | ⟨k, off, e, _, hl, _⟩
  · exact .inl h
  · exact .inl h
  · exact .inr ⟨_, e, by show k ≠ b; omega⟩

theorem bys_aw {w : World} {a : Option Addr} {n c : Nat} {f : Nat → Int} (h : Bys w a n c f) {b : Nat} (hb : w.heap.size ≤ b) : AwL b a n := by
  rcases h with ⟨_, h, _⟩ | ⟨_, _, h⟩ | ⟨k, off, e, _, _, hl, _⟩
  · exact .inl h
  · exact .inl h
  · exact .inr ⟨_, e, by show k ≠ b; omega⟩

theorem els_aw {w : World} {a : Option Addr} {n k : Nat} {f : Nat → List Value} (h : Els w a n k f) {b : Nat} (hb : w.heap.size ≤ b) : AwL b a n := by
  rcases h with h | ⟨k, off, e, hl, _⟩
  · exact .inl h
  · exact .inr ⟨_, e, by show k ≠ b; omega⟩

theorem nms_aw {w : World} {a : Option Addr} {n : Nat} {f : Nat → Int} (h : Z.Nms .u64 w a n f) {b : Nat} (hb : w.heap.size ≤ b) : AwL b a n := by
  rcases h with h | ⟨k, off, e, hl, _⟩
  · exact .inl h
  · exact .inr ⟨_, e, by show k ≠ b; omega⟩

theorem InW.aw {w : World} {X : VState} (h : InW w X) {b : Nat} (hb : w.heap.size ≤ b) : Aw b X := ⟨rts_aw h.i7 hb, els_aw h.i9 hb, els_aw h.i11 hb, nms_aw h.i12 hb, bys_aw h.i15 hb, bys_aw h.i16 hb, nms_aw h.i21 hb⟩

theorem rts_kept {w w' : World} {a : Option Addr} {n c b : Nat} {f : Nat → Int} (h : Rts w a n c f) (ha : AwL b a n) (hk : Kept b w w') : Rts w' a n c f := by
  rcases h with h | h | ⟨k, off, e, h1, hl, hc⟩
  · exact .inl h
  · exact .inr (.inl h)
  · rcases ha with h0 | ⟨ad, e2, hne⟩
    · exact .inr (.inl ⟨_, e, h0⟩)
    · rw [e] at e2
      cases e2
      exact .inr (.inr ⟨k, off, e, h1, Nat.lt_of_lt_of_le hl hk.size, fun j hj => (hk.cell hl hne).trans (hc j hj)⟩)

theorem bys_kept {w w' : World} {a : Option Addr} {n c b : Nat} {f : Nat → Int} (h : Bys w a n c f) (ha : AwL b a n) (hk : Kept b w w') : Bys w' a n c f := by
  rcases h with h | h | ⟨k, off, e, h1, h2, hl, hc⟩
  · exact .inl h
  · exact .inr (.inl h)
  · rcases ha with h0 | ⟨ad, e2, hne⟩
    · subst h0
      exact .inr (.inr ⟨k, off, e, h1, h2, Nat.lt_of_lt_of_le hl hk.size, fun j hj => absurd hj (Nat.not_lt_zero _)⟩)
    · rw [e] at e2
      cases e2
      exact .inr (.inr ⟨k, off, e, h1, h2, Nat.lt_of_lt_of_le hl hk.size, fun j hj => (hk.cell hl hne).trans (hc j hj)⟩)

theorem els_kept {w w' : World} {a : Option Addr} {n k b : Nat} {f : Nat → List Value} (h : Els w a n k f) (ha : AwL b a n) (hk : Kept b w w') : Els w' a n k f := by
  rcases h with h | ⟨g, off, e, hl, hc⟩
  · exact .inl h
  · rcases ha with h0 | ⟨ad, e2, hne⟩
    · exact .inl h0
    · rw [e] at e2
      cases e2
      exact .inr ⟨g, off, e, Nat.lt_of_lt_of_le hl hk.size, fun i hi j u hj => (hk.cell hl hne).trans (hc i hi j u hj)⟩

theorem nms_kept {w w' : World} {a : Option Addr} {n b : Nat} {f : Nat → Int} (h : Z.Nms .u64 w a n f) (ha : AwL b a n) (hk : Kept b w w') : Z.Nms .u64 w' a n f := by
  rcases h with h | ⟨g, off, e, hl, hc⟩
  · exact .inl h
  · rcases ha with h0 | ⟨ad, e2, hne⟩
    · exact .inl h0
    · rw [e] at e2
      cases e2
      exact .inr ⟨g, off, e, Nat.lt_of_lt_of_le hl hk.size, fun i hi => (hk.cell hl hne).trans (hc i hi)⟩

theorem InW.kept {w w' : World} {X : VState} {b : Nat} (h : InW w X) (ha : Aw b X) (hk : Kept b w w') : InW w' X := ⟨rts_kept h.i7 ha.q7 hk, els_kept h.i9 ha.q9 hk, els_kept h.i11 ha.q11 hk, nms_kept h.i12 ha.q12 hk, bys_kept h.i15 ha.q15 hk, bys_kept h.i16 ha.q16 hk, nms_kept h.i21 ha.q21 hk⟩

/-- A state that was answered: its contents Y, its lists in new memory. -/
structure Res (B : Nat) (w : World) (Y X : VState) : Prop where
  sim : SimF Y X
  inw : InW w X
  nil : NilW X
  new : Nw B X

theorem Res.below {B : Nat} {w w' : World} {Y X : VState} (h : Res B w Y X) (hb : Below w.heap.size w w') : Res B w' Y X := ⟨h.sim, h.inw.below hb, h.nil, h.new⟩

theorem Res.to {B C : Nat} {w : World} {Y Z X : VState} (h : Res B w Y X) (hB : C ≤ B) (hs : SimF Z X) : Res C w Z X := ⟨hs, h.inw, h.nil, h.new.mono hB⟩

/-- The reference tells two such states alike. -/
theorem rsame_sim (a b : VState) (w : World) (ha : OkState a) (ia : InW w a) (ib : InW w b) (h : SimF a b) :
    Calls Tryd.prog 10 #[.agg (cel (sState a)), .agg (cel (sState b))] w fun e w' => e = .returned (.bool true) ∧ Below w.heap.size w w' :=
  rsame_eq a b w ha (okF_sim h ha) ia ib (rE_sim h) (rS_sim h)

theorem nilO : NilW oState := ⟨fun _ => ⟨rfl, rfl⟩, fun _ => ⟨rfl, rfl⟩, fun _ => ⟨rfl, rfl⟩, fun _ => ⟨rfl, rfl⟩⟩

theorem inwO (w : World) : InW w oState := ⟨.inl ⟨rfl, rfl, rfl⟩, .inl rfl, .inl rfl, .inl rfl, .inl ⟨rfl, rfl, rfl⟩, .inl ⟨rfl, rfl, rfl⟩, .inl rfl⟩

theorem nwO (B : Nat) : Nw B oState := ⟨.inl rfl, .inl rfl, .inl rfl, .inl rfl, .inl rfl, .inl rfl, .inl rfl⟩

theorem resO (B : Nat) (w : World) : Res B w oState oState := ⟨.refl _, inwO w, nilO, nwO B⟩

theorem own_nil {w : World} {B k : Nat} {t : TypeId} {a : Option Addr} {n c : Nat} {xs : List Value} (h : w.ownsRow B t k (.slice a n c) n xs) (ha : a = none) : n = 0 ∧ c = 0 := by
  rcases h.2 with ⟨hv, h0⟩ | ⟨g, cap, cur, hv, _⟩
  · cases hv; exact ⟨h0, rfl⟩
  · cases hv; cases ha

theorem CpdF.nil {B : Nat} {w : World} {X : VState} (h : CpdF B w X) : NilW X := ⟨own_nil h.o9, own_nil h.o11, own_nil h.o12, own_nil h.o21⟩

theorem own_nw {w : World} {B k : Nat} {t : TypeId} {a : Option Addr} {n c : Nat} {xs : List Value} (h : w.ownsRow B t k (.slice a n c) n xs) : NwL B a n := by
  rcases own_range h with h0 | ⟨g, e, hB, _⟩
  · exact .inl h0
  · exact .inr ⟨_, e, hB⟩

theorem CpdF.nw {B : Nat} {w : World} {X : VState} (h : CpdF B w X) : Nw B X := ⟨own_nw h.o7, own_nw h.o9, own_nw h.o11, own_nw h.o12, own_nw h.o15, own_nw h.o16, own_nw h.o21⟩

theorem BF.res {w V : World} {y : Nat} {Y : VState} (h : BF w y V Y) : Res w.heap.size V Y Y := ⟨.refl _, h.inW, h.cpd.nil, h.cpd.nw⟩

/-- Cells of the state itself changed, its lists left where they are. -/
theorem BF.cells {w V : World} {y : Nat} {Y Y' : VState} (h : BF w y V Y) (hy : w.heap.size ≤ y) (o : Nat) (l : List Value) (he : putL (cel (sState Y)) o l = cel (sState Y')) (e7 : Y'.f7 = Y.f7) (e9 : Y'.f9 = Y.f9) (e11 : Y'.f11 = Y.f11) (e12 : Y'.f12 = Y.f12) (e15 : Y'.f15 = Y.f15) (e16 : Y'.f16 = Y.f16) (e21 : Y'.f21 = Y.f21) : BF w y (V.setCells y o l) Y' := by
  have hk : Kept y V (V.setCells y o l) := setCells_kept l o (Kept.refl y V)
  refine ⟨h.bel.trans (hk.below hy h.bel.size), (setCells_row l o h.row).trans (congrArg (fun c => some (Obj.cells c 49)) he), ⟨?_, ?_, ?_, ?_, ?_, ?_, ?_, ?_, ?_⟩⟩
  · rw [e7]; exact own_keptB h.cpd.o7 hk (own_ne h.cpd.o7 h.row (by decide))
  · rw [e9]; exact own_keptB h.cpd.o9 hk (own_ne h.cpd.o9 h.row (by decide))
  · rw [e11]; exact own_keptB h.cpd.o11 hk (own_ne h.cpd.o11 h.row (by decide))
  · rw [e12]; exact own_keptB h.cpd.o12 hk (own_ne h.cpd.o12 h.row (by decide))
  · rw [e15]; exact own_keptB h.cpd.o15 hk (own_ne h.cpd.o15 h.row (by decide))
  · rw [e16]; exact own_keptB h.cpd.o16 hk (own_ne h.cpd.o16 h.row (by decide))
  · rw [e21]; exact own_keptB h.cpd.o21 hk (own_ne h.cpd.o21 h.row (by decide))
  · rw [e15, e16]; exact h.cpd.d15
  · rw [e12, e21]; exact h.cpd.d12

/-- Literals of bytes. -/
def litR (f : Nat → Int) (n : Nat) : List Lit := (List.range n).map fun j => Lit.int .u8 (f j)

theorem litR_inj {f g : Nat → Int} {n : Nat} : litR f n = litR g n ↔ ∀ j, j < n → f j = g j := by
  unfold litR
  rw [List.map_inj_left]
  constructor
  · intro h j hj
    exact (Lit.int.inj (h j (List.mem_range.2 hj))).2
  · intro h j hj
    rw [h j (List.mem_range.1 hj)]

theorem mapM_is {α β : Type} {f : α → Option β} {g : α → β} : ∀ {l : List α}, (∀ i ∈ l, f i = some (g i)) → l.mapM f = some (l.map g)
  | [], _ => by simp
  | i :: l, h => by
    have h1 := h i (List.mem_cons_self ..)
    have h2 := mapM_is (l := l) fun j hj => h j (List.mem_cons_of_mem _ hj)
    simp [List.mapM_cons, h1, h2]

theorem flat_sing {α β : Type} (g : α → β) : ∀ l : List α, (l.map fun i => [g i]).flatten = l.map g
  | [] => rfl
  | i :: l => by
    show [g i] ++ (l.map fun i => [g i]).flatten = _
    rw [flat_sing g l]
    rfl

theorem lits_by {t : TypeId} {n : Nat} (hu : Tryd.prog.underlying t = some (.array n 5)) (hc : Tryd.prog.cellsOf t = n) (d : Nat) (f : Nat → Int) (h : ∀ j, j < n → 0 ≤ f j ∧ f j < 256) : Tryd.prog.keyLits (d + 2) t (bl f n) = some (litR f n) := by
  have c1 : Tryd.prog.cellsOf 5 = 1 := by kernel_rfl
  have e : (List.range n).mapM (fun i => Tryd.prog.keyLits (d + 1) 5 (((bl f n).drop (i * Tryd.prog.cellsOf 5)).take (Tryd.prog.cellsOf 5))) = some ((List.range n).map fun i => [Lit.int .u8 (f i)]) := mapM_is fun i hi => by
    have hi := List.mem_range.1 hi
    rw [c1, Nat.mul_one, bl_part f n i 1 (by omega)]
    exact lits_u8 d (f (i + 0)) (h i hi)
  unfold Program.keyLits
  rw [hu]
  show (if (bl f n).length = Tryd.prog.cellsOf t then _ else none) = _
  rw [if_pos (by rw [bl_len, hc]), e]
  exact congrArg some (flat_sing (fun i => Lit.int .u8 (f i)) (List.range n))

/-- '==' of votes, kept whole. -/
def eqoE (x y : Value) : Sem Value := binOp .eql 34 x y

theorem eqoE_eq (x y : Value) : binOp .eql 34 x y = eqoE x y := rfl

end Go.Proofs.YtficlakgameglaaDoor
