/- A part. -/
import Derived.Test.YtopnhpllidegnaaGreatDoorSuB
namespace Go.Proofs.YtopnhpllidegnaaGreatDoor
open Go.RowKit
set_option linter.unusedVariables false
set_option linter.unusedSimpArgs false
set_option maxRecDepth 20000
def rE (x : VState) : Int := if fitB x = true then 0 else 6
def rS (x : VState) : ByteArray := if fitB x = true then Z.strF (mS x) (tL x) else Z.strF (mS x) 0
theorem renc_str (x : VState) (w : World) (hx : OkState x) (hw : InW w x) (E : Int) (hE : rE x = E) (s : ByteArray) (hs : rS x = s) :
    Calls Tryz.prog 32 #[.agg (cel (sState x))] w fun e w' => ∃ a n c, e = .returned (.tuple #[.slice a n c, .int .i64 E]) ∧ (∀ X, Below w'.heap.size w' X → (convert 39 9 (.slice a n c)).run Tryz.prog X = .ok (.string s) X) ∧ Below w.heap.size w w' := by
 refine (renc_any x w hx hw).mono ?_
 rintro e w' ⟨a, n, c, E', rfl, h | h, hb⟩
 ·obtain ⟨hf, rfl, rfl, hy⟩ := h
  unfold rE at hE
  unfold rS at hs
  rw [if_pos hf] at hE hs
  rw [← hE, ← hs]
  exact ⟨a, _, c, rfl, fun X hX => Z.conv_bys X a _ c _ (hy.below hX), hb⟩
 ·obtain ⟨hf, rfl, rfl, rfl, rfl⟩ := h
  unfold rE at hE
  unfold rS at hs
  rw [if_neg (by rw [hf]; decide)] at hE hs
  rw [← hE, ← hs]
  exact ⟨none, 0, 0, rfl, fun X hX => Z.conv_bys X none 0 0 (mS x) (.inl ⟨rfl, rfl, rfl⟩), hb⟩
attribute [local go_sem ↓] lvState_eq svState_eq
set_option maxHeartbeats 4000000 in
theorem rsame_eq (a b : VState) (w : World) (ha : OkState a) (hb : OkState b) (ia : InW w a) (ib : InW w b) (hE : rE b = rE a) (hS : rS b = rS a) :
    Calls Tryz.prog 11 #[.agg (cel (sState a)), .agg (cel (sState b))] w fun e w' => e = .returned (.bool true) ∧ Below w.heap.size w w' := by
 obtain ⟨W1, hW1⟩ : ∃ W, w.alloc (.cells (cel (sState a)) 49) = W := ⟨_, rfl⟩
 obtain ⟨W2, hW2⟩ : ∃ W, W1.alloc (.cells (cel (sState b)) 49) = W := ⟨_, rfl⟩
 have z1 : W1.heap.size = w.heap.size + 1 := by rw [← hW1]; simp
 obtain ⟨y1, ey1⟩ : ∃ y, w.heap.size = y := ⟨_, rfl⟩
 obtain ⟨y2, ey2⟩ : ∃ y, W1.heap.size = y := ⟨_, rfl⟩
 have r1 : W2.heap[y1]? = some (.cells (cel (sState a)) 49) := by
  rw [← hW2, ← ey1]
  refine (heap_old (by omega)).trans ?_
  rw [← hW1]
  exact heap_new rfl
 have r2 : W2.heap[y2]? = some (.cells (cel (sState b)) 49) := by
  rw [← hW2, ← ey2]
  exact heap_new rfl
 have hB : Below w.heap.size w W2 := by
  rw [← hW2, ← hW1]
  exact ((Below.refl _ _).alloc (Nat.le_refl _) _).alloc (by simp) _
 obtain ⟨E, eE⟩ : ∃ E, rE a = E := ⟨_, rfl⟩
 obtain ⟨S, eS⟩ : ∃ S, rS a = S := ⟨_, rfl⟩
 have lv1 := lvState_run r1
 have HA := hid (renc_str a W2 ha (ia.below hB) E eE S eS)
 have HBB : Hid (∀ X, Below W2.heap.size W2 X → Calls Tryz.prog 32 #[.agg (cel (sState b))] X fun e w' => ∃ a n c, e = .returned (.tuple #[.slice a n c, .int .i64 E]) ∧ (∀ Y, Below w'.heap.size w' Y → (convert 39 9 (.slice a n c)).run Tryz.prog Y = .ok (.string S) Y) ∧ Below X.heap.size X w') := fun X h => renc_str b X hb (ib.below (hB.trans (h.mono hB.size))) E (hE.trans eE) S (hS.trans eS)
 have HL2 : Hid (∀ X, Below W2.heap.size W2 X → (lvState ⟨y2, 0, none⟩).run Tryz.prog X = .ok (.agg (cel (sState b))) X) := fun X h => lvState_run ((h.block y2 (some_lt r2)).trans r2)
 have HB := hid hB
 clear r1 r2 hB eE eS ha hb ia ib hE hS z1
 go_enter Tryz.func11, Tryz.ntmps11
 go_upto_region 1 with fail
 clear hW1 hW2 ey1 ey2
 go_upto_region 2 with (go_at_call 32; refine HA.out.mono ?_; rintro e w3 ⟨a3, n3, c3, rfl, hcv, hb3⟩; have C3 := hid hcv; have lv2 := HL2.out w3 hb3; have HC := hid (HBB.out w3 hb3); have HB3 := hid (HB.out.trans (hb3.mono HB.out.size)); clear hcv hb3)
 go_upto_region 3 with (go_at_call 32; refine HC.out.mono ?_; rintro e w4 ⟨a4, n4, c4, rfl, hcv, hb4⟩; have cv4 := hcv w4 (Below.refl _ _); have cv3 := C3.out w4 hb4; have HB4 := hid (HB3.out.trans (hb4.mono HB3.out.size)); clear hcv hb4)
 go_wp2
 go_ret
 exact ⟨rfl, HB4.out⟩
end Go.Proofs.YtopnhpllidegnaaGreatDoor
