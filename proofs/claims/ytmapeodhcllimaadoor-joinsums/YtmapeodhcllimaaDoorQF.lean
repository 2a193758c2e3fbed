/-
  Places in a region that several orders share.
  A copied state changed in place.
  What the reference's Vote answers.
  What the reference's Question answers; what the program's functions of layer 16 have to answer; the statements' own awake.
  What SignDomains and SignRoots answer, by what the program's functions answer.
  What the reference's Number and Randao answer.
  What the reference's Told answers; what the program's functions of layer 17 have to answer; the statements' own awake.
-/
import Derived.Test.YtmapeodhcllimaaDoorHaA
import Derived.Test.YtmapeodhcllimaaDoorQE
import Derived.Test.YtmapeodhcllimaaDoorQD
import Derived.Test.YtmapeodhcllimaaDoorQC
import Derived.Test.YtmapeodhcllimaaDoorQH
import Derived.Test.YtmapeodhcllimaaDoorQG
import Derived.Test.YtmapeodhcllimaaDoorStP
import Derived.Test.YtmapeodhcllimaaDoorCoA
import Derived.Test.YtmapeodhcllimaaDoorQJ
import Derived.Test.YtmapeodhcllimaaDoorQN
import Derived.Test.YtmapeodhcllimaaDoorQO
import Derived.BigRegion

namespace Go.Proofs.YtmapeodhcllimaaDoor

open Go.RowKit

set_option linter.unusedVariables false

/-- All that stood in W stands in V. -/
abbrev Up (W V : World) : Prop := Below W.heap.size W V

theorem upT {W V X : World} (h : Up W V) (k : Up V X) : Up W X := h.trans (k.mono h.size)

theorem upR {V X : World} {y : Nat} {o : Obj} (k : Up V X) (r : V.heap[y]? = some o) : X.heap[y]? = some o := (k.block _ (Array.getElem?_eq_some_iff.1 r).1).trans r

theorem upN2 {W V : World} (h : Up W V) (o : Obj) : ∃ X y, V.alloc o = X ∧ V.heap.size = y ∧ X.heap[y]? = some o ∧ Up V X ∧ W.heap.size ≤ y := ⟨_, _, rfl, rfl, heap_new rfl, (Below.refl _ _).alloc (Nat.le_refl _) _, h.size⟩

theorem sh1 {P : Program} {ops : Array Oper} {Q : Exit → Act → World → Prop} {md : Region.Mode} {S : World → Prop} {fuel fuel' : Nat} {listed listed' : Array Bool} {a : Act} {w : World} {α : Type} {act : α → Act} (F : α → World → Prop) (hm : Hid (∀ x V, F x V → wpAnyH P md ops Q S fuel' listed' (act x) V) → wpAnyH P md ops Q S fuel listed a w) (ht : ∀ x V, F x V → wpAnyH P md ops Q S fuel' listed' (act x) V) : wpAnyH P md ops Q S fuel listed a w := hm ht

/-- What may come up next: one, two, three. -/
theorem rd1 {P : Program} {ops : Array Oper} {Q : Exit → Act → World → Prop} {md : Region.Mode} {S : World → Prop} {fuel : Nat} {listed : Array Bool} {a : Act} {w : World} (i : Nat) {o : Oper} (h : ∀ K' : Act → World → Prop, Shut (∀ a w, S w → (S w → wpAnyH P md ops Q S fuel (listed.setIfInBounds i true) a w) → K' a w) → if Region.wanted o (yielded ops a.tmps) = true then Oper.wp P o a w K' Q else K' (a.put o.dst undef) w) (ho : ops[i]? = some o := by rfl) (hr : Region.ready md ops listed = [i] := by kernel_rfl) : wpAnyH P md ops Q S (fuel + 1) listed a w :=
  wpAnyH_ready hr (by simp) (AllReadyH.cons ho h AllReadyH.nil)

theorem rd2 {P : Program} {ops : Array Oper} {Q : Exit → Act → World → Prop} {md : Region.Mode} {S : World → Prop} {fuel : Nat} {listed : Array Bool} {a : Act} {w : World} (i j : Nat) {o p : Oper} (h : ∀ K' : Act → World → Prop, Shut (∀ a w, S w → (S w → wpAnyH P md ops Q S fuel (listed.setIfInBounds i true) a w) → K' a w) → if Region.wanted o (yielded ops a.tmps) = true then Oper.wp P o a w K' Q else K' (a.put o.dst undef) w) (h2 : ∀ K' : Act → World → Prop, Shut (∀ a w, S w → (S w → wpAnyH P md ops Q S fuel (listed.setIfInBounds j true) a w) → K' a w) → if Region.wanted p (yielded ops a.tmps) = true then Oper.wp P p a w K' Q else K' (a.put p.dst undef) w) (ho : ops[i]? = some o := by rfl) (hp : ops[j]? = some p := by rfl) (hr : Region.ready md ops listed = [i, j] := by kernel_rfl) : wpAnyH P md ops Q S (fuel + 1) listed a w :=
  wpAnyH_ready hr (by simp) (AllReadyH.cons ho h (AllReadyH.cons hp h2 AllReadyH.nil))

end Go.Proofs.YtmapeodhcllimaaDoor

namespace Go.Proofs.YtmapeodhcllimaaDoor

open Go.RowKit

set_option linter.unusedVariables false

set_option linter.unusedSimpArgs false

set_option maxRecDepth 20000

/-- A state in the block y whose lists were made behind w; of what stood in w only y may have changed. -/
structure BK (w : World) (y : Nat) (V : World) (Y : VState) : Prop where
  kep : Kept y w V
  row : V.heap[y]? = some (.cells (cel (sState Y)) 49)
  cpd : CpdF w.heap.size V Y

theorem BK.below {w V V' : World} {y : Nat} {Y : VState} (h : BK w y V Y) (hb : Up V V') : BK w y V' Y := ⟨h.kep.trans (Kept.ofBelow hb), upR hb h.row, h.cpd.below hb⟩

theorem BK.drew {w V : World} {y : Nat} {Y : VState} (h : BK w y V Y) : BK w y V.drew Y := h.below ((Below.refl _ _).drew)

theorem BK.inW {w V : World} {y : Nat} {Y : VState} (h : BK w y V Y) : InW V Y :=
  ⟨own_rtF h.cpd.o7, own_els h.cpd.o9 (fun i => by rw [celL_len]; rfl), own_els h.cpd.o11 (fun i => by rw [celL_len]; rfl), own_nms h.cpd.o12, own_byF h.cpd.o15, own_byF h.cpd.o16, own_nms h.cpd.o21⟩

theorem BK.old {w V : World} {y k : Nat} {Y : VState} {o : Obj} (h : BK w y V Y) (r : w.heap[k]? = some o) (hk : k ≠ y) : V.heap[k]? = some o := (h.kep.block k (Array.getElem?_eq_some_iff.1 r).1 hk).trans r

/-- Cells of the state itself. -/
theorem BK.setY {w V : World} {y : Nat} {Y Y' : VState} (h : BK w y V Y) (i : Nat) (v : Value) (he : (cel (sState Y)).setIfInBounds i v = cel (sState Y')) (e7 : Y'.f7 = Y.f7) (e9 : Y'.f9 = Y.f9) (e11 : Y'.f11 = Y.f11) (e12 : Y'.f12 = Y.f12) (e15 : Y'.f15 = Y.f15) (e16 : Y'.f16 = Y.f16) (e21 : Y'.f21 = Y.f21) : BK w y (V.setCell ⟨y, i, none⟩ v) Y' := by
  have hk : Kept y V (V.setCell ⟨y, i, none⟩ v) := (Kept.refl y V).setCell _ _
  refine ⟨h.kep.trans hk, (row_set h.row i v).trans (congrArg (fun c => some (Obj.cells c 49)) he), ⟨?_, ?_, ?_, ?_, ?_, ?_, ?_, ?_, ?_⟩⟩
  · rw [e7]; exact own_keptB h.cpd.o7 hk (own_ne h.cpd.o7 h.row (by decide))
  · rw [e9]; exact own_keptB h.cpd.o9 hk (own_ne h.cpd.o9 h.row (by decide))
  · rw [e11]; exact own_keptB h.cpd.o11 hk (own_ne h.cpd.o11 h.row (by decide))
  · rw [e12]; exact own_keptB h.cpd.o12 hk (own_ne h.cpd.o12 h.row (by decide))
  · rw [e15]; exact own_keptB h.cpd.o15 hk (own_ne h.cpd.o15 h.row (by decide))
  · rw [e16]; exact own_keptB h.cpd.o16 hk (own_ne h.cpd.o16 h.row (by decide))
  · rw [e21]; exact own_keptB h.cpd.o21 hk (own_ne h.cpd.o21 h.row (by decide))
  · rw [e15, e16]; exact h.cpd.d15
  · rw [e12, e21]; exact h.cpd.d12

/-- A store into a list of the state's own. -/
theorem kept_new {w V : World} {y g : Nat} (h : Kept y w V) (hg : w.heap.size ≤ g) (i : Nat) (v : Value) : Kept y w (V.setCell ⟨g, i, none⟩ v) := by
  have hk : Kept g V (V.setCell ⟨g, i, none⟩ v) := (Kept.refl g V).setCell _ _
  exact ⟨hk.os.trans h.os, hk.tape.trans h.tape, hk.output.trans h.output, Nat.le_trans h.size hk.size, fun k hk1 hn => (hk.block k (Nat.lt_of_lt_of_le hk1 h.size) (by omega)).trans (h.block k hk1 hn)⟩

theorem own_row {w : World} {B k g n cap : Nat} {t : TypeId} {xs : List Value} (h : w.ownsRow B t k (.slice (some ⟨g, 0, none⟩) n cap) n xs) : B ≤ g ∧ ∃ C, w.heap[g]? = some (.cells C t) := by
  rcases h.2 with ⟨e, _⟩ | ⟨g', cap', cur, e, h1, h2, _⟩
  · cases e
  · cases e
    exact ⟨h1, cur, h2⟩

theorem own_some {w : World} {B k n cap : Nat} {t : TypeId} {a : Option Addr} {xs : List Value} (h : w.ownsRow B t k (.slice a n cap) n xs) (hn : 0 < n) : ∃ g, a = some ⟨g, 0, none⟩ := by
  rcases h.2 with ⟨e, h0⟩ | ⟨g', cap', cur, e, _⟩
  · omega
  · cases e
    exact ⟨g', rfl⟩

/-- One validator changed. -/
def valS (X : VState) (i : Nat) (f : VValidator → VValidator) : VState := { X with f11 := ⟨X.f11.a, X.f11.n, X.f11.c, fun j => if j = i then f (X.f11.z i) else X.f11.z j⟩ }

theorem BK.val {w V : World} {y i g p : Nat} {X : VState} (f : VValidator → VValidator) (u : Value) (hf : (celL (sValidator (X.f11.z i))).set p u = celL (sValidator (f (X.f11.z i)))) (hp : p < 86) (h : BK w y V X) (hg : X.f11.a = some ⟨g, 0, none⟩) (hi : i < X.f11.n) : BK w y (V.setCell ⟨g, 86 * i + p, none⟩ u) (valS X i f) := by
  have o11 := h.cpd.o11
  rw [hg] at o11
  obtain ⟨hB, C, hrg⟩ := own_row o11
  have hb : i * 86 + p < X.f11.n * 86 := by
    have : i * 86 + 86 ≤ X.f11.n * 86 := by
      rw [← Nat.succ_mul]
      exact Nat.mul_le_mul_right _ hi
    omega
  have h1 := ownSetC o11 (i * 86 + p) hb u
  rw [flat_set (fun j => by rw [celL_len]; rfl) X.f11.n i p hi hp, Nat.mul_comm i 86] at h1
  have e : (fun j => if j = i then (celL (sValidator (X.f11.z i))).set p u else celL (sValidator (X.f11.z j))) = fun j => celL (sValidator ((valS X i f).f11.z j)) := funext fun j => by
    show _ = celL (sValidator (if j = i then f (X.f11.z i) else X.f11.z j))
    by_cases hj : j = i
    · rw [if_pos hj, if_pos hj, hf]
    · rw [if_neg hj, if_neg hj]
  rw [e] at h1
  have hk : Kept g V (V.setCell ⟨g, 86 * i + p, none⟩ u) := (Kept.refl g V).setCell _ _
  have hne : y ≠ g := fun e => by
    subst e
    rw [h.row] at hrg
    injection hrg with q
    injection q with _ q2
    exact absurd q2 (by decide)
  refine ⟨kept_new h.kep hB _ _, (hk.block y (some_lt h.row) hne).trans h.row, ⟨own_keptB h.cpd.o7 hk (own_ne h.cpd.o7 hrg (by decide)), own_keptB h.cpd.o9 hk (own_ne h.cpd.o9 hrg (by decide)), ?_, own_keptB h.cpd.o12 hk (own_ne h.cpd.o12 hrg (by decide)), own_keptB h.cpd.o15 hk (own_ne h.cpd.o15 hrg (by decide)), own_keptB h.cpd.o16 hk (own_ne h.cpd.o16 hrg (by decide)), own_keptB h.cpd.o21 hk (own_ne h.cpd.o21 hrg (by decide)), h.cpd.d15, h.cpd.d12⟩⟩
  show World.ownsRow _ _ _ _ (.slice X.f11.a X.f11.n X.f11.c) _ _
  rw [hg]
  exact h1

/-- One balance changed. -/
def balS (X : VState) (i : Nat) (v : Int) : VState := { X with f12 := ⟨X.f12.a, X.f12.n, X.f12.c, fun j => if j = i then v else X.f12.z j⟩ }

theorem BK.bal {w V : World} {y i g : Nat} {X : VState} (v : Int) (h : BK w y V X) (hg : X.f12.a = some ⟨g, 0, none⟩) (hi : i < X.f12.n) : BK w y (V.setCell ⟨g, i, none⟩ (.int .u64 v)) (balS X i v) := by
  have o12 := h.cpd.o12
  rw [hg] at o12
  obtain ⟨hB, C, hrg⟩ := own_row o12
  have h1 := ownSetC o12 i (by omega) (.int .u64 v)
  rw [nl_set] at h1
  have hk : Kept g V (V.setCell ⟨g, i, none⟩ (.int .u64 v)) := (Kept.refl g V).setCell _ _
  have hne : y ≠ g := fun e => by
    subst e
    rw [h.row] at hrg
    injection hrg with q
    injection q with _ q2
    exact absurd q2 (by decide)
  have hd : (Value.slice X.f21.a X.f21.n X.f21.c).ownBlock ≠ some g := fun e => by
    cases ha : X.f21.a with
    | none => rw [ha] at e; cases e
    | some ad =>
      rw [ha] at e
      have := h.cpd.d12 _ ad hg ha
      exact this (Option.some.inj e).symm
  refine ⟨kept_new h.kep hB _ _, (hk.block y (some_lt h.row) hne).trans h.row, ⟨own_keptB h.cpd.o7 hk (own_ne h.cpd.o7 hrg (by decide)), own_keptB h.cpd.o9 hk (own_ne h.cpd.o9 hrg (by decide)), own_keptB h.cpd.o11 hk (own_ne h.cpd.o11 hrg (by decide)), ?_, own_keptB h.cpd.o15 hk (own_ne h.cpd.o15 hrg (by decide)), own_keptB h.cpd.o16 hk (own_ne h.cpd.o16 hrg (by decide)), ?_, h.cpd.d15, h.cpd.d12⟩⟩
  · show World.ownsRow _ _ _ _ (.slice X.f12.a X.f12.n X.f12.c) _ _
    rw [hg]
    exact h1
  · exact own_keptB h.cpd.o21 hk hd

theorem val_put6 (v : VValidator) (x : Int) : (celL (sValidator v)).set 84 (.int .u64 x) = celL (sValidator { v with f6 := x }) := by
  show ((List.range 48).map (Seg.get (.by 48 v.f0)) ++ ((List.range 32).map (Seg.get (.by 32 v.f1)) ++ (Value.int .u64 v.f2 :: Value.bool v.f3 :: Value.int .u64 v.f4 :: Value.int .u64 v.f5 :: Value.int .u64 v.f6 :: [Value.int .u64 v.f7]))).set 84 _ = (List.range 48).map (Seg.get (.by 48 v.f0)) ++ ((List.range 32).map (Seg.get (.by 32 v.f1)) ++ (Value.int .u64 v.f2 :: Value.bool v.f3 :: Value.int .u64 v.f4 :: Value.int .u64 v.f5 :: Value.int .u64 x :: [Value.int .u64 v.f7]))
  rw [List.set_append_right _ _ (by simp), List.set_append_right _ _ (by simp)]
  simp

theorem val_put7 (v : VValidator) (x : Int) : (celL (sValidator v)).set 85 (.int .u64 x) = celL (sValidator { v with f7 := x }) := by
  show ((List.range 48).map (Seg.get (.by 48 v.f0)) ++ ((List.range 32).map (Seg.get (.by 32 v.f1)) ++ (Value.int .u64 v.f2 :: Value.bool v.f3 :: Value.int .u64 v.f4 :: Value.int .u64 v.f5 :: Value.int .u64 v.f6 :: [Value.int .u64 v.f7]))).set 85 _ = (List.range 48).map (Seg.get (.by 48 v.f0)) ++ ((List.range 32).map (Seg.get (.by 32 v.f1)) ++ (Value.int .u64 v.f2 :: Value.bool v.f3 :: Value.int .u64 v.f4 :: Value.int .u64 v.f5 :: Value.int .u64 v.f6 :: [Value.int .u64 x]))
  rw [List.set_append_right _ _ (by simp), List.set_append_right _ _ (by simp)]
  simp

end Go.Proofs.YtmapeodhcllimaaDoor

namespace Go.Proofs.YtmapeodhcllimaaDoor

open Go.RowKit

set_option linter.unusedVariables false

set_option linter.unusedSimpArgs false

set_option maxRecDepth 20000

/-- A state given back. -/
theorem BF.give {w V : World} {y b : Nat} {Y : VState} {C : Array Value} (h : BF w y V Y) (r : V.heap[b]? = some (.cells C 49)) (c : Array Value) : Res w.heap.size (V.setRow b c) Y Y := by
  have hk : Kept b V (V.setRow b c) := (Kept.refl b V).setRow c
  have cp : CpdF w.heap.size (V.setRow b c) Y := ⟨own_keptB h.cpd.o7 hk (own_ne h.cpd.o7 r (by decide)), own_keptB h.cpd.o9 hk (own_ne h.cpd.o9 r (by decide)), own_keptB h.cpd.o11 hk (own_ne h.cpd.o11 r (by decide)), own_keptB h.cpd.o12 hk (own_ne h.cpd.o12 r (by decide)), own_keptB h.cpd.o15 hk (own_ne h.cpd.o15 r (by decide)), own_keptB h.cpd.o16 hk (own_ne h.cpd.o16 r (by decide)), own_keptB h.cpd.o21 hk (own_ne h.cpd.o21 r (by decide)), h.cpd.d15, h.cpd.d12⟩
  exact ⟨.refl _, ⟨own_rtF cp.o7, own_els cp.o9 (fun i => by rw [celL_len]; rfl), own_els cp.o11 (fun i => by rw [celL_len]; rfl), own_nms cp.o12, own_byF cp.o15, own_byF cp.o16, own_nms cp.o21⟩, cp.nil, cp.nw⟩

/-- Votes in memory. -/
theorem src_cel {w : World} {b k : Nat} {l : List Seg} {t : TypeId} (hk : slen l = k) (h : w.heap[b]? = some (.cells (cel l) t)) : Src w k (some ⟨b, 0, none⟩) 1 1 (celL l) :=
  ⟨(fun e => by cases e), by rw [celL_len, hk, Nat.one_mul], celL_one l, .inr ⟨b, 0, rfl, some_lt h, fun j u hj => by
    rw [Nat.zero_add, row_cell h]
    show (celL l).toArray[j]? = some u
    rw [List.getElem?_toArray]
    exact hj⟩⟩

def bsE (n : Nat) (ps : Array (Nat × Value)) : Sem Value := Instr.buildSlice 35 n ps

theorem bsE_eq (n : Nat) (ps : Array (Nat × Value)) : Instr.buildSlice 35 n ps = bsE n ps := rfl

def svE (a : Addr) (v : Value) : Sem Unit := storeVar 34 a v

theorem svE_eq (a : Addr) (v : Value) : storeVar 34 a v = svE a v := rfl

theorem right_small {x : VState} (h : rightB x = true) : x.f7.n ≤ 65536 ∧ x.f9.n ≤ 8 ∧ x.f11.n ≤ 65536 ∧ x.f12.n ≤ 65536 ∧ x.f15.n ≤ 65536 ∧ x.f16.n ≤ 65536 ∧ x.f21.n ≤ 65536 := by
  unfold rightB at h
  rw [Bool.and_eq_true] at h
  have := h.1
  unfold fitB at this
  simp only [Bool.and_eq_true, decide_eq_true_eq] at this
  omega

theorem small_rch {x : VState} (h : rightB x = true) : Rch x := by
  have := right_small h
  unfold Rch
  omega

attribute [local go_sem ↓] lvState_eq svState_eq bdState_eq lvEth1_eq ixEth1_eq bsE_eq svE_eq eqoE_eq

end Go.Proofs.YtmapeodhcllimaaDoor

namespace Go.Proofs.YtmapeodhcllimaaDoor

open Go.RowKit

set_option linter.unusedVariables false

set_option linter.unusedSimpArgs false

set_option maxRecDepth 20000

theorem qs_one (f r s : Nat → Int) (n j : Nat) (h : j < 48 * n) : qsF f n r s j = f j := by unfold qsF; rw [if_pos h]

theorem qs_two (f r s : Nat → Int) (n j : Nat) (h : j < 32) : qsF f n r s (48 * n + j) = r j := by unfold qsF; rw [if_neg (by omega), if_pos (by omega), show 48 * n + j - 48 * n = j by omega]

theorem qs_three (f r s : Nat → Int) (n j : Nat) : qsF f n r s (48 * n + 32 + j) = s j := by unfold qsF; rw [if_neg (by omega), if_neg (by omega), show 48 * n + 32 + j - (48 * n + 32) = j by omega]

attribute [local go_sem ↓] ixKy_eq lvKy_eq svKy_eq sv24_eq lv24_eq bdRo_eq bs22_eq

/-- A byte of a root by its value. -/
def ixRo (x i : Value) : Sem Value := Instr.index 24 x i

theorem ixRo_eq (x i : Value) : Instr.index 24 x i = ixRo x i := rfl

attribute [local go_sem ↓] ixRo_eq

/-- What the program's functions have to answer. -/
def PDom : Prop := ∀ (x : VState) (k e : Int) (w : World), OkState x → -9223372036854775808 ≤ k → k ≤ 9223372036854775807 → 0 ≤ e → e < 18446744073709551616 → Sh w → Calls Tryd.prog 48 #[.agg (cel (sState x)), .int .i64 k, .int .u64 e] w fun e' w' => e' = .returned (.agg (vs .u8 32 (domV x k e))) ∧ Below w.heap.size w w'

def PDep : Prop := ∀ w : World, Sh w → Calls Tryd.prog 67 #[] w fun e' w' => e' = .returned (.agg (vs .u8 32 depV)) ∧ Below w.heap.size w w'

def PRoo : Prop := ∀ (a b : Nat → Int) (w : World), (∀ j, j < 32 → 0 ≤ a j ∧ a j < 256) → (∀ j, j < 32 → 0 ≤ b j ∧ b j < 256) → Sh w → Calls Tryd.prog 49 #[.agg (vs .u8 32 a), .agg (vs .u8 32 b)] w fun e' w' => e' = .returned (.agg (vs .u8 32 (tw a b))) ∧ Below w.heap.size w w'

def PMsg : Prop := ∀ (d : VDepositData) (w : World), OkDepositData d → Sh w → Calls Tryd.prog 66 #[.agg (cel (sDepositData d))] w fun e' w' => e' = .returned (.agg (vs .u8 32 (msV d))) ∧ Below w.heap.size w w'

def PQue : Prop := ∀ (a : Option Addr) (n cap : Nat) (f r s : Nat → Int) (w : World), Kys w a n cap f → (∀ j, j < 48 * n → 0 ≤ f j ∧ f j < 256) → (∀ j, j < 32 → 0 ≤ r j ∧ r j < 256) → (∀ j, j < 96 → 0 ≤ s j ∧ s j < 256) → 48 * n ≤ 140737488351232 → Sh w → Calls Tryd.prog 51 #[.slice a n cap, .agg (vs .u8 32 r), .agg (vs .u8 96 s)] w fun e' w' => e' = .returned (.agg (vs .u8 32 (qsV f n r s))) ∧ Below w.heap.size w w'

def PGoo : Prop := ∀ (q f : Nat → Int) (a : Option Addr) (n cap : Nat) (w : World), Rts w a n cap f → n ≤ 9223372036854775807 → Calls Tryd.prog 20 #[.agg (vs .u8 32 q), .slice a n cap] w fun e' w' => e' = .returned (.bool (gdB q f n)) ∧ Below w.heap.size w w'

theorem depV_bd (j : Nat) : 0 ≤ depV j ∧ depV j < 256 := dmV_bd ..

theorem gd_self (q : Nat → Int) : gdB q q 1 = false := by
  have h : eqR (rt32 q 0) q = true := by rw [rt32_0]; exact eqR_self q
  rw [gdB_succ, h]
  rfl

end Go.Proofs.YtmapeodhcllimaaDoor

namespace Go.Proofs.YtmapeodhcllimaaDoor

open Go.RowKit

set_option linter.unusedVariables false

set_option linter.unusedSimpArgs false

set_option maxRecDepth 20000

attribute [local go_sem ↓] lvState_eq svState_eq bdState_eq sv24_eq lv24_eq

/-- A signature, loaded and stored. -/
def lvSg (a : Addr) : Sem Value := loadVar 52 a

theorem lvSg_eq (a : Addr) : loadVar 52 a = lvSg a := rfl

def svSg (a : Addr) (v : Value) : Sem Unit := storeVar 52 a v

theorem svSg_eq (a : Addr) (v : Value) : storeVar 52 a v = svSg a v := rfl

def svDd (a : Addr) (v : Value) : Sem Unit := storeVar 54 a v

theorem svDd_eq (a : Addr) (v : Value) : storeVar 54 a v = svDd a v := rfl

def lvDd (a : Addr) : Sem Value := loadVar 54 a

theorem lvDd_eq (a : Addr) : loadVar 54 a = lvDd a := rfl

theorem lvDd_run {w : World} {b : Nat} {c : VDepositData} {t : TypeId} (h : w.heap[b]? = some (.cells (cel (sDepositData c)) t)) : (lvDd ⟨b, 0, none⟩).run Tryd.prog w = .ok (.agg (cel (sDepositData c))) w :=
  loadAt_var (load_row h 54 _ Tryd.underlying54 rfl (by rw [cel_size, slDepositData]; kernel_rfl))

attribute [local go_sem ↓] lvSg_eq svSg_eq lvDd_eq svDd_eq

end Go.Proofs.YtmapeodhcllimaaDoor

namespace Go.Proofs.YtmapeodhcllimaaDoor

open Go.RowKit

set_option linter.unusedVariables false

set_option linter.unusedSimpArgs false

set_option maxRecDepth 20000

/-- A list of one key, built. -/
def bsK (n : Nat) (ps : Array (Nat × Value)) : Sem Value := Instr.buildSlice 113 n ps

theorem bsK_eq (n : Nat) (ps : Array (Nat × Value)) : Instr.buildSlice 113 n ps = bsK n ps := rfl

theorem bsK_1 (W : World) (c : Nat → Int) : (bsK 1 #[(0, .agg (vs .u8 48 c))]).run Tryd.prog W = .ok (.slice (some ⟨W.heap.size, 0, none⟩) 1 1) (W.alloc (.cells (vs .u8 48 c) 44)) := by kernel_rfl

theorem retState3 {fn : Func} {R : Ending → World → Prop} {a : Act} {w' : World} (t s s2 : Tmp) (b : Nat) (c : VState) (ty : TypeId) (v v2 : Value) (h : fn.results = #[.cell t 49, .tmp s, .tmp s2]) (hd : a.defers = []) (ht : a.tmps.getD t undef = .pointer (some ⟨b, 0, none⟩)) (hs : a.tmps.getD s undef = v) (hs2 : a.tmps.getD s2 undef = v2) (hr : w'.heap[b]? = some (.cells (cel (sState c)) ty))
    (hR : R (.returned (.tuple #[.agg (cel (sState c)), v, v2])) w') : bodyPost Tryd.prog fn R .ret a w' := by
  refine bodyPost_ret ?_ hd hR
  have hl := loadAt_var (load_row (P := Tryd.prog) hr 49 _ Tryd.underlying49 rfl (by rw [cel_size, slState]; kernel_rfl))
  rw [Array.getD_eq_getD_getElem?] at ht hs hs2
  simp [results, h, ht, hs, hs2, hl, asAddr]

theorem twB (a b : Nat → Int) (j : Nat) : 0 ≤ tw a b j ∧ tw a b j < 256 := shaV_bd ..

theorem domB (x : VState) (k e : Int) (j : Nat) : 0 ≤ domV x k e j ∧ domV x k e j < 256 := by
  unfold domV dmV
  split
  · unfold kdB nmB; omega
  · exact twB ..

attribute [local go_sem ↓] lvState_eq svState_eq bdState_eq sv24_eq lv24_eq sv8_eq ix22_eq bs22_eq bsK_eq lvSg_eq lvKy_eq ixValidator_eq

theorem val_key {w : World} {b o : Nat} {v : VValidator} (h : w.rangeAt b o (celL (sValidator v))) (j : Nat) (hj : j < 48) : w.cell? ⟨b, o + j, none⟩ = some (.int .u8 (v.f0 j)) := by
  refine h j _ ?_
  show ((List.range 48).map (Seg.get (.by 48 v.f0)) ++ celL _)[j]? = _
  rw [List.getElem?_append_left (by simp; exact hj), List.getElem?_map, List.getElem?_range hj]
  rfl

end Go.Proofs.YtmapeodhcllimaaDoor

namespace Go.Proofs.YtmapeodhcllimaaDoor

open Go.RowKit

set_option linter.unusedVariables false

set_option linter.unusedSimpArgs false

set_option maxRecDepth 20000

attribute [local go_sem ↓] lvState_eq svState_eq bdState_eq

/-- How long a state's lists may be. -/
def Lns (x : VState) : Prop := x.f11.n ≤ 9223372036854775807 ∧ x.f21.n ≤ 9223372036854775807 ∧ x.f12.n ≤ 9223372036854775807

def bdE (ps : Array (Nat × Value)) : Sem Value := Instr.build 34 ps

theorem bdE_eq (ps : Array (Nat × Value)) : Instr.build 34 ps = bdE ps := rfl

def bdSg (ps : Array (Nat × Value)) : Sem Value := Instr.build 52 ps

theorem bdSg_eq (ps : Array (Nat × Value)) : Instr.build 52 ps = bdSg ps := rfl

theorem right_z : rightB oState = true := by kernel_rfl

theorem lns_z : Lns oState := ⟨Nat.zero_le _, Nat.zero_le _, Nat.zero_le _⟩

attribute [local go_sem ↓] bdE_eq bdSg_eq

end Go.Proofs.YtmapeodhcllimaaDoor
