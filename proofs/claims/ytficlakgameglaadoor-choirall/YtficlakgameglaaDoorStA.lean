/-
  A state: as it lies in memory, its lists.
-/

import Derived.Test.YtficlakgameglaaDoorQF
namespace Go.Proofs.YtficlakgameglaaDoor

open Go.RowKit

set_option linter.unusedVariables false

set_option linter.unusedSimpArgs false

set_option maxRecDepth 20000

/-- A list: where it lies, how many, with what room, which. -/
structure LV (α : Type) where
  a : Option Addr
  n : Nat
  c : Nat
  z : Nat → α

def LV.s {α : Type} (l : LV α) : Seg := .sl l.a l.n l.c

structure VState where
  f0 : Int
  f1 : Nat → Int
  f2 : Int
  f3 : VFork
  f4 : VHeader
  f5 : Nat → Int
  f6 : Nat → Int
  f7 : LV Int
  f8 : VEth1
  f9 : LV VEth1
  f10 : Int
  f11 : LV VValidator
  f12 : LV Int
  f13 : Nat → Int
  f14 : Nat → Int
  f15 : LV Int
  f16 : LV Int
  f17 : Nat → Bool
  f18 : VCheckpoint
  f19 : VCheckpoint
  f20 : VCheckpoint
  f21 : LV Int
  f22 : VCommittee
  f23 : VCommittee

def sState (x : VState) : List Seg := [.nu x.f0, .by 32 x.f1, .nu x.f2] ++ sFork x.f3 ++ sHeader x.f4 ++ [.by 256 x.f5, .by 256 x.f6, x.f7.s] ++ sEth1 x.f8 ++ [x.f9.s, .nu x.f10, x.f11.s, x.f12.s, .by 256 x.f13, .nu (x.f14 0), .nu (x.f14 1), .nu (x.f14 2), .nu (x.f14 3), .nu (x.f14 4), .nu (x.f14 5), .nu (x.f14 6), .nu (x.f14 7), x.f15.s, x.f16.s, .bo (x.f17 0), .bo (x.f17 1), .bo (x.f17 2), .bo (x.f17 3)] ++ sCheckpoint x.f18 ++ sCheckpoint x.f19 ++ sCheckpoint x.f20 ++ [x.f21.s] ++ sCommittee x.f22 ++ sCommittee x.f23

theorem slState (x : VState) : slen (sState x) = 1957 := by kernel_rfl

/-- Elements of k cells each in a slice. -/
def Els (w : World) (a : Option Addr) (n k : Nat) (e : Nat → List Value) : Prop :=
  n = 0 ∨ ∃ b off, a = some ⟨b, off, none⟩ ∧ b < w.heap.size ∧ ∀ i, i < n → w.rangeAt b (off + k * i) (e i)

theorem rangeAt_below {w w' : World} {b o : Nat} {l : List Value} (h : w.rangeAt b o l) (hl : b < w.heap.size) (hb : Below w.heap.size w w') : w'.rangeAt b o l := fun j v hj => by
  rw [below_cell hb hl]
  exact h j v hj

theorem Els.below {w w' : World} {a : Option Addr} {n k : Nat} {e : Nat → List Value} (h : Els w a n k e) (hb : Below w.heap.size w w') : Els w' a n k e := by
  rcases h with h | ⟨b, off, rfl, hl, hc⟩
  · exact .inl h
  · exact .inr ⟨b, off, rfl, Nat.lt_of_lt_of_le hl hb.size, fun i hi => rangeAt_below (hc i hi) hl hb⟩

/-- Numbers and bytes that fit; the lists in memory. -/
structure OkState (x : VState) : Prop where
  o0 : 0 ≤ x.f0 ∧ x.f0 < 18446744073709551616
  o1 : ∀ j, j < 32 → 0 ≤ x.f1 j ∧ x.f1 j < 256
  o2 : 0 ≤ x.f2 ∧ x.f2 < 18446744073709551616
  o3 : OkFork x.f3
  o4 : OkHeader x.f4
  o5 : ∀ j, j < 256 → 0 ≤ x.f5 j ∧ x.f5 j < 256
  o6 : ∀ j, j < 256 → 0 ≤ x.f6 j ∧ x.f6 j < 256
  o7 : ∀ j, j < 32 * x.f7.n → 0 ≤ x.f7.z j ∧ x.f7.z j < 256
  o8 : OkEth1 x.f8
  o9 : ∀ j, j < x.f9.n → OkEth1 (x.f9.z j)
  o10 : 0 ≤ x.f10 ∧ x.f10 < 18446744073709551616
  o11 : ∀ j, j < x.f11.n → OkValidator (x.f11.z j)
  o12 : ∀ j, j < x.f12.n → 0 ≤ x.f12.z j ∧ x.f12.z j < 18446744073709551616
  o13 : ∀ j, j < 256 → 0 ≤ x.f13 j ∧ x.f13 j < 256
  o14 : ∀ j, j < 8 → 0 ≤ x.f14 j ∧ x.f14 j < 18446744073709551616
  o15 : ∀ j, j < x.f15.n → 0 ≤ x.f15.z j ∧ x.f15.z j < 256
  o16 : ∀ j, j < x.f16.n → 0 ≤ x.f16.z j ∧ x.f16.z j < 256
  o18 : OkCheckpoint x.f18
  o19 : OkCheckpoint x.f19
  o20 : OkCheckpoint x.f20
  o21 : ∀ j, j < x.f21.n → 0 ≤ x.f21.z j ∧ x.f21.z j < 18446744073709551616
  o22 : OkCommittee x.f22
  o23 : OkCommittee x.f23

structure InW (w : World) (x : VState) : Prop where
  i7 : Rts w x.f7.a x.f7.n x.f7.c x.f7.z
  i9 : Els w x.f9.a x.f9.n 65 (fun i => celL (sEth1 (x.f9.z i)))
  i11 : Els w x.f11.a x.f11.n 86 (fun i => celL (sValidator (x.f11.z i)))
  i12 : Z.Nms .u64 w x.f12.a x.f12.n x.f12.z
  i15 : Bys w x.f15.a x.f15.n x.f15.c x.f15.z
  i16 : Bys w x.f16.a x.f16.n x.f16.c x.f16.z
  i21 : Z.Nms .u64 w x.f21.a x.f21.n x.f21.z

theorem InW.below {w w' : World} {x : VState} (h : InW w x) (hb : Below w.heap.size w w') : InW w' x :=
  ⟨h.i7.below hb, h.i9.below hb, h.i11.below hb, h.i12.below hb, h.i15.below hb, h.i16.below hb, h.i21.below hb⟩

/-- Loads, stores and values of whole states, kept whole. -/
def lvState (a : Addr) : Sem Value := loadVar 49 a

theorem lvState_eq (a : Addr) : loadVar 49 a = lvState a := rfl

theorem lvState_run {w : World} {b : Nat} {x : VState} {t : TypeId} (h : w.heap[b]? = some (.cells (cel (sState x)) t)) : (lvState ⟨b, 0, none⟩).run Tryd.prog w = .ok (.agg (cel (sState x))) w :=
  loadAt_var (load_row h 49 _ Tryd.underlying49 rfl (by rw [cel_size, slState]; kernel_rfl))

def svState (a : Addr) (v : Value) : Sem Unit := storeVar 49 a v

theorem svState_eq (a : Addr) (v : Value) : storeVar 49 a v = svState a v := rfl

theorem svState_run {w : World} {b : Nat} {o : VState} {t : TypeId} (h : w.heap[b]? = some (.cells (cel (sState o)) t)) (c : VState) : (svState ⟨b, 0, none⟩ (.agg (cel (sState c)))).run Tryd.prog w = .ok () (w.setRow b (cel (sState c))) :=
  run_storeVar_row w b t 49 _ _ h (by rw [cel_size, slState]; kernel_rfl) (by rw [cel_size, cel_size, slState, slState]) (cel_one _)

theorem svState_newv (W : World) (o c : VState) : (svState ⟨W.heap.size, 0, none⟩ (.agg (cel (sState c)))).run Tryd.prog (W.alloc (.cells (cel (sState o)) 49)) = .ok () (W.alloc (.cells (cel (sState c)) 49)) :=
  run_storeVar_new W 49 _ _ (by rw [cel_size, slState]; kernel_rfl) (by rw [cel_size, cel_size, slState, slState]) (cel_one _)

def bdState (ps : Array (Nat × Value)) : Sem Value := Instr.build 49 ps

theorem bdState_eq (ps : Array (Nat × Value)) : Instr.build 49 ps = bdState ps := rfl

theorem retState {fn : Func} {R : Ending → World → Prop} {a : Act} {w' : World} (t s : Tmp) (b : Nat) (c : VState) (ty : TypeId) (v : Value) (h : fn.results = #[.cell t 49, .tmp s]) (hd : a.defers = []) (ht : a.tmps.getD t undef = .pointer (some ⟨b, 0, none⟩)) (hs : a.tmps.getD s undef = v) (hr : w'.heap[b]? = some (.cells (cel (sState c)) ty))
    (hR : R (.returned (.tuple #[.agg (cel (sState c)), v])) w') : bodyPost Tryd.prog fn R .ret a w' := by
  refine bodyPost_ret ?_ hd hR
  have hl := loadAt_var (load_row (P := Tryd.prog) hr 49 _ Tryd.underlying49 rfl (by rw [cel_size, slState]; kernel_rfl))
  rw [Array.getD_eq_getD_getElem?] at ht hs
  simp [results, h, ht, hs, hl, asAddr]

/-- Fields in the midst of a container. -/
theorem celL_app : ∀ l r, celL (l ++ r) = celL l ++ celL r
  | [], r => rfl
  | s :: l, r => by
    show (List.range s.len).map s.get ++ celL (l ++ r) = ((List.range s.len).map s.get ++ celL l) ++ celL r
    rw [celL_app l r, List.append_assoc]

theorem cel_get (l1 m l2 : List Seg) : ((cel (l1 ++ m ++ l2)).toList.drop (slen l1)).take (celL m).length = celL m := by
  unfold cel
  rw [celL_app, celL_app, List.append_assoc, ← celL_len l1]
  simp

/-- One field of a container changed in memory. -/
theorem cel_set1 (l1 : List Seg) (s s' : Seg) (l2 : List Seg) (h : s.len = 1) (h' : s'.len = 1) : (cel (l1 ++ [s] ++ l2)).setIfInBounds (slen l1) (s'.get 0) = cel (l1 ++ [s'] ++ l2) := by
  have e : ∀ u : Seg, u.len = 1 → celL [u] = [u.get 0] := fun u hu => by
    show (List.range u.len).map u.get ++ [] = _
    rw [hu]
    rfl
  unfold cel
  rw [celL_app, celL_app, celL_app, celL_app, e s h, e s' h', ← celL_len l1]
  simp

/-- The fields of a state in memory. -/
theorem cS0 {w : World} {g : Nat} {x : VState} {t : TypeId} (h : w.heap[g]? = some (.cells (cel (sState x)) t)) : w.cell? ⟨g, 0, none⟩ = some (.int .u64 x.f0) := seg_nu h 0 x.f0 (by kernel_rfl) 0 (by kernel_rfl)

theorem cS2 {w : World} {g : Nat} {x : VState} {t : TypeId} (h : w.heap[g]? = some (.cells (cel (sState x)) t)) : w.cell? ⟨g, 33, none⟩ = some (.int .u64 x.f2) := seg_nu h 2 x.f2 (by kernel_rfl) 33 (by kernel_rfl)

theorem cS4 {w : World} {g : Nat} {x : VState} {t : TypeId} (h : w.heap[g]? = some (.cells (cel (sState x)) t)) : w.cell? ⟨g, 43, none⟩ = some (.int .u64 x.f4.f0) := seg_nu h 6 x.f4.f0 (by kernel_rfl) 43 (by kernel_rfl)

theorem cS10 {w : World} {g : Nat} {x : VState} {t : TypeId} (h : w.heap[g]? = some (.cells (cel (sState x)) t)) : w.cell? ⟨g, 720, none⟩ = some (.int .u64 x.f10) := seg_nu h 18 x.f10 (by kernel_rfl) 720 (by kernel_rfl)

theorem cS18 {w : World} {g : Nat} {x : VState} {t : TypeId} (h : w.heap[g]? = some (.cells (cel (sState x)) t)) : w.cell? ⟨g, 993, none⟩ = some (.int .u64 x.f18.f0) := seg_nu h 36 x.f18.f0 (by kernel_rfl) 993 (by kernel_rfl)

theorem cS19 {w : World} {g : Nat} {x : VState} {t : TypeId} (h : w.heap[g]? = some (.cells (cel (sState x)) t)) : w.cell? ⟨g, 1026, none⟩ = some (.int .u64 x.f19.f0) := seg_nu h 38 x.f19.f0 (by kernel_rfl) 1026 (by kernel_rfl)

theorem cS20 {w : World} {g : Nat} {x : VState} {t : TypeId} (h : w.heap[g]? = some (.cells (cel (sState x)) t)) : w.cell? ⟨g, 1059, none⟩ = some (.int .u64 x.f20.f0) := seg_nu h 40 x.f20.f0 (by kernel_rfl) 1059 (by kernel_rfl)

theorem cS7 {w : World} {g : Nat} {x : VState} {t : TypeId} (h : w.heap[g]? = some (.cells (cel (sState x)) t)) : w.cell? ⟨g, 653, none⟩ = some (.slice x.f7.a x.f7.n x.f7.c) := seg_sl h 13 x.f7.a x.f7.n x.f7.c (by kernel_rfl) 653 (by kernel_rfl)

theorem cS9 {w : World} {g : Nat} {x : VState} {t : TypeId} (h : w.heap[g]? = some (.cells (cel (sState x)) t)) : w.cell? ⟨g, 719, none⟩ = some (.slice x.f9.a x.f9.n x.f9.c) := seg_sl h 17 x.f9.a x.f9.n x.f9.c (by kernel_rfl) 719 (by kernel_rfl)

theorem cS11 {w : World} {g : Nat} {x : VState} {t : TypeId} (h : w.heap[g]? = some (.cells (cel (sState x)) t)) : w.cell? ⟨g, 721, none⟩ = some (.slice x.f11.a x.f11.n x.f11.c) := seg_sl h 19 x.f11.a x.f11.n x.f11.c (by kernel_rfl) 721 (by kernel_rfl)

theorem cS12 {w : World} {g : Nat} {x : VState} {t : TypeId} (h : w.heap[g]? = some (.cells (cel (sState x)) t)) : w.cell? ⟨g, 722, none⟩ = some (.slice x.f12.a x.f12.n x.f12.c) := seg_sl h 20 x.f12.a x.f12.n x.f12.c (by kernel_rfl) 722 (by kernel_rfl)

theorem cS15 {w : World} {g : Nat} {x : VState} {t : TypeId} (h : w.heap[g]? = some (.cells (cel (sState x)) t)) : w.cell? ⟨g, 987, none⟩ = some (.slice x.f15.a x.f15.n x.f15.c) := seg_sl h 30 x.f15.a x.f15.n x.f15.c (by kernel_rfl) 987 (by kernel_rfl)

theorem cS16 {w : World} {g : Nat} {x : VState} {t : TypeId} (h : w.heap[g]? = some (.cells (cel (sState x)) t)) : w.cell? ⟨g, 988, none⟩ = some (.slice x.f16.a x.f16.n x.f16.c) := seg_sl h 31 x.f16.a x.f16.n x.f16.c (by kernel_rfl) 988 (by kernel_rfl)

theorem cS21 {w : World} {g : Nat} {x : VState} {t : TypeId} (h : w.heap[g]? = some (.cells (cel (sState x)) t)) : w.cell? ⟨g, 1092, none⟩ = some (.slice x.f21.a x.f21.n x.f21.c) := seg_sl h 42 x.f21.a x.f21.n x.f21.c (by kernel_rfl) 1092 (by kernel_rfl)

theorem cS1 {w : World} {g : Nat} {x : VState} {t : TypeId} (h : w.heap[g]? = some (.cells (cel (sState x)) t)) : Bys w (some ⟨g, 1, none⟩) 32 32 x.f1 := seg_bys h 1 32 x.f1 (by kernel_rfl) 1 (by kernel_rfl) (by omega)

theorem cS5 {w : World} {g : Nat} {x : VState} {t : TypeId} (h : w.heap[g]? = some (.cells (cel (sState x)) t)) : Bys w (some ⟨g, 141, none⟩) 256 256 x.f5 := seg_bys h 11 256 x.f5 (by kernel_rfl) 141 (by kernel_rfl) (by omega)

theorem cS6 {w : World} {g : Nat} {x : VState} {t : TypeId} (h : w.heap[g]? = some (.cells (cel (sState x)) t)) : Bys w (some ⟨g, 397, none⟩) 256 256 x.f6 := seg_bys h 12 256 x.f6 (by kernel_rfl) 397 (by kernel_rfl) (by omega)

theorem cS13 {w : World} {g : Nat} {x : VState} {t : TypeId} (h : w.heap[g]? = some (.cells (cel (sState x)) t)) : Bys w (some ⟨g, 723, none⟩) 256 256 x.f13 := seg_bys h 21 256 x.f13 (by kernel_rfl) 723 (by kernel_rfl) (by omega)

theorem split3 (x : VState) (v : VFork) : sState { x with f3 := v } = (sState x).take 3 ++ sFork v ++ (sState x).drop 6 := by kernel_rfl

theorem lenT3 (x : VState) : slen ((sState x).take 3) = 34 := by kernel_rfl

theorem lS3 {w : World} {g : Nat} {x : VState} {t : TypeId} (h : w.heap[g]? = some (.cells (cel (sState x)) t)) : (lvFork ⟨g, 34, none⟩).run Tryd.prog w = .ok (.agg (cel (sFork x.f3))) w := by
  have e := cel_get ((sState x).take 3) (sFork x.f3) ((sState x).drop 6)
  rw [← split3, lenT3] at e
  exact lvFork_mid h 34 e rfl

theorem split4 (x : VState) (v : VHeader) : sState { x with f4 := v } = (sState x).take 6 ++ sHeader v ++ (sState x).drop 11 := by kernel_rfl

theorem lenT4 (x : VState) : slen ((sState x).take 6) = 43 := by kernel_rfl

theorem lS4 {w : World} {g : Nat} {x : VState} {t : TypeId} (h : w.heap[g]? = some (.cells (cel (sState x)) t)) : (lvHeader ⟨g, 43, none⟩).run Tryd.prog w = .ok (.agg (cel (sHeader x.f4))) w := by
  have e := cel_get ((sState x).take 6) (sHeader x.f4) ((sState x).drop 11)
  rw [← split4, lenT4] at e
  exact lvHeader_mid h 43 e rfl

theorem split8 (x : VState) (v : VEth1) : sState { x with f8 := v } = (sState x).take 14 ++ sEth1 v ++ (sState x).drop 17 := by kernel_rfl

theorem lenT8 (x : VState) : slen ((sState x).take 14) = 654 := by kernel_rfl

theorem lS8 {w : World} {g : Nat} {x : VState} {t : TypeId} (h : w.heap[g]? = some (.cells (cel (sState x)) t)) : (lvEth1 ⟨g, 654, none⟩).run Tryd.prog w = .ok (.agg (cel (sEth1 x.f8))) w := by
  have e := cel_get ((sState x).take 14) (sEth1 x.f8) ((sState x).drop 17)
  rw [← split8, lenT8] at e
  exact lvEth1_mid h 654 e rfl

theorem split18 (x : VState) (v : VCheckpoint) : sState { x with f18 := v } = (sState x).take 36 ++ sCheckpoint v ++ (sState x).drop 38 := by kernel_rfl

theorem lenT18 (x : VState) : slen ((sState x).take 36) = 993 := by kernel_rfl

theorem lS18 {w : World} {g : Nat} {x : VState} {t : TypeId} (h : w.heap[g]? = some (.cells (cel (sState x)) t)) : (lvCheckpoint ⟨g, 993, none⟩).run Tryd.prog w = .ok (.agg (cel (sCheckpoint x.f18))) w := by
  have e := cel_get ((sState x).take 36) (sCheckpoint x.f18) ((sState x).drop 38)
  rw [← split18, lenT18] at e
  exact lvCheckpoint_mid h 993 e rfl

theorem split19 (x : VState) (v : VCheckpoint) : sState { x with f19 := v } = (sState x).take 38 ++ sCheckpoint v ++ (sState x).drop 40 := by kernel_rfl

theorem lenT19 (x : VState) : slen ((sState x).take 38) = 1026 := by kernel_rfl

theorem lS19 {w : World} {g : Nat} {x : VState} {t : TypeId} (h : w.heap[g]? = some (.cells (cel (sState x)) t)) : (lvCheckpoint ⟨g, 1026, none⟩).run Tryd.prog w = .ok (.agg (cel (sCheckpoint x.f19))) w := by
  have e := cel_get ((sState x).take 38) (sCheckpoint x.f19) ((sState x).drop 40)
  rw [← split19, lenT19] at e
  exact lvCheckpoint_mid h 1026 e rfl

theorem split20 (x : VState) (v : VCheckpoint) : sState { x with f20 := v } = (sState x).take 40 ++ sCheckpoint v ++ (sState x).drop 42 := by kernel_rfl

theorem lenT20 (x : VState) : slen ((sState x).take 40) = 1059 := by kernel_rfl

theorem lS20 {w : World} {g : Nat} {x : VState} {t : TypeId} (h : w.heap[g]? = some (.cells (cel (sState x)) t)) : (lvCheckpoint ⟨g, 1059, none⟩).run Tryd.prog w = .ok (.agg (cel (sCheckpoint x.f20))) w := by
  have e := cel_get ((sState x).take 40) (sCheckpoint x.f20) ((sState x).drop 42)
  rw [← split20, lenT20] at e
  exact lvCheckpoint_mid h 1059 e rfl

theorem split22 (x : VState) (v : VCommittee) : sState { x with f22 := v } = (sState x).take 43 ++ sCommittee v ++ (sState x).drop 45 := by kernel_rfl

theorem lenT22 (x : VState) : slen ((sState x).take 43) = 1093 := by kernel_rfl

theorem lS22 {w : World} {g : Nat} {x : VState} {t : TypeId} (h : w.heap[g]? = some (.cells (cel (sState x)) t)) : (lvCommittee ⟨g, 1093, none⟩).run Tryd.prog w = .ok (.agg (cel (sCommittee x.f22))) w := by
  have e := cel_get ((sState x).take 43) (sCommittee x.f22) ((sState x).drop 45)
  rw [← split22, lenT22] at e
  exact lvCommittee_mid h 1093 e rfl

theorem split23 (x : VState) (v : VCommittee) : sState { x with f23 := v } = (sState x).take 45 ++ sCommittee v ++ (sState x).drop 47 := by kernel_rfl

theorem lenT23 (x : VState) : slen ((sState x).take 45) = 1525 := by kernel_rfl

theorem lS23 {w : World} {g : Nat} {x : VState} {t : TypeId} (h : w.heap[g]? = some (.cells (cel (sState x)) t)) : (lvCommittee ⟨g, 1525, none⟩).run Tryd.prog w = .ok (.agg (cel (sCommittee x.f23))) w := by
  have e := cel_get ((sState x).take 45) (sCommittee x.f23) ((sState x).drop 47)
  rw [← split23, lenT23] at e
  exact lvCommittee_mid h 1525 e rfl

theorem st_7 (x : VState) (a : Option Addr) (n c : Nat) : (cel (sState x)).setIfInBounds 653 (.slice a n c) = cel (sState { x with f7 := ⟨a, n, c, x.f7.z⟩ }) := by
  have e := cel_set1 ((sState x).take 13) x.f7.s (.sl a n c) ((sState x).drop 14) rfl rfl
  rw [show slen ((sState x).take 13) = 653 by kernel_rfl, show (sState x).take 13 ++ [x.f7.s] ++ (sState x).drop 14 = sState x by kernel_rfl, show (sState x).take 13 ++ [Seg.sl a n c] ++ (sState x).drop 14 = sState { x with f7 := ⟨a, n, c, x.f7.z⟩ } by kernel_rfl] at e
  exact e

theorem st_9 (x : VState) (a : Option Addr) (n c : Nat) : (cel (sState x)).setIfInBounds 719 (.slice a n c) = cel (sState { x with f9 := ⟨a, n, c, x.f9.z⟩ }) := by
  have e := cel_set1 ((sState x).take 17) x.f9.s (.sl a n c) ((sState x).drop 18) rfl rfl
  rw [show slen ((sState x).take 17) = 719 by kernel_rfl, show (sState x).take 17 ++ [x.f9.s] ++ (sState x).drop 18 = sState x by kernel_rfl, show (sState x).take 17 ++ [Seg.sl a n c] ++ (sState x).drop 18 = sState { x with f9 := ⟨a, n, c, x.f9.z⟩ } by kernel_rfl] at e
  exact e

theorem st_11 (x : VState) (a : Option Addr) (n c : Nat) : (cel (sState x)).setIfInBounds 721 (.slice a n c) = cel (sState { x with f11 := ⟨a, n, c, x.f11.z⟩ }) := by
  have e := cel_set1 ((sState x).take 19) x.f11.s (.sl a n c) ((sState x).drop 20) rfl rfl
  rw [show slen ((sState x).take 19) = 721 by kernel_rfl, show (sState x).take 19 ++ [x.f11.s] ++ (sState x).drop 20 = sState x by kernel_rfl, show (sState x).take 19 ++ [Seg.sl a n c] ++ (sState x).drop 20 = sState { x with f11 := ⟨a, n, c, x.f11.z⟩ } by kernel_rfl] at e
  exact e

theorem st_12 (x : VState) (a : Option Addr) (n c : Nat) : (cel (sState x)).setIfInBounds 722 (.slice a n c) = cel (sState { x with f12 := ⟨a, n, c, x.f12.z⟩ }) := by
  have e := cel_set1 ((sState x).take 20) x.f12.s (.sl a n c) ((sState x).drop 21) rfl rfl
  rw [show slen ((sState x).take 20) = 722 by kernel_rfl, show (sState x).take 20 ++ [x.f12.s] ++ (sState x).drop 21 = sState x by kernel_rfl, show (sState x).take 20 ++ [Seg.sl a n c] ++ (sState x).drop 21 = sState { x with f12 := ⟨a, n, c, x.f12.z⟩ } by kernel_rfl] at e
  exact e

theorem st_15 (x : VState) (a : Option Addr) (n c : Nat) : (cel (sState x)).setIfInBounds 987 (.slice a n c) = cel (sState { x with f15 := ⟨a, n, c, x.f15.z⟩ }) := by
  have e := cel_set1 ((sState x).take 30) x.f15.s (.sl a n c) ((sState x).drop 31) rfl rfl
  rw [show slen ((sState x).take 30) = 987 by kernel_rfl, show (sState x).take 30 ++ [x.f15.s] ++ (sState x).drop 31 = sState x by kernel_rfl, show (sState x).take 30 ++ [Seg.sl a n c] ++ (sState x).drop 31 = sState { x with f15 := ⟨a, n, c, x.f15.z⟩ } by kernel_rfl] at e
  exact e

theorem st_16 (x : VState) (a : Option Addr) (n c : Nat) : (cel (sState x)).setIfInBounds 988 (.slice a n c) = cel (sState { x with f16 := ⟨a, n, c, x.f16.z⟩ }) := by
  have e := cel_set1 ((sState x).take 31) x.f16.s (.sl a n c) ((sState x).drop 32) rfl rfl
  rw [show slen ((sState x).take 31) = 988 by kernel_rfl, show (sState x).take 31 ++ [x.f16.s] ++ (sState x).drop 32 = sState x by kernel_rfl, show (sState x).take 31 ++ [Seg.sl a n c] ++ (sState x).drop 32 = sState { x with f16 := ⟨a, n, c, x.f16.z⟩ } by kernel_rfl] at e
  exact e

theorem st_21 (x : VState) (a : Option Addr) (n c : Nat) : (cel (sState x)).setIfInBounds 1092 (.slice a n c) = cel (sState { x with f21 := ⟨a, n, c, x.f21.z⟩ }) := by
  have e := cel_set1 ((sState x).take 42) x.f21.s (.sl a n c) ((sState x).drop 43) rfl rfl
  rw [show slen ((sState x).take 42) = 1092 by kernel_rfl, show (sState x).take 42 ++ [x.f21.s] ++ (sState x).drop 43 = sState x by kernel_rfl, show (sState x).take 42 ++ [Seg.sl a n c] ++ (sState x).drop 43 = sState { x with f21 := ⟨a, n, c, x.f21.z⟩ } by kernel_rfl] at e
  exact e

theorem cS14_0 {w : World} {g : Nat} {x : VState} {t : TypeId} (h : w.heap[g]? = some (.cells (cel (sState x)) t)) : w.cell? ⟨g, 979, none⟩ = some (.int .u64 (x.f14 0)) := seg_nu h 22 (x.f14 0) (by kernel_rfl) 979 (by kernel_rfl)

theorem cS14_1 {w : World} {g : Nat} {x : VState} {t : TypeId} (h : w.heap[g]? = some (.cells (cel (sState x)) t)) : w.cell? ⟨g, 980, none⟩ = some (.int .u64 (x.f14 1)) := seg_nu h 23 (x.f14 1) (by kernel_rfl) 980 (by kernel_rfl)

theorem cS14_2 {w : World} {g : Nat} {x : VState} {t : TypeId} (h : w.heap[g]? = some (.cells (cel (sState x)) t)) : w.cell? ⟨g, 981, none⟩ = some (.int .u64 (x.f14 2)) := seg_nu h 24 (x.f14 2) (by kernel_rfl) 981 (by kernel_rfl)

theorem cS14_3 {w : World} {g : Nat} {x : VState} {t : TypeId} (h : w.heap[g]? = some (.cells (cel (sState x)) t)) : w.cell? ⟨g, 982, none⟩ = some (.int .u64 (x.f14 3)) := seg_nu h 25 (x.f14 3) (by kernel_rfl) 982 (by kernel_rfl)

theorem cS14_4 {w : World} {g : Nat} {x : VState} {t : TypeId} (h : w.heap[g]? = some (.cells (cel (sState x)) t)) : w.cell? ⟨g, 983, none⟩ = some (.int .u64 (x.f14 4)) := seg_nu h 26 (x.f14 4) (by kernel_rfl) 983 (by kernel_rfl)

theorem cS14_5 {w : World} {g : Nat} {x : VState} {t : TypeId} (h : w.heap[g]? = some (.cells (cel (sState x)) t)) : w.cell? ⟨g, 984, none⟩ = some (.int .u64 (x.f14 5)) := seg_nu h 27 (x.f14 5) (by kernel_rfl) 984 (by kernel_rfl)

theorem cS14_6 {w : World} {g : Nat} {x : VState} {t : TypeId} (h : w.heap[g]? = some (.cells (cel (sState x)) t)) : w.cell? ⟨g, 985, none⟩ = some (.int .u64 (x.f14 6)) := seg_nu h 28 (x.f14 6) (by kernel_rfl) 985 (by kernel_rfl)

theorem cS14_7 {w : World} {g : Nat} {x : VState} {t : TypeId} (h : w.heap[g]? = some (.cells (cel (sState x)) t)) : w.cell? ⟨g, 986, none⟩ = some (.int .u64 (x.f14 7)) := seg_nu h 29 (x.f14 7) (by kernel_rfl) 986 (by kernel_rfl)

theorem cS17_0 {w : World} {g : Nat} {x : VState} {t : TypeId} (h : w.heap[g]? = some (.cells (cel (sState x)) t)) : w.cell? ⟨g, 989, none⟩ = some (.bool (x.f17 0)) := seg_bo h 32 (x.f17 0) (by kernel_rfl) 989 (by kernel_rfl)

theorem cS17_1 {w : World} {g : Nat} {x : VState} {t : TypeId} (h : w.heap[g]? = some (.cells (cel (sState x)) t)) : w.cell? ⟨g, 990, none⟩ = some (.bool (x.f17 1)) := seg_bo h 33 (x.f17 1) (by kernel_rfl) 990 (by kernel_rfl)

theorem cS17_2 {w : World} {g : Nat} {x : VState} {t : TypeId} (h : w.heap[g]? = some (.cells (cel (sState x)) t)) : w.cell? ⟨g, 991, none⟩ = some (.bool (x.f17 2)) := seg_bo h 34 (x.f17 2) (by kernel_rfl) 991 (by kernel_rfl)

theorem cS17_3 {w : World} {g : Nat} {x : VState} {t : TypeId} (h : w.heap[g]? = some (.cells (cel (sState x)) t)) : w.cell? ⟨g, 992, none⟩ = some (.bool (x.f17 3)) := seg_bo h 35 (x.f17 3) (by kernel_rfl) 992 (by kernel_rfl)

end Go.Proofs.YtficlakgameglaaDoor
