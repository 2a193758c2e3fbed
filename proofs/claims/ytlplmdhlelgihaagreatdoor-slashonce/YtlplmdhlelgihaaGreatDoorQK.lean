/-
  A copied state changed in place.
  Who leaves and who is slashed, in plain numbers.
-/
import Derived.Test.YtlplmdhlelgihaaGreatDoorQJ
import Derived.Test.YtlplmdhlelgihaaGreatDoorQL
import Derived.Test.YtlplmdhlelgihaaGreatDoorQG
import Derived.Test.YtlplmdhlelgihaaGreatDoorQO
import Derived.Test.YtlplmdhlelgihaaGreatDoorQH
namespace Go.Proofs.YtlplmdhlelgihaaGreatDoor

open Go.RowKit

set_option linter.unusedVariables false

set_option linter.unusedSimpArgs false

set_option maxRecDepth 20000

/-- A state in the block y whose lists were made behind w; of what stood in w only y may have changed. -/
structure BK (w : World) (y : Nat) (V : World) (Y : VState) : Prop where
  kep : Kept y w V
  row : V.heap[y]? = some (.cells (cel (sState Y)) 49)
  cpd : CpdF w.heap.size V Y

theorem BK.below {w V V' : World} {y : Nat} {Y : VState} (h : BK w y V Y) (hb : Up V V') : BK w y V' Y := ⟨h.kep.trans (Kept.ofBelow hb), upR hb h.row, h.cpd.below hb⟩

theorem BK.drew {w V : World} {y : Nat} {Y : VState} (h : BK w y V Y) : BK w y V.drew Y := h.below ((Below.refl _ _).drew)

theorem BK.inW {w V : World} {y : Nat} {Y : VState} (h : BK w y V Y) : InW V Y :=
  ⟨own_rtF h.cpd.o7, own_els h.cpd.o9 (fun i => by rw [celL_len]; rfl), own_els h.cpd.o11 (fun i => by rw [celL_len]; rfl), own_nms h.cpd.o12, own_byF h.cpd.o15, own_byF h.cpd.o16, own_nms h.cpd.o21⟩

theorem BK.old {w V : World} {y k : Nat} {Y : VState} {o : Obj} (h : BK w y V Y) (r : w.heap[k]? = some o) (hk : k ≠ y) : V.heap[k]? = some o := (h.kep.block k (Array.getElem?_eq_some_iff.1 r).1 hk).trans r

/-- Cells of the state itself. -/
theorem BK.setY {w V : World} {y : Nat} {Y Y' : VState} (h : BK w y V Y) (i : Nat) (v : Value) (he : (cel (sState Y)).setIfInBounds i v = cel (sState Y')) (e7 : Y'.f7 = Y.f7) (e9 : Y'.f9 = Y.f9) (e11 : Y'.f11 = Y.f11) (e12 : Y'.f12 = Y.f12) (e15 : Y'.f15 = Y.f15) (e16 : Y'.f16 = Y.f16) (e21 : Y'.f21 = Y.f21) : BK w y (V.setCell ⟨y, i, none⟩ v) Y' := by
  have hk : Kept y V (V.setCell ⟨y, i, none⟩ v) := (Kept.refl y V).setCell _ _
  refine ⟨h.kep.trans hk, (row_set h.row i v).trans (congrArg (fun c => some (Obj.cells c 49)) he), ⟨?_, ?_, ?_, ?_, ?_, ?_, ?_, ?_, ?_⟩⟩
  · rw [e7]; exact own_keptB h.cpd.o7 hk (own_ne h.cpd.o7 h.row (by decide))
  · rw [e9]; exact own_keptB h.cpd.o9 hk (own_ne h.cpd.o9 h.row (by decide))
  · rw [e11]; exact own_keptB h.cpd.o11 hk (own_ne h.cpd.o11 h.row (by decide))
  · rw [e12]; exact own_keptB h.cpd.o12 hk (own_ne h.cpd.o12 h.row (by decide))
  · rw [e15]; exact own_keptB h.cpd.o15 hk (own_ne h.cpd.o15 h.row (by decide))
  · rw [e16]; exact own_keptB h.cpd.o16 hk (own_ne h.cpd.o16 h.row (by decide))
  · rw [e21]; exact own_keptB h.cpd.o21 hk (own_ne h.cpd.o21 h.row (by decide))
  · rw [e15, e16]; exact h.cpd.d15
  · rw [e12, e21]; exact h.cpd.d12

/-- A store into a list of the state's own. -/
theorem kept_new {w V : World} {y g : Nat} (h : Kept y w V) (hg : w.heap.size ≤ g) (i : Nat) (v : Value) : Kept y w (V.setCell ⟨g, i, none⟩ v) := by
  have hk : Kept g V (V.setCell ⟨g, i, none⟩ v) := (Kept.refl g V).setCell _ _
  exact ⟨hk.os.trans h.os, hk.tape.trans h.tape, hk.output.trans h.output, Nat.le_trans h.size hk.size, fun k hk1 hn => (hk.block k (Nat.lt_of_lt_of_le hk1 h.size) (by omega)).trans (h.block k hk1 hn)⟩

theorem own_row {w : World} {B k g n cap : Nat} {t : TypeId} {xs : List Value} (h : w.ownsRow B t k (.slice (some ⟨g, 0, none⟩) n cap) n xs) : B ≤ g ∧ ∃ C, w.heap[g]? = some (.cells C t) := by
  rcases h.2 with ⟨e, _⟩ | ⟨g', cap', cur, e, h1, h2, _⟩
  · cases e
  · cases e
    exact ⟨h1, cur, h2⟩

theorem own_some {w : World} {B k n cap : Nat} {t : TypeId} {a : Option Addr} {xs : List Value} (h : w.ownsRow B t k (.slice a n cap) n xs) (hn : 0 < n) : ∃ g, a = some ⟨g, 0, none⟩ := by
  rcases h.2 with ⟨e, h0⟩ | ⟨g', cap', cur, e, _⟩
  · omega
  · cases e
    exact ⟨g', rfl⟩

/-- One validator changed. -/
def valS (X : VState) (i : Nat) (f : VValidator → VValidator) : VState := { X with f11 := ⟨X.f11.a, X.f11.n, X.f11.c, fun j => if j = i then f (X.f11.z i) else X.f11.z j⟩ }

theorem BK.val {w V : World} {y i g p : Nat} {X : VState} (f : VValidator → VValidator) (u : Value) (hf : (celL (sValidator (X.f11.z i))).set p u = celL (sValidator (f (X.f11.z i)))) (hp : p < 86) (h : BK w y V X) (hg : X.f11.a = some ⟨g, 0, none⟩) (hi : i < X.f11.n) : BK w y (V.setCell ⟨g, 86 * i + p, none⟩ u) (valS X i f) := by
  have o11 := h.cpd.o11
  rw [hg] at o11
  obtain ⟨hB, C, hrg⟩ := own_row o11
  have hb : i * 86 + p < X.f11.n * 86 := by
    have : i * 86 + 86 ≤ X.f11.n * 86 := by
      rw [← Nat.succ_mul]
      exact Nat.mul_le_mul_right _ hi
    omega
  have h1 := ownSetC o11 (i * 86 + p) hb u
  rw [flat_set (fun j => by rw [celL_len]; rfl) X.f11.n i p hi hp, Nat.mul_comm i 86] at h1
  have e : (fun j => if j = i then (celL (sValidator (X.f11.z i))).set p u else celL (sValidator (X.f11.z j))) = fun j => celL (sValidator ((valS X i f).f11.z j)) := funext fun j => by
    show _ = celL (sValidator (if j = i then f (X.f11.z i) else X.f11.z j))
    by_cases hj : j = i
    · rw [if_pos hj, if_pos hj, hf]
    · rw [if_neg hj, if_neg hj]
  rw [e] at h1
  have hk : Kept g V (V.setCell ⟨g, 86 * i + p, none⟩ u) := (Kept.refl g V).setCell _ _
  have hne : y ≠ g := fun e => by
    subst e
    rw [h.row] at hrg
    injection hrg with q
    injection q with _ q2
    exact absurd q2 (by decide)
  refine ⟨kept_new h.kep hB _ _, (hk.block y (some_lt h.row) hne).trans h.row, ⟨own_keptB h.cpd.o7 hk (own_ne h.cpd.o7 hrg (by decide)), own_keptB h.cpd.o9 hk (own_ne h.cpd.o9 hrg (by decide)), ?_, own_keptB h.cpd.o12 hk (own_ne h.cpd.o12 hrg (by decide)), own_keptB h.cpd.o15 hk (own_ne h.cpd.o15 hrg (by decide)), own_keptB h.cpd.o16 hk (own_ne h.cpd.o16 hrg (by decide)), own_keptB h.cpd.o21 hk (own_ne h.cpd.o21 hrg (by decide)), h.cpd.d15, h.cpd.d12⟩⟩
  show World.ownsRow _ _ _ _ (.slice X.f11.a X.f11.n X.f11.c) _ _
  rw [hg]
  exact h1

/-- One balance changed. -/
def balS (X : VState) (i : Nat) (v : Int) : VState := { X with f12 := ⟨X.f12.a, X.f12.n, X.f12.c, fun j => if j = i then v else X.f12.z j⟩ }

theorem BK.bal {w V : World} {y i g : Nat} {X : VState} (v : Int) (h : BK w y V X) (hg : X.f12.a = some ⟨g, 0, none⟩) (hi : i < X.f12.n) : BK w y (V.setCell ⟨g, i, none⟩ (.int .u64 v)) (balS X i v) := by
  have o12 := h.cpd.o12
  rw [hg] at o12
  obtain ⟨hB, C, hrg⟩ := own_row o12
  have h1 := ownSetC o12 i (by omega) (.int .u64 v)
  rw [nl_set] at h1
  have hk : Kept g V (V.setCell ⟨g, i, none⟩ (.int .u64 v)) := (Kept.refl g V).setCell _ _
  have hne : y ≠ g := fun e => by
    subst e
    rw [h.row] at hrg
    injection hrg with q
    injection q with _ q2
    exact absurd q2 (by decide)
  have hd : (Value.slice X.f21.a X.f21.n X.f21.c).ownBlock ≠ some g := fun e => by
    cases ha : X.f21.a with
    | none => rw [ha] at e; cases e
    | some ad =>
      rw [ha] at e
      have := h.cpd.d12 _ ad hg ha
      exact this (Option.some.inj e).symm
  refine ⟨kept_new h.kep hB _ _, (hk.block y (some_lt h.row) hne).trans h.row, ⟨own_keptB h.cpd.o7 hk (own_ne h.cpd.o7 hrg (by decide)), own_keptB h.cpd.o9 hk (own_ne h.cpd.o9 hrg (by decide)), own_keptB h.cpd.o11 hk (own_ne h.cpd.o11 hrg (by decide)), ?_, own_keptB h.cpd.o15 hk (own_ne h.cpd.o15 hrg (by decide)), own_keptB h.cpd.o16 hk (own_ne h.cpd.o16 hrg (by decide)), ?_, h.cpd.d15, h.cpd.d12⟩⟩
  · show World.ownsRow _ _ _ _ (.slice X.f12.a X.f12.n X.f12.c) _ _
    rw [hg]
    exact h1
  · exact own_keptB h.cpd.o21 hk hd

/-- A validator's cells. -/
theorem val_put3 (v : VValidator) (x : Bool) : (celL (sValidator v)).set 81 (.bool x) = celL (sValidator { v with f3 := x }) := by
  show ((List.range 48).map (Seg.get (.by 48 v.f0)) ++ ((List.range 32).map (Seg.get (.by 32 v.f1)) ++ (Value.int .u64 v.f2 :: Value.bool v.f3 :: Value.int .u64 v.f4 :: Value.int .u64 v.f5 :: Value.int .u64 v.f6 :: [Value.int .u64 v.f7]))).set 81 _ = (List.range 48).map (Seg.get (.by 48 v.f0)) ++ ((List.range 32).map (Seg.get (.by 32 v.f1)) ++ (Value.int .u64 v.f2 :: Value.bool x :: Value.int .u64 v.f4 :: Value.int .u64 v.f5 :: Value.int .u64 v.f6 :: [Value.int .u64 v.f7]))
  rw [List.set_append_right _ _ (by simp), List.set_append_right _ _ (by simp)]
  simp

theorem val_put6 (v : VValidator) (x : Int) : (celL (sValidator v)).set 84 (.int .u64 x) = celL (sValidator { v with f6 := x }) := by
  show ((List.range 48).map (Seg.get (.by 48 v.f0)) ++ ((List.range 32).map (Seg.get (.by 32 v.f1)) ++ (Value.int .u64 v.f2 :: Value.bool v.f3 :: Value.int .u64 v.f4 :: Value.int .u64 v.f5 :: Value.int .u64 v.f6 :: [Value.int .u64 v.f7]))).set 84 _ = (List.range 48).map (Seg.get (.by 48 v.f0)) ++ ((List.range 32).map (Seg.get (.by 32 v.f1)) ++ (Value.int .u64 v.f2 :: Value.bool v.f3 :: Value.int .u64 v.f4 :: Value.int .u64 v.f5 :: Value.int .u64 x :: [Value.int .u64 v.f7]))
  rw [List.set_append_right _ _ (by simp), List.set_append_right _ _ (by simp)]
  simp

theorem val_put7 (v : VValidator) (x : Int) : (celL (sValidator v)).set 85 (.int .u64 x) = celL (sValidator { v with f7 := x }) := by
  show ((List.range 48).map (Seg.get (.by 48 v.f0)) ++ ((List.range 32).map (Seg.get (.by 32 v.f1)) ++ (Value.int .u64 v.f2 :: Value.bool v.f3 :: Value.int .u64 v.f4 :: Value.int .u64 v.f5 :: Value.int .u64 v.f6 :: [Value.int .u64 v.f7]))).set 85 _ = (List.range 48).map (Seg.get (.by 48 v.f0)) ++ ((List.range 32).map (Seg.get (.by 32 v.f1)) ++ (Value.int .u64 v.f2 :: Value.bool v.f3 :: Value.int .u64 v.f4 :: Value.int .u64 v.f5 :: Value.int .u64 v.f6 :: [Value.int .u64 x]))
  rw [List.set_append_right _ _ (by simp), List.set_append_right _ _ (by simp)]
  simp

end Go.Proofs.YtlplmdhlelgihaaGreatDoor

namespace Go.Proofs.YtlplmdhlelgihaaGreatDoor

open Go.RowKit

set_option linter.unusedVariables false

set_option linter.unusedSimpArgs false

set_option maxRecDepth 20000

/-- A state without the places of its lists. -/
def cor (x : VState) : VState := { x with f7 := ⟨none, x.f7.n, 0, x.f7.z⟩, f9 := ⟨none, x.f9.n, 0, x.f9.z⟩, f11 := ⟨none, x.f11.n, 0, x.f11.z⟩, f12 := ⟨none, x.f12.n, 0, x.f12.z⟩, f15 := ⟨none, x.f15.n, 0, x.f15.z⟩, f16 := ⟨none, x.f16.n, 0, x.f16.z⟩, f21 := ⟨none, x.f21.n, 0, x.f21.z⟩ }

theorem SimF.cor {x X : VState} (h : SimF x X) : cor X = cor x := by
  unfold Go.Proofs.YtlplmdhlelgihaaGreatDoor.cor
  rw [h.e0, h.e1, h.e2, h.e3, h.e4, h.e5, h.e6, h.l7, h.z7, h.e8, h.l9, h.z9, h.e10, h.l11, h.z11, h.l12, h.z12, h.e13, h.e14, h.l15, h.z15, h.l16, h.z16, h.e17, h.e18, h.e19, h.e20, h.l21, h.z21, h.e22, h.e23]

theorem cor_sim {x X : VState} (h : cor X = cor x) : SimF x X := ⟨(congrArg VState.f0 h :), (congrArg VState.f1 h :), (congrArg VState.f2 h :), (congrArg VState.f3 h :), (congrArg VState.f4 h :), (congrArg VState.f5 h :), (congrArg VState.f6 h :), (congrArg (fun s : VState => s.f7.n) h :), (congrArg (fun s : VState => s.f7.z) h :), (congrArg VState.f8 h :), (congrArg (fun s : VState => s.f9.n) h :), (congrArg (fun s : VState => s.f9.z) h :), (congrArg VState.f10 h :), (congrArg (fun s : VState => s.f11.n) h :), (congrArg (fun s : VState => s.f11.z) h :), (congrArg (fun s : VState => s.f12.n) h :), (congrArg (fun s : VState => s.f12.z) h :), (congrArg VState.f13 h :), (congrArg VState.f14 h :), (congrArg (fun s : VState => s.f15.n) h :), (congrArg (fun s : VState => s.f15.z) h :), (congrArg (fun s : VState => s.f16.n) h :), (congrArg (fun s : VState => s.f16.z) h :), (congrArg VState.f17 h :), (congrArg VState.f18 h :), (congrArg VState.f19 h :), (congrArg VState.f20 h :), (congrArg (fun s : VState => s.f21.n) h :), (congrArg (fun s : VState => s.f21.z) h :), (congrArg VState.f22 h :), (congrArg VState.f23 h :)⟩

theorem sim_by {F : VState → VState} (hF : ∀ x, cor (F x) = cor (F (cor x))) {x X : VState} (h : SimF x X) : SimF (F x) (F X) := cor_sim (by rw [hF X, hF x, h.cor])

def far : Int := 18446744073709551615

def w64 (n : Int) : Int := IntKind.u64.wrap n

theorem w64_bd (n : Int) : 0 ≤ w64 n ∧ w64 n < 18446744073709551616 := by unfold w64; rw [IntKind.wrap_u64]; omega

theorem w64_in {n : Int} (h0 : 0 ≤ n) (h1 : n < 18446744073709551616) : w64 n = n := by unfold w64; rw [IntKind.wrap_u64]; omega

/-- The greatest exit of the first k validators, but Far; how many of them have an exit. -/
def lvQ (z : Nat → VValidator) (e : Int) : Nat → Int
  | 0 => e + 3
  | k + 1 => if ¬ (z k).f6 = far ∧ lvQ z e k < (z k).f6 then (z k).f6 else lvQ z e k

def lvN (z : Nat → VValidator) (q : Int) : Nat → Nat
  | 0 => 0
  | k + 1 => lvN z q k + (if (z k).f6 = q then 1 else 0)

theorem lvN_le (z : Nat → VValidator) (q : Int) : ∀ k, lvN z q k ≤ k
  | 0 => Nat.le_refl _
  | k + 1 => by
    show lvN z q k + (if (z k).f6 = q then 1 else 0) ≤ k + 1
    have := lvN_le z q k
    split <;> omega

theorem lvQ_bd (z : Nat → VValidator) (e : Int) (h0 : 0 ≤ e) (h1 : e + 3 < 18446744073709551616) : ∀ k, (∀ j, j < k → 0 ≤ (z j).f6 ∧ (z j).f6 < 18446744073709551616) → e + 3 ≤ lvQ z e k ∧ lvQ z e k < 18446744073709551616
  | 0, _ => ⟨Int.le_refl _, h1⟩
  | k + 1, h => by
    have := lvQ_bd z e h0 h1 k fun j hj => h j (by omega)
    have hk := h k (by omega)
    show e + 3 ≤ (if ¬ (z k).f6 = far ∧ lvQ z e k < (z k).f6 then (z k).f6 else lvQ z e k) ∧ (if ¬ (z k).f6 = far ∧ lvQ z e k < (z k).f6 then (z k).f6 else lvQ z e k) < _
    split <;> omega

/-- When who leaves now goes; the state behind it. -/
def lvX (x : VState) : Int := if chuS x ≤ (lvN x.f11.z (lvQ x.f11.z (x.f2 / 4) x.f11.n) x.f11.n : Int) then w64 (lvQ x.f11.z (x.f2 / 4) x.f11.n + 1) else lvQ x.f11.z (x.f2 / 4) x.f11.n

def lvV (q : Int) (v : VValidator) : VValidator := { v with f6 := q, f7 := w64 (q + 2) }

def lvS (x : VState) (i : Nat) : VState := if (x.f11.z i).f6 = far then valS x i (lvV (lvX x)) else x

/-- Who is slashed, step by step. -/
def slV (e : Int) (v : VValidator) : VValidator := { v with f3 := true, f7 := if v.f7 < e + 8 then e + 8 else v.f7 }

def effS (x : VState) (i : Nat) : Int := (x.f11.z i).f2

def s14 (x : VState) (p : Nat) (v : Int) : VState := { x with f14 := fun j => if j = p then v else x.f14 j }

def slA (x : VState) (i : Nat) : VState := valS (lvS x i) i (slV (x.f2 / 4))

def slB (x : VState) (i : Nat) : VState := s14 (slA x i) (x.f2 / 4 % 8).toNat (w64 ((slA x i).f14 (x.f2 / 4 % 8).toNat + effS x i))

def slC (x : VState) (i : Nat) : VState := balS (slB x i) i (lesV ((slB x i).f12.z i) (effS x i / 64))

def slE (x : VState) (i : Nat) : Int := prE (slC x i)

def slP (x : VState) (i : Nat) : Nat := (prV (slC x i)).toNat

def slS (x : VState) (i : Nat) : VState := if slE x i = 0 then balS (slC x i) (slP x i) (w64 ((slC x i).f12.z (slP x i) + effS x i / 512)) else slC x i

theorem lvS_cor (i : Nat) (x : VState) : cor (lvS x i) = cor (lvS (cor x) i) := by
  unfold lvS
  by_cases h : (x.f11.z i).f6 = far
  · rw [if_pos h, if_pos (show ((cor x).f11.z i).f6 = far from h)]; rfl
  · rw [if_neg h, if_neg (show ¬ ((cor x).f11.z i).f6 = far from h)]; rfl

theorem valS_cor (x : VState) (i : Nat) (f : VValidator → VValidator) : cor (valS x i f) = cor (valS (cor x) i f) := rfl

theorem slA_cor (i : Nat) (x : VState) : cor (slA x i) = cor (slA (cor x) i) := by
  unfold slA
  rw [valS_cor, lvS_cor, ← valS_cor]
  rfl

theorem s14_cor (x : VState) (p : Nat) (v : Int) : cor (s14 x p v) = cor (s14 (cor x) p v) := rfl

theorem balS_cor (x : VState) (p : Nat) (v : Int) : cor (balS x p v) = cor (balS (cor x) p v) := rfl

theorem f14_cor {x y : VState} (h : cor x = cor y) (p : Nat) : x.f14 p = y.f14 p := (congrArg (fun s : VState => s.f14 p) h :)

theorem f12_cor {x y : VState} (h : cor x = cor y) (p : Nat) : x.f12.z p = y.f12.z p := (congrArg (fun s : VState => s.f12.z p) h :)

theorem slB_cor (i : Nat) (x : VState) : cor (slB x i) = cor (slB (cor x) i) := by
  have h := slA_cor i x
  unfold slB
  rw [s14_cor, h, ← s14_cor, f14_cor h]
  rfl

theorem slC_cor (i : Nat) (x : VState) : cor (slC x i) = cor (slC (cor x) i) := by
  have h := slB_cor i x
  unfold slC
  rw [balS_cor, h, ← balS_cor, f12_cor h]
  rfl

theorem lvS_sim {x X : VState} (i : Nat) (h : SimF x X) : SimF (lvS x i) (lvS X i) := sim_by (lvS_cor i) h

/-- What is in range stays in range. -/
theorem ok_val {x : VState} (h : OkState x) (i : Nat) (f : VValidator → VValidator) (hf : i < x.f11.n → OkValidator (f (x.f11.z i))) : OkState (valS x i f) :=
  { h with
    o11 := fun j hj => by
      show OkValidator (if j = i then f (x.f11.z i) else x.f11.z j)
      by_cases e : j = i
      · rw [if_pos e]; subst e; exact hf hj
      · rw [if_neg e]; exact h.o11 j hj }

theorem ok_bal {x : VState} (h : OkState x) (i : Nat) (v : Int) (hv : 0 ≤ v ∧ v < 18446744073709551616) : OkState (balS x i v) :=
  { h with
    o12 := fun j hj => by
      show 0 ≤ (if j = i then v else x.f12.z j) ∧ (if j = i then v else x.f12.z j) < _
      by_cases e : j = i
      · rw [if_pos e]; exact hv
      · rw [if_neg e]; exact h.o12 j hj }

theorem ok_14 {x : VState} (h : OkState x) (p : Nat) (v : Int) (hv : 0 ≤ v ∧ v < 18446744073709551616) : OkState (s14 x p v) :=
  { h with
    o14 := fun j hj => by
      show 0 ≤ (if j = p then v else x.f14 j) ∧ (if j = p then v else x.f14 j) < _
      by_cases e : j = p
      · rw [if_pos e]; exact hv
      · rw [if_neg e]; exact h.o14 j hj }

theorem lvX_bd {x : VState} (h : OkState x) (h2 : x.f2 < 1099511627776) : 0 ≤ lvX x ∧ lvX x < 18446744073709551616 := by
  have h0 := h.o2.1
  have := lvQ_bd x.f11.z (x.f2 / 4) (by omega) (by omega) x.f11.n fun j hj => (h.o11 j hj).2.2.2.2.2.2.1
  unfold lvX
  split
  · exact w64_bd _
  · omega

theorem ok_lv {x : VState} (h : OkState x) (h2 : x.f2 < 1099511627776) (i : Nat) : OkState (lvS x i) := by
  unfold lvS
  split
  · exact ok_val h i _ fun hi => by
      obtain ⟨a, b, c, d, e, f, g, k⟩ := h.o11 i hi
      exact ⟨a, b, c, d, e, f, lvX_bd h h2, w64_bd _⟩
  · exact h

theorem ok_slA {x : VState} (h : OkState x) (h2 : x.f2 < 1099511627776) (i : Nat) : OkState (slA x i) := by
  unfold slA
  refine ok_val (ok_lv h h2 i) i _ fun hi => ?_
  obtain ⟨a, b, c, d, e, f, g, k⟩ := (ok_lv h h2 i).o11 i hi
  have h0 := h.o2.1
  refine ⟨a, b, c, trivial, e, f, g, ?_⟩
  show 0 ≤ (if ((lvS x i).f11.z i).f7 < x.f2 / 4 + 8 then x.f2 / 4 + 8 else ((lvS x i).f11.z i).f7) ∧ (if ((lvS x i).f11.z i).f7 < x.f2 / 4 + 8 then x.f2 / 4 + 8 else ((lvS x i).f11.z i).f7) < _
  split <;> omega

theorem les_bd {a b : Int} (h0 : 0 ≤ a) (h1 : a < 18446744073709551616) (hb : 0 ≤ b) : 0 ≤ lesV a b ∧ lesV a b < 18446744073709551616 := by
  unfold lesV
  split <;> omega

end Go.Proofs.YtlplmdhlelgihaaGreatDoor
