/-
  Places in a region that several orders share.
  A copied state changed in place.
  Who leaves and who is slashed, in plain numbers.
  What the reference's Vote answers.
  Domains, messages and questions, as plain numbers.
  What the reference's domains, signing roots and Good answer.
  What the reference's Question answers; what the program's functions of layer 16 have to answer; the statements' own awake.
  What SignDomains and SignRoots answer, by what the program's functions answer.
  What the reference's Number and Randao answer.
-/
import Derived.Test.YtficlakgameglaaDoorHaA
import Derived.Test.YtficlakgameglaaDoorQK
import Derived.Test.YtficlakgameglaaDoorQR
import Derived.Test.YtficlakgameglaaDoorQG
import Derived.Test.YtficlakgameglaaDoorQO
import Derived.Test.YtficlakgameglaaDoorQL
import Derived.Test.YtficlakgameglaaDoorQJ
import Derived.Test.YtficlakgameglaaDoorPkB
import Derived.Test.YtficlakgameglaaDoorQP
import Derived.Test.YtficlakgameglaaDoorVfC
import Derived.Test.YtficlakgameglaaDoorStP
import Derived.BigRegion

namespace Go.Proofs.YtficlakgameglaaDoor

open Go.RowKit

set_option linter.unusedVariables false

/-- All that stood in W stands in V. -/
abbrev Up (W V : World) : Prop := Below W.heap.size W V

theorem upT {W V X : World} (h : Up W V) (k : Up V X) : Up W X := h.trans (k.mono h.size)

theorem upR {V X : World} {y : Nat} {o : Obj} (k : Up V X) (r : V.heap[y]? = some o) : X.heap[y]? = some o := (k.block _ (Array.getElem?_eq_some_iff.1 r).1).trans r

theorem upN2 {W V : World} (h : Up W V) (o : Obj) : ∃ X y, V.alloc o = X ∧ V.heap.size = y ∧ X.heap[y]? = some o ∧ Up V X ∧ W.heap.size ≤ y := ⟨_, _, rfl, rfl, heap_new rfl, (Below.refl _ _).alloc (Nat.le_refl _) _, h.size⟩

theorem sh1 {P : Program} {ops : Array Oper} {Q : Exit → Act → World → Prop} {md : Region.Mode} {S : World → Prop} {fuel fuel' : Nat} {listed listed' : Array Bool} {a : Act} {w : World} {α : Type} {act : α → Act} (F : α → World → Prop) (hm : Hid (∀ x V, F x V → wpAnyH P md ops Q S fuel' listed' (act x) V) → wpAnyH P md ops Q S fuel listed a w) (ht : ∀ x V, F x V → wpAnyH P md ops Q S fuel' listed' (act x) V) : wpAnyH P md ops Q S fuel listed a w := hm ht

/-- What may come up next: one, two, three. -/
theorem rd1 {P : Program} {ops : Array Oper} {Q : Exit → Act → World → Prop} {md : Region.Mode} {S : World → Prop} {fuel : Nat} {listed : Array Bool} {a : Act} {w : World} (i : Nat) {o : Oper} (h : ∀ K' : Act → World → Prop, Shut (∀ a w, S w → (S w → wpAnyH P md ops Q S fuel (listed.setIfInBounds i true) a w) → K' a w) → if Region.wanted o (yielded ops a.tmps) = true then Oper.wp P o a w K' Q else K' (a.put o.dst undef) w) (ho : ops[i]? = some o := by rfl) (hr : Region.ready md ops listed = [i] := by kernel_rfl) : wpAnyH P md ops Q S (fuel + 1) listed a w :=
  wpAnyH_ready hr (by simp) (AllReadyH.cons ho h AllReadyH.nil)

theorem rd2 {P : Program} {ops : Array Oper} {Q : Exit → Act → World → Prop} {md : Region.Mode} {S : World → Prop} {fuel : Nat} {listed : Array Bool} {a : Act} {w : World} (i j : Nat) {o p : Oper} (h : ∀ K' : Act → World → Prop, Shut (∀ a w, S w → (S w → wpAnyH P md ops Q S fuel (listed.setIfInBounds i true) a w) → K' a w) → if Region.wanted o (yielded ops a.tmps) = true then Oper.wp P o a w K' Q else K' (a.put o.dst undef) w) (h2 : ∀ K' : Act → World → Prop, Shut (∀ a w, S w → (S w → wpAnyH P md ops Q S fuel (listed.setIfInBounds j true) a w) → K' a w) → if Region.wanted p (yielded ops a.tmps) = true then Oper.wp P p a w K' Q else K' (a.put p.dst undef) w) (ho : ops[i]? = some o := by rfl) (hp : ops[j]? = some p := by rfl) (hr : Region.ready md ops listed = [i, j] := by kernel_rfl) : wpAnyH P md ops Q S (fuel + 1) listed a w :=
  wpAnyH_ready hr (by simp) (AllReadyH.cons ho h (AllReadyH.cons hp h2 AllReadyH.nil))

end Go.Proofs.YtficlakgameglaaDoor

namespace Go.Proofs.YtficlakgameglaaDoor

open Go.RowKit

set_option linter.unusedVariables false

set_option linter.unusedSimpArgs false

set_option maxRecDepth 20000

/-- A state in the block y whose lists were made behind w; of what stood in w only y may have changed. -/
structure BK (w : World) (y : Nat) (V : World) (Y : VState) : Prop where
  kep : Kept y w V
  row : V.heap[y]? = some (.cells (cel (sState Y)) 49)
  cpd : CpdF w.heap.size V Y

theorem BK.below {w V V' : World} {y : Nat} {Y : VState} (h : BK w y V Y) (hb : Up V V') : BK w y V' Y := ⟨h.kep.trans (Kept.ofBelow hb), upR hb h.row, h.cpd.below hb⟩

theorem BK.drew {w V : World} {y : Nat} {Y : VState} (h : BK w y V Y) : BK w y V.drew Y := h.below ((Below.refl _ _).drew)

theorem BK.inW {w V : World} {y : Nat} {Y : VState} (h : BK w y V Y) : InW V Y :=
  ⟨own_rtF h.cpd.o7, own_els h.cpd.o9 (fun i => by rw [celL_len]; rfl), own_els h.cpd.o11 (fun i => by rw [celL_len]; rfl), own_nms h.cpd.o12, own_byF h.cpd.o15, own_byF h.cpd.o16, own_nms h.cpd.o21⟩

theorem BK.old {w V : World} {y k : Nat} {Y : VState} {o : Obj} (h : BK w y V Y) (r : w.heap[k]? = some o) (hk : k ≠ y) : V.heap[k]? = some o := (h.kep.block k (Array.getElem?_eq_some_iff.1 r).1 hk).trans r

/-- A store into a list of the state's own. -/
theorem kept_new {w V : World} {y g : Nat} (h : Kept y w V) (hg : w.heap.size ≤ g) (i : Nat) (v : Value) : Kept y w (V.setCell ⟨g, i, none⟩ v) := by
  have hk : Kept g V (V.setCell ⟨g, i, none⟩ v) := (Kept.refl g V).setCell _ _
  exact ⟨hk.os.trans h.os, hk.tape.trans h.tape, hk.output.trans h.output, Nat.le_trans h.size hk.size, fun k hk1 hn => (hk.block k (Nat.lt_of_lt_of_le hk1 h.size) (by omega)).trans (h.block k hk1 hn)⟩

theorem own_row {w : World} {B k g n cap : Nat} {t : TypeId} {xs : List Value} (h : w.ownsRow B t k (.slice (some ⟨g, 0, none⟩) n cap) n xs) : B ≤ g ∧ ∃ C, w.heap[g]? = some (.cells C t) := by
  rcases h.2 with ⟨e, _⟩ | ⟨g', cap', cur, e, h1, h2, _⟩
  · cases e
  · cases e
    exact ⟨h1, cur, h2⟩

theorem own_some {w : World} {B k n cap : Nat} {t : TypeId} {a : Option Addr} {xs : List Value} (h : w.ownsRow B t k (.slice a n cap) n xs) (hn : 0 < n) : ∃ g, a = some ⟨g, 0, none⟩ := by
  rcases h.2 with ⟨e, h0⟩ | ⟨g', cap', cur, e, _⟩
  · omega
  · cases e
    exact ⟨g', rfl⟩

/-- One validator changed. -/
def valS (X : VState) (i : Nat) (f : VValidator → VValidator) : VState := { X with f11 := ⟨X.f11.a, X.f11.n, X.f11.c, fun j => if j = i then f (X.f11.z i) else X.f11.z j⟩ }

/-- One balance changed. -/
def balS (X : VState) (i : Nat) (v : Int) : VState := { X with f12 := ⟨X.f12.a, X.f12.n, X.f12.c, fun j => if j = i then v else X.f12.z j⟩ }

theorem BK.bal {w V : World} {y i g : Nat} {X : VState} (v : Int) (h : BK w y V X) (hg : X.f12.a = some ⟨g, 0, none⟩) (hi : i < X.f12.n) : BK w y (V.setCell ⟨g, i, none⟩ (.int .u64 v)) (balS X i v) := by
  have o12 := h.cpd.o12
  rw [hg] at o12
  obtain ⟨hB, C, hrg⟩ := own_row o12
  have h1 := ownSetC o12 i (by omega) (.int .u64 v)
  rw [nl_set] at h1
  have hk : Kept g V (V.setCell ⟨g, i, none⟩ (.int .u64 v)) := (Kept.refl g V).setCell _ _
  have hne : y ≠ g := fun e => by
    subst e
    rw [h.row] at hrg
    injection hrg with q
    injection q with _ q2
    exact absurd q2 (by decide)
  have hd : (Value.slice X.f21.a X.f21.n X.f21.c).ownBlock ≠ some g := fun e => by
    cases ha : X.f21.a with
    | none => rw [ha] at e; cases e
    | some ad =>
      rw [ha] at e
      have := h.cpd.d12 _ ad hg ha
      exact this (Option.some.inj e).symm
  refine ⟨kept_new h.kep hB _ _, (hk.block y (some_lt h.row) hne).trans h.row, ⟨own_keptB h.cpd.o7 hk (own_ne h.cpd.o7 hrg (by decide)), own_keptB h.cpd.o9 hk (own_ne h.cpd.o9 hrg (by decide)), own_keptB h.cpd.o11 hk (own_ne h.cpd.o11 hrg (by decide)), ?_, own_keptB h.cpd.o15 hk (own_ne h.cpd.o15 hrg (by decide)), own_keptB h.cpd.o16 hk (own_ne h.cpd.o16 hrg (by decide)), ?_, h.cpd.d15, h.cpd.d12⟩⟩
  · show World.ownsRow _ _ _ _ (.slice X.f12.a X.f12.n X.f12.c) _ _
    rw [hg]
    exact h1
  · exact own_keptB h.cpd.o21 hk hd

end Go.Proofs.YtficlakgameglaaDoor

namespace Go.Proofs.YtficlakgameglaaDoor

open Go.RowKit

set_option linter.unusedVariables false

set_option linter.unusedSimpArgs false

set_option maxRecDepth 20000

def far : Int := 18446744073709551615

def w64 (n : Int) : Int := IntKind.u64.wrap n

theorem w64_bd (n : Int) : 0 ≤ w64 n ∧ w64 n < 18446744073709551616 := by unfold w64; rw [IntKind.wrap_u64]; omega

/-- The greatest exit of the first k validators, but Far; how many of them have an exit. -/
def lvQ (z : Nat → VValidator) (e : Int) : Nat → Int
  | 0 => e + 3
  | k + 1 => if ¬ (z k).f6 = far ∧ lvQ z e k < (z k).f6 then (z k).f6 else lvQ z e k

def lvN (z : Nat → VValidator) (q : Int) : Nat → Nat
  | 0 => 0
  | k + 1 => lvN z q k + (if (z k).f6 = q then 1 else 0)

theorem lvQ_bd (z : Nat → VValidator) (e : Int) (h0 : 0 ≤ e) (h1 : e + 3 < 18446744073709551616) : ∀ k, (∀ j, j < k → 0 ≤ (z j).f6 ∧ (z j).f6 < 18446744073709551616) → e + 3 ≤ lvQ z e k ∧ lvQ z e k < 18446744073709551616
  | 0, _ => ⟨Int.le_refl _, h1⟩
  | k + 1, h => by
    have := lvQ_bd z e h0 h1 k fun j hj => h j (by omega)
    have hk := h k (by omega)
    show e + 3 ≤ (if ¬ (z k).f6 = far ∧ lvQ z e k < (z k).f6 then (z k).f6 else lvQ z e k) ∧ (if ¬ (z k).f6 = far ∧ lvQ z e k < (z k).f6 then (z k).f6 else lvQ z e k) < _
    split <;> omega

/-- When who leaves now goes; the state behind it. -/
def lvX (x : VState) : Int := if chuS x ≤ (lvN x.f11.z (lvQ x.f11.z (x.f2 / 4) x.f11.n) x.f11.n : Int) then w64 (lvQ x.f11.z (x.f2 / 4) x.f11.n + 1) else lvQ x.f11.z (x.f2 / 4) x.f11.n

def lvV (q : Int) (v : VValidator) : VValidator := { v with f6 := q, f7 := w64 (q + 2) }

def lvS (x : VState) (i : Nat) : VState := if (x.f11.z i).f6 = far then valS x i (lvV (lvX x)) else x

/-- Who is slashed, step by step. -/
def slV (e : Int) (v : VValidator) : VValidator := { v with f3 := true, f7 := if v.f7 < e + 8 then e + 8 else v.f7 }

def effS (x : VState) (i : Nat) : Int := (x.f11.z i).f2

def s14 (x : VState) (p : Nat) (v : Int) : VState := { x with f14 := fun j => if j = p then v else x.f14 j }

def slA (x : VState) (i : Nat) : VState := valS (lvS x i) i (slV (x.f2 / 4))

def slB (x : VState) (i : Nat) : VState := s14 (slA x i) (x.f2 / 4 % 8).toNat (w64 ((slA x i).f14 (x.f2 / 4 % 8).toNat + effS x i))

def slC (x : VState) (i : Nat) : VState := balS (slB x i) i (lesV ((slB x i).f12.z i) (effS x i / 64))

def slE (x : VState) (i : Nat) : Int := prE (slC x i)

def slP (x : VState) (i : Nat) : Nat := (prV (slC x i)).toNat

def slS (x : VState) (i : Nat) : VState := if slE x i = 0 then balS (slC x i) (slP x i) (w64 ((slC x i).f12.z (slP x i) + effS x i / 512)) else slC x i

/-- What is in range stays in range. -/
theorem ok_val {x : VState} (h : OkState x) (i : Nat) (f : VValidator → VValidator) (hf : i < x.f11.n → OkValidator (f (x.f11.z i))) : OkState (valS x i f) :=
  { h with
    o11 := fun j hj => by
      show OkValidator (if j = i then f (x.f11.z i) else x.f11.z j)
      by_cases e : j = i
      · rw [if_pos e]; subst e; exact hf hj
      · rw [if_neg e]; exact h.o11 j hj }

theorem ok_bal {x : VState} (h : OkState x) (i : Nat) (v : Int) (hv : 0 ≤ v ∧ v < 18446744073709551616) : OkState (balS x i v) :=
  { h with
    o12 := fun j hj => by
      show 0 ≤ (if j = i then v else x.f12.z j) ∧ (if j = i then v else x.f12.z j) < _
      by_cases e : j = i
      · rw [if_pos e]; exact hv
      · rw [if_neg e]; exact h.o12 j hj }

theorem ok_14 {x : VState} (h : OkState x) (p : Nat) (v : Int) (hv : 0 ≤ v ∧ v < 18446744073709551616) : OkState (s14 x p v) :=
  { h with
    o14 := fun j hj => by
      show 0 ≤ (if j = p then v else x.f14 j) ∧ (if j = p then v else x.f14 j) < _
      by_cases e : j = p
      · rw [if_pos e]; exact hv
      · rw [if_neg e]; exact h.o14 j hj }

theorem lvX_bd {x : VState} (h : OkState x) (h2 : x.f2 < 1099511627776) : 0 ≤ lvX x ∧ lvX x < 18446744073709551616 := by
  have h0 := h.o2.1
  have := lvQ_bd x.f11.z (x.f2 / 4) (by omega) (by omega) x.f11.n fun j hj => (h.o11 j hj).2.2.2.2.2.2.1
  unfold lvX
  split
  · exact w64_bd _
  · omega

theorem ok_lv {x : VState} (h : OkState x) (h2 : x.f2 < 1099511627776) (i : Nat) : OkState (lvS x i) := by
  unfold lvS
  split
  · exact ok_val h i _ fun hi => by
      obtain ⟨a, b, c, d, e, f, g, k⟩ := h.o11 i hi
      exact ⟨a, b, c, d, e, f, lvX_bd h h2, w64_bd _⟩
  · exact h

theorem ok_slA {x : VState} (h : OkState x) (h2 : x.f2 < 1099511627776) (i : Nat) : OkState (slA x i) := by
  unfold slA
  refine ok_val (ok_lv h h2 i) i _ fun hi => ?_
  obtain ⟨a, b, c, d, e, f, g, k⟩ := (ok_lv h h2 i).o11 i hi
  have h0 := h.o2.1
  refine ⟨a, b, c, trivial, e, f, g, ?_⟩
  show 0 ≤ (if ((lvS x i).f11.z i).f7 < x.f2 / 4 + 8 then x.f2 / 4 + 8 else ((lvS x i).f11.z i).f7) ∧ (if ((lvS x i).f11.z i).f7 < x.f2 / 4 + 8 then x.f2 / 4 + 8 else ((lvS x i).f11.z i).f7) < _
  split <;> omega

theorem les_bd {a b : Int} (h0 : 0 ≤ a) (h1 : a < 18446744073709551616) (hb : 0 ≤ b) : 0 ≤ lesV a b ∧ lesV a b < 18446744073709551616 := by
  unfold lesV
  split <;> omega

end Go.Proofs.YtficlakgameglaaDoor

namespace Go.Proofs.YtficlakgameglaaDoor

open Go.RowKit

set_option linter.unusedVariables false

set_option linter.unusedSimpArgs false

set_option maxRecDepth 20000

/-- A state given back. -/
theorem BF.give {w V : World} {y b : Nat} {Y : VState} {C : Array Value} (h : BF w y V Y) (r : V.heap[b]? = some (.cells C 49)) (c : Array Value) : Res w.heap.size (V.setRow b c) Y Y := by
  have hk : Kept b V (V.setRow b c) := (Kept.refl b V).setRow c
  have cp : CpdF w.heap.size (V.setRow b c) Y := ⟨own_keptB h.cpd.o7 hk (own_ne h.cpd.o7 r (by decide)), own_keptB h.cpd.o9 hk (own_ne h.cpd.o9 r (by decide)), own_keptB h.cpd.o11 hk (own_ne h.cpd.o11 r (by decide)), own_keptB h.cpd.o12 hk (own_ne h.cpd.o12 r (by decide)), own_keptB h.cpd.o15 hk (own_ne h.cpd.o15 r (by decide)), own_keptB h.cpd.o16 hk (own_ne h.cpd.o16 r (by decide)), own_keptB h.cpd.o21 hk (own_ne h.cpd.o21 r (by decide)), h.cpd.d15, h.cpd.d12⟩
  exact ⟨.refl _, ⟨own_rtF cp.o7, own_els cp.o9 (fun i => by rw [celL_len]; rfl), own_els cp.o11 (fun i => by rw [celL_len]; rfl), own_nms cp.o12, own_byF cp.o15, own_byF cp.o16, own_nms cp.o21⟩, cp.nil, cp.nw⟩

def bsE (n : Nat) (ps : Array (Nat × Value)) : Sem Value := Instr.buildSlice 35 n ps

theorem bsE_eq (n : Nat) (ps : Array (Nat × Value)) : Instr.buildSlice 35 n ps = bsE n ps := rfl

def svE (a : Addr) (v : Value) : Sem Unit := storeVar 34 a v

theorem svE_eq (a : Addr) (v : Value) : storeVar 34 a v = svE a v := rfl

theorem right_small {x : VState} (h : rightB x = true) : x.f7.n ≤ 65536 ∧ x.f9.n ≤ 8 ∧ x.f11.n ≤ 65536 ∧ x.f12.n ≤ 65536 ∧ x.f15.n ≤ 65536 ∧ x.f16.n ≤ 65536 ∧ x.f21.n ≤ 65536 := by
  unfold rightB at h
  rw [Bool.and_eq_true] at h
  have := h.1
  unfold fitB at this
  simp only [Bool.and_eq_true, decide_eq_true_eq] at this
  omega

theorem small_rch {x : VState} (h : rightB x = true) : Rch x := by
  have := right_small h
  unfold Rch
  omega

attribute [local go_sem ↓] lvState_eq svState_eq bdState_eq lvEth1_eq ixEth1_eq bsE_eq svE_eq eqoE_eq

end Go.Proofs.YtficlakgameglaaDoor

namespace Go.Proofs.YtficlakgameglaaDoor

open Go.RowKit

set_option linter.unusedVariables false

set_option linter.unusedSimpArgs false

/-- The lowest 32 bits of a kind, as bytes; a domain; a state's domain; that of deposits. -/
def kdB (k : Int) (j : Nat) : Int := nmB (k % 4294967296) j

def dmV (k : Int) (v r : Nat → Int) (j : Nat) : Int := if j < 4 then kdB k j else tw (pk v 4) r (j - 4)

def domV (x : VState) (k e : Int) : Nat → Int := dmV k (if e < x.f3.f2 then x.f3.f0 else x.f3.f1) x.f1

theorem kdB_64 (k : Int) (j : Nat) (hj : j < 4) : nmB (k % 18446744073709551616) j = kdB k j := by
  unfold kdB nmB
  match j, hj with
  | 0, _ => simp only [Nat.mul_zero, Int.pow_zero]; omega
  | 1, _ => show k % 18446744073709551616 / 256 % 256 = k % 4294967296 / 256 % 256; omega
  | 2, _ => show k % 18446744073709551616 / 65536 % 256 = k % 4294967296 / 65536 % 256; omega
  | 3, _ => show k % 18446744073709551616 / 16777216 % 256 = k % 4294967296 / 16777216 % 256; omega

theorem pk_in {m : Nat → Int} {len : Nat} (h : ∀ j, j < len → 0 ≤ m j ∧ m j < 256) (q : Nat) : 0 ≤ pk m len q ∧ pk m len q < 256 := by
  unfold pk
  split
  · exact h q ‹_›
  · omega

theorem rt32_0 (f : Nat → Int) : rt32 f 0 = f := funext fun j => by unfold rt32; rw [Nat.mul_zero, Nat.zero_add]

/-- A question's bytes, and its sum. -/
def qsF (f : Nat → Int) (n : Nat) (r s : Nat → Int) (j : Nat) : Int := if j < 48 * n then f j else if j < 48 * n + 32 then r (j - 48 * n) else s (j - (48 * n + 32))

def qsV (f : Nat → Int) (n : Nat) (r s : Nat → Int) : Nat → Int := shaV KW HW (qsF f n r s) (48 * n + 128)

theorem qsF_bd {f r s : Nat → Int} {n : Nat} (hf : ∀ j, j < 48 * n → 0 ≤ f j ∧ f j < 256) (hr : ∀ j, j < 32 → 0 ≤ r j ∧ r j < 256) (hs : ∀ j, j < 96 → 0 ≤ s j ∧ s j < 256) : ∀ j, j < 48 * n + 128 → 0 ≤ qsF f n r s j ∧ qsF f n r s j < 256 := fun j hj => by
  unfold qsF
  split
  · exact hf j ‹_›
  · split
    · exact hr _ (by omega)
    · exact hs _ (by omega)

/-- Is a root none of a row's? -/
def gdB (q f : Nat → Int) (n : Nat) : Bool := !(List.range n).any fun i => eqR (rt32 f i) q

theorem gdB_zero (q f : Nat → Int) : gdB q f 0 = true := rfl

theorem gdB_succ (q f : Nat → Int) (n : Nat) : gdB q f (n + 1) = (gdB q f n && !eqR (rt32 f n) q) := by
  unfold gdB
  rw [List.range_succ, List.any_append, Bool.not_or]
  simp

theorem gdB_true {q f : Nat → Int} {n : Nat} : gdB q f n = true ↔ ∀ i, i < n → eqR (rt32 f i) q = false := by
  unfold gdB
  simp

end Go.Proofs.YtficlakgameglaaDoor

namespace Go.Proofs.YtficlakgameglaaDoor

open Go.RowKit

set_option linter.unusedVariables false

set_option linter.unusedSimpArgs false

set_option maxRecDepth 20000

/-- A version, loaded; versions and roots built. -/
def lvVer (a : Addr) : Sem Value := loadVar 26 a

theorem lvVer_eq (a : Addr) : loadVar 26 a = lvVer a := rfl

theorem lvVer_mid {w : World} {b o : Nat} {c : Nat → Int} (h : ∀ j, j < 4 → w.cell? ⟨b, o + j, none⟩ = some (.int .u8 (c j))) : (lvVer ⟨b, o, none⟩).run Tryd.prog w = .ok (.agg (vs .u8 4 c)) w := by
  have hr : w.rangeAt b o ((List.range 4).map fun i => Value.int .u8 (c i)) := by
    intro j v hj
    have hlt : j < 4 := by
      have := (List.getElem?_eq_some_iff.1 hj).1
      simpa using this
    rw [h j hlt]
    simp [hlt] at hj
    rw [hj]
  exact loadAt_var (run_loadAt_mid w b o 26 _ _ hr Tryd.underlying26 rfl (by rw [List.length_map, List.length_range]; kernel_rfl))

def bdVer (ps : Array (Nat × Value)) : Sem Value := Instr.build 26 ps

theorem bdVer_eq (ps : Array (Nat × Value)) : Instr.build 26 ps = bdVer ps := rfl

def bdRo (ps : Array (Nat × Value)) : Sem Value := Instr.build 24 ps

theorem bdRo_eq (ps : Array (Nat × Value)) : Instr.build 24 ps = bdRo ps := rfl

theorem cS42 {w : World} {g : Nat} {x : VState} {t : TypeId} (h : w.heap[g]? = some (.cells (cel (sState x)) t)) : w.cell? ⟨g, 42, none⟩ = some (.int .u64 x.f3.f2) := seg_nu h 5 x.f3.f2 (by kernel_rfl) 42 (by kernel_rfl)

theorem splitF3 (x : VState) : sState x = (sState x).take 3 ++ [.by 4 x.f3.f0] ++ (sState x).drop 4 := by kernel_rfl

theorem splitF4 (x : VState) : sState x = (sState x).take 4 ++ [.by 4 x.f3.f1] ++ (sState x).drop 5 := by kernel_rfl

theorem len3 (x : VState) : slen ((sState x).take 3) = 34 := by kernel_rfl

theorem len4 (x : VState) : slen ((sState x).take 4) = 38 := by kernel_rfl

theorem at3 {w : World} {g : Nat} {x : VState} {t : TypeId} (h : w.heap[g]? = some (.cells (cel (sState x)) t)) (p : Nat) (hp : p < 4) : w.cell? ⟨g, 34 + p, none⟩ = some (.int .u8 (x.f3.f0 p)) := by
  have := byte_at ((sState x).take 3) ((sState x).drop 4) 4 x.f3.f0 (t := t) (by rw [← splitF3]; exact h) p hp
  rw [len3] at this
  exact this

theorem at4 {w : World} {g : Nat} {x : VState} {t : TypeId} (h : w.heap[g]? = some (.cells (cel (sState x)) t)) (p : Nat) (hp : p < 4) : w.cell? ⟨g, 38 + p, none⟩ = some (.int .u8 (x.f3.f1 p)) := by
  have := byte_at ((sState x).take 4) ((sState x).drop 5) 4 x.f3.f1 (t := t) (by rw [← splitF4]; exact h) p hp
  rw [len4] at this
  exact this

attribute [local go_sem ↓] lvState_eq svState_eq bdState_eq sv24_eq lv24_eq sv8_eq ix22_eq lvVer_eq bdVer_eq bdRo_eq

end Go.Proofs.YtficlakgameglaaDoor

namespace Go.Proofs.YtficlakgameglaaDoor

open Go.RowKit

set_option linter.unusedVariables false

set_option linter.unusedSimpArgs false

set_option maxRecDepth 20000

theorem qs_one (f r s : Nat → Int) (n j : Nat) (h : j < 48 * n) : qsF f n r s j = f j := by unfold qsF; rw [if_pos h]

theorem qs_two (f r s : Nat → Int) (n j : Nat) (h : j < 32) : qsF f n r s (48 * n + j) = r j := by unfold qsF; rw [if_neg (by omega), if_pos (by omega), show 48 * n + j - 48 * n = j by omega]

theorem qs_three (f r s : Nat → Int) (n j : Nat) : qsF f n r s (48 * n + 32 + j) = s j := by unfold qsF; rw [if_neg (by omega), if_neg (by omega), show 48 * n + 32 + j - (48 * n + 32) = j by omega]

attribute [local go_sem ↓] ixKy_eq lvKy_eq svKy_eq sv24_eq lv24_eq bdRo_eq bs22_eq

/-- A byte of a root by its value. -/
def ixRo (x i : Value) : Sem Value := Instr.index 24 x i

theorem ixRo_eq (x i : Value) : Instr.index 24 x i = ixRo x i := rfl

attribute [local go_sem ↓] ixRo_eq

/-- What the program's functions have to answer. -/
def PDom : Prop := ∀ (x : VState) (k e : Int) (w : World), OkState x → -9223372036854775808 ≤ k → k ≤ 9223372036854775807 → 0 ≤ e → e < 18446744073709551616 → Sh w → Calls Tryd.prog 38 #[.agg (cel (sState x)), .int .i64 k, .int .u64 e] w fun e' w' => e' = .returned (.agg (vs .u8 32 (domV x k e))) ∧ Below w.heap.size w w'

def PRoo : Prop := ∀ (a b : Nat → Int) (w : World), (∀ j, j < 32 → 0 ≤ a j ∧ a j < 256) → (∀ j, j < 32 → 0 ≤ b j ∧ b j < 256) → Sh w → Calls Tryd.prog 40 #[.agg (vs .u8 32 a), .agg (vs .u8 32 b)] w fun e' w' => e' = .returned (.agg (vs .u8 32 (tw a b))) ∧ Below w.heap.size w w'

def PQue : Prop := ∀ (a : Option Addr) (n cap : Nat) (f r s : Nat → Int) (w : World), Kys w a n cap f → (∀ j, j < 48 * n → 0 ≤ f j ∧ f j < 256) → (∀ j, j < 32 → 0 ≤ r j ∧ r j < 256) → (∀ j, j < 96 → 0 ≤ s j ∧ s j < 256) → 48 * n ≤ 140737488351232 → Sh w → Calls Tryd.prog 39 #[.slice a n cap, .agg (vs .u8 32 r), .agg (vs .u8 96 s)] w fun e' w' => e' = .returned (.agg (vs .u8 32 (qsV f n r s))) ∧ Below w.heap.size w w'

def PGoo : Prop := ∀ (q f : Nat → Int) (a : Option Addr) (n cap : Nat) (w : World), Rts w a n cap f → n ≤ 9223372036854775807 → Calls Tryd.prog 18 #[.agg (vs .u8 32 q), .slice a n cap] w fun e' w' => e' = .returned (.bool (gdB q f n)) ∧ Below w.heap.size w w'

end Go.Proofs.YtficlakgameglaaDoor

namespace Go.Proofs.YtficlakgameglaaDoor

open Go.RowKit

set_option linter.unusedVariables false

set_option linter.unusedSimpArgs false

set_option maxRecDepth 20000

attribute [local go_sem ↓] lvState_eq svState_eq bdState_eq sv24_eq lv24_eq

/-- A signature, loaded and stored. -/
def lvSg (a : Addr) : Sem Value := loadVar 55 a

theorem lvSg_eq (a : Addr) : loadVar 55 a = lvSg a := rfl

theorem lvSg_run {w : World} {b : Nat} {c : Nat → Int} {t : TypeId} (h : w.heap[b]? = some (.cells (vs .u8 96 c) t)) : (lvSg ⟨b, 0, none⟩).run Tryd.prog w = .ok (.agg (vs .u8 96 c)) w :=
  loadAt_var (load_row h 55 _ Tryd.underlying55 rfl (by rw [vs_size]; kernel_rfl))

def svSg (a : Addr) (v : Value) : Sem Unit := storeVar 55 a v

theorem svSg_eq (a : Addr) (v : Value) : storeVar 55 a v = svSg a v := rfl

attribute [local go_sem ↓] lvSg_eq svSg_eq

end Go.Proofs.YtficlakgameglaaDoor

namespace Go.Proofs.YtficlakgameglaaDoor

open Go.RowKit

set_option linter.unusedVariables false

set_option linter.unusedSimpArgs false

set_option maxRecDepth 20000

/-- A list of one key, built. -/
def bsK (n : Nat) (ps : Array (Nat × Value)) : Sem Value := Instr.buildSlice 84 n ps

theorem bsK_eq (n : Nat) (ps : Array (Nat × Value)) : Instr.buildSlice 84 n ps = bsK n ps := rfl

theorem bsK_1 (W : World) (c : Nat → Int) : (bsK 1 #[(0, .agg (vs .u8 48 c))]).run Tryd.prog W = .ok (.slice (some ⟨W.heap.size, 0, none⟩) 1 1) (W.alloc (.cells (vs .u8 48 c) 44)) := by kernel_rfl

theorem retState3 {fn : Func} {R : Ending → World → Prop} {a : Act} {w' : World} (t s s2 : Tmp) (b : Nat) (c : VState) (ty : TypeId) (v v2 : Value) (h : fn.results = #[.cell t 49, .tmp s, .tmp s2]) (hd : a.defers = []) (ht : a.tmps.getD t undef = .pointer (some ⟨b, 0, none⟩)) (hs : a.tmps.getD s undef = v) (hs2 : a.tmps.getD s2 undef = v2) (hr : w'.heap[b]? = some (.cells (cel (sState c)) ty))
    (hR : R (.returned (.tuple #[.agg (cel (sState c)), v, v2])) w') : bodyPost Tryd.prog fn R .ret a w' := by
  refine bodyPost_ret ?_ hd hR
  have hl := loadAt_var (load_row (P := Tryd.prog) hr 49 _ Tryd.underlying49 rfl (by rw [cel_size, slState]; kernel_rfl))
  rw [Array.getD_eq_getD_getElem?] at ht hs hs2
  simp [results, h, ht, hs, hs2, hl, asAddr]

theorem rows_ne {w : World} {a b : Nat} {C D : Array Value} {t u : TypeId} (h : w.heap[a]? = some (.cells C t)) (k : w.heap[b]? = some (.cells D u)) (hne : t ≠ u) : a ≠ b := fun e => by
  subst e
  rw [h] at k
  exact hne (Obj.cells.inj (Option.some.inj k)).2.1

theorem twB (a b : Nat → Int) (j : Nat) : 0 ≤ tw a b j ∧ tw a b j < 256 := shaV_bd ..

theorem domB (x : VState) (k e : Int) (j : Nat) : 0 ≤ domV x k e j ∧ domV x k e j < 256 := by
  unfold domV dmV
  split
  · unfold kdB nmB; omega
  · exact twB ..

theorem lvSgR {w : World} {b : Nat} {c : Nat → Int} {t : TypeId} (h : w.heap[b]? = some (.cells (vs .u8 96 c) t)) : (lvSg ⟨b, 0, none⟩).run Tryd.prog w = .ok (.agg (vs .u8 96 c)) w :=
  loadAt_var (load_row h 55 _ Tryd.underlying55 rfl (by rw [vs_size]; kernel_rfl))

attribute [local go_sem ↓] lvState_eq svState_eq bdState_eq sv24_eq lv24_eq sv8_eq ix22_eq bs22_eq bsK_eq lvSg_eq lvKy_eq ixValidator_eq

theorem val_key {w : World} {b o : Nat} {v : VValidator} (h : w.rangeAt b o (celL (sValidator v))) (j : Nat) (hj : j < 48) : w.cell? ⟨b, o + j, none⟩ = some (.int .u8 (v.f0 j)) := by
  refine h j _ ?_
  show ((List.range 48).map (Seg.get (.by 48 v.f0)) ++ celL _)[j]? = _
  rw [List.getElem?_append_left (by simp; exact hj), List.getElem?_map, List.getElem?_range hj]
  rfl

end Go.Proofs.YtficlakgameglaaDoor
