/-
  A deposit and an exit, as plain numbers.
-/

import Derived.Test.YtmapeodhcllimaaDoorQL
import Derived.Test.YtmapeodhcllimaaDoorQM
import Derived.Test.YtmapeodhcllimaaDoorQG
import Derived.Test.YtmapeodhcllimaaDoorQE
import Derived.Test.YtmapeodhcllimaaDoorQF
import Derived.Test.YtmapeodhcllimaaDoorQO
namespace Go.Proofs.YtmapeodhcllimaaDoor

open Go.RowKit

set_option linter.unusedVariables false

set_option linter.unusedSimpArgs false

set_option maxRecDepth 20000

/-- Two keys compared. -/
def eqY (c d : Nat → Int) : Bool := (List.range 48).all fun j => c j == d j

theorem eq48g (w : World) (c d : Nat → Int) : (Op.equalIn 10000 44 (.agg (vs .u8 48 c)) (.agg (vs .u8 48 d))).run Tryd.prog w = .ok (eqY c d) w := by
  have hi : ∃ i, Tryd.prog.info? 5 = some i := Option.isSome_iff_exists.1 (by kernel_rfl)
  obtain ⟨i, hi⟩ := hi
  have hc : Tryd.prog.cellsOf 5 = 1 := by kernel_rfl
  rw [run_equalIn_array w 9999 _ _ Tryd.underlying44 hi, hc]
  exact run_eqItems_ints (P := Tryd.prog) 9998 5 .u8 .u8 Tryd.underlying5 agg_u8 (vs .u8 48 c) (vs .u8 48 d) c d w (List.range 48) (by
    intro j hj
    have hj := List.mem_range.1 hj
    exact ⟨vs_get _ _ _ _ hj, vs_get _ _ _ _ hj⟩)

/-- Who has a key first; so many, if none has it. -/
def owN (z : Nat → VValidator) (k : Nat → Int) : Nat → Nat
  | 0 => 0
  | n + 1 => if owN z k n < n then owN z k n else if eqY (z n).f0 k = true then n else n + 1

theorem owN_none (z : Nat → VValidator) (k : Nat → Int) : ∀ n, (∀ j, j < n → eqY (z j).f0 k = false) → owN z k n = n
  | 0, _ => rfl
  | n + 1, h => by
    show (if owN z k n < n then owN z k n else if eqY (z n).f0 k = true then n else n + 1) = _
    rw [owN_none z k n fun j hj => h j (by omega), if_neg (Nat.lt_irrefl n), h n (by omega)]
    rfl

theorem owN_at (z : Nat → VValidator) (k : Nat → Int) (i : Nat) (h : ∀ j, j < i → eqY (z j).f0 k = false) (h1 : eqY (z i).f0 k = true) : ∀ n, i < n → owN z k n = i
  | 0, h0 => absurd h0 (Nat.not_lt_zero _)
  | n + 1, h0 => by
    show (if owN z k n < n then owN z k n else if eqY (z n).f0 k = true then n else n + 1) = _
    by_cases hn : i < n
    · rw [owN_at z k i h h1 n hn, if_pos hn]
    · obtain rfl : i = n := by omega
      rw [owN_none z k i h, if_neg (Nat.lt_irrefl i), if_pos h1]

/-- A validator that a deposit makes. -/
def efV (n : Int) : Int := min 32000000000 (n - n % 1000000000)

def nvV (d : VDepositData) : VValidator := ⟨d.f0, d.f1, efV d.f2, false, far, far, far, far⟩

theorem efV_bd {n : Int} (h : 0 ≤ n) : 0 ≤ efV n ∧ efV n ≤ 32000000000 := by
  unfold efV
  omega

/-- One more of a list. -/
def vnZ {α : Type} (z : Nat → α) (n : Nat) (v : α) (j : Nat) : α := if j < n then z j else v

def mr11 (Y : VState) (a : Option Addr) (c : Nat) (v : VValidator) : VState := { Y with f11 := ⟨a, Y.f11.n + 1, c, vnZ Y.f11.z Y.f11.n v⟩ }

def mr12 (Y : VState) (a : Option Addr) (c : Nat) (v : Int) : VState := { Y with f12 := ⟨a, Y.f12.n + 1, c, vnZ Y.f12.z Y.f12.n v⟩ }

def mr15 (Y : VState) (a : Option Addr) (c : Nat) (v : Int) : VState := { Y with f15 := ⟨a, Y.f15.n + 1, c, vnZ Y.f15.z Y.f15.n v⟩ }

def mr16 (Y : VState) (a : Option Addr) (c : Nat) (v : Int) : VState := { Y with f16 := ⟨a, Y.f16.n + 1, c, vnZ Y.f16.z Y.f16.n v⟩ }

def mr21 (Y : VState) (a : Option Addr) (c : Nat) (v : Int) : VState := { Y with f21 := ⟨a, Y.f21.n + 1, c, vnZ Y.f21.z Y.f21.n v⟩ }

/-- The count of deposits goes up; a validator more. -/
def upS (x : VState) : VState := { x with f10 := w64 (x.f10 + 1) }

def enS (x : VState) (d : VDepositData) : VState := mr21 (mr16 (mr15 (mr12 (mr11 x none 0 (nvV d)) none 0 d.f2) none 0 0) none 0 0) none 0 0

theorem upS_sim {x X : VState} (h : SimF x X) : SimF (upS x) (upS X) := ⟨h.e0, h.e1, h.e2, h.e3, h.e4, h.e5, h.e6, h.l7, h.z7, h.e8, h.l9, h.z9, by show w64 (X.f10 + 1) = w64 (x.f10 + 1); rw [h.e10], h.l11, h.z11, h.l12, h.z12, h.e13, h.e14, h.l15, h.z15, h.l16, h.z16, h.e17, h.e18, h.e19, h.e20, h.l21, h.z21, h.e22, h.e23⟩

theorem sim11 {x X : VState} (h : SimF x X) (a a' : Option Addr) (c c' : Nat) (v : VValidator) : SimF (mr11 x a c v) (mr11 X a' c' v) := ⟨h.e0, h.e1, h.e2, h.e3, h.e4, h.e5, h.e6, h.l7, h.z7, h.e8, h.l9, h.z9, h.e10, by show X.f11.n + 1 = x.f11.n + 1; rw [h.l11], by show vnZ X.f11.z X.f11.n v = vnZ x.f11.z x.f11.n v; rw [h.l11, h.z11], h.l12, h.z12, h.e13, h.e14, h.l15, h.z15, h.l16, h.z16, h.e17, h.e18, h.e19, h.e20, h.l21, h.z21, h.e22, h.e23⟩

theorem sim12 {x X : VState} (h : SimF x X) (a a' : Option Addr) (c c' : Nat) (v : Int) : SimF (mr12 x a c v) (mr12 X a' c' v) := ⟨h.e0, h.e1, h.e2, h.e3, h.e4, h.e5, h.e6, h.l7, h.z7, h.e8, h.l9, h.z9, h.e10, h.l11, h.z11, by show X.f12.n + 1 = x.f12.n + 1; rw [h.l12], by show vnZ X.f12.z X.f12.n v = vnZ x.f12.z x.f12.n v; rw [h.l12, h.z12], h.e13, h.e14, h.l15, h.z15, h.l16, h.z16, h.e17, h.e18, h.e19, h.e20, h.l21, h.z21, h.e22, h.e23⟩

theorem sim15 {x X : VState} (h : SimF x X) (a a' : Option Addr) (c c' : Nat) (v : Int) : SimF (mr15 x a c v) (mr15 X a' c' v) := ⟨h.e0, h.e1, h.e2, h.e3, h.e4, h.e5, h.e6, h.l7, h.z7, h.e8, h.l9, h.z9, h.e10, h.l11, h.z11, h.l12, h.z12, h.e13, h.e14, by show X.f15.n + 1 = x.f15.n + 1; rw [h.l15], by show vnZ X.f15.z X.f15.n v = vnZ x.f15.z x.f15.n v; rw [h.l15, h.z15], h.l16, h.z16, h.e17, h.e18, h.e19, h.e20, h.l21, h.z21, h.e22, h.e23⟩

theorem sim16 {x X : VState} (h : SimF x X) (a a' : Option Addr) (c c' : Nat) (v : Int) : SimF (mr16 x a c v) (mr16 X a' c' v) := ⟨h.e0, h.e1, h.e2, h.e3, h.e4, h.e5, h.e6, h.l7, h.z7, h.e8, h.l9, h.z9, h.e10, h.l11, h.z11, h.l12, h.z12, h.e13, h.e14, h.l15, h.z15, by show X.f16.n + 1 = x.f16.n + 1; rw [h.l16], by show vnZ X.f16.z X.f16.n v = vnZ x.f16.z x.f16.n v; rw [h.l16, h.z16], h.e17, h.e18, h.e19, h.e20, h.l21, h.z21, h.e22, h.e23⟩

theorem sim21 {x X : VState} (h : SimF x X) (a a' : Option Addr) (c c' : Nat) (v : Int) : SimF (mr21 x a c v) (mr21 X a' c' v) := ⟨h.e0, h.e1, h.e2, h.e3, h.e4, h.e5, h.e6, h.l7, h.z7, h.e8, h.l9, h.z9, h.e10, h.l11, h.z11, h.l12, h.z12, h.e13, h.e14, h.l15, h.z15, h.l16, h.z16, h.e17, h.e18, h.e19, h.e20, by show X.f21.n + 1 = x.f21.n + 1; rw [h.l21], by show vnZ X.f21.z X.f21.n v = vnZ x.f21.z x.f21.n v; rw [h.l21, h.z21], h.e22, h.e23⟩

theorem en_sim {x X : VState} (h : SimF x X) (d : VDepositData) (a1 a2 a3 a4 a5 : Option Addr) (c1 c2 c3 c4 c5 : Nat) : SimF (enS x d) (mr21 (mr16 (mr15 (mr12 (mr11 X a1 c1 (nvV d)) a2 c2 d.f2) a3 c3 0) a4 c4 0) a5 c5 0) :=
  sim21 (sim16 (sim15 (sim12 (sim11 h _ _ _ _ _) _ _ _ _ _) _ _ _ _ _) _ _ _ _ _) _ _ _ _ _

theorem bal_sim {x X : VState} (h : SimF x X) (i : Nat) (n : Int) : SimF (balS x i n) (balS X i n) :=
  ⟨h.e0, h.e1, h.e2, h.e3, h.e4, h.e5, h.e6, h.l7, h.z7, h.e8, h.l9, h.z9, h.e10, h.l11, h.z11, h.l12, by show (fun j => if j = i then n else X.f12.z j) = fun j => if j = i then n else x.f12.z j; rw [h.z12], h.e13, h.e14, h.l15, h.z15, h.l16, h.z16, h.e17, h.e18, h.e19, h.e20, h.l21, h.z21, h.e22, h.e23⟩

/-- A deposit that is in the tree: who has its key; its question; so many questions; the error; the state. -/
def dpO (x : VState) (d : VDepositData) : Nat := owN x.f11.z d.f0 x.f11.n

def dpQ (d : VDepositData) : Nat → Int := qsV d.f0 1 (tw (msV d) depV) d.f3

def tkK (x : VState) (d : VDepositData) : Nat := if dpO x d < x.f11.n then 0 else 1

def tkE (x : VState) (d : VDepositData) (f : Nat → Int) (n : Nat) : Int :=
  if dpO x d < x.f11.n then (if 144115188075855872 < d.f2 then 2 else 0)
  else if gdB (dpQ d) f n = true then (if 65536 ≤ x.f11.n then 6 else if 144115188075855872 < d.f2 then 2 else 0) else 0

def tkS (x : VState) (d : VDepositData) (f : Nat → Int) (n : Nat) : VState :=
  if dpO x d < x.f11.n then balS x (dpO x d) (w64 (x.f12.z (dpO x d) + d.f2))
  else if gdB (dpQ d) f n = true then enS x d else x

theorem tkK_sim {x X : VState} (h : SimF x X) (d : VDepositData) : tkK X d = tkK x d := by unfold tkK dpO; rw [h.l11, h.z11]

theorem tkE_sim {x X : VState} (h : SimF x X) (d : VDepositData) (f : Nat → Int) (n : Nat) : tkE X d f n = tkE x d f n := by unfold tkE dpO; rw [h.l11, h.z11]

/-- Such a state is laid out as it is; of the sort that the calls ask for. -/
theorem ok_up {x : VState} (h : OkState x) : OkState (upS x) := ⟨h.o0, h.o1, h.o2, h.o3, h.o4, h.o5, h.o6, h.o7, h.o8, h.o9, w64_bd _, h.o11, h.o12, h.o13, h.o14, h.o15, h.o16, h.o18, h.o19, h.o20, h.o21, h.o22, h.o23⟩

theorem ok_blJ {x : VState} (h : OkState x) (i : Nat) {n : Int} (hn : 0 ≤ n ∧ n < 18446744073709551616) : OkState (balS x i n) := ⟨h.o0, h.o1, h.o2, h.o3, h.o4, h.o5, h.o6, h.o7, h.o8, h.o9, h.o10, h.o11, fun j hj => by
  show 0 ≤ (if j = i then n else x.f12.z j) ∧ (if j = i then n else x.f12.z j) < _
  split
  · exact hn
  · exact h.o12 j hj, h.o13, h.o14, h.o15, h.o16, h.o18, h.o19, h.o20, h.o21, h.o22, h.o23⟩

theorem ok_nv {d : VDepositData} (h : OkDepositData d) : OkValidator (nvV d) := by
  have := efV_bd h.2.2.1.1
  refine ⟨h.1, h.2.1, ⟨this.1, ?_⟩, trivial, ?_, ?_, ?_, ?_⟩
  · show efV d.f2 < _
    omega
  all_goals
    show 0 ≤ far ∧ far < _
    unfold far
    omega

theorem vn_all {α : Type} {p : α → Prop} {z : Nat → α} {n : Nat} {v : α} (h : ∀ j, j < n → p (z j)) (hv : p v) (j : Nat) (hj : j < n + 1) : p (vnZ z n v j) := by
  unfold vnZ
  split
  · exact h j ‹_›
  · exact hv

theorem ok_m11 {x : VState} (h : OkState x) (a : Option Addr) (c : Nat) {v : VValidator} (hv : OkValidator v) : OkState (mr11 x a c v) := ⟨h.o0, h.o1, h.o2, h.o3, h.o4, h.o5, h.o6, h.o7, h.o8, h.o9, h.o10, vn_all h.o11 hv, h.o12, h.o13, h.o14, h.o15, h.o16, h.o18, h.o19, h.o20, h.o21, h.o22, h.o23⟩

theorem ok_m12 {x : VState} (h : OkState x) (a : Option Addr) (c : Nat) {v : Int} (hv : 0 ≤ v ∧ v < 18446744073709551616) : OkState (mr12 x a c v) := ⟨h.o0, h.o1, h.o2, h.o3, h.o4, h.o5, h.o6, h.o7, h.o8, h.o9, h.o10, h.o11, vn_all (p := fun n => 0 ≤ n ∧ n < 18446744073709551616) h.o12 hv, h.o13, h.o14, h.o15, h.o16, h.o18, h.o19, h.o20, h.o21, h.o22, h.o23⟩

theorem ok_m15 {x : VState} (h : OkState x) (a : Option Addr) (c : Nat) {v : Int} (hv : 0 ≤ v ∧ v < 256) : OkState (mr15 x a c v) := ⟨h.o0, h.o1, h.o2, h.o3, h.o4, h.o5, h.o6, h.o7, h.o8, h.o9, h.o10, h.o11, h.o12, h.o13, h.o14, vn_all (p := fun n => 0 ≤ n ∧ n < 256) h.o15 hv, h.o16, h.o18, h.o19, h.o20, h.o21, h.o22, h.o23⟩

theorem ok_m16 {x : VState} (h : OkState x) (a : Option Addr) (c : Nat) {v : Int} (hv : 0 ≤ v ∧ v < 256) : OkState (mr16 x a c v) := ⟨h.o0, h.o1, h.o2, h.o3, h.o4, h.o5, h.o6, h.o7, h.o8, h.o9, h.o10, h.o11, h.o12, h.o13, h.o14, h.o15, vn_all (p := fun n => 0 ≤ n ∧ n < 256) h.o16 hv, h.o18, h.o19, h.o20, h.o21, h.o22, h.o23⟩

theorem ok_m21 {x : VState} (h : OkState x) (a : Option Addr) (c : Nat) {v : Int} (hv : 0 ≤ v ∧ v < 18446744073709551616) : OkState (mr21 x a c v) := ⟨h.o0, h.o1, h.o2, h.o3, h.o4, h.o5, h.o6, h.o7, h.o8, h.o9, h.o10, h.o11, h.o12, h.o13, h.o14, h.o15, h.o16, h.o18, h.o19, h.o20, vn_all (p := fun n => 0 ≤ n ∧ n < 18446744073709551616) h.o21 hv, h.o22, h.o23⟩

theorem ok_en {x : VState} (h : OkState x) {d : VDepositData} (hd : OkDepositData d) : OkState (enS x d) :=
  ok_m21 (ok_m16 (ok_m15 (ok_m12 (ok_m11 h _ _ (ok_nv hd)) _ _ hd.2.2.1) _ _ (by omega)) _ _ (by omega)) _ _ (by omega)

theorem tk_ok {x : VState} (h : OkState x) {d : VDepositData} (hd : OkDepositData d) (f : Nat → Int) (n : Nat) : OkState (tkS x d f n) := by
  unfold tkS
  split
  · exact ok_blJ h _ (w64_bd _)
  · split
    · exact ok_en h hd
    · exact h

theorem tk_lns {x : VState} (h : rightB x = true) (d : VDepositData) (f : Nat → Int) (n : Nat) : Lns (tkS (upS x) d f n) := by
  have hs := right_small h
  unfold tkS Lns
  split
  · exact ⟨by show x.f11.n ≤ _; omega, by show x.f21.n ≤ _; omega, by show x.f12.n ≤ _; omega⟩
  · split
    · exact ⟨by show x.f11.n + 1 ≤ _; omega, by show x.f21.n + 1 ≤ _; omega, by show x.f12.n + 1 ≤ _; omega⟩
    · exact ⟨by show x.f11.n ≤ _; omega, by show x.f21.n ≤ _; omega, by show x.f12.n ≤ _; omega⟩

/-- A deposit of a block. -/
def jdP (x : VState) (d : VDeposit) : Int := if rightB x = true then (if holdsV (hDepositData d.f1) d.f0.f0 7 x.f10.toNat x.f8.f0 = true then 0 else 34) else 1

def jdK (x : VState) (d : VDeposit) : Nat := if jdP x d = 0 then tkK x d.f1 else 0

def jdE (x : VState) (d : VDeposit) (f : Nat → Int) (n : Nat) : Int := if jdP x d = 0 then (if tkE x d.f1 f n = 0 then (if rightB (tkS (upS x) d.f1 f n) = true then 0 else 2) else tkE x d.f1 f n) else jdP x d

def jdS (x : VState) (d : VDeposit) (f : Nat → Int) (n : Nat) : VState := if jdE x d f n = 0 then tkS (upS x) d.f1 f n else oState

/-- An exit of a block. -/
def exC (x : VState) (e : VExit) : Int :=
  if e.f1 < (x.f11.n : Int) then
    if actB (x.f11.z e.f1.toNat) (x.f2 / 4) = true then
      if (x.f11.z e.f1.toNat).f6 = far then
        if e.f0 ≤ x.f2 / 4 then
          if (x.f11.z e.f1.toNat).f5 + 2 ≤ x.f2 / 4 then 0 else 31
        else 29
      else 36
    else 27
  else 27

def exP (x : VState) (e : VExit) : Int := if rightB x = true then exC x e else 1

def exQ (x : VState) (s : VSignedExit) : Nat → Int := qsV (x.f11.z s.f0.f1.toNat).f0 1 (tw (hExit s.f0) (domV x 4 s.f0.f0)) s.f1

def exK (x : VState) (s : VSignedExit) : Nat := if exP x s.f0 = 0 then 1 else 0

def exE (x : VState) (s : VSignedExit) (f : Nat → Int) (n : Nat) : Int := if exP x s.f0 = 0 then (if gdB (exQ x s) f n = true then lqE x s.f0.f1 else 25) else exP x s.f0

def exS (x : VState) (s : VSignedExit) (f : Nat → Int) (n : Nat) : VState := if exE x s f n = 0 then lqS x s.f0.f1 else oState

theorem exC_cases (x : VState) (e : VExit) (h0 : 0 ≤ e.f1) : exC x e = 0 → ∃ k : Nat, e.f1 = (k : Int) ∧ k < x.f11.n ∧ actB (x.f11.z k) (x.f2 / 4) = true ∧ (x.f11.z k).f6 = far := by
  unfold exC
  intro h
  by_cases h1 : e.f1 < (x.f11.n : Int)
  · rw [if_pos h1] at h
    by_cases h2 : actB (x.f11.z e.f1.toNat) (x.f2 / 4) = true
    · rw [if_pos h2] at h
      by_cases h3 : (x.f11.z e.f1.toNat).f6 = far
      · exact ⟨e.f1.toNat, by omega, by omega, h2, h3⟩
      · rw [if_neg h3] at h; omega
    · rw [if_neg h2] at h; omega
  · rw [if_neg h1] at h; omega

/-- What both sides answer, in memory: of a deposit, of an exit. -/
def JdA (x : VState) (d : VDeposit) (f : Nat → Int) (n : Nat) (w : World) (e' : Ending) (w' : World) : Prop :=
  ∃ X a c, e' = .returned (.tuple #[.agg (cel (sState X)), .slice a (jdK x d) c, .int .i64 (jdE x d f n)]) ∧ Res w.heap.size w' (jdS x d f n) X ∧ Rts w' a (jdK x d) c (dpQ d.f1) ∧ NwL w.heap.size a (jdK x d) ∧ Below w.heap.size w w'

def ExA (x : VState) (s : VSignedExit) (f : Nat → Int) (n : Nat) (w : World) (e' : Ending) (w' : World) : Prop :=
  ∃ X a c, e' = .returned (.tuple #[.agg (cel (sState X)), .slice a (exK x s) c, .int .i64 (exE x s f n)]) ∧ Res w.heap.size w' (exS x s f n) X ∧ Rts w' a (exK x s) c (exQ x s) ∧ NwL w.heap.size a (exK x s) ∧ Below w.heap.size w w'

end Go.Proofs.YtmapeodhcllimaaDoor
