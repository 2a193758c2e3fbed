/-
  The reference: who is slashed.
  The reference's Done, Leave and Slash.
  The program's ifRight, slashAll, Leave and Slash.
  A deposit and an exit, as plain numbers.
  A sync committee's signature, as plain numbers: who has signed, shares, what is paid.
  What the program's ownerOf, topUp, newcomer and depositQuestion answer.
  What SignQuestions answers, by what the program's functions answer.
  The program's checks and question of an exit.
  SlashQueue.
-/
import Derived.Test.YtficlakgameglaaDoorQN
import Derived.Test.YtficlakgameglaaDoorQJ
import Derived.Test.YtficlakgameglaaDoorQL
import Derived.Test.YtficlakgameglaaDoorStY
import Derived.Test.YtficlakgameglaaDoorQM
import Derived.Test.YtficlakgameglaaDoorSlI
import Derived.Test.YtficlakgameglaaDoorQP
import Derived.Test.YtficlakgameglaaDoorPkS
import Derived.Test.YtficlakgameglaaDoorQK
import Derived.Test.YtficlakgameglaaDoorQA
import Derived.Test.YtficlakgameglaaDoorCoB
import Derived.Test.YtficlakgameglaaDoorQE
import Derived.Test.YtficlakgameglaaDoorQO
import Derived.Test.YtficlakgameglaaDoorQR
import Derived.Test.YtficlakgameglaaDoorSgP
import Derived.Test.YtficlakgameglaaDoorStD
import Derived.Test.YtficlakgameglaaDoorQC
import Derived.BigRegion

namespace Go.Proofs.YtficlakgameglaaDoor

open Go.RowKit

set_option linter.unusedVariables false

set_option linter.unusedSimpArgs false

set_option maxRecDepth 20000

theorem ixU_u (w : World) (b off len cap i : Nat) (h : i < len) : (ixU (.slice (some ⟨b, off, none⟩) len cap) (.int .u64 i)).run Tryd.prog w = .ok (.pointer (some ⟨b, off + i, none⟩)) w := by
  unfold ixU Instr.indexAt
  have h1 : (0 : Int) ≤ (i : Int) ∧ (i : Int) < (len : Int) := by omega
  simp only [asIntOf, Sem.run_bind, Sem.run_pure, Result.andThen_ok, run_underlying Tryd.underlying37, if_pos h1, size_u64, Addr.add_mid, Int.toNat_natCast, Nat.mul_one]

theorem ixN_u (w : World) (b len cap i : Nat) (h : i < len) : (ixU (.slice (some ⟨b, 0, none⟩) len cap) (.int .u64 i)).run Tryd.prog w = .ok (.pointer (some ⟨b, i, none⟩)) w := by
  have := ixU_u w b 0 len cap i h
  rw [Nat.zero_add] at this
  exact this

/-- Where a state's balances lie. -/
structure Bl12 (y g : Nat) (W : World) (X : VState) : Prop where
  c12 : W.cell? ⟨y, 722, none⟩ = some (.slice (some ⟨g, 0, none⟩) X.f12.n X.f12.c)
  row : ∃ C, W.heap[g]? = some (.cells C 22)
  at_ : ∀ k, k < X.f12.n → W.cell? ⟨g, k, none⟩ = some (.int .u64 (X.f12.z k))

theorem BK.bl12 {w V : World} {y g : Nat} {X : VState} (h : BK w y V X) (hg : X.f12.a = some ⟨g, 0, none⟩) : Bl12 y g V X := by
  have c := cS12 h.row
  rw [hg] at c
  have o := h.cpd.o12
  rw [hg] at o
  refine ⟨c, (own_row o).2, fun k hk => ?_⟩
  rcases h.inW.i12 with h0 | ⟨b, off, ea, _, hr⟩
  · omega
  · rw [hg] at ea
    cases ea
    have := hr k hk
    rw [Nat.zero_add] at this
    exact this

attribute [local go_sem ↓] lvState_eq svState_eq bdState_eq lvValidator_eq svValidator_eq ixValidator_eq ixU_eq

theorem BK.res {w V : World} {y : Nat} {Y : VState} (h : BK w y V Y) : Res w.heap.size V Y Y := ⟨.refl _, h.inW, h.cpd.nil, h.cpd.nw⟩

end Go.Proofs.YtficlakgameglaaDoor

namespace Go.Proofs.YtficlakgameglaaDoor

open Go.RowKit

set_option linter.unusedVariables false

set_option linter.unusedSimpArgs false

set_option maxRecDepth 20000

theorem BK.give {w V : World} {y b : Nat} {Y : VState} {C : Array Value} (h : BK w y V Y) (r : V.heap[b]? = some (.cells C 49)) (c : Array Value) : Res w.heap.size (V.setRow b c) Y Y := by
  have hk : Kept b V (V.setRow b c) := (Kept.refl b V).setRow c
  have cp : CpdF w.heap.size (V.setRow b c) Y := ⟨own_keptB h.cpd.o7 hk (own_ne h.cpd.o7 r (by decide)), own_keptB h.cpd.o9 hk (own_ne h.cpd.o9 r (by decide)), own_keptB h.cpd.o11 hk (own_ne h.cpd.o11 r (by decide)), own_keptB h.cpd.o12 hk (own_ne h.cpd.o12 r (by decide)), own_keptB h.cpd.o15 hk (own_ne h.cpd.o15 r (by decide)), own_keptB h.cpd.o16 hk (own_ne h.cpd.o16 r (by decide)), own_keptB h.cpd.o21 hk (own_ne h.cpd.o21 r (by decide)), h.cpd.d15, h.cpd.d12⟩
  exact ⟨.refl _, ⟨own_rtF cp.o7, own_els cp.o9 (fun i => by rw [celL_len]; rfl), own_els cp.o11 (fun i => by rw [celL_len]; rfl), own_nms cp.o12, own_byF cp.o15, own_byF cp.o16, own_nms cp.o21⟩, cp.nil, cp.nw⟩

attribute [local go_sem ↓] lvState_eq svState_eq bdState_eq

end Go.Proofs.YtficlakgameglaaDoor

namespace Go.Proofs.YtficlakgameglaaDoor

open Go.RowKit

set_option linter.unusedVariables false

set_option linter.unusedSimpArgs false

set_option maxRecDepth 20000

theorem lnsS_sim {X Y : VState} (h : SimF X Y) (hl : Lns X) : Lns Y := by unfold Lns at hl ⊢; rw [h.l11, h.l21, h.l12]; exact hl

attribute [local go_sem ↓] lvState_eq svState_eq bdState_eq ixU_eq

end Go.Proofs.YtficlakgameglaaDoor

namespace Go.Proofs.YtficlakgameglaaDoor

open Go.RowKit

set_option linter.unusedVariables false

set_option linter.unusedSimpArgs false

set_option maxRecDepth 20000

/-- Two keys compared. -/
def eqY (c d : Nat → Int) : Bool := (List.range 48).all fun j => c j == d j

theorem eq48g (w : World) (c d : Nat → Int) : (Op.equalIn 10000 44 (.agg (vs .u8 48 c)) (.agg (vs .u8 48 d))).run Tryd.prog w = .ok (eqY c d) w := by
  have hi : ∃ i, Tryd.prog.info? 5 = some i := Option.isSome_iff_exists.1 (by kernel_rfl)
  obtain ⟨i, hi⟩ := hi
  have hc : Tryd.prog.cellsOf 5 = 1 := by kernel_rfl
  rw [run_equalIn_array w 9999 _ _ Tryd.underlying44 hi, hc]
  exact run_eqItems_ints (P := Tryd.prog) 9998 5 .u8 .u8 Tryd.underlying5 agg_u8 (vs .u8 48 c) (vs .u8 48 d) c d w (List.range 48) (by
    intro j hj
    have hj := List.mem_range.1 hj
    exact ⟨vs_get _ _ _ _ hj, vs_get _ _ _ _ hj⟩)

/-- Who has a key first; so many, if none has it. -/
def owN (z : Nat → VValidator) (k : Nat → Int) : Nat → Nat
  | 0 => 0
  | n + 1 => if owN z k n < n then owN z k n else if eqY (z n).f0 k = true then n else n + 1

theorem owN_none (z : Nat → VValidator) (k : Nat → Int) : ∀ n, (∀ j, j < n → eqY (z j).f0 k = false) → owN z k n = n
  | 0, _ => rfl
  | n + 1, h => by
    show (if owN z k n < n then owN z k n else if eqY (z n).f0 k = true then n else n + 1) = _
    rw [owN_none z k n fun j hj => h j (by omega), if_neg (Nat.lt_irrefl n), h n (by omega)]
    rfl

theorem owN_at (z : Nat → VValidator) (k : Nat → Int) (i : Nat) (h : ∀ j, j < i → eqY (z j).f0 k = false) (h1 : eqY (z i).f0 k = true) : ∀ n, i < n → owN z k n = i
  | 0, h0 => absurd h0 (Nat.not_lt_zero _)
  | n + 1, h0 => by
    show (if owN z k n < n then owN z k n else if eqY (z n).f0 k = true then n else n + 1) = _
    by_cases hn : i < n
    · rw [owN_at z k i h h1 n hn, if_pos hn]
    · obtain rfl : i = n := by omega
      rw [owN_none z k i h, if_neg (Nat.lt_irrefl i), if_pos h1]

theorem bal_sim {x X : VState} (h : SimF x X) (i : Nat) (n : Int) : SimF (balS x i n) (balS X i n) :=
  ⟨h.e0, h.e1, h.e2, h.e3, h.e4, h.e5, h.e6, h.l7, h.z7, h.e8, h.l9, h.z9, h.e10, h.l11, h.z11, h.l12, by show (fun j => if j = i then n else X.f12.z j) = fun j => if j = i then n else x.f12.z j; rw [h.z12], h.e13, h.e14, h.l15, h.z15, h.l16, h.z16, h.e17, h.e18, h.e19, h.e20, h.l21, h.z21, h.e22, h.e23⟩

theorem ok_blJ {x : VState} (h : OkState x) (i : Nat) {n : Int} (hn : 0 ≤ n ∧ n < 18446744073709551616) : OkState (balS x i n) := ⟨h.o0, h.o1, h.o2, h.o3, h.o4, h.o5, h.o6, h.o7, h.o8, h.o9, h.o10, h.o11, fun j hj => by
  show 0 ≤ (if j = i then n else x.f12.z j) ∧ (if j = i then n else x.f12.z j) < _
  split
  · exact hn
  · exact h.o12 j hj, h.o13, h.o14, h.o15, h.o16, h.o18, h.o19, h.o20, h.o21, h.o22, h.o23⟩

end Go.Proofs.YtficlakgameglaaDoor

namespace Go.Proofs.YtficlakgameglaaDoor

open Go.RowKit

set_option linter.unusedVariables false

set_option linter.unusedSimpArgs false

set_option maxRecDepth 20000

/-- A member's key; who has it. -/
def skK (x : VState) (i j : Nat) : Int := x.f22.f0.f0 (48 * i + j)

def skO (x : VState) (i : Nat) : Nat := owN x.f11.z (skK x i) x.f11.n

def skA (x : VState) : Nat → Bool
  | 0 => true
  | k + 1 => skA x k && decide (skO x k < x.f11.n)

theorem skA_no (x : VState) (i : Nat) (h : ¬ skO x i < x.f11.n) : ∀ k, i < k → skA x k = false
  | 0, h0 => absurd h0 (Nat.not_lt_zero _)
  | k + 1, h0 => by
    show (skA x k && decide (skO x k < x.f11.n)) = false
    by_cases hk : i < k
    · rw [skA_no x i h k hk]
      rfl
    · obtain rfl : i = k := by omega
      rw [decide_eq_false h, Bool.and_false]

/-- Of the first k members so many have signed; their keys. -/
def skN (b : Nat → Bool) : Nat → Nat
  | 0 => 0
  | k + 1 => if b k = true then skN b k + 1 else skN b k

def skF (x : VState) (b : Nat → Bool) : Nat → Nat → Int
  | 0, _ => 0
  | k + 1, j => if b k = true then (if j < 48 * skN b k then skF x b k j else skK x k (j - 48 * skN b k)) else skF x b k j

theorem skN_le (b : Nat → Bool) : ∀ k, skN b k ≤ k
  | 0 => Nat.le_refl _
  | k + 1 => by
    have := skN_le b k
    show (if b k = true then skN b k + 1 else skN b k) ≤ k + 1
    split <;> omega

theorem skN_yes {b : Nat → Bool} {k : Nat} (h : b k = true) : skN b (k + 1) = skN b k + 1 := if_pos h

theorem skN_no {b : Nat → Bool} {k : Nat} (h : b k = false) : skN b (k + 1) = skN b k := if_neg (by rw [h]; decide)

theorem skF_yes {b : Nat → Bool} {k : Nat} (x : VState) (h : b k = true) (j : Nat) : skF x b (k + 1) j = if j < 48 * skN b k then skF x b k j else skK x k (j - 48 * skN b k) := if_pos h

theorem skF_no {b : Nat → Bool} {k : Nat} (x : VState) (h : b k = false) (j : Nat) : skF x b (k + 1) j = skF x b k j := if_neg (by rw [h]; decide)

theorem skK_bd {x : VState} (h : OkState x) {i : Nat} (hi : i < 8) (j : Nat) (hj : j < 48) : 0 ≤ skK x i j ∧ skK x i j < 256 := h.o22.1 _ (by omega)

theorem skF_bd {x : VState} (h : OkState x) (b : Nat → Bool) : ∀ k, k ≤ 8 → ∀ j, j < 48 * skN b k → 0 ≤ skF x b k j ∧ skF x b k j < 256
  | 0, _, j, hj => absurd hj (by show ¬ j < 48 * 0; omega)
  | k + 1, hk, j, hj => by
    have ih := skF_bd h b k (by omega)
    cases hb : b k
    · rw [skF_no x hb]
      rw [skN_no hb] at hj
      exact ih j hj
    · rw [skF_yes x hb]
      rw [skN_yes hb] at hj
      split
      · exact ih j ‹_›
      · exact skK_bd h (by omega) _ (by omega)

theorem skN_all {b : Nat → Bool} (h : ∀ j, j < 8 → b j = true) : skN b 8 = 8 := by
  simp only [skN, h 0 (by omega), h 1 (by omega), h 2 (by omega), h 3 (by omega), h 4 (by omega), h 5 (by omega), h 6 (by omega), h 7 (by omega), if_true]

theorem skN_pos {b : Nat → Bool} {i : Nat} (h : b i = true) : ∀ k, i < k → 0 < skN b k
  | 0, h0 => absurd h0 (Nat.not_lt_zero _)
  | k + 1, h0 => by
    show 0 < (if b k = true then skN b k + 1 else skN b k)
    by_cases hk : i < k
    · have := skN_pos h k hk
      split <;> omega
    · obtain rfl : i = k := by omega
      rw [if_pos h]
      omega

theorem skN_zero {b : Nat → Bool} : ∀ k, skN b k = 0 → ∀ j, j < k → b j = false
  | 0, _, j, hj => absurd hj (Nat.not_lt_zero _)
  | k + 1, h0, j, hj => by
    cases hb : b j
    · rfl
    · have := skN_pos hb (k + 1) hj
      omega

/-- A share, and the proposer's: r is the root of All. -/
def shM (x : VState) (r : Int) : Int := allS x / 1000000000 * (64000000000 / r) * 2 / 64 / 4 / 8

def shQ (x : VState) (r : Int) : Int := shM x r * 8 / 56

theorem sh_base {R r : Int} (h0 : 1000000000 ≤ R) (h1 : R ≤ 2097152000000000) (hr : 31622 ≤ r) : 0 ≤ R / 1000000000 * (64000000000 / r) ∧ R / 1000000000 * (64000000000 / r) ≤ 4244635648000 := by
  have a0 : 0 ≤ R / 1000000000 := by omega
  have a1 : R / 1000000000 ≤ 2097152 := by omega
  have b0 : 0 ≤ 64000000000 / r := Int.ediv_nonneg (by omega) (by omega)
  have b1 : 64000000000 / r ≤ 2024000 := by
    have hd := Int.mul_ediv_add_emod 64000000000 r
    have hm := Int.emod_nonneg 64000000000 (show r ≠ 0 by omega)
    by_cases hq : 64000000000 / r ≤ 2024000
    · exact hq
    · have : 31622 * 2024001 ≤ r * (64000000000 / r) := Int.mul_le_mul hr (by omega) (by omega) (by omega)
      omega
  have hm : R / 1000000000 * (64000000000 / r) ≤ 2097152 * 2024000 := Int.mul_le_mul a1 b1 b0 (by omega)
  exact ⟨Int.mul_nonneg a0 b0, by omega⟩

theorem sh_bd {x : VState} {r : Int} (hR : Rg x) (hr : IsRut (allS x) r) : (0 ≤ shM x r ∧ shM x r ≤ 4145152000) ∧ 0 ≤ shQ x r ∧ shQ x r ≤ 592164571 := by
  have ha := allS_bd x hR.nb hR.ef
  have hb := sh_base ha.1 ha.2 (root_pos hr ha.1)
  have e : shQ x r = shM x r * 8 / 56 := rfl
  have e1 : shM x r = allS x / 1000000000 * (64000000000 / r) * 2 / 64 / 4 / 8 := rfl
  generalize allS x / 1000000000 * (64000000000 / r) = B at *
  omega

theorem sh_seven (m : Int) : m * 8 / 56 = m / 7 := by omega

/-- What is paid to the first k members. -/
def pyS (x : VState) (m q : Int) (p : Nat) (b : Nat → Bool) : Nat → VState
  | 0 => x
  | k + 1 =>
    if b k = true then balS (balS (pyS x m q p b k) (skO x k) (w64 ((pyS x m q p b k).f12.z (skO x k) + m))) p (w64 ((balS (pyS x m q p b k) (skO x k) (w64 ((pyS x m q p b k).f12.z (skO x k) + m))).f12.z p + q))
    else balS (pyS x m q p b k) (skO x k) (lesV ((pyS x m q p b k).f12.z (skO x k)) m)

theorem py_yes {b : Nat → Bool} {k : Nat} (x : VState) (m q : Int) (p : Nat) (h : b k = true) : pyS x m q p b (k + 1) = balS (balS (pyS x m q p b k) (skO x k) (w64 ((pyS x m q p b k).f12.z (skO x k) + m))) p (w64 ((balS (pyS x m q p b k) (skO x k) (w64 ((pyS x m q p b k).f12.z (skO x k) + m))).f12.z p + q)) := if_pos h

theorem py_no {b : Nat → Bool} {k : Nat} (x : VState) (m q : Int) (p : Nat) (h : b k = false) : pyS x m q p b (k + 1) = balS (pyS x m q p b k) (skO x k) (lesV ((pyS x m q p b k).f12.z (skO x k)) m) := if_neg (by rw [h]; decide)

theorem py_f (x : VState) (m q : Int) (p : Nat) (b : Nat → Bool) : ∀ k, (pyS x m q p b k).f11 = x.f11 ∧ (pyS x m q p b k).f22 = x.f22 ∧ (pyS x m q p b k).f2 = x.f2 ∧ (pyS x m q p b k).f12.n = x.f12.n ∧ (pyS x m q p b k).f12.a = x.f12.a ∧ (pyS x m q p b k).f12.c = x.f12.c ∧ (pyS x m q p b k).f21 = x.f21
  | 0 => ⟨rfl, rfl, rfl, rfl, rfl, rfl, rfl⟩
  | k + 1 => by
    cases hb : b k
    · rw [py_no x m q p hb]
      exact py_f x m q p b k
    · rw [py_yes x m q p hb]
      exact py_f x m q p b k

theorem py_ok {x : VState} (h : OkState x) (hl : x.f12.n = x.f11.n) {m q : Int} (hm : 0 ≤ m) (p : Nat) (b : Nat → Bool) : ∀ k, skA x k = true → OkState (pyS x m q p b k)
  | 0, _ => h
  | k + 1, ha => by
    have ha' : (skA x k && decide (skO x k < x.f11.n)) = true := ha
    simp only [Bool.and_eq_true, decide_eq_true_eq] at ha'
    have ih := py_ok h hl (q := q) hm p b k ha'.1
    cases hb : b k
    · rw [py_no x m q p hb]
      have hz := ih.o12 (skO x k) (by rw [(py_f x m q p b k).2.2.2.1, hl]; exact ha'.2)
      exact ok_blJ ih _ (les_bd hz.1 hz.2 hm)
    · rw [py_yes x m q p hb]
      exact ok_blJ (ok_blJ ih _ (w64_bd _)) _ (w64_bd _)

theorem skK_sim {x X : VState} (h : SimF x X) (i : Nat) : skK X i = skK x i := funext fun j => by unfold skK; rw [h.e22]

theorem skO_sim {x X : VState} (h : SimF x X) (i : Nat) : skO X i = skO x i := by unfold skO; rw [h.l11, h.z11, skK_sim h]

theorem skA_sim {x X : VState} (h : SimF x X) : ∀ k, skA X k = skA x k
  | 0 => rfl
  | k + 1 => by
    show (skA X k && decide (skO X k < X.f11.n)) = (skA x k && decide (skO x k < x.f11.n))
    rw [skA_sim h k, skO_sim h, h.l11]

theorem py_sim {x X : VState} (h : SimF x X) (m q : Int) (p : Nat) (b : Nat → Bool) : ∀ k, SimF (pyS x m q p b k) (pyS X m q p b k)
  | 0 => h
  | k + 1 => by
    have ih := py_sim h m q p b k
    cases hb : b k
    · rw [py_no x m q p hb, py_no X m q p hb, skO_sim h, ih.z12]
      exact bal_sim ih _ _
    · have h1 := bal_sim ih (skO x k) (w64 ((pyS x m q p b k).f12.z (skO x k) + m))
      rw [py_yes x m q p hb, py_yes X m q p hb, skO_sim h, ih.z12, h1.z12]
      exact bal_sim h1 _ _

/-- Nobody has signed, and the signature says just that. -/
def emG (j : Nat) : Int := if j = 0 then 192 else 0

def eqS (c d : Nat → Int) : Bool := (List.range 96).all fun j => c j == d j

def cyB (a : VSyncAggregate) : Bool := decide (skN a.f0 8 = 0) && eqS a.f1 emG

/-- The question; so many are asked; the error; the state. -/
def cyQ (x : VState) (a : VSyncAggregate) : Nat → Int := qsV (skF x a.f0 8) (skN a.f0 8) (tw (rtV x (x.f2 - 1)) (domV x 7 ((x.f2 - 1) / 4))) a.f1

def cyK (x : VState) (a : VSyncAggregate) : Nat := if rightB x = true then (if x.f2 = 0 then 0 else if cyB a = true then 0 else 1) else 0

def pdE (x : VState) (r : Int) (b : Nat → Bool) : Int := if prE x = 0 then (if skA x 8 = true then (if rightB (pyS x (shM x r) (shQ x r) (prV x).toNat b 8) = true then 0 else 2) else 27) else prE x

def pdS (x : VState) (r : Int) (b : Nat → Bool) : VState := if pdE x r b = 0 then pyS x (shM x r) (shQ x r) (prV x).toNat b 8 else oState

def cyE (x : VState) (a : VSyncAggregate) (r : Int) (f : Nat → Int) (n : Nat) : Int := if rightB x = true then (if x.f2 = 0 then 20 else if cyB a = true then pdE x r a.f0 else if gdB (cyQ x a) f n = true then pdE x r a.f0 else 25) else 1

def cyS (x : VState) (a : VSyncAggregate) (r : Int) (f : Nat → Int) (n : Nat) : VState := if cyE x a r f n = 0 then pdS x r a.f0 else oState

/-- What both sides answer, in memory. -/
def CyA (x : VState) (a : VSyncAggregate) (r : Int) (f : Nat → Int) (n : Nat) (w : World) (e' : Ending) (w' : World) : Prop :=
  ∃ X ao c, e' = .returned (.tuple #[.agg (cel (sState X)), .slice ao (cyK x a) c, .int .i64 (cyE x a r f n)]) ∧ Res w.heap.size w' (cyS x a r f n) X ∧ Rts w' ao (cyK x a) c (cyQ x a) ∧ NwL w.heap.size ao (cyK x a) ∧ Below w.heap.size w w'

def PdA (x : VState) (r : Int) (b : Nat → Bool) (w : World) (e' : Ending) (w' : World) : Prop :=
  ∃ X, e' = .returned (.tuple #[.agg (cel (sState X)), .int .i64 (pdE x r b)]) ∧ Res w.heap.size w' (pdS x r b) X ∧ Below w.heap.size w w'

end Go.Proofs.YtficlakgameglaaDoor

namespace Go.Proofs.YtficlakgameglaaDoor

open Go.RowKit

set_option linter.unusedVariables false

set_option linter.unusedSimpArgs false

set_option maxRecDepth 20000

theorem yields_eqY {ops : Array Oper} {S : World → Prop} {op : Oper} {a : Act} (hw : Region.wanted op (yielded ops a.tmps) = true) (x y : Operand) (rt : TypeId) (ho : op.op = .binOp .eql 44 x y rt) (c d : Nat → Int)
    (hx : a.eval x = .agg (vs .u8 48 c)) (hy : a.eval y = .agg (vs .u8 48 d)) : YieldsIf Tryd.prog ops S op (.bool (eqY c d)) a :=
  .inl ⟨hw, fun w _ => by
    have h : (Op.equalIn Op.maxDepth 44 (.agg (vs .u8 48 c)) (.agg (vs .u8 48 d))).run Tryd.prog w = .ok (eqY c d) w := eq48g w c d
    unfold execOp
    simp [ho, hx, hy, eqGuard, binOp, Op.equal, h]⟩

theorem ixN_i (w : World) (b len cap i : Nat) (h : i < len) : (ixU (.slice (some ⟨b, 0, none⟩) len cap) (.int .i64 i)).run Tryd.prog w = .ok (.pointer (some ⟨b, i, none⟩)) w := by
  have := ixU_run w b 0 len cap i h
  rw [Nat.zero_add] at this
  exact this

def bdVa (ps : Array (Nat × Value)) : Sem Value := Instr.build 82 ps

theorem bdVa_eq (ps : Array (Nat × Value)) : Instr.build 82 ps = bdVa ps := rfl

attribute [local go_sem ↓] lvState_eq lvKy_eq ixValidator_eq

attribute [local go_sem ↓] ixU_eq

attribute [local go_sem ↓] lv24_eq sv24_eq lvSg_eq bsK_eq svValidator_eq bdVa_eq

end Go.Proofs.YtficlakgameglaaDoor

namespace Go.Proofs.YtficlakgameglaaDoor

open Go.RowKit

set_option linter.unusedVariables false

set_option linter.unusedSimpArgs false

set_option maxRecDepth 20000

theorem own_gen {w w' : World} {B k : Nat} {t : TypeId} {v : Value} {n : Nat} {xs : List Value} (h : w.ownsRow B t k v n xs) (hb : Below w.heap.size w w') : w'.ownsRow B t k v n xs := by
  refine ⟨h.1, ?_⟩
  rcases h.2 with h | ⟨g, cap, cur, e1, e2, e3, e4⟩
  · exact .inl h
  · exact .inr ⟨g, cap, cur, e1, e2, (hb.block g (some_ltK e3)).trans e3, e4⟩

attribute [local go_sem ↓] ixKy_eq lvKy_eq svKy_eq sv24_eq lv24_eq lvSg_eq bs22_eq

end Go.Proofs.YtficlakgameglaaDoor

namespace Go.Proofs.YtficlakgameglaaDoor

open Go.RowKit

set_option linter.unusedVariables false

set_option linter.unusedSimpArgs false

set_option maxRecDepth 20000

theorem Res.row {B b : Nat} {w : World} {Y X : VState} (h : Res B w Y X) (hb : b < B) (c : Array Value) : Res B (w.setRow b c) Y X := ⟨h.sim, h.inw.kept (h.new.aw hb) ((Kept.refl _ _).setRow _), h.nil, h.new⟩

attribute [local go_sem ↓] lvState_eq lv24_eq sv24_eq lvSg_eq lvKy_eq bsK_eq ixValidator_eq lvValidator_eq

attribute [local go_sem ↓] svState_eq svValidator_eq bdState_eq bs22_eq

end Go.Proofs.YtficlakgameglaaDoor

namespace Go.Proofs.YtficlakgameglaaDoor

open Go.RowKit

set_option linter.unusedVariables false

set_option linter.unusedSimpArgs false

set_option maxRecDepth 20000

/-- As many of all. -/
structure AsM (n : Nat) (x : VState) : Prop where
  m11 : x.f11.n = n
  m12 : x.f12.n = n
  m15 : x.f15.n = n
  m16 : x.f16.n = n
  m21 : x.f21.n = n

theorem RtO.asM {x : VState} (h : RtO x) : AsM x.f11.n x := ⟨rfl, h.c1, h.c2, h.c3, h.c4⟩

theorem AsM.sim {n : Nat} {x X : VState} (h : AsM n x) (s : SimF x X) : AsM n X := ⟨s.l11.trans h.m11, s.l12.trans h.m12, s.l15.trans h.m15, s.l16.trans h.m16, s.l21.trans h.m21⟩

attribute [local go_sem ↓] lvState_eq svState_eq ixValidator_eq

set_option maxHeartbeats 4000000 in
theorem rlike_any (a b : VState) (n : Nat) (w : World) (ha : AsM n a) (hb : AsM n b) :
    Calls Tryd.prog 9 #[.agg (cel (sState a)), .agg (cel (sState b))] w fun e' w' => e' = .returned (.bool true) ∧ Below w.heap.size w w' := by
  obtain ⟨W0, hW0⟩ : ∃ W, (w.alloc (.cells (cel (sState a)) 49)).alloc (.cells (cel (sState b)) 49) = W := ⟨_, rfl⟩
  have r0 : W0.heap[w.heap.size]? = some (.cells (cel (sState a)) 49) := by rw [← hW0]; exact (heap_old (by simp)).trans (heap_new rfl)
  have r1 : W0.heap[w.heap.size + 1]? = some (.cells (cel (sState b)) 49) := by rw [← hW0]; exact heap_new (by simp)
  have hB0 : Up w W0 := by rw [← hW0]; exact ((Below.refl _ _).alloc (Nat.le_refl _) _).alloc (by simp) _
  have c11 := cS11 r0
  rw [ha.m11] at c11
  have d11 := cS11 r1
  rw [hb.m11] at d11
  have c12 := cS12 r0
  rw [ha.m12] at c12
  have d12 := cS12 r1
  rw [hb.m12] at d12
  have c15 := cS15 r0
  rw [ha.m15] at c15
  have d15 := cS15 r1
  rw [hb.m15] at d15
  have c16 := cS16 r0
  rw [ha.m16] at c16
  have d16 := cS16 r1
  rw [hb.m16] at d16
  have c21 := cS21 r0
  rw [ha.m21] at c21
  have d21 := cS21 r1
  rw [hb.m21] at d21
  have HB := hid hB0
  have HW := hid hW0
  clear hB0 hW0 r0 r1
  generalize a.f11.a = A11 at c11
  generalize a.f11.c = C11 at c11
  generalize b.f11.a = B11 at d11
  generalize b.f11.c = D11 at d11
  generalize a.f12.a = A12 at c12
  generalize a.f12.c = C12 at c12
  generalize b.f12.a = B12 at d12
  generalize b.f12.c = D12 at d12
  generalize a.f15.a = A15 at c15
  generalize a.f15.c = C15 at c15
  generalize b.f15.a = B15 at d15
  generalize b.f15.c = D15 at d15
  generalize a.f16.a = A16 at c16
  generalize a.f16.c = C16 at c16
  generalize b.f16.a = B16 at d16
  generalize b.f16.c = D16 at d16
  generalize a.f21.a = A21 at c21
  generalize a.f21.c = C21 at c21
  generalize b.f21.a = B21 at d21
  generalize b.f21.c = D21 at d21
  go_enter Tryd.func9, Tryd.ntmps9
  go_upto_region 1 with fail
  rw [HW.out]
  clear HW
  go_wp2
  go_ret
  exact ⟨rfl, HB.out⟩

end Go.Proofs.YtficlakgameglaaDoor
