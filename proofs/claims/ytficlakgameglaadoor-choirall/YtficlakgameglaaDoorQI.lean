/-
  What Place and Back answer.
  Committees as plain numbers: how many, where they are cut, who stands in them.
  What List answers.
  Numbers appended; List whole; the document's List and Same.
  What the reference's Count and Of answer.
  Drawing by lot, as plain numbers.
-/
import Derived.Test.YtficlakgameglaaDoorVfC
import Derived.Test.YtficlakgameglaaDoorQG
import Derived.Test.YtficlakgameglaaDoorQL
namespace Go.Proofs.YtficlakgameglaaDoor

open Go.RowKit

set_option linter.unusedVariables false

set_option linter.unusedSimpArgs false

/-- A place behind the first k rounds, and behind k rounds the other way round. -/
def plV (s : Nat → Int) (n : Int) : Nat → Int → Int
  | 0, i => i
  | k + 1, i => rdV s (k : Int) n (plV s n k i)

theorem plV_bd (s : Nat → Int) {n i : Int} (h0 : 0 ≤ i) (h1 : i < n) (k : Nat) : 0 ≤ plV s n k i ∧ plV s n k i < n := by
  induction k with
  | zero => exact ⟨h0, h1⟩
  | succ k ih => exact rdV_bd s _ ih.1 ih.2

theorem isP_true {i n : Int} (h1 : i < n) (hn : n ≤ 4294967296) : isP i n = true := by unfold isP; simp [h1, hn]

attribute [local go_sem ↓] sv24_eq lv24_eq sv8_eq

set_option maxRecDepth 20000 in
set_option maxHeartbeats 1000000 in
theorem place_ok (s : Nat → Int) (i n : Int) (w : World) (hs : ∀ j, j < 32 → 0 ≤ s j ∧ s j < 256) (h0 : 0 ≤ i) (h1 : i < n) (hn : n ≤ 4294967296) (hS : Sh w) :
    Calls Tryd.prog 93 #[.int .u64 i, .int .u64 n, .agg (vs .u8 32 s)] w fun e w' => e = .returned (.tuple #[.int .u64 (plV s n 6 i), .int .i64 0]) ∧ Below w.heap.size w w' := by
  obtain ⟨W0, hW0⟩ : ∃ W, w.alloc (.cells (vs .u8 32 s) 24) = W := ⟨_, rfl⟩
  have r0 : W0.heap[w.heap.size]? = some (.cells (vs .u8 32 s) 24) := by rw [← hW0]; exact heap_new rfl
  have hB0 : Below w.heap.size w W0 := by rw [← hW0]; exact (Below.refl _ _).alloc (Nat.le_refl _) _
  have z0 : w.heap.size < W0.heap.size := (Array.getElem?_eq_some_iff.1 r0).1
  have hi := fun W : World => isplace_any i n W
  rw [isP_true h1 hn] at hi
  have hrd : ∀ (k : Nat) (x : Int) (W : World), k < 6 → 0 ≤ x → x < n → Below W0.heap.size W0 W → Calls Tryd.prog 97 #[.int .u64 x, .int .u64 n, .agg (vs .u8 32 s), .int .u8 (k : Int)] W fun e w' => e = .returned (.int .u64 (rdV s (k : Int) n x)) ∧ Below W.heap.size W w' :=
    fun k x W hk x0 x1 hW => round_any s k n x W hs (by omega) x0 x1 hn ((hS.below hB0).below hW)
  have hl : ∀ W : World, Below W0.heap.size W0 W → (lv24 ⟨w.heap.size, 0, none⟩).run Tryd.prog W = .ok (.agg (vs .u8 32 s)) W := fun W h => lv24_run ((h.block _ z0).trans r0)
  have hpl := fun k => plV_bd s h0 h1 k
  have HI := hid hi
  have HRD := hid hrd
  have HL := hid hl
  have HPL := hid hpl
  have HB0 := hid hB0
  have HW0 := hid hW0
  clear hi hrd hl hpl hB0 hW0 r0 hs hS
  go_enter Tryd.func93, Tryd.ntmps93
  go_upto_region 1 with fail
  rw [HW0.out]
  clear HW0
  go_wp2_with (go_at_call 96; refine (HI.out _).mono ?_; rintro e w' ⟨rfl, hw'⟩; obtain rfl := hw'.symm)
  go_loopw [13, 0] (fun c x wr => ∃ k : Nat, k ≤ 6 ∧ c = .int .i64 k ∧ x = .int .u64 (plV s n k i) ∧ Below W0.heap.size W0 wr) (fun c _ _ => 6 - (intOf c).toNat)
  case atStart => exact ⟨0, by omega, rfl, rfl, Below.refl _ _⟩
  case round =>
    obtain ⟨k, hk, rfl, rfl, hw⟩ := hrel
    obtain ⟨b0, b1⟩ := HPL.out k
    have er : plV s n (k + 1) i = rdV s (k : Int) n (plV s n k i) := rfl
    obtain ⟨X, hX⟩ : ∃ X, plV s n k i = X := ⟨_, rfl⟩
    by_cases hk6 : k < 6
    · rw [hX] at b0 b1 er ⊢
      have hc := HRD.out k X wr hk6 b0 b1 hw
      have l0 := HL.out wr hw
      have k1 : (k : Int) < 6 := by omega
      have k2 : (0 : Int) ≤ (k : Int) := by omega
      have kw : IntKind.u8.wrap (k : Int) = (k : Int) := by rw [IntKind.wrap_u8]; omega
      have HC := hid hc
      have HW := hid hw
      have ER := hid er
      clear hc hw er hX
      go_wp2_with (go_at_call 97; refine HC.out.mono ?_; rintro e w1 ⟨rfl, hb1⟩)
      have hz := HW.out.size
      go_roundw
      case rel => exact ⟨k + 1, by omega, by go_num, by rw [ER.out], HW.out.trans (hb1.mono hz)⟩
      case measure => simp [intOf]; omega
    · obtain rfl : k = 6 := by omega
      have HW := hid hw
      clear hw er hX
      go_wp2
      go_ret2
      exact ⟨rfl, HB0.out.trans (HW.out.mono (by omega))⟩

end Go.Proofs.YtficlakgameglaaDoor

namespace Go.Proofs.YtficlakgameglaaDoor

open Go.RowKit

set_option linter.unusedVariables false

set_option linter.unusedSimpArgs false

/-- Who is active: rising, each once. -/
theorem acL_mem (z : Nat → VValidator) (e : Int) (k : Nat) (v : Int) : v ∈ acL z e k ↔ 0 ≤ v ∧ v < (k : Int) ∧ actB (z v.toNat) e = true := by
  induction k with
  | zero => exact ⟨fun h => (List.not_mem_nil h).elim, fun h => by omega⟩
  | succ k ih =>
    unfold acL
    cases hb : actB (z k) e
    · rw [if_neg (by simp), ih]
      constructor
      · rintro ⟨h0, h1, h2⟩; exact ⟨h0, by omega, h2⟩
      · rintro ⟨h0, h1, h2⟩
        refine ⟨h0, ?_, h2⟩
        by_cases hv : v = (k : Int)
        · subst hv
          rw [Int.toNat_natCast, hb] at h2
          cases h2
        · omega
    · rw [if_pos rfl, List.mem_append, ih, List.mem_singleton]
      constructor
      · rintro (⟨h0, h1, h2⟩ | rfl)
        · exact ⟨h0, by omega, h2⟩
        · exact ⟨by omega, by omega, by rw [Int.toNat_natCast]; exact hb⟩
      · rintro ⟨h0, h1, h2⟩
        by_cases hv : v = (k : Int)
        · exact .inr hv
        · exact .inl ⟨h0, by omega, h2⟩

/-- How many committees a slot has. -/
def cnt (n : Nat) : Nat := if n / 8 < 1 then 1 else if 2 < n / 8 then 2 else n / 8

/-- Where a piece begins. -/
def cut (n k : Nat) : Nat := n * k / (4 * cnt n)

/-- Who stands at a place of the shuffled list. -/
def mbr (L : List Int) (s : Nat → Int) (j : Nat) : Int := L.getD (plV s L.length 6 j).toNat 0

theorem getD_mem (L : List Int) (i : Nat) (h : i < L.length) : L.getD i 0 ∈ L := by
  rw [List.getD_eq_getElem?_getD, List.getElem?_eq_getElem h]
  exact List.getElem_mem h

theorem mbr_mem (L : List Int) (s : Nat → Int) {j : Nat} (h : j < L.length) : mbr L s j ∈ L := by
  have := plV_bd s (n := L.length) (i := j) (by omega) (by omega) 6
  exact getD_mem L _ (by omega)

end Go.Proofs.YtficlakgameglaaDoor

namespace Go.Proofs.YtficlakgameglaaDoor

open Go.RowKit

set_option linter.unusedVariables false

set_option linter.unusedSimpArgs false

/-- The elements of a slice of numbers, whatever it is. -/
def N64 (w : World) (a : Option Addr) (n : Nat) (f : Nat → Int) : Prop :=
  n = 0 ∨ ∃ b off, a = some ⟨b, off, none⟩ ∧ b < w.heap.size ∧ ∀ j, j < n → w.cell? ⟨b, off + j, none⟩ = some (.int .u64 (f j))

theorem N64.below {w w' : World} {a : Option Addr} {n : Nat} {f : Nat → Int} (h : N64 w a n f) (hb : Below w.heap.size w w') : N64 w' a n f := by
  rcases h with h | ⟨b, off, h1, h2, h3⟩
  · exact .inl h
  · exact .inr ⟨b, off, h1, Nat.lt_of_lt_of_le h2 hb.size, fun j hj => (below_cell hb h2).trans (h3 j hj)⟩

attribute [local go_sem ↓] sv24_eq lv24_eq sv8_eq

end Go.Proofs.YtficlakgameglaaDoor

namespace Go.Proofs.YtficlakgameglaaDoor

open Go.RowKit

set_option linter.unusedVariables false

set_option linter.unusedSimpArgs false

theorem N64.congr {w : World} {a : Option Addr} {n : Nat} {f g : Nat → Int} (h : N64 w a n f) (hf : ∀ j, j < n → f j = g j) : N64 w a n g := by
  rcases h with h | ⟨b, off, h1, h2, h3⟩
  · exact .inl h
  · exact .inr ⟨b, off, h1, h2, fun j hj => by rw [h3 j hj, hf j hj]⟩

attribute [local go_sem ↓] sv24_eq lv24_eq sv8_eq bd27_eq

end Go.Proofs.YtficlakgameglaaDoor

namespace Go.Proofs.YtficlakgameglaaDoor

open Go.RowKit

set_option linter.unusedVariables false

set_option linter.unusedSimpArgs false

set_option maxRecDepth 20000

attribute [local go_sem ↓] lvState_eq svState_eq bdState_eq lvValidator_eq svValidator_eq ixValidator_eq sv24_eq lv24_eq

/-- The actives of an epoch. -/
def acE (x : VState) (e : Int) : List Int := acL x.f11.z e x.f11.n

theorem acE_len {x : VState} {e : Int} (h : x.f11.n ≤ 65536) : (acE x e).length ≤ 65536 := Nat.le_trans (acL_len _ _ _) h

theorem seedV_bd (x : VState) (e k : Int) (j : Nat) : 0 ≤ seedV x e k j ∧ seedV x e k j < 256 := shaV_bd ..

end Go.Proofs.YtficlakgameglaaDoor

namespace Go.Proofs.YtficlakgameglaaDoor

open Go.RowKit

set_option linter.unusedVariables false

set_option linter.unusedSimpArgs false

/-- The bytes that a lot is made of, the lot of a try, its candidate, whether it is taken, those that were taken so far. -/
def sd8 (s : Nat → Int) (q : Int) (j : Nat) : Int := if j < 32 then s j else nmB q (j - 32)

def lotV (s : Nat → Int) (i : Nat) : Int := shaV KW HW (sd8 s ((i / 32 : Nat) : Int)) 40 (i % 32)

def cdV (L : List Int) (s : Nat → Int) (i : Nat) : Int := mbr L s (i % L.length)

def tkB (z : Nat → VValidator) (L : List Int) (s : Nat → Int) (i : Nat) : Bool := decide (32000000000 * lotV s i ≤ (z (cdV L s i).toNat).f2 * 255)

def drL (z : Nat → VValidator) (L : List Int) (s : Nat → Int) : Nat → List Int
  | 0 => []
  | i + 1 => if tkB z L s i = true then drL z L s i ++ [cdV L s i] else drL z L s i

theorem sd8_bd {s : Nat → Int} (hs : ∀ j, j < 32 → 0 ≤ s j ∧ s j < 256) (q : Int) (j : Nat) : 0 ≤ sd8 s q j ∧ sd8 s q j < 256 := by
  unfold sd8
  split
  · exact hs j ‹_›
  · unfold nmB
    omega

theorem lotV_bd (s : Nat → Int) (i : Nat) : 0 ≤ lotV s i ∧ lotV s i < 256 := shaV_bd ..

theorem drL_len (z : Nat → VValidator) (L : List Int) (s : Nat → Int) (i : Nat) : (drL z L s i).length ≤ i := by
  induction i with
  | zero => exact Nat.le_refl _
  | succ i ih =>
    unfold drL
    split
    · rw [List.length_append]
      show _ + 1 ≤ _
      omega
    · omega

theorem drL_pre (z : Nat → VValidator) (L : List Int) (s : Nat → Int) (i k : Nat) : drL z L s i <+: drL z L s (i + k) := by
  induction k with
  | zero => exact List.prefix_refl _
  | succ k ih =>
    have e : drL z L s (i + (k + 1)) = if tkB z L s (i + k) = true then drL z L s (i + k) ++ [cdV L s (i + k)] else drL z L s (i + k) := rfl
    rw [e]
    split
    · exact ih.trans (List.prefix_append _ _)
    · exact ih

theorem drL_take (z : Nat → VValidator) (L : List Int) (s : Nat → Int) {i n : Nat} (h : i ≤ n) : (drL z L s n).take (drL z L s i).length = drL z L s i := by
  obtain ⟨k, rfl⟩ := Nat.exists_eq_add_of_le h
  exact (List.prefix_iff_eq_take.1 (drL_pre z L s i k)).symm

theorem drL_mem (z : Nat → VValidator) (L : List Int) (s : Nat → Int) (h : L ≠ []) (i : Nat) : ∀ v ∈ drL z L s i, v ∈ L := by
  have hL : 0 < L.length := List.length_pos_iff.2 h
  induction i with
  | zero => exact fun v hv => (List.not_mem_nil hv).elim
  | succ i ih =>
    intro v hv
    unfold drL at hv
    split at hv
    · rcases List.mem_append.1 hv with h1 | h1
      · exact ih v h1
      · rw [List.mem_singleton] at h1
        rw [h1]
        exact mbr_mem L s (Nat.mod_lt _ hL)
    · exact ih v hv

/-- What a draw answers. -/
def dwO (z : Nat → VValidator) (L : List Int) (s : Nat → Int) (want : Nat) : Bool := decide (L ≠ []) && decide (want ≤ (drL z L s 256).length)

def dwL (z : Nat → VValidator) (L : List Int) (s : Nat → Int) (want : Nat) : List Int := if dwO z L s want = true then (drL z L s 256).take want else []

def dwE (z : Nat → VValidator) (L : List Int) (s : Nat → Int) (want : Nat) : Int := if dwO z L s want = true then 0 else 7

theorem dw_hit {z : Nat → VValidator} {L : List Int} {s : Nat → Int} {want i : Nat} (hL : L ≠ []) (hi : i ≤ 256) (h : (drL z L s i).length = want) : dwL z L s want = drL z L s i ∧ dwE z L s want = 0 := by
  have hp := drL_take z L s hi
  have hl : want ≤ (drL z L s 256).length := by
    have := congrArg List.length hp
    rw [List.length_take] at this
    omega
  have ho : dwO z L s want = true := by unfold dwO; simp [hL, hl]
  unfold dwL dwE
  rw [if_pos ho, if_pos ho, ← h]
  exact ⟨hp, rfl⟩

theorem dw_none {z : Nat → VValidator} {L : List Int} {s : Nat → Int} {want : Nat} (h : L = [] ∨ (drL z L s 256).length < want) : dwL z L s want = [] ∧ dwE z L s want = 7 := by
  have ho : ¬ dwO z L s want = true := by
    unfold dwO
    rw [Bool.and_eq_true, decide_eq_true_eq, decide_eq_true_eq]
    rintro ⟨h1, h2⟩
    rcases h with h | h
    · exact h1 h
    · omega
  unfold dwL dwE
  rw [if_neg ho, if_neg ho]
  exact ⟨rfl, rfl⟩

end Go.Proofs.YtficlakgameglaaDoor
