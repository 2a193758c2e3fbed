/-
  Bits and bytes: what Vector, List, ReadVector and the reference answer (of the texts of layer 4, what others stand on).
-/

import Derived.Test.YtehpfemlcjcabaaZaB
import Derived.Test.YtehpfemlcjcabaaProg
namespace Go.Proofs.Ytehpfemlcjcabaa.Z

open Go.RowKit

set_option linter.unusedVariables false

set_option linter.unusedSimpArgs false

/-- The number whose lowest n bits are g's. -/
def bo (g : Nat → Bool) : Nat → Nat
  | 0 => 0
  | k + 1 => bo g k + (if g k = true then 2 ^ k else 0)

theorem bo_lt (g : Nat → Bool) (k : Nat) : bo g k < 2 ^ k := by
  induction k with
  | zero => simp [bo]
  | succ k ih =>
    unfold bo
    rw [Nat.pow_succ]
    split <;> omega

theorem bo_bit (g : Nat → Bool) (n k : Nat) : (bo g n).testBit k = (decide (k < n) && g k) := by
  induction n with
  | zero => simp [bo]
  | succ n ih =>
    have hl := bo_lt g n
    unfold bo
    by_cases hg : g n = true
    · rw [if_pos hg, Nat.add_comm]
      by_cases h : k < n
      · rw [Nat.testBit_two_pow_add_gt h, ih]
        simp [h, Nat.lt_succ_of_lt h]
      · by_cases e : k = n
        · subst e
          rw [Nat.testBit_two_pow_add_eq, Nat.testBit_lt_two_pow hl]
          simp [hg]
        · rw [Nat.testBit_lt_two_pow]
          · simp [show ¬ k < n + 1 by omega]
          · have : 2 ^ (n + 1) ≤ 2 ^ k := Nat.pow_le_pow_right (by omega) (by omega)
            rw [Nat.pow_succ] at this
            omega
    · rw [if_neg hg, Nat.add_zero, ih]
      by_cases e : k = n
      · subst e
        simp at hg
        simp [hg]
      · have : k < n + 1 ↔ k < n := by omega
        simp [this]

/-- The byte q of the bytes of the first n bits of f. -/
def byt (f : Nat → Bool) (n q : Nat) : Nat := bo (fun k => decide (8 * q + k < n) && f (8 * q + k)) 8

theorem byt_lt (f : Nat → Bool) (n q : Nat) : byt f n q < 256 := bo_lt _ 8

theorem byt_bit (f : Nat → Bool) (n q k : Nat) : (byt f n q).testBit k = (decide (k < 8) && (decide (8 * q + k < n) && f (8 * q + k))) := bo_bit _ 8 k

theorem byt_zero (f : Nat → Bool) (q : Nat) : byt f 0 q = 0 := by
  apply Nat.eq_of_testBit_eq
  intro k
  rw [byt_bit]
  simp

theorem byt_other (f : Nat → Bool) (n q : Nat) (h : q ≠ n / 8) : byt f (n + 1) q = byt f n q := by
  apply Nat.eq_of_testBit_eq
  intro k
  rw [byt_bit, byt_bit]
  by_cases hk : k < 8
  · have : 8 * q + k < n + 1 ↔ 8 * q + k < n := by omega
    simp [this]
  · simp [hk]

theorem byt_skip (f : Nat → Bool) (n q : Nat) (h : f n = false) : byt f (n + 1) q = byt f n q := by
  apply Nat.eq_of_testBit_eq
  intro k
  rw [byt_bit, byt_bit]
  by_cases e : 8 * q + k = n
  · rw [e, h]
    simp
  · have : 8 * q + k < n + 1 ↔ 8 * q + k < n := by omega
    simp [this]

theorem byt_or (f : Nat → Bool) (n : Nat) (h : f n = true) : byt f n (n / 8) ||| 2 ^ (n % 8) = byt f (n + 1) (n / 8) := by
  apply Nat.eq_of_testBit_eq
  intro k
  rw [Nat.testBit_or, byt_bit, byt_bit, Nat.testBit_two_pow]
  by_cases hk : k < 8
  · by_cases e : n % 8 = k
    · have e2 : 8 * (n / 8) + k = n := by omega
      rw [e2, h]
      simp [e, hk]
    · have : 8 * (n / 8) + k < n + 1 ↔ 8 * (n / 8) + k < n := by omega
      simp [this, e]
  · have : ¬ n % 8 = k := by omega
    simp [hk, this]

theorem byt_low (f : Nat → Bool) (n : Nat) : byt f n (n / 8) < 2 ^ (n % 8) := by
  apply Nat.lt_pow_two_of_testBit
  intro k hk
  rw [byt_bit]
  simp [show ¬ 8 * (n / 8) + k < n by omega]

theorem byt_add (f : Nat → Bool) (n : Nat) (h : f n = true) : byt f n (n / 8) + 2 ^ (n % 8) = byt f (n + 1) (n / 8) := by
  rw [← byt_or f n h, Nat.or_comm, Nat.add_comm]
  have := Nat.two_pow_add_eq_or_of_lt (byt_low f n) 1
  simpa using this

/-- The bit i of bytes. -/
def tb (m : Nat → Nat) (i : Nat) : Bool := (m (i / 8)).testBit (i % 8)

end Go.Proofs.Ytehpfemlcjcabaa.Z

namespace Go.Proofs.Ytehpfemlcjcabaa.Z

open Go.RowKit

set_option linter.unusedVariables false

set_option linter.unusedSimpArgs false

/-- The bits of a slice, whatever it is. -/
def Bls (w : World) (a : Option Addr) (len cap : Nat) (f : Nat → Bool) : Prop :=
  (a = none ∧ len = 0 ∧ cap = 0) ∨ (∃ x, a = some x ∧ len = 0) ∨ ∃ b off, a = some ⟨b, off, none⟩ ∧ len ≤ cap ∧ cap ≤ 9223372036854775807 ∧ b < w.heap.size ∧ ∀ j, j < len → w.cell? ⟨b, off + j, none⟩ = some (.bool (f j))

theorem Bls.below {w w' : World} {a : Option Addr} {len cap : Nat} {f : Nat → Bool} (h : Bls w a len cap f) (hb : Below w.heap.size w w') : Bls w' a len cap f := by
  rcases h with h | h | ⟨b, off, h1, h2, h3, h4, h5⟩
  · exact .inl h
  · exact .inr (.inl h)
  · exact .inr (.inr ⟨b, off, h1, h2, h3, Nat.lt_of_lt_of_le h4 hb.size, fun j hj => (below_cell hb h4).trans (h5 j hj)⟩)

theorem bls_at {w : World} {a : Option Addr} {len cap : Nat} {f : Nat → Bool} (h : Bls w a len cap f) (j : Nat) (hj : j < len) : ∃ b off, a = some ⟨b, off, none⟩ ∧ b < w.heap.size ∧ w.cell? ⟨b, off + j, none⟩ = some (.bool (f j)) := by
  rcases h with ⟨_, h, _⟩ | ⟨_, _, h⟩ | ⟨b, off, h1, h2, h3, h4, h5⟩
  · omega
  · omega
  · exact ⟨b, off, h1, h4, h5 j hj⟩

theorem vbytes_any (n : Nat) (w : World) (hn : n ≤ 9223372036854775807) :
    Calls Try.prog 64 #[.int .i64 n] w fun e w' => e = .returned (.int .i64 (((n + 7) / 8 : Nat) : Int)) ∧ w' = w := by
  have h0 : (0 : Int) ≤ (n : Int) := by omega
  by_cases h : (n : Int) % 8 = 0
  · have E : Hid (((n + 7) / 8 : Nat) = n / 8) := by show (n + 7) / 8 = n / 8; omega
    go_enter Try.func64, Try.ntmps64
    go_wp2
    go_ret
    exact ⟨by rw [E.out]; rfl, rfl⟩
  · have E : Hid (((n + 7) / 8 : Nat) = n / 8 + 1) := by show (n + 7) / 8 = n / 8 + 1; omega
    go_enter Try.func64, Try.ntmps64
    go_wp2
    go_ret
    exact ⟨by rw [E.out]; rfl, rfl⟩

end Go.Proofs.Ytehpfemlcjcabaa.Z

namespace Go.Proofs.Ytehpfemlcjcabaa.Z

open Go.RowKit

set_option linter.unusedVariables false

set_option linter.unusedSimpArgs false

theorem bls_len {w : World} {a : Option Addr} {len cap : Nat} {f : Nat → Bool} (h : Bls w a len cap f) : len ≤ 9223372036854775807 := by
  rcases h with ⟨_, h, _⟩ | ⟨_, _, h⟩ | ⟨b, off, h1, h2, h3, h4, h5⟩ <;> omega

theorem pow_lt8 {r : Nat} (h : r < 8) : 2 ^ r < 256 := Nat.pow_lt_pow_right (a := 2) (by omega) h

theorem pow_cast {r : Nat} (h : r < 8) : ((2 : Int) ^ r % 256) = ((2 ^ r : Nat) : Int) := by
  have := pow_lt8 h
  rw [show ((2 : Int) ^ r) = ((2 ^ r : Nat) : Int) by simp]
  exact Int.emod_eq_of_lt (Int.natCast_nonneg _) (Int.ofNat_lt.2 this)

theorem or_pow (B r : Nat) (hB : B < 256) (hr : r < 8) : bits .or .u8 (B : Int) ((2 : Int) ^ r % 256) = ((B ||| 2 ^ r : Nat) : Int) := by
  rw [pow_cast hr]
  exact u8_or_nat B _ hB (pow_lt8 hr)

set_option maxHeartbeats 400000 in
theorem set_any (f : Nat → Bool) (a : Option Addr) (n cap g N : Nat) (t : TypeId) (w : World) (h : Bls w a n cap f) (hg : w.heap[g]? = some (.cells (vs .u8 N (fun q => (byt f 0 q : Int))) t)) (hN : n ≤ 8 * N) (hlt : ∀ x, a = some x → x.block < g) :
    Calls Try.prog 65 #[.slice (some ⟨g, 0, none⟩) N N, .slice a n cap] w fun e w' => e = .returned (.tuple #[]) ∧ w'.heap[g]? = some (.cells (vs .u8 N (fun q => (byt f n q : Int))) t) ∧ Below g w w' ∧ w'.heap.size = w.heap.size := by
  have hn := bls_len h
  have H := hid h
  have HLT := hid hlt
  have HG := hid hg
  clear h hg hlt
  go_enter Try.func65, Try.ntmps65
  go_wp2
  go_loopw [8] (fun v wr => ∃ k : Nat, k ≤ n ∧ v = .int .i64 k ∧ wr.heap[g]? = some (.cells (vs .u8 N (fun q => (byt f k q : Int))) t) ∧ Below g w wr ∧ wr.heap.size = w.heap.size) (fun v _ => n - (intOf v).toNat)
  case atStart => exact ⟨0, by omega, rfl, HG.out, Below.refl _ _, rfl⟩
  case round =>
    obtain ⟨k, hk, rfl, hr, hb, hz⟩ := hrel
    clear HG
    by_cases hkn : k < n
    · obtain ⟨b, off, rfl, hbb, ck0⟩ := bls_at H.out k hkn
      have hbg := HLT.out _ rfl
      have ck := (below_cell hb hbg).trans ck0
      obtain ⟨x, ex⟩ : ∃ x, f k = x := ⟨_, rfl⟩
      rw [ex] at ck
      have k1 : (k : Int) < (n : Int) := by omega
      have k2 : (0 : Int) ≤ (k : Int) := by omega
      have HR := hid hr
      have HB := hid hb
      have HZ := hid hz
      have EX := hid ex
      clear ck0 ex
      cases x
      · clear hr hb hz
        go_wp2
        go_roundw
        case rel =>
          refine ⟨k + 1, by omega, by go_num, ?_, HB.out, HZ.out⟩
          rw [HR.out]
          exact congrArg (fun c => some (Obj.cells c t)) (vs_congr fun q _ => by rw [byt_skip f k q EX.out])
        case measure => simp [intOf]; omega
      · have cq := row_int hr (k / 8) (by omega)
        have fq := row_frozen hr (k / 8)
        obtain ⟨q, eq⟩ : ∃ q, k / 8 = q := ⟨_, rfl⟩
        obtain ⟨B, eB⟩ : ∃ B, byt f k q = B := ⟨_, rfl⟩
        obtain ⟨r, er⟩ : ∃ r, k % 8 = r := ⟨_, rfl⟩
        have e1 : (k : Int) / 8 = (q : Int) := by omega
        have e2 : (k : Int) % 8 = (r : Int) := by omega
        have q1 : (q : Int) < (N : Int) := by omega
        have q2 : (0 : Int) ≤ (q : Int) := by omega
        have r1 : (r : Int) < 8 := by omega
        have r2 : (0 : Int) ≤ (r : Int) := by omega
        rw [eq] at cq fq
        rw [eB] at cq
        have EE := hid (And.intro eq (And.intro er eB))
        clear hr hb hz eq er eB
        go_wp2
        go_region
        go_wp2
        go_roundw
        case rel =>
          obtain ⟨eq, er, eB⟩ := EE.out
          refine ⟨k + 1, by omega, by go_num, ?_, (HB.out.setCell (by simp) _).drew, ?_⟩
          · refine (row_set HR.out q _).trans ?_
            rw [vs_set]
            refine congrArg (fun c => some (Obj.cells c t)) (vs_congr fun i _ => ?_)
            by_cases hi : i = q
            · rw [if_pos hi, or_pow B r (by rw [← eB]; exact byt_lt _ _ _) (by omega), hi, ← eB, ← eq, ← er, byt_or f k EX.out]
            · rw [if_neg hi, byt_other f k i (by omega)]
          · exact (size_set _ _ _).trans HZ.out
        case measure => simp [intOf]; omega
    · have ek : k = n := by omega
      subst ek
      have HR := hid hr
      have HB := hid hb
      clear hr hb
      go_wp2
      go_end0
      exact ⟨rfl, HR.out, HB.out, hz⟩

theorem infoB : (Try.prog.info? 4).map (fun i => (i.zero, i.size, i.bytes)) = some (some (.bool false), 1, 1) := by kernel_rfl

theorem made_vals (z : Value) (n : Nat) : madeCells #[z] n = vals n (fun _ => z) := by
  apply Array.ext_getElem?
  intro j
  by_cases hj : j < n
  · rw [vals_get _ _ _ hj]
    simp [madeCells, hj, Nat.mod_one]
  · rw [Array.getElem?_eq_none (by rw [size_madeCells]; omega), Array.getElem?_eq_none (by rw [vals_size]; omega)]

theorem made_vs (n : Nat) : madeCells #[.int .u8 0] n = vs .u8 n (fun _ => 0) := made_vals _ n

theorem make_bits (W : World) (n : Nat) (hn : n ≤ 140737488355328) : (Instr.makeSlice 77 (.int .i64 n) (.int .i64 n)).run Try.prog W = .ok (.slice (some ⟨W.heap.size, 0, none⟩) n n) (W.alloc (.cells (vals n (fun _ => .bool false)) 4)) := by
  obtain ⟨i, hi, hz0, hz1, hz2⟩ := info_parts infoB
  have h := run_make (P := Try.prog) W 77 4 i (.bool false) Try.underlying77 hi hz0 .i64 .i64 n n (by omega) (Int.le_refl _) (by rw [hz2]; omega) (by omega)
  rw [hz1, Int.toNat_natCast, Nat.mul_one] at h
  rw [h, ← made_vals]
  rfl

theorem make_bytes (W : World) (n : Nat) (hn : n ≤ 140737488355328) : (Instr.makeSlice 39 (.int .i64 n) (.int .i64 n)).run Try.prog W = .ok (.slice (some ⟨W.heap.size, 0, none⟩) n n) (W.alloc (.cells (vs .u8 n (fun _ => 0)) 5)) := by
  obtain ⟨i, hi, hz0, hz1, hz2⟩ := info_parts info8
  have h := run_make (P := Try.prog) W 39 5 i (.int .u8 0) Try.underlying39 hi hz0 .i64 .i64 n n (by omega) (Int.le_refl _) (by rw [hz2]; omega) (by omega)
  rw [hz1, Int.toNat_natCast, Nat.mul_one] at h
  rw [h, ← made_vs]
  rfl

/-- The bits that lie at the head of a block. -/
def bvs (n : Nat) (f : Nat → Bool) : Array Value := vals n (fun i => .bool (f i))

theorem bls_row {w : World} {g n : Nat} {f : Nat → Bool} {t : TypeId} (h : w.heap[g]? = some (.cells (bvs n f) t)) (hn : n ≤ 9223372036854775807) : Bls w (some ⟨g, 0, none⟩) n n f :=
  .inr (.inr ⟨g, 0, rfl, Nat.le_refl _, hn, (Array.getElem?_eq_some_iff.1 h).1, fun j hj => by rw [Nat.zero_add]; exact vals_cell h j hj⟩)

theorem bys_at {w : World} {a : Option Addr} {len cap : Nat} {m : Nat → Int} (h : Bys w a len cap m) (j : Nat) (hj : j < len) : ∃ b off, a = some ⟨b, off, none⟩ ∧ b < w.heap.size ∧ w.cell? ⟨b, off + j, none⟩ = some (.int .u8 (m j)) := by
  rcases h with ⟨_, h, _⟩ | ⟨_, _, h⟩ | ⟨b, off, h1, h2, h3, h4, h5⟩
  · omega
  · omega
  · exact ⟨b, off, h1, h4, h5 j hj⟩

theorem and_bit (B r : Nat) (hB : B < 256) : (bits .and .u8 ((B : Int) / 2 ^ r) 1 == 1) = B.testBit r := by
  have e : ((B : Int) / 2 ^ r) = ((B / 2 ^ r : Nat) : Int) := by simp
  have hl : B / 2 ^ r < 256 := Nat.lt_of_le_of_lt (Nat.div_le_self _ _) hB
  rw [e, show (1 : Int) = ((1 : Nat) : Int) from rfl, u8_and_nat _ 1 hl (by omega), Nat.and_one_is_mod, Nat.testBit_eq_decide_div_mod_eq, Bool.eq_iff_iff]
  simp
  omega

set_option maxHeartbeats 400000 in
theorem read_any (m : Nat → Nat) (a : Option Addr) (len cap n : Nat) (w : World) (h : Bys w a len cap (fun q => (m q : Int))) (hm : ∀ q, q < len → m q < 256) (hn : n ≤ 8 * len) (hnb : n ≤ 140737488355328) (hlen : len ≤ 9223372036854775807) :
    Calls Try.prog 94 #[.slice a len cap, .int .i64 n] w fun e w' => e = .returned (.slice (some ⟨w.heap.size, 0, none⟩) n n) ∧ w'.heap[w.heap.size]? = some (.cells (bvs n (tb m)) 4) ∧ Below w.heap.size w w' := by
  have H := hid h
  have HM := hid hm
  clear h hm
  have hmk := fun W => make_bits W n hnb
  have k0 : (0 : Int) ≤ (n : Int) := by omega
  go_enter Try.func94, Try.ntmps94
  go_wp2
  go_loopw [11] (fun v wr => ∃ k : Nat, k ≤ n ∧ v = .int .i64 k ∧ wr.heap[w.heap.size]? = some (.cells (bvs n fun i => decide (i < k) && tb m i) 4) ∧ Below w.heap.size w wr) (fun v _ => n - (intOf v).toNat)
  case atStart =>
    refine ⟨0, by omega, rfl, ?_, (Below.refl _ _).alloc (Nat.le_refl _) _⟩
    refine (heap_new rfl).trans ?_
    exact congrArg (fun c => some (Obj.cells c 4)) (vals_congr fun i _ => by simp)
  case round =>
    obtain ⟨k, hk, rfl, hr, hb⟩ := hrel
    clear hmk
    by_cases hkn : k < n
    · obtain ⟨b, off, rfl, hbb, ck0⟩ := bys_at H.out (k / 8) (by omega)
      have ck := (below_cell hb hbb).trans ck0
      have hmq := HM.out (k / 8) (by omega)
      obtain ⟨u, cw⟩ : ∃ u, wr.cell? ⟨w.heap.size, k, none⟩ = some (.bool u) := ⟨_, vals_cell hr k hkn⟩
      have fw := row_frozen hr k
      obtain ⟨q, eq⟩ : ∃ q, k / 8 = q := ⟨_, rfl⟩
      obtain ⟨r, er⟩ : ∃ r, k % 8 = r := ⟨_, rfl⟩
      rw [eq] at ck hmq
      obtain ⟨B, eB⟩ : ∃ B, m q = B := ⟨_, rfl⟩
      rw [eB] at ck hmq
      have e1 : (k : Int) / 8 = (q : Int) := by omega
      have e2 : (k : Int) % 8 = (r : Int) := by omega
      have q1 : (q : Int) < (len : Int) := by omega
      have q2 : (0 : Int) ≤ (q : Int) := by omega
      have r1 : (r : Int) < 8 := by omega
      have r2 : (0 : Int) ≤ (r : Int) := by omega
      have k1 : (k : Int) < (n : Int) := by omega
      have k2 : (0 : Int) ≤ (k : Int) := by omega
      have b1 : (B : Int) < 256 := by omega
      have b2 : (0 : Int) ≤ (B : Int) := by omega
      have HR := hid hr
      have HB := hid hb
      have EE := hid (And.intro eq (And.intro er eB))
      clear hr hb ck0 eq er eB hmq
      go_wp2
      go_roundw
      case rel =>
        obtain ⟨eq, er, eB⟩ := EE.out
        refine ⟨k + 1, by omega, by go_num, ?_, HB.out.setCell (by simp) _⟩
        refine (row_set HR.out k _).trans ?_
        unfold bvs
        rw [vals_set, and_bit B r (by omega)]
        refine congrArg (fun c => some (Obj.cells c 4)) (vals_congr fun i _ => ?_)
        show (if i = k then Value.bool (B.testBit r) else Value.bool (decide (i < k) && tb m i)) = Value.bool (decide (i < k + 1) && tb m i)
        by_cases hi : i = k
        · rw [if_pos hi, hi]
          unfold tb
          rw [eq, er, eB]
          simp
        · rw [if_neg hi, decide_eq_decide.2 (show i < k ↔ i < k + 1 by omega)]
      case measure => simp [intOf]; omega
    · have ek : k = n := by omega
      subst ek
      have HR := hid hr
      have HB := hid hb
      clear hr hb
      go_wp2
      go_ret
      refine ⟨rfl, ?_, HB.out⟩
      rw [HR.out]
      exact congrArg (fun c => some (Obj.cells c 4)) (vals_congr fun i hi => by simp [hi])

end Go.Proofs.Ytehpfemlcjcabaa.Z

namespace Go.Proofs.Ytehpfemlcjcabaa.Z

open Go.RowKit

set_option linter.unusedVariables false

set_option linter.unusedSimpArgs false

theorem bls_lt {w : World} {a : Option Addr} {len cap : Nat} {f : Nat → Bool} (h : Bls w a len cap f) (hp : 0 < len) : ∀ x, a = some x → x.block < w.heap.size := by
  intro x hx
  obtain ⟨b, off, h1, h2, _⟩ := bls_at h 0 hp
  rw [h1] at hx
  cases hx
  exact h2

theorem set_none (a : Option Addr) (cap g N : Nat) (w : World) :
    Calls Try.prog 65 #[.slice (some ⟨g, 0, none⟩) N N, .slice a 0 cap] w fun e w' => e = .returned (.tuple #[]) ∧ w' = w := by
  go_enter Try.func65, Try.ntmps65
  go_wp2
  go_loopw [8] (fun v wr => v = .int .i64 0 ∧ wr = w) (fun v _ => 0)
  case atStart => exact ⟨rfl, rfl⟩
  case round =>
    obtain ⟨rfl, rfl⟩ := hrel
    go_wp2
    go_end0
    exact ⟨rfl, rfl⟩

theorem vs0 (f : Nat → Bool) (N : Nat) : vs .u8 N (fun _ => 0) = vs .u8 N (fun q => (byt f 0 q : Int)) := vs_congr fun q _ => by rw [byt_zero]; rfl

/-- set, whatever the bits are. -/
theorem set_new (f : Nat → Bool) (a : Option Addr) (n cap N : Nat) (w : World) (h : Bls w a n cap f) (hN : n ≤ 8 * N) :
    Calls Try.prog 65 #[.slice (some ⟨w.heap.size, 0, none⟩) N N, .slice a n cap] (w.alloc (.cells (vs .u8 N (fun _ => 0)) 5)) fun e w' => e = .returned (.tuple #[]) ∧ w'.heap[w.heap.size]? = some (.cells (vs .u8 N (fun q => (byt f n q : Int))) 5) ∧ Below w.heap.size w w' ∧ w'.heap.size = w.heap.size + 1 := by
  have hb : Below w.heap.size w (w.alloc (.cells (vs .u8 N (fun _ => 0)) 5)) := (Below.refl _ _).alloc (Nat.le_refl _) _
  by_cases h0 : 0 < n
  · refine (set_any f a n cap w.heap.size N 5 _ (h.below hb) ((heap_new rfl).trans (by rw [vs0 f])) hN (bls_lt h h0)).mono ?_
    rintro e w' ⟨rfl, h1, h2, h3⟩
    exact ⟨rfl, h1, hb.trans h2, h3.trans (by simp)⟩
  · have e0 : n = 0 := by omega
    subst e0
    refine (set_none a cap _ N _).mono ?_
    rintro e w' ⟨rfl, rfl⟩
    exact ⟨rfl, (heap_new rfl).trans (by rw [vs0 f]), hb, by simp⟩

theorem vector_any (f : Nat → Bool) (a : Option Addr) (n cap : Nat) (w : World) (h : Bls w a n cap f) (hn : n ≤ 140737488355328) :
    Calls Try.prog 32 #[.slice a n cap] w fun e w' => e = .returned (.slice (some ⟨w.heap.size, 0, none⟩) ((n + 7) / 8) ((n + 7) / 8)) ∧ w'.heap[w.heap.size]? = some (.cells (vs .u8 ((n + 7) / 8) (fun q => (byt f n q : Int))) 5) ∧ Below w.heap.size w w' ∧ w'.heap.size = w.heap.size + 1 := by
  have hs := set_new f a n cap ((n + 7) / 8) w h (by omega)
  have hv := vbytes_any n w (by omega)
  have hmk := make_bytes w ((n + 7) / 8) (by omega)
  obtain ⟨N, eN⟩ : ∃ N, (n + 7) / 8 = N := ⟨_, rfl⟩
  rw [eN] at hs hv hmk ⊢
  have HS := hid hs
  have HV := hid hv
  clear h hs hv eN
  go_enter Try.func32, Try.ntmps32
  go_wp2_with (first
    | (go_at_call 64; refine HV.out.mono ?_; rintro e w1 ⟨rfl, rfl⟩)
    | (go_at_call 65; refine HS.out.mono ?_; rintro e w2 ⟨rfl, x1, x2, x3⟩))
  go_ret
  exact ⟨rfl, x1, x2, x3⟩

end Go.Proofs.Ytehpfemlcjcabaa.Z

namespace Go.Proofs.Ytehpfemlcjcabaa.Z

open Go.RowKit

set_option linter.unusedVariables false

set_option linter.unusedSimpArgs false

def bbl (f : Nat → Bool) (n : Nat) : List Value := (List.range n).map fun i => Value.bool (f i)

theorem bbl_len (f : Nat → Bool) (n : Nat) : (bbl f n).length = n := by simp [bbl]

theorem bbl_one (f : Nat → Bool) (n : Nat) : ∀ u ∈ bbl f n, u.oneCell' = true := by
  intro u hu
  obtain ⟨i, _, rfl⟩ := List.mem_map.1 hu
  rfl

theorem bbl_get (f : Nat → Bool) (n j : Nat) (u : Value) (h : (bbl f n)[j]? = some u) : j < n ∧ u = .bool (f j) := by
  have hj := (List.getElem?_eq_some_iff.1 h).1
  rw [bbl_len] at hj
  refine ⟨hj, ?_⟩
  unfold bbl at h
  rw [List.getElem?_map, List.getElem?_range hj] at h
  simpa using h.symm

/-- A slice of bits, whole. -/
def slB (x : Value) (lo hi : Option Value) : Sem Value := Instr.sliceAt 77 x lo hi none

theorem slB_eq (x : Value) (lo hi : Option Value) : Instr.sliceAt 77 x lo hi none = slB x lo hi := rfl

end Go.Proofs.Ytehpfemlcjcabaa.Z

namespace Go.Proofs.Ytehpfemlcjcabaa.Z

open Go.RowKit

set_option linter.unusedVariables false

set_option linter.unusedSimpArgs false

theorem add_pow (B r : Nat) (hr : r < 8) (hs : B + 2 ^ r < 256) : ((B : Int) + 2 ^ r) % 256 = ((B + 2 ^ r : Nat) : Int) := by
  rw [show ((2 : Int) ^ r) = ((2 ^ r : Nat) : Int) by simp, ← Int.natCast_add]
  exact Int.emod_eq_of_lt (Int.natCast_nonneg _) (Int.ofNat_lt.2 hs)

set_option maxHeartbeats 400000 in
theorem rvector_any (f : Nat → Bool) (a : Option Addr) (n cap : Nat) (w : World) (h : Bls w a n cap f) (hnb : n ≤ 140737488355328) :
    Calls Try.prog 52 #[.slice a n cap] w fun e w' => e = .returned (.slice (some ⟨w.heap.size, 0, none⟩) ((n + 7) / 8) ((n + 7) / 8)) ∧ w'.heap[w.heap.size]? = some (.cells (vs .u8 ((n + 7) / 8) (fun q => (byt f n q : Int))) 5) ∧ Below w.heap.size w w' ∧ w'.heap.size = w.heap.size + 1 := by
  have hmk := make_bytes w ((n + 7) / 8) (by omega)
  obtain ⟨N, eN⟩ : ∃ N, (n + 7) / 8 = N := ⟨_, rfl⟩
  have eN' : ((n : Int) + 7) / 8 = (N : Int) := by omega
  have hN : n ≤ 8 * N := by omega
  rw [eN] at hmk ⊢
  have H := hid h
  have hn : (n : Int) ≤ 140737488355328 := by omega
  have n0 : (0 : Int) ≤ (n : Int) := by omega
  clear h eN
  go_enter Try.func52, Try.ntmps52
  go_wp2
  go_loopw [4] (fun v wr => ∃ k : Nat, k ≤ n ∧ v = .int .i64 k ∧ wr.heap[w.heap.size]? = some (.cells (vs .u8 N (fun q => (byt f k q : Int))) 5) ∧ Below w.heap.size w wr ∧ wr.heap.size = w.heap.size + 1) (fun v _ => n - (intOf v).toNat)
  case atStart => exact ⟨0, by omega, rfl, (heap_new rfl).trans (by rw [vs0 f]), (Below.refl _ _).alloc (Nat.le_refl _) _, by simp⟩
  case round =>
    obtain ⟨k, hk, rfl, hr, hb, hz⟩ := hrel
    clear hmk
    by_cases hkn : k < n
    · obtain ⟨b, off, rfl, hbb, ck0⟩ := bls_at H.out k hkn
      have ck := (below_cell hb hbb).trans ck0
      obtain ⟨x, ex⟩ : ∃ x, f k = x := ⟨_, rfl⟩
      rw [ex] at ck
      have k1 : (k : Int) < (n : Int) := by omega
      have k2 : (0 : Int) ≤ (k : Int) := by omega
      have HR := hid hr
      have HB := hid hb
      have HZ := hid hz
      have EX := hid ex
      clear ck0 ex
      cases x
      · clear hr hb hz
        go_wp2
        go_roundw
        case rel =>
          refine ⟨k + 1, by omega, by go_num, ?_, HB.out, HZ.out⟩
          rw [HR.out]
          exact congrArg (fun c => some (Obj.cells c 5)) (vs_congr fun q _ => by rw [byt_skip f k q EX.out])
        case measure => simp [intOf]; omega
      · have cq := row_int hr (k / 8) (by omega)
        have fq := row_frozen hr (k / 8)
        obtain ⟨q, eq⟩ : ∃ q, k / 8 = q := ⟨_, rfl⟩
        obtain ⟨B, eB⟩ : ∃ B, byt f k q = B := ⟨_, rfl⟩
        obtain ⟨r, er⟩ : ∃ r, k % 8 = r := ⟨_, rfl⟩
        have e1 : (k : Int) / 8 = (q : Int) := by omega
        have e2 : (k : Int) % 8 = (r : Int) := by omega
        have q1 : (q : Int) < (N : Int) := by omega
        have q2 : (0 : Int) ≤ (q : Int) := by omega
        have r1 : (r : Int) < 8 := by omega
        have r2 : (0 : Int) ≤ (r : Int) := by omega
        rw [eq] at cq fq
        rw [eB] at cq
        have EE := hid (And.intro eq (And.intro er eB))
        clear hr hb hz eq er eB
        go_wp2
        go_roundw
        case rel =>
          obtain ⟨eq, er, eB⟩ := EE.out
          refine ⟨k + 1, by omega, by go_num, ?_, HB.out.setCell (by simp) _, ?_⟩
          · refine (row_set HR.out q _).trans ?_
            rw [vs_set]
            refine congrArg (fun c => some (Obj.cells c 5)) (vs_congr fun i _ => ?_)
            by_cases hi : i = q
            · have e3 := byt_add f k EX.out
              have e4 := byt_lt f (k + 1) (k / 8)
              rw [← e3, eq, er, eB] at e4
              rw [eq, er, eB] at e3
              rw [if_pos hi, add_pow B r (by omega) e4, hi, e3]
            · rw [if_neg hi, byt_other f k i (by omega)]
          · exact (size_set _ _ _).trans HZ.out
        case measure => simp [intOf]; omega
    · have ek : k = n := by omega
      subst ek
      have HR := hid hr
      have HB := hid hb
      clear hr hb
      go_wp2
      go_ret
      exact ⟨rfl, HR.out, HB.out, hz⟩

end Go.Proofs.Ytehpfemlcjcabaa.Z

namespace Go.Proofs.Ytehpfemlcjcabaa.Z

open Go.RowKit

set_option linter.unusedVariables false

set_option linter.unusedSimpArgs false

/-- Is a further bit set? -/
def frB (m : Nat → Nat) (len n : Nat) : Bool := (List.range (8 * len)).any fun i => decide (n ≤ i) && tb m i

theorem frB_true {m : Nat → Nat} {len n i : Nat} (h1 : i < 8 * len) (h2 : n ≤ i) (h3 : tb m i = true) : frB m len n = true := by
  unfold frB
  simp only [List.any_eq_true, List.mem_range, Bool.and_eq_true, decide_eq_true_eq]
  exact ⟨i, h1, h2, h3⟩

theorem frB_false {m : Nat → Nat} {len n : Nat} (h : ∀ i, i < 8 * len → n ≤ i → tb m i = false) : frB m len n = false := by
  cases hb : frB m len n
  · rfl
  · unfold frB at hb
    simp only [List.any_eq_true, List.mem_range, Bool.and_eq_true, decide_eq_true_eq] at hb
    obtain ⟨i, h1, h2, h3⟩ := hb
    rw [h i h1 h2] at h3
    cases h3

/-- The last byte tells of further bits. -/
theorem frB_last (m : Nat → Nat) (len n : Nat) (hn : 1 ≤ n) (hlen : len = (n + 7) / 8) (hm : ∀ q, q < len → m q < 256) : frB m len n = (decide (n % 8 ≠ 0) && decide (m (n / 8) / 2 ^ (n % 8) ≠ 0)) := by
  by_cases h8 : n % 8 = 0
  · rw [frB_false (fun i h1 h2 => by omega)]
    simp [h8]
  · have hq : n / 8 < len := by omega
    by_cases hx : m (n / 8) / 2 ^ (n % 8) = 0
    · rw [frB_false]
      · simp [hx]
      · intro i h1 h2
        unfold tb
        have e : i / 8 = n / 8 := by omega
        rw [e]
        apply Nat.testBit_lt_two_pow
        have hlt : m (n / 8) < 2 ^ (n % 8) := by
          rcases Nat.div_eq_zero_iff.1 hx with h | h
          · have := Nat.two_pow_pos (n % 8); omega
          · exact h
        exact Nat.lt_of_lt_of_le hlt (Nat.pow_le_pow_right (by omega) (by omega))
    · obtain ⟨i, h2⟩ : ∃ i, (m (n / 8) / 2 ^ (n % 8)).testBit i = true := Nat.exists_testBit_of_ne_zero hx
      rw [Nat.testBit_div_two_pow] at h2
      have hi : n % 8 + i < 8 := by
        by_cases h : n % 8 + i < 8
        · exact h
        · rw [Nat.testBit_lt_two_pow (Nat.lt_of_lt_of_le (hm _ hq) (Nat.pow_le_pow_right (n := 2) (by omega) (by omega : 8 ≤ _)))] at h2
          cases h2
      rw [frB_true (i := n + i) (by omega) (by omega)]
      · simp [h8, hx]
      · unfold tb
        rw [show (n + i) / 8 = n / 8 by omega, show (n + i) % 8 = n % 8 + i by omega, Nat.add_comm]
        exact h2

/-- Why ReadVector answers no bits (0: it does), and how many it answers. -/
def rvE (m : Nat → Nat) (len : Nat) (n : Int) : Int := if n < 1 ∨ 4096 < n then 1 else if len ≠ (n.toNat + 7) / 8 then 4 else if frB m len n.toNat = true then 5 else 0

def rvN (m : Nat → Nat) (len : Nat) (n : Int) : Nat := if rvE m len n = 0 then n.toNat else 0

theorem rv_arg {m : Nat → Nat} {len : Nat} {n : Int} (h : n < 1 ∨ 4096 < n) : rvE m len n = 1 ∧ rvN m len n = 0 := by
  have e : rvE m len n = 1 := by unfold rvE; rw [if_pos h]
  exact ⟨e, by unfold rvN; rw [e]; rfl⟩

theorem rv_size {m : Nat → Nat} {len : Nat} {n : Int} (h1 : 1 ≤ n) (h2 : n ≤ 4096) (h : len ≠ (n.toNat + 7) / 8) : rvE m len n = 4 ∧ rvN m len n = 0 := by
  have e : rvE m len n = 4 := by unfold rvE; rw [if_neg (by omega), if_pos h]
  exact ⟨e, by unfold rvN; rw [e]; rfl⟩

theorem rv_form {m : Nat → Nat} {len : Nat} {n : Int} (h1 : 1 ≤ n) (h2 : n ≤ 4096) (h : len = (n.toNat + 7) / 8) (hf : frB m len n.toNat = true) : rvE m len n = 5 ∧ rvN m len n = 0 := by
  have e : rvE m len n = 5 := by unfold rvE; rw [if_neg (by omega), if_neg (by omega), if_pos hf]
  exact ⟨e, by unfold rvN; rw [e]; rfl⟩

theorem rv_ok {m : Nat → Nat} {len : Nat} {n : Int} (h1 : 1 ≤ n) (h2 : n ≤ 4096) (h : len = (n.toNat + 7) / 8) (hf : frB m len n.toNat = false) : rvE m len n = 0 ∧ rvN m len n = n.toNat := by
  have e : rvE m len n = 0 := by unfold rvE; rw [if_neg (by omega), if_neg (by omega), if_neg (by rw [hf]; simp)]
  exact ⟨e, by unfold rvN; rw [if_pos e]⟩

/-- The answer: bits or none, and an error. -/
def Ans (m : Nat → Nat) (N : Nat) (E : Int) (w : World) (e : Ending) (w' : World) : Prop :=
  ∃ a c, e = .returned (.tuple #[.slice a N c, .int .i64 E]) ∧ Bls w' a N c (tb m) ∧ Below w.heap.size w w'

theorem ans_none {m : Nat → Nat} {E : Int} {w : World} : Ans m 0 E w (.returned (.tuple #[.slice none 0 0, .int .i64 E])) w := ⟨none, 0, rfl, .inl ⟨rfl, rfl, rfl⟩, Below.refl _ _⟩

set_option maxRecDepth 20000 in
set_option maxHeartbeats 400000 in
theorem readv_any (m : Nat → Nat) (a : Option Addr) (len cap : Nat) (n : Int) (w : World) (h : Bys w a len cap (fun q => (m q : Int))) (hm : ∀ q, q < len → m q < 256) (hlen : len ≤ 9223372036854775807) :
    Calls Try.prog 77 #[.slice a len cap, .int .i64 n] w (Ans m (rvN m len n) (rvE m len n) w) := by
  by_cases h1 : n < 1
  · obtain ⟨e1, e2⟩ := rv_arg (m := m) (len := len) (.inl h1)
    rw [e1, e2]
    clear h hm e1 e2
    go_enter Try.func77, Try.ntmps77
    go_wp2
    go_ret2
    exact ans_none
  by_cases h2 : 4096 < n
  · obtain ⟨e1, e2⟩ := rv_arg (m := m) (len := len) (.inr h2)
    rw [e1, e2]
    clear h hm e1 e2
    go_enter Try.func77, Try.ntmps77
    go_wp2
    go_ret2
    exact ans_none
  obtain ⟨N, rfl⟩ : ∃ N : Nat, n = (N : Int) := ⟨n.toNat, by omega⟩
  have HV := hid (vbytes_any N w (by omega))
  by_cases h3 : len = (N + 7) / 8
  · have hf := frB_last m len N (by omega) h3 hm
    have HRD := hid (read_any m a len cap N w h hm (by omega) (by omega) hlen)
    by_cases h8 : (N : Int) % 8 = 0
    · obtain ⟨e1, e2⟩ := rv_ok (m := m) (len := len) (n := (N : Int)) (by omega) (by omega) h3 (by rw [Int.toNat_natCast, hf, decide_eq_false (by omega)]; rfl)
      rw [e1, e2, Int.toNat_natCast]
      have h3' : (len : Int) = (((N + 7) / 8 : Nat) : Int) := by omega
      have h2' : (N : Int) ≤ 4096 := by omega
      rw [← h3] at HV
      clear h hm e1 e2 hf h3 h3'
      go_enter Try.func77, Try.ntmps77
      go_wp2_with (first
        | (go_at_call 64; refine HV.out.mono ?_; rintro e w1 ⟨rfl, rfl⟩)
        | (go_at_call 94; refine HRD.out.mono ?_; rintro e w2 ⟨rfl, x1, x2⟩))
      go_ret2
      exact ⟨_, N, rfl, bls_row x1 (by omega), x2⟩
    · obtain ⟨b, off, rfl, hbb, ck⟩ := bys_at h (N / 8) (by omega)
      have hmq := hm (N / 8) (by omega)
      obtain ⟨q, eq⟩ : ∃ q, N / 8 = q := ⟨_, rfl⟩
      obtain ⟨r, er⟩ : ∃ r, N % 8 = r := ⟨_, rfl⟩
      rw [eq] at ck hmq
      obtain ⟨B, eB⟩ : ∃ B, m q = B := ⟨_, rfl⟩
      rw [eB] at ck hmq
      rw [eq, er, eB] at hf
      have e1 : (N : Int) / 8 = (q : Int) := by omega
      have e2 : (N : Int) % 8 = (r : Int) := by omega
      have q1 : (q : Int) < (len : Int) := by omega
      have q2 : (0 : Int) ≤ (q : Int) := by omega
      have r1 : (r : Int) < 8 := by omega
      have r2 : (0 : Int) ≤ (r : Int) := by omega
      have h8' : ¬ (r : Int) = 0 := by omega
      have b1 : (B : Int) < 256 := by omega
      have b2 : (0 : Int) ≤ (B : Int) := by omega
      have h2' : (N : Int) ≤ 4096 := by omega
      have ediv : ((B : Int) / 2 ^ r) = ((B / 2 ^ r : Nat) : Int) := by simp
      rw [← h3] at HV
      by_cases hB : B / 2 ^ r = 0
      · obtain ⟨e3, e4⟩ := rv_ok (m := m) (len := len) (n := (N : Int)) (by omega) (by omega) h3 (by rw [Int.toNat_natCast, hf, hB]; simp)
        rw [e3, e4, Int.toNat_natCast]
        have hB' : (B : Int) / 2 ^ r = 0 := by rw [ediv, hB]; rfl
        clear h hm e3 e4 hf h3 h8 eq er eB hmq hB ediv
        go_enter Try.func77, Try.ntmps77
        go_wp2_with (first
          | (go_at_call 64; refine HV.out.mono ?_; rintro e w1 ⟨rfl, rfl⟩)
          | (go_at_call 94; refine HRD.out.mono ?_; rintro e w2 ⟨rfl, x1, x2⟩))
        go_ret2
        exact ⟨_, N, rfl, bls_row x1 (by omega), x2⟩
      · obtain ⟨e3, e4⟩ := rv_form (m := m) (len := len) (n := (N : Int)) (by omega) (by omega) h3 (by rw [Int.toNat_natCast, hf]; simp [hB]; omega)
        rw [e3, e4]
        have hB' : ¬ (B : Int) / 2 ^ r = 0 := by rw [ediv]; omega
        have t1 : ((r : Int) != 0) = true := by simpa using h8'
        have t2 : ((B : Int) / 2 ^ r != 0) = true := by simpa using hB'
        clear h hm e3 e4 hf h3 h8 eq er eB hmq hB ediv
        go_enter Try.func77, Try.ntmps77
        go_wp2_with (go_at_call 64; refine HV.out.mono ?_; rintro e w1 ⟨rfl, rfl⟩)
        go_ret2
        exact ans_none
  · obtain ⟨e1, e2⟩ := rv_size (m := m) (len := len) (n := (N : Int)) (by omega) (by omega) (by simpa using h3)
    rw [e1, e2]
    obtain ⟨V, eV⟩ : ∃ V, (N + 7) / 8 = V := ⟨_, rfl⟩
    rw [eV] at HV h3
    have h3' : ¬ (len : Int) = (V : Int) := by omega
    clear h hm e1 e2 h3 eV
    go_enter Try.func77, Try.ntmps77
    go_wp2_with (go_at_call 64; refine HV.out.mono ?_; rintro e w1 ⟨rfl, rfl⟩)
    go_ret2
    exact ans_none

end Go.Proofs.Ytehpfemlcjcabaa.Z

namespace Go.Proofs.Ytehpfemlcjcabaa.Z

open Go.RowKit

set_option linter.unusedVariables false

set_option linter.unusedSimpArgs false

attribute [local go_sem ↓] slB_eq

end Go.Proofs.Ytehpfemlcjcabaa.Z
