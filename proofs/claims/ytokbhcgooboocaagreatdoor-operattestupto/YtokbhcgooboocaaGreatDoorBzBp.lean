/-
  Bits and bytes: what Vector, List, ReadVector and the reference answer (of the texts of layer 4, what others stand on).
-/
import Derived.Test.YtokbhcgooboocaaGreatDoorZaBp
import Derived.Test.YtokbhcgooboocaaGreatDoorShelf
namespace Go.Proofs.YtokbhcgooboocaaGreatDoor.Z
open Go.RowKit
set_option linter.unusedVariables false
set_option linter.unusedSimpArgs false

/-- The number whose lowest n bits are g's. -/
def bo (g : Nat → Bool) : Nat → Nat
  | 0 => 0
  | k + 1 => bo g k + (if g k = true then 2 ^ k else 0)

theorem bo_lt (g : Nat → Bool) (k : Nat) : bo g k < 2 ^ k := by
  induction k with
  | zero => simp [bo]
  | succ k ih =>
    unfold bo
    rw [Nat.pow_succ]
    split <;> omega

theorem bo_bit (g : Nat → Bool) (n k : Nat) : (bo g n).testBit k = (decide (k < n) && g k) := by
  induction n with
  | zero => simp [bo]
  | succ n ih =>
    have hl := bo_lt g n
    unfold bo
    by_cases hg : g n = true
    · rw [if_pos hg, Nat.add_comm]
      by_cases h : k < n
      · rw [Nat.testBit_two_pow_add_gt h, ih]
        simp [h, Nat.lt_succ_of_lt h]
      · by_cases e : k = n
        · subst e
          rw [Nat.testBit_two_pow_add_eq, Nat.testBit_lt_two_pow hl]
          simp [hg]
        · rw [Nat.testBit_lt_two_pow]
          · simp [show ¬ k < n + 1 by omega]
          · have : 2 ^ (n + 1) ≤ 2 ^ k := Nat.pow_le_pow_right (by omega) (by omega)
            rw [Nat.pow_succ] at this
            omega
    · rw [if_neg hg, Nat.add_zero, ih]
      by_cases e : k = n
      · subst e
        simp at hg
        simp [hg]
      · have : k < n + 1 ↔ k < n := by omega
        simp [this]

/-- The byte q of the bytes of the first n bits of f. -/
def byt (f : Nat → Bool) (n q : Nat) : Nat := bo (fun k => decide (8 * q + k < n) && f (8 * q + k)) 8

theorem byt_lt (f : Nat → Bool) (n q : Nat) : byt f n q < 256 := bo_lt _ 8

theorem byt_bit (f : Nat → Bool) (n q k : Nat) : (byt f n q).testBit k = (decide (k < 8) && (decide (8 * q + k < n) && f (8 * q + k))) := bo_bit _ 8 k

theorem byt_zero (f : Nat → Bool) (q : Nat) : byt f 0 q = 0 := by
  apply Nat.eq_of_testBit_eq
  intro k
  rw [byt_bit]
  simp

theorem byt_other (f : Nat → Bool) (n q : Nat) (h : q ≠ n / 8) : byt f (n + 1) q = byt f n q := by
  apply Nat.eq_of_testBit_eq
  intro k
  rw [byt_bit, byt_bit]
  by_cases hk : k < 8
  · have : 8 * q + k < n + 1 ↔ 8 * q + k < n := by omega
    simp [this]
  · simp [hk]

theorem byt_skip (f : Nat → Bool) (n q : Nat) (h : f n = false) : byt f (n + 1) q = byt f n q := by
  apply Nat.eq_of_testBit_eq
  intro k
  rw [byt_bit, byt_bit]
  by_cases e : 8 * q + k = n
  · rw [e, h]
    simp
  · have : 8 * q + k < n + 1 ↔ 8 * q + k < n := by omega
    simp [this]

theorem byt_or (f : Nat → Bool) (n : Nat) (h : f n = true) : byt f n (n / 8) ||| 2 ^ (n % 8) = byt f (n + 1) (n / 8) := by
  apply Nat.eq_of_testBit_eq
  intro k
  rw [Nat.testBit_or, byt_bit, byt_bit, Nat.testBit_two_pow]
  by_cases hk : k < 8
  · by_cases e : n % 8 = k
    · have e2 : 8 * (n / 8) + k = n := by omega
      rw [e2, h]
      simp [e, hk]
    · have : 8 * (n / 8) + k < n + 1 ↔ 8 * (n / 8) + k < n := by omega
      simp [this, e]
  · have : ¬ n % 8 = k := by omega
    simp [hk, this]

theorem byt_low (f : Nat → Bool) (n : Nat) : byt f n (n / 8) < 2 ^ (n % 8) := by
  apply Nat.lt_pow_two_of_testBit
  intro k hk
  rw [byt_bit]
  simp [show ¬ 8 * (n / 8) + k < n by omega]

theorem byt_add (f : Nat → Bool) (n : Nat) (h : f n = true) : byt f n (n / 8) + 2 ^ (n % 8) = byt f (n + 1) (n / 8) := by
  rw [← byt_or f n h, Nat.or_comm, Nat.add_comm]
  have := Nat.two_pow_add_eq_or_of_lt (byt_low f n) 1
  simpa using this

theorem byt_congr {f g : Nat → Bool} {n : Nat} (h : ∀ i, i < n → f i = g i) (q : Nat) : byt f n q = byt g n q := by
  apply Nat.eq_of_testBit_eq
  intro k
  rw [byt_bit, byt_bit]
  by_cases hk : 8 * q + k < n
  · rw [h _ hk]
  · simp [hk]

/-- The bit i of bytes. -/
def tb (m : Nat → Nat) (i : Nat) : Bool := (m (i / 8)).testBit (i % 8)

theorem byt_tb (m : Nat → Nat) (n q : Nat) (h1 : m q < 256) (h2 : ∀ k, k < 8 → n ≤ 8 * q + k → (m q).testBit k = false) : byt (tb m) n q = m q := by
  apply Nat.eq_of_testBit_eq
  intro k
  rw [byt_bit]
  by_cases hk : k < 8
  · by_cases hn : 8 * q + k < n
    · unfold tb
      rw [show (8 * q + k) / 8 = q by omega, show (8 * q + k) % 8 = k by omega]
      simp [hk, hn]
    · rw [h2 k hk (by omega)]
      simp [hn]
  · rw [Nat.testBit_lt_two_pow (Nat.lt_of_lt_of_le h1 (Nat.pow_le_pow_right (n := 2) (by omega) (by omega : 8 ≤ k)))]
    simp [hk]

end Go.Proofs.YtokbhcgooboocaaGreatDoor.Z
namespace Go.Proofs.YtokbhcgooboocaaGreatDoor.Z
open Go.RowKit
set_option linter.unusedVariables false
set_option linter.unusedSimpArgs false

/-- The bits of a slice, whatever it is. -/
def Bls (w : World) (a : Option Addr) (len cap : Nat) (f : Nat → Bool) : Prop :=
  (a = none ∧ len = 0 ∧ cap = 0) ∨ (∃ x, a = some x ∧ len = 0) ∨ ∃ b off, a = some ⟨b, off, none⟩ ∧ len ≤ cap ∧ cap ≤ 9223372036854775807 ∧ b < w.heap.size ∧ ∀ j, j < len → w.cell? ⟨b, off + j, none⟩ = some (.bool (f j))

theorem Bls.below {w w' : World} {a : Option Addr} {len cap : Nat} {f : Nat → Bool} (h : Bls w a len cap f) (hb : Below w.heap.size w w') : Bls w' a len cap f := by
  rcases h with h | h | ⟨b, off, h1, h2, h3, h4, h5⟩
  · exact .inl h
  · exact .inr (.inl h)
  · exact .inr (.inr ⟨b, off, h1, h2, h3, Nat.lt_of_lt_of_le h4 hb.size, fun j hj => (below_cell hb h4).trans (h5 j hj)⟩)

theorem bls_at {w : World} {a : Option Addr} {len cap : Nat} {f : Nat → Bool} (h : Bls w a len cap f) (j : Nat) (hj : j < len) : ∃ b off, a = some ⟨b, off, none⟩ ∧ b < w.heap.size ∧ w.cell? ⟨b, off + j, none⟩ = some (.bool (f j)) := by
  rcases h with ⟨_, h, _⟩ | ⟨_, _, h⟩ | ⟨b, off, h1, h2, h3, h4, h5⟩
  · omega
  · omega
  · exact ⟨b, off, h1, h4, h5 j hj⟩

theorem vbytes_any (n : Nat) (w : World) (hn : n ≤ 9223372036854775807) :
    Calls Tryz.prog 61 #[.int .i64 n] w fun e w' => e = .returned (.int .i64 (((n + 7) / 8 : Nat) : Int)) ∧ w' = w := by
  have h0 : (0 : Int) ≤ (n : Int) := by omega
  by_cases h : (n : Int) % 8 = 0
  · have E : Hid (((n + 7) / 8 : Nat) = n / 8) := by show (n + 7) / 8 = n / 8; omega
    go_enter Tryz.func61, Tryz.ntmps61
    go_wp2
    go_ret
    exact ⟨by rw [E.out]; rfl, rfl⟩
  · have E : Hid (((n + 7) / 8 : Nat) = n / 8 + 1) := by show (n + 7) / 8 = n / 8 + 1; omega
    go_enter Tryz.func61, Tryz.ntmps61
    go_wp2
    go_ret
    exact ⟨by rw [E.out]; rfl, rfl⟩

end Go.Proofs.YtokbhcgooboocaaGreatDoor.Z
namespace Go.Proofs.YtokbhcgooboocaaGreatDoor.Z
open Go.RowKit
set_option linter.unusedVariables false
set_option linter.unusedSimpArgs false

theorem bls_len {w : World} {a : Option Addr} {len cap : Nat} {f : Nat → Bool} (h : Bls w a len cap f) : len ≤ 9223372036854775807 := by
  rcases h with ⟨_, h, _⟩ | ⟨_, _, h⟩ | ⟨b, off, h1, h2, h3, h4, h5⟩ <;> omega

theorem pow_lt8 {r : Nat} (h : r < 8) : 2 ^ r < 256 := Nat.pow_lt_pow_right (a := 2) (by omega) h

theorem pow_cast {r : Nat} (h : r < 8) : ((2 : Int) ^ r % 256) = ((2 ^ r : Nat) : Int) := by
  have := pow_lt8 h
  rw [show ((2 : Int) ^ r) = ((2 ^ r : Nat) : Int) by simp]
  exact Int.emod_eq_of_lt (Int.natCast_nonneg _) (Int.ofNat_lt.2 this)

theorem or_pow (B r : Nat) (hB : B < 256) (hr : r < 8) : bits .or .u8 (B : Int) ((2 : Int) ^ r % 256) = ((B ||| 2 ^ r : Nat) : Int) := by
  rw [pow_cast hr]
  exact u8_or_nat B _ hB (pow_lt8 hr)

set_option maxHeartbeats 400000 in
theorem set_any (f : Nat → Bool) (a : Option Addr) (n cap g N : Nat) (t : TypeId) (w : World) (h : Bls w a n cap f) (hg : w.heap[g]? = some (.cells (vs .u8 N (fun q => (byt f 0 q : Int))) t)) (hN : n ≤ 8 * N) (hlt : ∀ x, a = some x → x.block < g) :
    Calls Tryz.prog 54 #[.slice (some ⟨g, 0, none⟩) N N, .slice a n cap] w fun e w' => e = .returned (.tuple #[]) ∧ w'.heap[g]? = some (.cells (vs .u8 N (fun q => (byt f n q : Int))) t) ∧ Below g w w' ∧ w'.heap.size = w.heap.size := by
  have hn := bls_len h
  have H := hid h
  have HLT := hid hlt
  have HG := hid hg
  clear h hg hlt
  go_enter Tryz.func54, Tryz.ntmps54
  go_wp2
  go_loopw [8] (fun v wr => ∃ k : Nat, k ≤ n ∧ v = .int .i64 k ∧ wr.heap[g]? = some (.cells (vs .u8 N (fun q => (byt f k q : Int))) t) ∧ Below g w wr ∧ wr.heap.size = w.heap.size) (fun v _ => n - (intOf v).toNat)
  case atStart => exact ⟨0, by omega, rfl, HG.out, Below.refl _ _, rfl⟩
  case round =>
    obtain ⟨k, hk, rfl, hr, hb, hz⟩ := hrel
    clear HG
    by_cases hkn : k < n
    · obtain ⟨b, off, rfl, hbb, ck0⟩ := bls_at H.out k hkn
      have hbg := HLT.out _ rfl
      have ck := (below_cell hb hbg).trans ck0
      obtain ⟨x, ex⟩ : ∃ x, f k = x := ⟨_, rfl⟩
      rw [ex] at ck
      have k1 : (k : Int) < (n : Int) := by omega
      have k2 : (0 : Int) ≤ (k : Int) := by omega
      have HR := hid hr
      have HB := hid hb
      have HZ := hid hz
      have EX := hid ex
      clear ck0 ex
      cases x
      · clear hr hb hz
        go_wp2
        go_roundw
        case rel =>
          refine ⟨k + 1, by omega, by go_num, ?_, HB.out, HZ.out⟩
          rw [HR.out]
          exact congrArg (fun c => some (Obj.cells c t)) (vs_congr fun q _ => by rw [byt_skip f k q EX.out])
        case measure => simp [intOf]; omega
      · have cq := row_int hr (k / 8) (by omega)
        have fq := row_frozen hr (k / 8)
        obtain ⟨q, eq⟩ : ∃ q, k / 8 = q := ⟨_, rfl⟩
        obtain ⟨B, eB⟩ : ∃ B, byt f k q = B := ⟨_, rfl⟩
        obtain ⟨r, er⟩ : ∃ r, k % 8 = r := ⟨_, rfl⟩
        have e1 : (k : Int) / 8 = (q : Int) := by omega
        have e2 : (k : Int) % 8 = (r : Int) := by omega
        have q1 : (q : Int) < (N : Int) := by omega
        have q2 : (0 : Int) ≤ (q : Int) := by omega
        have r1 : (r : Int) < 8 := by omega
        have r2 : (0 : Int) ≤ (r : Int) := by omega
        rw [eq] at cq fq
        rw [eB] at cq
        have EE := hid (And.intro eq (And.intro er eB))
        clear hr hb hz eq er eB
        go_wp2
        go_region
        go_wp2
        go_roundw
        case rel =>
          obtain ⟨eq, er, eB⟩ := EE.out
          refine ⟨k + 1, by omega, by go_num, ?_, (HB.out.setCell (by simp) _).drew, ?_⟩
          · refine (row_set HR.out q _).trans ?_
            rw [vs_set]
            refine congrArg (fun c => some (Obj.cells c t)) (vs_congr fun i _ => ?_)
            by_cases hi : i = q
            · rw [if_pos hi, or_pow B r (by rw [← eB]; exact byt_lt _ _ _) (by omega), hi, ← eB, ← eq, ← er, byt_or f k EX.out]
            · rw [if_neg hi, byt_other f k i (by omega)]
          · exact (size_set _ _ _).trans HZ.out
        case measure => simp [intOf]; omega
    · have ek : k = n := by omega
      subst ek
      have HR := hid hr
      have HB := hid hb
      clear hr hb
      go_wp2
      go_end0
      exact ⟨rfl, HR.out, HB.out, hz⟩

theorem infoB : (Tryz.prog.info? 4).map (fun i => (i.zero, i.size, i.bytes)) = some (some (.bool false), 1, 1) := by kernel_rfl

theorem made_vals (z : Value) (n : Nat) : madeCells #[z] n = vals n (fun _ => z) := by
  apply Array.ext_getElem?
  intro j
  by_cases hj : j < n
  · rw [vals_get _ _ _ hj]
    simp [madeCells, hj, Nat.mod_one]
  · rw [Array.getElem?_eq_none (by rw [size_madeCells]; omega), Array.getElem?_eq_none (by rw [vals_size]; omega)]

theorem made_vs (n : Nat) : madeCells #[.int .u8 0] n = vs .u8 n (fun _ => 0) := made_vals _ n

theorem make_bits (W : World) (n : Nat) (hn : n ≤ 140737488355328) : (Instr.makeSlice 22 (.int .i64 n) (.int .i64 n)).run Tryz.prog W = .ok (.slice (some ⟨W.heap.size, 0, none⟩) n n) (W.alloc (.cells (vals n (fun _ => .bool false)) 4)) := by
  obtain ⟨i, hi, hz0, hz1, hz2⟩ := info_parts infoB
  have h := run_make (P := Tryz.prog) W 22 4 i (.bool false) Tryz.underlying22 hi hz0 .i64 .i64 n n (by omega) (Int.le_refl _) (by rw [hz2]; omega) (by omega)
  rw [hz1, Int.toNat_natCast, Nat.mul_one] at h
  rw [h, ← made_vals]
  rfl

theorem make_bytes (W : World) (n : Nat) (hn : n ≤ 140737488355328) : (Instr.makeSlice 34 (.int .i64 n) (.int .i64 n)).run Tryz.prog W = .ok (.slice (some ⟨W.heap.size, 0, none⟩) n n) (W.alloc (.cells (vs .u8 n (fun _ => 0)) 5)) := by
  obtain ⟨i, hi, hz0, hz1, hz2⟩ := info_parts info8
  have h := run_make (P := Tryz.prog) W 34 5 i (.int .u8 0) Tryz.underlying34 hi hz0 .i64 .i64 n n (by omega) (Int.le_refl _) (by rw [hz2]; omega) (by omega)
  rw [hz1, Int.toNat_natCast, Nat.mul_one] at h
  rw [h, ← made_vs]
  rfl

/-- The bits that lie at the head of a block. -/
def bvs (n : Nat) (f : Nat → Bool) : Array Value := vals n (fun i => .bool (f i))

theorem bls_row {w : World} {g n : Nat} {f : Nat → Bool} {t : TypeId} (h : w.heap[g]? = some (.cells (bvs n f) t)) (hn : n ≤ 9223372036854775807) : Bls w (some ⟨g, 0, none⟩) n n f :=
  .inr (.inr ⟨g, 0, rfl, Nat.le_refl _, hn, (Array.getElem?_eq_some_iff.1 h).1, fun j hj => by rw [Nat.zero_add]; exact vals_cell h j hj⟩)

theorem bys_at {w : World} {a : Option Addr} {len cap : Nat} {m : Nat → Int} (h : Bys w a len cap m) (j : Nat) (hj : j < len) : ∃ b off, a = some ⟨b, off, none⟩ ∧ b < w.heap.size ∧ w.cell? ⟨b, off + j, none⟩ = some (.int .u8 (m j)) := by
  rcases h with ⟨_, h, _⟩ | ⟨_, _, h⟩ | ⟨b, off, h1, h2, h3, h4, h5⟩
  · omega
  · omega
  · exact ⟨b, off, h1, h4, h5 j hj⟩

theorem and_bit (B r : Nat) (hB : B < 256) : (bits .and .u8 ((B : Int) / 2 ^ r) 1 == 1) = B.testBit r := by
  have e : ((B : Int) / 2 ^ r) = ((B / 2 ^ r : Nat) : Int) := by simp
  have hl : B / 2 ^ r < 256 := Nat.lt_of_le_of_lt (Nat.div_le_self _ _) hB
  rw [e, show (1 : Int) = ((1 : Nat) : Int) from rfl, u8_and_nat _ 1 hl (by omega), Nat.and_one_is_mod, Nat.testBit_eq_decide_div_mod_eq, Bool.eq_iff_iff]
  simp
  omega

set_option maxHeartbeats 400000 in
theorem read_any (m : Nat → Nat) (a : Option Addr) (len cap n : Nat) (w : World) (h : Bys w a len cap (fun q => (m q : Int))) (hm : ∀ q, q < len → m q < 256) (hn : n ≤ 8 * len) (hnb : n ≤ 140737488355328) (hlen : len ≤ 9223372036854775807) :
    Calls Tryz.prog 80 #[.slice a len cap, .int .i64 n] w fun e w' => e = .returned (.slice (some ⟨w.heap.size, 0, none⟩) n n) ∧ w'.heap[w.heap.size]? = some (.cells (bvs n (tb m)) 4) ∧ Below w.heap.size w w' := by
  have H := hid h
  have HM := hid hm
  clear h hm
  have hmk := fun W => make_bits W n hnb
  have k0 : (0 : Int) ≤ (n : Int) := by omega
  go_enter Tryz.func80, Tryz.ntmps80
  go_wp2
  go_loopw [11] (fun v wr => ∃ k : Nat, k ≤ n ∧ v = .int .i64 k ∧ wr.heap[w.heap.size]? = some (.cells (bvs n fun i => decide (i < k) && tb m i) 4) ∧ Below w.heap.size w wr) (fun v _ => n - (intOf v).toNat)
  case atStart =>
    refine ⟨0, by omega, rfl, ?_, (Below.refl _ _).alloc (Nat.le_refl _) _⟩
    refine (heap_new rfl).trans ?_
    exact congrArg (fun c => some (Obj.cells c 4)) (vals_congr fun i _ => by simp)
  case round =>
    obtain ⟨k, hk, rfl, hr, hb⟩ := hrel
    clear hmk
    by_cases hkn : k < n
    · obtain ⟨b, off, rfl, hbb, ck0⟩ := bys_at H.out (k / 8) (by omega)
      have ck := (below_cell hb hbb).trans ck0
      have hmq := HM.out (k / 8) (by omega)
      obtain ⟨u, cw⟩ : ∃ u, wr.cell? ⟨w.heap.size, k, none⟩ = some (.bool u) := ⟨_, vals_cell hr k hkn⟩
      have fw := row_frozen hr k
      obtain ⟨q, eq⟩ : ∃ q, k / 8 = q := ⟨_, rfl⟩
      obtain ⟨r, er⟩ : ∃ r, k % 8 = r := ⟨_, rfl⟩
      rw [eq] at ck hmq
      obtain ⟨B, eB⟩ : ∃ B, m q = B := ⟨_, rfl⟩
      rw [eB] at ck hmq
      have e1 : (k : Int) / 8 = (q : Int) := by omega
      have e2 : (k : Int) % 8 = (r : Int) := by omega
      have q1 : (q : Int) < (len : Int) := by omega
      have q2 : (0 : Int) ≤ (q : Int) := by omega
      have r1 : (r : Int) < 8 := by omega
      have r2 : (0 : Int) ≤ (r : Int) := by omega
      have k1 : (k : Int) < (n : Int) := by omega
      have k2 : (0 : Int) ≤ (k : Int) := by omega
      have b1 : (B : Int) < 256 := by omega
      have b2 : (0 : Int) ≤ (B : Int) := by omega
      have HR := hid hr
      have HB := hid hb
      have EE := hid (And.intro eq (And.intro er eB))
      clear hr hb ck0 eq er eB hmq
      go_wp2
      go_roundw
      case rel =>
        obtain ⟨eq, er, eB⟩ := EE.out
        refine ⟨k + 1, by omega, by go_num, ?_, HB.out.setCell (by simp) _⟩
        refine (row_set HR.out k _).trans ?_
        unfold bvs
        rw [vals_set, and_bit B r (by omega)]
        refine congrArg (fun c => some (Obj.cells c 4)) (vals_congr fun i _ => ?_)
        show (if i = k then Value.bool (B.testBit r) else Value.bool (decide (i < k) && tb m i)) = Value.bool (decide (i < k + 1) && tb m i)
        by_cases hi : i = k
        · rw [if_pos hi, hi]
          unfold tb
          rw [eq, er, eB]
          simp
        · rw [if_neg hi, decide_eq_decide.2 (show i < k ↔ i < k + 1 by omega)]
      case measure => simp [intOf]; omega
    · have ek : k = n := by omega
      subst ek
      have HR := hid hr
      have HB := hid hb
      clear hr hb
      go_wp2
      go_ret
      refine ⟨rfl, ?_, HB.out⟩
      rw [HR.out]
      exact congrArg (fun c => some (Obj.cells c 4)) (vals_congr fun i hi => by simp [hi])

end Go.Proofs.YtokbhcgooboocaaGreatDoor.Z
namespace Go.Proofs.YtokbhcgooboocaaGreatDoor.Z
open Go.RowKit
set_option linter.unusedVariables false
set_option linter.unusedSimpArgs false

theorem bls_lt {w : World} {a : Option Addr} {len cap : Nat} {f : Nat → Bool} (h : Bls w a len cap f) (hp : 0 < len) : ∀ x, a = some x → x.block < w.heap.size := by
  intro x hx
  obtain ⟨b, off, h1, h2, _⟩ := bls_at h 0 hp
  rw [h1] at hx
  cases hx
  exact h2

theorem set_none (a : Option Addr) (cap g N : Nat) (w : World) :
    Calls Tryz.prog 54 #[.slice (some ⟨g, 0, none⟩) N N, .slice a 0 cap] w fun e w' => e = .returned (.tuple #[]) ∧ w' = w := by
  go_enter Tryz.func54, Tryz.ntmps54
  go_wp2
  go_loopw [8] (fun v wr => v = .int .i64 0 ∧ wr = w) (fun v _ => 0)
  case atStart => exact ⟨rfl, rfl⟩
  case round =>
    obtain ⟨rfl, rfl⟩ := hrel
    go_wp2
    go_end0
    exact ⟨rfl, rfl⟩

theorem vs0 (f : Nat → Bool) (N : Nat) : vs .u8 N (fun _ => 0) = vs .u8 N (fun q => (byt f 0 q : Int)) := vs_congr fun q _ => by rw [byt_zero]; rfl

/-- set, whatever the bits are. -/
theorem set_new (f : Nat → Bool) (a : Option Addr) (n cap N : Nat) (w : World) (h : Bls w a n cap f) (hN : n ≤ 8 * N) :
    Calls Tryz.prog 54 #[.slice (some ⟨w.heap.size, 0, none⟩) N N, .slice a n cap] (w.alloc (.cells (vs .u8 N (fun _ => 0)) 5)) fun e w' => e = .returned (.tuple #[]) ∧ w'.heap[w.heap.size]? = some (.cells (vs .u8 N (fun q => (byt f n q : Int))) 5) ∧ Below w.heap.size w w' ∧ w'.heap.size = w.heap.size + 1 := by
  have hb : Below w.heap.size w (w.alloc (.cells (vs .u8 N (fun _ => 0)) 5)) := (Below.refl _ _).alloc (Nat.le_refl _) _
  by_cases h0 : 0 < n
  · refine (set_any f a n cap w.heap.size N 5 _ (h.below hb) ((heap_new rfl).trans (by rw [vs0 f])) hN (bls_lt h h0)).mono ?_
    rintro e w' ⟨rfl, h1, h2, h3⟩
    exact ⟨rfl, h1, hb.trans h2, h3.trans (by simp)⟩
  · have e0 : n = 0 := by omega
    subst e0
    refine (set_none a cap _ N _).mono ?_
    rintro e w' ⟨rfl, rfl⟩
    exact ⟨rfl, (heap_new rfl).trans (by rw [vs0 f]), hb, by simp⟩

theorem vector_any (f : Nat → Bool) (a : Option Addr) (n cap : Nat) (w : World) (h : Bls w a n cap f) (hn : n ≤ 140737488355328) :
    Calls Tryz.prog 25 #[.slice a n cap] w fun e w' => e = .returned (.slice (some ⟨w.heap.size, 0, none⟩) ((n + 7) / 8) ((n + 7) / 8)) ∧ w'.heap[w.heap.size]? = some (.cells (vs .u8 ((n + 7) / 8) (fun q => (byt f n q : Int))) 5) ∧ Below w.heap.size w w' ∧ w'.heap.size = w.heap.size + 1 := by
  have hs := set_new f a n cap ((n + 7) / 8) w h (by omega)
  have hv := vbytes_any n w (by omega)
  have hmk := make_bytes w ((n + 7) / 8) (by omega)
  obtain ⟨N, eN⟩ : ∃ N, (n + 7) / 8 = N := ⟨_, rfl⟩
  rw [eN] at hs hv hmk ⊢
  have HS := hid hs
  have HV := hid hv
  clear h hs hv eN
  go_enter Tryz.func25, Tryz.ntmps25
  go_wp2_with (first
    | (go_at_call 61; refine HV.out.mono ?_; rintro e w1 ⟨rfl, rfl⟩)
    | (go_at_call 54; refine HS.out.mono ?_; rintro e w2 ⟨rfl, x1, x2, x3⟩))
  go_ret
  exact ⟨rfl, x1, x2, x3⟩

/-- The bits, and one that is set behind them. -/
def ext (f : Nat → Bool) (n : Nat) (j : Nat) : Bool := decide (j = n) || f j

theorem ext_congr (f : Nat → Bool) (n j : Nat) (h : j < n) : ext f n j = f j := by
  unfold ext
  simp [show ¬ j = n by omega]

theorem ext_at (f : Nat → Bool) (n : Nat) : ext f n n = true := by simp [ext]

set_option maxHeartbeats 400000 in
theorem list_any (f : Nat → Bool) (a : Option Addr) (n cap : Nat) (w : World) (h : Bls w a n cap f) (hn : n ≤ 140737488355328) :
    Calls Tryz.prog 21 #[.slice a n cap] w fun e w' => e = .returned (.slice (some ⟨w.heap.size, 0, none⟩) (n / 8 + 1) (n / 8 + 1)) ∧ w'.heap[w.heap.size]? = some (.cells (vs .u8 (n / 8 + 1) (fun q => (byt (ext f n) (n + 1) q : Int))) 5) ∧ Below w.heap.size w w' ∧ w'.heap.size = w.heap.size + 1 := by
  have hs := set_new f a n cap (n / 8 + 1) w h (by omega)
  have hmk := make_bytes w (n / 8 + 1) (by omega)
  obtain ⟨q, eq⟩ : ∃ q, n / 8 = q := ⟨_, rfl⟩
  obtain ⟨r, er⟩ : ∃ r, n % 8 = r := ⟨_, rfl⟩
  have e1 : (n : Int) / 8 = (q : Int) := by omega
  have e2 : (n : Int) % 8 = (r : Int) := by omega
  have r1 : (r : Int) < 8 := by omega
  have r2 : (0 : Int) ≤ (r : Int) := by omega
  have q2 : (0 : Int) ≤ (q : Int) := by omega
  have q3 : (q : Int) < ((q + 1 : Nat) : Int) := by omega
  have q4 : (q : Int) ≤ 140737488355328 := by omega
  have k2 : (0 : Int) ≤ (n : Int) := by omega
  rw [eq] at hs hmk ⊢
  rw [show (((q + 1 : Nat) : Int)) = (q : Int) + 1 by omega] at hmk
  have HS := hid hs
  have EE := hid (And.intro eq er)
  clear h hs eq er
  go_enter Tryz.func21, Tryz.ntmps21
  go_wp2_with (go_at_call 54; refine HS.out.mono ?_; rintro e w2 ⟨rfl, x1, x2, x3⟩; have cq := row_int x1 q (by omega); have fq := row_frozen x1 q; obtain ⟨B, eB⟩ : ∃ B, byt f n q = B := ⟨_, rfl⟩; rw [eB] at cq; have X := hid (And.intro x1 (And.intro x2 (And.intro x3 eB))); clear x1 x2 x3 eB)
  go_region
  go_wp2
  go_ret
  obtain ⟨eq, er⟩ := EE.out
  obtain ⟨x1, x2, x3, eB⟩ := X.out
  refine ⟨rfl, ?_, (x2.setCell (by simp) _).drew, (size_set _ _ _).trans x3⟩
  refine (row_set x1 q _).trans ?_
  rw [vs_set]
  refine congrArg (fun c => some (Obj.cells c 5)) (vs_congr fun i _ => ?_)
  by_cases hi : i = q
  · rw [if_pos hi, or_pow B r (by rw [← eB]; exact byt_lt _ _ _) (by omega), hi, ← eB, ← eq, ← er, ← byt_or (ext f n) n (ext_at f n), byt_congr (ext_congr f n)]
  · rw [if_neg hi, byt_other (ext f n) n i (by omega), byt_congr (ext_congr f n)]

end Go.Proofs.YtokbhcgooboocaaGreatDoor.Z
namespace Go.Proofs.YtokbhcgooboocaaGreatDoor.Z
open Go.RowKit
set_option linter.unusedVariables false
set_option linter.unusedSimpArgs false

def bbl (f : Nat → Bool) (n : Nat) : List Value := (List.range n).map fun i => Value.bool (f i)

theorem bbl_len (f : Nat → Bool) (n : Nat) : (bbl f n).length = n := by simp [bbl]

theorem bbl_one (f : Nat → Bool) (n : Nat) : ∀ u ∈ bbl f n, u.oneCell' = true := by
  intro u hu
  obtain ⟨i, _, rfl⟩ := List.mem_map.1 hu
  rfl

theorem bbl_get (f : Nat → Bool) (n j : Nat) (u : Value) (h : (bbl f n)[j]? = some u) : j < n ∧ u = .bool (f j) := by
  have hj := (List.getElem?_eq_some_iff.1 h).1
  rw [bbl_len] at hj
  refine ⟨hj, ?_⟩
  unfold bbl at h
  rw [List.getElem?_map, List.getElem?_range hj] at h
  simpa using h.symm

theorem bbl_at (f : Nat → Bool) (n j : Nat) (hj : j < n) : (bbl f n)[j]? = some (.bool (f j)) := by
  unfold bbl
  rw [List.getElem?_map, List.getElem?_range hj]
  rfl

theorem bbl_snoc (f : Nat → Bool) (n : Nat) (v : Bool) (hv : v = f n) : bbl f n ++ [.bool v] = bbl f (n + 1) := by
  unfold bbl
  rw [List.range_succ, List.map_append, hv]
  rfl

theorem bbl_congr {f g : Nat → Bool} {n : Nat} (h : ∀ i, i < n → f i = g i) : bbl f n = bbl g n := by
  unfold bbl
  refine List.map_congr_left fun i hi => ?_
  rw [h i (List.mem_range.1 hi)]

/-- append of bits onto a slice of the call's own. -/
theorem wpList_append_bls (w : World) {ops : Array Oper} {rest : List Oper} {o : Oper} {a : Act} {Q : Exit → Act → World → Prop} (hgd : o.guard = none) (s x : Operand)
    (ho : o.op = .call { callee := .builtin .append, args := #[s, x], argTypes := #[22, 22] })
    (base : Nat) (v : Value) (n : Nat) (xs : List Value) (hs : a.eval s = v) (hown : w.ownsRow base 4 1 v n xs)
    (ao : Option Addr) (len cap : Nat) (f : Nat → Bool) (hx : a.eval x = .slice ao len cap) (hb : Bls w ao len cap f) (hbd : n + len ≤ 140737488355328) (hbase : base ≤ w.heap.size)
    (h : ∀ v' w', w'.ownsRow base 4 1 v' (n + len) (xs ++ bbl f len) → w.grownBy w' v.ownBlock → wpList Tryz.prog ops Q rest (a.put o.dst v') w') :
    wpList Tryz.prog ops Q (o :: rest) a w := by
  obtain ⟨i, hi, hz0, hz1, hz2⟩ := info_parts infoB
  rcases hb with ⟨rfl, rfl, rfl⟩ | ⟨x0, rfl, rfl⟩ | ⟨b, off, rfl, hlc, hcm, hbl, hc⟩
  · refine wpList_append_own_none hgd s x 22 ho base 4 i 1 Tryz.underlying22 hi v n xs hs hown hx (h v w ?_ ⟨rfl, rfl, rfl, Nat.le_refl _, fun _ _ _ => rfl⟩)
    simpa [bbl] using hown
  · exact wpList_append_own w hgd s x 22 ho base 4 i (.bool false) 1 1 Tryz.underlying22 hi hz0 hz1 hz2 rfl (by decide) v n xs hs hown x0 0 cap (bbl f 0) hx (by rw [bbl_len])
      (fun j u hj => by
        have := (bbl_get f 0 j u hj).1
        omega) (bbl_one f 0) (by unfold maxLen; omega) (by omega) hbase (fun v' w' h1 h2 _ => h v' w' h1 h2)
  · exact wpList_append_own w hgd s x 22 ho base 4 i (.bool false) 1 1 Tryz.underlying22 hi hz0 hz1 hz2 rfl (by decide) v n xs hs hown ⟨b, off, none⟩ len cap (bbl f len) hx (by rw [bbl_len]; omega)
      (fun j u hj => by
        obtain ⟨h1, rfl⟩ := bbl_get f len j u hj
        rw [addr_add]
        exact hc j h1) (bbl_one f len) (by unfold maxLen; omega) (by omega) hbase (fun v' w' h1 h2 _ => h v' w' h1 h2)

/-- append of one bit. -/
theorem wpList_append_bit (w : World) {ops : Array Oper} {rest : List Oper} {o : Oper} {a : Act} {Q : Exit → Act → World → Prop} (hgd : o.guard = none) (s x : Operand)
    (ho : o.op = .call { callee := .builtin .append, args := #[s, x], argTypes := #[22, 22] })
    (base : Nat) (v : Value) (n : Nat) (f : Nat → Bool) (z : Bool) (hs : a.eval s = v) (hown : w.ownsRow base 4 1 v n (bbl f n))
    (hx : a.eval x = .slice (some ⟨w.heap.size, 0, none⟩) 1 1) (hz : z = f n) (hbd : n + 1 ≤ 140737488355328) (hbase : base ≤ w.heap.size)
    (h : ∀ g C w', w'.ownsRow base 4 1 (.slice (some ⟨g, 0, none⟩) (n + 1) C) (n + 1) (bbl f (n + 1)) → w.grownBy w' v.ownBlock → wpList Tryz.prog ops Q rest (a.put o.dst (.slice (some ⟨g, 0, none⟩) (n + 1) C)) w') :
    wpList Tryz.prog ops Q (o :: rest) a (w.alloc (.cells #[.bool z] 4)) := by
  obtain ⟨i, hi, hz0, hz1, hz2⟩ := info_parts infoB
  refine wpList_append_own _ hgd s x 22 ho base 4 i (.bool false) 1 1 Tryz.underlying22 hi hz0 hz1 hz2 rfl (by decide) v n (bbl f n) hs (hown.alloc _) ⟨w.heap.size, 0, none⟩ 1 1 [.bool z] hx rfl (cell_one_new _ _ _)
    (fun u hu => by simp at hu; subst hu; rfl) (by unfold maxLen; omega) (by omega) (by simp; omega) (fun v' w' h1 h2 _ => ?_)
  rw [bbl_snoc f n z hz] at h1
  obtain ⟨g, C, rfl⟩ := owns_pos h1 (by omega)
  refine h g C w' h1 ⟨h2.os, h2.tape, h2.output, ?_, fun k hk hne => ?_⟩
  · have := h2.size
    simp at this
    omega
  · exact (h2.block k (by simp; omega) hne).trans (heap_old hk)

/-- The bits of a slice of the call's own. -/
theorem owns_bls {w : World} {B : Nat} {v : Value} {n : Nat} {f : Nat → Bool} (h : w.ownsRow B 4 1 v n (bbl f n)) : ∃ a C, v = .slice a n C ∧ n ≤ C ∧ C ≤ 9223372036854775807 ∧ Bls w a n C f ∧ ∀ x, a = some x → B ≤ x.block := by
  rcases h.2 with ⟨h1, h0⟩ | ⟨g, cap, cur, h1, h2, h3, h4, h5, h6, h7⟩
  · subst h0
    exact ⟨none, 0, h1, Nat.le_refl _, by omega, .inl ⟨rfl, rfl, rfl⟩, fun x hx => by cases hx⟩
  · unfold maxLen at h5
    refine ⟨_, cap, h1, h4, by omega, .inr (.inr ⟨g, 0, rfl, h4, by omega, (Array.getElem?_eq_some_iff.1 h3).1, fun j hj => ?_⟩), fun x hx => by cases hx; exact h2⟩
    subst h1
    have := h.cells (g := g) rfl j _ (bbl_at f n j hj)
    rw [addr_add] at this
    exact this

/-- A slice of bits, whole. -/
def slB (x : Value) (lo hi : Option Value) : Sem Value := Instr.sliceAt 22 x lo hi none

theorem slB_eq (x : Value) (lo hi : Option Value) : Instr.sliceAt 22 x lo hi none = slB x lo hi := rfl

theorem slB_run (W : World) (ao : Option Addr) (len cap hi : Nat) (h2 : hi ≤ cap) :
    (slB (.slice ao len cap) none (some (.int .i64 hi))).run Tryz.prog W = .ok (.slice ao hi cap) W := by
  have hi8 : ∃ i, Tryz.prog.info? 4 = some i ∧ i.size = 1 := by
    obtain ⟨i, hi, _, hz, _⟩ := info_parts infoB
    exact ⟨i, hi, hz⟩
  obtain ⟨i, hi8, hz⟩ := hi8
  have b1 : ∀ (k n : Nat) (c : BoundsCode), k ≤ n → (Instr.sliceBound (.int .i64 (k : Int)) n c).run Tryz.prog W = .ok k W := by
    intro k n c hk
    have h0 : (k : Int) ≤ (n : Int) := by omega
    simp [Instr.sliceBound, asIntOf, h0]
  have c2 := fun c => b1 hi cap c h2
  have am : ∀ y : Addr, y.add 0 = y := fun y => rfl
  unfold slB Instr.sliceAt
  cases ao <;> simp [run_underlying Tryz.underlying22, Instr.slice, Instr.sliceBounds, c2, sizeOf, typeInfo, hi8, hz, am]

end Go.Proofs.YtokbhcgooboocaaGreatDoor.Z
namespace Go.Proofs.YtokbhcgooboocaaGreatDoor.Z
open Go.RowKit
set_option linter.unusedVariables false
set_option linter.unusedSimpArgs false

theorem add_pow (B r : Nat) (hr : r < 8) (hs : B + 2 ^ r < 256) : ((B : Int) + 2 ^ r) % 256 = ((B + 2 ^ r : Nat) : Int) := by
  rw [show ((2 : Int) ^ r) = ((2 ^ r : Nat) : Int) by simp, ← Int.natCast_add]
  exact Int.emod_eq_of_lt (Int.natCast_nonneg _) (Int.ofNat_lt.2 hs)

set_option maxHeartbeats 400000 in
theorem rvector_any (f : Nat → Bool) (a : Option Addr) (n cap : Nat) (w : World) (h : Bls w a n cap f) (hnb : n ≤ 140737488355328) :
    Calls Tryz.prog 35 #[.slice a n cap] w fun e w' => e = .returned (.slice (some ⟨w.heap.size, 0, none⟩) ((n + 7) / 8) ((n + 7) / 8)) ∧ w'.heap[w.heap.size]? = some (.cells (vs .u8 ((n + 7) / 8) (fun q => (byt f n q : Int))) 5) ∧ Below w.heap.size w w' ∧ w'.heap.size = w.heap.size + 1 := by
  have hmk := make_bytes w ((n + 7) / 8) (by omega)
  obtain ⟨N, eN⟩ : ∃ N, (n + 7) / 8 = N := ⟨_, rfl⟩
  have eN' : ((n : Int) + 7) / 8 = (N : Int) := by omega
  have hN : n ≤ 8 * N := by omega
  rw [eN] at hmk ⊢
  have H := hid h
  have hn : (n : Int) ≤ 140737488355328 := by omega
  have n0 : (0 : Int) ≤ (n : Int) := by omega
  clear h eN
  go_enter Tryz.func35, Tryz.ntmps35
  go_wp2
  go_loopw [4] (fun v wr => ∃ k : Nat, k ≤ n ∧ v = .int .i64 k ∧ wr.heap[w.heap.size]? = some (.cells (vs .u8 N (fun q => (byt f k q : Int))) 5) ∧ Below w.heap.size w wr ∧ wr.heap.size = w.heap.size + 1) (fun v _ => n - (intOf v).toNat)
  case atStart => exact ⟨0, by omega, rfl, (heap_new rfl).trans (by rw [vs0 f]), (Below.refl _ _).alloc (Nat.le_refl _) _, by simp⟩
  case round =>
    obtain ⟨k, hk, rfl, hr, hb, hz⟩ := hrel
    clear hmk
    by_cases hkn : k < n
    · obtain ⟨b, off, rfl, hbb, ck0⟩ := bls_at H.out k hkn
      have ck := (below_cell hb hbb).trans ck0
      obtain ⟨x, ex⟩ : ∃ x, f k = x := ⟨_, rfl⟩
      rw [ex] at ck
      have k1 : (k : Int) < (n : Int) := by omega
      have k2 : (0 : Int) ≤ (k : Int) := by omega
      have HR := hid hr
      have HB := hid hb
      have HZ := hid hz
      have EX := hid ex
      clear ck0 ex
      cases x
      · clear hr hb hz
        go_wp2
        go_roundw
        case rel =>
          refine ⟨k + 1, by omega, by go_num, ?_, HB.out, HZ.out⟩
          rw [HR.out]
          exact congrArg (fun c => some (Obj.cells c 5)) (vs_congr fun q _ => by rw [byt_skip f k q EX.out])
        case measure => simp [intOf]; omega
      · have cq := row_int hr (k / 8) (by omega)
        have fq := row_frozen hr (k / 8)
        obtain ⟨q, eq⟩ : ∃ q, k / 8 = q := ⟨_, rfl⟩
        obtain ⟨B, eB⟩ : ∃ B, byt f k q = B := ⟨_, rfl⟩
        obtain ⟨r, er⟩ : ∃ r, k % 8 = r := ⟨_, rfl⟩
        have e1 : (k : Int) / 8 = (q : Int) := by omega
        have e2 : (k : Int) % 8 = (r : Int) := by omega
        have q1 : (q : Int) < (N : Int) := by omega
        have q2 : (0 : Int) ≤ (q : Int) := by omega
        have r1 : (r : Int) < 8 := by omega
        have r2 : (0 : Int) ≤ (r : Int) := by omega
        rw [eq] at cq fq
        rw [eB] at cq
        have EE := hid (And.intro eq (And.intro er eB))
        clear hr hb hz eq er eB
        go_wp2
        go_roundw
        case rel =>
          obtain ⟨eq, er, eB⟩ := EE.out
          refine ⟨k + 1, by omega, by go_num, ?_, HB.out.setCell (by simp) _, ?_⟩
          · refine (row_set HR.out q _).trans ?_
            rw [vs_set]
            refine congrArg (fun c => some (Obj.cells c 5)) (vs_congr fun i _ => ?_)
            by_cases hi : i = q
            · have e3 := byt_add f k EX.out
              have e4 := byt_lt f (k + 1) (k / 8)
              rw [← e3, eq, er, eB] at e4
              rw [eq, er, eB] at e3
              rw [if_pos hi, add_pow B r (by omega) e4, hi, e3]
            · rw [if_neg hi, byt_other f k i (by omega)]
          · exact (size_set _ _ _).trans HZ.out
        case measure => simp [intOf]; omega
    · have ek : k = n := by omega
      subst ek
      have HR := hid hr
      have HB := hid hb
      clear hr hb
      go_wp2
      go_ret
      exact ⟨rfl, HR.out, HB.out, hz⟩

/-- What a copy of bits, and one more, is. -/
theorem copy_owns {w w1 : World} {v : Value} {n : Nat} {f g : Nat → Bool} {B : Nat} (h : w1.ownsRow B 4 1 v (0 + n) ([] ++ bbl f n)) (he : ∀ i, i < n → f i = g i) : w1.ownsRow B 4 1 v n (bbl g n) := by
  rw [Nat.zero_add, List.nil_append, bbl_congr he] at h
  exact h

theorem empty_owns (w : World) : (w.alloc (.cells #[] 4)).ownsRow w.heap.size 4 1 (.slice (some ⟨w.heap.size, 0, none⟩) 0 0) 0 [] :=
  World.ownsRow_made w #[] 0 (Nat.le_refl _) (Nat.zero_le _) rfl

theorem ext_of (f : Nat → Bool) (n : Nat) : ∀ i, i < n → f i = ext f n i := fun i hi => (ext_congr f n i hi).symm

theorem rlist_any (f : Nat → Bool) (a : Option Addr) (n cap : Nat) (w : World) (h : Bls w a n cap f) (hn : n + 1 ≤ 140737488355328) :
    Calls Tryz.prog 29 #[.slice a n cap] w fun e w' => ∃ g, e = .returned (.slice (some ⟨g, 0, none⟩) (n / 8 + 1) (n / 8 + 1)) ∧ w.heap.size ≤ g ∧ w'.heap[g]? = some (.cells (vs .u8 (n / 8 + 1) (fun q => (byt (ext f n) (n + 1) q : Int))) 5) ∧ Below w.heap.size w w' := by
  have hb0 : Below w.heap.size w (w.alloc (.cells #[] 4)) := (Below.refl _ _).alloc (Nat.le_refl _) _
  have H := hid (h.below hb0)
  have HB0 := hid hb0
  clear h hb0
  go_enter Tryz.func29, Tryz.ntmps29
  go_wp2_with (first
    | (at_builtin; refine wpList_append_bls _ rfl _ _ rfl w.heap.size _ 0 [] rfl (empty_owns w) a n cap f rfl H.out (by omega) (by simp) ?_; intro v1 w1 ho1 hg1; have hb1 := below_grown HB0.out (empty_owns w) (by simp) hg1; have HO1 := hid (copy_owns (w := w) ho1 (ext_of f n)); have HB1 := hid hb1; have hz1 := hb1.size; clear ho1 hg1 hb1)
    | (at_builtin; refine wpList_append_bit w1 rfl _ _ rfl w.heap.size v1 n (ext f n) true rfl HO1.out rfl (ext_at f n).symm hn hz1 ?_; intro g C w2 ho2 hg2; have hb2 := below_grown HB1.out HO1.out hz1 hg2; have HO2 := hid ho2; have HB2 := hid hb2; have hz2 := hb2.size; clear ho2 hg2 hb2)
    | (go_at_call 35; refine (rvector_any (ext f n) _ (n + 1) C w2 (by obtain ⟨a', C', he, _, _, hbl, _⟩ := owns_bls HO2.out; cases he; exact hbl) hn).mono ?_; rintro e w3 ⟨rfl, x1, x2, x3⟩))
  go_ret
  have e : (n + 1 + 7) / 8 = n / 8 + 1 := by omega
  rw [e] at x1 ⊢
  exact ⟨_, rfl, hz2, x1, HB2.out.trans (x2.mono hz2)⟩

end Go.Proofs.YtokbhcgooboocaaGreatDoor.Z
namespace Go.Proofs.YtokbhcgooboocaaGreatDoor.Z
open Go.RowKit
set_option linter.unusedVariables false
set_option linter.unusedSimpArgs false

/-- How many bits a byte has. -/
def l8 (x : Nat) : Nat := if x = 0 then 0 else x.log2 + 1

theorem l8_eq : ∀ n : Fin 256, Lib.bitLen n.val = l8 n.val := by decide +kernel

theorem len8_any (x : Nat) (w : World) (hx : x < 256) :
    Calls Tryz.prog 79 #[.int .u8 x] w fun e w' => e = .returned (.int .i64 (l8 x)) ∧ w' = w := by
  have h := Tryz.bits_Len8 x w (by omega) (by omega)
  rw [Int.toNat_natCast, l8_eq ⟨x, hx⟩] at h
  exact h

/-- The answer: bits or none, and an error. -/
def Ans (m : Nat → Nat) (N : Nat) (E : Int) (w : World) (e : Ending) (w' : World) : Prop :=
  ∃ a c, e = .returned (.tuple #[.slice a N c, .int .i64 E]) ∧ Bls w' a N c (tb m) ∧ Below w.heap.size w w'

theorem ans_none {m : Nat → Nat} {E : Int} {w : World} : Ans m 0 E w (.returned (.tuple #[.slice none 0 0, .int .i64 E])) w := ⟨none, 0, rfl, .inl ⟨rfl, rfl, rfl⟩, Below.refl _ _⟩

end Go.Proofs.YtokbhcgooboocaaGreatDoor.Z
namespace Go.Proofs.YtokbhcgooboocaaGreatDoor.Z
open Go.RowKit
set_option linter.unusedVariables false
set_option linter.unusedSimpArgs false

/-- How many bits a list's bytes tell; why ReadList answers none (0: it does), and how many it answers. -/
def rlL (m : Nat → Nat) (len : Nat) : Nat := 8 * (len - 1) + (m (len - 1)).log2

def rlE (m : Nat → Nat) (len : Nat) (n : Int) : Int := if n < 0 ∨ 4096 < n then 1 else if len = 0 then 4 else if m (len - 1) = 0 then 5 else if n < rlL m len then 6 else 0

def rlN (m : Nat → Nat) (len : Nat) (n : Int) : Nat := if rlE m len n = 0 then rlL m len else 0

theorem rl_arg {m : Nat → Nat} {len : Nat} {n : Int} (h : n < 0 ∨ 4096 < n) : rlE m len n = 1 ∧ rlN m len n = 0 := by
  have e : rlE m len n = 1 := by unfold rlE; rw [if_pos h]
  exact ⟨e, by unfold rlN; rw [e]; rfl⟩

theorem rl_size {m : Nat → Nat} {len : Nat} {n : Int} (h1 : ¬ (n < 0 ∨ 4096 < n)) (h : len = 0) : rlE m len n = 4 ∧ rlN m len n = 0 := by
  have e : rlE m len n = 4 := by unfold rlE; rw [if_neg h1, if_pos h]
  exact ⟨e, by unfold rlN; rw [e]; rfl⟩

theorem rl_form {m : Nat → Nat} {len : Nat} {n : Int} (h1 : ¬ (n < 0 ∨ 4096 < n)) (h : ¬ len = 0) (hf : m (len - 1) = 0) : rlE m len n = 5 ∧ rlN m len n = 0 := by
  have e : rlE m len n = 5 := by unfold rlE; rw [if_neg h1, if_neg h, if_pos hf]
  exact ⟨e, by unfold rlN; rw [e]; rfl⟩

theorem rl_long {m : Nat → Nat} {len : Nat} {n : Int} (h1 : ¬ (n < 0 ∨ 4096 < n)) (h : ¬ len = 0) (hf : ¬ m (len - 1) = 0) (hl : n < rlL m len) : rlE m len n = 6 ∧ rlN m len n = 0 := by
  have e : rlE m len n = 6 := by unfold rlE; rw [if_neg h1, if_neg h, if_neg hf, if_pos hl]
  exact ⟨e, by unfold rlN; rw [e]; rfl⟩

theorem rl_ok {m : Nat → Nat} {len : Nat} {n : Int} (h1 : ¬ (n < 0 ∨ 4096 < n)) (h : ¬ len = 0) (hf : ¬ m (len - 1) = 0) (hl : ¬ n < rlL m len) : rlE m len n = 0 ∧ rlN m len n = rlL m len := by
  have e : rlE m len n = 0 := by unfold rlE; rw [if_neg h1, if_neg h, if_neg hf, if_neg hl]
  exact ⟨e, by unfold rlN; rw [if_pos e]⟩

theorem log2_lt8 {x : Nat} (h : x < 256) : x.log2 < 8 := by
  by_cases h0 : x = 0
  · subst h0; decide
  · exact (Nat.log2_lt h0).2 h

set_option maxRecDepth 20000 in
set_option maxHeartbeats 400000 in
theorem readl_any (m : Nat → Nat) (a : Option Addr) (len cap : Nat) (n : Int) (w : World) (h : Bys w a len cap (fun q => (m q : Int))) (hm : ∀ q, q < len → m q < 256) (hlen : len ≤ 140737488355328) :
    Calls Tryz.prog 38 #[.slice a len cap, .int .i64 n] w (Ans m (rlN m len n) (rlE m len n) w) := by
  by_cases h1 : n < 0
  · obtain ⟨e1, e2⟩ := rl_arg (m := m) (len := len) (.inl h1)
    rw [e1, e2]
    clear h hm e1 e2
    go_enter Tryz.func38, Tryz.ntmps38
    go_wp2
    go_ret2
    exact ans_none
  by_cases h2 : 4096 < n
  · obtain ⟨e1, e2⟩ := rl_arg (m := m) (len := len) (.inr h2)
    rw [e1, e2]
    clear h hm e1 e2
    go_enter Tryz.func38, Tryz.ntmps38
    go_wp2
    go_ret2
    exact ans_none
  have hn : ¬ (n < 0 ∨ 4096 < n) := by omega
  obtain ⟨N, rfl⟩ : ∃ N : Nat, n = (N : Int) := ⟨n.toNat, by omega⟩
  by_cases h3 : len = 0
  · obtain ⟨e1, e2⟩ := rl_size (m := m) hn h3
    rw [e1, e2]
    subst h3
    clear h hm e1 e2 hn
    go_enter Tryz.func38, Tryz.ntmps38
    go_wp2
    go_ret2
    exact ans_none
  obtain ⟨b, off, rfl, hbb, ck⟩ := bys_at h (len - 1) (by omega)
  have hmq := hm (len - 1) (by omega)
  obtain ⟨q, eq⟩ : ∃ q, len - 1 = q := ⟨_, rfl⟩
  have hL : rlL m len = 8 * q + (m q).log2 := by unfold rlL; rw [eq]
  rw [eq] at ck hmq
  have e1 : (len : Int) - 1 = (q : Int) := by omega
  have q1 : (q : Int) < (len : Int) := by omega
  have q2 : (0 : Int) ≤ (q : Int) := by omega
  have q3 : (q : Int) ≤ 140737488355328 := by omega
  have l0 : ¬ (len : Int) = 0 := by omega
  have h2' : (N : Int) ≤ 4096 := by omega
  by_cases h4 : m q = 0
  · obtain ⟨e3, e4⟩ := rl_form (m := m) hn h3 (by rw [eq]; exact h4)
    rw [e3, e4]
    rw [h4] at ck
    clear h hm e3 e4 hn hL hmq h3 eq
    go_enter Tryz.func38, Tryz.ntmps38
    go_wp2
    go_ret2
    exact ans_none
  have hlog := log2_lt8 hmq
  have hl8 : l8 (m q) = (m q).log2 + 1 := by unfold l8; rw [if_neg h4]
  have HL8 := hid (len8_any (m q) w hmq)
  by_cases h5 : (N : Int) < rlL m len
  · obtain ⟨e3, e4⟩ := rl_long (m := m) hn h3 (by rw [eq]; exact h4) h5
    rw [e3, e4]
    rw [hL] at h5
    rw [hl8] at HL8
    obtain ⟨B, eB⟩ : ∃ B, m q = B := ⟨_, rfl⟩
    rw [eB] at ck h4 h5 HL8 hlog hmq
    obtain ⟨G, eG⟩ : ∃ G, B.log2 = G := ⟨_, rfl⟩
    rw [eG] at h5 HL8 hlog
    have b1 : (B : Int) < 256 := by omega
    have b2 : ¬ (B : Int) = 0 := by omega
    have g1 : (G : Int) < 8 := by omega
    have g2 : (0 : Int) ≤ (G : Int) := by omega
    have h5' : (N : Int) < (q : Int) * 8 + (G : Int) := by omega
    rw [show (((G + 1 : Nat)) : Int) = (G : Int) + 1 by omega] at HL8
    clear h hm e3 e4 hn hL hmq h3 eq hl8 h5 h4 eB eG hlog
    go_enter Tryz.func38, Tryz.ntmps38
    go_wp2_with (go_at_call 79; refine HL8.out.mono ?_; rintro e w1 ⟨rfl, rfl⟩)
    go_ret2
    exact ans_none
  · obtain ⟨e3, e4⟩ := rl_ok (m := m) hn h3 (by rw [eq]; exact h4) h5
    rw [e3, e4]
    rw [hL] at h5 ⊢
    rw [hl8] at HL8
    have HRD := hid (read_any m (some ⟨b, off, none⟩) len cap (8 * q + (m q).log2) w h hm (by omega) (by omega) (by omega))
    obtain ⟨B, eB⟩ : ∃ B, m q = B := ⟨_, rfl⟩
    rw [eB] at ck h4 h5 HL8 hlog hmq HRD ⊢
    obtain ⟨G, eG⟩ : ∃ G, B.log2 = G := ⟨_, rfl⟩
    rw [eG] at h5 HL8 hlog HRD ⊢
    have b1 : (B : Int) < 256 := by omega
    have b2 : ¬ (B : Int) = 0 := by omega
    have g1 : (G : Int) < 8 := by omega
    have g2 : (0 : Int) ≤ (G : Int) := by omega
    have h5' : ¬ (N : Int) < (q : Int) * 8 + (G : Int) := by omega
    rw [show (((G + 1 : Nat)) : Int) = (G : Int) + 1 by omega] at HL8
    rw [show (((8 * q + G : Nat)) : Int) = (q : Int) * 8 + (G : Int) by omega] at HRD
    clear h hm e3 e4 hn hL hmq h3 eq hl8 h4 eB eG hlog
    go_enter Tryz.func38, Tryz.ntmps38
    go_wp2_with (first
      | (go_at_call 79; refine HL8.out.mono ?_; rintro e w1 ⟨rfl, rfl⟩)
      | (go_at_call 80; refine HRD.out.mono ?_; rintro e w2 ⟨rfl, x1, x2⟩))
    go_ret2
    exact ⟨_, _, rfl, bls_row x1 (by omega), x2⟩

end Go.Proofs.YtokbhcgooboocaaGreatDoor.Z
namespace Go.Proofs.YtokbhcgooboocaaGreatDoor.Z
open Go.RowKit
set_option linter.unusedVariables false
set_option linter.unusedSimpArgs false

attribute [local go_sem ↓] slB_eq

/-- What is read of the bytes that were laid. -/
theorem last_ext (f : Nat → Bool) (n : Nat) : (byt (ext f n) (n + 1) (n / 8)).log2 = n % 8 ∧ byt (ext f n) (n + 1) (n / 8) ≠ 0 := by
  have hb : (byt (ext f n) (n + 1) (n / 8)).testBit (n % 8) = true := by
    rw [byt_bit, show 8 * (n / 8) + n % 8 = n by omega, ext_at]
    simp [show n % 8 < 8 by omega]
  have h0 : byt (ext f n) (n + 1) (n / 8) ≠ 0 := by
    intro h
    rw [h] at hb
    simp at hb
  refine ⟨?_, h0⟩
  have hlt : byt (ext f n) (n + 1) (n / 8) < 2 ^ (n % 8 + 1) := by
    apply Nat.lt_pow_two_of_testBit
    intro k hk
    rw [byt_bit]
    simp [show ¬ 8 * (n / 8) + k < n + 1 by omega]
  have h1 := (Nat.log2_lt h0).2 hlt
  have h2 := (Nat.le_log2 h0).2 (Nat.ge_two_pow_of_testBit hb)
  omega

end Go.Proofs.YtokbhcgooboocaaGreatDoor.Z
namespace Go.Proofs.YtokbhcgooboocaaGreatDoor.Z
open Go.RowKit
set_option linter.unusedVariables false
set_option linter.unusedSimpArgs false

attribute [local go_sem ↓] slB_eq

set_option maxHeartbeats 400000 in
theorem all_any (m : Nat → Nat) (a : Option Addr) (len cap : Nat) (w : World) (h : Bys w a len cap (fun q => (m q : Int))) (hm : ∀ q, q < len → m q < 256) (hlen : len ≤ 1048576) :
    Calls Tryz.prog 85 #[.slice a len cap] w fun e w' => ∃ v, e = .returned v ∧ w'.ownsRow w.heap.size 4 1 v (8 * len) (bbl (tb m) (8 * len)) ∧ Below w.heap.size w w' := by
  have H := hid h
  have HM := hid hm
  have l1 : (len : Int) ≤ 1048576 := by omega
  have l0 : (0 : Int) ≤ (len : Int) := by omega
  clear h hm
  go_enter Tryz.func85, Tryz.ntmps85
  go_wp2
  go_loopw [3, 4] (fun v i wr => ∃ k : Nat, k ≤ 8 * len ∧ i = .int .i64 k ∧ wr.ownsRow w.heap.size 4 1 v k (bbl (tb m) k) ∧ Below w.heap.size w wr) (fun _ i _ => 8 * len - (intOf i).toNat)
  case atStart => exact ⟨0, by omega, rfl, World.ownsRow_nil _ _ _ _, Below.refl _ _⟩
  case round =>
    obtain ⟨k, hk, rfl, hown, hb⟩ := hrel
    by_cases hkn : k < 8 * len
    · obtain ⟨b, off, rfl, hbb, ck0⟩ := bys_at H.out (k / 8) (by omega)
      have ck := (below_cell hb hbb).trans ck0
      have hmq := HM.out (k / 8) (by omega)
      obtain ⟨q, eq⟩ : ∃ q, k / 8 = q := ⟨_, rfl⟩
      obtain ⟨r, er⟩ : ∃ r, k % 8 = r := ⟨_, rfl⟩
      rw [eq] at ck hmq
      obtain ⟨B, eB⟩ : ∃ B, m q = B := ⟨_, rfl⟩
      rw [eB] at ck hmq
      have e1 : (k : Int) / 8 = (q : Int) := by omega
      have e2 : (k : Int) % 8 = (r : Int) := by omega
      have q1 : (q : Int) < (len : Int) := by omega
      have q2 : (0 : Int) ≤ (q : Int) := by omega
      have r1 : (r : Int) < 8 := by omega
      have r2 : (0 : Int) ≤ (r : Int) := by omega
      have k1 : (k : Int) < 8 * (len : Int) := by omega
      have k2 : (0 : Int) ≤ (k : Int) := by omega
      have b1 : (B : Int) < 256 := by omega
      have b2 : (0 : Int) ≤ (B : Int) := by omega
      have hbit := and_bit B r (by omega)
      have HT : Hid (B.testBit r = tb m k) := by
        show B.testBit r = (m (k / 8)).testBit (k % 8)
        rw [eq, er, eB]
      have HO := hid hown
      have HB := hid hb
      have hz := hb.size
      clear hown hb ck0 eq er eB hmq
      go_wp2_with (at_builtin; refine wpList_append_bit wr rfl _ _ rfl w.heap.size u3 k (tb m) (B.testBit r) rfl HO.out rfl HT.out (by omega) hz ?_; intro g C w2 ho2 hg2; have HB2 := hid (below_grown HB.out HO.out hz hg2); have HO2 := hid ho2; clear ho2 hg2)
      go_roundw
      case rel => exact ⟨k + 1, by omega, by go_num, HO2.out, HB2.out⟩
      case measure => simp [intOf]; omega
    · have ek : k = 8 * len := by omega
      subst ek
      have HO := hid hown
      have HB := hid hb
      clear hown hb
      go_wp2
      go_ret
      exact ⟨_, rfl, HO.out, HB.out⟩

theorem bls_cut {w : World} {a : Option Addr} {n N C : Nat} {f : Nat → Bool} (h : Bls w a N C f) (hn : n ≤ N) : Bls w a n C f := by
  rcases h with ⟨h1, h2, h3⟩ | ⟨x, h1, h2⟩ | ⟨b, off, h1, h2, h3, h4, h5⟩
  · exact .inl ⟨h1, by omega, h3⟩
  · exact .inr (.inl ⟨x, h1, by omega⟩)
  · exact .inr (.inr ⟨b, off, h1, by omega, h3, h4, fun j hj => h5 j (by omega)⟩)

end Go.Proofs.YtokbhcgooboocaaGreatDoor.Z
namespace Go.Proofs.YtokbhcgooboocaaGreatDoor.Z
open Go.RowKit
set_option linter.unusedVariables false
set_option linter.unusedSimpArgs false

attribute [local go_sem ↓] slB_eq

theorem last_bit (m : Nat → Nat) (len : Nat) (h0 : ¬ len = 0) (hm : m (len - 1) < 256) (hl : ¬ m (len - 1) = 0) : rlL m len < 8 * len ∧ tb m (rlL m len) = true ∧ ∀ i, rlL m len < i → i < 8 * len → tb m i = false := by
  have hlog := log2_lt8 hm
  unfold rlL
  refine ⟨by omega, ?_, fun i h1 h2 => ?_⟩
  · unfold tb
    rw [show (8 * (len - 1) + (m (len - 1)).log2) / 8 = len - 1 by omega, show (8 * (len - 1) + (m (len - 1)).log2) % 8 = (m (len - 1)).log2 by omega]
    exact Nat.testBit_log2 hl
  · unfold tb
    rw [show i / 8 = len - 1 by omega]
    apply Nat.testBit_lt_two_pow
    exact Nat.lt_of_lt_of_le Nat.lt_log2_self (Nat.pow_le_pow_right (by omega) (by omega))

set_option maxRecDepth 20000 in
set_option maxHeartbeats 400000 in
theorem rreadl_any (m : Nat → Nat) (a : Option Addr) (len cap : Nat) (n : Int) (w : World) (h : Bys w a len cap (fun q => (m q : Int))) (hm : ∀ q, q < len → m q < 256) (hlen : len ≤ 1048576) :
    Calls Tryz.prog 41 #[.slice a len cap, .int .i64 n] w (Ans m (rlN m len n) (rlE m len n) w) := by
  by_cases h1 : n < 0
  · obtain ⟨e1, e2⟩ := rl_arg (m := m) (len := len) (.inl h1)
    rw [e1, e2]
    clear h hm e1 e2
    go_enter Tryz.func41, Tryz.ntmps41
    go_wp2
    go_ret2
    exact ans_none
  by_cases h2 : 4096 < n
  · obtain ⟨e1, e2⟩ := rl_arg (m := m) (len := len) (.inr h2)
    rw [e1, e2]
    clear h hm e1 e2
    go_enter Tryz.func41, Tryz.ntmps41
    go_wp2
    go_ret2
    exact ans_none
  have hn : ¬ (n < 0 ∨ 4096 < n) := by omega
  obtain ⟨N, rfl⟩ : ∃ N : Nat, n = (N : Int) := ⟨n.toNat, by omega⟩
  by_cases h3 : len = 0
  · obtain ⟨e1, e2⟩ := rl_size (m := m) hn h3
    rw [e1, e2]
    subst h3
    clear h hm e1 e2 hn
    go_enter Tryz.func41, Tryz.ntmps41
    go_wp2
    go_ret2
    exact ans_none
  have HA := hid (all_any m a len cap w h hm hlen)
  obtain ⟨b, off, rfl, hbb, ck⟩ := bys_at h (len - 1) (by omega)
  have hmq := hm (len - 1) (by omega)
  obtain ⟨q, eq⟩ : ∃ q, len - 1 = q := ⟨_, rfl⟩
  rw [eq] at ck
  have e1 : (len : Int) - 1 = (q : Int) := by omega
  have q1 : (q : Int) < (len : Int) := by omega
  have q2 : (0 : Int) ≤ (q : Int) := by omega
  have l0 : ¬ (len : Int) = 0 := by omega
  have h2' : (N : Int) ≤ 4096 := by omega
  by_cases h4 : m q = 0
  · obtain ⟨e3, e4⟩ := rl_form (m := m) hn h3 (by rw [eq]; exact h4)
    rw [e3, e4]
    rw [h4] at ck
    clear h hm e3 e4 hn hmq h3 eq
    go_enter Tryz.func41, Tryz.ntmps41
    go_wp2
    go_ret2
    exact ans_none
  obtain ⟨lb1, lb2, lb3⟩ := last_bit m len h3 hmq (by rw [eq]; exact h4)
  have LG : Hid ((N : Int) < rlL m len → rlE m len (N : Int) = 6 ∧ rlN m len (N : Int) = 0) := fun h5 => rl_long (m := m) hn h3 (by rw [eq]; exact h4) h5
  have OKK : Hid (¬ (N : Int) < rlL m len → rlE m len (N : Int) = 0 ∧ rlN m len (N : Int) = rlL m len) := fun h5 => rl_ok (m := m) hn h3 (by rw [eq]; exact h4) h5
  obtain ⟨B, eB⟩ : ∃ B, m q = B := ⟨_, rfl⟩
  rw [eB] at ck h4
  obtain ⟨L, eL⟩ : ∃ L, rlL m len = L := ⟨_, rfl⟩
  rw [eL] at lb1 lb2 lb3 LG OKK
  have b2 : ¬ (B : Int) = 0 := by omega
  have LB2 := hid lb2
  have LB3 := hid lb3
  clear h hm hn hmq h3 eq h4 eB eL lb2 lb3 h1 h2
  go_enter Tryz.func41, Tryz.ntmps41
  go_wp2_with (go_at_call 85; refine HA.out.mono ?_; rintro e w1 ⟨v, rfl, ho, hb⟩; obtain ⟨a1, C1, rfl, hC1, hC2, hbl, hbase⟩ := owns_bls ho; have HBL := hid hbl; have HB := hid hb; clear ho hb hbl hbase)
  go_loopw [6] (fun v wr => ∃ j : Nat, L + 1 ≤ j ∧ j ≤ 8 * len ∧ v = .slice a1 j C1 ∧ wr = w1) (fun v _ => sliceLen v)
  case atStart => exact ⟨8 * len, by omega, Nat.le_refl _, rfl, rfl⟩
  case round =>
    obtain ⟨j, hj1, hj2, rfl, rfl⟩ := hrel
    obtain ⟨i, ei⟩ : ∃ i, j - 1 = i := ⟨_, rfl⟩
    obtain ⟨b', off', rfl, hbb', ci⟩ := bls_at HBL.out i (by omega)
    have e2 : (j : Int) - 1 = (i : Int) := by omega
    have i1 : (i : Int) < (j : Int) := by omega
    have i2 : (0 : Int) ≤ (i : Int) := by omega
    have j2 : (j : Int) ≤ 8388608 := by omega
    have sl := fun W => slB_run W (some ⟨b', off', none⟩) j C1 i (by omega)
    by_cases hjL : i = L
    · subst hjL
      rw [LB2.out] at ci
      have HJ := hid (And.intro hj1 hj2)
      clear ei hj1 hj2
      by_cases h5 : (N : Int) < (i : Int)
      · go_wp2
        go_ret2
        show Ans m (rlN m len (N : Int)) (rlE m len (N : Int)) w _ _
        rw [(LG.out h5).1, (LG.out h5).2]
        exact ⟨none, 0, rfl, .inl ⟨rfl, rfl, rfl⟩, HB.out⟩
      · go_wp2
        go_ret2
        show Ans m (rlN m len (N : Int)) (rlE m len (N : Int)) w _ _
        rw [(OKK.out h5).1, (OKK.out h5).2]
        exact ⟨_, C1, rfl, bls_cut HBL.out (by omega), HB.out⟩
    · rw [LB3.out i (by omega) (by omega)] at ci
      have HJ := hid (And.intro hj1 (And.intro hj2 (And.intro ei hjL)))
      clear ei hj1 hj2 hjL
      go_wp2
      go_roundw
      case rel =>
        obtain ⟨hj1, hj2, ei, hjL⟩ := HJ.out
        exact ⟨i, by omega, by omega, rfl, trivial⟩
      case measure =>
        obtain ⟨hj1, hj2, ei, hjL⟩ := HJ.out
        simp [sliceLen]
        omega

end Go.Proofs.YtokbhcgooboocaaGreatDoor.Z
