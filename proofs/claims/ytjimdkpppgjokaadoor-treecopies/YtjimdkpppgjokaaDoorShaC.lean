/-
  The words of a block, and the block's rounds, as numbers.
-/
import Derived.Test.YtjimdkpppgjokaaDoorShaB
namespace Go.Proofs.YtjimdkpppgjokaaDoor
open Go.RowKit
set_option linter.unusedVariables false

/-- Four bytes as a word. -/
def wd (a b c d : Int) : Int := bits .or .u32 (bits .or .u32 (bits .or .u32 (a % 4294967296 * 16777216 % 4294967296) (b % 4294967296 * 65536 % 4294967296)) (c % 4294967296 * 256 % 4294967296)) (d % 4294967296)
def sig1 (y : Int) : Int := bits .xor .u32 (bits .xor .u32 (rt 17 y) (rt 19 y)) (y / 1024)
def sig0 (x : Int) : Int := bits .xor .u32 (bits .xor .u32 (rt 7 x) (rt 18 x)) (x / 8)
/-- The next word. -/
def nxt (y s x r : Int) : Int := (((sig1 y + s) % 4294967296 + sig0 x) % 4294967296 + r) % 4294967296

theorem bits_bd (o : BinOp) (a b : Int) : 0 ≤ bits o .u32 a b ∧ bits o .u32 a b < 4294967296 := by
  have := bits_within o .u32 a b
  have e1 : IntKind.u32.min = 0 := by decide
  have e2 : IntKind.u32.max = 4294967295 := by decide
  omega
theorem wd_bd (a b c d : Int) : 0 ≤ wd a b c d ∧ wd a b c d < 4294967296 := bits_bd _ _ _
theorem sig1_bd (x : Int) : 0 ≤ sig1 x ∧ sig1 x < 4294967296 := bits_bd _ _ _
theorem sig0_bd (x : Int) : 0 ≤ sig0 x ∧ sig0 x < 4294967296 := bits_bd _ _ _
theorem nxt_bd (y s x r : Int) : 0 ≤ nxt y s x r ∧ nxt y s x r < 4294967296 := by unfold nxt; omega
theorem nxt_wrap (y s x r : Int) : IntKind.u32.wrap (IntKind.u32.wrap (IntKind.u32.wrap (sig1 y + s) + sig0 x) + r) = nxt y s x r := by simp only [IntKind.wrap_u32']; rfl

/-- The words of a block of bytes. -/
def schW (f : Nat → Int) (t : Nat) : Int :=
  if t < 16 then wd (f (4 * t)) (f (4 * t + 1)) (f (4 * t + 2)) (f (4 * t + 3)) else nxt (schW f (t - 2)) (schW f (t - 7)) (schW f (t - 15)) (schW f (t - 16))
termination_by t
theorem schW_lo (f : Nat → Int) (t : Nat) (h : t < 16) : schW f t = wd (f (4 * t)) (f (4 * t + 1)) (f (4 * t + 2)) (f (4 * t + 3)) := by rw [schW, if_pos h]
theorem schW_hi (f : Nat → Int) (t : Nat) (h : ¬ t < 16) : schW f t = nxt (schW f (t - 2)) (schW f (t - 7)) (schW f (t - 15)) (schW f (t - 16)) := by rw [schW, if_neg h]
theorem schW_bd (f : Nat → Int) (t : Nat) : 0 ≤ schW f t ∧ schW f t < 4294967296 := by
  by_cases h : t < 16
  · rw [schW_lo f t h]; exact wd_bd _ _ _ _
  · rw [schW_hi f t h]; exact nxt_bd _ _ _ _

theorem upto_set (g : Nat → Int) (k : Nat) (v : Int) (hv : v = g k) (n : Nat) : vs .u32 n (fun j => if j = k then v else if j < k then g j else 0) = vs .u32 n (fun j => if j < k + 1 then g j else 0) := by
  refine vs_congr fun i _ => ?_
  by_cases h1 : i = k
  · subst h1; simp [hv]
  · by_cases h2 : i < k
    · simp [h1, h2, show i < k + 1 by omega]
    · simp [h1, h2, show ¬ i < k + 1 by omega]

theorem cell_sd {w : World} {b i : Nat} {v : Value} {b' j : Nat} (h : b' ≠ b ∨ j ≠ i) : ((w.setCell ⟨b, i, none⟩ v).drew).cell? ⟨b', j, none⟩ = w.cell? ⟨b', j, none⟩ := by
  show (w.setCell ⟨b, i, none⟩ v).cell? ⟨b', j, none⟩ = _
  refine World.cell?_setCell_other _ _ _ _ ?_
  intro e
  simp at e
  omega

theorem size_sd (w : World) (a : Addr) (v : Value) : ((w.setCell a v).drew).heap.size = w.heap.size := by show (w.setCell a v).heap.size = _; simp [World.setCell]
theorem size_s (w : World) (a : Addr) (v : Value) : (w.setCell a v).heap.size = w.heap.size := by simp [World.setCell]

theorem i64_of (n : Int) (h1 : -9223372036854775808 ≤ n) (h2 : n ≤ 9223372036854775807) : IntKind.i64.wrap n = n := by rw [IntKind.wrap_i64]; omega

set_option maxHeartbeats 2000000 in
theorem spread_any (f : Nat → Int) (w : World) (h : ∀ i, i < 64 → 0 ≤ f i ∧ f i < 256) :
    Calls Tryd.prog 54 #[.agg (vs .u8 64 f)] w fun e w' => e = .returned (.agg (vs .u32 64 (schW f))) ∧ Below w.heap.size w w' := by
  go_enter Tryd.func54, Tryd.ntmps54
  go_wp2
  go_loopw [8] (fun i wr => ∃ k : Nat, k ≤ 16 ∧ i = .int .i64 k ∧ Below w.heap.size w wr ∧ wr.heap.size = w.heap.size + 3 ∧ wr.heap[w.heap.size]? = some (.cells (vs .u8 64 f) 81) ∧ wr.heap[w.heap.size + 1]? = some (.cells (vs .u32 64 fun _ => 0) 90) ∧ wr.heap[w.heap.size + 1 + 1]? = some (.cells (vs .u32 64 fun j => if j < k then schW f j else 0) 90)) (fun i _ => 16 - (intOf i).toNat)
  case atStart =>
    refine ⟨0, by omega, rfl, ?_, ?_, ?_, ?_, ?_⟩
    · go_grown
    · simp
    · exact (heap_old (by simp; omega)).trans ((heap_old (by simp)).trans (heap_new rfl))
    · exact (heap_old (by simp)).trans ((heap_new (by simp)))
    · exact heap_new (by simp)
  case round =>
    obtain ⟨k, hk, rfl, hB, hz, r0, r1, r2⟩ := hrel
    by_cases hlt : k < 16
    · have c0 := row_int r0 (4 * k) (by omega)
      have c1 := row_int r0 (4 * k + 1) (by omega)
      have c2 := row_int r0 (4 * k + 2) (by omega)
      have c3 := row_int r0 (4 * k + 3) (by omega)
      have cs := row_int r2 k (by omega)
      have fs := row_frozen r2 k
      have EV := hid (schW_lo f k hlt)
      have R0 := hid r0
      have R1 := hid r1
      have R2 := hid r2
      have HZ := hid hz
      have HB := hid hB
      generalize f (4 * k) = x0 at c0 EV
      generalize f (4 * k + 1) = x1 at c1 EV
      generalize f (4 * k + 2) = x2 at c2 EV
      generalize f (4 * k + 3) = x3 at c3 EV
      clear r0 r1 r2 hz hB
      have b1 : (0 : Int) ≤ (k : Int) := by omega
      have b2 : (k : Int) < 16 := by omega
      have b2' : (k : Int) < 64 := by omega
      have i0 : (0 : Int) ≤ 4 * (k : Int) := by omega
      have i1 : (0 : Int) ≤ 4 * (k : Int) + 1 := by omega
      have i2 : (0 : Int) ≤ 4 * (k : Int) + 2 := by omega
      have i3 : (0 : Int) ≤ 4 * (k : Int) + 3 := by omega
      have j0 : 4 * (k : Int) < 64 := by omega
      have j1 : 4 * (k : Int) + 1 < 64 := by omega
      have j2 : 4 * (k : Int) + 2 < 64 := by omega
      have j3 : 4 * (k : Int) + 3 < 64 := by omega
      have w0 : IntKind.i64.wrap (4 * (k : Int)) = 4 * (k : Int) := i64_of _ (by omega) (by omega)
      have w1 : IntKind.i64.wrap (4 * (k : Int) + 1) = 4 * (k : Int) + 1 := i64_of _ (by omega) (by omega)
      have w2 : IntKind.i64.wrap (4 * (k : Int) + 2) = 4 * (k : Int) + 2 := i64_of _ (by omega) (by omega)
      have w3 : IntKind.i64.wrap (4 * (k : Int) + 3) = 4 * (k : Int) + 3 := i64_of _ (by omega) (by omega)
      have t0 : (4 * (k : Int)).toNat = 4 * k := by omega
      have t1 : (4 * (k : Int) + 1).toNat = 4 * k + 1 := by omega
      have t2 : (4 * (k : Int) + 2).toNat = 4 * k + 2 := by omega
      have t3 : (4 * (k : Int) + 3).toNat = 4 * k + 3 := by omega
      go_wp2
      go_region_held3 (fun w' => w'.cell? ⟨w.heap.size, 4 * k, none⟩ = some (.int .u8 x0) ∧ w'.cell? ⟨w.heap.size, 4 * k + 1, none⟩ = some (.int .u8 x1) ∧ w'.cell? ⟨w.heap.size, 4 * k + 2, none⟩ = some (.int .u8 x2) ∧ w'.cell? ⟨w.heap.size, 4 * k + 3, none⟩ = some (.int .u8 x3))
        (refine ⟨?_, ?_, ?_, ?_⟩ <;> first | assumption | (rw [cell_sd (.inl (by omega))]; assumption)) (fail)
      go_wp2
      go_roundw
      case rel =>
        refine ⟨k + 1, by omega, by go_num, ?_, ?_, ?_, ?_, ?_⟩
        · exact (HB.out.setCell (by simp; omega) _).drew
        · exact (size_sd _ _ _).trans HZ.out
        · exact (heap_set_other (by omega)).trans R0.out
        · exact (heap_set_other (by omega)).trans R1.out
        · refine (row_set R2.out k _).trans ?_
          rw [vs_set]
          exact congrArg (fun c => some (Obj.cells c 90)) (upto_set (schW f) k _ EV.out.symm 64)
      case measure => simp [intOf]; omega
    · have ek : k = 16 := by omega
      subst ek
      clear hlt hk
      rw [show ((16 : Nat) : Int) = 16 from rfl]
      go_wp2
      go_loopw [5] (fun i wr => ∃ t : Nat, 16 ≤ t ∧ t ≤ 64 ∧ i = .int .i64 t ∧ Below w.heap.size w wr ∧ wr.heap.size = w.heap.size + 3 ∧ wr.heap[w.heap.size + 1]? = some (.cells (vs .u32 64 fun _ => 0) 90) ∧ wr.heap[w.heap.size + 1 + 1]? = some (.cells (vs .u32 64 fun j => if j < t then schW f j else 0) 90)) (fun i _ => 64 - (intOf i).toNat)
      case atStart => exact ⟨16, by omega, by omega, rfl, hB, hz, r1, r2⟩
      case round =>
        clear hB hz r0 r1 r2
        obtain ⟨t, ht, ht', rfl, hB, hz, r1, r2⟩ := hrel
        by_cases hlt : t < 64
        · have EV := hid (schW_hi f t (by omega))
          have c2 := row_int r2 (t - 2) (by omega)
          have c7 := row_int r2 (t - 7) (by omega)
          have c15 := row_int r2 (t - 15) (by omega)
          have c16 := row_int r2 (t - 16) (by omega)
          rw [if_pos (by omega)] at c2 c7 c15 c16
          have d2 := schW_bd f (t - 2)
          have d7 := schW_bd f (t - 7)
          have d15 := schW_bd f (t - 15)
          have d16 := schW_bd f (t - 16)
          generalize schW f (t - 2) = y at c2 EV d2
          generalize schW f (t - 7) = s at c7 EV d7
          generalize schW f (t - 15) = x at c15 EV d15
          generalize schW f (t - 16) = r at c16 EV d16
          have cs := row_int r2 t (by omega)
          have fs := row_frozen r2 t
          obtain ⟨y1, y2⟩ := d2
          obtain ⟨s1, s2⟩ := d7
          obtain ⟨x1, x2⟩ := d15
          obtain ⟨r1', r2'⟩ := d16
          have R1 := hid r1
          have R2 := hid r2
          have HZ := hid hz
          have HB := hid hB
          clear r1 r2 hz hB
          have i0 : (0 : Int) ≤ (t : Int) := by omega
          have j0 : (t : Int) < 64 := by omega
          obtain ⟨m2, hm2⟩ : ∃ m, m = t - 2 := ⟨_, rfl⟩
          rw [← hm2] at c2
          have v2 : (t : Int) - 2 = (m2 : Int) := by omega
          have w2 : IntKind.i64.wrap (m2 : Int) = (m2 : Int) := i64_of _ (by omega) (by omega)
          have i2 : (0 : Int) ≤ (m2 : Int) := by omega
          have j2 : (m2 : Int) < 64 := by omega
          have n2 : m2 ≠ t := by omega
          obtain ⟨m7, hm7⟩ : ∃ m, m = t - 7 := ⟨_, rfl⟩
          rw [← hm7] at c7
          have v7 : (t : Int) - 7 = (m7 : Int) := by omega
          have w7 : IntKind.i64.wrap (m7 : Int) = (m7 : Int) := i64_of _ (by omega) (by omega)
          have i7 : (0 : Int) ≤ (m7 : Int) := by omega
          have j7 : (m7 : Int) < 64 := by omega
          have n7 : m7 ≠ t := by omega
          obtain ⟨m15, hm15⟩ : ∃ m, m = t - 15 := ⟨_, rfl⟩
          rw [← hm15] at c15
          have v15 : (t : Int) - 15 = (m15 : Int) := by omega
          have w15 : IntKind.i64.wrap (m15 : Int) = (m15 : Int) := i64_of _ (by omega) (by omega)
          have i15 : (0 : Int) ≤ (m15 : Int) := by omega
          have j15 : (m15 : Int) < 64 := by omega
          have n15 : m15 ≠ t := by omega
          obtain ⟨m16, hm16⟩ : ∃ m, m = t - 16 := ⟨_, rfl⟩
          rw [← hm16] at c16
          have v16 : (t : Int) - 16 = (m16 : Int) := by omega
          have w16 : IntKind.i64.wrap (m16 : Int) = (m16 : Int) := i64_of _ (by omega) (by omega)
          have i16 : (0 : Int) ≤ (m16 : Int) := by omega
          have j16 : (m16 : Int) < 64 := by omega
          have n16 : m16 ≠ t := by omega
          have HM := hid (And.intro hm2 (And.intro hm7 (And.intro hm15 hm16)))
          clear hm2 hm7 hm15 hm16
          go_wp2
          go_region_held3 (fun w' => w'.cell? ⟨w.heap.size + 1 + 1, m2, none⟩ = some (.int .u32 y) ∧ w'.cell? ⟨w.heap.size + 1 + 1, m15, none⟩ = some (.int .u32 x)) (exact ⟨c2, c15⟩) (fail)
          go_wp2_with (go_at_call 55; refine (turn_any _ _ _ (by omega) (by omega) (by decide)).mono ?_; rintro e w' ⟨rfl, rfl⟩)
          go_region_held3 (fun w' => w'.cell? ⟨w.heap.size + 1 + 1, m7, none⟩ = some (.int .u32 s) ∧ w'.cell? ⟨w.heap.size + 1 + 1, m16, none⟩ = some (.int .u32 r))
            (exact ⟨by first | exact c7 | exact (cell_sd (.inr n7)).trans c7, by first | exact c16 | exact (cell_sd (.inr n16)).trans c16⟩) (fail)
          go_wp2
          go_roundw
          case rel =>
            refine ⟨t + 1, by omega, by omega, by go_num, ?_, ?_, ?_, ?_⟩
            · exact ((HB.out.drew).setCell (by simp; omega) _).drew
            · exact (size_sd _ _ _).trans HZ.out
            · exact (heap_set_other (by omega)).trans R1.out
            · refine (row_set (w := wr.drew) R2.out t _).trans ?_
              rw [vs_set]
              exact congrArg (fun c => some (Obj.cells c 90)) (upto_set (schW f) t _ EV.out.symm 64)
          case measure => simp [intOf]; omega
        · have et : t = 64 := by omega
          subst et
          have ev : vs .u32 64 (fun j => if j < 64 then schW f j else 0) = vs .u32 64 (schW f) := vs_congr fun i hi => by rw [if_pos hi]
          rw [ev] at r2
          have hl := load_row (P := Tryd.prog) r2 90 _ Tryd.underlying90 rfl (by rw [vs_size]; kernel_rfl)
          have hs := store_row (P := Tryd.prog) r1 90 (vs .u32 64 (schW f)) (by rw [vs_size]; kernel_rfl) (by simp [vs_size]) (vs_one _ _ _)
          have R1 := hid r1
          have HB := hid hB
          have RL := hid (load_row (P := Tryd.prog) (setRow_at (c := vs .u32 64 (schW f)) r1) 90 _ Tryd.underlying90 rfl (by rw [vs_size]; kernel_rfl))
          have HL := hid hl
          have HS := hid hs
          clear r1 r2 hz hB ht' ht hlt ev hl hs
          go_wp2_with (first
            | (refine wpList_load_is (by rfl) 90 _ (by rfl) _ _ (by rfl) HL.out ?_)
            | (refine wpList_store_is (by rfl) 90 _ _ (by rfl) _ _ (by rfl) (by rfl) (by rfl) HS.out ?_)
            | (refine bodyPost_ret (results_cell (by rfl) _ _ (w.heap.size + 1) _ (by rfl) RL.out) (by rfl) ?_))
          exact below_row HB.out (by omega) _

end Go.Proofs.YtjimdkpppgjokaaDoor
