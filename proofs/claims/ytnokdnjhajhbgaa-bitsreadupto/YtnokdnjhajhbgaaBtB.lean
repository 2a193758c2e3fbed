/-
  What set and read answer.
-/
import Derived.Test.YtnokdnjhajhbgaaBtA
namespace Go.Proofs.Ytnokdnjhajhbgaa
open Go.RowKit
set_option linter.unusedVariables false
set_option linter.unusedSimpArgs false

theorem bls_len {w : World} {a : Option Addr} {len cap : Nat} {f : Nat → Bool} (h : Bls w a len cap f) : len ≤ 9223372036854775807 := by
  rcases h with ⟨_, h, _⟩ | ⟨_, _, h⟩ | ⟨b, off, h1, h2, h3, h4, h5⟩ <;> omega

theorem size_set (w : World) (a : Addr) (v : Value) : (w.setCell a v).heap.size = w.heap.size := by simp [World.setCell]
theorem pow_lt8 {r : Nat} (h : r < 8) : 2 ^ r < 256 := Nat.pow_lt_pow_right (a := 2) (by omega) h
theorem pow_cast {r : Nat} (h : r < 8) : ((2 : Int) ^ r % 256) = ((2 ^ r : Nat) : Int) := by
  have := pow_lt8 h
  rw [show ((2 : Int) ^ r) = ((2 ^ r : Nat) : Int) by simp]
  exact Int.emod_eq_of_lt (Int.natCast_nonneg _) (Int.ofNat_lt.2 this)
theorem or_pow (B r : Nat) (hB : B < 256) (hr : r < 8) : bits .or .u8 (B : Int) ((2 : Int) ^ r % 256) = ((B ||| 2 ^ r : Nat) : Int) := by
  rw [pow_cast hr]
  exact u8_or_nat B _ hB (pow_lt8 hr)

set_option maxHeartbeats 400000 in
theorem set_any (f : Nat → Bool) (a : Option Addr) (n cap g N : Nat) (t : TypeId) (w : World) (h : Bls w a n cap f) (hg : w.heap[g]? = some (.cells (vs .u8 N (fun q => (byt f 0 q : Int))) t)) (hN : n ≤ 8 * N) (hlt : ∀ x, a = some x → x.block < g) :
    Calls Try.prog 19 #[.slice (some ⟨g, 0, none⟩) N N, .slice a n cap] w fun e w' => e = .returned (.tuple #[]) ∧ w'.heap[g]? = some (.cells (vs .u8 N (fun q => (byt f n q : Int))) t) ∧ Below g w w' ∧ w'.heap.size = w.heap.size := by
  have hn := bls_len h
  have H := hid h
  have HLT := hid hlt
  have HG := hid hg
  clear h hg hlt
  go_enter Try.func19, Try.ntmps19
  go_wp2
  go_loopw [8] (fun v wr => ∃ k : Nat, k ≤ n ∧ v = .int .i64 k ∧ wr.heap[g]? = some (.cells (vs .u8 N (fun q => (byt f k q : Int))) t) ∧ Below g w wr ∧ wr.heap.size = w.heap.size) (fun v _ => n - (intOf v).toNat)
  case atStart => exact ⟨0, by omega, rfl, HG.out, Below.refl _ _, rfl⟩
  case round =>
    obtain ⟨k, hk, rfl, hr, hb, hz⟩ := hrel
    clear HG
    by_cases hkn : k < n
    · obtain ⟨b, off, rfl, hbb, ck0⟩ := bls_at H.out k hkn
      have hbg := HLT.out _ rfl
      have ck := (below_cell hb hbg).trans ck0
      obtain ⟨x, ex⟩ : ∃ x, f k = x := ⟨_, rfl⟩
      rw [ex] at ck
      have k1 : (k : Int) < (n : Int) := by omega
      have k2 : (0 : Int) ≤ (k : Int) := by omega
      have HR := hid hr
      have HB := hid hb
      have HZ := hid hz
      have EX := hid ex
      clear ck0 ex
      cases x
      · clear hr hb hz
        go_wp2
        go_roundw
        case rel =>
          refine ⟨k + 1, by omega, by go_num, ?_, HB.out, HZ.out⟩
          rw [HR.out]
          exact congrArg (fun c => some (Obj.cells c t)) (vs_congr fun q _ => by rw [byt_skip f k q EX.out])
        case measure => simp [intOf]; omega
      · have cq := row_int hr (k / 8) (by omega)
        have fq := row_frozen hr (k / 8)
        obtain ⟨q, eq⟩ : ∃ q, k / 8 = q := ⟨_, rfl⟩
        obtain ⟨B, eB⟩ : ∃ B, byt f k q = B := ⟨_, rfl⟩
        obtain ⟨r, er⟩ : ∃ r, k % 8 = r := ⟨_, rfl⟩
        have e1 : (k : Int) / 8 = (q : Int) := by omega
        have e2 : (k : Int) % 8 = (r : Int) := by omega
        have q1 : (q : Int) < (N : Int) := by omega
        have q2 : (0 : Int) ≤ (q : Int) := by omega
        have r1 : (r : Int) < 8 := by omega
        have r2 : (0 : Int) ≤ (r : Int) := by omega
        rw [eq] at cq fq
        rw [eB] at cq
        have EE := hid (And.intro eq (And.intro er eB))
        clear hr hb hz eq er eB
        go_wp2
        go_region
        go_wp2
        go_roundw
        case rel =>
          obtain ⟨eq, er, eB⟩ := EE.out
          refine ⟨k + 1, by omega, by go_num, ?_, (HB.out.setCell (by simp) _).drew, ?_⟩
          · refine (row_set HR.out q _).trans ?_
            rw [vs_set]
            refine congrArg (fun c => some (Obj.cells c t)) (vs_congr fun i _ => ?_)
            by_cases hi : i = q
            · rw [if_pos hi, or_pow B r (by rw [← eB]; exact byt_lt _ _ _) (by omega), hi, ← eB, ← eq, ← er, byt_or f k EX.out]
            · rw [if_neg hi, byt_other f k i (by omega)]
          · exact (size_set _ _ _).trans HZ.out
        case measure => simp [intOf]; omega
    · have ek : k = n := by omega
      subst ek
      have HR := hid hr
      have HB := hid hb
      clear hr hb
      go_wp2
      go_end0
      exact ⟨rfl, HR.out, HB.out, hz⟩

theorem infoB : (Try.prog.info? 4).map (fun i => (i.zero, i.size, i.bytes)) = some (some (.bool false), 1, 1) := by kernel_rfl
/-- n values. -/
def vals (n : Nat) (f : Nat → Value) : Array Value := ((List.range n).map f).toArray
theorem vals_size (n : Nat) (f : Nat → Value) : (vals n f).size = n := by simp [vals]
theorem vals_get (n : Nat) (f : Nat → Value) (i : Nat) (h : i < n) : (vals n f)[i]? = some (f i) := by simp [vals, h]
theorem vals_congr {n : Nat} {f g : Nat → Value} (h : ∀ i, i < n → f i = g i) : vals n f = vals n g := by
  unfold vals
  congr 1
  exact List.map_congr_left fun i hi => h i (List.mem_range.1 hi)
theorem vals_set (n : Nat) (f : Nat → Value) (i : Nat) (v : Value) : (vals n f).setIfInBounds i v = vals n (fun j => if j = i then v else f j) := by
  apply Array.ext_getElem?
  intro j
  by_cases hj : j < n
  · rw [vals_get _ _ _ hj, Array.getElem?_setIfInBounds]
    by_cases hi : i = j
    · subst hi
      rw [if_pos rfl, if_pos (by rw [vals_size]; exact hj), if_pos rfl]
    · rw [if_neg hi, vals_get _ _ _ hj, if_neg (by omega)]
  · rw [Array.getElem?_eq_none (by rw [Array.size_setIfInBounds, vals_size]; omega), Array.getElem?_eq_none (by rw [vals_size]; omega)]
theorem vals_cell {w : World} {b n : Nat} {f : Nat → Value} {t : TypeId} (h : w.heap[b]? = some (.cells (vals n f) t)) (i : Nat) (hi : i < n) : w.cell? ⟨b, i, none⟩ = some (f i) := by
  rw [row_cell h, vals_get _ _ _ hi]
theorem made_vals (z : Value) (n : Nat) : madeCells #[z] n = vals n (fun _ => z) := by
  apply Array.ext_getElem?
  intro j
  by_cases hj : j < n
  · rw [vals_get _ _ _ hj]
    simp [madeCells, hj, Nat.mod_one]
  · rw [Array.getElem?_eq_none (by rw [size_madeCells]; omega), Array.getElem?_eq_none (by rw [vals_size]; omega)]
theorem made_vs (n : Nat) : madeCells #[.int .u8 0] n = vs .u8 n (fun _ => 0) := made_vals _ n

theorem make_bits (W : World) (n : Nat) (hn : n ≤ 140737488355328) : (Instr.makeSlice 22 (.int .i64 n) (.int .i64 n)).run Try.prog W = .ok (.slice (some ⟨W.heap.size, 0, none⟩) n n) (W.alloc (.cells (vals n (fun _ => .bool false)) 4)) := by
  obtain ⟨i, hi, hz0, hz1, hz2⟩ := info_parts infoB
  have h := run_make (P := Try.prog) W 22 4 i (.bool false) Try.underlying22 hi hz0 .i64 .i64 n n (by omega) (Int.le_refl _) (by rw [hz2]; omega) (by omega)
  rw [hz1, Int.toNat_natCast, Nat.mul_one] at h
  rw [h, ← made_vals]
  rfl
theorem make_bytes (W : World) (n : Nat) (hn : n ≤ 140737488355328) : (Instr.makeSlice 24 (.int .i64 n) (.int .i64 n)).run Try.prog W = .ok (.slice (some ⟨W.heap.size, 0, none⟩) n n) (W.alloc (.cells (vs .u8 n (fun _ => 0)) 5)) := by
  obtain ⟨i, hi, hz0, hz1, hz2⟩ := info_parts info8
  have h := run_make (P := Try.prog) W 24 5 i (.int .u8 0) Try.underlying24 hi hz0 .i64 .i64 n n (by omega) (Int.le_refl _) (by rw [hz2]; omega) (by omega)
  rw [hz1, Int.toNat_natCast, Nat.mul_one] at h
  rw [h, ← made_vs]
  rfl

/-- The bits that lie at the head of a block. -/
def bvs (n : Nat) (f : Nat → Bool) : Array Value := vals n (fun i => .bool (f i))
theorem bls_row {w : World} {g n : Nat} {f : Nat → Bool} {t : TypeId} (h : w.heap[g]? = some (.cells (bvs n f) t)) (hn : n ≤ 9223372036854775807) : Bls w (some ⟨g, 0, none⟩) n n f :=
  .inr (.inr ⟨g, 0, rfl, Nat.le_refl _, hn, (Array.getElem?_eq_some_iff.1 h).1, fun j hj => by rw [Nat.zero_add]; exact vals_cell h j hj⟩)
theorem bys_at {w : World} {a : Option Addr} {len cap : Nat} {m : Nat → Int} (h : Bys w a len cap m) (j : Nat) (hj : j < len) : ∃ b off, a = some ⟨b, off, none⟩ ∧ b < w.heap.size ∧ w.cell? ⟨b, off + j, none⟩ = some (.int .u8 (m j)) := by
  rcases h with ⟨_, h, _⟩ | ⟨_, _, h⟩ | ⟨b, off, h1, h2, h3, h4, h5⟩
  · omega
  · omega
  · exact ⟨b, off, h1, h4, h5 j hj⟩

theorem and_bit (B r : Nat) (hB : B < 256) : (bits .and .u8 ((B : Int) / 2 ^ r) 1 == 1) = B.testBit r := by
  have e : ((B : Int) / 2 ^ r) = ((B / 2 ^ r : Nat) : Int) := by simp
  have hl : B / 2 ^ r < 256 := Nat.lt_of_le_of_lt (Nat.div_le_self _ _) hB
  rw [e, show (1 : Int) = ((1 : Nat) : Int) from rfl, u8_and_nat _ 1 hl (by omega), Nat.and_one_is_mod, Nat.testBit_eq_decide_div_mod_eq, Bool.eq_iff_iff]
  simp
  omega

set_option maxHeartbeats 400000 in
theorem read_any (m : Nat → Nat) (a : Option Addr) (len cap n : Nat) (w : World) (h : Bys w a len cap (fun q => (m q : Int))) (hm : ∀ q, q < len → m q < 256) (hn : n ≤ 8 * len) (hnb : n ≤ 140737488355328) (hlen : len ≤ 9223372036854775807) :
    Calls Try.prog 21 #[.slice a len cap, .int .i64 n] w fun e w' => e = .returned (.slice (some ⟨w.heap.size, 0, none⟩) n n) ∧ w'.heap[w.heap.size]? = some (.cells (bvs n (tb m)) 4) ∧ Below w.heap.size w w' := by
  have H := hid h
  have HM := hid hm
  clear h hm
  have hmk := fun W => make_bits W n hnb
  have k0 : (0 : Int) ≤ (n : Int) := by omega
  go_enter Try.func21, Try.ntmps21
  go_wp2
  go_loopw [11] (fun v wr => ∃ k : Nat, k ≤ n ∧ v = .int .i64 k ∧ wr.heap[w.heap.size]? = some (.cells (bvs n fun i => decide (i < k) && tb m i) 4) ∧ Below w.heap.size w wr) (fun v _ => n - (intOf v).toNat)
  case atStart =>
    refine ⟨0, by omega, rfl, ?_, (Below.refl _ _).alloc (Nat.le_refl _) _⟩
    refine (heap_new rfl).trans ?_
    exact congrArg (fun c => some (Obj.cells c 4)) (vals_congr fun i _ => by simp)
  case round =>
    obtain ⟨k, hk, rfl, hr, hb⟩ := hrel
    clear hmk
    by_cases hkn : k < n
    · obtain ⟨b, off, rfl, hbb, ck0⟩ := bys_at H.out (k / 8) (by omega)
      have ck := (below_cell hb hbb).trans ck0
      have hmq := HM.out (k / 8) (by omega)
      obtain ⟨u, cw⟩ : ∃ u, wr.cell? ⟨w.heap.size, k, none⟩ = some (.bool u) := ⟨_, vals_cell hr k hkn⟩
      have fw := row_frozen hr k
      obtain ⟨q, eq⟩ : ∃ q, k / 8 = q := ⟨_, rfl⟩
      obtain ⟨r, er⟩ : ∃ r, k % 8 = r := ⟨_, rfl⟩
      rw [eq] at ck hmq
      obtain ⟨B, eB⟩ : ∃ B, m q = B := ⟨_, rfl⟩
      rw [eB] at ck hmq
      have e1 : (k : Int) / 8 = (q : Int) := by omega
      have e2 : (k : Int) % 8 = (r : Int) := by omega
      have q1 : (q : Int) < (len : Int) := by omega
      have q2 : (0 : Int) ≤ (q : Int) := by omega
      have r1 : (r : Int) < 8 := by omega
      have r2 : (0 : Int) ≤ (r : Int) := by omega
      have k1 : (k : Int) < (n : Int) := by omega
      have k2 : (0 : Int) ≤ (k : Int) := by omega
      have b1 : (B : Int) < 256 := by omega
      have b2 : (0 : Int) ≤ (B : Int) := by omega
      have HR := hid hr
      have HB := hid hb
      have EE := hid (And.intro eq (And.intro er eB))
      clear hr hb ck0 eq er eB hmq
      go_wp2
      go_roundw
      case rel =>
        obtain ⟨eq, er, eB⟩ := EE.out
        refine ⟨k + 1, by omega, by go_num, ?_, HB.out.setCell (by simp) _⟩
        refine (row_set HR.out k _).trans ?_
        unfold bvs
        rw [vals_set, and_bit B r (by omega)]
        refine congrArg (fun c => some (Obj.cells c 4)) (vals_congr fun i _ => ?_)
        show (if i = k then Value.bool (B.testBit r) else Value.bool (decide (i < k) && tb m i)) = Value.bool (decide (i < k + 1) && tb m i)
        by_cases hi : i = k
        · rw [if_pos hi, hi]
          unfold tb
          rw [eq, er, eB]
          simp
        · rw [if_neg hi, decide_eq_decide.2 (show i < k ↔ i < k + 1 by omega)]
      case measure => simp [intOf]; omega
    · have ek : k = n := by omega
      subst ek
      have HR := hid hr
      have HB := hid hb
      clear hr hb
      go_wp2
      go_ret
      refine ⟨rfl, ?_, HB.out⟩
      rw [HR.out]
      exact congrArg (fun c => some (Obj.cells c 4)) (vals_congr fun i hi => by simp [hi])

end Go.Proofs.Ytnokdnjhajhbgaa
