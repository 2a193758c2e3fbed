/-
  What the reference's Vector and List answer.
-/
import Derived.Test.YtnokdnjhajhbgaaBtD
namespace Go.Proofs.Ytnokdnjhajhbgaa
open Go.RowKit
set_option linter.unusedVariables false
set_option linter.unusedSimpArgs false

theorem add_pow (B r : Nat) (hr : r < 8) (hs : B + 2 ^ r < 256) : ((B : Int) + 2 ^ r) % 256 = ((B + 2 ^ r : Nat) : Int) := by
  rw [show ((2 : Int) ^ r) = ((2 ^ r : Nat) : Int) by simp, ← Int.natCast_add]
  exact Int.emod_eq_of_lt (Int.natCast_nonneg _) (Int.ofNat_lt.2 hs)

set_option maxHeartbeats 400000 in
theorem rvector_any (f : Nat → Bool) (a : Option Addr) (n cap : Nat) (w : World) (h : Bls w a n cap f) (hnb : n ≤ 140737488355328) :
    Calls Try.prog 10 #[.slice a n cap] w fun e w' => e = .returned (.slice (some ⟨w.heap.size, 0, none⟩) ((n + 7) / 8) ((n + 7) / 8)) ∧ w'.heap[w.heap.size]? = some (.cells (vs .u8 ((n + 7) / 8) (fun q => (byt f n q : Int))) 5) ∧ Below w.heap.size w w' ∧ w'.heap.size = w.heap.size + 1 := by
  have hmk := make_bytes w ((n + 7) / 8) (by omega)
  obtain ⟨N, eN⟩ : ∃ N, (n + 7) / 8 = N := ⟨_, rfl⟩
  have eN' : ((n : Int) + 7) / 8 = (N : Int) := by omega
  have hN : n ≤ 8 * N := by omega
  rw [eN] at hmk ⊢
  have H := hid h
  have hn : (n : Int) ≤ 140737488355328 := by omega
  have n0 : (0 : Int) ≤ (n : Int) := by omega
  clear h eN
  go_enter Try.func10, Try.ntmps10
  go_wp2
  go_loopw [4] (fun v wr => ∃ k : Nat, k ≤ n ∧ v = .int .i64 k ∧ wr.heap[w.heap.size]? = some (.cells (vs .u8 N (fun q => (byt f k q : Int))) 5) ∧ Below w.heap.size w wr ∧ wr.heap.size = w.heap.size + 1) (fun v _ => n - (intOf v).toNat)
  case atStart => exact ⟨0, by omega, rfl, (heap_new rfl).trans (by rw [vs0 f]), (Below.refl _ _).alloc (Nat.le_refl _) _, by simp⟩
  case round =>
    obtain ⟨k, hk, rfl, hr, hb, hz⟩ := hrel
    clear hmk
    by_cases hkn : k < n
    · obtain ⟨b, off, rfl, hbb, ck0⟩ := bls_at H.out k hkn
      have ck := (below_cell hb hbb).trans ck0
      obtain ⟨x, ex⟩ : ∃ x, f k = x := ⟨_, rfl⟩
      rw [ex] at ck
      have k1 : (k : Int) < (n : Int) := by omega
      have k2 : (0 : Int) ≤ (k : Int) := by omega
      have HR := hid hr
      have HB := hid hb
      have HZ := hid hz
      have EX := hid ex
      clear ck0 ex
      cases x
      · clear hr hb hz
        go_wp2
        go_roundw
        case rel =>
          refine ⟨k + 1, by omega, by go_num, ?_, HB.out, HZ.out⟩
          rw [HR.out]
          exact congrArg (fun c => some (Obj.cells c 5)) (vs_congr fun q _ => by rw [byt_skip f k q EX.out])
        case measure => simp [intOf]; omega
      · have cq := row_int hr (k / 8) (by omega)
        have fq := row_frozen hr (k / 8)
        obtain ⟨q, eq⟩ : ∃ q, k / 8 = q := ⟨_, rfl⟩
        obtain ⟨B, eB⟩ : ∃ B, byt f k q = B := ⟨_, rfl⟩
        obtain ⟨r, er⟩ : ∃ r, k % 8 = r := ⟨_, rfl⟩
        have e1 : (k : Int) / 8 = (q : Int) := by omega
        have e2 : (k : Int) % 8 = (r : Int) := by omega
        have q1 : (q : Int) < (N : Int) := by omega
        have q2 : (0 : Int) ≤ (q : Int) := by omega
        have r1 : (r : Int) < 8 := by omega
        have r2 : (0 : Int) ≤ (r : Int) := by omega
        rw [eq] at cq fq
        rw [eB] at cq
        have EE := hid (And.intro eq (And.intro er eB))
        clear hr hb hz eq er eB
        go_wp2
        go_roundw
        case rel =>
          obtain ⟨eq, er, eB⟩ := EE.out
          refine ⟨k + 1, by omega, by go_num, ?_, HB.out.setCell (by simp) _, ?_⟩
          · refine (row_set HR.out q _).trans ?_
            rw [vs_set]
            refine congrArg (fun c => some (Obj.cells c 5)) (vs_congr fun i _ => ?_)
            by_cases hi : i = q
            · have e3 := byt_add f k EX.out
              have e4 := byt_lt f (k + 1) (k / 8)
              rw [← e3, eq, er, eB] at e4
              rw [eq, er, eB] at e3
              rw [if_pos hi, add_pow B r (by omega) e4, hi, e3]
            · rw [if_neg hi, byt_other f k i (by omega)]
          · exact (size_set _ _ _).trans HZ.out
        case measure => simp [intOf]; omega
    · have ek : k = n := by omega
      subst ek
      have HR := hid hr
      have HB := hid hb
      clear hr hb
      go_wp2
      go_ret
      exact ⟨rfl, HR.out, HB.out, hz⟩

/-- What a copy of bits, and one more, is. -/
theorem copy_owns {w w1 : World} {v : Value} {n : Nat} {f g : Nat → Bool} {B : Nat} (h : w1.ownsRow B 4 1 v (0 + n) ([] ++ bbl f n)) (he : ∀ i, i < n → f i = g i) : w1.ownsRow B 4 1 v n (bbl g n) := by
  rw [Nat.zero_add, List.nil_append, bbl_congr he] at h
  exact h
theorem empty_owns (w : World) : (w.alloc (.cells #[] 4)).ownsRow w.heap.size 4 1 (.slice (some ⟨w.heap.size, 0, none⟩) 0 0) 0 [] :=
  World.ownsRow_made w #[] 0 (Nat.le_refl _) (Nat.zero_le _) rfl
theorem ext_of (f : Nat → Bool) (n : Nat) : ∀ i, i < n → f i = ext f n i := fun i hi => (ext_congr f n i hi).symm

theorem rlist_any (f : Nat → Bool) (a : Option Addr) (n cap : Nat) (w : World) (h : Bls w a n cap f) (hn : n + 1 ≤ 140737488355328) :
    Calls Try.prog 11 #[.slice a n cap] w fun e w' => ∃ g, e = .returned (.slice (some ⟨g, 0, none⟩) (n / 8 + 1) (n / 8 + 1)) ∧ w.heap.size ≤ g ∧ w'.heap[g]? = some (.cells (vs .u8 (n / 8 + 1) (fun q => (byt (ext f n) (n + 1) q : Int))) 5) ∧ Below w.heap.size w w' := by
  have hb0 : Below w.heap.size w (w.alloc (.cells #[] 4)) := (Below.refl _ _).alloc (Nat.le_refl _) _
  have H := hid (h.below hb0)
  have HB0 := hid hb0
  clear h hb0
  go_enter Try.func11, Try.ntmps11
  go_wp2_with (first
    | (at_builtin; refine wpList_append_bls _ rfl _ _ rfl w.heap.size _ 0 [] rfl (empty_owns w) a n cap f rfl H.out (by omega) (by simp) ?_; intro v1 w1 ho1 hg1; have hb1 := below_grown HB0.out (empty_owns w) (by simp) hg1; have HO1 := hid (copy_owns (w := w) ho1 (ext_of f n)); have HB1 := hid hb1; have hz1 := hb1.size; clear ho1 hg1 hb1)
    | (at_builtin; refine wpList_append_bit w1 rfl _ _ rfl w.heap.size v1 n (ext f n) true rfl HO1.out rfl (ext_at f n).symm hn hz1 ?_; intro g C w2 ho2 hg2; have hb2 := below_grown HB1.out HO1.out hz1 hg2; have HO2 := hid ho2; have HB2 := hid hb2; have hz2 := hb2.size; clear ho2 hg2 hb2)
    | (go_at_call 10; refine (rvector_any (ext f n) _ (n + 1) C w2 (by obtain ⟨a', C', he, _, _, hbl, _⟩ := owns_bls HO2.out; cases he; exact hbl) hn).mono ?_; rintro e w3 ⟨rfl, x1, x2, x3⟩))
  go_ret
  have e : (n + 1 + 7) / 8 = n / 8 + 1 := by omega
  rw [e] at x1 ⊢
  exact ⟨_, rfl, hz2, x1, HB2.out.trans (x2.mono hz2)⟩

end Go.Proofs.Ytnokdnjhajhbgaa
