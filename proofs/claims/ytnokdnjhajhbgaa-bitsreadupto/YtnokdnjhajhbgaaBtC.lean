/-
  What Vector and List answer.
-/
import Derived.Test.YtnokdnjhajhbgaaBtB
namespace Go.Proofs.Ytnokdnjhajhbgaa
open Go.RowKit
set_option linter.unusedVariables false
set_option linter.unusedSimpArgs false

theorem bls_lt {w : World} {a : Option Addr} {len cap : Nat} {f : Nat → Bool} (h : Bls w a len cap f) (hp : 0 < len) : ∀ x, a = some x → x.block < w.heap.size := by
  intro x hx
  obtain ⟨b, off, h1, h2, _⟩ := bls_at h 0 hp
  rw [h1] at hx
  cases hx
  exact h2
theorem set_none (a : Option Addr) (cap g N : Nat) (w : World) :
    Calls Try.prog 19 #[.slice (some ⟨g, 0, none⟩) N N, .slice a 0 cap] w fun e w' => e = .returned (.tuple #[]) ∧ w' = w := by
  go_enter Try.func19, Try.ntmps19
  go_wp2
  go_loopw [8] (fun v wr => v = .int .i64 0 ∧ wr = w) (fun v _ => 0)
  case atStart => exact ⟨rfl, rfl⟩
  case round =>
    obtain ⟨rfl, rfl⟩ := hrel
    go_wp2
    go_end0
    exact ⟨rfl, rfl⟩
theorem vs0 (f : Nat → Bool) (N : Nat) : vs .u8 N (fun _ => 0) = vs .u8 N (fun q => (byt f 0 q : Int)) := vs_congr fun q _ => by rw [byt_zero]; rfl
/-- set, whatever the bits are. -/
theorem set_new (f : Nat → Bool) (a : Option Addr) (n cap N : Nat) (w : World) (h : Bls w a n cap f) (hN : n ≤ 8 * N) :
    Calls Try.prog 19 #[.slice (some ⟨w.heap.size, 0, none⟩) N N, .slice a n cap] (w.alloc (.cells (vs .u8 N (fun _ => 0)) 5)) fun e w' => e = .returned (.tuple #[]) ∧ w'.heap[w.heap.size]? = some (.cells (vs .u8 N (fun q => (byt f n q : Int))) 5) ∧ Below w.heap.size w w' ∧ w'.heap.size = w.heap.size + 1 := by
  have hb : Below w.heap.size w (w.alloc (.cells (vs .u8 N (fun _ => 0)) 5)) := (Below.refl _ _).alloc (Nat.le_refl _) _
  by_cases h0 : 0 < n
  · refine (set_any f a n cap w.heap.size N 5 _ (h.below hb) ((heap_new rfl).trans (by rw [vs0 f])) hN (bls_lt h h0)).mono ?_
    rintro e w' ⟨rfl, h1, h2, h3⟩
    exact ⟨rfl, h1, hb.trans h2, h3.trans (by simp)⟩
  · have e0 : n = 0 := by omega
    subst e0
    refine (set_none a cap _ N _).mono ?_
    rintro e w' ⟨rfl, rfl⟩
    exact ⟨rfl, (heap_new rfl).trans (by rw [vs0 f]), hb, by simp⟩

theorem vector_any (f : Nat → Bool) (a : Option Addr) (n cap : Nat) (w : World) (h : Bls w a n cap f) (hn : n ≤ 140737488355328) :
    Calls Try.prog 8 #[.slice a n cap] w fun e w' => e = .returned (.slice (some ⟨w.heap.size, 0, none⟩) ((n + 7) / 8) ((n + 7) / 8)) ∧ w'.heap[w.heap.size]? = some (.cells (vs .u8 ((n + 7) / 8) (fun q => (byt f n q : Int))) 5) ∧ Below w.heap.size w w' ∧ w'.heap.size = w.heap.size + 1 := by
  have hs := set_new f a n cap ((n + 7) / 8) w h (by omega)
  have hv := vbytes_any n w (by omega)
  have hmk := make_bytes w ((n + 7) / 8) (by omega)
  obtain ⟨N, eN⟩ : ∃ N, (n + 7) / 8 = N := ⟨_, rfl⟩
  rw [eN] at hs hv hmk ⊢
  have HS := hid hs
  have HV := hid hv
  clear h hs hv eN
  go_enter Try.func8, Try.ntmps8
  go_wp2_with (first
    | (go_at_call 18; refine HV.out.mono ?_; rintro e w1 ⟨rfl, rfl⟩)
    | (go_at_call 19; refine HS.out.mono ?_; rintro e w2 ⟨rfl, x1, x2, x3⟩))
  go_ret
  exact ⟨rfl, x1, x2, x3⟩

/-- The bits, and one that is set behind them. -/
def ext (f : Nat → Bool) (n : Nat) (j : Nat) : Bool := decide (j = n) || f j
theorem ext_congr (f : Nat → Bool) (n j : Nat) (h : j < n) : ext f n j = f j := by
  unfold ext
  simp [show ¬ j = n by omega]
theorem ext_at (f : Nat → Bool) (n : Nat) : ext f n n = true := by simp [ext]

set_option maxHeartbeats 400000 in
theorem list_any (f : Nat → Bool) (a : Option Addr) (n cap : Nat) (w : World) (h : Bls w a n cap f) (hn : n ≤ 140737488355328) :
    Calls Try.prog 9 #[.slice a n cap] w fun e w' => e = .returned (.slice (some ⟨w.heap.size, 0, none⟩) (n / 8 + 1) (n / 8 + 1)) ∧ w'.heap[w.heap.size]? = some (.cells (vs .u8 (n / 8 + 1) (fun q => (byt (ext f n) (n + 1) q : Int))) 5) ∧ Below w.heap.size w w' ∧ w'.heap.size = w.heap.size + 1 := by
  have hs := set_new f a n cap (n / 8 + 1) w h (by omega)
  have hmk := make_bytes w (n / 8 + 1) (by omega)
  obtain ⟨q, eq⟩ : ∃ q, n / 8 = q := ⟨_, rfl⟩
  obtain ⟨r, er⟩ : ∃ r, n % 8 = r := ⟨_, rfl⟩
  have e1 : (n : Int) / 8 = (q : Int) := by omega
  have e2 : (n : Int) % 8 = (r : Int) := by omega
  have r1 : (r : Int) < 8 := by omega
  have r2 : (0 : Int) ≤ (r : Int) := by omega
  have q2 : (0 : Int) ≤ (q : Int) := by omega
  have q3 : (q : Int) < ((q + 1 : Nat) : Int) := by omega
  have q4 : (q : Int) ≤ 140737488355328 := by omega
  have k2 : (0 : Int) ≤ (n : Int) := by omega
  rw [eq] at hs hmk ⊢
  rw [show (((q + 1 : Nat) : Int)) = (q : Int) + 1 by omega] at hmk
  have HS := hid hs
  have EE := hid (And.intro eq er)
  clear h hs eq er
  go_enter Try.func9, Try.ntmps9
  go_wp2_with (go_at_call 19; refine HS.out.mono ?_; rintro e w2 ⟨rfl, x1, x2, x3⟩; have cq := row_int x1 q (by omega); have fq := row_frozen x1 q; obtain ⟨B, eB⟩ : ∃ B, byt f n q = B := ⟨_, rfl⟩; rw [eB] at cq; have X := hid (And.intro x1 (And.intro x2 (And.intro x3 eB))); clear x1 x2 x3 eB)
  go_region
  go_wp2
  go_ret
  obtain ⟨eq, er⟩ := EE.out
  obtain ⟨x1, x2, x3, eB⟩ := X.out
  refine ⟨rfl, ?_, (x2.setCell (by simp) _).drew, (size_set _ _ _).trans x3⟩
  refine (row_set x1 q _).trans ?_
  rw [vs_set]
  refine congrArg (fun c => some (Obj.cells c 5)) (vs_congr fun i _ => ?_)
  by_cases hi : i = q
  · rw [if_pos hi, or_pow B r (by rw [← eB]; exact byt_lt _ _ _) (by omega), hi, ← eB, ← eq, ← er, ← byt_or (ext f n) n (ext_at f n), byt_congr (ext_congr f n)]
  · rw [if_neg hi, byt_other (ext f n) n i (by omega), byt_congr (ext_congr f n)]

end Go.Proofs.Ytnokdnjhajhbgaa
