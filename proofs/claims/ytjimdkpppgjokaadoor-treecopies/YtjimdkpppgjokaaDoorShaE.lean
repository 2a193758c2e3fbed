/-
  What rootOf answers: words as bytes.
-/
import Derived.Test.YtjimdkpppgjokaaDoorShaR
namespace Go.Proofs.YtjimdkpppgjokaaDoor
open Go.RowKit
set_option linter.unusedVariables false

/-- The bytes of the words, the highest byte of each first. -/
def rbt (s : Nat → Int) (j : Nat) : Int := s (j / 4) / (2 ^ (24 - 8 * (j % 4))) % 256

theorem rbt_bd (s : Nat → Int) (j : Nat) : 0 ≤ rbt s j ∧ rbt s j < 256 := by unfold rbt; omega
theorem rbt0 (s : Nat → Int) (k : Nat) : rbt s (4 * k) = s k / 16777216 % 256 := by
  unfold rbt
  rw [show 4 * k / 4 = k by omega, show 4 * k % 4 = 0 by omega]
  rfl
theorem rbt1 (s : Nat → Int) (k : Nat) : rbt s (4 * k + 1) = s k / 65536 % 256 := by
  unfold rbt
  rw [show (4 * k + 1) / 4 = k by omega, show (4 * k + 1) % 4 = 1 by omega]
  rfl
theorem rbt2 (s : Nat → Int) (k : Nat) : rbt s (4 * k + 2) = s k / 256 % 256 := by
  unfold rbt
  rw [show (4 * k + 2) / 4 = k by omega, show (4 * k + 2) % 4 = 2 by omega]
  rfl
theorem rbt3 (s : Nat → Int) (k : Nat) : rbt s (4 * k + 3) = s k % 256 := by
  unfold rbt
  rw [show (4 * k + 3) / 4 = k by omega, show (4 * k + 3) % 4 = 3 by omega]
  simp

theorem vs32 (s : Nat → Int) : vs .u8 32 (rbt s) = #[.int .u8 (s 0 / 16777216 % 256), .int .u8 (s 0 / 65536 % 256), .int .u8 (s 0 / 256 % 256), .int .u8 (s 0 % 256), .int .u8 (s 1 / 16777216 % 256), .int .u8 (s 1 / 65536 % 256), .int .u8 (s 1 / 256 % 256), .int .u8 (s 1 % 256), .int .u8 (s 2 / 16777216 % 256), .int .u8 (s 2 / 65536 % 256), .int .u8 (s 2 / 256 % 256), .int .u8 (s 2 % 256), .int .u8 (s 3 / 16777216 % 256), .int .u8 (s 3 / 65536 % 256), .int .u8 (s 3 / 256 % 256), .int .u8 (s 3 % 256), .int .u8 (s 4 / 16777216 % 256), .int .u8 (s 4 / 65536 % 256), .int .u8 (s 4 / 256 % 256), .int .u8 (s 4 % 256), .int .u8 (s 5 / 16777216 % 256), .int .u8 (s 5 / 65536 % 256), .int .u8 (s 5 / 256 % 256), .int .u8 (s 5 % 256), .int .u8 (s 6 / 16777216 % 256), .int .u8 (s 6 / 65536 % 256), .int .u8 (s 6 / 256 % 256), .int .u8 (s 6 % 256), .int .u8 (s 7 / 16777216 % 256), .int .u8 (s 7 / 65536 % 256), .int .u8 (s 7 / 256 % 256), .int .u8 (s 7 % 256)] := by
  show (#[.int .u8 (rbt s 0), .int .u8 (rbt s 1), .int .u8 (rbt s 2), .int .u8 (rbt s 3), .int .u8 (rbt s 4), .int .u8 (rbt s 5), .int .u8 (rbt s 6), .int .u8 (rbt s 7), .int .u8 (rbt s 8), .int .u8 (rbt s 9), .int .u8 (rbt s 10), .int .u8 (rbt s 11), .int .u8 (rbt s 12), .int .u8 (rbt s 13), .int .u8 (rbt s 14), .int .u8 (rbt s 15), .int .u8 (rbt s 16), .int .u8 (rbt s 17), .int .u8 (rbt s 18), .int .u8 (rbt s 19), .int .u8 (rbt s 20), .int .u8 (rbt s 21), .int .u8 (rbt s 22), .int .u8 (rbt s 23), .int .u8 (rbt s 24), .int .u8 (rbt s 25), .int .u8 (rbt s 26), .int .u8 (rbt s 27), .int .u8 (rbt s 28), .int .u8 (rbt s 29), .int .u8 (rbt s 30), .int .u8 (rbt s 31)] : Array Value) = _
  rw [show rbt s 0 = s 0 / 16777216 % 256 from rbt0 s 0, show rbt s 1 = s 0 / 65536 % 256 from rbt1 s 0, show rbt s 2 = s 0 / 256 % 256 from rbt2 s 0, show rbt s 3 = s 0 % 256 from rbt3 s 0, show rbt s 4 = s 1 / 16777216 % 256 from rbt0 s 1, show rbt s 5 = s 1 / 65536 % 256 from rbt1 s 1, show rbt s 6 = s 1 / 256 % 256 from rbt2 s 1, show rbt s 7 = s 1 % 256 from rbt3 s 1, show rbt s 8 = s 2 / 16777216 % 256 from rbt0 s 2, show rbt s 9 = s 2 / 65536 % 256 from rbt1 s 2, show rbt s 10 = s 2 / 256 % 256 from rbt2 s 2, show rbt s 11 = s 2 % 256 from rbt3 s 2, show rbt s 12 = s 3 / 16777216 % 256 from rbt0 s 3, show rbt s 13 = s 3 / 65536 % 256 from rbt1 s 3, show rbt s 14 = s 3 / 256 % 256 from rbt2 s 3, show rbt s 15 = s 3 % 256 from rbt3 s 3, show rbt s 16 = s 4 / 16777216 % 256 from rbt0 s 4, show rbt s 17 = s 4 / 65536 % 256 from rbt1 s 4, show rbt s 18 = s 4 / 256 % 256 from rbt2 s 4, show rbt s 19 = s 4 % 256 from rbt3 s 4, show rbt s 20 = s 5 / 16777216 % 256 from rbt0 s 5, show rbt s 21 = s 5 / 65536 % 256 from rbt1 s 5, show rbt s 22 = s 5 / 256 % 256 from rbt2 s 5, show rbt s 23 = s 5 % 256 from rbt3 s 5, show rbt s 24 = s 6 / 16777216 % 256 from rbt0 s 6, show rbt s 25 = s 6 / 65536 % 256 from rbt1 s 6, show rbt s 26 = s 6 / 256 % 256 from rbt2 s 6, show rbt s 27 = s 6 % 256 from rbt3 s 6, show rbt s 28 = s 7 / 16777216 % 256 from rbt0 s 7, show rbt s 29 = s 7 / 65536 % 256 from rbt1 s 7, show rbt s 30 = s 7 / 256 % 256 from rbt2 s 7, show rbt s 31 = s 7 % 256 from rbt3 s 7]

theorem agg_u32 (w : World) : (isAgg 79).run Tryd.prog w = .ok false w := by
  unfold isAgg
  rw [Sem.run_bind, run_underlying Tryd.underlying79 w]
  rfl
theorem size_u32 (w : World) : (sizeOf 79).run Tryd.prog w = .ok 1 w := by
  have hi : (Tryd.prog.info? 79).map (·.size) = some 1 := by kernel_rfl
  cases hq : Tryd.prog.info? 79 with
  | none => simp [hq] at hi
  | some i => simp [hq] at hi; simp [sizeOf, typeInfo, hq, hi]
theorem ix8 (s : Nat → Int) (k : Nat) (hk : k < 8) (w : World) : (Instr.index 80 (.agg (vs .u32 8 s)) (.int .i64 k)).run Tryd.prog w = .ok (.int .u32 (s k)) w := by
  have h1 : (0 : Int) ≤ (k : Int) ∧ (k : Int) < ((8 : Nat) : Int) := by omega
  simp [Instr.index, run_underlying Tryd.underlying80, asIntOf, part, vs_get _ _ _ _ hk, hk]

theorem upto_set4 (g : Nat → Int) (k : Nat) (n : Nat) (v0 v1 v2 v3 : Int) (h0 : v0 = g (4 * k)) (h1 : v1 = g (4 * k + 1)) (h2 : v2 = g (4 * k + 2)) (h3 : v3 = g (4 * k + 3)) :
    ((((vs .u8 n fun j => if j < 4 * k then g j else 0).setIfInBounds (4 * k) (.int .u8 v0)).setIfInBounds (4 * k + 1) (.int .u8 v1)).setIfInBounds (4 * k + 2) (.int .u8 v2)).setIfInBounds (4 * k + 3) (.int .u8 v3) = vs .u8 n fun j => if j < 4 * (k + 1) then g j else 0 := by
  rw [vs_set, vs_set, vs_set, vs_set]
  refine vs_congr fun i _ => ?_
  by_cases e3 : i = 4 * k + 3
  · subst e3; simp [h3, show 4 * k + 3 < 4 * (k + 1) by omega]
  · by_cases e2 : i = 4 * k + 2
    · subst e2; simp [h2, show 4 * k + 2 < 4 * (k + 1) by omega]
    · by_cases e1 : i = 4 * k + 1
      · subst e1; simp [h1, show 4 * k + 1 < 4 * (k + 1) by omega]
      · by_cases e0 : i = 4 * k
        · subst e0; simp [h0, show 4 * k < 4 * (k + 1) by omega]
        · by_cases hl : i < 4 * k
          · simp [e0, e1, e2, e3, hl, show i < 4 * (k + 1) by omega]
          · simp [e0, e1, e2, e3, hl, show ¬ i < 4 * (k + 1) by omega]

theorem row4 {w : World} {b : Nat} {c : Array Value} {t : TypeId} (h : w.heap[b]? = some (.cells c t)) (i j k l : Nat) (u v x y : Value) :
    ((((w.setCell ⟨b, i, none⟩ u).setCell ⟨b, j, none⟩ v).setCell ⟨b, k, none⟩ x).setCell ⟨b, l, none⟩ y).heap[b]? = some (.cells ((((c.setIfInBounds i u).setIfInBounds j v).setIfInBounds k x).setIfInBounds l y) t) :=
  row_set (row_set (row_set (row_set h i u) j v) k x) l y
theorem other4 {w : World} {b b' : Nat} (hb : b' ≠ b) (i j k l : Nat) (u v x y : Value) :
    ((((w.setCell ⟨b, i, none⟩ u).setCell ⟨b, j, none⟩ v).setCell ⟨b, k, none⟩ x).setCell ⟨b, l, none⟩ y).heap[b']? = w.heap[b']? :=
  (heap_set_other hb).trans ((heap_set_other hb).trans ((heap_set_other hb).trans (heap_set_other hb)))
theorem size4 {w : World} {b : Nat} (i j k l : Nat) (u v x y : Value) :
    ((((w.setCell ⟨b, i, none⟩ u).setCell ⟨b, j, none⟩ v).setCell ⟨b, k, none⟩ x).setCell ⟨b, l, none⟩ y).heap.size = w.heap.size := by simp only [size_s]

set_option maxRecDepth 20000 in
set_option maxHeartbeats 2000000 in
theorem rootOf_any (s : Nat → Int) (w : World) (hs : ∀ i, i < 8 → 0 ≤ s i ∧ s i < 4294967296) :
    Calls Tryd.prog 48 #[.agg (vs .u32 8 s)] w fun e w' => e = .returned (.agg (vs .u8 32 (rbt s))) ∧ Below w.heap.size w w' := by
  have HSS := hid hs
  have IX : ∀ k : Nat, k < 8 → ∀ w : World, (Instr.index 80 (.agg #[.int .u32 (s 0), .int .u32 (s 1), .int .u32 (s 2), .int .u32 (s 3), .int .u32 (s 4), .int .u32 (s 5), .int .u32 (s 6), .int .u32 (s 7)]) (.int .i64 k)).run Tryd.prog w = .ok (.int .u32 (s k)) w := fun k hk w => ix8 s k hk w
  have HIX := hid IX
  rw [vs8]
  clear hs IX
  go_enter Tryd.func48, Tryd.ntmps48
  go_wp2
  go_loopw [7] (fun i wr => ∃ k : Nat, k ≤ 8 ∧ i = .int .i64 k ∧ Below w.heap.size w wr ∧ wr.heap.size = w.heap.size + 3 ∧ wr.heap[w.heap.size + 1]? = some (.cells (vs .u8 32 fun _ => 0) 33) ∧ wr.heap[w.heap.size + 1 + 1]? = some (.cells (vs .u8 32 fun j => if j < 4 * k then rbt s j else 0) 33)) (fun i _ => 8 - (intOf i).toNat)
  case atStart =>
    refine ⟨0, by omega, rfl, ?_, ?_, ?_, ?_⟩
    · go_grown
    · simp
    · exact (heap_old (by simp)).trans ((heap_new (by simp)))
    · exact heap_new (by simp)
  case round =>
    obtain ⟨k, hk, rfl, hB, hz, r1, r2⟩ := hrel
    by_cases hlt : k < 8
    · obtain ⟨x0, x1⟩ := HSS.out k hlt
      have hix := HIX.out k hlt
      have q0 := rbt0 s k
      have q1 := rbt1 s k
      have q2 := rbt2 s k
      have q3 := rbt3 s k
      generalize s k = x at hix x0 x1 q0 q1 q2 q3
      have Q := hid (And.intro q0 (And.intro q1 (And.intro q2 q3)))
      clear q0 q1 q2 q3
      have cs0 := row_int r2 (4 * k) (by omega)
      have cs1 := row_int r2 (4 * k + 1) (by omega)
      have cs2 := row_int r2 (4 * k + 2) (by omega)
      have cs3 := row_int r2 (4 * k + 3) (by omega)
      have fs0 := row_frozen r2 (4 * k)
      have fs1 := row_frozen r2 (4 * k + 1)
      have fs2 := row_frozen r2 (4 * k + 2)
      have fs3 := row_frozen r2 (4 * k + 3)
      have R1 := hid r1
      have R2 := hid r2
      have HZ := hid hz
      have HB := hid hB
      clear r1 r2 hz hB
      have b1 : (0 : Int) ≤ (k : Int) := by omega
      have b2 : (k : Int) < 8 := by omega
      have t0 : (4 * (k : Int)).toNat = 4 * k := by omega
      have t1 : (4 * (k : Int) + 1).toNat = 4 * k + 1 := by omega
      have t2 : (4 * (k : Int) + 2).toNat = 4 * k + 2 := by omega
      have t3 : (4 * (k : Int) + 3).toNat = 4 * k + 3 := by omega
      go_wp2
      go_roundw
      case rel =>
        obtain ⟨q0, q1, q2, q3⟩ := Q.out
        have hq : w.heap.size ≤ w.heap.size + 1 + 1 := by omega
        refine ⟨k + 1, by omega, by go_num, ?_, ?_, ?_, ?_⟩
        · exact (((HB.out.setCell hq _).setCell hq _).setCell hq _).setCell hq _
        · exact (size4 _ _ _ _ _ _ _ _).trans HZ.out
        · exact (other4 (by omega) _ _ _ _ _ _ _ _).trans R1.out
        · refine (row4 R2.out _ _ _ _ _ _ _ _).trans ?_
          exact congrArg (fun c => some (Obj.cells c 33)) (upto_set4 (rbt s) k 32 _ _ _ _ (by rw [q0]; omega) q1.symm q2.symm q3.symm)
      case measure => simp [intOf]; omega
    · have ek : k = 8 := by omega
      subst ek
      have ev : vs .u8 32 (fun j => if j < 4 * 8 then rbt s j else 0) = vs .u8 32 (rbt s) := vs_congr fun i hi => by rw [if_pos (by omega)]
      rw [ev] at r2
      have RL := hid (load_row (P := Tryd.prog) (setRow_at (c := vs .u8 32 (rbt s)) r1) 33 _ Tryd.underlying33 rfl (by rw [vs_size]; kernel_rfl))
      have HL := hid (load_row (P := Tryd.prog) r2 33 _ Tryd.underlying33 rfl (by rw [vs_size]; kernel_rfl))
      have HS := hid (store_row (P := Tryd.prog) r1 33 (vs .u8 32 (rbt s)) (by rw [vs_size]; kernel_rfl) (by simp [vs_size]) (vs_one _ _ _))
      have R1 := hid r1
      have HB := hid hB
      clear r1 r2 hz hB hk hlt ev
      go_wp2_with (first
        | (refine wpList_load_is (by rfl) 33 _ (by rfl) _ _ (by rfl) HL.out ?_)
        | (refine wpList_store_is (by rfl) 33 _ _ (by rfl) _ _ (by rfl) (by rfl) (by rfl) HS.out ?_)
        | (refine bodyPost_ret (results_cell (by rfl) _ _ (w.heap.size + 1) _ (by rfl) RL.out) (by rfl) ?_))
      exact below_row HB.out (by omega) _

end Go.Proofs.YtjimdkpppgjokaaDoor
