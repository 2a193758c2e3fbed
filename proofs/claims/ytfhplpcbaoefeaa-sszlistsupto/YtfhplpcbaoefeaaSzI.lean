/-
  What readOffsets answers.
-/
import Derived.Test.YtfhplpcbaoefeaaSzH
namespace Go.Proofs.Ytfhplpcbaoefeaa
open Go.RowKit
set_option linter.unusedVariables false
set_option linter.unusedSimpArgs false

/-- make of numbers. -/
theorem wpList_make_u64 (w : World) {ops : Array Oper} {rest : List Oper} {o : Oper} {a : Act} {Q : Exit → Act → World → Prop} (hg : o.guard = none) (l c : Operand) (hop : o.op = Op.makeSlice 38 l c)
    (n : Nat) (hl : a.eval l = .int .i64 n) (hc : a.eval c = .int .i64 n) (hn : n ≤ 1000000000000)
    (hK : ∀ f w', w'.heap[w.heap.size]? = some (.cells (vals n f) 37) → Below w.heap.size w w' → w.heap.size < w'.heap.size → wpList Try.prog ops Q rest (a.put o.dst (.slice (some ⟨w.heap.size, 0, none⟩) n n)) w') :
    wpList Try.prog ops Q (o :: rest) a w := by
  obtain ⟨i, hi, hz0, hz1, hz2⟩ := info_parts infoU
  refine wpList_make_full w hg l c 38 hop w.heap.size 37 i _ 1 Try.underlying38 hi hz0 hz1 .i64 .i64 _ _ n hl hc rfl rfl (by rw [hz2]; omega) (by unfold maxLen; omega) (Nat.le_refl _) (fun w' h1 h2 => ?_)
  rcases h1.2 with ⟨h3, _⟩ | ⟨g, cap, cur, h3, h4, h5, h6, h7, h8, _⟩
  · cases h3
  · cases h3
    have hs : cur.size = n := by omega
    refine hK (fun i => cur[i]?.getD undef) w' ?_ ⟨h2.os, h2.tape, h2.output, h2.size, fun k hk => h2.block k hk (by intro h; cases h)⟩ (Array.getElem?_eq_some_iff.1 h5).1
    rw [h5]
    have := vals_of cur
    rw [hs] at this
    rw [← this]

attribute [local go_sem ↓] sl22_eq

set_option maxHeartbeats 1000000 in
theorem readoffs_any (m : Nat → Int) (ao : Option Addr) (len cap n : Nat) (w : World) (hb : Bys w ao len cap m) (hm : ∀ j, j < len → 0 ≤ m j ∧ m j < 256) (hlc : len ≤ cap) (hn : len = 4 * n) (hnb : n ≤ 1000000000000) :
    Calls Try.prog 15 #[.slice ao len cap] w fun e w' => e = .returned (.slice (some ⟨w.heap.size, 0, none⟩) n n) ∧ w'.heap[w.heap.size]? = some (.cells (vals n fun i => .int .u64 (o4 m (4 * i))) 37) ∧ Below w.heap.size w w' := by
  have HBY := hid hb
  have HMM := hid hm
  have q1 : (len : Int) / 4 = (n : Int) := by omega
  have q2 : (len : Int).tdiv 4 = (n : Int) := by rw [Int.tdiv_eq_ediv_of_nonneg (by omega)]; exact q1
  have q3 : (len : Int) ≤ 4000000000000 := by omega
  have n4a : 4 * n ≤ len := by omega
  have n4b : len ≤ 4 * n := by omega
  clear hb hm hn
  go_enter Try.func15, Try.ntmps15
  go_wp2_with (at_make; refine wpList_make_u64 _ rfl _ _ rfl n rfl rfl hnb ?_; intro f0 w1 hr1 hb1 hz1)
  have HR1 := hid hr1
  have HB1 := hid hb1
  have HZ1 := hid hz1
  clear hr1 hb1 hz1 q1 q2
  go_loopw [11] (fun i wr => ∃ k : Nat, k ≤ n ∧ i = .int .i64 k ∧ wr.heap[w.heap.size]? = some (.cells (vals n fun i => if i < k then .int .u64 (o4 m (4 * i)) else f0 i) 37) ∧ Below w.heap.size w wr ∧ w.heap.size < wr.heap.size) (fun i _ => n - (intOf i).toNat)
  case atStart =>
    refine ⟨0, by omega, rfl, ?_, HB1.out, HZ1.out⟩
    rw [HR1.out]
    exact congrArg (fun c => some (Obj.cells c 37)) (vals_congr fun i hi => by rw [if_neg (by omega)])
  case round =>
    obtain ⟨k, hk, rfl, hr, hb, hz⟩ := hrel
    clear HR1 HB1 HZ1
    by_cases hkn : k < n
    · obtain ⟨K4, eK⟩ : ∃ K4, 4 * k = K4 := ⟨_, rfl⟩
      have s1 : (k : Int) * 4 = (K4 : Int) := by omega
      have s2 : (K4 : Int) ≤ (len : Int) := by omega
      have s3 : (0 : Int) ≤ (K4 : Int) := by omega
      obtain ⟨A2, hA2, hp2⟩ := sl_part ao len cap K4 len (some (.int .i64 K4)) none m (.inl rfl) (.inr ⟨rfl, rfl⟩) (by omega) (Nat.le_refl _) hlc
      obtain ⟨b1, o1, hA1, hq1, hq2, hq3, hq4⟩ := bys_pos (hp2 wr (HBY.out.below hb)) (by omega)
      have hro := readoff_any (fun j => m (K4 + j)) b1 o1 (len - K4) (cap - K4) wr (fun j hj => hq4 j (by omega)) (fun j hj => HMM.out _ (by omega)) (by omega) hq3
      have eo : o4 (fun j => m (K4 + j)) 0 = o4 m K4 := by unfold o4; simp only [Nat.zero_add, Nat.add_zero, Nat.add_assoc]
      rw [eo] at hro
      obtain ⟨X, eX⟩ : ∃ X, o4 m K4 = X := ⟨_, rfl⟩
      rw [eX] at hro
      subst hA1
      have HRO := hid hro
      have HX : Hid (o4 m (4 * k) = X) := by show o4 m (4 * k) = X; rw [eK]; exact eX
      have HR := hid hr
      have HB := hid hb
      have HZ := hid hz
      have k1 : (k : Int) < (n : Int) := by omega
      have k2 : (0 : Int) ≤ (k : Int) := by omega
      clear hp2 hq1 hq2 hq3 hq4 hro eo eX eK hr hb hz
      go_wp2_with (go_at_call 14; refine HRO.out.mono ?_; rintro e w2 ⟨rfl, hb2⟩; have r2 := (hb2.block w.heap.size HZ.out).trans HR.out; have cw := vals_cell r2 k hkn; have fw := row_frozen r2 k; have HB2 := hid hb2; have HR2 := hid r2; clear hb2 r2)
      go_roundw
      case rel =>
        have hz2 := HB2.out.size
        have hz := HZ.out
        refine ⟨k + 1, by omega, by go_num, ?_, (HB.out.trans (HB2.out.mono HB.out.size)).setCell (by simp) _, by rw [size_set]; omega⟩
        refine (row_set HR2.out k _).trans ?_
        rw [vals_set]
        refine congrArg (fun c => some (Obj.cells c 37)) (vals_congr fun i hi => ?_)
        by_cases hik : i = k
        · subst hik
          rw [if_pos rfl, if_pos (by omega), HX.out]
        · rw [if_neg hik]
          by_cases h2 : i < k
          · rw [if_pos h2, if_pos (by omega)]
          · rw [if_neg h2, if_neg (by omega)]
      case measure => simp [intOf]; omega
    · have ek : k = n := by omega
      subst ek
      have hr' : wr.heap[w.heap.size]? = some (.cells (vals k fun i => .int .u64 (o4 m (4 * i))) 37) := by
        rw [hr]
        exact congrArg (fun c => some (Obj.cells c 37)) (vals_congr fun i hi => by rw [if_pos hi])
      have HR := hid hr'
      have HB := hid hb
      clear hr hr' hb
      go_wp2
      go_ret
      exact ⟨rfl, HR.out, HB.out⟩

end Go.Proofs.Ytfhplpcbaoefeaa
