/-
  The fixed answers that every statement of layer 2 asks first are right.
-/
import Derived.Test.YtgbmjlckaplocaaDoorShaK
import Derived.Test.YtgbmjlckaplocaaDoorShaX
import Derived.ChangeKeysEq
namespace Go.Proofs.YtgbmjlckaplocaaDoor
open Go.RowKit
set_option linter.unusedVariables false

attribute [local go_sem ↓] sv24_eq lv24_eq

theorem z32 : vs .u8 32 (fun _ => 0) = #[.int .u8 0, .int .u8 0, .int .u8 0, .int .u8 0, .int .u8 0, .int .u8 0, .int .u8 0, .int .u8 0, .int .u8 0, .int .u8 0, .int .u8 0, .int .u8 0, .int .u8 0, .int .u8 0, .int .u8 0, .int .u8 0, .int .u8 0, .int .u8 0, .int .u8 0, .int .u8 0, .int .u8 0, .int .u8 0, .int .u8 0, .int .u8 0, .int .u8 0, .int .u8 0, .int .u8 0, .int .u8 0, .int .u8 0, .int .u8 0, .int .u8 0, .int .u8 0] := rfl
theorem sv24_new (W : World) (c : Nat → Int) : (sv24 ⟨W.heap.size, 0, none⟩ (.agg (vs .u8 32 c))).run Tryd.prog (W.alloc (.cells #[.int .u8 0, .int .u8 0, .int .u8 0, .int .u8 0, .int .u8 0, .int .u8 0, .int .u8 0, .int .u8 0, .int .u8 0, .int .u8 0, .int .u8 0, .int .u8 0, .int .u8 0, .int .u8 0, .int .u8 0, .int .u8 0, .int .u8 0, .int .u8 0, .int .u8 0, .int .u8 0, .int .u8 0, .int .u8 0, .int .u8 0, .int .u8 0, .int .u8 0, .int .u8 0, .int .u8 0, .int .u8 0, .int .u8 0, .int .u8 0, .int .u8 0, .int .u8 0] 24)) = .ok () (W.alloc (.cells (vs .u8 32 c) 24)) :=
  run_storeVar_new W 24 _ _ (by rw [vs_size]; kernel_rfl) (by rw [vs_size]; rfl) (vs_one _ _ _)
theorem two_zero (w : World) (hH : Tab w 0 8 HW) (hK : Tab w 2 64 KW) :
    Calls Tryd.prog 11 #[.agg #[.int .u8 0, .int .u8 0, .int .u8 0, .int .u8 0, .int .u8 0, .int .u8 0, .int .u8 0, .int .u8 0, .int .u8 0, .int .u8 0, .int .u8 0, .int .u8 0, .int .u8 0, .int .u8 0, .int .u8 0, .int .u8 0, .int .u8 0, .int .u8 0, .int .u8 0, .int .u8 0, .int .u8 0, .int .u8 0, .int .u8 0, .int .u8 0, .int .u8 0, .int .u8 0, .int .u8 0, .int .u8 0, .int .u8 0, .int .u8 0, .int .u8 0, .int .u8 0], .agg #[.int .u8 0, .int .u8 0, .int .u8 0, .int .u8 0, .int .u8 0, .int .u8 0, .int .u8 0, .int .u8 0, .int .u8 0, .int .u8 0, .int .u8 0, .int .u8 0, .int .u8 0, .int .u8 0, .int .u8 0, .int .u8 0, .int .u8 0, .int .u8 0, .int .u8 0, .int .u8 0, .int .u8 0, .int .u8 0, .int .u8 0, .int .u8 0, .int .u8 0, .int .u8 0, .int .u8 0, .int .u8 0, .int .u8 0, .int .u8 0, .int .u8 0, .int .u8 0]] w fun e w' => e = .returned (.agg (vs .u8 32 (shaV KW HW zM 64))) ∧ Below w.heap.size w w' := by
  have h := two_any KW HW zM zM w hH hK HW_bd (fun _ _ => by unfold zM; omega) (fun _ _ => by unfold zM; omega)
  have e : vs .u8 32 (shaV KW HW (cat zM zM) 64) = vs .u8 32 (shaV KW HW zM 64) := vs_congr fun j hj => shaV_congr (fun i _ => by unfold cat zM; rw [ite_self]) j hj
  rw [e] at h
  exact h

theorem conv_mark (W : World) (b : Nat) (c : Array Value) (t : TypeId) (l cap : Nat) (h : W.heap[b]? = some (.cells c t)) :
    (convert 22 22 (.slice (some ⟨b, 0, none⟩) l cap)).run Tryd.prog W = .ok (.slice (some ⟨b, 0, none⟩) l cap) (W.freeze ⟨b, c.size, none⟩ 1) := by
  have hsh : W.shape? b = some (t, c.size) := by simp [World.shape?, h]
  simp [convert, run_underlying Tryd.underlying22, run_underlying Tryd.underlying5, markStringish, hsh]
theorem freeze_cell (W : World) (b i j : Nat) (c : Array Value) (t : TypeId) (h : W.heap[b]? = some (.cells c t)) : (W.freeze ⟨b, i, none⟩ 1).cell? ⟨b, j, none⟩ = c[j]? := by
  have h' : (W.freeze ⟨b, i, none⟩ 1).heap[b]? = some (.cells c t (i, i + 1)) := by
    unfold World.freeze
    rw [if_neg (by decide)]
    simp only [Array.getElem?_modify, if_true, h]
    rfl
  exact cell_of_row _ b j c t (i, i + 1) h'
theorem freeze_below (W : World) (b i : Nat) : Below b W (W.freeze ⟨b, i, none⟩ 1) := by
  unfold World.freeze
  rw [if_neg (by decide)]
  exact ⟨rfl, rfl, rfl, by simp, fun k hk => by simp only [Array.getElem?_modify]; rw [if_neg (by omega)]⟩
theorem freeze_size (W : World) (b i : Nat) : (W.freeze ⟨b, i, none⟩ 1).heap.size = W.heap.size := by
  unfold World.freeze
  rw [if_neg (by decide)]
  simp

set_option maxRecDepth 20000 in
set_option maxHeartbeats 400000 in
theorem awake_any (w : World) (hH : Tab w 0 8 HW) (hK : Tab w 2 64 KW) :
    Calls Tryd.prog 8 #[] w fun e w' => e = .returned (.bool true) ∧ Below w.heap.size w w' := by
  have HHH := hid hH
  have HK := hid hK
  clear hH hK
  have v := sv24_new
  go_enter Tryd.func8, Tryd.ntmps8
  obtain ⟨W0, hW0⟩ : ∃ W, w.alloc (.cells #[.int .u8 97, .int .u8 98, .int .u8 99] 5) = W := ⟨_, rfl⟩
  have h0 : W0.heap[w.heap.size]? = some (.cells #[.int .u8 97, .int .u8 98, .int .u8 99] 5) := by rw [← hW0]; exact heap_new rfl
  have s0 : W0.heap.size = w.heap.size + 1 := by rw [← hW0]; simp
  have hB0 : Below w.heap.size w W0 := by rw [← hW0]; go_grown
  have hcv := conv_mark W0 w.heap.size _ 5 3 3 h0
  rw [← hW0] at hcv
  obtain ⟨W1, hW1⟩ : ∃ W, (w.alloc (.cells #[.int .u8 97, .int .u8 98, .int .u8 99] 5)).freeze ⟨w.heap.size, (#[Value.int .u8 97, .int .u8 98, .int .u8 99] : Array Value).size, none⟩ 1 = W := ⟨_, rfl⟩
  rw [hW1] at hcv
  have s1 : W1.heap.size = w.heap.size + 1 := by rw [← hW1, freeze_size, hW0]; exact s0
  have hB1 : Below w.heap.size w W1 := by
    rw [← hW1]
    rw [hW0]
    exact hB0.trans (freeze_below _ _ _)
  have hc1 : ∀ j, j < 3 → W1.cell? ⟨w.heap.size, 0 + j, none⟩ = some (.int .u8 (abcM j)) := by
    intro j hj
    rw [← hW1, hW0, freeze_cell _ _ _ _ _ _ h0, Nat.zero_add]
    rcases (by omega : j = 0 ∨ j = 1 ∨ j = 2) with h | h | h <;> subst h <;> rfl
  have hs := sum_any KW HW abcM 3 3 w.heap.size 0 W1 (HHH.out.below hB1) (HK.out.below hB1) HW_bd hc1 (by decide) (by omega) (by omega) (by omega) (by omega)
  have HS := hid hs
  have HB1 := hid hB1
  have HS1 := hid s1
  clear hW0 h0 s0 hB0 hW1 s1 hB1 hc1 hs
  go_upto_region 2 with (go_at_call 9; refine HS.out.mono ?_; rintro e w2 ⟨rfl, hb2⟩)
  obtain ⟨W3, hW3⟩ : ∃ W, w2.alloc (.cells (vs .u8 32 (shaV KW HW abcM 3)) 24) = W := ⟨_, rfl⟩
  rw [hW3]
  have r3 : W3.heap[w2.heap.size]? = some (.cells (vs .u8 32 (shaV KW HW abcM 3)) 24) := by rw [← hW3]; exact heap_new rfl
  have hB3 : Below w.heap.size w W3 := by
    rw [← hW3]
    have := hb2.size
    exact (HB1.out.trans (hb2.mono (by rw [HS1.out]; omega))).alloc (by rw [HS1.out] at this; omega) _
  have z3 : w2.heap.size < W3.heap.size := by rw [← hW3]; simp
  obtain ⟨p, hp⟩ : ∃ p, w2.heap.size = p := ⟨_, rfl⟩
  rw [hp] at r3 z3 ⊢
  have h2 := two_zero W3 (HHH.out.below hB3) (HK.out.below hB3)
  have H2 := hid h2
  have HR3 := hid r3
  have HB3 := hid hB3
  have HZ3 := hid z3
  clear hW3 r3 hB3 z3 h2 hb2 hp hcv w2
  go_upto_region 3 with (go_at_call 11; refine H2.out.mono ?_; rintro e w4 ⟨rfl, hb4⟩)
  obtain ⟨W5, hW5⟩ : ∃ W, w4.alloc (.cells (vs .u8 32 (shaV KW HW zM 64)) 24) = W := ⟨_, rfl⟩
  rw [hW5]
  have z4 := hb4.size
  have ra : W5.heap[p]? = some (.cells (vs .u8 32 (shaV KW HW abcM 3)) 24) := by
    rw [← hW5]
    have := HZ3.out
    exact (heap_old (by omega)).trans ((hb4.block p HZ3.out).trans HR3.out)
  have rb : W5.heap[w4.heap.size]? = some (.cells (vs .u8 32 (shaV KW HW zM 64)) 24) := by rw [← hW5]; exact heap_new rfl
  have hB5 : Below w.heap.size w W5 := by
    rw [← hW5]
    have := HB3.out.size
    exact (HB3.out.trans (hb4.mono this)).alloc (by omega) _
  have a0 := row_int ra 0 (by omega)
  have a31 := row_int ra 31 (by omega)
  have b0 := row_int rb 0 (by omega)
  have b31 := row_int rb 31 (by omega)
  rw [abc_0] at a0
  rw [abc_31] at a31
  rw [zero_0] at b0
  rw [zero_31] at b31
  have HB5 := hid hB5
  clear hW5 ra rb hB5 z4 hb4
  go_wp2
  go_ret
  exact ⟨rfl, HB5.out⟩

/-- Arrays of integers, compared. -/
theorem run_eqItems_ints {P : Program} (d : Nat) (e : TypeId) (k k' : IntKind) (he : P.underlying e = some (.int k')) (ha : ∀ w : World, (isAgg e).run P w = .ok false w) (xs ys : Array Value) (f g : Nat → Int) (w : World) :
    ∀ is : List Nat, (∀ j ∈ is, xs[j]? = some (.int k (f j)) ∧ ys[j]? = some (.int k (g j))) → (Op.eqItems (d + 1) e 1 xs ys is).run P w = .ok (is.all fun j => f j == g j) w
  | [], _ => by simp [Op.eqItems]
  | i :: is, h => by
    obtain ⟨hx, hy⟩ := h i (List.mem_cons_self ..)
    have ih := run_eqItems_ints d e k k' he ha xs ys f g w is (fun j hj => h j (List.mem_cons_of_mem _ hj))
    have px : (part e xs (i * 1)).run P w = .ok (.int k (f i)) w := by rw [Nat.mul_one]; simp [part, ha, hx]
    have py : (part e ys (i * 1)).run P w = .ok (.int k (g i)) w := by rw [Nat.mul_one]; simp [part, ha, hy]
    simp only [Op.eqItems, Sem.run_bind, px, py, run_equalIn_int w d e k k' _ _ he, Result.andThen_ok]
    cases hfg : (f i == g i)
    · simp [hfg]
    · simp [hfg, ih]

theorem agg_u8 (w : World) : (isAgg 5).run Tryd.prog w = .ok false w := by
  unfold isAgg
  rw [Sem.run_bind, run_underlying Tryd.underlying5 w]
  rfl
theorem eq32 (w : World) (c : Nat → Int) : (Op.equalIn 10000 24 (.agg (vs .u8 32 c)) (.agg (vs .u8 32 c))).run Tryd.prog w = .ok true w := by
  have hi : ∃ i, Tryd.prog.info? 5 = some i := ⟨_, rfl⟩
  obtain ⟨i, hi⟩ := hi
  have hc : Tryd.prog.cellsOf 5 = 1 := by kernel_rfl
  rw [run_equalIn_array w 9999 _ _ Tryd.underlying24 hi, hc]
  have h := run_eqItems_ints (P := Tryd.prog) 9998 5 .u8 .u8 Tryd.underlying5 agg_u8 (vs .u8 32 c) (vs .u8 32 c) c c w (List.range 32) (by
    intro j hj
    have hj := List.mem_range.1 hj
    exact ⟨vs_get _ _ _ _ hj, vs_get _ _ _ _ hj⟩)
  rw [h]
  simp

end Go.Proofs.YtgbmjlckaplocaaDoor
