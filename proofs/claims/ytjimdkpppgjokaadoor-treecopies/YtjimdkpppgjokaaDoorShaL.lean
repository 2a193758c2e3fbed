/-
  The fixed answers that every statement of layer 2 asks first are right.
-/
import Derived.Test.YtjimdkpppgjokaaDoorShaK
import Derived.Test.YtjimdkpppgjokaaDoorShaX
import Derived.ChangeKeysEq
namespace Go.Proofs.YtjimdkpppgjokaaDoor
open Go.RowKit
set_option linter.unusedVariables false

attribute [local go_sem ↓] sv24_eq lv24_eq

theorem z32 : vs .u8 32 (fun _ => 0) = #[.int .u8 0, .int .u8 0, .int .u8 0, .int .u8 0, .int .u8 0, .int .u8 0, .int .u8 0, .int .u8 0, .int .u8 0, .int .u8 0, .int .u8 0, .int .u8 0, .int .u8 0, .int .u8 0, .int .u8 0, .int .u8 0, .int .u8 0, .int .u8 0, .int .u8 0, .int .u8 0, .int .u8 0, .int .u8 0, .int .u8 0, .int .u8 0, .int .u8 0, .int .u8 0, .int .u8 0, .int .u8 0, .int .u8 0, .int .u8 0, .int .u8 0, .int .u8 0] := rfl
theorem sv24_new (W : World) (c : Nat → Int) : (sv24 ⟨W.heap.size, 0, none⟩ (.agg (vs .u8 32 c))).run Tryd.prog (W.alloc (.cells #[.int .u8 0, .int .u8 0, .int .u8 0, .int .u8 0, .int .u8 0, .int .u8 0, .int .u8 0, .int .u8 0, .int .u8 0, .int .u8 0, .int .u8 0, .int .u8 0, .int .u8 0, .int .u8 0, .int .u8 0, .int .u8 0, .int .u8 0, .int .u8 0, .int .u8 0, .int .u8 0, .int .u8 0, .int .u8 0, .int .u8 0, .int .u8 0, .int .u8 0, .int .u8 0, .int .u8 0, .int .u8 0, .int .u8 0, .int .u8 0, .int .u8 0, .int .u8 0] 33)) = .ok () (W.alloc (.cells (vs .u8 32 c) 33)) :=
  run_storeVar_new W 33 _ _ (by rw [vs_size]; kernel_rfl) (by rw [vs_size]; rfl) (vs_one _ _ _)
theorem two_zero (w : World) (hH : Tab w 0 8 HW) (hK : Tab w 1 64 KW) :
    Calls Tryd.prog 25 #[.agg #[.int .u8 0, .int .u8 0, .int .u8 0, .int .u8 0, .int .u8 0, .int .u8 0, .int .u8 0, .int .u8 0, .int .u8 0, .int .u8 0, .int .u8 0, .int .u8 0, .int .u8 0, .int .u8 0, .int .u8 0, .int .u8 0, .int .u8 0, .int .u8 0, .int .u8 0, .int .u8 0, .int .u8 0, .int .u8 0, .int .u8 0, .int .u8 0, .int .u8 0, .int .u8 0, .int .u8 0, .int .u8 0, .int .u8 0, .int .u8 0, .int .u8 0, .int .u8 0], .agg #[.int .u8 0, .int .u8 0, .int .u8 0, .int .u8 0, .int .u8 0, .int .u8 0, .int .u8 0, .int .u8 0, .int .u8 0, .int .u8 0, .int .u8 0, .int .u8 0, .int .u8 0, .int .u8 0, .int .u8 0, .int .u8 0, .int .u8 0, .int .u8 0, .int .u8 0, .int .u8 0, .int .u8 0, .int .u8 0, .int .u8 0, .int .u8 0, .int .u8 0, .int .u8 0, .int .u8 0, .int .u8 0, .int .u8 0, .int .u8 0, .int .u8 0, .int .u8 0]] w fun e w' => e = .returned (.agg (vs .u8 32 (shaV KW HW zM 64))) ∧ Below w.heap.size w w' := by
  have h := two_any KW HW zM zM w hH hK HW_bd (fun _ _ => by unfold zM; omega) (fun _ _ => by unfold zM; omega)
  have e : vs .u8 32 (shaV KW HW (cat zM zM) 64) = vs .u8 32 (shaV KW HW zM 64) := vs_congr fun j hj => shaV_congr (fun i _ => by unfold cat zM; rw [ite_self]) j hj
  rw [e] at h
  exact h

theorem conv_mark (W : World) (b : Nat) (c : Array Value) (t : TypeId) (l cap : Nat) (h : W.heap[b]? = some (.cells c t)) :
    (convert 75 75 (.slice (some ⟨b, 0, none⟩) l cap)).run Tryd.prog W = .ok (.slice (some ⟨b, 0, none⟩) l cap) (W.freeze ⟨b, c.size, none⟩ 1) := by
  have hsh : W.shape? b = some (t, c.size) := by simp [World.shape?, h]
  simp [convert, run_underlying Tryd.underlying75, run_underlying Tryd.underlying5, markStringish, hsh]
theorem freeze_cell (W : World) (b i j : Nat) (c : Array Value) (t : TypeId) (h : W.heap[b]? = some (.cells c t)) : (W.freeze ⟨b, i, none⟩ 1).cell? ⟨b, j, none⟩ = c[j]? := by
  have h' : (W.freeze ⟨b, i, none⟩ 1).heap[b]? = some (.cells c t (i, i + 1)) := by
    unfold World.freeze
    rw [if_neg (by decide)]
    simp only [Array.getElem?_modify, if_true, h]
    rfl
  exact cell_of_row _ b j c t (i, i + 1) h'
theorem freeze_below (W : World) (b i : Nat) : Below b W (W.freeze ⟨b, i, none⟩ 1) := by
  unfold World.freeze
  rw [if_neg (by decide)]
  exact ⟨rfl, rfl, rfl, by simp, fun k hk => by simp only [Array.getElem?_modify]; rw [if_neg (by omega)]⟩
theorem freeze_size (W : World) (b i : Nat) : (W.freeze ⟨b, i, none⟩ 1).heap.size = W.heap.size := by
  unfold World.freeze
  rw [if_neg (by decide)]
  simp

/-- Arrays of integers, compared. -/
theorem run_eqItems_ints {P : Program} (d : Nat) (e : TypeId) (k k' : IntKind) (he : P.underlying e = some (.int k')) (ha : ∀ w : World, (isAgg e).run P w = .ok false w) (xs ys : Array Value) (f g : Nat → Int) (w : World) :
    ∀ is : List Nat, (∀ j ∈ is, xs[j]? = some (.int k (f j)) ∧ ys[j]? = some (.int k (g j))) → (Op.eqItems (d + 1) e 1 xs ys is).run P w = .ok (is.all fun j => f j == g j) w
  | [], _ => by simp [Op.eqItems]
  | i :: is, h => by
    obtain ⟨hx, hy⟩ := h i (List.mem_cons_self ..)
    have ih := run_eqItems_ints d e k k' he ha xs ys f g w is (fun j hj => h j (List.mem_cons_of_mem _ hj))
    have px : (part e xs (i * 1)).run P w = .ok (.int k (f i)) w := by rw [Nat.mul_one]; simp [part, ha, hx]
    have py : (part e ys (i * 1)).run P w = .ok (.int k (g i)) w := by rw [Nat.mul_one]; simp [part, ha, hy]
    simp only [Op.eqItems, Sem.run_bind, px, py, run_equalIn_int w d e k k' _ _ he, Result.andThen_ok]
    cases hfg : (f i == g i)
    · simp [hfg]
    · simp [hfg, ih]

theorem agg_u8 (w : World) : (isAgg 5).run Tryd.prog w = .ok false w := by
  unfold isAgg
  rw [Sem.run_bind, run_underlying Tryd.underlying5 w]
  rfl
theorem eq32 (w : World) (c : Nat → Int) : (Op.equalIn 10000 33 (.agg (vs .u8 32 c)) (.agg (vs .u8 32 c))).run Tryd.prog w = .ok true w := by
  have hi : ∃ i, Tryd.prog.info? 5 = some i := Option.isSome_iff_exists.1 (by kernel_rfl)
  obtain ⟨i, hi⟩ := hi
  have hc : Tryd.prog.cellsOf 5 = 1 := by kernel_rfl
  rw [run_equalIn_array w 9999 _ _ Tryd.underlying33 hi, hc]
  have h := run_eqItems_ints (P := Tryd.prog) 9998 5 .u8 .u8 Tryd.underlying5 agg_u8 (vs .u8 32 c) (vs .u8 32 c) c c w (List.range 32) (by
    intro j hj
    have hj := List.mem_range.1 hj
    exact ⟨vs_get _ _ _ _ hj, vs_get _ _ _ _ hj⟩)
  rw [h]
  simp

end Go.Proofs.YtjimdkpppgjokaaDoor
