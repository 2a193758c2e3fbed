/-
  What turn and rot answer: a word turned to the right.
  Rows of integers in memory: what lies in a block, read and written cell by cell.
  The words of a block, and the block's rounds, as numbers.
  The rounds of a block, as numbers.
-/
import Derived.Test.YtficlakgameglaaDoorRows
import Derived.WalkKit
import Derived.WalkSpells
import Derived.WalkLawsBesides
import Derived.OpenShut
import Derived.Handy
import Derived.Deep.RegionHeld3
import Derived.Laws.BitsAllLaws
import Derived.Deep.MidRow
import Derived.Deep.WholeRow
namespace Go.Proofs.YtficlakgameglaaDoor

open Go.RowKit

set_option linter.unusedVariables false

/-- An end that several orders share. -/
theorem share {P : Program} {ops : Array Oper} {Q : Exit → Act → World → Prop} {md : Region.Mode} {S : World → Prop} {fuel : Nat} {listed : Array Bool} {a : Act} {w : World} (V : World) {act : Act} (hm : Q .normal act V → wpAnyH P md ops Q S fuel listed a w) (ht : Q .normal act V) : wpAnyH P md ops Q S fuel listed a w := hm ht

/-- Take number i first. -/
theorem tk {P : Program} {ops : Array Oper} {Q : Exit → Act → World → Prop} {md : Region.Mode} {S : World → Prop} (i : Nat) {oi : Oper} {v : Value} {fuel : Nat} {listed : Array Bool} {a : Act} {w : World}
    (hy : ∀ w, S w → (execOp a.eval oi).run P w = .ok (.value v) w) (hS : S w) (h : wpAnyH P md ops Q S fuel (listed.setIfInBounds i true) (a.put oi.dst v) w)
    (hi : ops[i]? = some oi := by rfl) (hs : Region.noSelect ops = true := by kernel_rfl) (hf : Region.free md ops listed i = true := by kernel_rfl) (hr : (Region.ready md ops listed).contains i = true := by kernel_rfl)
    (hQ : ∀ c a w, Q (.panic c) (a.put oi.dst v) w → Q (.panic c) a w := by exact fun _ _ _ h => h) (hw : Region.wanted oi (yielded ops a.tmps) = true := by kernel_rfl) : wpAnyH P md ops Q S (fuel + 1) listed a w :=
  wpAnyH_take hi hs hf hr hQ (Or.inl ⟨hw, hy⟩) hS h

/-- Number i is not wanted. -/
theorem tl {P : Program} {ops : Array Oper} {Q : Exit → Act → World → Prop} {md : Region.Mode} {S : World → Prop} (i : Nat) {oi : Oper} {fuel : Nat} {listed : Array Bool} {a : Act} {w : World}
    (hS : S w) (h : wpAnyH P md ops Q S fuel (listed.setIfInBounds i true) (a.put oi.dst undef) w)
    (hi : ops[i]? = some oi := by rfl) (hs : Region.noSelect ops = true := by kernel_rfl) (hf : Region.free md ops listed i = true := by kernel_rfl) (hr : (Region.ready md ops listed).contains i = true := by kernel_rfl)
    (hQ : ∀ c a w, Q (.panic c) (a.put oi.dst undef) w → Q (.panic c) a w := by exact fun _ _ _ h => h) (hw : Region.wanted oi (yielded ops a.tmps) = false := by kernel_rfl) : wpAnyH P md ops Q S (fuel + 1) listed a w :=
  wpAnyH_take hi hs hf hr hQ (Or.inr ⟨hw, rfl⟩) hS h

theorem hid {p : Prop} (h : p) : Hid p := h

theorem ret1 {k : IntKind} {a b : Int} (h : a = b) : Ending.returned (.int k a) = .returned (.int k b) := by rw [h]

/-- A word turned to the right: p is 2^k, q is 2^(32-k). -/
def rr (p q x : Int) : Int := bits .or .u32 (x / p) (x * q % 4294967296)

theorem or_swap (a b : Int) (h1 : 0 ≤ a) (h2 : a < 4294967296) (h3 : 0 ≤ b) (h4 : b < 4294967296) : bits .or .u32 a b = bits .or .u32 b a := by
  rw [u32_or a b h1 h2 h3 h4, u32_or b a h3 h4 h1 h2, Nat.or_comm]

theorem turn_2 (x : Int) (w : World) (h0 : 0 ≤ x) (h1 : x < 4294967296) :
    Calls Tryd.prog 92 #[.int .u32 x, .int .i64 2] w fun e w' => e = .returned (.int .u32 (rr 4 1073741824 x)) ∧ w' = w := by
  have hc : bits .and .u64 (IntKind.u64.wrap (-2)) 31 = 30 := by decide
  have hR : Calls Tryd.prog 95 #[.int .u32 x, .int .i64 (-2)] w fun e w' => e = .returned (.int .u32 (rr 4 1073741824 x)) ∧ w' = w := by
    go_enter Tryd.func95, Tryd.ntmps95
    go_wp2
    go_ret
    exact ⟨ret1 (or_swap _ _ (by omega) (by omega) (by omega) (by omega)), rfl⟩
  go_enter Tryd.func92, Tryd.ntmps92
  go_wp2_with (go_at_call 95; refine hR.mono ?_; rintro e w' ⟨rfl, rfl⟩)
  go_ret
  exact ⟨rfl, rfl⟩

theorem turn_6 (x : Int) (w : World) (h0 : 0 ≤ x) (h1 : x < 4294967296) :
    Calls Tryd.prog 92 #[.int .u32 x, .int .i64 6] w fun e w' => e = .returned (.int .u32 (rr 64 67108864 x)) ∧ w' = w := by
  have hc : bits .and .u64 (IntKind.u64.wrap (-6)) 31 = 26 := by decide
  have hR : Calls Tryd.prog 95 #[.int .u32 x, .int .i64 (-6)] w fun e w' => e = .returned (.int .u32 (rr 64 67108864 x)) ∧ w' = w := by
    go_enter Tryd.func95, Tryd.ntmps95
    go_wp2
    go_ret
    exact ⟨ret1 (or_swap _ _ (by omega) (by omega) (by omega) (by omega)), rfl⟩
  go_enter Tryd.func92, Tryd.ntmps92
  go_wp2_with (go_at_call 95; refine hR.mono ?_; rintro e w' ⟨rfl, rfl⟩)
  go_ret
  exact ⟨rfl, rfl⟩

theorem turn_7 (x : Int) (w : World) (h0 : 0 ≤ x) (h1 : x < 4294967296) :
    Calls Tryd.prog 92 #[.int .u32 x, .int .i64 7] w fun e w' => e = .returned (.int .u32 (rr 128 33554432 x)) ∧ w' = w := by
  have hc : bits .and .u64 (IntKind.u64.wrap (-7)) 31 = 25 := by decide
  have hR : Calls Tryd.prog 95 #[.int .u32 x, .int .i64 (-7)] w fun e w' => e = .returned (.int .u32 (rr 128 33554432 x)) ∧ w' = w := by
    go_enter Tryd.func95, Tryd.ntmps95
    go_wp2
    go_ret
    exact ⟨ret1 (or_swap _ _ (by omega) (by omega) (by omega) (by omega)), rfl⟩
  go_enter Tryd.func92, Tryd.ntmps92
  go_wp2_with (go_at_call 95; refine hR.mono ?_; rintro e w' ⟨rfl, rfl⟩)
  go_ret
  exact ⟨rfl, rfl⟩

theorem turn_11 (x : Int) (w : World) (h0 : 0 ≤ x) (h1 : x < 4294967296) :
    Calls Tryd.prog 92 #[.int .u32 x, .int .i64 11] w fun e w' => e = .returned (.int .u32 (rr 2048 2097152 x)) ∧ w' = w := by
  have hc : bits .and .u64 (IntKind.u64.wrap (-11)) 31 = 21 := by decide
  have hR : Calls Tryd.prog 95 #[.int .u32 x, .int .i64 (-11)] w fun e w' => e = .returned (.int .u32 (rr 2048 2097152 x)) ∧ w' = w := by
    go_enter Tryd.func95, Tryd.ntmps95
    go_wp2
    go_ret
    exact ⟨ret1 (or_swap _ _ (by omega) (by omega) (by omega) (by omega)), rfl⟩
  go_enter Tryd.func92, Tryd.ntmps92
  go_wp2_with (go_at_call 95; refine hR.mono ?_; rintro e w' ⟨rfl, rfl⟩)
  go_ret
  exact ⟨rfl, rfl⟩

theorem turn_13 (x : Int) (w : World) (h0 : 0 ≤ x) (h1 : x < 4294967296) :
    Calls Tryd.prog 92 #[.int .u32 x, .int .i64 13] w fun e w' => e = .returned (.int .u32 (rr 8192 524288 x)) ∧ w' = w := by
  have hc : bits .and .u64 (IntKind.u64.wrap (-13)) 31 = 19 := by decide
  have hR : Calls Tryd.prog 95 #[.int .u32 x, .int .i64 (-13)] w fun e w' => e = .returned (.int .u32 (rr 8192 524288 x)) ∧ w' = w := by
    go_enter Tryd.func95, Tryd.ntmps95
    go_wp2
    go_ret
    exact ⟨ret1 (or_swap _ _ (by omega) (by omega) (by omega) (by omega)), rfl⟩
  go_enter Tryd.func92, Tryd.ntmps92
  go_wp2_with (go_at_call 95; refine hR.mono ?_; rintro e w' ⟨rfl, rfl⟩)
  go_ret
  exact ⟨rfl, rfl⟩

theorem turn_17 (x : Int) (w : World) (h0 : 0 ≤ x) (h1 : x < 4294967296) :
    Calls Tryd.prog 92 #[.int .u32 x, .int .i64 17] w fun e w' => e = .returned (.int .u32 (rr 131072 32768 x)) ∧ w' = w := by
  have hc : bits .and .u64 (IntKind.u64.wrap (-17)) 31 = 15 := by decide
  have hR : Calls Tryd.prog 95 #[.int .u32 x, .int .i64 (-17)] w fun e w' => e = .returned (.int .u32 (rr 131072 32768 x)) ∧ w' = w := by
    go_enter Tryd.func95, Tryd.ntmps95
    go_wp2
    go_ret
    exact ⟨ret1 (or_swap _ _ (by omega) (by omega) (by omega) (by omega)), rfl⟩
  go_enter Tryd.func92, Tryd.ntmps92
  go_wp2_with (go_at_call 95; refine hR.mono ?_; rintro e w' ⟨rfl, rfl⟩)
  go_ret
  exact ⟨rfl, rfl⟩

theorem turn_18 (x : Int) (w : World) (h0 : 0 ≤ x) (h1 : x < 4294967296) :
    Calls Tryd.prog 92 #[.int .u32 x, .int .i64 18] w fun e w' => e = .returned (.int .u32 (rr 262144 16384 x)) ∧ w' = w := by
  have hc : bits .and .u64 (IntKind.u64.wrap (-18)) 31 = 14 := by decide
  have hR : Calls Tryd.prog 95 #[.int .u32 x, .int .i64 (-18)] w fun e w' => e = .returned (.int .u32 (rr 262144 16384 x)) ∧ w' = w := by
    go_enter Tryd.func95, Tryd.ntmps95
    go_wp2
    go_ret
    exact ⟨ret1 (or_swap _ _ (by omega) (by omega) (by omega) (by omega)), rfl⟩
  go_enter Tryd.func92, Tryd.ntmps92
  go_wp2_with (go_at_call 95; refine hR.mono ?_; rintro e w' ⟨rfl, rfl⟩)
  go_ret
  exact ⟨rfl, rfl⟩

theorem turn_19 (x : Int) (w : World) (h0 : 0 ≤ x) (h1 : x < 4294967296) :
    Calls Tryd.prog 92 #[.int .u32 x, .int .i64 19] w fun e w' => e = .returned (.int .u32 (rr 524288 8192 x)) ∧ w' = w := by
  have hc : bits .and .u64 (IntKind.u64.wrap (-19)) 31 = 13 := by decide
  have hR : Calls Tryd.prog 95 #[.int .u32 x, .int .i64 (-19)] w fun e w' => e = .returned (.int .u32 (rr 524288 8192 x)) ∧ w' = w := by
    go_enter Tryd.func95, Tryd.ntmps95
    go_wp2
    go_ret
    exact ⟨ret1 (or_swap _ _ (by omega) (by omega) (by omega) (by omega)), rfl⟩
  go_enter Tryd.func92, Tryd.ntmps92
  go_wp2_with (go_at_call 95; refine hR.mono ?_; rintro e w' ⟨rfl, rfl⟩)
  go_ret
  exact ⟨rfl, rfl⟩

theorem turn_22 (x : Int) (w : World) (h0 : 0 ≤ x) (h1 : x < 4294967296) :
    Calls Tryd.prog 92 #[.int .u32 x, .int .i64 22] w fun e w' => e = .returned (.int .u32 (rr 4194304 1024 x)) ∧ w' = w := by
  have hc : bits .and .u64 (IntKind.u64.wrap (-22)) 31 = 10 := by decide
  have hR : Calls Tryd.prog 95 #[.int .u32 x, .int .i64 (-22)] w fun e w' => e = .returned (.int .u32 (rr 4194304 1024 x)) ∧ w' = w := by
    go_enter Tryd.func95, Tryd.ntmps95
    go_wp2
    go_ret
    exact ⟨ret1 (or_swap _ _ (by omega) (by omega) (by omega) (by omega)), rfl⟩
  go_enter Tryd.func92, Tryd.ntmps92
  go_wp2_with (go_at_call 95; refine hR.mono ?_; rintro e w' ⟨rfl, rfl⟩)
  go_ret
  exact ⟨rfl, rfl⟩

theorem turn_25 (x : Int) (w : World) (h0 : 0 ≤ x) (h1 : x < 4294967296) :
    Calls Tryd.prog 92 #[.int .u32 x, .int .i64 25] w fun e w' => e = .returned (.int .u32 (rr 33554432 128 x)) ∧ w' = w := by
  have hc : bits .and .u64 (IntKind.u64.wrap (-25)) 31 = 7 := by decide
  have hR : Calls Tryd.prog 95 #[.int .u32 x, .int .i64 (-25)] w fun e w' => e = .returned (.int .u32 (rr 33554432 128 x)) ∧ w' = w := by
    go_enter Tryd.func95, Tryd.ntmps95
    go_wp2
    go_ret
    exact ⟨ret1 (or_swap _ _ (by omega) (by omega) (by omega) (by omega)), rfl⟩
  go_enter Tryd.func92, Tryd.ntmps92
  go_wp2_with (go_at_call 95; refine hR.mono ?_; rintro e w' ⟨rfl, rfl⟩)
  go_ret
  exact ⟨rfl, rfl⟩

/-- A word turned by k bits to the right. -/
def rt (k x : Int) : Int := rr (2 ^ k.toNat) (2 ^ (32 - k.toNat)) x

def turns : List Int := [2, 6, 7, 11, 13, 17, 18, 19, 22, 25]

theorem rt_2 (x : Int) : rt 2 x = rr 4 1073741824 x := rfl

theorem rt_6 (x : Int) : rt 6 x = rr 64 67108864 x := rfl

theorem rt_7 (x : Int) : rt 7 x = rr 128 33554432 x := rfl

theorem rt_11 (x : Int) : rt 11 x = rr 2048 2097152 x := rfl

theorem rt_13 (x : Int) : rt 13 x = rr 8192 524288 x := rfl

theorem rt_17 (x : Int) : rt 17 x = rr 131072 32768 x := rfl

theorem rt_18 (x : Int) : rt 18 x = rr 262144 16384 x := rfl

theorem rt_19 (x : Int) : rt 19 x = rr 524288 8192 x := rfl

theorem rt_22 (x : Int) : rt 22 x = rr 4194304 1024 x := rfl

theorem rt_25 (x : Int) : rt 25 x = rr 33554432 128 x := rfl

theorem turn_any (k x : Int) (w : World) (h0 : 0 ≤ x) (h1 : x < 4294967296) (hk : k ∈ turns) :
    Calls Tryd.prog 92 #[.int .u32 x, .int .i64 k] w fun e w' => e = .returned (.int .u32 (rt k x)) ∧ w' = w := by
  simp only [turns, List.mem_cons, List.not_mem_nil, or_false] at hk
  rcases hk with rfl | rfl | rfl | rfl | rfl | rfl | rfl | rfl | rfl | rfl
  · rw [rt_2]; exact turn_2 x w h0 h1
  · rw [rt_6]; exact turn_6 x w h0 h1
  · rw [rt_7]; exact turn_7 x w h0 h1
  · rw [rt_11]; exact turn_11 x w h0 h1
  · rw [rt_13]; exact turn_13 x w h0 h1
  · rw [rt_17]; exact turn_17 x w h0 h1
  · rw [rt_18]; exact turn_18 x w h0 h1
  · rw [rt_19]; exact turn_19 x w h0 h1
  · rw [rt_22]; exact turn_22 x w h0 h1
  · rw [rt_25]; exact turn_25 x w h0 h1

end Go.Proofs.YtficlakgameglaaDoor

namespace Go.Proofs.YtficlakgameglaaDoor

open Go.RowKit

set_option linter.unusedVariables false

/-- n integers of a kind. -/
def vs (k : IntKind) (n : Nat) (f : Nat → Int) : Array Value := ((List.range n).map fun i => Value.int k (f i)).toArray

theorem vs_size (k : IntKind) (n : Nat) (f : Nat → Int) : (vs k n f).size = n := by simp [vs]

theorem vs_get (k : IntKind) (n : Nat) (f : Nat → Int) (i : Nat) (h : i < n) : (vs k n f)[i]? = some (.int k (f i)) := by simp [vs, h]

theorem vs_get_none (k : IntKind) (n : Nat) (f : Nat → Int) (i : Nat) (h : n ≤ i) : (vs k n f)[i]? = none := by simp [vs, h]

theorem vs_congr {k : IntKind} {n : Nat} {f g : Nat → Int} (h : ∀ i, i < n → f i = g i) : vs k n f = vs k n g := by
  unfold vs
  congr 1
  apply List.map_congr_left
  intro i hi
  rw [h i (by simpa using hi)]

theorem vs_set (k : IntKind) (n : Nat) (f : Nat → Int) (i : Nat) (v : Int) : (vs k n f).setIfInBounds i (.int k v) = vs k n (fun j => if j = i then v else f j) := by
  apply Array.ext_getElem?
  intro j
  rw [Array.getElem?_setIfInBounds]
  by_cases e : i = j
  · subst e
    rw [if_pos rfl, vs_size]
    by_cases hn : i < n
    · rw [if_pos hn, vs_get _ _ _ i hn, if_pos rfl]
    · rw [if_neg hn, vs_get_none _ _ _ i (by omega)]
  · rw [if_neg e]
    by_cases hn : j < n
    · rw [vs_get _ _ _ j hn, vs_get _ _ _ j hn, if_neg (fun h => e h.symm)]
    · rw [vs_get_none _ _ _ j (by omega), vs_get_none _ _ _ j (by omega)]

theorem vs_one (k : IntKind) (n : Nat) (f : Nat → Int) : (vs k n f).all (·.oneCell') = true := by
  rw [Array.all_eq_true_iff_forall_mem]
  intro v hv
  simp [vs] at hv
  obtain ⟨i, _, rfl⟩ := hv
  rfl

theorem vs_list (k : IntKind) (n : Nat) (f : Nat → Int) : (vs k n f).toList = (List.range n).map fun i => Value.int k (f i) := by simp [vs]

theorem row_cell {w : World} {b : Nat} {c : Array Value} {t : TypeId} (h : w.heap[b]? = some (.cells c t)) (i : Nat) : w.cell? ⟨b, i, none⟩ = c[i]? := cell_of_row w b i c t (0, 0) h

theorem row_int {w : World} {b n : Nat} {k : IntKind} {f : Nat → Int} {t : TypeId} (h : w.heap[b]? = some (.cells (vs k n f) t)) (i : Nat) (hi : i < n) : w.cell? ⟨b, i, none⟩ = some (.int k (f i)) := by
  rw [row_cell h, vs_get _ _ _ _ hi]

theorem row_set {w : World} {b : Nat} {c : Array Value} {t : TypeId} (h : w.heap[b]? = some (.cells c t)) (i : Nat) (v : Value) : (w.setCell ⟨b, i, none⟩ v).heap[b]? = some (.cells (c.setIfInBounds i v) t) := by
  simp only [World.setCell, Array.getElem?_modify, if_true, h]
  rfl

theorem row_frozen {w : World} {b : Nat} {c : Array Value} {t : TypeId} (h : w.heap[b]? = some (.cells c t)) (i : Nat) : w.frozen? ⟨b, i, none⟩ = false := by
  simp [World.frozen?, h]

theorem heap_set_other {w : World} {b b' i : Nat} {v : Value} (h : b' ≠ b) : (w.setCell ⟨b, i, none⟩ v).heap[b']? = w.heap[b']? := Below.heap_setCell w ⟨b, i, none⟩ v b' h

/-- A whole row, read and written. -/
theorem load_row {P : Program} {w : World} {b : Nat} {c : Array Value} {t : TypeId} (h : w.heap[b]? = some (.cells c t)) (ty : TypeId) (d : TypeDesc) (hu : P.underlying ty = some d) (hd : d.isRow = true) (hi : (P.info? ty).map (·.size) = some c.size) :
    (Instr.loadAt ty (.pointer (some ⟨b, 0, none⟩))).run P w = .ok (.agg c) w := by
  simp only [Instr.loadAt, Instr.sureAddr, Sem.run_bind, Sem.run_pure, Result.andThen_ok]
  exact run_loadVar_row w b t ty c (0, 0) d h hu (by cases d <;> simp_all [TypeDesc.isRow]) hi

theorem store_row {P : Program} {w : World} {b : Nat} {old : Array Value} {t : TypeId} (h : w.heap[b]? = some (.cells old t)) (ty : TypeId) (c : Array Value) (hi : (P.info? ty).map (·.size) = some c.size) (ho : old.size = c.size) (h1 : c.all (·.oneCell') = true) :
    (Instr.storeAt ty (.pointer (some ⟨b, 0, none⟩)) (.agg c)).run P w = .ok () (w.setRow b c) := by
  simp only [Instr.storeAt, Instr.sureAddr, Sem.run_bind, Sem.run_pure, Result.andThen_ok]
  exact run_storeVar_row w b t ty old c h hi ho h1

/-- A load and a store whose runs are known. -/
theorem wpList_load_is {P : Program} {w : World} {ops : Array Oper} {rest : List Oper} {o : Oper} {a : Act} {Q : Exit → Act → World → Prop} (hg : o.guard = none) (ty : TypeId) (x : Operand) (hop : o.op = .load ty x) (vx v : Value) (hx : a.eval x = vx)
    (hrun : (Instr.loadAt ty vx).run P w = .ok v w) (hK : wpList P ops Q rest (a.put o.dst v) w) : wpList P ops Q (o :: rest) a w := by
  refine wpList_plain hg fun K hK' => ?_
  unfold Oper.wp execOp
  simp only [hop, hx, hrun, Sem.run_bind, Result.andThen_ok, Sem.run_pure]
  exact hK' _ _ hK

theorem wpList_store_is {P : Program} {w w' : World} {ops : Array Oper} {rest : List Oper} {o : Oper} {a : Act} {Q : Exit → Act → World → Prop} (hg : o.guard = none) (ty : TypeId) (x y : Operand) (hop : o.op = .store ty x y) (vx vy : Value) (hx : a.eval x = vx) (hy : a.eval y = vy)
    (hd : o.dst = none) (hrun : (Instr.storeAt ty vx vy).run P w = .ok () w') (hK : wpList P ops Q rest a w') : wpList P ops Q (o :: rest) a w := by
  refine wpList_plain hg fun K hK' => ?_
  unfold Oper.wp execOp
  simp only [hop, hx, hy, hrun, Sem.run_bind, Result.andThen_ok, Sem.run_pure]
  refine hK' _ _ ?_
  rw [hd]
  exact hK

/-- A result that lies in a cell. -/
theorem results_cell {P : Program} {fn : Func} {t : Tmp} {ty : TypeId} (h : fn.results = #[.cell t ty]) (tmps : Array Value) (w : World) (b : Nat) (v : Value) (ht : tmps.getD t undef = .pointer (some ⟨b, 0, none⟩))
    (hl : (Instr.loadAt ty (.pointer (some ⟨b, 0, none⟩))).run P w = .ok v w) : (results fn tmps).run P w = .ok v w := by
  simp only [Instr.loadAt, Instr.sureAddr, Sem.run_bind, Sem.run_pure, Result.andThen_ok] at hl
  rw [Array.getD_eq_getD_getElem?] at ht
  simp [results, h, ht, hl, asAddr]

theorem setRow_at {w : World} {b : Nat} {old c : Array Value} {t : TypeId} (h : w.heap[b]? = some (.cells old t)) : (w.setRow b c).heap[b]? = some (.cells c t) := setRow_heap w b old c t (0, 0) h

theorem below_row {B g : Nat} {w0 w : World} (hb : Below B w0 w) (hBg : B ≤ g) (cs : Array Value) : Below B w0 (w.setRow g cs) := 
  hb.trans ⟨rfl, rfl, rfl, by simp, fun k hk => setRow_other w g k cs (by omega)⟩

theorem heap_old {w : World} {o : Obj} {k : Nat} (h : k < w.heap.size) : (w.alloc o).heap[k]? = w.heap[k]? := Below.heap_alloc w o k h

theorem heap_new {w : World} {o : Obj} {k : Nat} (h : k = w.heap.size) : (w.alloc o).heap[k]? = some o := by subst h; exact heap_alloc_last w o

theorem below_cell {B : Nat} {w w' : World} (h : Below B w w') {b i : Nat} (hb : b < B) : w'.cell? ⟨b, i, none⟩ = w.cell? ⟨b, i, none⟩ := h.cell (p := ⟨b, i, none⟩) hb

/-- A table of words at the head of block b. -/
def Tab (w : World) (b n : Nat) (f : Nat → Int) : Prop := b < w.heap.size ∧ ∀ i, i < n → w.cell? ⟨b, i, none⟩ = some (.int .u32 (f i))

theorem Tab.below {w w' : World} {b n : Nat} {f : Nat → Int} (h : Tab w b n f) (hb : Below w.heap.size w w') : Tab w' b n f :=
  ⟨Nat.lt_of_lt_of_le h.1 hb.size, fun i hi => (below_cell hb h.1).trans (h.2 i hi)⟩

theorem heap_drew (w : World) (k : Nat) : w.drew.heap[k]? = w.heap[k]? := rfl

end Go.Proofs.YtficlakgameglaaDoor

namespace Go.Proofs.YtficlakgameglaaDoor

open Go.RowKit

set_option linter.unusedVariables false

/-- Four bytes as a word. -/
def wd (a b c d : Int) : Int := bits .or .u32 (bits .or .u32 (bits .or .u32 (a % 4294967296 * 16777216 % 4294967296) (b % 4294967296 * 65536 % 4294967296)) (c % 4294967296 * 256 % 4294967296)) (d % 4294967296)

def sig1 (y : Int) : Int := bits .xor .u32 (bits .xor .u32 (rt 17 y) (rt 19 y)) (y / 1024)

def sig0 (x : Int) : Int := bits .xor .u32 (bits .xor .u32 (rt 7 x) (rt 18 x)) (x / 8)

/-- The next word. -/
def nxt (y s x r : Int) : Int := (((sig1 y + s) % 4294967296 + sig0 x) % 4294967296 + r) % 4294967296

theorem bits_bd (o : BinOp) (a b : Int) : 0 ≤ bits o .u32 a b ∧ bits o .u32 a b < 4294967296 := by
  have := bits_within o .u32 a b
  have e1 : IntKind.u32.min = 0 := by decide
  have e2 : IntKind.u32.max = 4294967295 := by decide
  omega

theorem wd_bd (a b c d : Int) : 0 ≤ wd a b c d ∧ wd a b c d < 4294967296 := bits_bd _ _ _

theorem nxt_bd (y s x r : Int) : 0 ≤ nxt y s x r ∧ nxt y s x r < 4294967296 := by unfold nxt; omega

/-- The words of a block of bytes. -/
def schW (f : Nat → Int) (t : Nat) : Int :=
  if t < 16 then wd (f (4 * t)) (f (4 * t + 1)) (f (4 * t + 2)) (f (4 * t + 3)) else nxt (schW f (t - 2)) (schW f (t - 7)) (schW f (t - 15)) (schW f (t - 16))
termination_by t

theorem schW_lo (f : Nat → Int) (t : Nat) (h : t < 16) : schW f t = wd (f (4 * t)) (f (4 * t + 1)) (f (4 * t + 2)) (f (4 * t + 3)) := by rw [schW, if_pos h]

theorem schW_hi (f : Nat → Int) (t : Nat) (h : ¬ t < 16) : schW f t = nxt (schW f (t - 2)) (schW f (t - 7)) (schW f (t - 15)) (schW f (t - 16)) := by rw [schW, if_neg h]

theorem schW_bd (f : Nat → Int) (t : Nat) : 0 ≤ schW f t ∧ schW f t < 4294967296 := by
  by_cases h : t < 16
  · rw [schW_lo f t h]; exact wd_bd _ _ _ _
  · rw [schW_hi f t h]; exact nxt_bd _ _ _ _

theorem upto_set (g : Nat → Int) (k : Nat) (v : Int) (hv : v = g k) (n : Nat) : vs .u32 n (fun j => if j = k then v else if j < k then g j else 0) = vs .u32 n (fun j => if j < k + 1 then g j else 0) := by
  refine vs_congr fun i _ => ?_
  by_cases h1 : i = k
  · subst h1; simp [hv]
  · by_cases h2 : i < k
    · simp [h1, h2, show i < k + 1 by omega]
    · simp [h1, h2, show ¬ i < k + 1 by omega]

theorem cell_sd {w : World} {b i : Nat} {v : Value} {b' j : Nat} (h : b' ≠ b ∨ j ≠ i) : ((w.setCell ⟨b, i, none⟩ v).drew).cell? ⟨b', j, none⟩ = w.cell? ⟨b', j, none⟩ := by
  show (w.setCell ⟨b, i, none⟩ v).cell? ⟨b', j, none⟩ = _
  refine World.cell?_setCell_other _ _ _ _ ?_
  intro e
  simp at e
  omega

theorem size_sd (w : World) (a : Addr) (v : Value) : ((w.setCell a v).drew).heap.size = w.heap.size := by show (w.setCell a v).heap.size = _; simp [World.setCell]

theorem size_s (w : World) (a : Addr) (v : Value) : (w.setCell a v).heap.size = w.heap.size := by simp [World.setCell]

theorem i64_of (n : Int) (h1 : -9223372036854775808 ≤ n) (h2 : n ≤ 9223372036854775807) : IntKind.i64.wrap n = n := by rw [IntKind.wrap_i64]; omega

set_option maxHeartbeats 2000000 in
theorem spread_any (f : Nat → Int) (w : World) (h : ∀ i, i < 64 → 0 ≤ f i ∧ f i < 256) :
    Calls Tryd.prog 91 #[.agg (vs .u8 64 f)] w fun e w' => e = .returned (.agg (vs .u32 64 (schW f))) ∧ Below w.heap.size w w' := by
  go_enter Tryd.func91, Tryd.ntmps91
  go_wp2
  go_loopw [8] (fun i wr => ∃ k : Nat, k ≤ 16 ∧ i = .int .i64 k ∧ Below w.heap.size w wr ∧ wr.heap.size = w.heap.size + 3 ∧ wr.heap[w.heap.size]? = some (.cells (vs .u8 64 f) 137) ∧ wr.heap[w.heap.size + 1]? = some (.cells (vs .u32 64 fun _ => 0) 147) ∧ wr.heap[w.heap.size + 1 + 1]? = some (.cells (vs .u32 64 fun j => if j < k then schW f j else 0) 147)) (fun i _ => 16 - (intOf i).toNat)
  case atStart =>
    refine ⟨0, by omega, rfl, ?_, ?_, ?_, ?_, ?_⟩
    · go_grown
    · simp
    · exact (heap_old (by simp; omega)).trans ((heap_old (by simp)).trans (heap_new rfl))
    · exact (heap_old (by simp)).trans ((heap_new (by simp)))
    · exact heap_new (by simp)
  case round =>
    obtain ⟨k, hk, rfl, hB, hz, r0, r1, r2⟩ := hrel
    by_cases hlt : k < 16
    · have c0 := row_int r0 (4 * k) (by omega)
      have c1 := row_int r0 (4 * k + 1) (by omega)
      have c2 := row_int r0 (4 * k + 2) (by omega)
      have c3 := row_int r0 (4 * k + 3) (by omega)
      have cs := row_int r2 k (by omega)
      have fs := row_frozen r2 k
      have EV := hid (schW_lo f k hlt)
      have R0 := hid r0
      have R1 := hid r1
      have R2 := hid r2
      have HZ := hid hz
      have HB := hid hB
      generalize f (4 * k) = x0 at c0 EV
      generalize f (4 * k + 1) = x1 at c1 EV
      generalize f (4 * k + 2) = x2 at c2 EV
      generalize f (4 * k + 3) = x3 at c3 EV
      clear r0 r1 r2 hz hB
      have b1 : (0 : Int) ≤ (k : Int) := by omega
      have b2 : (k : Int) < 16 := by omega
      have b2' : (k : Int) < 64 := by omega
      have i0 : (0 : Int) ≤ 4 * (k : Int) := by omega
      have i1 : (0 : Int) ≤ 4 * (k : Int) + 1 := by omega
      have i2 : (0 : Int) ≤ 4 * (k : Int) + 2 := by omega
      have i3 : (0 : Int) ≤ 4 * (k : Int) + 3 := by omega
      have j0 : 4 * (k : Int) < 64 := by omega
      have j1 : 4 * (k : Int) + 1 < 64 := by omega
      have j2 : 4 * (k : Int) + 2 < 64 := by omega
      have j3 : 4 * (k : Int) + 3 < 64 := by omega
      have w0 : IntKind.i64.wrap (4 * (k : Int)) = 4 * (k : Int) := i64_of _ (by omega) (by omega)
      have w1 : IntKind.i64.wrap (4 * (k : Int) + 1) = 4 * (k : Int) + 1 := i64_of _ (by omega) (by omega)
      have w2 : IntKind.i64.wrap (4 * (k : Int) + 2) = 4 * (k : Int) + 2 := i64_of _ (by omega) (by omega)
      have w3 : IntKind.i64.wrap (4 * (k : Int) + 3) = 4 * (k : Int) + 3 := i64_of _ (by omega) (by omega)
      have t0 : (4 * (k : Int)).toNat = 4 * k := by omega
      have t1 : (4 * (k : Int) + 1).toNat = 4 * k + 1 := by omega
      have t2 : (4 * (k : Int) + 2).toNat = 4 * k + 2 := by omega
      have t3 : (4 * (k : Int) + 3).toNat = 4 * k + 3 := by omega
      go_wp2
      go_region_held3 (fun w' => w'.cell? ⟨w.heap.size, 4 * k, none⟩ = some (.int .u8 x0) ∧ w'.cell? ⟨w.heap.size, 4 * k + 1, none⟩ = some (.int .u8 x1) ∧ w'.cell? ⟨w.heap.size, 4 * k + 2, none⟩ = some (.int .u8 x2) ∧ w'.cell? ⟨w.heap.size, 4 * k + 3, none⟩ = some (.int .u8 x3))
        (refine ⟨?_, ?_, ?_, ?_⟩ <;> first | assumption | (rw [cell_sd (.inl (by omega))]; assumption)) (fail)
      go_wp2
      go_roundw
      case rel =>
        refine ⟨k + 1, by omega, by go_num, ?_, ?_, ?_, ?_, ?_⟩
        · exact (HB.out.setCell (by simp; omega) _).drew
        · exact (size_sd _ _ _).trans HZ.out
        · exact (heap_set_other (by omega)).trans R0.out
        · exact (heap_set_other (by omega)).trans R1.out
        · refine (row_set R2.out k _).trans ?_
          rw [vs_set]
          exact congrArg (fun c => some (Obj.cells c 147)) (upto_set (schW f) k _ EV.out.symm 64)
      case measure => simp [intOf]; omega
    · have ek : k = 16 := by omega
      subst ek
      clear hlt hk
      rw [show ((16 : Nat) : Int) = 16 from rfl]
      go_wp2
      go_loopw [5] (fun i wr => ∃ t : Nat, 16 ≤ t ∧ t ≤ 64 ∧ i = .int .i64 t ∧ Below w.heap.size w wr ∧ wr.heap.size = w.heap.size + 3 ∧ wr.heap[w.heap.size + 1]? = some (.cells (vs .u32 64 fun _ => 0) 147) ∧ wr.heap[w.heap.size + 1 + 1]? = some (.cells (vs .u32 64 fun j => if j < t then schW f j else 0) 147)) (fun i _ => 64 - (intOf i).toNat)
      case atStart => exact ⟨16, by omega, by omega, rfl, hB, hz, r1, r2⟩
      case round =>
        clear hB hz r0 r1 r2
        obtain ⟨t, ht, ht', rfl, hB, hz, r1, r2⟩ := hrel
        by_cases hlt : t < 64
        · have EV := hid (schW_hi f t (by omega))
          have c2 := row_int r2 (t - 2) (by omega)
          have c7 := row_int r2 (t - 7) (by omega)
          have c15 := row_int r2 (t - 15) (by omega)
          have c16 := row_int r2 (t - 16) (by omega)
          rw [if_pos (by omega)] at c2 c7 c15 c16
          have d2 := schW_bd f (t - 2)
          have d7 := schW_bd f (t - 7)
          have d15 := schW_bd f (t - 15)
          have d16 := schW_bd f (t - 16)
          generalize schW f (t - 2) = y at c2 EV d2
          generalize schW f (t - 7) = s at c7 EV d7
          generalize schW f (t - 15) = x at c15 EV d15
          generalize schW f (t - 16) = r at c16 EV d16
          have cs := row_int r2 t (by omega)
          have fs := row_frozen r2 t
          obtain ⟨y1, y2⟩ := d2
          obtain ⟨s1, s2⟩ := d7
          obtain ⟨x1, x2⟩ := d15
          obtain ⟨r1', r2'⟩ := d16
          have R1 := hid r1
          have R2 := hid r2
          have HZ := hid hz
          have HB := hid hB
          clear r1 r2 hz hB
          have i0 : (0 : Int) ≤ (t : Int) := by omega
          have j0 : (t : Int) < 64 := by omega
          obtain ⟨m2, hm2⟩ : ∃ m, m = t - 2 := ⟨_, rfl⟩
          rw [← hm2] at c2
          have v2 : (t : Int) - 2 = (m2 : Int) := by omega
          have w2 : IntKind.i64.wrap (m2 : Int) = (m2 : Int) := i64_of _ (by omega) (by omega)
          have i2 : (0 : Int) ≤ (m2 : Int) := by omega
          have j2 : (m2 : Int) < 64 := by omega
          have n2 : m2 ≠ t := by omega
          obtain ⟨m7, hm7⟩ : ∃ m, m = t - 7 := ⟨_, rfl⟩
          rw [← hm7] at c7
          have v7 : (t : Int) - 7 = (m7 : Int) := by omega
          have w7 : IntKind.i64.wrap (m7 : Int) = (m7 : Int) := i64_of _ (by omega) (by omega)
          have i7 : (0 : Int) ≤ (m7 : Int) := by omega
          have j7 : (m7 : Int) < 64 := by omega
          have n7 : m7 ≠ t := by omega
          obtain ⟨m15, hm15⟩ : ∃ m, m = t - 15 := ⟨_, rfl⟩
          rw [← hm15] at c15
          have v15 : (t : Int) - 15 = (m15 : Int) := by omega
          have w15 : IntKind.i64.wrap (m15 : Int) = (m15 : Int) := i64_of _ (by omega) (by omega)
          have i15 : (0 : Int) ≤ (m15 : Int) := by omega
          have j15 : (m15 : Int) < 64 := by omega
          have n15 : m15 ≠ t := by omega
          obtain ⟨m16, hm16⟩ : ∃ m, m = t - 16 := ⟨_, rfl⟩
          rw [← hm16] at c16
          have v16 : (t : Int) - 16 = (m16 : Int) := by omega
          have w16 : IntKind.i64.wrap (m16 : Int) = (m16 : Int) := i64_of _ (by omega) (by omega)
          have i16 : (0 : Int) ≤ (m16 : Int) := by omega
          have j16 : (m16 : Int) < 64 := by omega
          have n16 : m16 ≠ t := by omega
          have HM := hid (And.intro hm2 (And.intro hm7 (And.intro hm15 hm16)))
          clear hm2 hm7 hm15 hm16
          go_wp2
          go_region_held3 (fun w' => w'.cell? ⟨w.heap.size + 1 + 1, m2, none⟩ = some (.int .u32 y) ∧ w'.cell? ⟨w.heap.size + 1 + 1, m15, none⟩ = some (.int .u32 x)) (exact ⟨c2, c15⟩) (fail)
          go_wp2_with (go_at_call 92; refine (turn_any _ _ _ (by omega) (by omega) (by decide)).mono ?_; rintro e w' ⟨rfl, rfl⟩)
          go_region_held3 (fun w' => w'.cell? ⟨w.heap.size + 1 + 1, m7, none⟩ = some (.int .u32 s) ∧ w'.cell? ⟨w.heap.size + 1 + 1, m16, none⟩ = some (.int .u32 r))
            (exact ⟨by first | exact c7 | exact (cell_sd (.inr n7)).trans c7, by first | exact c16 | exact (cell_sd (.inr n16)).trans c16⟩) (fail)
          go_wp2
          go_roundw
          case rel =>
            refine ⟨t + 1, by omega, by omega, by go_num, ?_, ?_, ?_, ?_⟩
            · exact ((HB.out.drew).setCell (by simp; omega) _).drew
            · exact (size_sd _ _ _).trans HZ.out
            · exact (heap_set_other (by omega)).trans R1.out
            · refine (row_set (w := wr.drew) R2.out t _).trans ?_
              rw [vs_set]
              exact congrArg (fun c => some (Obj.cells c 147)) (upto_set (schW f) t _ EV.out.symm 64)
          case measure => simp [intOf]; omega
        · have et : t = 64 := by omega
          subst et
          have ev : vs .u32 64 (fun j => if j < 64 then schW f j else 0) = vs .u32 64 (schW f) := vs_congr fun i hi => by rw [if_pos hi]
          rw [ev] at r2
          have hl := load_row (P := Tryd.prog) r2 147 _ Tryd.underlying147 rfl (by rw [vs_size]; kernel_rfl)
          have hs := store_row (P := Tryd.prog) r1 147 (vs .u32 64 (schW f)) (by rw [vs_size]; kernel_rfl) (by simp [vs_size]) (vs_one _ _ _)
          have R1 := hid r1
          have HB := hid hB
          have RL := hid (load_row (P := Tryd.prog) (setRow_at (c := vs .u32 64 (schW f)) r1) 147 _ Tryd.underlying147 rfl (by rw [vs_size]; kernel_rfl))
          have HL := hid hl
          have HS := hid hs
          clear r1 r2 hz hB ht' ht hlt ev hl hs
          go_wp2_with (first
            | (refine wpList_load_is (by rfl) 147 _ (by rfl) _ _ (by rfl) HL.out ?_)
            | (refine wpList_store_is (by rfl) 147 _ _ (by rfl) _ _ (by rfl) (by rfl) (by rfl) HS.out ?_)
            | (refine bodyPost_ret (results_cell (by rfl) _ _ (w.heap.size + 1) _ (by rfl) RL.out) (by rfl) ?_))
          exact below_row HB.out (by omega) _

end Go.Proofs.YtficlakgameglaaDoor

namespace Go.Proofs.YtficlakgameglaaDoor

open Go.RowKit

set_option linter.unusedVariables false

def chs (e f g : Int) : Int := bits .xor .u32 (bits .and .u32 e f) (bits .and .u32 (bits .xor .u32 IntKind.u32.max e) g)

def maj (a b c : Int) : Int := bits .xor .u32 (bits .xor .u32 (bits .and .u32 a b) (bits .and .u32 a c)) (bits .and .u32 b c)

def big1 (e : Int) : Int := bits .xor .u32 (bits .xor .u32 (rt 6 e) (rt 11 e)) (rt 25 e)

def big0 (a : Int) : Int := bits .xor .u32 (bits .xor .u32 (rt 2 a) (rt 13 a)) (rt 22 a)

def one (e f g h k s : Int) : Int := ((((h + big1 e) % 4294967296 + chs e f g) % 4294967296 + k) % 4294967296 + s) % 4294967296

def two (a b c : Int) : Int := (big0 a + maj a b c) % 4294967296

/-- The letter a, and the letter e, behind a round. -/
def newA (a b c e f g h k s : Int) : Int := (one e f g h k s + two a b c) % 4294967296

def newE (d e f g h k s : Int) : Int := (d + one e f g h k s) % 4294967296

/-- The eight letters behind t rounds. -/
def rnd (K W s : Nat → Int) : Nat → Nat → Int
  | 0, i => s i
  | t + 1, 0 => newA (rnd K W s t 0) (rnd K W s t 1) (rnd K W s t 2) (rnd K W s t 4) (rnd K W s t 5) (rnd K W s t 6) (rnd K W s t 7) (K t) (W t)
  | t + 1, 4 => newE (rnd K W s t 3) (rnd K W s t 4) (rnd K W s t 5) (rnd K W s t 6) (rnd K W s t 7) (K t) (W t)
  | t + 1, i + 1 => rnd K W s t i

theorem rnd_0 (K W s : Nat → Int) (t : Nat) : rnd K W s (t + 1) 0 = newA (rnd K W s t 0) (rnd K W s t 1) (rnd K W s t 2) (rnd K W s t 4) (rnd K W s t 5) (rnd K W s t 6) (rnd K W s t 7) (K t) (W t) := rfl

theorem rnd_1 (K W s : Nat → Int) (t : Nat) : rnd K W s (t + 1) 1 = rnd K W s t 0 := rfl

theorem rnd_2 (K W s : Nat → Int) (t : Nat) : rnd K W s (t + 1) 2 = rnd K W s t 1 := rfl

theorem rnd_3 (K W s : Nat → Int) (t : Nat) : rnd K W s (t + 1) 3 = rnd K W s t 2 := rfl

theorem rnd_4 (K W s : Nat → Int) (t : Nat) : rnd K W s (t + 1) 4 = newE (rnd K W s t 3) (rnd K W s t 4) (rnd K W s t 5) (rnd K W s t 6) (rnd K W s t 7) (K t) (W t) := rfl

theorem rnd_5 (K W s : Nat → Int) (t : Nat) : rnd K W s (t + 1) 5 = rnd K W s t 4 := rfl

theorem rnd_6 (K W s : Nat → Int) (t : Nat) : rnd K W s (t + 1) 6 = rnd K W s t 5 := rfl

theorem rnd_7 (K W s : Nat → Int) (t : Nat) : rnd K W s (t + 1) 7 = rnd K W s t 6 := rfl

theorem rnd_bd (K W s : Nat → Int) (hs : ∀ i, i < 8 → 0 ≤ s i ∧ s i < 4294967296) : ∀ t i, i < 8 → 0 ≤ rnd K W s t i ∧ rnd K W s t i < 4294967296
  | 0, i, hi => hs i hi
  | t + 1, 0, _ => by rw [rnd_0]; unfold newA; omega
  | t + 1, 4, _ => by rw [rnd_4]; unfold newE; omega
  | t + 1, 1, _ => by rw [rnd_1]; exact rnd_bd K W s hs t 0 (by omega)
  | t + 1, 2, _ => by rw [rnd_2]; exact rnd_bd K W s hs t 1 (by omega)
  | t + 1, 3, _ => by rw [rnd_3]; exact rnd_bd K W s hs t 2 (by omega)
  | t + 1, 5, _ => by rw [rnd_5]; exact rnd_bd K W s hs t 4 (by omega)
  | t + 1, 6, _ => by rw [rnd_6]; exact rnd_bd K W s hs t 5 (by omega)
  | t + 1, 7, _ => by rw [rnd_7]; exact rnd_bd K W s hs t 6 (by omega)

/-- The words behind one more block. -/
def comp (K f s : Nat → Int) (i : Nat) : Int := (s i + rnd K (schW f) s 64 i) % 4294967296

theorem comp_bd (K f s : Nat → Int) (i : Nat) : 0 ≤ comp K f s i ∧ comp K f s i < 4294967296 := by unfold comp; omega

theorem schW_congr {f g : Nat → Int} (h : ∀ i, i < 64 → f i = g i) : ∀ t, t < 64 → schW f t = schW g t := by
  intro t
  induction t using Nat.strongRecOn with
  | ind t ih =>
    intro ht
    by_cases h16 : t < 16
    · rw [schW_lo f t h16, schW_lo g t h16, h _ (by omega), h _ (by omega), h _ (by omega), h _ (by omega)]
    · rw [schW_hi f t h16, schW_hi g t h16, ih _ (by omega) (by omega), ih _ (by omega) (by omega), ih _ (by omega) (by omega), ih _ (by omega) (by omega)]

theorem rnd_congr {K L V W s r : Nat → Int} (n : Nat) (hK : ∀ i, i < n → K i = L i) (hW : ∀ i, i < n → V i = W i) (hs : ∀ i, i < 8 → s i = r i) : ∀ t, t ≤ n → ∀ i, i < 8 → rnd K V s t i = rnd L W r t i
  | 0, _, i, hi => hs i hi
  | t + 1, ht, 0, _ => by
    have ih := rnd_congr n hK hW hs t (by omega)
    rw [rnd_0, rnd_0, ih 0 (by omega), ih 1 (by omega), ih 2 (by omega), ih 4 (by omega), ih 5 (by omega), ih 6 (by omega), ih 7 (by omega), hK t (by omega), hW t (by omega)]
  | t + 1, ht, 4, _ => by
    have ih := rnd_congr n hK hW hs t (by omega)
    rw [rnd_4, rnd_4, ih 3 (by omega), ih 4 (by omega), ih 5 (by omega), ih 6 (by omega), ih 7 (by omega), hK t (by omega), hW t (by omega)]
  | t + 1, ht, 1, _ => by rw [rnd_1, rnd_1]; exact rnd_congr n hK hW hs t (by omega) 0 (by omega)
  | t + 1, ht, 2, _ => by rw [rnd_2, rnd_2]; exact rnd_congr n hK hW hs t (by omega) 1 (by omega)
  | t + 1, ht, 3, _ => by rw [rnd_3, rnd_3]; exact rnd_congr n hK hW hs t (by omega) 2 (by omega)
  | t + 1, ht, 5, _ => by rw [rnd_5, rnd_5]; exact rnd_congr n hK hW hs t (by omega) 4 (by omega)
  | t + 1, ht, 6, _ => by rw [rnd_6, rnd_6]; exact rnd_congr n hK hW hs t (by omega) 5 (by omega)
  | t + 1, ht, 7, _ => by rw [rnd_7, rnd_7]; exact rnd_congr n hK hW hs t (by omega) 6 (by omega)

theorem comp_congr {K f g s r : Nat → Int} (hf : ∀ i, i < 64 → f i = g i) (hs : ∀ i, i < 8 → s i = r i) (i : Nat) (hi : i < 8) : comp K f s i = comp K g r i := by
  unfold comp
  rw [hs i hi, rnd_congr 64 (fun _ _ => rfl) (schW_congr hf) hs 64 (by omega) i hi]

theorem vs8 (s : Nat → Int) : vs .u32 8 s = #[.int .u32 (s 0), .int .u32 (s 1), .int .u32 (s 2), .int .u32 (s 3), .int .u32 (s 4), .int .u32 (s 5), .int .u32 (s 6), .int .u32 (s 7)] := rfl

end Go.Proofs.YtficlakgameglaaDoor
