/-
  Arguments, opened: bits, numbers, calls of a tree.
-/
import Derived.Test.YtjimdkpppgjokaaDoorOpr
import Derived.Deep.Grids
namespace Go.Proofs.YtjimdkpppgjokaaDoor
open Go.RowKit Go.ChangeShapes Go.WideShapes Go.Deep
set_option linter.unusedVariables false
set_option linter.unusedSimpArgs false

/-- The bits, the numbers of a slice. -/
def Bos (w : World) (a : Option Addr) (len : Nat) (f : Nat → Bool) : Prop := len = 0 ∨ ∃ b off, a = some ⟨b, off, none⟩ ∧ b < w.heap.size ∧ ∀ j, j < len → w.cell? ⟨b, off + j, none⟩ = some (.bool (f j))
def Nus (w : World) (a : Option Addr) (len : Nat) (f : Nat → Int) : Prop := len = 0 ∨ ∃ b off, a = some ⟨b, off, none⟩ ∧ b < w.heap.size ∧ ∀ j, j < len → w.cell? ⟨b, off + j, none⟩ = some (.int .i64 (f j))
theorem Bos.below {w w' : World} {a : Option Addr} {len : Nat} {f : Nat → Bool} (h : Bos w a len f) {B : Nat} (hb : Below B w w') (hB : w.heap.size ≤ B) : Bos w' a len f := by
  rcases h with h | ⟨b, off, h1, h2, h3⟩
  · exact .inl h
  · have := hb.size
    exact .inr ⟨b, off, h1, by omega, fun j hj => (hb.cell (p := ⟨b, off + j, none⟩) (by show b < B; omega)).trans (h3 j hj)⟩
theorem Nus.below {w w' : World} {a : Option Addr} {len : Nat} {f : Nat → Int} (h : Nus w a len f) {B : Nat} (hb : Below B w w') (hB : w.heap.size ≤ B) : Nus w' a len f := by
  rcases h with h | ⟨b, off, h1, h2, h3⟩
  · exact .inl h
  · have := hb.size
    exact .inr ⟨b, off, h1, by omega, fun j hj => (hb.cell (p := ⟨b, off + j, none⟩) (by show b < B; omega)).trans (h3 j hj)⟩

theorem open_bools1 {H : Type} {enc : TypeId × Value → H} {W : World} {base : Nat} {held : Bool} {a : Option Addr} {len cap : Nat} {d : DataW H} {ps : List MemPlace} (h : DataW.Trod enc Tryd.prog W base (fun _ => true) held 51 (.slice a len cap) d ps) :
    ∃ f : Nat → Bool, Bos W a len f ∧ len ≤ cap ∧ Holds1 d cap := by
  obtain ⟨fuel, hf⟩ := h
  rcases open_bools Tryd.underlying51 Tryd.underlying4 (by kernel_rfl) hf with ⟨hcs, hx⟩ | ⟨x, l, c, B, hcs, _, hl, hm, hx, hcell⟩
  · simp [Value.cells] at hcs
    obtain ⟨rfl, rfl, rfl⟩ := hcs
    simp only [Prod.mk.injEq] at hx
    exact ⟨fun _ => false, .inl rfl, Nat.le_refl _, .inl ⟨hx.1, rfl⟩⟩
  · simp [Value.cells] at hcs
    obtain ⟨rfl, rfl, rfl⟩ := hcs
    simp only [Prod.mk.injEq] at hx
    refine ⟨B, ?_, hl, .inr ⟨_, _, hx.1, by simp; omega⟩⟩
    by_cases h0 : len = 0
    · exact .inl h0
    · obtain ⟨b, off, rfl⟩ := spot_none (hcell 0 (by omega))
      refine .inr ⟨b, off, rfl, World.block_lt_of_cell? W _ (hcell 0 (by omega)), fun j hj => ?_⟩
      have := hcell j (by omega)
      rw [addr_add] at this
      exact this

theorem open_i64s1 {H : Type} {enc : TypeId × Value → H} {W : World} {base : Nat} {held : Bool} {a : Option Addr} {len cap : Nat} {d : DataW H} {ps : List MemPlace} (h : DataW.Trod enc Tryd.prog W base (fun _ => true) held 48 (.slice a len cap) d ps) :
    ∃ m : Nat → Int, Nus W a len m ∧ (∀ q, -9223372036854775808 ≤ m q ∧ m q ≤ 9223372036854775807) ∧ len ≤ cap ∧ Holds1 d cap := by
  obtain ⟨fuel, hf⟩ := h
  rcases open_ints Tryd.underlying48 Tryd.underlying3 (by kernel_rfl) hf with ⟨hcs, hx⟩ | ⟨x, l, c, zs, hcs, _, hl, hm, hz, hx, hcell, hwz⟩
  · simp [Value.cells] at hcs
    obtain ⟨rfl, rfl, rfl⟩ := hcs
    simp only [Prod.mk.injEq] at hx
    exact ⟨fun _ => 0, .inl rfl, fun _ => (by decide : (-9223372036854775808 : Int) ≤ 0 ∧ (0 : Int) ≤ 9223372036854775807), Nat.le_refl _, .inl ⟨hx.1, rfl⟩⟩
  · simp [Value.cells] at hcs
    obtain ⟨rfl, rfl, rfl⟩ := hcs
    simp only [Prod.mk.injEq] at hx
    simp only [if_true] at hz
    have bd : ∀ q, -9223372036854775808 ≤ zs.getD q 0 ∧ zs.getD q 0 ≤ 9223372036854775807 := by
      intro q
      by_cases hq : q < zs.length
      · rw [List.getD_eq_getElem?_getD, List.getElem?_eq_getElem hq, Option.getD_some]
        have := bounds_i64 (hwz _ (List.getElem_mem hq))
        omega
      · rw [List.getD_eq_getElem?_getD, List.getElem?_eq_none (by omega)]
        decide
    refine ⟨fun q => zs.getD q 0, ?_, bd, hl, .inr ⟨_, _, hx.1, by simp [lits]; omega⟩⟩
    by_cases h0 : len = 0
    · exact .inl h0
    · obtain ⟨b, off, rfl⟩ := spot_none (hcell 0 (by omega))
      refine .inr ⟨b, off, rfl, World.block_lt_of_cell? W _ (hcell 0 (by omega)), fun j hj => ?_⟩
      have := hcell j (by omega)
      rw [addr_add] at this
      exact this

/-- The calls of a script: kind, place, leaf. -/
def Cls (w : World) (a : Option Addr) (len : Nat) (k p : Nat → Int) (f : Nat → Nat → Int) : Prop := len = 0 ∨ ∃ b off, a = some ⟨b, off, none⟩ ∧ b < w.heap.size ∧ ∀ i, i < len → w.cell? ⟨b, off + 34 * i, none⟩ = some (.int .i64 (k i)) ∧ w.cell? ⟨b, off + 34 * i + 1, none⟩ = some (.int .i64 (p i)) ∧ ∀ j, j < 32 → w.cell? ⟨b, off + 34 * i + 2 + j, none⟩ = some (.int .u8 (f i j))
theorem Cls.below {w w' : World} {a : Option Addr} {len : Nat} {k p : Nat → Int} {f : Nat → Nat → Int} (h : Cls w a len k p f) {B : Nat} (hb : Below B w w') (hB : w.heap.size ≤ B) : Cls w' a len k p f := by
  rcases h with h | ⟨b, off, h1, h2, h3⟩
  · exact .inl h
  · have := hb.size
    have hc : ∀ q, w'.cell? ⟨b, q, none⟩ = w.cell? ⟨b, q, none⟩ := fun q => hb.cell (p := ⟨b, q, none⟩) (by show b < B; omega)
    exact .inr ⟨b, off, h1, by omega, fun i hi => ⟨(hc _).trans (h3 i hi).1, (hc _).trans (h3 i hi).2.1, fun j hj => (hc _).trans ((h3 i hi).2.2 j hj)⟩⟩

theorem open_op1 {H : Type} {enc : TypeId × Value → H} {W : World} {base n : Nat} {held : Bool} {sp : Nat → Bool} {x : Addr} {y : DataW H × List MemPlace} (h : (W.cells? base x (Tryd.prog.cellsOf 40)).bind (DataW.trod enc Tryd.prog W base sp held n 40) = some y) :
    (∃ k, W.cell? (x.add 0) = some (.int .i64 k) ∧ -9223372036854775808 ≤ k ∧ k ≤ 9223372036854775807) ∧ (∃ k, W.cell? (x.add 1) = some (.int .i64 k) ∧ -9223372036854775808 ≤ k ∧ k ≤ 9223372036854775807) ∧ ∀ j, j < 32 → ∃ z, W.cell? (x.add (2 + j)) = some (.int .u8 z) ∧ 0 ≤ z ∧ z < 256 := by
  have hce : Tryd.prog.cellsOf 5 = 1 := by kernel_rfl
  have hci : Tryd.prog.cellsOf 3 = 1 := by kernel_rfl
  have hcr : Tryd.prog.cellsOf 33 = 32 := by kernel_rfl
  have hct : Tryd.prog.cellsOf 40 = 34 := by kernel_rfl
  rw [Option.bind_eq_some_iff] at h
  obtain ⟨cs, hcs, ht⟩ := h
  obtain ⟨xs, m, rfl, _, hl, hxl, hat⟩ := DataW.trod_struct Tryd.underlying40 ht
  have hx3 : xs.length = 3 := hxl
  have h0 := hat 0 _ rfl
  have h1 := hat 1 _ rfl
  have h2 := hat 2 _ rfl
  rw [List.getElem?_eq_getElem (by omega)] at h0 h1 h2
  obtain ⟨z0, hc0, _, hwf0⟩ := DataW.trod_int Tryd.underlying3 h0
  obtain ⟨z1, hc1, _, hwf1⟩ := DataW.trod_int Tryd.underlying3 h1
  obtain ⟨ys, m2, rfl, _, hyl, hyn, hya⟩ := DataW.trod_array Tryd.underlying33 h2
  have hcell := (World.cells?_some hcs).2.2
  have e0 : cs[0]? = some (.int .i64 z0) := by
    have := congrArg (·[0]?) hc0
    simpa [hci, List.getElem?_take, List.getElem?_drop, Value.cells] using this
  have e1 : cs[1]? = some (.int .i64 z1) := by
    have := congrArg (·[0]?) hc1
    simpa [hci, List.getElem?_take, List.getElem?_drop, Value.cells] using this
  have b0 := bounds_i64 hwf0
  have b1 := bounds_i64 hwf1
  refine ⟨⟨z0, ?_, by omega, by omega⟩, ⟨z1, ?_, by omega, by omega⟩, fun j hj => ?_⟩
  · rw [hcell 0 (by rw [hct]; omega)]; exact e0
  · rw [hcell 1 (by rw [hct]; omega)]; exact e1
  · have ha := hya j hj
    rw [List.getElem?_eq_getElem (by omega)] at ha
    obtain ⟨z, hc, _, hwf⟩ := DataW.trod_int Tryd.underlying5 ha
    have e : cs[2 + j]? = some (.int .u8 z) := by
      have := congrArg (·[0]?) hc
      simpa [hce, hcr, List.getElem?_take, List.getElem?_drop, Value.cells, hj] using this
    have hb := bounds_u8 hwf
    refine ⟨z, ?_, by omega, by omega⟩
    rw [hcell (2 + j) (by rw [hct]; omega)]
    exact e

theorem zero_ops : ((-9223372036854775808 : Int) ≤ 0 ∧ (0 : Int) ≤ 9223372036854775807) ∧ ((-9223372036854775808 : Int) ≤ 0 ∧ (0 : Int) ≤ 9223372036854775807) ∧ ∀ _ : Nat, (0 : Int) ≤ 0 ∧ (0 : Int) < 256 := ⟨by decide, by decide, fun _ => by decide⟩
theorem open_ops {H : Type} {enc : TypeId × Value → H} {W : World} {base : Nat} {held : Bool} {a : Option Addr} {len cap : Nat} {d : DataW H} {ps : List MemPlace} (h : DataW.Trod enc Tryd.prog W base (fun _ => true) held 22 (.slice a len cap) d ps) :
    ∃ (k p : Nat → Int) (f : Nat → Nat → Int), Cls W a len k p f ∧ (∀ i, (-9223372036854775808 ≤ k i ∧ k i ≤ 9223372036854775807) ∧ (-9223372036854775808 ≤ p i ∧ p i ≤ 9223372036854775807) ∧ ∀ j, 0 ≤ f i j ∧ f i j < 256) ∧ len ≤ cap ∧ Holds1 d cap := by
  obtain ⟨fuel, hf⟩ := h
  have hct : Tryd.prog.cellsOf 40 = 34 := by kernel_rfl
  rcases DataW.trod_slice Tryd.underlying22 hf with ⟨hcs, hx⟩ | ⟨x, l, c, el, rest, n, rfl, hcs, hx, hbs, hl, hm, hel, hat, hsp, _⟩
  · simp [Value.cells] at hcs
    obtain ⟨rfl, rfl, rfl⟩ := hcs
    simp only [Prod.mk.injEq] at hx
    exact ⟨fun _ => 0, fun _ => 0, fun _ _ => 0, .inl rfl, fun _ => zero_ops, Nat.le_refl _, .inl ⟨hx.1, rfl⟩⟩
  · simp [Value.cells] at hcs
    obtain ⟨rfl, rfl, rfl⟩ := hcs
    simp only [Prod.mk.injEq] at hx
    have hr := (hsp rfl).1
    have key := fun i (hi : i < len) => by
      have h1 := hat i hi
      rw [List.getElem?_eq_getElem (by omega)] at h1
      exact open_op1 h1
    by_cases h0 : len = 0
    · exact ⟨fun _ => 0, fun _ => 0, fun _ _ => 0, .inl h0, fun _ => zero_ops, hl, .inr ⟨_, _, hx.1, by simp; omega⟩⟩
    · obtain ⟨b, off, rfl⟩ : ∃ b off, x = ⟨b, off, none⟩ := by
        obtain ⟨⟨z, hz, _⟩, _⟩ := key 0 (by omega)
        obtain ⟨b, off, spot⟩ := x
        have hs : spot = none := by
          have := World.cell?_spot hz
          simpa [Addr.add] using this
        subst hs
        exact ⟨b, off, rfl⟩
      simp only [addr_add, hct] at key
      refine ⟨fun i => if i < len then (match W.cell? ⟨b, off + i * 34 + 0, none⟩ with | some (.int _ z) => z | _ => 0) else 0, fun i => if i < len then (match W.cell? ⟨b, off + i * 34 + 1, none⟩ with | some (.int _ z) => z | _ => 0) else 0, fun i j => if i < len ∧ j < 32 then (match W.cell? ⟨b, off + i * 34 + (2 + j), none⟩ with | some (.int _ z) => z | _ => 0) else 0, .inr ⟨b, off, rfl, ?_, fun i hi => ?_⟩, fun i => ?_, hl, .inr ⟨_, _, hx.1, by simp; omega⟩⟩
      · obtain ⟨⟨z, hz, _⟩, _⟩ := key 0 (by omega)
        exact World.block_lt_of_cell? W _ hz
      · obtain ⟨⟨z0, hz0, _⟩, ⟨z1, hz1, _⟩, h3⟩ := key i hi
        rw [show off + 34 * i = off + i * 34 + 0 by omega, show off + i * 34 + 0 + 1 = off + i * 34 + 1 by omega]
        simp only [if_pos hi, hz0, hz1, true_and]
        intro j hj
        obtain ⟨z, hz, _⟩ := h3 j hj
        rw [show off + i * 34 + 0 + 2 + j = off + i * 34 + (2 + j) by omega, if_pos ⟨hi, hj⟩]
        simp only [hz]
      · by_cases hi : i < len
        · obtain ⟨⟨z0, hz0, hb0⟩, ⟨z1, hz1, hb1⟩, h3⟩ := key i hi
          simp only [if_pos hi, hz0, hz1]
          refine ⟨hb0, hb1, fun j => ?_⟩
          by_cases hj : j < 32
          · obtain ⟨z, hz, hb⟩ := h3 j hj
            simp only [if_pos (And.intro hi hj), hz]
            exact hb
          · simp only [if_neg (show ¬ (i < len ∧ j < 32) from fun h => hj h.2)]
            decide
        · simp only [if_neg hi]
          refine ⟨by decide, by decide, fun j => ?_⟩
          simp only [if_neg (show ¬ (i < len ∧ j < 32) from fun h => hi h.1)]
          decide

end Go.Proofs.YtjimdkpppgjokaaDoor
