/-
  Arguments, opened: bytes, numbers, lists of bytes; how many values they hold.
-/
import Derived.Test.YtfhplpcbaoefeaaSzT
import Derived.ChangeSlices
import Derived.Deep.Matrix
import Derived.SizedLaws
namespace Go.Proofs.Ytfhplpcbaoefeaa
open Go.RowKit Go.ChangeShapes Go.WideShapes Go.Deep
set_option linter.unusedVariables false
set_option linter.unusedSimpArgs false

/-- What an argument's datum holds. -/
def Holds1 {H : Type} (d : DataW H) (cap : Nat) : Prop := d = .nil ∧ cap = 0 ∨ ∃ el sp, d = .slice el sp ∧ el.length + sp.length = cap
theorem bulk_pos {H : Type} (d : DataW H) : 1 ≤ Rows.uptoBulk d := by
  cases d with
  | lit l => cases l <;> simp [Rows.uptoBulk]
  | nil => simp [Rows.uptoBulk]
  | ptr d => simp [Rows.uptoBulk]
  | slice e s => simp [Rows.uptoBulk]
  | agg l => simp [Rows.uptoBulk]
  | iface t d => simp [Rows.uptoBulk]
  | map m => simp [Rows.uptoBulk]
  | held h => simp [Rows.uptoBulk]
theorem bulk_len {H : Type} (l : List (DataW H)) : l.length ≤ Rows.uptoBulkAll l := by
  induction l with
  | nil => exact Nat.zero_le _
  | cons x r ih =>
    have := bulk_pos x
    simp only [Rows.uptoBulkAll, List.length_cons]
    omega
theorem holds_bulk {H : Type} {d : DataW H} {cap : Nat} (h : Holds1 d cap) : cap ≤ Rows.uptoBulk d := by
  rcases h with ⟨rfl, rfl⟩ | ⟨el, sp, rfl, rfl⟩
  · exact Nat.zero_le _
  · have h1 := bulk_len el
    have h2 := bulk_len sp
    simp only [Rows.uptoBulk]
    omega
theorem small_bulk {H : Type} {l : List (DataW H)} (hk : Rows.uptoSmall H l = true) : Rows.uptoBulkAll l ≤ 1048576 := of_decide_eq_true hk
/-- The form's own reach. -/
theorem holds_sized {H : Type} {ts : List TypeId} {ds : List (DataW H)} (h : (DataW.weightsEach Try.prog ts ds).all (· ≤ reachBytes) = true) {j : Nat} {t e : TypeId} {d : DataW H} {cap : Nat} (ht : ts[j]? = some t) (hd : ds[j]? = some d) (hu : Try.prog.underlying t = some (.slice e)) (hc : Holds1 d cap) :
    cap * Try.prog.bytesOf e ≤ 140737488351232 := by
  rcases hc with ⟨_, rfl⟩ | ⟨el, sp, rfl, rfl⟩
  · simp
  · exact sized_slice h ht hd hu
theorem spot_none {w : World} {x : Addr} {v : Value} (h : w.cell? (x.add 0) = some v) : ∃ b off, x = ⟨b, off, none⟩ := by
  obtain ⟨b, off, spot⟩ := x
  have hs : spot = none := by
    have := World.cell?_spot h
    simpa [Addr.add] using this
  subst hs
  exact ⟨b, off, rfl⟩

theorem open_u8s {H : Type} {enc : TypeId × Value → H} {W : World} {base : Nat} {held : Bool} {a : Option Addr} {len cap : Nat} {d : DataW H} {ps : List MemPlace} (h : DataW.Trod enc Try.prog W base (fun _ => true) held 22 (.slice a len cap) d ps) :
    ∃ m : Nat → Nat, Bys W a len cap (fun q => (m q : Int)) ∧ (∀ q, m q < 256) ∧ len ≤ cap ∧ Holds1 d cap := by
  obtain ⟨fuel, hf⟩ := h
  rcases open_ints Try.underlying22 Try.underlying5 (by kernel_rfl) hf with ⟨hcs, hx⟩ | ⟨x, l, c, zs, hcs, _, hl, hm, hz, hx, hcell, hwz⟩
  · simp [Value.cells] at hcs
    obtain ⟨rfl, rfl, rfl⟩ := hcs
    simp only [Prod.mk.injEq] at hx
    exact ⟨fun _ => 0, .inl ⟨rfl, rfl, rfl⟩, fun _ => (by decide : 0 < 256), Nat.le_refl _, .inl ⟨hx.1, rfl⟩⟩
  · simp [Value.cells] at hcs
    obtain ⟨rfl, rfl, rfl⟩ := hcs
    simp only [Prod.mk.injEq] at hx
    simp only [if_true] at hz
    have bd : ∀ q, 0 ≤ zs.getD q 0 ∧ zs.getD q 0 < 256 := by
      intro q
      by_cases hq : q < zs.length
      · rw [List.getD_eq_getElem?_getD, List.getElem?_eq_getElem hq, Option.getD_some]
        have := bounds_u8 (hwz _ (List.getElem_mem hq))
        omega
      · rw [List.getD_eq_getElem?_getD, List.getElem?_eq_none (by omega)]
        decide
    refine ⟨fun q => (zs.getD q 0).toNat, ?_, fun q => by have := bd q; show (zs.getD q 0).toNat < 256; omega, hl, .inr ⟨_, _, hx.1, by simp [lits]; omega⟩⟩
    by_cases h0 : len = 0
    · exact .inr (.inl ⟨x, rfl, h0⟩)
    · obtain ⟨b, off, rfl⟩ := spot_none (hcell 0 (by omega))
      unfold maxLen at hm
      refine .inr (.inr ⟨b, off, rfl, hl, by omega, World.block_lt_of_cell? W _ (hcell 0 (by omega)), fun j hj => ?_⟩)
      have := hcell j (by omega)
      rw [addr_add] at this
      rw [this]
      have := (bd j).1
      simp only [Int.toNat_of_nonneg this]

theorem open_i64s {H : Type} {enc : TypeId × Value → H} {W : World} {base : Nat} {held : Bool} {a : Option Addr} {len cap : Nat} {d : DataW H} {ps : List MemPlace} (h : DataW.Trod enc Try.prog W base (fun _ => true) held 35 (.slice a len cap) d ps) :
    ∃ m : Nat → Int, Nms .i64 W a len m ∧ (∀ q, -9223372036854775808 ≤ m q ∧ m q ≤ 9223372036854775807) ∧ len ≤ cap ∧ Holds1 d cap := by
  obtain ⟨fuel, hf⟩ := h
  rcases open_ints Try.underlying35 Try.underlying3 (by kernel_rfl) hf with ⟨hcs, hx⟩ | ⟨x, l, c, zs, hcs, _, hl, hm, hz, hx, hcell, hwz⟩
  · simp [Value.cells] at hcs
    obtain ⟨rfl, rfl, rfl⟩ := hcs
    simp only [Prod.mk.injEq] at hx
    exact ⟨fun _ => 0, .inl rfl, fun _ => (by decide : (-9223372036854775808 : Int) ≤ 0 ∧ (0 : Int) ≤ 9223372036854775807), Nat.le_refl _, .inl ⟨hx.1, rfl⟩⟩
  · simp [Value.cells] at hcs
    obtain ⟨rfl, rfl, rfl⟩ := hcs
    simp only [Prod.mk.injEq] at hx
    simp only [if_true] at hz
    have bd : ∀ q, -9223372036854775808 ≤ zs.getD q 0 ∧ zs.getD q 0 ≤ 9223372036854775807 := by
      intro q
      by_cases hq : q < zs.length
      · rw [List.getD_eq_getElem?_getD, List.getElem?_eq_getElem hq, Option.getD_some]
        have := bounds_i64 (hwz _ (List.getElem_mem hq))
        omega
      · rw [List.getD_eq_getElem?_getD, List.getElem?_eq_none (by omega)]
        decide
    refine ⟨fun q => zs.getD q 0, ?_, bd, hl, .inr ⟨_, _, hx.1, by simp [lits]; omega⟩⟩
    by_cases h0 : len = 0
    · exact .inl h0
    · obtain ⟨b, off, rfl⟩ := spot_none (hcell 0 (by omega))
      refine .inr ⟨b, off, rfl, World.block_lt_of_cell? W _ (hcell 0 (by omega)), fun j hj => ?_⟩
      have := hcell j (by omega)
      rw [addr_add] at this
      exact this

theorem bulkAll_range {H : Type} (D : Nat → DataW H) (L : Nat → Nat) (n : Nat) (h : ∀ r, r < n → L r + 1 ≤ Rows.uptoBulk (D r)) : sumL L n + n ≤ Rows.uptoBulkAll ((List.range n).map D) := by
  have happ : ∀ (l r : List (DataW H)), Rows.uptoBulkAll (l ++ r) = Rows.uptoBulkAll l + Rows.uptoBulkAll r := by
    intro l r
    induction l with
    | nil => simp [Rows.uptoBulkAll]
    | cons x l ih => simp only [List.cons_append, Rows.uptoBulkAll, ih]; omega
  induction n with
  | zero => exact Nat.zero_le _
  | succ n ih =>
    have h1 := ih fun r hr => h r (by omega)
    have h2 := h n (by omega)
    rw [List.range_succ, List.map_append, happ]
    simp only [List.map_cons, List.map_nil, Rows.uptoBulkAll]
    show sumL L n + L n + (n + 1) ≤ _
    omega
theorem bulk_row {H : Type} (k : IntKind) (A : Option Addr) (L : Nat) (zs : List Int) (h : A = none → L = 0) (hl : L ≤ zs.length) : L + 1 ≤ Rows.uptoBulk (intRow (H := H) k A L zs) := by
  cases A with
  | none => rw [h rfl]; simp [intRow, Rows.uptoBulk]
  | some a =>
    have h1 := bulk_len (H := H) (lits k (zs.take L))
    simp only [intRow, Rows.uptoBulk]
    have e : (lits (H := H) k (zs.take L)).length = L := by simp [lits]; omega
    omega
theorem open_rows {H : Type} {enc : TypeId × Value → H} {W : World} {base : Nat} {held : Bool} {a : Option Addr} {len cap : Nat} {d : DataW H} {ps : List MemPlace} (h : DataW.Trod enc Try.prog W base (fun _ => true) held 24 (.slice a len cap) d ps) :
    ∃ (A : Nat → Option Addr) (L C : Nat → Nat) (f : Nat → Nat → Int), Parts W a len A L C f ∧ (∀ r, r < len → ∀ q, q < L r → 0 ≤ f r q ∧ f r q < 256) ∧ (∀ r, r < len → L r ≤ 9223372036854775807) ∧ sumL L len + len ≤ Rows.uptoBulk d ∧ len ≤ cap ∧ Holds1 d cap := by
  obtain ⟨fuel, hf⟩ := h
  rcases open_int_rows Try.underlying24 Try.underlying22 Try.underlying5 (by kernel_rfl) (by kernel_rfl) hf with ⟨hcs, hx⟩ | ⟨x, l, c, A, L, C, Z, hcs, _, hl, hm, hx, hr⟩
  · simp [Value.cells] at hcs
    obtain ⟨rfl, rfl, rfl⟩ := hcs
    simp only [Prod.mk.injEq] at hx
    exact ⟨fun _ => none, fun _ => 0, fun _ => 0, fun _ _ => 0, .inl rfl, fun r hr => by omega, fun r hr => by omega, by simp [sumL], Nat.le_refl _, .inl ⟨hx.1, rfl⟩⟩
  · simp [Value.cells] at hcs
    obtain ⟨rfl, rfl, rfl⟩ := hcs
    simp only [Prod.mk.injEq] at hx
    have hmx : (maxLen : Nat) = 9223372036854775807 := rfl
    refine ⟨A, L, C, fun r q => (Z r).getD q 0, ?_, fun r hr1 q hq => ?_, fun r hr1 => ?_, ?_, hl, .inr ⟨_, _, hx.1, by simp; omega⟩⟩
    · by_cases h0 : len = 0
      · exact .inl h0
      · obtain ⟨b, off, rfl⟩ := spot_none (hr 0 (by omega)).1
        refine .inr ⟨b, off, rfl, World.block_lt_of_cell? W _ (hr 0 (by omega)).1, fun r hr1 => ?_⟩
        obtain ⟨c1, c2, c3, c4, c5, c6, c7⟩ := hr r (by omega)
        rw [addr_add] at c1
        refine ⟨c1, ?_⟩
        cases hA : A r with
        | none =>
          have := c6 hA
          exact .inl ⟨rfl, by omega, this⟩
        | some y =>
          by_cases h0 : L r = 0
          · exact .inr (.inl ⟨y, rfl, h0⟩)
          · obtain ⟨_, hc⟩ := c7 y hA
            obtain ⟨b', off', rfl⟩ := spot_none (hc 0 (by omega))
            refine .inr (.inr ⟨b', off', rfl, c2, by omega, World.block_lt_of_cell? W _ (hc 0 (by omega)), fun j hj => ?_⟩)
            have := hc j (by omega)
            rw [addr_add] at this
            exact this
    · obtain ⟨c1, c2, c3, c4, c5, c6, c7⟩ := hr r (by omega)
      have hq' : q < (Z r).length := by omega
      show 0 ≤ (Z r).getD q 0 ∧ (Z r).getD q 0 < 256
      rw [List.getD_eq_getElem?_getD, List.getElem?_eq_getElem hq', Option.getD_some]
      have := bounds_u8 (c5 _ (List.getElem_mem hq'))
      omega
    · obtain ⟨c1, c2, c3, c4, c5, c6, c7⟩ := hr r (by omega)
      omega
    · rw [hx.1]
      simp only [Rows.uptoBulk]
      have := bulkAll_range (H := H) (fun r => intRow .u8 (A r) (L r) (Z r)) L len (fun r hr1 => by
        obtain ⟨c1, c2, c3, c4, c5, c6, c7⟩ := hr r (by omega)
        exact bulk_row .u8 (A r) (L r) (Z r) (fun h => by have := c6 h; omega) (by omega))
      omega

end Go.Proofs.Ytfhplpcbaoefeaa
