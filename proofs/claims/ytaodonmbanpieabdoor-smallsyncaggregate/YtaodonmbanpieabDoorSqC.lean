/-
  SyncAggregate: both Reads one answer, the argument opened.
-/
import Derived.Test.YtaodonmbanpieabDoorSqB
namespace Go.Proofs.YtaodonmbanpieabDoor
open Go.RowKit
set_option linter.unusedVariables false
set_option linter.unusedSimpArgs false

theorem byt_tb8 (m : Nat → Nat) (n q : Nat) (h1 : m q < 256) (h2 : ∀ k, k < 8 → n ≤ 8 * q + k → (m q).testBit k = false) : Z.byt (Z.tb m) n q = m q := by
  apply Nat.eq_of_testBit_eq
  intro k
  rw [Z.byt_bit]
  by_cases hk : k < 8
  · by_cases hn : 8 * q + k < n
    · unfold Z.tb
      rw [show (8 * q + k) / 8 = q by omega, show (8 * q + k) % 8 = k by omega]
      simp [hk, hn]
    · rw [h2 k hk (by omega)]
      simp [hn]
  · rw [Nat.testBit_lt_two_pow (Nat.lt_of_lt_of_le h1 (Nat.pow_le_pow_right (n := 2) (by omega) (by omega : 8 ≤ k)))]
    simp [hk]

/-- How many of the first n are set. -/
def cnt (f : Nat → Bool) : Nat → Nat
  | 0 => 0
  | n + 1 => cnt f n + (if f n = true then 1 else 0)
theorem okpSyncAggregate (m : Nat → Int) (hm : ∀ j, 0 ≤ m j ∧ m j < 256) : OkSyncAggregate (pSyncAggregate m) := ⟨trivial, fun j _ => hm (1 + j)⟩
theorem epSyncAggregate (m : Nat → Int) (hm : ∀ j, 0 ≤ m j ∧ m j < 256) (q : Nat) (hq : q < 97) : ct7 (eSyncAggregate (pSyncAggregate m)) q = m q := by
  show (if q < 1 then vb (Z.tb fun q => (m q).toNat) q else if q - 1 < 96 then m (1 + (q - 1)) else 0) = m q
  by_cases h0 : q < 1
  · rw [if_pos h0]
    obtain rfl : q = 0 := by omega
    have h1 := hm 0
    unfold vb
    rw [byt_tb8 (fun q => (m q).toNat) 8 0 (by show (m 0).toNat < 256; omega) (fun k hk h2 => by omega)]
    omega
  · rw [if_neg h0, if_pos (by omega)]
    exact congrArg m (by omega)
theorem okoSyncAggregate : OkSyncAggregate oSyncAggregate := ⟨trivial, fun j hj => bd_zero j _ hj⟩
theorem ebdSyncAggregate (x : VSyncAggregate) (hx : OkSyncAggregate x) (q : Nat) : 0 ≤ ct7 (eSyncAggregate x) q ∧ ct7 (eSyncAggregate x) q < 256 := by
  show 0 ≤ (if q < 1 then vb x.f0 q else if q - 1 < 96 then x.f1 (q - 1) else 0) ∧ (if q < 1 then vb x.f0 q else if q - 1 < 96 then x.f1 (q - 1) else 0) < 256
  by_cases c0 : q < 1
  · rw [if_pos c0]; exact vb_bd _ _
  rw [if_neg c0]
  by_cases c1 : q - 1 < 96
  · rw [if_pos c1]; exact hx.2 _ c1
  rw [if_neg c1]
  exact ⟨Int.le_refl _, by decide⟩
theorem rdSyncAggregate (m : Nat → Int) (hm : ∀ j, 0 ≤ m j ∧ m j < 256) (len : Nat) (hlen : len ≤ 140737488351232) : ∃ (V : VSyncAggregate) (E : Int), OkSyncAggregate V ∧ (E = 0 → len = 97 ∧ ∀ q, q < 97 → ct7 (eSyncAggregate V) q = m q) ∧ (len = 97 → E = 0) ∧
    (∀ (w : World) ao cap, Bys w ao len cap m → len ≤ cap → cap ≤ 9223372036854775807 → Calls Tryd.prog 38 #[.slice ao len cap] w fun e w' => e = .returned (.tuple #[.agg (cel (sSyncAggregate V)), .int .i64 E]) ∧ Below w.heap.size w w') ∧
    (∀ (w : World) ao cap, Bys w ao len cap m → len ≤ cap → cap ≤ 9223372036854775807 → Calls Tryd.prog 39 #[.slice ao len cap] w fun e w' => e = .returned (.tuple #[.agg (cel (sSyncAggregate V)), .int .i64 E]) ∧ Below w.heap.size w w') := by
  by_cases h : len = 97
  · subst h
    exact ⟨pSyncAggregate m, 0, okpSyncAggregate m hm, fun _ => ⟨rfl, fun q hq => epSyncAggregate m hm q hq⟩, fun _ => rfl, fun w ao cap h1 h2 h3 => readSyncAggregate_ok m ao cap w h1 hm h2 h3, fun w ao cap h1 h2 h3 => rreadSyncAggregate_ok m ao cap w h1 hm h2 h3⟩
  · exact ⟨oSyncAggregate, 4, okoSyncAggregate, fun h0 => absurd h0 (by decide), fun h0 => absurd h0 h, fun w ao cap h1 h2 h3 => readSyncAggregate_no m ao len cap w h1 hm h2 h3 hlen h, fun w ao cap h1 h2 h3 => rreadSyncAggregate_no m ao len cap w h1 hm h2 h3 hlen h⟩

theorem lst_bt {H : Type} {enc : TypeId × Value → H} {P : Program} {w : World} {b0 fuel : Nat} {sp : Nat → Bool} {held : Bool} {t e : TypeId} {cs : List Value} {x : DataW H × List MemPlace}
    (ht : P.underlying t = some (.array 8 e)) (he : P.underlying e = some .bool) (hce : P.cellsOf e = 1) (hl : cs.length = 8) (h : DataW.trod enc P w b0 sp held fuel t cs = some x) :
    ∃ f : Nat → Bool, cs = [.bool (f 0), .bool (f 1), .bool (f 2), .bool (f 3), .bool (f 4), .bool (f 5), .bool (f 6), .bool (f 7)] := by
  obtain ⟨xs, m, rfl, _, _, hxl, hat⟩ := DataW.trod_array ht h
  have hcell : ∀ i, i < 8 → ∃ z, cs[i]? = some (.bool z) := by
    intro i hi
    have ha := hat i hi
    rw [List.getElem?_eq_getElem (by omega)] at ha
    obtain ⟨z, hc, _⟩ := DataW.trod_bool he ha
    refine ⟨z, ?_⟩
    have := congrArg (·[0]?) hc
    simpa [hce, List.getElem?_take, List.getElem?_drop] using this
  refine ⟨fun i => match cs[i]? with | some (.bool b) => b | _ => false, ?_⟩
  apply List.ext_getElem?
  intro i
  by_cases hi : i < 8
  · obtain ⟨z, hz⟩ := hcell i hi
    rcases (by omega : i = 0 ∨ i = 1 ∨ i = 2 ∨ i = 3 ∨ i = 4 ∨ i = 5 ∨ i = 6 ∨ i = 7) with rfl | rfl | rfl | rfl | rfl | rfl | rfl | rfl
    all_goals
      rw [hz]
      simp [hz]
  · rw [List.getElem?_eq_none (by omega), List.getElem?_eq_none (by simpa using hi)]

set_option maxRecDepth 100000 in
theorem open_SyncAggregate {H : Type} {enc : TypeId × Value → H} {W w : World} {r : Reach} {base b0 : Nat} {sp : Nat → Bool} {held : Bool} {v : Value} {d : DataW H} {p : List MemPlace}
    (hv : Value.okWide Tryd.prog W r base 74 v) (h : DataW.Trod enc Tryd.prog w b0 sp held 74 v d p) : ∃ x : VSyncAggregate, v = .agg (cel (sSyncAggregate x)) ∧ OkSyncAggregate x := by
  obtain ⟨cs, rfl, hs, xs, n, hxl, hat⟩ := open_str Tryd.underlying74 hv h
  have hsz : cs.size = 104 := hs.trans (by kernel_rfl)
  have hsl : cs.toList.length = 104 := by rw [Array.length_toList]; exact hsz
  have hx : xs.length = 2 := hxl
  have h0 := hat 0 _ rfl
  rw [List.getElem?_eq_getElem (by omega)] at h0
  have c0 : Tryd.prog.cellsOf 72 = 8 := by kernel_rfl
  replace h0 : DataW.trod enc Tryd.prog w b0 sp held n 72 ((cs.toList.drop 0).take (Tryd.prog.cellsOf 72)) = some xs[0] := h0
  rw [c0] at h0
  obtain ⟨f0, e0⟩ := lst_bt Tryd.underlying72 Tryd.underlying4 (by kernel_rfl) (by rw [List.length_take, List.length_drop, hsl]; rfl) h0
  have h1 := hat 1 _ rfl
  rw [List.getElem?_eq_getElem (by omega)] at h1
  have c1 : Tryd.prog.cellsOf 28 = 96 := by kernel_rfl
  replace h1 : DataW.trod enc Tryd.prog w b0 sp held n 28 ((cs.toList.drop 8).take (Tryd.prog.cellsOf 28)) = some xs[1] := h1
  rw [c1] at h1
  obtain ⟨f1, e1, k1⟩ := lst_by Tryd.underlying28 Tryd.underlying5 (by kernel_rfl) (by rw [List.length_take, List.length_drop, hsl]; rfl) h1
  have el : cs.toList.drop 0 = (cs.toList.drop 0).take 8 ++ ((cs.toList.drop 8).take 96 ++ ([])) := ((cut_list cs.toList 0 8).trans (congrArg _ ((cut_list cs.toList 8 96).trans (congrArg _ (List.drop_eq_nil_of_le (by rw [hsl]; exact Nat.le_refl _))))))
  rw [e0, e1] at el
  refine ⟨⟨f0, f1⟩, ?_, trivial, k1⟩
  congr 1
  apply Array.ext'
  exact el

end Go.Proofs.YtaodonmbanpieabDoor
