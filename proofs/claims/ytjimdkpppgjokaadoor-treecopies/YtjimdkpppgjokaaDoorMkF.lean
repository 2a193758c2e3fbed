/-
  What slices.Clone, lowest, isLimit and depthOf answer.
-/
import Derived.Test.YtjimdkpppgjokaaDoorMkE
import Derived.Test.YtjimdkpppgjokaaDoorShelf
import Derived.Laws.AppendOwnNone
namespace Go.Proofs.YtjimdkpppgjokaaDoor
open Go.RowKit
set_option linter.unusedVariables false
set_option linter.unusedSimpArgs false

attribute [local go_sem ↓] sv24_eq lv24_eq ix22_eq slr_eq

theorem infoR : ∃ i, Tryd.prog.info? 33 = some i ∧ i.zero = some (.agg (vs .u8 32 fun _ => 0)) ∧ i.size = 32 ∧ i.bytes = 32 := by
  have h : (Tryd.prog.info? 33).map (fun i => (i.zero, i.size, i.bytes)) = some (some (.agg (vs .u8 32 fun _ => 0)), 32, 32) := by kernel_rfl
  cases hq : Tryd.prog.info? 33 with
  | none => simp [hq] at h
  | some i => simp [hq] at h; exact ⟨i, rfl, h.1, h.2.1, h.2.2⟩
/-- A row of the call's own, as the append's law has it. -/
theorem RowR.ofOwns {w : World} {B : Nat} {v : Value} {n : Nat} {f : Nat → Int} (h : w.ownsRow B 33 32 v n (bl f (32 * n))) : ∃ a cap, v = .slice a n cap ∧ RowR w B w.heap.size a n cap f := by
  rcases h with ⟨_, ⟨rfl, rfl⟩ | ⟨g, cap, cur, rfl, h1, h2, h3, h4, h5, h6⟩⟩
  · exact ⟨none, 0, rfl, Nat.le_refl _, .inl ⟨rfl, fun _ => rfl⟩⟩
  · have hg := (Array.getElem?_eq_some_iff.1 h2).1
    refine ⟨_, cap, rfl, h3, .inr ⟨g, cur, rfl, h1, by omega, h2, by omega, fun q hq => ?_⟩⟩
    have h7 : (cur.toList.take (n * 32))[q]? = (bl f (32 * n))[q]? := by rw [h6]
    rw [List.getElem?_take_of_lt (by omega), bl_at _ _ _ hq, Array.getElem?_toList] at h7
    exact h7
theorem RowR.move {w w' : World} {B g g' : Nat} {a : Option Addr} {len cap : Nat} {f : Nat → Int} (h : RowR w B g a len cap f) (hb : Below w.heap.size w w') (hg : w.heap.size ≤ g') : RowR w' B g' a len cap f := by
  rcases h with ⟨hc, h | ⟨b, C, h1, h2, h3, h4, h5, h6⟩⟩
  · exact ⟨hc, .inl h⟩
  · have hbl := (Array.getElem?_eq_some_iff.1 h4).1
    exact ⟨hc, .inr ⟨b, C, h1, h2, by omega, (hb.block b hbl).trans h4, h5, h6⟩⟩
theorem RowR.down {w : World} {B B' g : Nat} {a : Option Addr} {len cap : Nat} {f : Nat → Int} (h : RowR w B g a len cap f) (hB : B' ≤ B) : RowR w B' g a len cap f := by
  rcases h with ⟨hc, h | ⟨b, C, h1, h2, h3, h4, h5, h6⟩⟩
  · exact ⟨hc, .inl h⟩
  · exact ⟨hc, .inr ⟨b, C, h1, by omega, h3, h4, h5, h6⟩⟩
/- append of roots onto a row of the own -/
set_option maxRecDepth 20000 in
theorem wpList_append_rts (w : World) {ops : Array Oper} {rest : List Oper} {o : Oper} {a : Act} {Q : Exit → Act → World → Prop} (hgd : o.guard = none) (s x : Operand)
    (ho : o.op = .call { callee := .builtin .append, args := #[s, x], argTypes := #[26, 26] })
    (base : Nat) (v : Value) (n : Nat) (m : Nat → Int) (hs : a.eval s = v) (hown : w.ownsRow base 33 32 v n (bl m (32 * n)))
    (ao : Option Addr) (len cap : Nat) (f : Nat → Int) (hx : a.eval x = .slice ao len cap) (hb : Rts w ao len cap f) (hbd : (n + len) * 32 ≤ 140737488355328) (hbase : base ≤ w.heap.size)
    (m' : Nat → Int) (hm1 : ∀ q, q < 32 * n → m' q = m q) (hm2 : ∀ q, q < 32 * len → m' (32 * n + q) = f q)
    (h : ∀ v' w', w'.ownsRow base 33 32 v' (n + len) (bl m' (32 * (n + len))) → w.grownBy w' v.ownBlock → wpList Tryd.prog ops Q rest (a.put o.dst v') w') :
    wpList Tryd.prog ops Q (o :: rest) a w := by
  obtain ⟨i, hi, hz0, hz1, hz2⟩ := infoR
  have hzz : (Value.agg (vs .u8 32 fun _ => 0)).cells.size = 32 := by simp [Value.cells, vs_size]
  have e : bl m (32 * n) ++ bl f (32 * len) = bl m' (32 * (n + len)) := by
    unfold bl
    rw [Nat.mul_add, List.range_add, List.map_append, List.map_map]
    congr 1
    · exact List.map_congr_left fun j hj => by rw [hm1 j (List.mem_range.1 hj)]
    · refine List.map_congr_left fun j hj => ?_
      show Value.int .u8 (f j) = Value.int .u8 (m' (32 * n + j))
      rw [hm2 j (List.mem_range.1 hj)]
  rcases hb with ⟨rfl, rfl, rfl⟩ | ⟨x0, rfl, rfl⟩ | ⟨b, off, rfl, hlc, hbl, hc⟩
  · refine wpList_append_own_none hgd s x 26 ho base 33 i 32 Tryd.underlying26 hi v n _ hs hown hx (h v w ?_ ⟨rfl, rfl, rfl, Nat.le_refl _, fun _ _ _ => rfl⟩)
    rw [← e]
    simpa [bl] using hown
  · exact wpList_append_own w hgd s x 26 ho base 33 i _ 32 32 Tryd.underlying26 hi hz0 hz1 hz2 hzz (by decide) v n _ hs hown x0 0 cap (bl f (32 * 0)) hx (by rw [bl_len])
      (fun j u hj => by
        have := (bl_get f (32 * 0) j u hj).1
        omega) (bl_one f _) (by unfold maxLen; omega) (by omega) hbase (fun v' w' h1 h2 _ => h v' w' (by rw [← e]; exact h1) h2)
  · exact wpList_append_own w hgd s x 26 ho base 33 i _ 32 32 Tryd.underlying26 hi hz0 hz1 hz2 hzz (by decide) v n _ hs hown ⟨b, off, none⟩ len cap (bl f (32 * len)) hx (by rw [bl_len]; omega)
      (fun j u hj => by
        obtain ⟨h1, rfl⟩ := bl_get f (32 * len) j u hj
        rw [addr_add]
        exact hc j h1) (bl_one f _) (by unfold maxLen; omega) (by omega) hbase (fun v' w' h1 h2 _ => h v' w' (by rw [← e]; exact h1) h2)

theorem below_grownS {B s : Nat} {w0 w w' : World} {v : Value} {n : Nat} {xs : List Value} {e : TypeId} (hb : Below B w0 w) (ho : w.ownsRow B e s v n xs) (hB : B ≤ w.heap.size) (hg : w.grownBy w' v.ownBlock) : Below B w0 w' :=
  ⟨hg.os.trans hb.os, hg.tape.trans hb.tape, hg.output.trans hb.output, Nat.le_trans hb.size hg.size, fun k hk => (hg.block k (by omega) (fun e => by have := (ho.lt k e.symm).1; omega)).trans (hb.block k hk)⟩
theorem eqnilR (w : World) (a : Option Addr) (l c : Nat) : (binOp .eql 26 (.slice a l c) (.slice none 0 0)).run Tryd.prog w = .ok (.bool a.isNone) w := by
  simp only [binOp]
  simp [run_equal_slice_nil w 26 33 a l c Tryd.underlying26]

set_option maxRecDepth 20000 in
set_option maxHeartbeats 1000000 in
theorem rclone_any (a : Option Addr) (len cap : Nat) (f : Nat → Int) (w : World) (hr : Rts w a len cap f) (hl : 32 * len ≤ 140737488355328) :
    Calls Tryd.prog 28 #[.slice a len cap] w fun e w' => ∃ a' cap', e = .returned (.slice a' len cap') ∧ Below w.heap.size w w' ∧ RowR w' w.heap.size w'.heap.size a' len cap' f := by
  cases a with
  | none =>
    obtain ⟨rfl, rfl⟩ : len = 0 ∧ cap = 0 := by
      rcases hr with ⟨_, h1, h2⟩ | ⟨_, h, _⟩ | ⟨_, _, h, _⟩
      · exact ⟨h1, h2⟩
      · cases h
      · cases h
    have q := eqnilR w none 0 0
    go_enter Tryd.func28, Tryd.ntmps28
    go_wp2
    go_ret
    exact ⟨none, 0, rfl, Below.refl _ _, Nat.le_refl _, .inl ⟨rfl, fun _ => rfl⟩⟩
  | some x =>
    have HR := hid hr
    have q := eqnilR w (some x) len cap
    clear hr
    go_enter Tryd.func28, Tryd.ntmps28
    go_wp2_with (at_builtin; refine wpList_append_rts _ rfl _ _ rfl w.heap.size _ 0 f rfl (World.ownsRow_made _ #[] 0 (Nat.le_refl _) (Nat.zero_le _) rfl) (some x) len cap f rfl (HR.out.below ((Below.refl _ _).alloc (Nat.le_refl _) _)) (by omega) (by simp) f (fun q _ => rfl) (fun q _ => by rw [Nat.mul_zero, Nat.zero_add]) ?_; intro v' w' ho hgr)
    obtain ⟨a', cap', rfl, hrow⟩ := RowR.ofOwns ho
    go_ret
    refine ⟨a', cap', by rw [Nat.zero_add]; rfl, ?_, by rw [Nat.zero_add] at hrow; exact hrow⟩
    exact below_grownS ((Below.refl _ _).alloc (Nat.le_refl _) _) (World.ownsRow_made (e := 33) (size := 32) _ #[] 0 (Nat.le_refl _) (Nat.zero_le _) rfl) (by simp) hgr

theorem isLimit_any (n : Int) (w : World) (h0 : -9223372036854775808 ≤ n) (h1 : n ≤ 9223372036854775807) :
    Calls Tryd.prog 34 #[.int .i64 n] w fun e w' => e = .returned (.bool (decide (0 ≤ n ∧ n ≤ 1099511627776))) ∧ w' = w := by
  by_cases h : 0 ≤ n
  · go_enter Tryd.func34, Tryd.ntmps34
    go_wp2
    go_ret
    exact ⟨by simp [h], rfl⟩
  · go_enter Tryd.func34, Tryd.ntmps34
    go_wp2
    go_ret
    exact ⟨by rw [decide_eq_false (by omega)]; rfl, rfl⟩

theorem depthOf_any (n : Nat) (w : World) (h1 : n ≤ 1099511627776) :
    Calls Tryd.prog 36 #[.int .i64 n] w fun e w' => e = .returned (.int .i64 (dpt n : Nat)) ∧ w' = w := by
  by_cases h : n = 0
  · subst h
    go_enter Tryd.func36, Tryd.ntmps36
    go_wp2
    go_ret
    exact ⟨rfl, rfl⟩
  · obtain ⟨m, em⟩ : ∃ m, m = n - 1 := ⟨_, rfl⟩
    have hL := Tryd.bits_Len64 (m : Int) w (by omega) (by omega)
    have e1 : (n : Int) - 1 = (m : Int) := by omega
    have hb : ((n : Int) == 0) = false := by simp; omega
    have EM := hid em
    clear em
    go_enter Tryd.func36, Tryd.ntmps36
    go_wp2_with (go_at_call 24; refine hL.mono ?_; rintro e w' ⟨rfl, rfl⟩)
    go_ret
    refine ⟨?_, rfl⟩
    unfold dpt
    rw [if_neg h, EM.out]
    rfl

end Go.Proofs.YtjimdkpppgjokaaDoor
