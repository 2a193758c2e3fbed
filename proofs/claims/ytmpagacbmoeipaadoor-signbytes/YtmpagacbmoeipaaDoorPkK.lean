/-
  Keys copied by append; PickSums.
-/

import Derived.Test.YtmpagacbmoeipaaDoorPkE
import Derived.Test.YtmpagacbmoeipaaDoorPkI
namespace Go.Proofs.YtmpagacbmoeipaaDoor

open Go.RowKit

set_option linter.unusedVariables false

set_option linter.unusedSimpArgs false

set_option maxRecDepth 20000

theorem infoKy : ∃ i, Tryd.prog.info? 44 = some i ∧ i.zero = some (.agg (vs .u8 48 fun _ => 0)) ∧ i.size = 48 ∧ i.bytes = 48 := by
  have h : (Tryd.prog.info? 44).map (fun i => (i.zero, i.size, i.bytes)) = some (some (.agg (vs .u8 48 fun _ => 0)), 48, 48) := by kernel_rfl
  cases hq : Tryd.prog.info? 44 with
  | none => simp [hq] at h
  | some i => simp [hq] at h; exact ⟨i, rfl, h.1, h.2.1, h.2.2⟩

theorem wpList_append_kys (w : World) {ops : Array Oper} {rest : List Oper} {o : Oper} {a : Act} {Q : Exit → Act → World → Prop} (hgd : o.guard = none) (s x : Operand)
    (ho : o.op = .call { callee := .builtin .append, args := #[s, x], argTypes := #[62, 62] })
    (base : Nat) (v : Value) (n : Nat) (m : Nat → Int) (hs : a.eval s = v) (hown : w.ownsRow base 44 48 v n (bl m (48 * n)))
    (ao : Option Addr) (len cap : Nat) (f : Nat → Int) (hx : a.eval x = .slice ao len cap) (hb : Kys w ao len cap f) (hbd : (n + len) * 48 ≤ 140737488355328) (hbase : base ≤ w.heap.size)
    (m' : Nat → Int) (hm1 : ∀ q, q < 48 * n → m' q = m q) (hm2 : ∀ q, q < 48 * len → m' (48 * n + q) = f q)
    (h : ∀ v' w', w'.ownsRow base 44 48 v' (n + len) (bl m' (48 * (n + len))) → w.grownBy w' v.ownBlock → wpList Tryd.prog ops Q rest (a.put o.dst v') w') :
    wpList Tryd.prog ops Q (o :: rest) a w := by
  obtain ⟨i, hi, hz0, hz1, hz2⟩ := infoKy
  have hzz : (Value.agg (vs .u8 48 fun _ => 0)).cells.size = 48 := by simp [Value.cells, vs_size]
  have e : bl m (48 * n) ++ bl f (48 * len) = bl m' (48 * (n + len)) := by
    unfold bl
    rw [Nat.mul_add, List.range_add, List.map_append, List.map_map]
    congr 1
    · exact List.map_congr_left fun j hj => by rw [hm1 j (List.mem_range.1 hj)]
    · refine List.map_congr_left fun j hj => ?_
      show Value.int .u8 (f j) = Value.int .u8 (m' (48 * n + j))
      rw [hm2 j (List.mem_range.1 hj)]
  rcases hb with ⟨rfl, rfl, rfl⟩ | ⟨x0, rfl, rfl⟩ | ⟨b, off, rfl, hlc, hbl, hc⟩
  · refine wpList_append_own_none hgd s x 62 ho base 44 i 48 Tryd.underlying62 hi v n _ hs hown hx (h v w ?_ ⟨rfl, rfl, rfl, Nat.le_refl _, fun _ _ _ => rfl⟩)
    rw [← e]
    simpa [bl] using hown
  · exact wpList_append_own w hgd s x 62 ho base 44 i _ 48 48 Tryd.underlying62 hi hz0 hz1 hz2 hzz (by decide) v n _ hs hown x0 0 cap (bl f (48 * 0)) hx (by rw [bl_len])
      (fun j u hj => by
        have := (bl_get f (48 * 0) j u hj).1
        omega) (bl_one f _) (by unfold maxLen; omega) (by omega) hbase (fun v' w' h1 h2 _ => h v' w' (by rw [← e]; exact h1) h2)
  · exact wpList_append_own w hgd s x 62 ho base 44 i _ 48 48 Tryd.underlying62 hi hz0 hz1 hz2 hzz (by decide) v n _ hs hown ⟨b, off, none⟩ len cap (bl f (48 * len)) hx (by rw [bl_len]; omega)
      (fun j u hj => by
        obtain ⟨h1, rfl⟩ := bl_get f (48 * len) j u hj
        rw [addr_add]
        exact hc j h1) (bl_one f _) (by unfold maxLen; omega) (by omega) hbase (fun v' w' h1 h2 _ => h v' w' (by rw [← e]; exact h1) h2)

theorem below_grownK {B s : Nat} {w0 w w' : World} {v : Value} {n : Nat} {xs : List Value} {e : TypeId} (hb : Below B w0 w) (ho : w.ownsRow B e s v n xs) (hB : B ≤ w.heap.size) (hg : w.grownBy w' v.ownBlock) : Below B w0 w' :=
  ⟨hg.os.trans hb.os, hg.tape.trans hb.tape, hg.output.trans hb.output, Nat.le_trans hb.size hg.size, fun k hk => (hg.block k (by omega) (fun e => by have := (ho.lt k e.symm).1; omega)).trans (hb.block k hk)⟩

theorem own_kys {w : World} {B : Nat} {v : Value} {n : Nat} {f : Nat → Int} (h : w.ownsRow B 44 48 v n (bl f (48 * n))) : ∃ a cap, v = .slice a n cap ∧ Kys w a n cap f := by
  rcases h with ⟨_, ⟨rfl, rfl⟩ | ⟨g, cap, cur, rfl, h1, h2, h3, h4, h5, h6⟩⟩
  · exact ⟨none, 0, rfl, .inl ⟨rfl, rfl, rfl⟩⟩
  · have hg := (Array.getElem?_eq_some_iff.1 h2).1
    refine ⟨_, cap, rfl, .inr (.inr ⟨g, 0, rfl, h3, hg, fun q hq => ?_⟩)⟩
    have h7 : (cur.toList.take (n * 48))[q]? = (bl f (48 * n))[q]? := by rw [h6]
    have h8 : (bl f (48 * n))[q]? = some (.int .u8 (f q)) := by
      unfold bl
      rw [List.getElem?_map, List.getElem?_range hq]
      rfl
    rw [List.getElem?_take_of_lt (by omega), h8, Array.getElem?_toList] at h7
    rw [Nat.zero_add, row_cell h2]
    exact h7

/-- A key is equal to itself. -/
theorem eqK (w : World) (c : Nat → Int) (h : ∀ j, j < 48 → 0 ≤ c j ∧ c j < 256) : (Op.equalIn 10000 44 (.agg (vs .u8 48 c)) (.agg (vs .u8 48 c))).run Tryd.prog w = .ok true w := by
  obtain ⟨la, hla⟩ := lits_key 3 c h
  have hk : Tryd.prog.keyTypeAt 5 44 = true := by kernel_rfl
  have hf : (Value.agg (vs .u8 48 c)).formed Tryd.prog 44 = true := by
    simp only [Value.formed, Tryd.underlying44]
    rw [vs_size]
    kernel_rfl
  have hl : Tryd.prog.keyLits 5 44 (Value.agg (vs .u8 48 c)).cells.toList = some la := by
    show Tryd.prog.keyLits 5 44 (vs .u8 48 c).toList = some la
    rw [vs_list]
    exact hla
  obtain ⟨r, h1, h2⟩ := run_equalIn_deep (P := Tryd.prog) 9995 5 44 hk w 5 5 (.agg (vs .u8 48 c)) (.agg (vs .u8 48 c)) la la hf hf hl hl
  rw [h2.2 rfl] at h1
  exact h1

attribute [local go_sem ↓] ixKy_eq lvKy_eq svKy_eq

end Go.Proofs.YtmpagacbmoeipaaDoor
