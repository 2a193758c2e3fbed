/-
  A copy of bytes by append.
-/
import Derived.Test.YtbilbiehgagfkaaWalkY
namespace Go.Proofs.Ytbilbiehgagfkaa
open Go.RowKit

/-- An append whose run is known. -/
theorem wpList_append_is {P : Program} (w : World) {ops : Array Oper} {rest : List Oper} {o : Oper} {a : Act} {Q : Exit → Act → World → Prop} (hg : o.guard = none) (s x : Operand) (t : TypeId)
    (hop : o.op = Op.call { callee := Callee.builtin Builtin.append, args := #[s, x], argTypes := #[t, t] }) (vs vx v' : Value) (w' : World) (hs : a.eval s = vs) (hx : a.eval x = vx)
    (hrun : ∀ ty, (Builtin.append_ #[t, t] ty #[vs, vx]).run P w = .ok v' w') (hK : wpList P ops Q rest (a.put o.dst v') w') : wpList P ops Q (o :: rest) a w := by
  refine wpList_plain hg fun K hK' => ?_
  unfold Oper.wp execOp
  simp only [hop, resolve, invoke, builtin, Sem.run_bind, Sem.run_pure, Result.andThen_ok, List.map_toArray, List.map_cons, List.map_nil, hs, hx, hrun]
  exact hK' _ _ hK

theorem info8 : (Try.prog.info? 5).map (fun i => (i.zero, i.size, i.bytes)) = some (some (.int .u8 0), 1, 1) := by kernel_rfl

/-- 'append([]byte{}, b...)': a copy in a block of its own. -/
theorem app_copy (W : World) (b : Nat) (x : Addr) (len cap : Nat) (zs : List Int) (hlen : 0 < len) (hz : len ≤ zs.length) (hcell : ∀ i, i < zs.length → W.cell? (x.add i) = some (.int .u8 (zs.getD i 0))) (hb : len ≤ 140737488351232) :
    ∃ C arr, (∀ ty, (Builtin.append_ #[33, 33] ty #[.slice (some ⟨b, 0, none⟩) 0 0, .slice (some x) len cap]).run Try.prog W = .ok (.slice (some ⟨W.heap.size, 0, none⟩) len C) (W.drew.alloc (.cells arr 5))) ∧ ∀ j, j < len → arr[j]? = some (.int .u8 (zs.getD j 0)) := by
  obtain ⟨i, hi, hz0, hz1, hz2⟩ := info_parts info8
  have hs : Src Try.prog i.size 33 (.slice (some x) len cap) len ((zs.take len).map (Value.int .u8)) W := by
    rw [hz1]
    refine Src.ofSlice W Try.underlying33 x len cap _ (by simp; omega) ?_ ?_
    · intro j u hj
      rw [List.getElem?_map, Option.map_eq_some_iff] at hj
      obtain ⟨v, hv, rfl⟩ := hj
      have hlt : j < len := by
        have := (List.getElem?_eq_some_iff.1 hv).1
        simp at this
        omega
      rw [List.getElem?_take_of_lt hlt] at hv
      rw [hcell j (by omega), List.getD_eq_getElem?_getD, hv]
      rfl
    · intro u hu
      obtain ⟨v, _, rfl⟩ := List.mem_map.1 hu
      rfl
  have hcapn : Builtin.nextslicecap (0 + len) 0 = len := by unfold Builtin.nextslicecap; rw [if_pos (by omega)]; omega
  have h := fun ty => run_append_grow_src (P := Try.prog) W 33 33 ty 5 i _ Try.underlying33 hi hz0 (some ⟨b, 0, none⟩) 0 0 [] (by rw [hz1]; exact run_firstCells_some W.drew 1 0 ⟨b, 0, none⟩ 0 0 [] rfl (by simp)) (.slice (some x) len cap) len _ hs (by omega) (by omega) (by rw [hcapn, hz2]; omega)
  rw [Nat.zero_add] at h
  refine ⟨_, _, h, ?_⟩
  intro j hj
  have hl : j < (([] ++ (zs.take len).map (Value.int .u8)).toArray).size := by simp; omega
  rw [Array.getElem?_append_left hl]
  have hz' : j < zs.length := by omega
  simp [hj, hz']

/-- The string of bytes. -/
def strOf (zs : List Int) : ByteArray := zs.foldl (fun r n => r.push (UInt8.ofNat n.toNat)) ByteArray.empty

theorem conv8 (a : Addr) (cap : Nat) (zs : List Int) (hl : zs.length = 8) (W : World) (h : ∀ j, j < 8 → W.cell? (a.add j) = some (.int .u8 (zs.getD j 0))) :
    (convert 33 9 (.slice (some a) 8 cap)).run Try.prog W = .ok (.string (strOf zs)) W := by
  rw [run_convert_bytes_string W _ _ _ _ _ _ Try.underlying33 Try.underlying5 Try.underlying9]
  refine run_bytesToString W a 8 cap zs ?_
  have hh := run_loadCells_list (P := Try.prog) W a (zs.map (Value.int .u8)) (by
    intro j v hj
    rw [List.getElem?_map, Option.map_eq_some_iff] at hj
    obtain ⟨u, hu, rfl⟩ := hj
    have hlt := (List.getElem?_eq_some_iff.1 hu).1
    rw [h j (by omega), List.getD_eq_getElem?_getD, hu]
    rfl)
  rw [List.length_map, hl] at hh
  exact hh

theorem conv8z (b off cap : Nat) (z0 z1 z2 z3 z4 z5 z6 z7 : Int) (W : World) (c0 : W.cell? ⟨b, off, none⟩ = some (.int .u8 z0)) (c1 : W.cell? ⟨b, off + 1, none⟩ = some (.int .u8 z1)) (c2 : W.cell? ⟨b, off + 2, none⟩ = some (.int .u8 z2)) (c3 : W.cell? ⟨b, off + 3, none⟩ = some (.int .u8 z3)) (c4 : W.cell? ⟨b, off + 4, none⟩ = some (.int .u8 z4)) (c5 : W.cell? ⟨b, off + 5, none⟩ = some (.int .u8 z5)) (c6 : W.cell? ⟨b, off + 6, none⟩ = some (.int .u8 z6)) (c7 : W.cell? ⟨b, off + 7, none⟩ = some (.int .u8 z7)) :
    (convert 33 9 (.slice (some ⟨b, off, none⟩) 8 cap)).run Try.prog W = .ok (.string (strOf [z0, z1, z2, z3, z4, z5, z6, z7])) W := by
  refine conv8 ⟨b, off, none⟩ cap [z0, z1, z2, z3, z4, z5, z6, z7] rfl W ?_
  intro j hj
  have : j = 0 ∨ j = 1 ∨ j = 2 ∨ j = 3 ∨ j = 4 ∨ j = 5 ∨ j = 6 ∨ j = 7 := by omega
  rcases this with rfl | rfl | rfl | rfl | rfl | rfl | rfl | rfl
  · exact c0
  · exact c1
  · exact c2
  · exact c3
  · exact c4
  · exact c5
  · exact c6
  · exact c7

end Go.Proofs.Ytbilbiehgagfkaa
