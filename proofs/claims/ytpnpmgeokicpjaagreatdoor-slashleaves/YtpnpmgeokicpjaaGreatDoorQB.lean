/-
  What the reference's Sum answers.
  What the reference's Two answers; bytes as a string.
  What the reference's Up and Holds answer; what MerkleHolds answers.
  What MerkleHolds answers.
  What the reference's Same, Depth and Zero answer.
  What the reference's Zero answers.
  Halves of a tree, as functions; the reference's recursion is the tree.
  What the reference's recursion answers.
  append onto a row of roots in a region that draws its order; what the reference's zeros answers.
  What the reference's Tree, Bytes and Mix answer.
  What the reference's Pack answers.
-/
import Derived.Test.YtpnpmgeokicpjaaGreatDoorHaE
import Derived.Test.YtpnpmgeokicpjaaGreatDoorHaF
import Derived.Test.YtpnpmgeokicpjaaGreatDoorHaD
import Derived.Test.YtpnpmgeokicpjaaGreatDoorQA
import Derived.Deep.RegionWith
import Derived.Laws.BytesString
import Derived.Maps.AppendAt
namespace Go.Proofs.YtpnpmgeokicpjaaGreatDoor

open Go.RowKit

set_option linter.unusedVariables false

def sv40 (a : Addr) (v : Value) : Sem Unit := storeVar 119 a v

theorem sv40_eq (a : Addr) (v : Value) : storeVar 119 a v = sv40 a v := rfl

theorem sv40_run {w : World} {b : Nat} {o : Nat → Int} {t : TypeId} (h : w.heap[b]? = some (.cells (vs .u32 8 o) t)) (c : Nat → Int) : (sv40 ⟨b, 0, none⟩ (.agg (vs .u32 8 c))).run Tryz.prog w = .ok () (w.setRow b (vs .u32 8 c)) :=
  run_storeVar_row w b t 119 _ _ h (by rw [vs_size]; kernel_rfl) (by rw [vs_size, vs_size]) (vs_one _ _ _)

theorem lv40_row {w : World} {b : Nat} {c : Nat → Int} {t : TypeId} (h : w.heap[b]? = some (.cells (vs .u32 8 c) t)) : (lv40 ⟨b, 0, none⟩).run Tryz.prog w = .ok (.agg (vs .u32 8 c)) w :=
  loadAt_var (load_row h 119 _ Tryz.underlying119 rfl (by rw [vs_size]; kernel_rfl))

theorem sv40_new (w : World) : (sv40 ⟨w.heap.size + 1, 0, none⟩ (.agg #[.int .u32 1779033703, .int .u32 3144134277, .int .u32 1013904242, .int .u32 2773480762, .int .u32 1359893119, .int .u32 2600822924, .int .u32 528734635, .int .u32 1541459225])).run Tryz.prog ((w.alloc (.cells #[.int .u8 0, .int .u8 0, .int .u8 0, .int .u8 0, .int .u8 0, .int .u8 0, .int .u8 0, .int .u8 0, .int .u8 0, .int .u8 0, .int .u8 0, .int .u8 0, .int .u8 0, .int .u8 0, .int .u8 0, .int .u8 0, .int .u8 0, .int .u8 0, .int .u8 0, .int .u8 0, .int .u8 0, .int .u8 0, .int .u8 0, .int .u8 0, .int .u8 0, .int .u8 0, .int .u8 0, .int .u8 0, .int .u8 0, .int .u8 0, .int .u8 0, .int .u8 0] 24)).alloc (.cells #[.int .u32 0, .int .u32 0, .int .u32 0, .int .u32 0, .int .u32 0, .int .u32 0, .int .u32 0, .int .u32 0] 119)) = .ok () ((w.alloc (.cells (vs .u8 32 fun _ => 0) 24)).alloc (.cells (vs .u32 8 HW) 119)) := by
  have h := run_storeVar_new (P := Tryz.prog) (w.alloc (.cells (vs .u8 32 fun _ => 0) 24)) 119 (vs .u32 8 fun _ => 0) (vs .u32 8 HW) (by rw [vs_size]; kernel_rfl) (by rw [vs_size, vs_size]) (vs_one _ _ _)
  rw [show (w.alloc (.cells (vs .u8 32 fun _ => 0) 24)).heap.size = w.heap.size + 1 by simp] at h
  exact h

theorem size_row (w : World) (g : Nat) (c : Array Value) : (w.setRow g c).heap.size = w.heap.size := by simp [World.setRow]

attribute [local go_sem ↓] sv24_eq lv24_eq sv40_eq lv40_eq

set_option maxRecDepth 20000 in
set_option maxHeartbeats 1000000 in
theorem refsum_wide (K m : Nat → Int) (a : Option Addr) (len cap : Nat) (w : World) (hK : Tab w 0 64 K) (hb : Bys w a len cap m) (hr : ∀ j, j < len → 0 ≤ m j ∧ m j < 256) (hlen : len ≤ 140737488353280) :
    Calls Tryz.prog 67 #[.slice a len cap] w fun e w' => e = .returned (.agg (vs .u8 32 (shaV K HW m len))) ∧ Below w.heap.size w w' := by
  have HK := hid hK
  have HBY := hid hb
  have HR := hid hr
  clear hK hb hr
  go_enter Tryz.func67, Tryz.ntmps67
  have s40 := sv40_new w
  go_upto_region 2 with fail
  obtain ⟨W0, hW0⟩ : ∃ W, (w.alloc (.cells (vs .u8 32 fun _ => 0) 24)).alloc (.cells (vs .u32 8 HW) 119) = W := ⟨_, rfl⟩
  rw [hW0]
  have s0 : W0.heap.size = w.heap.size + 1 + 1 := by rw [← hW0]; simp
  have hB0 : Below w.heap.size w W0 := by rw [← hW0]; go_grown
  have r0 : W0.heap[w.heap.size]? = some (.cells (vs .u8 32 fun _ => 0) 24) := by rw [← hW0]; exact (heap_old (by simp)).trans (heap_new rfl)
  have r1 : W0.heap[w.heap.size + 1]? = some (.cells (vs .u32 8 HW) 119) := by rw [← hW0]; exact heap_new (by simp)
  have hp := padded_wide m a len cap W0 (HBY.out.below hB0) hlen
  have HP := hid hp
  have HS0 := hid s0
  have HB0 := hid hB0
  have HR0 := hid (And.intro r0 r1)
  clear hW0 s40 s0 hB0 r0 r1 hp
  go_upto_region 3 with (go_at_call 82; refine HP.out.mono ?_; rintro e w1 ⟨g, C, rfl, ho1, hb1⟩)
  obtain ⟨M, hM⟩ : ∃ M, padM m len = M := ⟨_, rfl⟩
  obtain ⟨Q, hQ⟩ : ∃ Q, padL len = 64 * Q := ⟨padL len / 64, by have := padZ_bd len; unfold padL; omega⟩
  rw [hQ, hM] at ho1
  rw [hQ]
  have hMr : ∀ j, 0 ≤ M j ∧ M j < 256 := by
    intro j
    rw [← hM]
    unfold padM
    by_cases hj : j < len
    · rw [if_pos hj]; exact HR.out j hj
    · rw [if_neg hj]; exact padB_bd _ _
  obtain ⟨hg0, hg1, hgC, hCm, hgc⟩ := own_cells ho1
  have hz0 := HS0.out
  have hz1 := hb1.size
  have hQb : 64 * Q ≤ 140737488355328 := by have := padZ_bd len; unfold padL at hQ; omega
  have HQ := hid (And.intro hM hQ)
  have HMR := hid hMr
  have hB1 : Below w.heap.size w w1 := HB0.out.trans (hb1.mono (by omega))
  have r0 := (hb1.block w.heap.size (by omega)).trans HR0.out.1
  have r1 := (hb1.block (w.heap.size + 1) (by omega)).trans HR0.out.2
  have g1 : w.heap.size + 1 < g := by omega
  clear hM hQ hMr ho1 hz0 hz1 hb1 hg0
  go_loopw [4] (fun v wr => ∃ (q : Nat) (A : Addr), q ≤ Q ∧ v = .slice (some A) (64 * (Q - q)) (C - 64 * q) ∧ (q < Q → A = ⟨g, 64 * q, none⟩) ∧ Below w.heap.size w wr ∧ g < wr.heap.size ∧ wr.heap[w.heap.size]? = some (.cells (vs .u8 32 fun _ => 0) 24) ∧ wr.heap[w.heap.size + 1]? = some (.cells (vs .u32 8 (hsh K HW M q)) 119) ∧ ∀ j, j < 64 * Q → wr.cell? ⟨g, j, none⟩ = some (.int .u8 (M j))) (fun v _ => sliceLen v)
  case atStart => exact ⟨0, ⟨g, 0, none⟩, Nat.zero_le _, rfl, fun _ => rfl, hB1, hg1, r0, r1, hgc⟩
  case round =>
    clear hB1 hg1 r0 r1 hgc
    obtain ⟨q, A, hq, rfl, hA, hB, hgl, r0, r1, hgc⟩ := hrel
    by_cases hlt : q < Q
    · have hA := hA hlt
      subst hA
      obtain ⟨s, hs⟩ : ∃ s, hsh K HW M q = s := ⟨_, rfl⟩
      rw [hs] at r1
      have hsb := hsh_bd K HW M HW_bd q
      rw [hs] at hsb
      obtain ⟨n1, e1⟩ : ∃ n1, 64 * (Q - q) = n1 := ⟨_, rfl⟩
      obtain ⟨C1, e2⟩ : ∃ C1, C - 64 * q = C1 := ⟨_, rfl⟩
      rw [e1, e2]
      have n2 : 64 ≤ n1 := by omega
      have n3 : n1 ≤ C1 := by omega
      have n4 : (64 : Int) ≤ (C1 : Int) := by omega
      have n5 : (0 : Int) < (n1 : Int) := by omega
      have n6 : (64 : Int) ≤ (n1 : Int) := by omega
      have n7 : (n1 : Int) ≤ (C1 : Int) := by omega
      have l40 := lv40_row (w := wr.drew) r1
      have hbk := block_any K (fun j => M (64 * q + j)) s g (64 * q) 64 C1 wr.drew (fun i _ => HMR.out _) hsb (HK.out.below (w' := wr.drew) ⟨hB.os, hB.tape, hB.output, hB.size, hB.block⟩) (by omega) (by omega) (fun j hj => hgc (64 * q + j) (by omega)) hgl
      have HBK := hid hbk
      have R0 := hid r0
      have R1 := hid r1
      have HB := hid hB
      have HGC := hid hgc
      have HGL := hid hgl
      have HSS := hid hs
      have HEE := hid (And.intro e1 (And.intro e2 hq))
      clear hbk r0 r1 hB hgc hgl hs hsb e1 e2 hq
      go_wp2
      go_region_with (go_at_call 83; refine HBK.out.mono ?_; rintro e w2 ⟨rfl, hb2⟩; have v40 := sv40_run ((hb2.block (w.heap.size + 1) (by have := HGL.out; show w.heap.size + 1 < wr.heap.size; omega)).trans R1.out) (comp K (fun j => M (64 * q + j)) s))
      all_goals
        go_wp2
        obtain ⟨e1, e2, hq⟩ := HEE.out
        obtain ⟨A', hA', hA2⟩ : ∃ A : Addr, (if C1 = 64 then some (⟨g, 64 * q, none⟩ : Addr) else some ⟨g, 64 * q + 64, none⟩) = some A ∧ (q + 1 < Q → A = ⟨g, 64 * (q + 1), none⟩) := by
          by_cases hCc : C1 = 64
          · rw [if_pos hCc]; exact ⟨_, rfl, fun h => absurd h (by omega)⟩
          · rw [if_neg hCc]; exact ⟨_, rfl, fun _ => rfl⟩
        have hgl := HGL.out
        have hz2 : wr.heap.size ≤ w2.heap.size := hb2.size
        have hB := HB.out
        refine ⟨⟨q + 1, A', by omega, ?_, hA2, ?_, ?_, ?_, ?_, ?_⟩, ?_⟩
        · rw [hA', show n1 - 64 = 64 * (Q - (q + 1)) by omega, show C1 - 64 = C - 64 * (q + 1) by omega]
        · refine below_row (Below.trans (b := wr.drew) ⟨hB.os, hB.tape, hB.output, hB.size, hB.block⟩ (hb2.mono hB.size)) (by omega) _
        · rw [size_row]; omega
        · exact (setRow_other w2 (w.heap.size + 1) _ _ (by omega)).trans ((hb2.block _ (show w.heap.size < wr.heap.size by omega)).trans R0.out)
        · rw [setRow_at ((hb2.block (w.heap.size + 1) (show w.heap.size + 1 < wr.heap.size by omega)).trans R1.out), ← HSS.out]
          rfl
        · intro j hj
          exact (World.cell?_of_block (w := w2) (setRow_other w2 (w.heap.size + 1) g _ (by omega))).trans ((below_cell hb2 (show g < wr.heap.size by omega)).trans (HGC.out j hj))
        · show n1 - 64 < n1
          omega
    · have e : q = Q := by omega
      subst e
      obtain ⟨s, hs⟩ : ∃ s, hsh K HW M q = s := ⟨_, rfl⟩
      rw [hs] at r1
      have hsb := hsh_bd K HW M HW_bd q
      rw [hs] at hsb
      rw [show 64 * (q - q) = 0 by omega]
      have HSB := hid hsb
      have HSS := hid hs
      have x0 : w.heap.size < wr.heap.size := by omega
      have x1 : w.heap.size + 1 < wr.heap.size := by omega
      clear hsb hs hgc hlt hq hA hgC hCm hQb g1 hgl
      go_wp2
      change Code.wp _ _ _ _ (wr.alloc (.cells (vs .u8 32 fun _ => 0) 24))
      obtain ⟨X, hX⟩ : ∃ X, wr.heap.size = X := ⟨_, rfl⟩
      rw [hX]
      go_loopw [6] (fun i wx => ∃ k : Nat, k ≤ 32 ∧ i = .int .i64 k ∧ Below w.heap.size w wx ∧ X < wx.heap.size ∧ wx.heap[w.heap.size]? = some (.cells (vs .u8 32 fun _ => 0) 24) ∧ wx.heap[w.heap.size + 1]? = some (.cells (vs .u32 8 s) 119) ∧ wx.heap[X]? = some (.cells (vs .u8 32 fun j => if j < k then rbt s j else 0) 24)) (fun i _ => 32 - (intOf i).toNat)
      case atStart => exact ⟨0, by omega, rfl, hB.alloc (by omega) _, by simp; omega, (heap_old x0).trans r0, (heap_old x1).trans r1, (heap_new hX.symm).trans (congrArg (fun c => some (Obj.cells c 24)) (vs_congr fun j _ => by rw [if_neg (by omega)]))⟩
      case round =>
        rw [hX] at x0 x1
        clear hB r0 r1 hX
        obtain ⟨k, hk, rfl, hB, hXl, r0, r1, r2⟩ := hrel
        by_cases hlt : k < 32
        · obtain ⟨q4, eq4⟩ : ∃ q4, q4 = k / 4 := ⟨_, rfl⟩
          obtain ⟨r4, er4⟩ : ∃ r4, r4 = k % 4 := ⟨_, rfl⟩
          obtain ⟨e, ee⟩ : ∃ e, e = 24 - 8 * r4 := ⟨_, rfl⟩
          have t1 : (k : Int).tdiv 4 = (q4 : Int) := by rw [Int.tdiv_eq_ediv_of_nonneg (by omega)]; omega
          have t2 : (k : Int) / 4 = (q4 : Int) := by omega
          have t3 : (k : Int).tmod 4 = (r4 : Int) := by rw [Int.tmod_eq_emod_of_nonneg (by omega)]; omega
          have t4 : (k : Int) % 4 = (r4 : Int) := by omega
          have t5 : (24 : Int) - 8 * (r4 : Int) = (e : Int) := by omega
          have t6 : (q4 : Int) < 8 := by omega
          have t7 : (e : Int) ≤ 24 := by omega
          have t8 : (r4 : Int) < 4 := by omega
          have t9 : (k : Int) < 32 := by omega
          have cq := row_int r1 q4 (by omega)
          have ck := row_int r2 k (by omega)
          have fk := row_frozen r2 k
          obtain ⟨sb1, sb2⟩ := HSB.out q4 (by omega)
          obtain ⟨y, hy⟩ : ∃ y, s q4 = y := ⟨_, rfl⟩
          rw [hy] at cq sb1 sb2
          have HY := hid (And.intro hy (And.intro eq4 (And.intro er4 ee)))
          have R0 := hid r0
          have R1 := hid r1
          have R2 := hid r2
          have HB := hid hB
          have HXL := hid hXl
          clear hy eq4 er4 ee r0 r1 r2 hB hXl
          go_wp2
          go_roundw
          case rel =>
            obtain ⟨hy, eq4, er4, ee⟩ := HY.out
            have hxl := HXL.out
            refine ⟨k + 1, by omega, by go_num, HB.out.setCell (by simp; omega) _, (size_s _ _ _).symm ▸ hxl, (heap_set_other (by omega)).trans R0.out, (heap_set_other (by omega)).trans R1.out, ?_⟩
            refine (row_set R2.out k _).trans ?_
            rw [vs_set]
            refine congrArg (fun c => some (Obj.cells c 24)) (vs_congr fun j _ => ?_)
            by_cases hj : j = k
            · subst hj
              rw [if_pos rfl, if_pos (by omega)]
              unfold rbt
              rw [← eq4, ← er4, ← ee, hy]
            · rw [if_neg hj]
              by_cases hj2 : j < k
              · rw [if_pos hj2, if_pos (by omega)]
              · rw [if_neg hj2, if_neg (by omega)]
          case measure => simp [intOf]; omega
        · have ek : k = 32 := by omega
          subst ek
          rw [show ((32 : Nat) : Int) = 32 from rfl]
          have er : (vs .u8 32 fun j => if j < 32 then rbt s j else 0) = vs .u8 32 (rbt s) := vs_congr fun j hj => by rw [if_pos hj]
          rw [er] at r2
          have l24 := lv24_run r2
          have v24 := sv24_run r0 (rbt s)
          have R0 := hid r0
          have HB := hid hB
          clear r0 r1 r2 hB er
          go_wp2
          refine ret24 2 w.heap.size _ 24 rfl rfl rfl (setRow_at R0.out) ⟨?_, below_row HB.out (Nat.le_refl _) _⟩
          rw [← HSS.out, ← HQ.out.1]
          unfold shaV
          rw [HQ.out.2, show 64 * q / 64 = q by omega]

theorem refsum_any (K m : Nat → Int) (a : Option Addr) (len cap : Nat) (w : World) (hK : Tab w 0 64 K) (hb : Bys w a len cap m) (hr : ∀ j, j < len → 0 ≤ m j ∧ m j < 256) (hlen : len ≤ 140737488351232) :
    Calls Tryz.prog 67 #[.slice a len cap] w fun e w' => e = .returned (.agg (vs .u8 32 (shaV K HW m len))) ∧ Below w.heap.size w w' := refsum_wide K m a len cap w hK hb hr (by omega)

end Go.Proofs.YtpnpmgeokicpjaaGreatDoor

namespace Go.Proofs.YtpnpmgeokicpjaaGreatDoor

open Go.RowKit

set_option linter.unusedVariables false

set_option linter.unusedSimpArgs false

attribute [local go_sem ↓] sv24_eq lv24_eq

/-- The string of the first len bytes. -/
def strF (m : Nat → Int) (len : Nat) : ByteArray := ((List.range len).map m).foldl (fun r n => r.push (UInt8.ofNat n.toNat)) ByteArray.empty

theorem conv_bys (w : World) (a : Option Addr) (len cap : Nat) (m : Nat → Int) (h : Bys w a len cap m) :
    (convert 39 9 (.slice a len cap)).run Tryz.prog w = .ok (.string (strF m len)) w := by
  rw [run_convert_bytes_string w _ _ _ _ _ _ Tryz.underlying39 Tryz.underlying5 Tryz.underlying9]
  have hs : ∀ (x : Addr), a = some x → (∀ j, j < len → w.cell? (x.add j) = some (.int .u8 (m j))) → (Conv.bytesToString (.slice a len cap)).run Tryz.prog w = .ok (.string (strF m len)) w := by
    rintro x rfl hc
    refine run_bytesToString w x len cap ((List.range len).map m) ?_
    have hh := run_loadCells_list (P := Tryz.prog) w x (((List.range len).map m).map (Value.int .u8)) (by
      intro j v hj
      rw [List.map_map] at hj
      have hlt := (List.getElem?_eq_some_iff.1 hj).1
      rw [List.length_map, List.length_range] at hlt
      rw [hc j hlt]
      rw [List.getElem?_map, List.getElem?_range hlt] at hj
      simpa using hj)
    rw [List.length_map, List.length_map, List.length_range] at hh
    exact hh
  rcases h with ⟨rfl, rfl, rfl⟩ | ⟨x, rfl, rfl⟩ | ⟨b, off, rfl, h2, h3, h4, h5⟩
  · simp [Conv.bytesToString, strF]
  · exact hs x rfl (fun j hj => by omega)
  · exact hs _ rfl (fun j hj => by rw [addr_add]; exact h5 j hj)

end Go.Proofs.YtpnpmgeokicpjaaGreatDoor

namespace Go.Proofs.YtpnpmgeokicpjaaGreatDoor

open Go.RowKit

set_option linter.unusedVariables false

set_option linter.unusedSimpArgs false

attribute [local go_sem ↓] sv24_eq lv24_eq ix22_eq slr_eq bd27_eq bs22_eq sl22_eq mk22_eq eqo_eq

end Go.Proofs.YtpnpmgeokicpjaaGreatDoor

namespace Go.Proofs.YtpnpmgeokicpjaaGreatDoor

open Go.RowKit

set_option linter.unusedVariables false

set_option linter.unusedSimpArgs false

attribute [local go_sem ↓] sv24_eq lv24_eq ix22_eq slr_eq bd27_eq sl22_eq mk22_eq eqo_eq

end Go.Proofs.YtpnpmgeokicpjaaGreatDoor

namespace Go.Proofs.YtpnpmgeokicpjaaGreatDoor

open Go.RowKit

set_option linter.unusedVariables false

set_option linter.unusedSimpArgs false

theorem yields_neo {ops : Array Oper} {S : World → Prop} {op : Oper} {a : Act} (hw : Region.wanted op (yielded ops a.tmps) = true) (x y : Operand) (rt : TypeId) (ho : op.op = .binOp .neq 24 x y rt) (c d : Nat → Int)
    (hx : a.eval x = .agg (vs .u8 32 c)) (hy : a.eval y = .agg (vs .u8 32 d)) : YieldsIf Tryz.prog ops S op (.bool (!eqR c d)) a :=
  .inl ⟨hw, fun w _ => by
    have h : (Op.equalIn Op.maxDepth 24 (.agg (vs .u8 32 c)) (.agg (vs .u8 32 d))).run Tryz.prog w = .ok (eqR c d) w := eq32g w c d
    unfold execOp
    simp [ho, hx, hy, eqGuard, binOp, Op.equal, h]⟩

attribute [local go_sem ↓] sv24_eq lv24_eq ix22_eq slr_eq bd27_eq bs22_eq sl22_eq mk22_eq eqo_eq

set_option maxRecDepth 20000 in
set_option maxHeartbeats 1000000 in
theorem rsame_true (a b : Option Addr) (len cap cap' : Nat) (f g : Nat → Int) (w : World) (h1 : Rts w a len cap f) (h2 : Rts w b len cap' g) (hfg : ∀ q, q < 32 * len → f q = g q) (hl : len ≤ 140737488355328) :
    Calls Tryz.prog 22 #[.slice a len cap, .slice b len cap'] w fun e w' => e = .returned (.bool true) ∧ Below w.heap.size w w' := by
  have H1 := hid h1
  have H2 := hid h2
  have HFG := hid hfg
  clear h1 h2 hfg
  go_enter Tryz.func22, Tryz.ntmps22
  go_wp2
  go_loopw [5] (fun i wr => ∃ k : Nat, k ≤ len ∧ i = .int .i64 k ∧ Below w.heap.size w wr) (fun i _ => len - (intOf i).toNat)
  case atStart => exact ⟨0, by omega, rfl, Below.refl _ _⟩
  case round =>
    obtain ⟨k, hk, rfl, hB⟩ := hrel
    by_cases hlt : k < len
    · have b3 : decide (k < len) = true := by simp; omega
      obtain ⟨b1, o1, hb1, hx1, hc1⟩ := H1.out.at k hlt
      obtain ⟨b2, o2, hb2, hx2, hc2⟩ := H2.out.at k hlt
      have hla : ∀ W, Below w.heap.size w W → (lv24 ⟨b1, o1, none⟩).run Tryz.prog W = .ok (.agg (vs .u8 32 (rt32 f k))) W := fun W h => lv24_mid (fun j hj => (below_cell h hb1).trans (hc1 j hj))
      have hlb : ∀ W, Below w.heap.size w W → (lv24 ⟨b2, o2, none⟩).run Tryz.prog W = .ok (.agg (vs .u8 32 (rt32 g k))) W := fun W h => lv24_mid (fun j hj => (below_cell h hb2).trans (hc2 j hj))
      have heq : eqR (rt32 f k) (rt32 g k) = true := by
        have e := eqR_congr (c := rt32 f k) (c' := rt32 g k) (d := rt32 g k) (d' := rt32 g k) (fun j hj => HFG.out _ (by omega)) (fun _ _ => rfl)
        rw [e]
        exact eqR_self _
      have HLA := hid hla
      have HLB := hid hlb
      have HEQ := hid heq
      have HDR := hid hB.drew
      clear hla hlb heq hc1 hc2 hB
      go_upto_region 6 with fail
      refine wp_region_noPanic ?_
      refine wp_region_held_drew (S := fun W => Below w.heap.size w W) (by kernel_rfl) (HDR.out) (fun hHeld => ?_)
      refine tk 0 (v := ?v1) ?y1 hHeld ?r1
      case y1 => intro w hSw; go_simp; try with_reducible rfl
      refine tk 1 (v := ?v2) ?y2 hHeld ?r2
      case y2 => intro w hSw; go_simp; try with_reducible rfl
      refine tk 2 (v := ?v3) ?y3 hHeld ?r3
      case y3 => intro w hSw; go_simp; try with_reducible rfl
      refine tk 3 (v := ?v4) ?y4 hHeld ?r4
      case y4 => intro w hSw; have ld := HLA.out _ hSw; go_simp; try with_reducible rfl
      refine tk 4 (v := ?v5) ?y5 hHeld ?r5
      case y5 => intro w hSw; go_simp; try with_reducible rfl
      refine tk 5 (v := ?v6) ?y6 hHeld ?r6
      case y6 => intro w hSw; go_simp; try with_reducible rfl
      refine tk 6 (v := ?v7) ?y7 hHeld ?r7
      case y7 => intro w hSw; go_simp; try with_reducible rfl
      refine tk 7 (v := ?v8) ?y8 hHeld ?r8
      case y8 => intro w hSw; have ld := HLB.out _ hSw; go_simp; try with_reducible rfl
      try simp only [Act.put, List.setIfInBounds_toArray, List.set_cons_zero, List.set_cons_succ, Array.toArray_toList, List.getElem_toArray, List.getElem_cons_zero, List.getElem_cons_succ]
      refine wpAnyH_take (i := 8) rfl (by kernel_rfl) (by kernel_rfl) (by kernel_rfl) (fun _ _ _ h => h) (yields_neo (by rfl) _ _ _ rfl (rt32 f k) (rt32 g k) rfl rfl) hHeld ?_
      rw [HEQ.out, Bool.not_true]
      try simp only [Act.put, List.setIfInBounds_toArray, List.set_cons_zero, List.set_cons_succ, Array.toArray_toList, List.getElem_toArray, List.getElem_cons_zero, List.getElem_cons_succ]
      refine wpAnyH_done (by kernel_rfl) ?_ _
      refine NoPanic.normal ?_
      go_wp2
      go_roundw
      case rel => exact ⟨k + 1, by omega, by go_num, HDR.out⟩
      case measure => simp [intOf]; omega
    · have ek : k = len := by omega
      subst ek
      have b3 : decide (k < k) = false := by simp
      go_wp2
      go_ret
      exact ⟨rfl, hB⟩

end Go.Proofs.YtpnpmgeokicpjaaGreatDoor

namespace Go.Proofs.YtpnpmgeokicpjaaGreatDoor

open Go.RowKit

set_option linter.unusedVariables false

set_option linter.unusedSimpArgs false

attribute [local go_sem ↓] sv24_eq lv24_eq ix22_eq slr_eq bd27_eq bs22_eq sl22_eq mk22_eq eqo_eq

end Go.Proofs.YtpnpmgeokicpjaaGreatDoor

namespace Go.Proofs.YtpnpmgeokicpjaaGreatDoor

open Go.RowKit

set_option linter.unusedVariables false

set_option linter.unusedSimpArgs false

end Go.Proofs.YtpnpmgeokicpjaaGreatDoor

namespace Go.Proofs.YtpnpmgeokicpjaaGreatDoor

open Go.RowKit

set_option linter.unusedVariables false

set_option linter.unusedSimpArgs false

attribute [local go_sem ↓] sv24_eq lv24_eq ix22_eq slr_eq bd27_eq bs22_eq sl22_eq mk22_eq eqo_eq

theorem Rts.cut {w : World} {a : Option Addr} {len cap n : Nat} {f : Nat → Int} (h : Rts w a len cap f) (hn : n ≤ len) : Rts w a n cap f := by
  rcases h with ⟨h1, h2, h3⟩ | ⟨x, h1, h2⟩ | ⟨b, off, h1, h2, h3, h4⟩
  · exact .inl ⟨h1, by omega, h3⟩
  · exact .inr (.inl ⟨x, h1, by omega⟩)
  · exact .inr (.inr ⟨b, off, h1, by omega, h3, fun j hj => h4 j (by omega)⟩)

end Go.Proofs.YtpnpmgeokicpjaaGreatDoor

namespace Go.Proofs.YtpnpmgeokicpjaaGreatDoor

open Go.RowKit

set_option linter.unusedVariables false

set_option linter.unusedSimpArgs false

theorem ownsRow_below {w w' : World} {B : Nat} {v : Value} {n s : Nat} {xs : List Value} {e : TypeId} (h : w.ownsRow B e s v n xs) (hb : Below w.heap.size w w') : w'.ownsRow B e s v n xs :=
  h.kept (row := none) ⟨hb.os, hb.tape, hb.output, hb.size, fun k hk _ => hb.block k hk⟩ (by cases v.ownBlock <;> simp)

attribute [local go_sem ↓] sv24_eq lv24_eq ix22_eq slr_eq bd27_eq bs22_eq sl22_eq mk22_eq eqo_eq

end Go.Proofs.YtpnpmgeokicpjaaGreatDoor

namespace Go.Proofs.YtpnpmgeokicpjaaGreatDoor

open Go.RowKit

set_option linter.unusedVariables false

set_option linter.unusedSimpArgs false

attribute [local go_sem ↓] sv24_eq lv24_eq ix22_eq slr_eq bd27_eq bs22_eq sl22_eq mk22_eq eqo_eq

set_option maxHeartbeats 1000000 in
theorem rbytes_any (n : Int) (w : World) (h0 : 0 ≤ n) (h1 : n ≤ 18446744073709551615) :
    Calls Tryz.prog 65 #[.int .u64 n] w fun e w' => e = .returned (.agg (vs .u8 8 (nmB n))) ∧ Below w.heap.size w w' := by
  have e0 : vs .u8 8 (nmB n) = #[.int .u8 (n % 256), .int .u8 (n / 256 % 256), .int .u8 (n / 65536 % 256), .int .u8 (n / 16777216 % 256), .int .u8 (n / 4294967296 % 256), .int .u8 (n / 1099511627776 % 256), .int .u8 (n / 281474976710656 % 256), .int .u8 (n / 72057594037927936)] := by
    have e7 : n / 72057594037927936 = n / 72057594037927936 % 256 := by omega
    have e1 : n % 256 = n / 1 % 256 := by omega
    rw [e7, e1]
    rfl
  rw [e0]
  clear e0
  go_enter Tryz.func65, Tryz.ntmps65
  go_wp2
  go_rounds 9
  go_returns
  exact ⟨rfl, by go_grown⟩

/-- Eight bytes stored, whole. -/
def sv53 (a : Addr) (v : Value) : Sem Unit := storeVar 104 a v

theorem sv53_eq (a : Addr) (v : Value) : storeVar 104 a v = sv53 a v := rfl

attribute [local go_sem ↓] sv53_eq

end Go.Proofs.YtpnpmgeokicpjaaGreatDoor

namespace Go.Proofs.YtpnpmgeokicpjaaGreatDoor

open Go.RowKit

set_option linter.unusedVariables false

set_option linter.unusedSimpArgs false

attribute [local go_sem ↓] sv24_eq lv24_eq ix22_eq slr_eq bd27_eq bs22_eq mk22_eq eqo_eq

end Go.Proofs.YtpnpmgeokicpjaaGreatDoor
