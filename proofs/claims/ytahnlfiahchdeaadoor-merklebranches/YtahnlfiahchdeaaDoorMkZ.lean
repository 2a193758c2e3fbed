/-
  What MerkleTrees answers, at every input.
-/
import Derived.Test.YtahnlfiahchdeaaDoorMkY
namespace Go.Proofs.YtahnlfiahchdeaaDoor
open Go.RowKit
set_option linter.unusedVariables false
set_option linter.unusedSimpArgs false

theorem awake_ans {w : World} (hS : Sh w) : Ans w 9 #[] (.bool true) := fun W h => awake_any W (hS.below h)

theorem trees_any (a ab : Option Addr) (len cap lenb capb : Nat) (f mb : Nat → Int) (n dd nn : Int) (w : World) (hS : Sh w) (hC : Rc w) (hr : Rts w a len cap f) (hf : ByB f (32 * len)) (hlc : len ≤ cap) (hl : 32 * len ≤ 140737488355328)
    (hb : Bys w ab lenb capb mb) (hlb : lenb + 64 ≤ 140737488355328) (hn0 : -9223372036854775808 ≤ n) (hn1 : n ≤ 9223372036854775807) (hd0 : -9223372036854775808 ≤ dd) (hd1 : dd ≤ 9223372036854775807) (h0 : 0 ≤ nn) (h1 : nn ≤ 18446744073709551615) :
    Calls Tryd.prog 3 #[.slice a len cap, .int .i64 n, .int .i64 dd, .slice ab lenb capb, .int .u64 nn] w fun e w' => e = .returned (.bool true) ∧ Below w.heap.size w w' := by
  have hT : ∀ W a' cap', Below w.heap.size w W → Rts W a' len cap' f → Calls Tryd.prog 10 #[.slice a' len cap', .int .i64 n] W fun e w' => e = .returned (.tuple #[.agg (vs .u8 32 (treeV f len n)), .int .i64 (treeE len n)]) ∧ Below W.heap.size W w' := fun W a' cap' h hr => tree_any a' len cap' f n W hr hl hf (hS.below h) hn0 hn1
  have hRT : Ans w 11 #[.slice a len cap, .int .i64 n] (.tuple #[.agg (vs .u8 32 (treeV f len n)), .int .i64 (treeE len n)]) := fun W h => rtreeT_any a len cap f n W (hC.below h) (hr.below h) hlc hf hn0 hn1 (by omega)
  have hSm : ∀ W a' cap', Below w.heap.size w W → Rts W a' len cap' f → Calls Tryd.prog 12 #[.slice a' len cap', .slice a len cap] W fun e w' => e = .returned (.bool true) ∧ Below W.heap.size W w' := fun W a' cap' h hr' => rsame_true a' a len cap' cap f f W hr' (hr.below h) (fun _ _ => rfl) (by omega)
  have hZ : Ans w 13 #[.int .i64 dd] (.tuple #[.agg (vs .u8 32 (zeroV dd)), .int .i64 (zeroE dd)]) := fun W h => zero_any dd W (hS.below h) hd0 hd1
  have hap : ∀ W ty, Below w.heap.size w W → ∃ a' cap' w', (apB ty (.slice (some ⟨W.heap.size, 0, none⟩) 0 0) (.slice ab lenb capb)).run Tryd.prog (W.alloc (.cells #[] 5)) = .ok (.slice a' lenb cap') w' ∧ Below W.heap.size W w' ∧ Bys w' a' lenb cap' mb := fun W ty h => apB_copy W w ab lenb capb mb hb (by omega) h ty
  have hPk : ∀ W a' cap', Below w.heap.size w W → Bys W a' lenb cap' mb → Calls Tryd.prog 15 #[.slice a' lenb cap'] W fun e w' => ∃ a2 cap2, e = .returned (.slice a2 ((lenb + 31) / 32) cap2) ∧ Below W.heap.size W w' ∧ Rts w' a2 ((lenb + 31) / 32) cap2 (pk mb lenb) := fun W a' cap' h hb' => (pack_any a' lenb cap' mb W hb' (by omega)).mono (fun e w' h2 => ⟨_, _, h2.1, h2.2.1, rts_row h2.2.2.2⟩)
  have hRPk : ∀ W, Below w.heap.size w W → Calls Tryd.prog 16 #[.slice ab lenb capb] W fun e w' => ∃ a2 cap2, e = .returned (.slice a2 ((lenb + 31) / 32) cap2) ∧ Below W.heap.size W w' ∧ Rts w' a2 ((lenb + 31) / 32) cap2 (pk mb lenb) := fun W h => rpack_any ab lenb capb mb W (hb.below h) hlb
  have hSm2 : ∀ W a1 c1 a2 c2, Rts W a1 ((lenb + 31) / 32) c1 (pk mb lenb) → Rts W a2 ((lenb + 31) / 32) c2 (pk mb lenb) → Calls Tryd.prog 12 #[.slice a1 ((lenb + 31) / 32) c1, .slice a2 ((lenb + 31) / 32) c2] W fun e w' => e = .returned (.bool true) ∧ Below W.heap.size W w' := fun W a1 c1 a2 c2 h1 h2 => rsame_true a1 a2 _ c1 c2 _ _ W h1 h2 (fun _ _ => rfl) (by omega)
  have hMx : Ans w 17 #[.agg (vs .u8 32 (treeV f len n)), .int .u64 nn] (.agg (vs .u8 32 (tw (treeV f len n) (nmC nn)))) := fun W h => mix_any _ nn W (hS.below h) (fun j hj => treeV_bd hf n j hj) h0 h1
  have hRMx : Ans w 18 #[.agg (vs .u8 32 (treeV f len n)), .int .u64 nn] (.agg (vs .u8 32 (tw (treeV f len n) (nmC nn)))) := fun W h => rmix_any _ nn W (hC.below h) (fun j hj => treeV_bd hf n j hj) h0 h1
  by_cases hd : 0 ≤ dd ∧ dd ≤ 40
  · have hRZ : Ans w 14 #[.int .i64 dd] (.agg (vs .u8 32 (zeroV dd))) := fun W h => by
      obtain ⟨d, rfl⟩ : ∃ d : Nat, dd = (d : Int) := ⟨dd.toNat, by omega⟩
      have hz := rzero_any d (by omega) W (hC.below h)
      unfold zeroV
      rw [if_pos hd, Int.toNat_natCast]
      exact hz
    exact trees_coreIn a ab len cap lenb capb _ f mb _ _ _ _ n dd nn _ _ w hl hd.1 hd.2 (by unfold zeroE; rw [if_pos hd]) hRZ (awake_ans hS) hr hT hRT hSm hZ hap hPk hRPk hSm2 hMx hRMx
  · have e1 : zeroE dd = 1 := by unfold zeroE; rw [if_neg hd]
    have e2 : zeroV dd = fun _ => 0 := by unfold zeroV; rw [if_neg hd]
    by_cases hneg : dd < 0
    · exact trees_coreLow a ab len cap lenb capb _ f mb _ _ _ _ n dd nn _ _ w hl hneg e1 e2 (awake_ans hS) hr hT hRT hSm hZ hap hPk hRPk hSm2 hMx hRMx
    · exact trees_coreBig a ab len cap lenb capb _ f mb _ _ _ _ n dd nn _ _ w hl (by omega) e1 e2 (awake_ans hS) hr hT hRT hSm hZ hap hPk hRPk hSm2 hMx hRMx

end Go.Proofs.YtahnlfiahchdeaaDoor
