/-
  What the reference's Pack answers.
-/
import Derived.Test.YtahnlfiahchdeaaDoorMkW
namespace Go.Proofs.YtahnlfiahchdeaaDoor
open Go.RowKit
set_option linter.unusedVariables false
set_option linter.unusedSimpArgs false

attribute [local go_sem ↓] sv24_eq lv24_eq ix22_eq slr_eq lv48_eq sv48_eq bd48_eq bd27_eq bs22_eq mk22_eq eqo_eq

set_option maxRecDepth 20000 in
set_option maxHeartbeats 2000000 in
theorem rpack_any (a : Option Addr) (len cap : Nat) (m : Nat → Int) (w : World) (hb : Bys w a len cap m) (hl : len + 64 ≤ 140737488355328) :
    Calls Tryd.prog 16 #[.slice a len cap] w fun e w' => ∃ a' cap', e = .returned (.slice a' ((len + 31) / 32) cap') ∧ Below w.heap.size w w' ∧ Rts w' a' ((len + 31) / 32) cap' (pk m len) := by
  have HBY := hid hb
  clear hb
  have z := zero_root
  go_enter Tryd.func16, Tryd.ntmps16
  go_wp2
  go_loopw [3, 4] (fun v i wr => ∃ k : Nat, i = .int .i64 (32 * k : Nat) ∧ 32 * k ≤ len + 31 ∧ Below w.heap.size w wr ∧ wr.ownsRow w.heap.size 27 32 v k (bl (pk m len) (32 * k))) (fun _ i _ => len + 32 - (intOf i).toNat)
  case atStart => exact ⟨0, rfl, by omega, Below.refl _ _, World.ownsRow_nil _ _ _ _⟩
  case round =>
    obtain ⟨k, rfl, hk, hB, ho⟩ := hrel
    obtain ⟨P, hP⟩ : ∃ P, 32 * k = P := ⟨_, rfl⟩
    rw [hP] at hk ⊢
    by_cases hlt : P < len
    · have b1 : decide (P < len) = true := by simp; omega
      have b2 : decide ((P : Int) < (len : Int)) = true := by simp; omega
      rcases HBY.out with ⟨_, h, _⟩ | ⟨_, _, h⟩ | ⟨b, off, rfl, hlc, hcm, hbl, hc⟩
      · omega
      · omega
      have HP := hid hP
      have HCL := hid hc
      have HB := hid hB
      have HO := hid ho
      clear hP hB ho hc
      rename World => wo
      go_wp2
      go_loopw [6] (fun j W1 => ∃ q : Nat, q ≤ 32 ∧ P + q ≤ len ∧ j = .int .i64 q ∧ Below wo.heap.size wo W1 ∧ W1.heap.size = wo.heap.size + 1 ∧ W1.heap[wo.heap.size]? = some (.cells (vs .u8 32 fun x => if x < q then m (P + x) else 0) 27)) (fun j _ => 32 - (intOf j).toNat)
      case atStart =>
        refine ⟨0, by omega, by omega, rfl, (Below.refl _ _).alloc (Nat.le_refl _) _, by simp, ?_⟩
        exact (heap_new rfl).trans (congrArg (fun c => some (Obj.cells c 27)) (vs_congr fun x _ => by rw [if_neg (by omega)]))
      case round =>
        obtain ⟨q, hq, hqp, rfl, hBi, hzi, rc⟩ := hrel
        obtain ⟨X, hX⟩ : ∃ X, P + q = X := ⟨_, rfl⟩
        have pq : (P : Int) + (q : Int) = (X : Int) := by omega
        by_cases h32 : q < 32
        · have c1 : decide (q < 32) = true := by simp; omega
          have c2 : decide ((q : Int) < 32) = true := by simp; omega
          by_cases hx : X < len
          · have c3 : decide (X < len) = true := by simp; omega
            have c4 : decide ((X : Int) < (len : Int)) = true := by simp; omega
            have hbs := HB.out.size
            have cl : wr.cell? ⟨b, off + X, none⟩ = some (.int .u8 (m X)) := (below_cell hBi (by show b < wo.heap.size; omega)).trans ((below_cell HB.out hbl).trans (HCL.out X hx))
            have cs := row_int rc q (by omega)
            have fs := row_frozen rc q
            have hXb : X ≤ 140737488355328 := by omega
            have HX := hid hX
            have RC := hid rc
            have HBI := hid hBi
            have HZI := hid hzi
            clear rc hBi hzi hX
            go_wp2
            go_roundw
            case rel =>
              refine ⟨q + 1, by omega, by have := HX.out; omega, by go_num, HBI.out.setCell (Nat.le_refl _) _, (size_s _ _ _).trans HZI.out, ?_⟩
              refine (row_set RC.out q _).trans ?_
              rw [vs_set]
              refine congrArg (fun c => some (Obj.cells c 27)) (vs_congr fun x _ => ?_)
              by_cases hq2 : x = q
              · subst hq2
                rw [if_pos rfl, if_pos (by omega), HX.out]
              · rw [if_neg hq2]
                by_cases h2 : x < q
                · rw [if_pos h2, if_pos (by omega)]
                · rw [if_neg h2, if_neg (by omega)]
            case measure => simp [intOf]; omega
          · have c3 : decide (X < len) = false := by simp; omega
            have c4 : decide ((X : Int) < (len : Int)) = false := by simp; omega
            have er : vs .u8 32 (fun x => if x < q then m (P + x) else 0) = vs .u8 32 (fun x => pk m len (P + x)) := vs_congr fun x hx => by
              unfold pk
              by_cases h : x < q
              · rw [if_pos h, if_pos (by omega)]
              · rw [if_neg h, if_neg (by omega)]
            rw [er] at rc
            have lc := lv24_run rc
            have bs := bs22_1 wr (fun x => pk m len (P + x))
            have hB2 : Below w.heap.size w wr := HB.out.trans (hBi.mono HB.out.size)
            have ho2 := ownsRow_below HO.out hBi
            have HB2 := hid hB2
            have HO2 := hid ho2
            have s2 := HB.out.size
            have s3 := hBi.size
            clear rc er hBi hB2 ho2 hzi
            go_wp2_with (at_builtin; go_loud (refine wpList_append_rts _ rfl _ _ rfl w.heap.size u3 k (pk m len) rfl (HO2.out.alloc _) _ 1 1 (fun x => pk m len (P + x)) rfl (rts_row (heap_new rfl)) (by have := HP.out; omega) (by simp; omega) (pk m len) (fun _ _ => rfl) (fun x _ => by rw [HP.out]) ?_); intro v3 w3 ho3 hg3)
            go_roundw
            case rel =>
              refine ⟨k + 1, ?_, by have := HP.out; omega, below_grownS (HB2.out.alloc (by omega) _) (HO2.out.alloc _) (by simp; omega) hg3, ho3⟩
              have := HP.out
              show Value.int .i64 _ = Value.int .i64 _
              congr 1
              go_num
              try omega
            case measure => simp [intOf]; omega
        · have c1 : decide (q < 32) = false := by simp; omega
          have c2 : decide ((q : Int) < 32) = false := by simp; omega
          have er : vs .u8 32 (fun x => if x < q then m (P + x) else 0) = vs .u8 32 (fun x => pk m len (P + x)) := vs_congr fun x hx => by
            unfold pk
            by_cases h : x < q
            · rw [if_pos h, if_pos (by omega)]
            · rw [if_neg h, if_neg (by omega)]
          rw [er] at rc
          have lc := lv24_run rc
          have bs := bs22_1 wr (fun x => pk m len (P + x))
          have hB2 : Below w.heap.size w wr := HB.out.trans (hBi.mono HB.out.size)
          have ho2 := ownsRow_below HO.out hBi
          have HB2 := hid hB2
          have HO2 := hid ho2
          have s2 := HB.out.size
          have s3 := hBi.size
          clear rc er hBi hB2 ho2 hzi
          go_wp2_with (at_builtin; go_loud (refine wpList_append_rts _ rfl _ _ rfl w.heap.size u3 k (pk m len) rfl (HO2.out.alloc _) _ 1 1 (fun x => pk m len (P + x)) rfl (rts_row (heap_new rfl)) (by have := HP.out; omega) (by simp; omega) (pk m len) (fun _ _ => rfl) (fun x _ => by rw [HP.out]) ?_); intro v3 w3 ho3 hg3)
          go_roundw
          case rel =>
            refine ⟨k + 1, ?_, by have := HP.out; omega, below_grownS (HB2.out.alloc (by omega) _) (HO2.out.alloc _) (by simp; omega) hg3, ho3⟩
            have := HP.out
            show Value.int .i64 _ = Value.int .i64 _
            congr 1
            go_num
            try omega
          case measure => simp [intOf]; omega
    · have b1 : decide (P < len) = false := by simp; omega
      have b2 : decide ((P : Int) < (len : Int)) = false := by simp; omega
      obtain ⟨a', cap', rfl, hrow⟩ := RowR.ofOwns ho
      have hrt := hrow.rts
      have ek : k = (len + 31) / 32 := by omega
      have HR := hid hrt
      have HB := hid hB
      have EK := hid ek
      clear hB ho hrow hrt ek hP
      go_wp2
      go_ret
      have ek := EK.out
      rw [← ek]
      exact ⟨a', cap', rfl, HB.out, HR.out⟩

end Go.Proofs.YtahnlfiahchdeaaDoor
