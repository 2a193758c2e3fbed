/- A part. -/
import Derived.Test.YtopnhpllidegnaaGreatDoorQP
import Derived.SizedLaws
namespace Go.Proofs.YtopnhpllidegnaaGreatDoor
open Go.RowKit
set_option linter.unusedVariables false
set_option linter.unusedSimpArgs false
set_option maxRecDepth 20000
theorem each_all {H : Type} {P : Program} {f : Nat → Bool} : ∀ {ts : List TypeId} {ds : List (DataW H)}, (DataW.weightsEach P ts ds).all f = true → ∀ {j : Nat} {t : TypeId} {d : DataW H}, ts[j]? = some t → ds[j]? = some d → (d.weights P t).all f = true
 | [], _, _, _, _, _, ht, _ => by simp at ht
 | _ :: _, [], _, _, _, _, _, hd => by simp at hd
 | t0 :: ts, d0 :: ds, h, 0, t, d, ht, hd => by
  unfold DataW.weightsEach at h
  rw [List.all_append, Bool.and_eq_true] at h
  simp at ht hd
  subst ht hd
  exact h.1
 | t0 :: ts, d0 :: ds, h, j + 1, t, d, ht, hd => by
  unfold DataW.weightsEach at h
  rw [List.all_append, Bool.and_eq_true] at h
  exact each_all h.2 (by simpa using ht) (by simpa using hd)
theorem sl_reach {H : Type} {enc : TypeId × Value → H} {P : Program} {w : World} {b0 fuel : Nat} {sp : Nat → Bool} {held : Bool} {t e : TypeId} {a : Option Addr} {n c B : Nat} {y : DataW H × List MemPlace}
    (hu : P.underlying t = some (.slice e)) (hB : P.bytesOf e = B) (h : DataW.trod enc P w b0 sp held fuel t [.slice a n c] = some y) (hw : (y.1.weights P t).all (· ≤ reachBytes) = true) : n * B ≤ 140737488351232 := by
 rcases DataW.trod_slice hu h with ⟨hcs, hx⟩ | ⟨x, l, cp, el, rest, m, _, hcs, hx, _, _, _, hel, _⟩
 ·cases hcs
  simp
 ·cases hcs
  subst hx
  unfold DataW.weights at hw
  simp only [hu, List.all_cons, Bool.and_eq_true, decide_eq_true_eq, List.length_map, hB] at hw
  have h1 : ((el.length + rest.length) * B) ≤ 140737488351232 := hw.1
  exact Nat.le_trans (Nat.mul_le_mul_right B (by omega)) h1
def Rch (x : VState) : Prop := x.f7.n * 32 ≤ 140737488351232 ∧ x.f9.n * 72 ≤ 140737488351232 ∧ x.f11.n * 128 ≤ 140737488351232 ∧ x.f12.n * 8 ≤ 140737488351232 ∧ x.f15.n ≤ 140737488351232 ∧ x.f16.n ≤ 140737488351232 ∧ x.f21.n * 8 ≤ 140737488351232
set_option maxRecDepth 100000 in
set_option maxHeartbeats 2000000 in
theorem state_reach {H : Type} {enc : TypeId × Value → H} {w : World} {b0 : Nat} {held : Bool} {x : VState} {d : DataW H} {p : List MemPlace} (h : DataW.Trod enc Tryz.prog w b0 (fun _ => true) held 49 (.agg (cel (sState x))) d p) (hs : (d.weights Tryz.prog 49).all (· ≤ reachBytes) = true) : Rch x := by
 obtain ⟨fuel, hf⟩ := h
 obtain ⟨xs, n, _, hd, _, hxl, hat⟩ := DataW.trod_struct Tryz.underlying49 hf
 have hd1 : d = .agg (xs.map (·.1)) := congrArg Prod.fst hd
 have hx : xs.length = 24 := hxl
 rw [hd1] at hs
 unfold DataW.weights at hs
 rw [Tryz.underlying49] at hs
 have h7 := hat 7 _ rfl
 rw [List.getElem?_eq_getElem (by omega)] at h7
 replace h7 : DataW.trod enc Tryz.prog w b0 (fun _ => true) held n 32 (((cel (sState x)).toList.drop 653).take (Tryz.prog.cellsOf 32)) = some xs[7] := h7
 rw [show Tryz.prog.cellsOf 32 = 1 by kernel_rfl, show ((cel (sState x)).toList.drop 653).take 1 = [.slice x.f7.a x.f7.n x.f7.c] by kernel_rfl] at h7
 have q7 := sl_reach (B := 32) Tryz.underlying32 (by kernel_rfl) h7 (each_all hs (j := 7) (t := 32) (d := xs[7].1) (by kernel_rfl) (by rw [List.getElem?_map, List.getElem?_eq_getElem (by omega)]; rfl))
 have h9 := hat 9 _ rfl
 rw [List.getElem?_eq_getElem (by omega)] at h9
 replace h9 : DataW.trod enc Tryz.prog w b0 (fun _ => true) held n 35 (((cel (sState x)).toList.drop 719).take (Tryz.prog.cellsOf 35)) = some xs[9] := h9
 rw [show Tryz.prog.cellsOf 35 = 1 by kernel_rfl, show ((cel (sState x)).toList.drop 719).take 1 = [.slice x.f9.a x.f9.n x.f9.c] by kernel_rfl] at h9
 have q9 := sl_reach (B := 72) Tryz.underlying35 (by kernel_rfl) h9 (each_all hs (j := 9) (t := 35) (d := xs[9].1) (by kernel_rfl) (by rw [List.getElem?_map, List.getElem?_eq_getElem (by omega)]; rfl))
 have h11 := hat 11 _ rfl
 rw [List.getElem?_eq_getElem (by omega)] at h11
 replace h11 : DataW.trod enc Tryz.prog w b0 (fun _ => true) held n 36 (((cel (sState x)).toList.drop 721).take (Tryz.prog.cellsOf 36)) = some xs[11] := h11
 rw [show Tryz.prog.cellsOf 36 = 1 by kernel_rfl, show ((cel (sState x)).toList.drop 721).take 1 = [.slice x.f11.a x.f11.n x.f11.c] by kernel_rfl] at h11
 have q11 := sl_reach (B := 128) Tryz.underlying36 (by kernel_rfl) h11 (each_all hs (j := 11) (t := 36) (d := xs[11].1) (by kernel_rfl) (by rw [List.getElem?_map, List.getElem?_eq_getElem (by omega)]; rfl))
 have h12 := hat 12 _ rfl
 rw [List.getElem?_eq_getElem (by omega)] at h12
 replace h12 : DataW.trod enc Tryz.prog w b0 (fun _ => true) held n 37 (((cel (sState x)).toList.drop 722).take (Tryz.prog.cellsOf 37)) = some xs[12] := h12
 rw [show Tryz.prog.cellsOf 37 = 1 by kernel_rfl, show ((cel (sState x)).toList.drop 722).take 1 = [.slice x.f12.a x.f12.n x.f12.c] by kernel_rfl] at h12
 have q12 := sl_reach (B := 8) Tryz.underlying37 (by kernel_rfl) h12 (each_all hs (j := 12) (t := 37) (d := xs[12].1) (by kernel_rfl) (by rw [List.getElem?_map, List.getElem?_eq_getElem (by omega)]; rfl))
 have h15 := hat 15 _ rfl
 rw [List.getElem?_eq_getElem (by omega)] at h15
 replace h15 : DataW.trod enc Tryz.prog w b0 (fun _ => true) held n 39 (((cel (sState x)).toList.drop 987).take (Tryz.prog.cellsOf 39)) = some xs[15] := h15
 rw [show Tryz.prog.cellsOf 39 = 1 by kernel_rfl, show ((cel (sState x)).toList.drop 987).take 1 = [.slice x.f15.a x.f15.n x.f15.c] by kernel_rfl] at h15
 have q15 := sl_reach (B := 1) Tryz.underlying39 (by kernel_rfl) h15 (each_all hs (j := 15) (t := 39) (d := xs[15].1) (by kernel_rfl) (by rw [List.getElem?_map, List.getElem?_eq_getElem (by omega)]; rfl))
 have h16 := hat 16 _ rfl
 rw [List.getElem?_eq_getElem (by omega)] at h16
 replace h16 : DataW.trod enc Tryz.prog w b0 (fun _ => true) held n 39 (((cel (sState x)).toList.drop 988).take (Tryz.prog.cellsOf 39)) = some xs[16] := h16
 rw [show Tryz.prog.cellsOf 39 = 1 by kernel_rfl, show ((cel (sState x)).toList.drop 988).take 1 = [.slice x.f16.a x.f16.n x.f16.c] by kernel_rfl] at h16
 have q16 := sl_reach (B := 1) Tryz.underlying39 (by kernel_rfl) h16 (each_all hs (j := 16) (t := 39) (d := xs[16].1) (by kernel_rfl) (by rw [List.getElem?_map, List.getElem?_eq_getElem (by omega)]; rfl))
 have h21 := hat 21 _ rfl
 rw [List.getElem?_eq_getElem (by omega)] at h21
 replace h21 : DataW.trod enc Tryz.prog w b0 (fun _ => true) held n 37 (((cel (sState x)).toList.drop 1092).take (Tryz.prog.cellsOf 37)) = some xs[21] := h21
 rw [show Tryz.prog.cellsOf 37 = 1 by kernel_rfl, show ((cel (sState x)).toList.drop 1092).take 1 = [.slice x.f21.a x.f21.n x.f21.c] by kernel_rfl] at h21
 have q21 := sl_reach (B := 8) Tryz.underlying37 (by kernel_rfl) h21 (each_all hs (j := 21) (t := 37) (d := xs[21].1) (by kernel_rfl) (by rw [List.getElem?_map, List.getElem?_eq_getElem (by omega)]; rfl))
 exact ⟨q7, q9, q11, q12, by omega, by omega, q21⟩
end Go.Proofs.YtopnhpllidegnaaGreatDoor
