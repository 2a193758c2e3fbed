/-
  What SignDomains and SignRoots answer, by what the program's functions answer.
-/

import Derived.Test.YtmpagacbmoeipaaDoorSgD
import Derived.Test.YtmpagacbmoeipaaDoorLkG
import Derived.Test.YtmpagacbmoeipaaDoorStP
import Derived.Test.YtmpagacbmoeipaaDoorTyDepositData
namespace Go.Proofs.YtmpagacbmoeipaaDoor

open Go.RowKit

set_option linter.unusedVariables false

set_option linter.unusedSimpArgs false

set_option maxRecDepth 20000

attribute [local go_sem ↓] lvState_eq svState_eq bdState_eq sv24_eq lv24_eq

set_option maxHeartbeats 4000000 in
theorem signDomains_law (pE : PDep) (pR : PRoo) (pG : PGoo) (pD : PDom) (x : VState) (k e : Int) (w : World) (hx : OkState x) (hw : InW w x) (k0 : -9223372036854775808 ≤ k) (k1 : k ≤ 9223372036854775807) (e0 : 0 ≤ e) (e1 : e < 18446744073709551616) (hS : Sh w) (hC : Tab w 2 64 KW) :
    Calls Tryd.prog 3 #[.agg (cel (sState x)), .int .i64 k, .int .u64 e] w fun e' w' => e' = .returned (.bool true) ∧ Below w.heap.size w w' := by
  obtain ⟨W0, hW0⟩ : ∃ W, w.alloc (.cells (cel (sState x)) 49) = W := ⟨_, rfl⟩
  have r0 : W0.heap[w.heap.size]? = some (.cells (cel (sState x)) 49) := by rw [← hW0]; exact heap_new rfl
  have hB0 : Below w.heap.size w W0 := by rw [← hW0]; exact (Below.refl _ _).alloc (Nat.le_refl _) _
  have z0 : w.heap.size < W0.heap.size := some_ltK r0
  have hld : ∀ W : World, Below W0.heap.size W0 W → (lvState ⟨w.heap.size, 0, none⟩).run Tryd.prog W = .ok (.agg (cel (sState x))) W := fun W h => lvState_run ((h.block _ z0).trans r0)
  have hw0 := hw.below hB0
  have hS0 := hS.below hB0
  have hC0 := hC.below hB0
  have haw := awake16 pE pR pG W0 hS0
  have hri : ∀ W : World, Below W0.heap.size W0 W → Calls Tryd.prog 8 #[.agg (cel (sState x))] W fun e w' => e = .returned (.bool (rightB x)) ∧ Below W.heap.size W w' := fun W h => rright_any x W hx.r' (hw0.below h).r' ⟨hx.o10.1, hx.o4.1.1, hx.o18.1.1, hx.o19.1.1, hx.o20.1.1⟩
  have hdo : ∀ W : World, Below W0.heap.size W0 W → Calls Tryd.prog 9 #[.agg (cel (sState x)), .int .i64 k, .int .u64 e] W fun e' w' => e' = .returned (.agg (vs .u8 32 (domV x k e))) ∧ Below W.heap.size W w' := fun W h => pD x k e W hx k0 k1 e0 e1 (hS0.below h)
  have hrd : ∀ W : World, Below W0.heap.size W0 W → Calls Tryd.prog 10 #[.agg (cel (sState x)), .int .i64 k, .int .u64 e] W fun e' w' => e' = .returned (.agg (vs .u8 32 (domV x k e))) ∧ Below W.heap.size W w' := fun W h => rDomain_any x k e W hx (hC0.below h)
  have hde : ∀ W : World, Below W0.heap.size W0 W → Calls Tryd.prog 11 #[] W fun e' w' => e' = .returned (.agg (vs .u8 32 depV)) ∧ Below W.heap.size W w' := fun W h => pE W (hS0.below h)
  have hre : ∀ W : World, Below W0.heap.size W0 W → Calls Tryd.prog 12 #[] W fun e' w' => e' = .returned (.agg (vs .u8 32 depV)) ∧ Below W.heap.size W w' := fun W h => rDeposits_any W (hC0.below h)
  generalize domV x k e = DX at hdo hrd
  generalize depV = DV at hde hre
  have HB := hid hB0
  have HW0 := hid hW0
  have HLD := hid hld
  have HAW := hid haw
  have HDO := hid hdo
  have HRD := hid hrd
  have HDE := hid hde
  have HRE := hid hre
  cases hR : rightB x
  · rw [hR] at hri
    have HRI := hid hri
    clear hri hB0 hW0 hld hw0 hw hx r0 haw hS0 hS hC hC0 hdo hrd hde hre pE pR pG pD
    go_enter Tryd.func3, Tryd.ntmps3
    go_upto_region 1 with fail
    rw [HW0.out]
    clear HW0
    go_upto_region 3 with (go_at_call 7; refine HAW.out.mono ?_; rintro e' w1 ⟨rfl, hb1⟩)
    have l1 := HLD.out w1 hb1
    go_wp2_with (go_at_call 8; refine (HRI.out w1 hb1).mono ?_; rintro e' w2 ⟨rfl, hb2⟩)
    go_ret
    exact ⟨rfl, HB.out.trans ((hb1.trans (hb2.mono hb1.size)).mono HB.out.size)⟩
  rw [hR] at hri
  have HRI := hid hri
  clear hri hB0 hW0 hld hw0 hw hx r0 haw hS0 hS hC hC0 hdo hrd hde hre pE pR pG pD
  go_enter Tryd.func3, Tryd.ntmps3
  go_upto_region 1 with fail
  rw [HW0.out]
  clear HW0
  go_upto_region 3 with (go_at_call 7; refine HAW.out.mono ?_; rintro e' w1 ⟨rfl, hb1⟩)
  have l1 := HLD.out w1 hb1
  go_upto_region 5 with (go_at_call 8; refine (HRI.out w1 hb1).mono ?_; rintro e' w2 ⟨rfl, hb2⟩)
  have hB2 : Below W0.heap.size W0 w2.drew := (hb1.trans (hb2.mono hb1.size)).drew
  clear l1 hb1 hb2 HRI HAW
  refine wp_region_noPanic ?_
  refine wp_region_held_drew (S := fun W => Below W0.heap.size W0 W) (by kernel_rfl) (hB2) (fun hHeld => ?_)
  refine tk 0 (v := ?v1201) ?y1201 hHeld ?r1201
  case y1201 => intro w hSw; have ld0 := HLD.out w hSw; go_simp; try with_reducible rfl
  refine tk 1 (v := ?v1202) ?y1202 hHeld ?r1202
  case y1202 => intro w hSw; go_simp; try with_reducible rfl
  refine tk 2 (v := ?v1203) ?y1203 hHeld ?r1203
  case y1203 => intro w hSw; go_simp; try with_reducible rfl
  refine tk 4 (v := ?v1204) ?y1204 hHeld ?r1204
  case y1204 => intro w hSw; have ld0 := HLD.out w hSw; go_simp; try with_reducible rfl
  refine tk 5 (v := ?v1205) ?y1205 hHeld ?r1205
  case y1205 => intro w hSw; go_simp; try with_reducible rfl
  refine tk 6 (v := ?v1206) ?y1206 hHeld ?r1206
  case y1206 => intro w hSw; go_simp; try with_reducible rfl
  try simp only [Act.put, List.setIfInBounds_toArray, List.set_cons_zero, List.set_cons_succ, Array.toArray_toList, List.getElem_toArray, List.getElem_cons_zero, List.getElem_cons_succ]
  refine wpAnyH_ready (rs := [3]) (by kernel_rfl) (by simp) ?_
  refine AllReadyH.cons rfl (fun K hK => ?_) AllReadyH.nil
  go_simp
  refine (HDO.out _ hB2).mono ?_
  rintro e' x3 ⟨rfl, hd3⟩
  dsimp only
  have hc3 : Below W0.heap.size W0 x3 := hB2.trans (hd3.mono hB2.size)
  refine hK.out _ _ (hc3) (fun hHeld => ?_)
  clear hK K
  try simp only [Act.put, List.setIfInBounds_toArray, List.set_cons_zero, List.set_cons_succ, Array.toArray_toList, List.getElem_toArray, List.getElem_cons_zero, List.getElem_cons_succ]
  refine wpAnyH_ready (rs := [7]) (by kernel_rfl) (by simp) ?_
  refine AllReadyH.cons rfl (fun K hK => ?_) AllReadyH.nil
  go_simp
  refine (HRD.out _ hc3).mono ?_
  rintro e' x4 ⟨rfl, hd4⟩
  dsimp only
  have hc4 : Below W0.heap.size W0 x4 := hc3.trans (hd4.mono hc3.size)
  refine hK.out _ _ (hc4) (fun hHeld => ?_)
  clear hK K
  try simp only [Act.put, List.setIfInBounds_toArray, List.set_cons_zero, List.set_cons_succ, Array.toArray_toList, List.getElem_toArray, List.getElem_cons_zero, List.getElem_cons_succ]
  refine wpAnyH_take (i := 8) rfl (by kernel_rfl) (by kernel_rfl) (by kernel_rfl) (fun _ _ _ h => h) (yields_eqo (by rfl) _ _ _ rfl DX DX rfl rfl) hHeld ?_
  rw [eqR_self]
  try simp only [Act.put, List.setIfInBounds_toArray, List.set_cons_zero, List.set_cons_succ, Array.toArray_toList, List.getElem_toArray, List.getElem_cons_zero, List.getElem_cons_succ]
  refine tk 9 (v := ?v1207) ?y1207 hHeld ?r1207
  case y1207 => intro w hSw; go_simp; try with_reducible rfl
  try simp only [Act.put, List.setIfInBounds_toArray, List.set_cons_zero, List.set_cons_succ, Array.toArray_toList, List.getElem_toArray, List.getElem_cons_zero, List.getElem_cons_succ]
  refine wpAnyH_ready (rs := [10]) (by kernel_rfl) (by simp) ?_
  refine AllReadyH.cons rfl (fun K hK => ?_) AllReadyH.nil
  go_simp
  refine (HDE.out _ hc4).mono ?_
  rintro e' x5 ⟨rfl, hd5⟩
  dsimp only
  have hc5 : Below W0.heap.size W0 x5 := hc4.trans (hd5.mono hc4.size)
  refine hK.out _ _ (hc5) (fun hHeld => ?_)
  clear hK K
  try simp only [Act.put, List.setIfInBounds_toArray, List.set_cons_zero, List.set_cons_succ, Array.toArray_toList, List.getElem_toArray, List.getElem_cons_zero, List.getElem_cons_succ]
  refine wpAnyH_ready (rs := [11]) (by kernel_rfl) (by simp) ?_
  refine AllReadyH.cons rfl (fun K hK => ?_) AllReadyH.nil
  go_simp
  refine (HRE.out _ hc5).mono ?_
  rintro e' x6 ⟨rfl, hd6⟩
  dsimp only
  have hc6 : Below W0.heap.size W0 x6 := hc5.trans (hd6.mono hc5.size)
  refine hK.out _ _ (hc6) (fun hHeld => ?_)
  clear hK K
  try simp only [Act.put, List.setIfInBounds_toArray, List.set_cons_zero, List.set_cons_succ, Array.toArray_toList, List.getElem_toArray, List.getElem_cons_zero, List.getElem_cons_succ]
  refine wpAnyH_take (i := 12) rfl (by kernel_rfl) (by kernel_rfl) (by kernel_rfl) (fun _ _ _ h => h) (yields_eqo (by rfl) _ _ _ rfl DV DV rfl rfl) hHeld ?_
  rw [eqR_self]
  try simp only [Act.put, List.setIfInBounds_toArray, List.set_cons_zero, List.set_cons_succ, Array.toArray_toList, List.getElem_toArray, List.getElem_cons_zero, List.getElem_cons_succ]
  refine tk 13 (v := ?v1208) ?y1208 hHeld ?r1208
  case y1208 => intro w hSw; go_simp; try with_reducible rfl
  refine tk 14 (v := ?v1209) ?y1209 hHeld ?r1209
  case y1209 => intro w hSw; go_simp; try with_reducible rfl
  try simp only [Act.put, List.setIfInBounds_toArray, List.set_cons_zero, List.set_cons_succ, Array.toArray_toList, List.getElem_toArray, List.getElem_cons_zero, List.getElem_cons_succ]
  refine wpAnyH_done (by kernel_rfl) ?_ _
  refine NoPanic.normal ?_
  go_wp2
  go_ret
  exact ⟨rfl, HB.out.trans (hc6.mono HB.out.size)⟩

/-- A signature, loaded and stored. -/
def lvSg (a : Addr) : Sem Value := loadVar 56 a

theorem lvSg_eq (a : Addr) : loadVar 56 a = lvSg a := rfl

theorem lvSg_run {w : World} {b : Nat} {c : Nat → Int} {t : TypeId} (h : w.heap[b]? = some (.cells (vs .u8 96 c) t)) : (lvSg ⟨b, 0, none⟩).run Tryd.prog w = .ok (.agg (vs .u8 96 c)) w :=
  loadAt_var (load_row h 56 _ Tryd.underlying56 rfl (by rw [vs_size]; kernel_rfl))

def svSg (a : Addr) (v : Value) : Sem Unit := storeVar 56 a v

theorem svSg_eq (a : Addr) (v : Value) : storeVar 56 a v = svSg a v := rfl

theorem svSg_mid {w : World} {b : Nat} {C : Array Value} {t : TypeId} (h : w.heap[b]? = some (.cells C t)) (o : Nat) (c : Nat → Int) (hn : o + 96 ≤ C.size) :
    (svSg ⟨b, o, none⟩ (.agg (vs .u8 96 c))).run Tryd.prog w = .ok () (w.setCells b o (bl c 96)) := by
  have h1 := run_storeVar_mid (P := Tryd.prog) w b o 56 (vs .u8 96 c) (by rw [vs_size]; exact there_row h o 96 hn) (by rw [vs_size]; kernel_rfl) (vs_one _ _ _)
  rw [vs_list] at h1
  exact h1

theorem put3 (d : VDepositData) (s : Nat → Int) : putL (cel (sDepositData d)) 81 (bl s 96) = cel (sDepositData { d with f3 := s }) := by
  have h := put_seg [.by 48 d.f0, .by 32 d.f1, .nu d.f2] [.by 96 d.f3] [.by 96 s] [] rfl
  rw [celL_by] at h
  exact h

def svDd (a : Addr) (v : Value) : Sem Unit := storeVar 58 a v

theorem svDd_eq (a : Addr) (v : Value) : storeVar 58 a v = svDd a v := rfl

theorem svDd_newv (W : World) (o c : VDepositData) : (svDd ⟨W.heap.size, 0, none⟩ (.agg (cel (sDepositData c)))).run Tryd.prog (W.alloc (.cells (cel (sDepositData o)) 58)) = .ok () (W.alloc (.cells (cel (sDepositData c)) 58)) :=
  run_storeVar_new W 58 _ _ (by rw [cel_size, slDepositData]; kernel_rfl) (by rw [cel_size, cel_size, slDepositData, slDepositData]) (cel_one _)

def lvDd (a : Addr) : Sem Value := loadVar 58 a

theorem lvDd_eq (a : Addr) : loadVar 58 a = lvDd a := rfl

theorem lvDd_run {w : World} {b : Nat} {c : VDepositData} {t : TypeId} (h : w.heap[b]? = some (.cells (cel (sDepositData c)) t)) : (lvDd ⟨b, 0, none⟩).run Tryd.prog w = .ok (.agg (cel (sDepositData c))) w :=
  loadAt_var (load_row h 58 _ Tryd.underlying58 rfl (by rw [cel_size, slDepositData]; kernel_rfl))

attribute [local go_sem ↓] lvSg_eq svSg_eq lvDd_eq svDd_eq

set_option maxHeartbeats 4000000 in
theorem signRoots_law (pE : PDep) (pR : PRoo) (pG : PGoo) (pM : PMsg) (a b : Nat → Int) (d : VDepositData) (s : Nat → Int) (w : World) (ha : ∀ j, j < 32 → 0 ≤ a j ∧ a j < 256) (hb : ∀ j, j < 32 → 0 ≤ b j ∧ b j < 256) (hd : OkDepositData d) (hs : ∀ j, j < 96 → 0 ≤ s j ∧ s j < 256) (hS : Sh w) (hC : Tab w 2 64 KW) :
    Calls Tryd.prog 4 #[.agg (vs .u8 32 a), .agg (vs .u8 32 b), .agg (cel (sDepositData d)), .agg (vs .u8 96 s)] w fun e' w' => e' = .returned (.bool true) ∧ Below w.heap.size w w' := by
  obtain ⟨W0, hW0⟩ : ∃ W, (((w.alloc (.cells (vs .u8 32 a) 24)).alloc (.cells (vs .u8 32 b) 24)).alloc (.cells (cel (sDepositData d)) 58)).alloc (.cells (vs .u8 96 s) 56) = W := ⟨_, rfl⟩
  have r0 : W0.heap[w.heap.size]? = some (.cells (vs .u8 32 a) 24) := by rw [← hW0]; exact (heap_old (by simp <;> omega)).trans ((heap_old (by simp <;> omega)).trans ((heap_old (by simp)).trans (heap_new rfl)))
  have r1 : W0.heap[w.heap.size + 1]? = some (.cells (vs .u8 32 b) 24) := by rw [← hW0]; exact (heap_old (by simp <;> omega)).trans ((heap_old (by simp)).trans (heap_new (by simp)))
  have r2 : W0.heap[w.heap.size + 2]? = some (.cells (cel (sDepositData d)) 58) := by rw [← hW0]; exact (heap_old (by simp)).trans (heap_new (by simp))
  have r3 : W0.heap[w.heap.size + 3]? = some (.cells (vs .u8 96 s) 56) := by rw [← hW0]; exact heap_new (by simp)
  have hB0 : Below w.heap.size w W0 := by rw [← hW0]; exact ((((Below.refl _ _).alloc (Nat.le_refl _) _).alloc (by simp) _).alloc (by simp <;> omega) _).alloc (by simp <;> omega) _
  have z3 : w.heap.size + 3 < W0.heap.size := some_ltK r3
  have hS0 := hS.below hB0
  have hC0 := hC.below hB0
  have haw := awake16 pE pR pG W0 hS0
  have hla : ∀ W : World, Below W0.heap.size W0 W → (lv24 ⟨w.heap.size, 0, none⟩).run Tryd.prog W = .ok (.agg (vs .u8 32 a)) W := fun W h => lv24_run ((h.block _ (by omega)).trans r0)
  have hlb : ∀ W : World, Below W0.heap.size W0 W → (lv24 ⟨w.heap.size + 1, 0, none⟩).run Tryd.prog W = .ok (.agg (vs .u8 32 b)) W := fun W h => lv24_run ((h.block _ (by omega)).trans r1)
  have hld : ∀ W : World, Below W0.heap.size W0 W → (lvDd ⟨w.heap.size + 1 + 1, 0, none⟩).run Tryd.prog W = .ok (.agg (cel (sDepositData d))) W := fun W h => lvDd_run ((h.block _ (by omega)).trans r2)
  have hls : ∀ W : World, Below W0.heap.size W0 W → (lvSg ⟨w.heap.size + 1 + 1 + 1, 0, none⟩).run Tryd.prog W = .ok (.agg (vs .u8 96 s)) W := fun W h => lvSg_run ((h.block _ (by omega)).trans r3)
  have hro : ∀ W : World, Below W0.heap.size W0 W → Calls Tryd.prog 13 #[.agg (vs .u8 32 a), .agg (vs .u8 32 b)] W fun e' w' => e' = .returned (.agg (vs .u8 32 (tw a b))) ∧ Below W.heap.size W w' := fun W h => pR a b W ha hb (hS0.below h)
  have hrr : ∀ W : World, Below W0.heap.size W0 W → Calls Tryd.prog 14 #[.agg (vs .u8 32 a), .agg (vs .u8 32 b)] W fun e' w' => e' = .returned (.agg (vs .u8 32 (tw a b))) ∧ Below W.heap.size W w' := fun W h => rRoot_any a b W ha hb (hC0.below h)
  have hme : ∀ W : World, Below W0.heap.size W0 W → Calls Tryd.prog 15 #[.agg (cel (sDepositData d))] W fun e' w' => e' = .returned (.agg (vs .u8 32 (msV d))) ∧ Below W.heap.size W w' := fun W h => pM d W hd (hS0.below h)
  have hrm : ∀ W : World, Below W0.heap.size W0 W → Calls Tryd.prog 16 #[.agg (cel (sDepositData d))] W fun e' w' => e' = .returned (.agg (vs .u8 32 (msV d))) ∧ Below W.heap.size W w' := fun W h => rMessage_any d W hd (hC0.below h)
  have hmf : ∀ W : World, Below W0.heap.size W0 W → Calls Tryd.prog 15 #[.agg (cel (sDepositData { d with f3 := s }))] W fun e' w' => e' = .returned (.agg (vs .u8 32 (msV d))) ∧ Below W.heap.size W w' := fun W h => pM { d with f3 := s } W ⟨hd.1, hd.2.1, hd.2.2.1, hs⟩ (hS0.below h)
  have zd := zeroDepositData
  have svn : ∀ W : World, (svDd ⟨W.heap.size, 0, none⟩ (.agg (cel (sDepositData d)))).run Tryd.prog (W.alloc (.cells (cel (sDepositData oDepositData)) 58)) = .ok () (W.alloc (.cells (cel (sDepositData d)) 58)) := fun W => svDd_newv W oDepositData d
  have hpu : ∀ (W : World) (y : Nat), W.heap[y]? = some (.cells (cel (sDepositData d)) 58) → (svSg ⟨y, 81, none⟩ (.agg (vs .u8 96 s))).run Tryd.prog W = .ok () (W.setCells y 81 (bl s 96)) ∧ (W.setCells y 81 (bl s 96)).heap[y]? = some (.cells (cel (sDepositData { d with f3 := s })) 58) := fun W y h => ⟨svSg_mid h 81 s (by rw [cel_size, slDepositData]; omega), by rw [setCells_row _ _ h, put3]⟩
  generalize tw a b = TW at hro hrr
  generalize msV d = MS at hme hrm hmf
  obtain ⟨ds, eds⟩ : ∃ c : VDepositData, { d with f3 := s } = c := ⟨_, rfl⟩
  simp only [eds] at hmf hpu
  generalize oDepositData = od at zd svn
  have HB := hid hB0
  have HW0 := hid hW0
  have HAW := hid haw
  have HLA0 := hid hla
  have HLB0 := hid hlb
  have HLD0 := hid hld
  have HLS0 := hid hls
  have HRO0 := hid hro
  have HRR0 := hid hrr
  have HME0 := hid hme
  have HRM0 := hid hrm
  have HMF0 := hid hmf
  have HPU := hid hpu
  clear hB0 hW0 haw hla hlb hld hls hro hrr hme hrm hmf hpu eds r0 r1 r2 r3 hS hS0 hC hC0 ha hb hd hs pE pR pG pM
  go_enter Tryd.func4, Tryd.ntmps4
  go_upto_region 1 with fail
  rw [HW0.out]
  clear HW0
  go_upto_region 3 with (go_at_call 7; refine HAW.out.mono ?_; rintro e' w1 ⟨rfl, hb1⟩)
  have ld := HLD0.out w1 hb1
  obtain ⟨W3, hW3⟩ : ∃ W, w1.alloc (.cells (cel (sDepositData d)) 58) = W := ⟨_, rfl⟩
  have r3 : W3.heap[w1.heap.size]? = some (.cells (cel (sDepositData d)) 58) := by rw [← hW3]; exact heap_new rfl
  have hE3 : Below W0.heap.size W0 W3 := by rw [← hW3]; exact hb1.alloc hb1.size _
  have y0 : W0.heap.size ≤ w1.heap.size := hb1.size
  have HW3 := hid hW3
  have R3 := hid r3
  have HE3 := hid hE3
  clear hW3 r3 hE3 hb1 HAW
  go_upto_region 4 with fail
  rw [HW3.out]
  obtain ⟨y, ey⟩ : ∃ y, w1.heap.size = y := ⟨_, rfl⟩
  rw [ey] at R3 y0 ⊢
  clear ld zd svn HW3 ey
  have ls := HLS0.out W3 HE3.out
  obtain ⟨pu, ru⟩ := HPU.out W3 y R3.out
  have hE4 : Below W0.heap.size W0 (W3.setCells y 81 (bl s 96)) := below_cells HE3.out y0 _ _
  obtain ⟨W4, hW4⟩ : ∃ W, W3.setCells y 81 (bl s 96) = W := ⟨_, rfl⟩
  rw [hW4] at pu ru hE4
  have RU := hid ru
  have HE4 := hid hE4
  clear ru hE4 hW4
  go_upto_region 5 with fail
  clear pu ls
  have up : ∀ W : World, Below W4.heap.size W4 W → Below W0.heap.size W0 W := fun W h => HE4.out.trans (h.mono HE4.out.size)
  have hla := fun W h => HLA0.out W (up W h)
  have hlb := fun W h => HLB0.out W (up W h)
  have hld := fun W h => HLD0.out W (up W h)
  have hle : ∀ W : World, Below W4.heap.size W4 W → (lvDd ⟨y, 0, none⟩).run Tryd.prog W = .ok (.agg (cel (sDepositData ds))) W := fun W h => lvDd_run ((h.block _ (some_ltK RU.out)).trans RU.out)
  have hro := fun W h => HRO0.out W (up W h)
  have hrr := fun W h => HRR0.out W (up W h)
  have hme := fun W h => HME0.out W (up W h)
  have hrm := fun W h => HRM0.out W (up W h)
  have hmf := fun W h => HMF0.out W (up W h)
  have hBd : Below W4.heap.size W4 W4.drew := (Below.refl _ _).drew
  have HLA := hid hla
  have HLB := hid hlb
  have HLD := hid hld
  have HLE := hid hle
  have HRO := hid hro
  have HRR := hid hrr
  have HME := hid hme
  have HRM := hid hrm
  have HMF := hid hmf
  have HUP := hid up
  clear hla hlb hld hle hro hrr hme hrm hmf up HLA0 HLB0 HLD0 HLS0 HRO0 HRR0 HME0 HRM0 HMF0 HPU RU HE3 R3
  refine wp_region_noPanic ?_
  refine wp_region_held_drew (S := fun W => Below W4.heap.size W4 W) (by kernel_rfl) (hBd) (fun hHeld => ?_)
  refine tk 0 (v := ?v1210) ?y1210 hHeld ?r1210
  case y1210 => intro w hSw; have ld0 := HLA.out w hSw; go_simp; try with_reducible rfl
  refine tk 1 (v := ?v1211) ?y1211 hHeld ?r1211
  case y1211 => intro w hSw; have ld0 := HLB.out w hSw; go_simp; try with_reducible rfl
  refine tk 3 (v := ?v1212) ?y1212 hHeld ?r1212
  case y1212 => intro w hSw; have ld0 := HLA.out w hSw; go_simp; try with_reducible rfl
  refine tk 4 (v := ?v1213) ?y1213 hHeld ?r1213
  case y1213 => intro w hSw; have ld0 := HLB.out w hSw; go_simp; try with_reducible rfl
  try simp only [Act.put, List.setIfInBounds_toArray, List.set_cons_zero, List.set_cons_succ, Array.toArray_toList, List.getElem_toArray, List.getElem_cons_zero, List.getElem_cons_succ]
  refine wpAnyH_ready (rs := [2]) (by kernel_rfl) (by simp) ?_
  refine AllReadyH.cons rfl (fun K hK => ?_) AllReadyH.nil
  go_simp
  refine (HRO.out _ hBd).mono ?_
  rintro e' x3 ⟨rfl, hd3⟩
  dsimp only
  have hc3 : Below W4.heap.size W4 x3 := hBd.trans (hd3.mono hBd.size)
  refine hK.out _ _ (hc3) (fun hHeld => ?_)
  clear hK K
  try simp only [Act.put, List.setIfInBounds_toArray, List.set_cons_zero, List.set_cons_succ, Array.toArray_toList, List.getElem_toArray, List.getElem_cons_zero, List.getElem_cons_succ]
  refine wpAnyH_ready (rs := [5]) (by kernel_rfl) (by simp) ?_
  refine AllReadyH.cons rfl (fun K hK => ?_) AllReadyH.nil
  go_simp
  refine (HRR.out _ hc3).mono ?_
  rintro e' x4 ⟨rfl, hd4⟩
  dsimp only
  have hc4 : Below W4.heap.size W4 x4 := hc3.trans (hd4.mono hc3.size)
  refine hK.out _ _ (hc4) (fun hHeld => ?_)
  clear hK K
  try simp only [Act.put, List.setIfInBounds_toArray, List.set_cons_zero, List.set_cons_succ, Array.toArray_toList, List.getElem_toArray, List.getElem_cons_zero, List.getElem_cons_succ]
  refine wpAnyH_take (i := 6) rfl (by kernel_rfl) (by kernel_rfl) (by kernel_rfl) (fun _ _ _ h => h) (yields_eqo (by rfl) _ _ _ rfl TW TW rfl rfl) hHeld ?_
  rw [eqR_self]
  try simp only [Act.put, List.setIfInBounds_toArray, List.set_cons_zero, List.set_cons_succ, Array.toArray_toList, List.getElem_toArray, List.getElem_cons_zero, List.getElem_cons_succ]
  refine tk 7 (v := ?v1214) ?y1214 hHeld ?r1214
  case y1214 => intro w hSw; go_simp; try with_reducible rfl
  refine tk 8 (v := ?v1215) ?y1215 hHeld ?r1215
  case y1215 => intro w hSw; have ld0 := HLD.out w hSw; go_simp; try with_reducible rfl
  refine tk 10 (v := ?v1216) ?y1216 hHeld ?r1216
  case y1216 => intro w hSw; have ld0 := HLD.out w hSw; go_simp; try with_reducible rfl
  try simp only [Act.put, List.setIfInBounds_toArray, List.set_cons_zero, List.set_cons_succ, Array.toArray_toList, List.getElem_toArray, List.getElem_cons_zero, List.getElem_cons_succ]
  refine wpAnyH_ready (rs := [9]) (by kernel_rfl) (by simp) ?_
  refine AllReadyH.cons rfl (fun K hK => ?_) AllReadyH.nil
  go_simp
  refine (HME.out _ hc4).mono ?_
  rintro e' x5 ⟨rfl, hd5⟩
  dsimp only
  have hc5 : Below W4.heap.size W4 x5 := hc4.trans (hd5.mono hc4.size)
  refine hK.out _ _ (hc5) (fun hHeld => ?_)
  clear hK K
  try simp only [Act.put, List.setIfInBounds_toArray, List.set_cons_zero, List.set_cons_succ, Array.toArray_toList, List.getElem_toArray, List.getElem_cons_zero, List.getElem_cons_succ]
  refine wpAnyH_ready (rs := [11]) (by kernel_rfl) (by simp) ?_
  refine AllReadyH.cons rfl (fun K hK => ?_) AllReadyH.nil
  go_simp
  refine (HRM.out _ hc5).mono ?_
  rintro e' x6 ⟨rfl, hd6⟩
  dsimp only
  have hc6 : Below W4.heap.size W4 x6 := hc5.trans (hd6.mono hc5.size)
  refine hK.out _ _ (hc6) (fun hHeld => ?_)
  clear hK K
  try simp only [Act.put, List.setIfInBounds_toArray, List.set_cons_zero, List.set_cons_succ, Array.toArray_toList, List.getElem_toArray, List.getElem_cons_zero, List.getElem_cons_succ]
  refine wpAnyH_take (i := 12) rfl (by kernel_rfl) (by kernel_rfl) (by kernel_rfl) (fun _ _ _ h => h) (yields_eqo (by rfl) _ _ _ rfl MS MS rfl rfl) hHeld ?_
  rw [eqR_self]
  try simp only [Act.put, List.setIfInBounds_toArray, List.set_cons_zero, List.set_cons_succ, Array.toArray_toList, List.getElem_toArray, List.getElem_cons_zero, List.getElem_cons_succ]
  refine tk 13 (v := ?v1217) ?y1217 hHeld ?r1217
  case y1217 => intro w hSw; go_simp; try with_reducible rfl
  refine tk 14 (v := ?v1218) ?y1218 hHeld ?r1218
  case y1218 => intro w hSw; go_simp; try with_reducible rfl
  refine tk 15 (v := ?v1219) ?y1219 hHeld ?r1219
  case y1219 => intro w hSw; have ld0 := HLE.out w hSw; go_simp; try with_reducible rfl
  refine tk 17 (v := ?v1220) ?y1220 hHeld ?r1220
  case y1220 => intro w hSw; have ld0 := HLD.out w hSw; go_simp; try with_reducible rfl
  try simp only [Act.put, List.setIfInBounds_toArray, List.set_cons_zero, List.set_cons_succ, Array.toArray_toList, List.getElem_toArray, List.getElem_cons_zero, List.getElem_cons_succ]
  refine wpAnyH_ready (rs := [16]) (by kernel_rfl) (by simp) ?_
  refine AllReadyH.cons rfl (fun K hK => ?_) AllReadyH.nil
  go_simp
  refine (HMF.out _ hc6).mono ?_
  rintro e' x7 ⟨rfl, hd7⟩
  dsimp only
  have hc7 : Below W4.heap.size W4 x7 := hc6.trans (hd7.mono hc6.size)
  refine hK.out _ _ (hc7) (fun hHeld => ?_)
  clear hK K
  try simp only [Act.put, List.setIfInBounds_toArray, List.set_cons_zero, List.set_cons_succ, Array.toArray_toList, List.getElem_toArray, List.getElem_cons_zero, List.getElem_cons_succ]
  refine wpAnyH_ready (rs := [18]) (by kernel_rfl) (by simp) ?_
  refine AllReadyH.cons rfl (fun K hK => ?_) AllReadyH.nil
  go_simp
  refine (HME.out _ hc7).mono ?_
  rintro e' x8 ⟨rfl, hd8⟩
  dsimp only
  have hc8 : Below W4.heap.size W4 x8 := hc7.trans (hd8.mono hc7.size)
  refine hK.out _ _ (hc8) (fun hHeld => ?_)
  clear hK K
  try simp only [Act.put, List.setIfInBounds_toArray, List.set_cons_zero, List.set_cons_succ, Array.toArray_toList, List.getElem_toArray, List.getElem_cons_zero, List.getElem_cons_succ]
  refine wpAnyH_take (i := 19) rfl (by kernel_rfl) (by kernel_rfl) (by kernel_rfl) (fun _ _ _ h => h) (yields_eqo (by rfl) _ _ _ rfl MS MS rfl rfl) hHeld ?_
  rw [eqR_self]
  try simp only [Act.put, List.setIfInBounds_toArray, List.set_cons_zero, List.set_cons_succ, Array.toArray_toList, List.getElem_toArray, List.getElem_cons_zero, List.getElem_cons_succ]
  refine tk 20 (v := ?v1221) ?y1221 hHeld ?r1221
  case y1221 => intro w hSw; go_simp; try with_reducible rfl
  refine tk 21 (v := ?v1222) ?y1222 hHeld ?r1222
  case y1222 => intro w hSw; go_simp; try with_reducible rfl
  try simp only [Act.put, List.setIfInBounds_toArray, List.set_cons_zero, List.set_cons_succ, Array.toArray_toList, List.getElem_toArray, List.getElem_cons_zero, List.getElem_cons_succ]
  refine wpAnyH_done (by kernel_rfl) ?_ _
  refine NoPanic.normal ?_
  go_wp2
  go_ret
  exact ⟨rfl, HB.out.trans ((HUP.out _ hc8).mono HB.out.size)⟩

end Go.Proofs.YtmpagacbmoeipaaDoor
