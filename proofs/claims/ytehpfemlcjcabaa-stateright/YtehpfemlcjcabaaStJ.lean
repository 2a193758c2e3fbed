/-
  A state without lists, read.
-/

import Derived.Test.YtehpfemlcjcabaaStI
namespace Go.Proofs.Ytehpfemlcjcabaa

open Go.RowKit

set_option linter.unusedVariables false

set_option linter.unusedSimpArgs false

set_option maxRecDepth 20000

theorem putL_eq (C : Array Value) (o : Nat) (l : List Value) (h : o + l.length ≤ C.size) : putL C o l = (C.toList.take o ++ l ++ C.toList.drop (o + l.length)).toArray := by
  apply Array.ext'
  apply List.ext_getElem?
  intro i
  have hc : C.toList.length = C.size := Array.length_toList
  rw [Array.getElem?_toList, putL_get _ _ _ _ h]
  by_cases h1 : i < o
  · rw [if_neg (by omega), List.append_assoc, List.getElem?_append_left (by rw [List.length_take]; omega), List.getElem?_take_of_lt h1, Array.getElem?_toList]
  · rw [List.append_assoc, List.getElem?_append_right (by rw [List.length_take]; omega), List.length_take, Nat.min_eq_left (by omega)]
    by_cases h2 : i < o + l.length
    · rw [if_pos ⟨by omega, h2⟩, List.getElem?_append_left (by omega)]
    · rw [if_neg (by omega), List.getElem?_append_right (by omega), List.getElem?_drop, show o + l.length + (i - o - l.length) = i by omega, Array.getElem?_toList]

theorem RI.put {w X : World} {r y : Nat} {x x' : VState} (h : RI w r y x X) (hr : r ≠ y) (hy : w.heap.size ≤ y) (l1 m m' l2 : List Seg) (e1 : sState x = l1 ++ m ++ l2) (e2 : sState x' = l1 ++ m' ++ l2) (hm : slen m' = slen m) (o : Nat) (ho : slen l1 = o) : RI w r y x' (X.setCells y o (celL m')) := by
  refine h.kept hr hy (setCells_kept _ _ (Kept.refl y X)) ((setCells_row _ _ h.2.2).trans (congrArg (fun c => some (Obj.cells c 49)) ?_))
  have hs : slen (l1 ++ m ++ l2) = slen l1 + slen m + slen l2 := by
    rw [← celL_len, celL_app, celL_app, List.length_append, List.length_append, celL_len, celL_len, celL_len]
  rw [e1, e2, putL_eq _ _ _ (by rw [cel_size, celL_len, hm, hs]; omega), celL_len, hm, ← ho, cel_put]

theorem putSFork {w : World} {b : Nat} {x : VState} (h : w.heap[b]? = some (.cells (cel (sState x)) 49)) (o : Nat) (c : VFork) (hn : o + 9 ≤ 1957) :
    (svFork ⟨b, o, none⟩ (.agg (cel (sFork c)))).run Try.prog w = .ok () (w.setCells b o (celL (sFork c))) :=
  run_storeVar_mid (P := Try.prog) w b o 28 (cel (sFork c)) (by rw [cel_size, show slen (sFork c) = 9 from rfl]; exact there_row h o 9 (by rw [cel_size, slState]; exact hn)) (by rw [cel_size, show slen (sFork c) = 9 from rfl]; kernel_rfl) (cel_one _)

theorem putSHeader {w : World} {b : Nat} {x : VState} (h : w.heap[b]? = some (.cells (cel (sState x)) 49)) (o : Nat) (c : VHeader) (hn : o + 98 ≤ 1957) :
    (svHeader ⟨b, o, none⟩ (.agg (cel (sHeader c)))).run Try.prog w = .ok () (w.setCells b o (celL (sHeader c))) :=
  run_storeVar_mid (P := Try.prog) w b o 30 (cel (sHeader c)) (by rw [cel_size, show slen (sHeader c) = 98 from rfl]; exact there_row h o 98 (by rw [cel_size, slState]; exact hn)) (by rw [cel_size, show slen (sHeader c) = 98 from rfl]; kernel_rfl) (cel_one _)

theorem putSEth1 {w : World} {b : Nat} {x : VState} (h : w.heap[b]? = some (.cells (cel (sState x)) 49)) (o : Nat) (c : VEth1) (hn : o + 65 ≤ 1957) :
    (svEth1 ⟨b, o, none⟩ (.agg (cel (sEth1 c)))).run Try.prog w = .ok () (w.setCells b o (celL (sEth1 c))) :=
  run_storeVar_mid (P := Try.prog) w b o 34 (cel (sEth1 c)) (by rw [cel_size, show slen (sEth1 c) = 65 from rfl]; exact there_row h o 65 (by rw [cel_size, slState]; exact hn)) (by rw [cel_size, show slen (sEth1 c) = 65 from rfl]; kernel_rfl) (cel_one _)

theorem putSCheckpoint {w : World} {b : Nat} {x : VState} (h : w.heap[b]? = some (.cells (cel (sState x)) 49)) (o : Nat) (c : VCheckpoint) (hn : o + 33 ≤ 1957) :
    (svCheckpoint ⟨b, o, none⟩ (.agg (cel (sCheckpoint c)))).run Try.prog w = .ok () (w.setCells b o (celL (sCheckpoint c))) :=
  run_storeVar_mid (P := Try.prog) w b o 42 (cel (sCheckpoint c)) (by rw [cel_size, show slen (sCheckpoint c) = 33 from rfl]; exact there_row h o 33 (by rw [cel_size, slState]; exact hn)) (by rw [cel_size, show slen (sCheckpoint c) = 33 from rfl]; kernel_rfl) (cel_one _)

theorem putSCommittee {w : World} {b : Nat} {x : VState} (h : w.heap[b]? = some (.cells (cel (sState x)) 49)) (o : Nat) (c : VCommittee) (hn : o + 432 ≤ 1957) :
    (svCommittee ⟨b, o, none⟩ (.agg (cel (sCommittee c)))).run Try.prog w = .ok () (w.setCells b o (celL (sCommittee c))) :=
  run_storeVar_mid (P := Try.prog) w b o 47 (cel (sCommittee c)) (by rw [cel_size, show slen (sCommittee c) = 432 from rfl]; exact there_row h o 432 (by rw [cel_size, slState]; exact hn)) (by rw [cel_size, show slen (sCommittee c) = 432 from rfl]; kernel_rfl) (cel_one _)

theorem splitB5 (x : VState) (u : Nat → Int) : sState { x with f5 := u } = (sState x).take 11 ++ [.by 256 u] ++ (sState x).drop 12 := by kernel_rfl

theorem fill5 {w : World} {y gb ob cb : Nat} {x : VState} (f : Nat → Int) (hy : w.heap[y]? = some (.cells (cel (sState x)) 49)) (hb : Bys w (some ⟨gb, ob, none⟩) 256 cb f) (hne : gb ≠ y) :
    Calls Try.prog 41 #[.slice (some ⟨y, 141, none⟩) 8 8, .slice (some ⟨gb, ob, none⟩) 256 cb] w fun e w' => e = .returned (.tuple #[]) ∧ Kept y w w' ∧ ∃ u', w'.heap[y]? = some (.cells (cel (sState { x with f5 := u' })) 49) := by
  have h := fillR ((sState x).take 11) ((sState x).drop 12) x.f5 f y 141 gb ob cb 49 w (by kernel_rfl) (by rw [← splitB5]; exact hy) hb hne
  simp only [← splitB5] at h
  exact h

theorem splitB6 (x : VState) (u : Nat → Int) : sState { x with f6 := u } = (sState x).take 12 ++ [.by 256 u] ++ (sState x).drop 13 := by kernel_rfl

theorem fill6 {w : World} {y gb ob cb : Nat} {x : VState} (f : Nat → Int) (hy : w.heap[y]? = some (.cells (cel (sState x)) 49)) (hb : Bys w (some ⟨gb, ob, none⟩) 256 cb f) (hne : gb ≠ y) :
    Calls Try.prog 41 #[.slice (some ⟨y, 397, none⟩) 8 8, .slice (some ⟨gb, ob, none⟩) 256 cb] w fun e w' => e = .returned (.tuple #[]) ∧ Kept y w w' ∧ ∃ u', w'.heap[y]? = some (.cells (cel (sState { x with f6 := u' })) 49) := by
  have h := fillR ((sState x).take 12) ((sState x).drop 13) x.f6 f y 397 gb ob cb 49 w (by kernel_rfl) (by rw [← splitB6]; exact hy) hb hne
  simp only [← splitB6] at h
  exact h

theorem splitB13 (x : VState) (u : Nat → Int) : sState { x with f13 := u } = (sState x).take 21 ++ [.by 256 u] ++ (sState x).drop 22 := by kernel_rfl

theorem fill13 {w : World} {y gb ob cb : Nat} {x : VState} (f : Nat → Int) (hy : w.heap[y]? = some (.cells (cel (sState x)) 49)) (hb : Bys w (some ⟨gb, ob, none⟩) 256 cb f) (hne : gb ≠ y) :
    Calls Try.prog 41 #[.slice (some ⟨y, 723, none⟩) 8 8, .slice (some ⟨gb, ob, none⟩) 256 cb] w fun e w' => e = .returned (.tuple #[]) ∧ Kept y w w' ∧ ∃ u', w'.heap[y]? = some (.cells (cel (sState { x with f13 := u' })) 49) := by
  have h := fillR ((sState x).take 21) ((sState x).drop 22) x.f13 f y 723 gb ob cb 49 w (by kernel_rfl) (by rw [← splitB13]; exact hy) hb hne
  simp only [← splitB13] at h
  exact h

theorem split1 (x : VState) (u : Nat → Int) : sState { x with f1 := u } = (sState x).take 1 ++ [.by 32 u] ++ (sState x).drop 2 := by kernel_rfl

attribute [local go_sem ↓] lvState_eq svState_eq bdState_eq ixP_eq svFork_eq svHeader_eq svEth1_eq svCheckpoint_eq svCommittee_eq

set_option maxHeartbeats 8000000 in
theorem readState0 (L : Nat → Nat) (f : Nat → Nat → Int) (ao : Option Addr) (len cap : Nat) (w : World) (h0 : P0 L f)
    (hcut : ∀ W sa, Below w.heap.size w W → W.heap[sa]? = some (.cells (vs .i64 24 zS) 3) → Calls Try.prog 36 #[.slice ao len cap, .slice (some ⟨sa, 0, none⟩) 24 24] W fun e w' => ∃ gp A, e = .returned (.tuple #[.slice (some ⟨gp, 0, none⟩) 24 24, .int .i64 0]) ∧ Z.Parts w' (some ⟨gp, 0, none⟩) 24 A L L f ∧ Below W.heap.size W w') :
    Calls Try.prog 12 #[.slice ao len cap] w fun e w' => ∃ X : VState, e = .returned (.tuple #[.agg (cel (sState X)), .int .i64 0]) ∧ X.f2 = rdN (f 2) ∧ Below w.heap.size w w' := by
  have H0 := hid h0
  have HCUT := hid hcut
  have z := zeroState
  obtain ⟨W1, hW1⟩ : ∃ W, w.alloc (.cells (cel (sState oState)) 49) = W := ⟨_, rfl⟩
  have hB1 : Below w.heap.size w W1 := by rw [← hW1]; exact (Below.refl _ _).alloc (Nat.le_refl _) _
  have r1 : W1.heap[w.heap.size]? = some (.cells (cel (sState oState)) 49) := by rw [← hW1]; exact heap_new rfl
  obtain ⟨r, er⟩ : ∃ r, w.heap.size = r := ⟨_, rfl⟩
  rw [er] at r1
  have R1 := hid r1
  have HB1 := hid hB1
  have HWR := hid (show w.heap.size ≤ r by omega)
  clear h0 hcut r1 hB1
  go_enter Try.func12, Try.ntmps12
  go_upto_region 1 with fail
  clear hW1 er
  go_upto_region 4 with (first
    | (go_at_call 35; refine (fsz_any _).mono ?_; rintro e W2 ⟨rfl, hW2⟩; have hB2 : Below W1.heap.size W1 W2 := (hW2 ▸ (Below.refl W1.heap.size W1).alloc (Nat.le_refl _) _); have C2 := hid (HCUT.out W2 W1.heap.size (HB1.out.trans (hB2.mono HB1.out.size)) (hW2 ▸ heap_new rfl)); have HB2 := hid hB2; clear hB2 hW2)
    | (go_at_call 36; refine C2.out.mono ?_; rintro e w1 ⟨gp, A, rfl, hp, hb⟩; have HPP := hid hp; have HB3 := hid (HB2.out.trans (hb.mono HB2.out.size)); clear hp hb))
  have hp := HPP.out
  have HP : Hid (∀ X, Below w1.heap.size w1 X → ∀ r, r < 24 → X.cell? ⟨gp, r, none⟩ = some (.slice (A r) (L r) (L r)) ∧ Bys X (A r) (L r) (L r) (f r)) := fun X h r hr => by
    obtain ⟨b, off, e, _, h1, h2⟩ := Z.parts_at (hp.below h) r hr
    cases e
    rw [Nat.zero_add] at h1
    exact ⟨h1, h2⟩
  have HIX : Hid (∀ (r : Nat) (X : World), r < 24 → (ixP (.slice (some ⟨gp, 0, none⟩) 24 24) (.int .i64 r)).run Try.prog X = .ok (.pointer (some ⟨gp, r, none⟩)) X) := fun r X hr => by
    have := ixP_run X gp 0 24 24 r hr
    rw [Nat.zero_add] at this
    exact this
  have HRR := hid (rref0 L f gp A w1 hp H0.out)
  have RW1 := hid ((HB3.out.block r (some_lt R1.out)).trans R1.out)
  clear hp C2 HB2 HCUT R1 HPP
  go_upto_region 5 with (go_at_call 37; refine HRR.out.mono ?_; rintro e w2 ⟨xa, rfl, hb⟩; have sv := svState_newv w2 oState xa; have HB4 := hid hb; clear hb)
  obtain ⟨y, ey⟩ : ∃ y, w2.heap.size = y := ⟨_, rfl⟩
  obtain ⟨Va, hV⟩ : ∃ V, w2.alloc (.cells (cel (sState xa)) 49) = V := ⟨_, rfl⟩
  have HR := hid (show r ≠ y by have h1 := some_lt RW1.out; have h2 := HB4.out.size; omega)
  have HWY := hid (show w1.heap.size ≤ y by have h2 := HB4.out.size; omega)
  have RIa : Hid (RI w1 r y xa Va) := by
    rw [← hV]
    refine ⟨HB4.out.alloc HB4.out.size _, (heap_old (by have h1 := some_lt RW1.out; have h2 := HB4.out.size; omega)).trans ((HB4.out.block r (some_lt RW1.out)).trans RW1.out), ?_⟩
    rw [← ey]
    exact heap_new rfl
  rw [hV, ey]
  clear hV ey sv HRR z HB4 RW1
  obtain ⟨l0, q0⟩ := HP.out _ RIa.out.1 0 (by omega)
  rw [H0.out.l0] at l0 q0
  obtain ⟨A0, eA0⟩ : ∃ a, A 0 = a := ⟨_, rfl⟩
  rw [eA0] at l0 q0
  have ix : ∀ X : World, (ixP (.slice (some ⟨gp, 0, none⟩) 24 24) (.int .i64 0)).run Try.prog X = .ok (.pointer (some ⟨gp, 0, none⟩)) X := fun X => HIX.out 0 X (by omega)
  have hc := wread8 A0 8 (f 0) Va q0 (fun j _ => H0.out.fb 0 j)
  obtain ⟨N, eN⟩ : ∃ N, rdN (f 0) = N := ⟨_, rfl⟩
  rw [eN] at hc
  have HC := hid hc
  have hx := RIa.out
  obtain ⟨cd, ecd⟩ := some_cell hx.2.2 (i := 0) (by omega)
  have fy := row_frozen hx.2.2 0
  clear hc q0 eA0 hx
  go_upto_region 8 with (go_at_call 38; refine HC.out.mono ?_; rintro e w3 ⟨rfl, hw3⟩; obtain rfl := hw3.symm)
  obtain ⟨V0, hV⟩ : ∃ V, Va.setCell ⟨y, 0, none⟩ (.int .u64 N) = V := ⟨_, rfl⟩
  obtain ⟨x0, RI0⟩ : ∃ x, Hid (RI w1 r y x V0) := ⟨{ xa with f0 := N }, by rw [← hV]; exact hid (RIa.out.set HR.out HWY.out 0 _ (st_0 _ N))⟩
  rw [hV]
  clear hV HC ix l0 ecd fy eN
  obtain ⟨l1, q1⟩ := HP.out _ RI0.out.1 1 (by omega)
  rw [H0.out.l1] at l1 q1
  obtain ⟨A1, eA1⟩ : ∃ a, A 1 = a := ⟨_, rfl⟩
  rw [eA1] at l1 q1
  have ix : ∀ X : World, (ixP (.slice (some ⟨gp, 0, none⟩) 24 24) (.int .i64 1)).run Try.prog X = .ok (.pointer (some ⟨gp, 1, none⟩)) X := fun X => HIX.out 1 X (by omega)
  obtain ⟨gb, ob, eg, hgb, hcp, hcs⟩ := bys_at (HP.out w1 (Below.refl _ _) 1 (by omega)).2 (by rw [H0.out.l1]; omega)
  rw [eA1] at eg
  subst eg
  have hne : gb ≠ y := by have := HWY.out; omega
  have HS : Hid (∀ X, Below w1.heap.size w1 X → X.cell? ⟨gp, 1, none⟩ = some (.slice (some ⟨gb, ob, none⟩) 32 32)) := fun X h => by
    have := (HP.out X h 1 (by omega)).1
    rw [H0.out.l1, eA1] at this
    exact this
  have RD : Hid (RI w1 r y x0 V0.drew) := ⟨RI0.out.1.drew, RI0.out.2.1, RI0.out.2.2⟩
  have qd : Bys V0.drew (some ⟨gb, ob, none⟩) 32 32 (f 1) := by
    have h := (HP.out _ RD.out.1 1 (by omega)).2
    rw [H0.out.l1, eA1] at h
    exact h
  obtain ⟨_, _, e9, _, _, hc9⟩ := bys_at qd (by omega)
  cases e9
  have hcopy := copy_in V0.drew y 0 32 ((sState x0).take 1) ((sState x0).drop 2) 32 x0.f1 (f 1) ⟨gb, ob, none⟩ 32 32 32 1 49 (by rw [← split1]; exact RD.out.2.2) (by kernel_rfl) (by omega) (by omega) (fun j hj => by rw [addr_add]; exact hc9 j hj)
  simp only [← split1] at hcopy
  obtain ⟨x1, ex⟩ : ∃ x, { x0 with f1 := fun j => if 0 ≤ j ∧ j < 0 + 32 then f 1 (j - 0) else x0.f1 j } = x := ⟨_, rfl⟩
  rw [ex] at hcopy
  obtain ⟨V1, hV⟩ : ∃ V, V0.drew.setRow y (cel (sState x1)) = V := ⟨_, rfl⟩
  have RI1 : Hid (RI w1 r y x1 V1) := by rw [← hV]; exact RD.out.row HR.out HWY.out
  rw [hV] at hcopy
  have HCP := hid hcopy
  clear hcopy hV ex hc9 hcs hgb hcp hne eA1 q1 qd
  go_upto_region 8 with fail
  refine wp_region_noPanic ?_
  refine wp_region_held_drew (S := fun X => X.cell? ⟨gp, 1, none⟩ = some (.slice (some ⟨gb, ob, none⟩) 32 32)) (by kernel_rfl) (HS.out _ RD.out.1) (fun hHeld => ?_)
  refine tk 0 (v := ?v1) ?y1 hHeld ?r1
  case y1 => intro w hSw; go_simp; try with_reducible rfl
  refine tk 1 (v := ?v2) ?y2 hHeld ?r2
  case y2 => intro w hSw; go_simp; try with_reducible rfl
  refine tk 2 (v := ?v3) ?y3 hHeld ?r3
  case y3 => intro w hSw; go_simp; try with_reducible rfl
  refine tk 3 (v := ?v4) ?y4 hHeld ?r4
  case y4 => intro w hSw; go_simp; try with_reducible rfl
  refine tk 4 (v := ?v5) ?y5 hHeld ?r5
  case y5 => intro w hSw; have ld := hSw; go_simp; try with_reducible rfl
  try simp only [Act.put, List.setIfInBounds_toArray, List.set_cons_zero, List.set_cons_succ, Array.toArray_toList, List.getElem_toArray, List.getElem_cons_zero, List.getElem_cons_succ]
  refine wpAnyH_ready (rs := [5]) (by kernel_rfl) (by simp) ?_
  refine AllReadyH.cons rfl (fun K hK => ?_) AllReadyH.nil
  refine step_copy_is (by rfl) _ _ 39 39 (by rfl) _ _ _ _ (by rfl) (by rfl) HCP.out ?_
  refine hK.out _ _ (HS.out _ RI1.out.1) (fun hHeld => ?_)
  clear hK K
  try simp only [Act.put, List.setIfInBounds_toArray, List.set_cons_zero, List.set_cons_succ, Array.toArray_toList, List.getElem_toArray, List.getElem_cons_zero, List.getElem_cons_succ]
  refine wpAnyH_done (by kernel_rfl) ?_ _
  refine NoPanic.normal ?_
  clear RD HS ix l1 HCP
  obtain ⟨l2, q2⟩ := HP.out _ RI1.out.1 2 (by omega)
  rw [H0.out.l2] at l2 q2
  obtain ⟨A2, eA2⟩ : ∃ a, A 2 = a := ⟨_, rfl⟩
  rw [eA2] at l2 q2
  have ix : ∀ X : World, (ixP (.slice (some ⟨gp, 0, none⟩) 24 24) (.int .i64 2)).run Try.prog X = .ok (.pointer (some ⟨gp, 2, none⟩)) X := fun X => HIX.out 2 X (by omega)
  have hc := wread8 A2 8 (f 2) V1 q2 (fun j _ => H0.out.fb 2 j)
  obtain ⟨N, eN⟩ : ∃ N, rdN (f 2) = N := ⟨_, rfl⟩
  rw [eN] at hc
  have HC := hid hc
  have hx := RI1.out
  obtain ⟨cd, ecd⟩ := some_cell hx.2.2 (i := 33) (by omega)
  have fy := row_frozen hx.2.2 33
  clear hc q2 eA2 hx
  go_upto_region 10 with (go_at_call 38; refine HC.out.mono ?_; rintro e w3 ⟨rfl, hw3⟩; obtain rfl := hw3.symm)
  obtain ⟨V2, hV⟩ : ∃ V, V1.setCell ⟨y, 33, none⟩ (.int .u64 N) = V := ⟨_, rfl⟩
  obtain ⟨x2, RI2, F2⟩ : ∃ x, Hid (RI w1 r y x V2) ∧ Hid (x.f2 = rdN (f 2)) := ⟨{ x1 with f2 := N }, by rw [← hV]; exact hid (RI1.out.set HR.out HWY.out 33 _ (st_2 _ N)), hid (show N = rdN (f 2) from eN.symm)⟩
  rw [hV]
  clear hV HC ix l2 ecd fy eN
  obtain ⟨l3, q3⟩ := HP.out _ RI2.out.1 3 (by omega)
  rw [H0.out.l3] at l3 q3
  obtain ⟨A3, eA3⟩ : ∃ a, A 3 = a := ⟨_, rfl⟩
  rw [eA3] at l3 q3
  have ix : ∀ X : World, (ixP (.slice (some ⟨gp, 0, none⟩) 24 24) (.int .i64 3)).run Try.prog X = .ok (.pointer (some ⟨gp, 3, none⟩)) X := fun X => HIX.out 3 X (by omega)
  have hc := readFork_ok (f 3) A3 16 V2 q3 (fun j => H0.out.fb 3 j) (by omega) (by omega)
  obtain ⟨N, eN⟩ : ∃ N, pFork (f 3) = N := ⟨_, rfl⟩
  rw [eN] at hc
  have HC := hid hc
  clear hc q3 eA3 eN
  go_upto_region 11 with (go_at_call 39; refine HC.out.mono ?_; rintro e w3 ⟨rfl, hb⟩; have hx := RI2.out.below hb; have HX := hid hx; have sv := putSFork hx.2.2 34 N (by omega); clear hb hx)
  obtain ⟨V3, hV⟩ : ∃ V, w3.setCells y 34 (celL (sFork N)) = V := ⟨_, rfl⟩
  obtain ⟨x3, RI3, F3⟩ : ∃ x, Hid (RI w1 r y x V3) ∧ Hid (x.f2 = rdN (f 2)) := ⟨{ x2 with f3 := N }, by rw [← hV]; exact hid (HX.out.put HR.out HWY.out _ (sFork x2.f3) (sFork N) _ (split3 x2 x2.f3) (split3 x2 N) rfl 34 (lenT3 x2)), F2⟩
  rw [hV]
  clear hV HC HX ix l3 sv
  obtain ⟨l4, q4⟩ := HP.out _ RI3.out.1 4 (by omega)
  rw [H0.out.l4] at l4 q4
  obtain ⟨A4, eA4⟩ : ∃ a, A 4 = a := ⟨_, rfl⟩
  rw [eA4] at l4 q4
  have ix : ∀ X : World, (ixP (.slice (some ⟨gp, 0, none⟩) 24 24) (.int .i64 4)).run Try.prog X = .ok (.pointer (some ⟨gp, 4, none⟩)) X := fun X => HIX.out 4 X (by omega)
  have hc := readHeader_ok (f 4) A4 112 V3 q4 (fun j => H0.out.fb 4 j) (by omega) (by omega)
  obtain ⟨N, eN⟩ : ∃ N, pHeader (f 4) = N := ⟨_, rfl⟩
  rw [eN] at hc
  have HC := hid hc
  clear hc q4 eA4 eN
  go_upto_region 12 with (go_at_call 40; refine HC.out.mono ?_; rintro e w3 ⟨rfl, hb⟩; have hx := RI3.out.below hb; have HX := hid hx; have sv := putSHeader hx.2.2 43 N (by omega); clear hb hx)
  obtain ⟨V4, hV⟩ : ∃ V, w3.setCells y 43 (celL (sHeader N)) = V := ⟨_, rfl⟩
  obtain ⟨x4, RI4, F4⟩ : ∃ x, Hid (RI w1 r y x V4) ∧ Hid (x.f2 = rdN (f 2)) := ⟨{ x3 with f4 := N }, by rw [← hV]; exact hid (HX.out.put HR.out HWY.out _ (sHeader x3.f4) (sHeader N) _ (split4 x3 x3.f4) (split4 x3 N) rfl 43 (lenT4 x3)), F3⟩
  rw [hV]
  clear hV HC HX ix l4 sv
  obtain ⟨l5, q5⟩ := HP.out _ RI4.out.1 5 (by omega)
  rw [H0.out.l5] at l5 q5
  obtain ⟨A5, eA5⟩ : ∃ a, A 5 = a := ⟨_, rfl⟩
  rw [eA5] at l5 q5
  have ix : ∀ X : World, (ixP (.slice (some ⟨gp, 0, none⟩) 24 24) (.int .i64 5)).run Try.prog X = .ok (.pointer (some ⟨gp, 5, none⟩)) X := fun X => HIX.out 5 X (by omega)
  obtain ⟨gb, ob, eg, hgb, hcp, hcs⟩ := bys_at (HP.out w1 (Below.refl _ _) 5 (by omega)).2 (by rw [H0.out.l5]; omega)
  rw [eA5] at eg
  subst eg
  have hne : gb ≠ y := by have := HWY.out; omega
  have HS : Hid (∀ X, Below w1.heap.size w1 X → X.cell? ⟨gp, 5, none⟩ = some (.slice (some ⟨gb, ob, none⟩) 256 256)) := fun X h => by
    have := (HP.out X h 5 (by omega)).1
    rw [H0.out.l5, eA5] at this
    exact this
  have RD : Hid (RI w1 r y x4 V4.drew) := ⟨RI4.out.1.drew, RI4.out.2.1, RI4.out.2.2⟩
  have qd : Bys V4.drew (some ⟨gb, ob, none⟩) 256 256 (f 5) := by
    have h := (HP.out _ RD.out.1 5 (by omega)).2
    rw [H0.out.l5, eA5] at h
    exact h
  have hc := fill5 (f 5) RD.out.2.2 qd hne
  have HC := hid hc
  clear hc hcs hgb hcp hne eA5 q5 qd
  go_upto_region 12 with fail
  refine wp_region_noPanic ?_
  refine wp_region_held_drew (S := fun X => X.cell? ⟨gp, 5, none⟩ = some (.slice (some ⟨gb, ob, none⟩) 256 256)) (by kernel_rfl) (HS.out _ RD.out.1) (fun hHeld => ?_)
  refine tk 0 (v := ?v6) ?y6 hHeld ?r6
  case y6 => intro w hSw; go_simp; try with_reducible rfl
  refine tk 1 (v := ?v7) ?y7 hHeld ?r7
  case y7 => intro w hSw; go_simp; try with_reducible rfl
  refine tk 2 (v := ?v8) ?y8 hHeld ?r8
  case y8 => intro w hSw; go_simp; try with_reducible rfl
  refine tk 3 (v := ?v9) ?y9 hHeld ?r9
  case y9 => intro w hSw; go_simp; try with_reducible rfl
  refine tk 4 (v := ?v10) ?y10 hHeld ?r10
  case y10 => intro w hSw; have ld := hSw; go_simp; try with_reducible rfl
  try simp only [Act.put, List.setIfInBounds_toArray, List.set_cons_zero, List.set_cons_succ, Array.toArray_toList, List.getElem_toArray, List.getElem_cons_zero, List.getElem_cons_succ]
  refine wpAnyH_ready (rs := [5]) (by kernel_rfl) (by simp) ?_
  refine AllReadyH.cons rfl (fun K hK => ?_) AllReadyH.nil
  go_simp
  refine (HC.out).mono ?_
  rintro e V5 ⟨rfl, hkp, u3, hn3⟩
  dsimp only
  obtain ⟨x5, RI5, F5⟩ : ∃ x, Hid (RI w1 r y x V5) ∧ Hid (x.f2 = rdN (f 2)) := ⟨{ x4 with f5 := u3 }, hid (RD.out.kept HR.out HWY.out hkp hn3), F4⟩
  clear hkp hn3
  refine hK.out _ _ (HS.out _ RI5.out.1) (fun hHeld => ?_)
  clear hK K
  try simp only [Act.put, List.setIfInBounds_toArray, List.set_cons_zero, List.set_cons_succ, Array.toArray_toList, List.getElem_toArray, List.getElem_cons_zero, List.getElem_cons_succ]
  refine wpAnyH_done (by kernel_rfl) ?_ _
  refine NoPanic.normal ?_
  clear RD HS ix l5 HC
  obtain ⟨l6, q6⟩ := HP.out _ RI5.out.1 6 (by omega)
  rw [H0.out.l6] at l6 q6
  obtain ⟨A6, eA6⟩ : ∃ a, A 6 = a := ⟨_, rfl⟩
  rw [eA6] at l6 q6
  have ix : ∀ X : World, (ixP (.slice (some ⟨gp, 0, none⟩) 24 24) (.int .i64 6)).run Try.prog X = .ok (.pointer (some ⟨gp, 6, none⟩)) X := fun X => HIX.out 6 X (by omega)
  obtain ⟨gb, ob, eg, hgb, hcp, hcs⟩ := bys_at (HP.out w1 (Below.refl _ _) 6 (by omega)).2 (by rw [H0.out.l6]; omega)
  rw [eA6] at eg
  subst eg
  have hne : gb ≠ y := by have := HWY.out; omega
  have HS : Hid (∀ X, Below w1.heap.size w1 X → X.cell? ⟨gp, 6, none⟩ = some (.slice (some ⟨gb, ob, none⟩) 256 256)) := fun X h => by
    have := (HP.out X h 6 (by omega)).1
    rw [H0.out.l6, eA6] at this
    exact this
  have RD : Hid (RI w1 r y x5 V5.drew) := ⟨RI5.out.1.drew, RI5.out.2.1, RI5.out.2.2⟩
  have qd : Bys V5.drew (some ⟨gb, ob, none⟩) 256 256 (f 6) := by
    have h := (HP.out _ RD.out.1 6 (by omega)).2
    rw [H0.out.l6, eA6] at h
    exact h
  have hc := fill6 (f 6) RD.out.2.2 qd hne
  have HC := hid hc
  clear hc hcs hgb hcp hne eA6 q6 qd
  go_upto_region 13 with fail
  refine wp_region_noPanic ?_
  refine wp_region_held_drew (S := fun X => X.cell? ⟨gp, 6, none⟩ = some (.slice (some ⟨gb, ob, none⟩) 256 256)) (by kernel_rfl) (HS.out _ RD.out.1) (fun hHeld => ?_)
  refine tk 0 (v := ?v11) ?y11 hHeld ?r11
  case y11 => intro w hSw; go_simp; try with_reducible rfl
  refine tk 1 (v := ?v12) ?y12 hHeld ?r12
  case y12 => intro w hSw; go_simp; try with_reducible rfl
  refine tk 2 (v := ?v13) ?y13 hHeld ?r13
  case y13 => intro w hSw; go_simp; try with_reducible rfl
  refine tk 3 (v := ?v14) ?y14 hHeld ?r14
  case y14 => intro w hSw; go_simp; try with_reducible rfl
  refine tk 4 (v := ?v15) ?y15 hHeld ?r15
  case y15 => intro w hSw; have ld := hSw; go_simp; try with_reducible rfl
  try simp only [Act.put, List.setIfInBounds_toArray, List.set_cons_zero, List.set_cons_succ, Array.toArray_toList, List.getElem_toArray, List.getElem_cons_zero, List.getElem_cons_succ]
  refine wpAnyH_ready (rs := [5]) (by kernel_rfl) (by simp) ?_
  refine AllReadyH.cons rfl (fun K hK => ?_) AllReadyH.nil
  go_simp
  refine (HC.out).mono ?_
  rintro e V6 ⟨rfl, hkp, u3, hn3⟩
  dsimp only
  obtain ⟨x6, RI6, F6⟩ : ∃ x, Hid (RI w1 r y x V6) ∧ Hid (x.f2 = rdN (f 2)) := ⟨{ x5 with f6 := u3 }, hid (RD.out.kept HR.out HWY.out hkp hn3), F5⟩
  clear hkp hn3
  refine hK.out _ _ (HS.out _ RI6.out.1) (fun hHeld => ?_)
  clear hK K
  try simp only [Act.put, List.setIfInBounds_toArray, List.set_cons_zero, List.set_cons_succ, Array.toArray_toList, List.getElem_toArray, List.getElem_cons_zero, List.getElem_cons_succ]
  refine wpAnyH_done (by kernel_rfl) ?_ _
  refine NoPanic.normal ?_
  clear RD HS ix l6 HC
  obtain ⟨l8, q8⟩ := HP.out _ RI6.out.1 8 (by omega)
  rw [H0.out.l8] at l8 q8
  obtain ⟨A8, eA8⟩ : ∃ a, A 8 = a := ⟨_, rfl⟩
  rw [eA8] at l8 q8
  have ix : ∀ X : World, (ixP (.slice (some ⟨gp, 0, none⟩) 24 24) (.int .i64 8)).run Try.prog X = .ok (.pointer (some ⟨gp, 8, none⟩)) X := fun X => HIX.out 8 X (by omega)
  have hc := readEth1_ok (f 8) A8 72 V6 q8 (fun j => H0.out.fb 8 j) (by omega) (by omega)
  obtain ⟨N, eN⟩ : ∃ N, pEth1 (f 8) = N := ⟨_, rfl⟩
  rw [eN] at hc
  have HC := hid hc
  clear hc q8 eA8 eN
  go_upto_region 15 with (go_at_call 42; refine HC.out.mono ?_; rintro e w3 ⟨rfl, hb⟩; have hx := RI6.out.below hb; have HX := hid hx; have sv := putSEth1 hx.2.2 654 N (by omega); clear hb hx)
  obtain ⟨V7, hV⟩ : ∃ V, w3.setCells y 654 (celL (sEth1 N)) = V := ⟨_, rfl⟩
  obtain ⟨x7, RI7, F7⟩ : ∃ x, Hid (RI w1 r y x V7) ∧ Hid (x.f2 = rdN (f 2)) := ⟨{ x6 with f8 := N }, by rw [← hV]; exact hid (HX.out.put HR.out HWY.out _ (sEth1 x6.f8) (sEth1 N) _ (split8 x6 x6.f8) (split8 x6 N) rfl 654 (lenT8 x6)), F6⟩
  rw [hV]
  clear hV HC HX ix l8 sv
  obtain ⟨l10, q10⟩ := HP.out _ RI7.out.1 10 (by omega)
  rw [H0.out.l10] at l10 q10
  obtain ⟨A10, eA10⟩ : ∃ a, A 10 = a := ⟨_, rfl⟩
  rw [eA10] at l10 q10
  have ix : ∀ X : World, (ixP (.slice (some ⟨gp, 0, none⟩) 24 24) (.int .i64 10)).run Try.prog X = .ok (.pointer (some ⟨gp, 10, none⟩)) X := fun X => HIX.out 10 X (by omega)
  have hc := wread8 A10 8 (f 10) V7 q10 (fun j _ => H0.out.fb 10 j)
  obtain ⟨N, eN⟩ : ∃ N, rdN (f 10) = N := ⟨_, rfl⟩
  rw [eN] at hc
  have HC := hid hc
  have hx := RI7.out
  obtain ⟨cd, ecd⟩ := some_cell hx.2.2 (i := 720) (by omega)
  have fy := row_frozen hx.2.2 720
  clear hc q10 eA10 hx
  go_upto_region 16 with (go_at_call 38; refine HC.out.mono ?_; rintro e w3 ⟨rfl, hw3⟩; obtain rfl := hw3.symm)
  obtain ⟨V8, hV⟩ : ∃ V, V7.setCell ⟨y, 720, none⟩ (.int .u64 N) = V := ⟨_, rfl⟩
  obtain ⟨x8, RI8, F8⟩ : ∃ x, Hid (RI w1 r y x V8) ∧ Hid (x.f2 = rdN (f 2)) := ⟨{ x7 with f10 := N }, by rw [← hV]; exact hid (RI7.out.set HR.out HWY.out 720 _ (st_10 _ N)), F7⟩
  rw [hV]
  clear hV HC ix l10 ecd fy eN
  obtain ⟨l13, q13⟩ := HP.out _ RI8.out.1 13 (by omega)
  rw [H0.out.l13] at l13 q13
  obtain ⟨A13, eA13⟩ : ∃ a, A 13 = a := ⟨_, rfl⟩
  rw [eA13] at l13 q13
  have ix : ∀ X : World, (ixP (.slice (some ⟨gp, 0, none⟩) 24 24) (.int .i64 13)).run Try.prog X = .ok (.pointer (some ⟨gp, 13, none⟩)) X := fun X => HIX.out 13 X (by omega)
  obtain ⟨gb, ob, eg, hgb, hcp, hcs⟩ := bys_at (HP.out w1 (Below.refl _ _) 13 (by omega)).2 (by rw [H0.out.l13]; omega)
  rw [eA13] at eg
  subst eg
  have hne : gb ≠ y := by have := HWY.out; omega
  have HS : Hid (∀ X, Below w1.heap.size w1 X → X.cell? ⟨gp, 13, none⟩ = some (.slice (some ⟨gb, ob, none⟩) 256 256)) := fun X h => by
    have := (HP.out X h 13 (by omega)).1
    rw [H0.out.l13, eA13] at this
    exact this
  have RD : Hid (RI w1 r y x8 V8.drew) := ⟨RI8.out.1.drew, RI8.out.2.1, RI8.out.2.2⟩
  have qd : Bys V8.drew (some ⟨gb, ob, none⟩) 256 256 (f 13) := by
    have h := (HP.out _ RD.out.1 13 (by omega)).2
    rw [H0.out.l13, eA13] at h
    exact h
  have hc := fill13 (f 13) RD.out.2.2 qd hne
  have HC := hid hc
  clear hc hcs hgb hcp hne eA13 q13 qd
  go_upto_region 16 with fail
  refine wp_region_noPanic ?_
  refine wp_region_held_drew (S := fun X => X.cell? ⟨gp, 13, none⟩ = some (.slice (some ⟨gb, ob, none⟩) 256 256)) (by kernel_rfl) (HS.out _ RD.out.1) (fun hHeld => ?_)
  refine tk 0 (v := ?v16) ?y16 hHeld ?r16
  case y16 => intro w hSw; go_simp; try with_reducible rfl
  refine tk 1 (v := ?v17) ?y17 hHeld ?r17
  case y17 => intro w hSw; go_simp; try with_reducible rfl
  refine tk 2 (v := ?v18) ?y18 hHeld ?r18
  case y18 => intro w hSw; go_simp; try with_reducible rfl
  refine tk 3 (v := ?v19) ?y19 hHeld ?r19
  case y19 => intro w hSw; go_simp; try with_reducible rfl
  refine tk 4 (v := ?v20) ?y20 hHeld ?r20
  case y20 => intro w hSw; have ld := hSw; go_simp; try with_reducible rfl
  try simp only [Act.put, List.setIfInBounds_toArray, List.set_cons_zero, List.set_cons_succ, Array.toArray_toList, List.getElem_toArray, List.getElem_cons_zero, List.getElem_cons_succ]
  refine wpAnyH_ready (rs := [5]) (by kernel_rfl) (by simp) ?_
  refine AllReadyH.cons rfl (fun K hK => ?_) AllReadyH.nil
  go_simp
  refine (HC.out).mono ?_
  rintro e V9 ⟨rfl, hkp, u3, hn3⟩
  dsimp only
  obtain ⟨x9, RI9, F9⟩ : ∃ x, Hid (RI w1 r y x V9) ∧ Hid (x.f2 = rdN (f 2)) := ⟨{ x8 with f13 := u3 }, hid (RD.out.kept HR.out HWY.out hkp hn3), F8⟩
  clear hkp hn3
  refine hK.out _ _ (HS.out _ RI9.out.1) (fun hHeld => ?_)
  clear hK K
  try simp only [Act.put, List.setIfInBounds_toArray, List.set_cons_zero, List.set_cons_succ, Array.toArray_toList, List.getElem_toArray, List.getElem_cons_zero, List.getElem_cons_succ]
  refine wpAnyH_done (by kernel_rfl) ?_ _
  refine NoPanic.normal ?_
  clear RD HS ix l13 HC
  obtain ⟨l14, q14⟩ := HP.out _ RI9.out.1 14 (by omega)
  rw [H0.out.l14] at l14 q14
  obtain ⟨A14, eA14⟩ : ∃ a, A 14 = a := ⟨_, rfl⟩
  rw [eA14] at l14 q14
  have ix : ∀ X : World, (ixP (.slice (some ⟨gp, 0, none⟩) 24 24) (.int .i64 14)).run Try.prog X = .ok (.pointer (some ⟨gp, 14, none⟩)) X := fun X => HIX.out 14 X (by omega)
  obtain ⟨gb, ob, eg, hgb, hcp, hcs⟩ := bys_at (HP.out w1 (Below.refl _ _) 14 (by omega)).2 (by rw [H0.out.l14]; omega)
  rw [eA14] at eg
  subst eg
  have hne : gb ≠ y := by have := HWY.out; omega
  have HS : Hid (∀ X, Below w1.heap.size w1 X → X.cell? ⟨gp, 14, none⟩ = some (.slice (some ⟨gb, ob, none⟩) 64 64)) := fun X h => by
    have := (HP.out X h 14 (by omega)).1
    rw [H0.out.l14, eA14] at this
    exact this
  have RD : Hid (RI w1 r y x9 V9.drew) := ⟨RI9.out.1.drew, RI9.out.2.1, RI9.out.2.2⟩
  have qd : Bys V9.drew (some ⟨gb, ob, none⟩) 64 64 (f 14) := by
    have h := (HP.out _ RD.out.1 14 (by omega)).2
    rw [H0.out.l14, eA14] at h
    exact h
  have hc := fillN x9 (f 14) y gb ob 64 49 V9.drew RD.out.2.2 qd (fun j => H0.out.fb 14 j) hne
  have HC := hid hc
  clear hc hcs hgb hcp hne eA14 q14 qd
  go_upto_region 17 with fail
  refine wp_region_noPanic ?_
  refine wp_region_held_drew (S := fun X => X.cell? ⟨gp, 14, none⟩ = some (.slice (some ⟨gb, ob, none⟩) 64 64)) (by kernel_rfl) (HS.out _ RD.out.1) (fun hHeld => ?_)
  refine tk 0 (v := ?v21) ?y21 hHeld ?r21
  case y21 => intro w hSw; go_simp; try with_reducible rfl
  refine tk 1 (v := ?v22) ?y22 hHeld ?r22
  case y22 => intro w hSw; go_simp; try with_reducible rfl
  refine tk 2 (v := ?v23) ?y23 hHeld ?r23
  case y23 => intro w hSw; go_simp; try with_reducible rfl
  refine tk 3 (v := ?v24) ?y24 hHeld ?r24
  case y24 => intro w hSw; go_simp; try with_reducible rfl
  refine tk 4 (v := ?v25) ?y25 hHeld ?r25
  case y25 => intro w hSw; have ld := hSw; go_simp; try with_reducible rfl
  try simp only [Act.put, List.setIfInBounds_toArray, List.set_cons_zero, List.set_cons_succ, Array.toArray_toList, List.getElem_toArray, List.getElem_cons_zero, List.getElem_cons_succ]
  refine wpAnyH_ready (rs := [5]) (by kernel_rfl) (by simp) ?_
  refine AllReadyH.cons rfl (fun K hK => ?_) AllReadyH.nil
  go_simp
  refine (HC.out).mono ?_
  rintro e V10 ⟨rfl, hkp, u3, hn3⟩
  dsimp only
  obtain ⟨x10, RI10, F10⟩ : ∃ x, Hid (RI w1 r y x V10) ∧ Hid (x.f2 = rdN (f 2)) := ⟨{ x9 with f14 := u3 }, hid (RD.out.kept HR.out HWY.out hkp hn3), F9⟩
  clear hkp hn3
  refine hK.out _ _ (HS.out _ RI10.out.1) (fun hHeld => ?_)
  clear hK K
  try simp only [Act.put, List.setIfInBounds_toArray, List.set_cons_zero, List.set_cons_succ, Array.toArray_toList, List.getElem_toArray, List.getElem_cons_zero, List.getElem_cons_succ]
  refine wpAnyH_done (by kernel_rfl) ?_ _
  refine NoPanic.normal ?_
  clear RD HS ix l14 HC
  obtain ⟨l18, q18⟩ := HP.out _ RI10.out.1 18 (by omega)
  rw [H0.out.l18] at l18 q18
  obtain ⟨A18, eA18⟩ : ∃ a, A 18 = a := ⟨_, rfl⟩
  rw [eA18] at l18 q18
  have ix : ∀ X : World, (ixP (.slice (some ⟨gp, 0, none⟩) 24 24) (.int .i64 18)).run Try.prog X = .ok (.pointer (some ⟨gp, 18, none⟩)) X := fun X => HIX.out 18 X (by omega)
  have hc := readCheckpoint_ok (f 18) A18 40 V10 q18 (fun j => H0.out.fb 18 j) (by omega) (by omega)
  obtain ⟨N, eN⟩ : ∃ N, pCheckpoint (f 18) = N := ⟨_, rfl⟩
  rw [eN] at hc
  have HC := hid hc
  clear hc q18 eA18 eN
  go_upto_region 19 with (go_at_call 44; refine HC.out.mono ?_; rintro e w3 ⟨rfl, hb⟩; have hx := RI10.out.below hb; have HX := hid hx; have sv := putSCheckpoint hx.2.2 993 N (by omega); clear hb hx)
  obtain ⟨V11, hV⟩ : ∃ V, w3.setCells y 993 (celL (sCheckpoint N)) = V := ⟨_, rfl⟩
  obtain ⟨x11, RI11, F11⟩ : ∃ x, Hid (RI w1 r y x V11) ∧ Hid (x.f2 = rdN (f 2)) := ⟨{ x10 with f18 := N }, by rw [← hV]; exact hid (HX.out.put HR.out HWY.out _ (sCheckpoint x10.f18) (sCheckpoint N) _ (split18 x10 x10.f18) (split18 x10 N) rfl 993 (lenT18 x10)), F10⟩
  rw [hV]
  clear hV HC HX ix l18 sv
  obtain ⟨l19, q19⟩ := HP.out _ RI11.out.1 19 (by omega)
  rw [H0.out.l19] at l19 q19
  obtain ⟨A19, eA19⟩ : ∃ a, A 19 = a := ⟨_, rfl⟩
  rw [eA19] at l19 q19
  have ix : ∀ X : World, (ixP (.slice (some ⟨gp, 0, none⟩) 24 24) (.int .i64 19)).run Try.prog X = .ok (.pointer (some ⟨gp, 19, none⟩)) X := fun X => HIX.out 19 X (by omega)
  have hc := readCheckpoint_ok (f 19) A19 40 V11 q19 (fun j => H0.out.fb 19 j) (by omega) (by omega)
  obtain ⟨N, eN⟩ : ∃ N, pCheckpoint (f 19) = N := ⟨_, rfl⟩
  rw [eN] at hc
  have HC := hid hc
  clear hc q19 eA19 eN
  go_upto_region 20 with (go_at_call 44; refine HC.out.mono ?_; rintro e w3 ⟨rfl, hb⟩; have hx := RI11.out.below hb; have HX := hid hx; have sv := putSCheckpoint hx.2.2 1026 N (by omega); clear hb hx)
  obtain ⟨V12, hV⟩ : ∃ V, w3.setCells y 1026 (celL (sCheckpoint N)) = V := ⟨_, rfl⟩
  obtain ⟨x12, RI12, F12⟩ : ∃ x, Hid (RI w1 r y x V12) ∧ Hid (x.f2 = rdN (f 2)) := ⟨{ x11 with f19 := N }, by rw [← hV]; exact hid (HX.out.put HR.out HWY.out _ (sCheckpoint x11.f19) (sCheckpoint N) _ (split19 x11 x11.f19) (split19 x11 N) rfl 1026 (lenT19 x11)), F11⟩
  rw [hV]
  clear hV HC HX ix l19 sv
  obtain ⟨l20, q20⟩ := HP.out _ RI12.out.1 20 (by omega)
  rw [H0.out.l20] at l20 q20
  obtain ⟨A20, eA20⟩ : ∃ a, A 20 = a := ⟨_, rfl⟩
  rw [eA20] at l20 q20
  have ix : ∀ X : World, (ixP (.slice (some ⟨gp, 0, none⟩) 24 24) (.int .i64 20)).run Try.prog X = .ok (.pointer (some ⟨gp, 20, none⟩)) X := fun X => HIX.out 20 X (by omega)
  have hc := readCheckpoint_ok (f 20) A20 40 V12 q20 (fun j => H0.out.fb 20 j) (by omega) (by omega)
  obtain ⟨N, eN⟩ : ∃ N, pCheckpoint (f 20) = N := ⟨_, rfl⟩
  rw [eN] at hc
  have HC := hid hc
  clear hc q20 eA20 eN
  go_upto_region 21 with (go_at_call 44; refine HC.out.mono ?_; rintro e w3 ⟨rfl, hb⟩; have hx := RI12.out.below hb; have HX := hid hx; have sv := putSCheckpoint hx.2.2 1059 N (by omega); clear hb hx)
  obtain ⟨V13, hV⟩ : ∃ V, w3.setCells y 1059 (celL (sCheckpoint N)) = V := ⟨_, rfl⟩
  obtain ⟨x13, RI13, F13⟩ : ∃ x, Hid (RI w1 r y x V13) ∧ Hid (x.f2 = rdN (f 2)) := ⟨{ x12 with f20 := N }, by rw [← hV]; exact hid (HX.out.put HR.out HWY.out _ (sCheckpoint x12.f20) (sCheckpoint N) _ (split20 x12 x12.f20) (split20 x12 N) rfl 1059 (lenT20 x12)), F12⟩
  rw [hV]
  clear hV HC HX ix l20 sv
  obtain ⟨l22, q22⟩ := HP.out _ RI13.out.1 22 (by omega)
  rw [H0.out.l22] at l22 q22
  obtain ⟨A22, eA22⟩ : ∃ a, A 22 = a := ⟨_, rfl⟩
  rw [eA22] at l22 q22
  have ix : ∀ X : World, (ixP (.slice (some ⟨gp, 0, none⟩) 24 24) (.int .i64 22)).run Try.prog X = .ok (.pointer (some ⟨gp, 22, none⟩)) X := fun X => HIX.out 22 X (by omega)
  have hc := readCommittee_ok (f 22) A22 432 V13 q22 (fun j => H0.out.fb 22 j) (by omega) (by omega)
  obtain ⟨N, eN⟩ : ∃ N, pCommittee (f 22) = N := ⟨_, rfl⟩
  rw [eN] at hc
  have HC := hid hc
  clear hc q22 eA22 eN
  go_upto_region 22 with (go_at_call 45; refine HC.out.mono ?_; rintro e w3 ⟨rfl, hb⟩; have hx := RI13.out.below hb; have HX := hid hx; have sv := putSCommittee hx.2.2 1093 N (by omega); clear hb hx)
  obtain ⟨V14, hV⟩ : ∃ V, w3.setCells y 1093 (celL (sCommittee N)) = V := ⟨_, rfl⟩
  obtain ⟨x14, RI14, F14⟩ : ∃ x, Hid (RI w1 r y x V14) ∧ Hid (x.f2 = rdN (f 2)) := ⟨{ x13 with f22 := N }, by rw [← hV]; exact hid (HX.out.put HR.out HWY.out _ (sCommittee x13.f22) (sCommittee N) _ (split22 x13 x13.f22) (split22 x13 N) rfl 1093 (lenT22 x13)), F13⟩
  rw [hV]
  clear hV HC HX ix l22 sv
  obtain ⟨l23, q23⟩ := HP.out _ RI14.out.1 23 (by omega)
  rw [H0.out.l23] at l23 q23
  obtain ⟨A23, eA23⟩ : ∃ a, A 23 = a := ⟨_, rfl⟩
  rw [eA23] at l23 q23
  have ix : ∀ X : World, (ixP (.slice (some ⟨gp, 0, none⟩) 24 24) (.int .i64 23)).run Try.prog X = .ok (.pointer (some ⟨gp, 23, none⟩)) X := fun X => HIX.out 23 X (by omega)
  have hc := readCommittee_ok (f 23) A23 432 V14 q23 (fun j => H0.out.fb 23 j) (by omega) (by omega)
  obtain ⟨N, eN⟩ : ∃ N, pCommittee (f 23) = N := ⟨_, rfl⟩
  rw [eN] at hc
  have HC := hid hc
  clear hc q23 eA23 eN
  go_upto_region 23 with (go_at_call 45; refine HC.out.mono ?_; rintro e w3 ⟨rfl, hb⟩; have hx := RI14.out.below hb; have HX := hid hx; have sv := putSCommittee hx.2.2 1525 N (by omega); clear hb hx)
  obtain ⟨V15, hV⟩ : ∃ V, w3.setCells y 1525 (celL (sCommittee N)) = V := ⟨_, rfl⟩
  obtain ⟨x15, RI15, F15⟩ : ∃ x, Hid (RI w1 r y x V15) ∧ Hid (x.f2 = rdN (f 2)) := ⟨{ x14 with f23 := N }, by rw [← hV]; exact hid (HX.out.put HR.out HWY.out _ (sCommittee x14.f23) (sCommittee N) _ (split23 x14 x14.f23) (split23 x14 N) rfl 1525 (lenT23 x14)), F14⟩
  rw [hV]
  clear hV HC HX ix l23 sv
  have lv := lvState_run RI15.out.2.2
  have sv := svState_run RI15.out.2.1 x15
  go_wp2
  refine retState _ _ r _ 49 _ rfl rfl rfl rfl (setRow_at RI15.out.2.1) ⟨x15, rfl, F15.out, ?_⟩
  exact below_row (HB1.out.trans ((HB3.out.trans (RI15.out.1.mono HB3.out.size)).mono HB1.out.size)) HWR.out _

end Go.Proofs.Ytehpfemlcjcabaa
