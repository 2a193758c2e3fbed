/-
  Parts laid by sizes that none of them is open; the value of a ProposerSlashing, what Enc answers.
-/
import Derived.Test.YtbbpnbdgcaamoaaDoorOpA
import Derived.Test.YtbbpnbdgcaamoaaDoorTeSignedHeader
namespace Go.Proofs.YtbbpnbdgcaamoaaDoor
open Go.RowKit
set_option linter.unusedVariables false
set_option linter.unusedSimpArgs false
set_option maxRecDepth 20000

/-- Parts laid, each with its size. -/
theorem olayF (ps : List Pt) (zs : Nat → Int) (n g sa : Nat) (w : World) (hn : ps.length = n) (h1 : 1 ≤ n) (h2 : n ≤ 64) (hz : ∀ r, r < n → zs r = ((ps.getD r nilP).2.1 : Int) ∧ 1 ≤ (ps.getD r nilP).2.1 ∧ (ps.getD r nilP).2.1 ≤ 65536) (hg : w.heap[g]? = some (.cells (ps.map ptv).toArray 34)) (hs : w.heap[sa]? = some (.cells (vs .i64 n zs) 3)) (hb : ∀ r, r < n → Bys w (ps.getD r nilP).1 (ps.getD r nilP).2.1 (ps.getD r nilP).2.2.1 (ps.getD r nilP).2.2.2) (ht : ln7 (ps.map ptb) < 4294967296) :
    Calls Tryd.prog 25 #[.slice (some ⟨g, 0, none⟩) n n, .slice (some ⟨sa, 0, none⟩) n n] w fun e w' => ∃ v, e = .returned (.tuple #[v, .int .i64 0]) ∧ w'.ownsRow w.heap.size 5 1 v (ln7 (ps.map ptb)) (bl (ct7 (ps.map ptb)) (ln7 (ps.map ptb))) ∧ Below w.heap.size w w' := by
  have hz0 : ∀ r, r < ps.length → zs r ≠ 0 := fun r hr => by have := hz r (by omega); omega
  have eh := lay_hdL ps zs (fun r hr => ⟨(hz r (by omega)).1, (hz r (by omega)).2.1⟩) ps.length (Nat.le_refl _)
  rw [List.take_of_length_le (Nat.le_refl _), hn] at eh
  have el := lay_lo zs (fun r => (ps.getD r nilP).2.2.2) (fun r => (ps.getD r nilP).2.1) n (fun r hr => hz0 r (by omega))
  have ec := lay_head ps zs (Z.hdL zs n) hz0 ps.length (Nat.le_refl _)
  rw [List.take_of_length_le (Nat.le_refl _), hn] at ec
  have h := olay ps zs n g sa w hn (Z.szB_true h1 h2 (fun i hi => ⟨by have := hz i hi; omega, by have := hz i hi; omega⟩)) hg hs hb (fun r hr => (hz r hr).2.2) (fun r hr _ => ((hz r hr).1).symm) (by rw [eh, el.1]; omega)
  have e3 : Z.layC zs (fun r => (ps.getD r nilP).2.2.2) (fun r => (ps.getD r nilP).2.1) n = cl7 (ps.map ptb) := by
    unfold Z.layC
    rw [el.2, List.append_nil]
    exact ec
  rw [el.1, Nat.add_zero, eh, e3, ← bl_ct7] at h
  exact h

/-- A ProposerSlashing. -/
structure VProposerSlashing where
  f0 : VSignedHeader
  f1 : VSignedHeader
def sProposerSlashing (x : VProposerSlashing) : List Seg := sSignedHeader x.f0 ++ sSignedHeader x.f1
def OkProposerSlashing (x : VProposerSlashing) : Prop := OkSignedHeader x.f0 ∧ OkSignedHeader x.f1
def eProposerSlashing (x : VProposerSlashing) : List (Nat × (Nat → Int)) := [(208, ct7 (eSignedHeader x.f0)), (208, ct7 (eSignedHeader x.f1))]
/-- The value of nothing but zeros; the value that bytes are. -/
def oProposerSlashing : VProposerSlashing := ⟨oSignedHeader, oSignedHeader⟩
def pProposerSlashing (m : Nat → Int) : VProposerSlashing := ⟨pSignedHeader (fun q => m (0 + q)), pSignedHeader (fun q => m (208 + q))⟩
def zProposerSlashing : Nat → Int := zl7 [208, 208]
theorem fixProposerSlashing : FixS zProposerSlashing 2 416 := ⟨by kernel_rfl, by kernel_rfl, by kernel_rfl, fun r hr => by
  rcases (by omega : r = 0 ∨ r = 1) with rfl | rfl
  all_goals (intro h; exact absurd h (by decide))⟩
theorem zposProposerSlashing (r : Nat) (hr : r < 2) : 0 < zProposerSlashing r := by
  rcases (by omega : r = 0 ∨ r = 1) with rfl | rfl
  all_goals decide
theorem bsI_ProposerSlashing (W : World) : (bsI 2 #[(0, .int .i64 208), (1, .int .i64 208)]).run Tryd.prog W = .ok (.slice (some ⟨W.heap.size, 0, none⟩) 2 2) (W.alloc (.cells (vs .i64 2 zProposerSlashing) 3)) := by kernel_rfl
def svProposerSlashing (a : Addr) (v : Value) : Sem Unit := storeVar 49 a v
theorem svProposerSlashing_eq (a : Addr) (v : Value) : storeVar 49 a v = svProposerSlashing a v := rfl
def bdProposerSlashing (ps : Array (Nat × Value)) : Sem Value := Instr.build 49 ps
theorem bdProposerSlashing_eq (ps : Array (Nat × Value)) : Instr.build 49 ps = bdProposerSlashing ps := rfl
theorem bdProposerSlashing_0 (W : World) : (bdProposerSlashing #[]).run Tryd.prog W = .ok (.agg (cel (sProposerSlashing oProposerSlashing))) W := by kernel_rfl
theorem zeroProposerSlashing (W : World) : (zeroValue 49).run Tryd.prog W = .ok (.agg (cel (sProposerSlashing oProposerSlashing))) W := by kernel_rfl
set_option maxRecDepth 20000 in
theorem slProposerSlashing (x : VProposerSlashing) : slen (sProposerSlashing x) = 388 := rfl
theorem svProposerSlashing_run {w : World} {b : Nat} {o : VProposerSlashing} {t : TypeId} (h : w.heap[b]? = some (.cells (cel (sProposerSlashing o)) t)) (c : VProposerSlashing) : (svProposerSlashing ⟨b, 0, none⟩ (.agg (cel (sProposerSlashing c)))).run Tryd.prog w = .ok () (w.setRow b (cel (sProposerSlashing c))) :=
  run_storeVar_row w b t 49 _ _ h (by rw [cel_size, slProposerSlashing]; kernel_rfl) (by rw [cel_size, cel_size, slProposerSlashing, slProposerSlashing]) (cel_one _)
theorem svProposerSlashing_newv (W : World) (o c : VProposerSlashing) : (svProposerSlashing ⟨W.heap.size, 0, none⟩ (.agg (cel (sProposerSlashing c)))).run Tryd.prog (W.alloc (.cells (cel (sProposerSlashing o)) 49)) = .ok () (W.alloc (.cells (cel (sProposerSlashing c)) 49)) :=
  run_storeVar_new W 49 _ _ (by rw [cel_size, slProposerSlashing]; kernel_rfl) (by rw [cel_size, cel_size, slProposerSlashing, slProposerSlashing]) (cel_one _)
theorem retProposerSlashing {fn : Func} {R : Ending → World → Prop} {a : Act} {w' : World} (t s : Tmp) (b : Nat) (c : VProposerSlashing) (ty : TypeId) (v : Value) (h : fn.results = #[.cell t 49, .tmp s]) (hd : a.defers = []) (ht : a.tmps.getD t undef = .pointer (some ⟨b, 0, none⟩)) (hs : a.tmps.getD s undef = v) (hr : w'.heap[b]? = some (.cells (cel (sProposerSlashing c)) ty))
    (hR : R (.returned (.tuple #[.agg (cel (sProposerSlashing c)), v])) w') : bodyPost Tryd.prog fn R .ret a w' := by
  refine bodyPost_ret ?_ hd hR
  have hl := loadAt_var (load_row (P := Tryd.prog) hr 49 _ Tryd.underlying49 rfl (by rw [cel_size, slProposerSlashing]; kernel_rfl))
  rw [Array.getD_eq_getD_getElem?] at ht hs
  simp [results, h, ht, hs, hl, asAddr]
theorem psz_any (w : World) :
    Calls Tryd.prog 48 #[] w fun e w' => e = .returned (.slice (some ⟨w.heap.size, 0, none⟩) 2 2) ∧ w' = w.alloc (.cells (vs .i64 2 zProposerSlashing) 3) := by
  go_enter Tryd.func48, Tryd.ntmps48
  go_wp2
  go_ret
  exact ⟨rfl, rfl⟩

attribute [local go_sem ↓] bsP_eq lvSignedHeader_eq

set_option maxHeartbeats 2000000 in
theorem encProposerSlashing_any (x : VProposerSlashing) (w : World) (hx : OkProposerSlashing x) :
    Calls Tryd.prog 13 #[.agg (cel (sProposerSlashing x))] w fun e w' => ∃ v, e = .returned (.tuple #[v, .int .i64 0]) ∧ w'.ownsRow w.heap.size 5 1 v 416 (bl (ct7 (eProposerSlashing x)) 416) ∧ Below w.heap.size w w' := by
  have HX := hid hx
  obtain ⟨W0, hW0⟩ : ∃ W, w.alloc (.cells (cel (sProposerSlashing x)) 49) = W := ⟨_, rfl⟩
  have hB0 : Below w.heap.size w W0 := by rw [← hW0]; exact (Below.refl _ _).alloc (Nat.le_refl _) _
  have r0 : W0.heap[w.heap.size]? = some (.cells (cel (sProposerSlashing x)) 49) := by rw [← hW0]; exact heap_new rfl
  have z0 : w.heap.size < W0.heap.size := by rw [← hW0]; simp
  obtain ⟨y, ey⟩ : ∃ y, w.heap.size = y := ⟨_, rfl⟩
  have hry : ∀ X, Below W0.heap.size W0 X → X.heap[y]? = some (.cells (cel (sProposerSlashing x)) 49) := fun X h => by rw [← ey]; exact (h.block _ z0).trans r0
  have HL0 : Hid (∀ X, Below W0.heap.size W0 X → (lvSignedHeader ⟨y, 0, none⟩).run Tryd.prog X = .ok (.agg (cel (sSignedHeader x.f0))) X) := fun X h => lvSignedHeader_mid (hry X h) 0 rfl rfl
  have HL1 : Hid (∀ X, Below W0.heap.size W0 X → (lvSignedHeader ⟨y, 194, none⟩).run Tryd.prog X = .ok (.agg (cel (sSignedHeader x.f1))) X) := fun X h => lvSignedHeader_mid (hry X h) 194 rfl rfl
  have hdr : Below W0.heap.size W0 W0.drew := (Below.refl _ _).drew
  have S0 := hid hdr
  have HB0w := hid hB0
  have EY := hid ey
  obtain ⟨V, eV⟩ : ∃ V, ct7 (eProposerSlashing x) = V := ⟨_, rfl⟩
  have hFL : ∀ (P : World) gp gs a1 c1 a2 c2, P.heap[gp]? = some (.cells (([(a1, 208, c1, ct7 (eSignedHeader x.f0)), (a2, 208, c2, ct7 (eSignedHeader x.f1))] : List Pt).map ptv).toArray 34) → P.heap[gs]? = some (.cells (vs .i64 2 zProposerSlashing) 3) → Bys P a1 208 c1 (ct7 (eSignedHeader x.f0)) → Bys P a2 208 c2 (ct7 (eSignedHeader x.f1)) → Calls Tryd.prog 25 #[.slice (some ⟨gp, 0, none⟩) 2 2, .slice (some ⟨gs, 0, none⟩) 2 2] P fun e w' => ∃ v, e = .returned (.tuple #[v, .int .i64 0]) ∧ w'.ownsRow P.heap.size 5 1 v 416 (bl V 416) ∧ Below P.heap.size P w' := fun P gp gs a1 c1 a2 c2 h1 h2 h3 h4 => by
    rw [← eV]
    have c2' : ∀ (Q : Nat → Prop), Q 0 → Q 1 → ∀ r, r < 2 → Q r := fun Q q0 q1 r hr => by
      rcases (by omega : r = 0 ∨ r = 1) with rfl | rfl
      · exact q0
      · exact q1
    exact olayF [(a1, 208, c1, ct7 (eSignedHeader x.f0)), (a2, 208, c2, ct7 (eSignedHeader x.f1))] zProposerSlashing 2 gp gs P rfl (by decide) (by decide) (c2' _ ⟨rfl, Nat.le_of_ble_eq_true rfl, Nat.le_of_ble_eq_true rfl⟩ ⟨rfl, Nat.le_of_ble_eq_true rfl, Nat.le_of_ble_eq_true rfl⟩) h1 h2 (c2' _ h3 h4) (Nat.lt_of_lt_of_le (show 416 < 417 by omega) (Nat.le_of_ble_eq_true rfl))
  rw [eV]
  have HFL := hid hFL
  clear hdr hB0 r0 hry hx hFL eV
  go_enter Tryd.func13, Tryd.ntmps13
  go_upto_region 1 with fail
  clear hW0 ey z0
  refine wp_region_noPanic ?_
  refine wp_region_held_drew (S := fun X => Below W0.heap.size W0 X) (by kernel_rfl) (S0.out) (fun hHeld => ?_)
  refine wpAnyH_take (i := 0) (v := ?v167) rfl (by kernel_rfl) (by kernel_rfl) (by kernel_rfl) (fun _ _ _ h => h) (Or.inl ⟨by rfl, ?hy167⟩) hHeld ?rest167
  case hy167 =>
    intro w hSw
    go_simp
    try with_reducible rfl
  try simp only [Act.put, List.setIfInBounds_toArray, List.set_cons_zero, List.set_cons_succ, Array.toArray_toList, List.getElem_toArray, List.getElem_cons_zero, List.getElem_cons_succ]
  refine wpAnyH_take (i := 1) (v := ?v168) rfl (by kernel_rfl) (by kernel_rfl) (by kernel_rfl) (fun _ _ _ h => h) (Or.inl ⟨by rfl, ?hy168⟩) hHeld ?rest168
  case hy168 =>
    intro w hSw
    have ld := HL0.out _ hSw
    go_simp
    try with_reducible rfl
  try simp only [Act.put, List.setIfInBounds_toArray, List.set_cons_zero, List.set_cons_succ, Array.toArray_toList, List.getElem_toArray, List.getElem_cons_zero, List.getElem_cons_succ]
  refine wpAnyH_take (i := 3) (v := ?v169) rfl (by kernel_rfl) (by kernel_rfl) (by kernel_rfl) (fun _ _ _ h => h) (Or.inl ⟨by rfl, ?hy169⟩) hHeld ?rest169
  case hy169 =>
    intro w hSw
    go_simp
    try with_reducible rfl
  try simp only [Act.put, List.setIfInBounds_toArray, List.set_cons_zero, List.set_cons_succ, Array.toArray_toList, List.getElem_toArray, List.getElem_cons_zero, List.getElem_cons_succ]
  refine wpAnyH_take (i := 4) (v := ?v170) rfl (by kernel_rfl) (by kernel_rfl) (by kernel_rfl) (fun _ _ _ h => h) (Or.inl ⟨by rfl, ?hy170⟩) hHeld ?rest170
  case hy170 =>
    intro w hSw
    have ld := HL1.out _ hSw
    go_simp
    try with_reducible rfl
  try simp only [Act.put, List.setIfInBounds_toArray, List.set_cons_zero, List.set_cons_succ, Array.toArray_toList, List.getElem_toArray, List.getElem_cons_zero, List.getElem_cons_succ]
  refine wpAnyH_ready (rs := [2]) (by kernel_rfl) (by simp) ?_
  refine AllReadyH.cons rfl (fun K hK => ?_) AllReadyH.nil
  go_simp
  refine (encSignedHeader_any x.f0 _ HX.out.1).mono ?_
  rintro e X1 ⟨v1, rfl, ho1, hb1⟩
  dsimp only
  have S1 := hid (S0.out.trans (hb1.mono S0.out.size))
  obtain ⟨a1, c1, rfl, hr1⟩ := own_at ho1
  have R0 := hid (show ∀ X, Below X1.heap.size X1 X → Bys X a1 208 c1 (ct7 (eSignedHeader x.f0)) from fun X h => hr1.below h)
  clear hb1 hr1 ho1
  refine hK.out _ _ (S1.out) (fun hHeld => ?_)
  clear hK K
  try simp only [Act.put, List.setIfInBounds_toArray, List.set_cons_zero, List.set_cons_succ, Array.toArray_toList, List.getElem_toArray, List.getElem_cons_zero, List.getElem_cons_succ]
  refine wpAnyH_ready (rs := [5]) (by kernel_rfl) (by simp) ?_
  refine AllReadyH.cons rfl (fun K hK => ?_) AllReadyH.nil
  go_simp
  refine (encSignedHeader_any x.f1 _ HX.out.2).mono ?_
  rintro e X2 ⟨v2, rfl, ho2, hb2⟩
  dsimp only
  have S2 := hid (S1.out.trans (hb2.mono S1.out.size))
  have K1 := hid hb2
  obtain ⟨a2, c2, rfl, hr2⟩ := own_at ho2
  have R1 := hid (show ∀ X, Below X2.heap.size X2 X → Bys X a2 208 c2 (ct7 (eSignedHeader x.f1)) from fun X h => hr2.below h)
  clear hb2 hr2 ho2
  refine hK.out _ _ (S2.out) (fun hHeld => ?_)
  clear hK K
  try simp only [Act.put, List.setIfInBounds_toArray, List.set_cons_zero, List.set_cons_succ, Array.toArray_toList, List.getElem_toArray, List.getElem_cons_zero, List.getElem_cons_succ]
  have hbs : ∀ P : World, (bsP 2 #[(0, Value.slice a1 208 c1), (1, Value.slice a2 208 c2)]).run Tryd.prog P = .ok (.slice (some ⟨P.heap.size, 0, none⟩) 2 2) (P.alloc (.cells (([(a1, 208, c1, ct7 (eSignedHeader x.f0)), (a2, 208, c2, ct7 (eSignedHeader x.f1))] : List Pt).map ptv).toArray 34)) := fun P => bsP_2 P (a1, 208, c1, ct7 (eSignedHeader x.f0)) (a2, 208, c2, ct7 (eSignedHeader x.f1))
  obtain ⟨CP, eCP⟩ : ∃ CP, (([(a1, 208, c1, ct7 (eSignedHeader x.f0)), (a2, 208, c2, ct7 (eSignedHeader x.f1))] : List Pt).map ptv).toArray = CP := ⟨_, rfl⟩
  have HFM : Hid (∀ (P : World) gp gs, Below X2.heap.size X2 P → P.heap[gp]? = some (.cells CP 34) → P.heap[gs]? = some (.cells (vs .i64 2 zProposerSlashing) 3) → Calls Tryd.prog 25 #[.slice (some ⟨gp, 0, none⟩) 2 2, .slice (some ⟨gs, 0, none⟩) 2 2] P fun e w' => ∃ v, e = .returned (.tuple #[v, .int .i64 0]) ∧ w'.ownsRow P.heap.size 5 1 v 416 (bl V 416) ∧ Below P.heap.size P w') := fun P gp gs hP h1 h2 => HFL.out P gp gs a1 c1 a2 c2 (by rw [eCP]; exact h1) h2 (R0.out P (K1.out.trans (hP.mono K1.out.size))) (R1.out P hP)
  rw [eCP] at hbs
  have HBS := hid hbs
  clear hbs eCP
  refine wpAnyH_ready (rs := [6, 7]) (by kernel_rfl) (by simp) ?_
  refine AllReadyH.cons rfl (fun K hK => ?_) (AllReadyH.cons rfl (fun K hK => ?_) AllReadyH.nil)
  · have bs := HBS.out X2
    go_simp
    have hQ : Below X2.heap.size X2 (X2.alloc (.cells CP 34)) := (Below.refl _ _).alloc (Nat.le_refl _) _
    have HQ := hid hQ
    clear hQ
    refine hK.out _ _ (S2.out.trans (HQ.out.mono S2.out.size)) (fun hHeld => ?_)
    clear hK K bs
    try simp only [Act.put, List.setIfInBounds_toArray, List.set_cons_zero, List.set_cons_succ, Array.toArray_toList, List.getElem_toArray, List.getElem_cons_zero, List.getElem_cons_succ]
    refine wpAnyH_ready (rs := [7]) (by kernel_rfl) (by simp) ?_
    refine AllReadyH.cons rfl (fun K hK => ?_) AllReadyH.nil
    go_simp
    refine (psz_any _).mono ?_
    rintro e P ⟨rfl, hP⟩
    dsimp only
    have HP : Hid (Below X2.heap.size X2 P) := by rw [hP]; exact HQ.out.alloc (by simp) _
    have FL := hid (HFM.out P X2.heap.size (X2.heap.size + 1) HP.out (by rw [hP]; exact (heap_old (by simp)).trans (heap_new rfl)) (by rw [hP]; exact heap_new (by simp)))
    rw [show (X2.alloc (.cells CP 34)).heap.size = X2.heap.size + 1 by simp]
    clear hP
    refine hK.out _ _ (S2.out.trans (HP.out.mono S2.out.size)) (fun hHeld => ?_)
    clear hK K
    try simp only [Act.put, List.setIfInBounds_toArray, List.set_cons_zero, List.set_cons_succ, Array.toArray_toList, List.getElem_toArray, List.getElem_cons_zero, List.getElem_cons_succ]
    refine wpAnyH_ready (rs := [8]) (by kernel_rfl) (by simp) ?_
    refine AllReadyH.cons rfl (fun K hK => ?_) AllReadyH.nil
    go_simp
    refine (FL.out).mono ?_
    rintro e Y ⟨v, rfl, ho, hbY⟩
    dsimp only
    refine hK.out _ _ (S2.out.trans ((HP.out.mono S2.out.size).trans (hbY.mono (by have := S2.out.size; have := HP.out.size; omega)))) (fun hHeld => ?_)
    clear hK K
    try simp only [Act.put, List.setIfInBounds_toArray, List.set_cons_zero, List.set_cons_succ, Array.toArray_toList, List.getElem_toArray, List.getElem_cons_zero, List.getElem_cons_succ]
    refine wpAnyH_take (i := 9) (v := ?v171) rfl (by kernel_rfl) (by kernel_rfl) (by kernel_rfl) (fun _ _ _ h => h) (Or.inl ⟨by rfl, ?hy171⟩) hHeld ?rest171
    case hy171 =>
      intro w hSw
      go_simp
      try with_reducible rfl
    try simp only [Act.put, List.setIfInBounds_toArray, List.set_cons_zero, List.set_cons_succ, Array.toArray_toList, List.getElem_toArray, List.getElem_cons_zero, List.getElem_cons_succ]
    refine wpAnyH_take (i := 10) (v := ?v172) rfl (by kernel_rfl) (by kernel_rfl) (by kernel_rfl) (fun _ _ _ h => h) (Or.inl ⟨by rfl, ?hy172⟩) hHeld ?rest172
    case hy172 =>
      intro w hSw
      go_simp
      try with_reducible rfl
    try simp only [Act.put, List.setIfInBounds_toArray, List.set_cons_zero, List.set_cons_succ, Array.toArray_toList, List.getElem_toArray, List.getElem_cons_zero, List.getElem_cons_succ]
    refine wpAnyH_take (i := 11) (v := ?v173) rfl (by kernel_rfl) (by kernel_rfl) (by kernel_rfl) (fun _ _ _ h => h) (Or.inl ⟨by rfl, ?hy173⟩) hHeld ?rest173
    case hy173 =>
      intro w hSw
      go_simp
      try with_reducible rfl
    try simp only [Act.put, List.setIfInBounds_toArray, List.set_cons_zero, List.set_cons_succ, Array.toArray_toList, List.getElem_toArray, List.getElem_cons_zero, List.getElem_cons_succ]
    refine wpAnyH_take (i := 12) (v := ?v174) rfl (by kernel_rfl) (by kernel_rfl) (by kernel_rfl) (fun _ _ _ h => h) (Or.inl ⟨by rfl, ?hy174⟩) hHeld ?rest174
    case hy174 =>
      intro w hSw
      go_simp
      try with_reducible rfl
    try simp only [Act.put, List.setIfInBounds_toArray, List.set_cons_zero, List.set_cons_succ, Array.toArray_toList, List.getElem_toArray, List.getElem_cons_zero, List.getElem_cons_succ]
    refine wpAnyH_done (by kernel_rfl) ?_ _
    refine NoPanic.normal ?_
    go_wp2
    go_ret2
    have e0 := EY.out
    have e1 := HB0w.out.size
    have e2 := S2.out.size
    have e3 := HP.out.size
    exact ⟨v, rfl, (ho.mono (by omega) : _), HB0w.out.trans ((S2.out.mono (by omega)).trans ((HP.out.mono (by omega)).trans (hbY.mono (by omega))))⟩
  · go_simp
    refine (psz_any _).mono ?_
    rintro e Q ⟨rfl, hQ⟩
    dsimp only
    have HQ : Hid (Below X2.heap.size X2 Q) := by rw [hQ]; exact (Below.refl _ _).alloc (Nat.le_refl _) _
    have sQ : Q.heap.size = X2.heap.size + 1 := by rw [hQ]; simp
    have rQ : Q.heap[X2.heap.size]? = some (.cells (vs .i64 2 zProposerSlashing) 3) := by rw [hQ]; exact heap_new rfl
    have SQ := hid sQ
    have RQ := hid rQ
    clear hQ sQ rQ
    refine hK.out _ _ (S2.out.trans (HQ.out.mono S2.out.size)) (fun hHeld => ?_)
    clear hK K
    try simp only [Act.put, List.setIfInBounds_toArray, List.set_cons_zero, List.set_cons_succ, Array.toArray_toList, List.getElem_toArray, List.getElem_cons_zero, List.getElem_cons_succ]
    refine wpAnyH_ready (rs := [6]) (by kernel_rfl) (by simp) ?_
    refine AllReadyH.cons rfl (fun K hK => ?_) AllReadyH.nil
    have bs := HBS.out Q
    go_simp
    obtain ⟨P, hP⟩ : ∃ P, Q.alloc (.cells CP 34) = P := ⟨_, rfl⟩
    rw [hP]
    have HP : Hid (Below X2.heap.size X2 P) := by rw [← hP]; exact HQ.out.alloc (by have := SQ.out; omega) _
    have FL := hid (HFM.out P Q.heap.size X2.heap.size HP.out (by rw [← hP]; exact heap_new rfl) (by rw [← hP]; exact (heap_old (by have := SQ.out; omega)).trans RQ.out))
    clear hP bs
    refine hK.out _ _ (S2.out.trans (HP.out.mono S2.out.size)) (fun hHeld => ?_)
    clear hK K
    try simp only [Act.put, List.setIfInBounds_toArray, List.set_cons_zero, List.set_cons_succ, Array.toArray_toList, List.getElem_toArray, List.getElem_cons_zero, List.getElem_cons_succ]
    refine wpAnyH_ready (rs := [8]) (by kernel_rfl) (by simp) ?_
    refine AllReadyH.cons rfl (fun K hK => ?_) AllReadyH.nil
    go_simp
    refine (FL.out).mono ?_
    rintro e Y ⟨v, rfl, ho, hbY⟩
    dsimp only
    refine hK.out _ _ (S2.out.trans ((HP.out.mono S2.out.size).trans (hbY.mono (by have := S2.out.size; have := HP.out.size; omega)))) (fun hHeld => ?_)
    clear hK K
    try simp only [Act.put, List.setIfInBounds_toArray, List.set_cons_zero, List.set_cons_succ, Array.toArray_toList, List.getElem_toArray, List.getElem_cons_zero, List.getElem_cons_succ]
    refine wpAnyH_take (i := 9) (v := ?v175) rfl (by kernel_rfl) (by kernel_rfl) (by kernel_rfl) (fun _ _ _ h => h) (Or.inl ⟨by rfl, ?hy175⟩) hHeld ?rest175
    case hy175 =>
      intro w hSw
      go_simp
      try with_reducible rfl
    try simp only [Act.put, List.setIfInBounds_toArray, List.set_cons_zero, List.set_cons_succ, Array.toArray_toList, List.getElem_toArray, List.getElem_cons_zero, List.getElem_cons_succ]
    refine wpAnyH_take (i := 10) (v := ?v176) rfl (by kernel_rfl) (by kernel_rfl) (by kernel_rfl) (fun _ _ _ h => h) (Or.inl ⟨by rfl, ?hy176⟩) hHeld ?rest176
    case hy176 =>
      intro w hSw
      go_simp
      try with_reducible rfl
    try simp only [Act.put, List.setIfInBounds_toArray, List.set_cons_zero, List.set_cons_succ, Array.toArray_toList, List.getElem_toArray, List.getElem_cons_zero, List.getElem_cons_succ]
    refine wpAnyH_take (i := 11) (v := ?v177) rfl (by kernel_rfl) (by kernel_rfl) (by kernel_rfl) (fun _ _ _ h => h) (Or.inl ⟨by rfl, ?hy177⟩) hHeld ?rest177
    case hy177 =>
      intro w hSw
      go_simp
      try with_reducible rfl
    try simp only [Act.put, List.setIfInBounds_toArray, List.set_cons_zero, List.set_cons_succ, Array.toArray_toList, List.getElem_toArray, List.getElem_cons_zero, List.getElem_cons_succ]
    refine wpAnyH_take (i := 12) (v := ?v178) rfl (by kernel_rfl) (by kernel_rfl) (by kernel_rfl) (fun _ _ _ h => h) (Or.inl ⟨by rfl, ?hy178⟩) hHeld ?rest178
    case hy178 =>
      intro w hSw
      go_simp
      try with_reducible rfl
    try simp only [Act.put, List.setIfInBounds_toArray, List.set_cons_zero, List.set_cons_succ, Array.toArray_toList, List.getElem_toArray, List.getElem_cons_zero, List.getElem_cons_succ]
    refine wpAnyH_done (by kernel_rfl) ?_ _
    refine NoPanic.normal ?_
    go_wp2
    go_ret2
    have e0 := EY.out
    have e1 := HB0w.out.size
    have e2 := S2.out.size
    have e3 := HP.out.size
    exact ⟨v, rfl, (ho.mono (by omega) : _), HB0w.out.trans ((S2.out.mono (by omega)).trans ((HP.out.mono (by omega)).trans (hbY.mono (by omega))))⟩

end Go.Proofs.YtbbpnbdgcaamoaaDoor
