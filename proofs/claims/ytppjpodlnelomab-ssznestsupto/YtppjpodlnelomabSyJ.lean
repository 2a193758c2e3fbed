/-
  What SszNests answers.
-/
import Derived.Test.YtppjpodlnelomabSyH
namespace Go.Proofs.Ytppjpodlnelomab
open Go.RowKit
set_option linter.unusedVariables false
set_option linter.unusedSimpArgs false

theorem loL_le (zs : Nat → Int) (L : Nat → Nat) (k : Nat) : loL zs L k ≤ sumL L k := by
  induction k with
  | zero => exact Nat.le_refl _
  | succ k ih =>
    show loL zs L k + (if zs k = 0 then L k else 0) ≤ sumL L k + L k
    by_cases h : zs k = 0
    · rw [if_pos h]; omega
    · rw [if_neg h]; omega

set_option maxRecDepth 20000 in
set_option maxHeartbeats 1000000 in
theorem nests_err (E : Int) (hE : E = 1 ∨ E = 4) (a : Option Addr) (n c : Nat) (sa : Option Addr) (m sc : Nat) (ta : Option Addr) (t tc : Nat) (w : World)
    (h1 : ∀ W, Below w.heap.size w W → Calls Try.prog 5 #[.slice a n c, .slice sa m sc] W fun e w' => e = .returned (.tuple #[.slice none 0 0, .int .i64 E]) ∧ Below W.heap.size W w') :
    Calls Try.prog 3 #[.slice a n c, .slice sa m sc, .slice ta t tc] w fun e w' => e = .returned (.bool true) ∧ Below w.heap.size w w' := by
  have H1 := hid h1
  have e0 : (E != 0) = true := by rw [bne_iff_ne]; omega
  clear h1 hE
  go_enter Try.func3, Try.ntmps3
  go_wp2_with (first
    | (go_at_call 4; refine (awake_any _).mono ?_; rintro r w1 ⟨rfl, hb1⟩; have HB1 := hid hb1; clear hb1)
    | (go_at_call 5; refine (H1.out _ HB1.out).mono ?_; rintro r w2 ⟨rfl, hb2⟩; have HB2 := hid (HB1.out.trans (hb2.mono HB1.out.size)); clear hb2))
  go_ret
  exact ⟨rfl, HB2.out⟩

/-- Three parts, of which the last two are one. -/
def two3 {α : Type} (x y : α) (r : Nat) : α := if r = 0 then x else y
theorem parts3 (w : World) (a0 : Option Addr) (l0 c0 : Nat) (f0 : Nat → Int) (ta : Option Addr) (t tc : Nat) (ft : Nat → Int) (h0 : Bys w a0 l0 c0 f0) (h1 : Bys w ta t tc ft) (ty : TypeId) :
    Parts (w.alloc (.cells #[.slice a0 l0 c0, .slice ta t tc, .slice ta t tc] ty)) (some ⟨w.heap.size, 0, none⟩) 3 (two3 a0 ta) (two3 l0 t) (two3 c0 tc) (two3 f0 ft) := by
  have hb : Below w.heap.size w (w.alloc (.cells #[.slice a0 l0 c0, .slice ta t tc, .slice ta t tc] ty)) := (Below.refl _ _).alloc (Nat.le_refl _) _
  refine .inr ⟨w.heap.size, 0, rfl, by simp, fun r hr => ?_⟩
  rw [Nat.zero_add, row_cell (heap_new rfl) r]
  rcases (by omega : r = 0 ∨ r = 1 ∨ r = 2) with rfl | rfl | rfl
  · exact ⟨rfl, h0.below hb⟩
  · exact ⟨rfl, h1.below hb⟩
  · exact ⟨rfl, h1.below hb⟩
def zs0 (_ : Nat) : Int := 0
theorem nms3 (w : World) (ty : TypeId) : Nms .i64 (w.alloc (.cells #[.int .i64 0, .int .i64 0, .int .i64 0] ty)) (some ⟨w.heap.size, 0, none⟩) 3 zs0 := by
  refine .inr ⟨w.heap.size, 0, rfl, by simp, fun r hr => ?_⟩
  rw [Nat.zero_add, row_cell (heap_new rfl) r]
  rcases (by omega : r = 0 ∨ r = 1 ∨ r = 2) with rfl | rfl | rfl <;> rfl
theorem sz3 : szB zs0 3 = true := by decide
theorem fits3 (L : Nat → Nat) : Fits zs0 L 3 := fun r _ h => absurd rfl h
theorem hd3 : hdL zs0 3 = 12 := by decide
theorem lo3 (x y : Nat) : loL zs0 (two3 x y) 3 = x + 2 * y := by
  simp [loL, zs0, two3]
  omega
theorem conv_eq {w : World} {A : Option Addr} {l c : Nat} {m m' : Nat → Int} (h : Bys w A l c m) (he : ∀ j, j < l → m j = m' j) : (convert 24 9 (.slice A l c)).run Try.prog w = .ok (.string (strF m' l)) w := conv_bys w A l c m' (bys_congr h he)

set_option maxRecDepth 20000 in
set_option maxHeartbeats 4000000 in
theorem nests_ok (zs : Nat → Int) (a : Option Addr) (n c : Nat) (A : Nat → Option Addr) (L C : Nat → Nat) (f : Nat → Nat → Int) (sa : Option Addr) (sc : Nat) (ta : Option Addr) (t tc : Nat) (ft : Nat → Int) (w : World) (h : Parts w a n A L C f) (hf : ∀ r, r < n → ∀ q, q < L r → 0 ≤ f r q ∧ f r q < 256) (hn : Nms .i64 w sa n zs) (hsz : szB zs n = true) (hLb : ∀ r, r < n → L r ≤ 9223372036854775807) (hfit : Fits zs L n) (hT : hdL zs n + loL zs L n ≤ 16777216)
    (hy : Bys w ta t tc ft) (hft : ∀ j, 0 ≤ ft j ∧ ft j < 256) (ht : t ≤ 16777216) (htc : t ≤ tc) :
    Calls Try.prog 3 #[.slice a n c, .slice sa n sc, .slice ta t tc] w fun e w' => e = .returned (.bool true) ∧ Below w.heap.size w w' := by
  have HP : Hid (∀ W, Below w.heap.size w W → Parts W a n A L C f) := fun W hW => h.below hW
  have HT : Hid (∀ W, Below w.heap.size w W → Bys W ta t tc ft) := fun W hW => hy.below hW
  have H1 : Hid (∀ W, Below w.heap.size w W → _) := fun W hW => lay_ok zs a n c A L C f sa sc W (h.below hW) (hn.below hW) hsz hLb hfit (by omega)
  have H3 : Hid (∀ W ao cap, Below w.heap.size w W → Bys W ao (hdL zs n + loL zs L n) cap (fun j => (layC zs f L n).getD j 0) → hdL zs n + loL zs L n ≤ cap → cap ≤ 9223372036854775807 → _) := fun W ao cap hW hy h1 h2 => cut_laid2 zs f L n ao cap sa sc W hf hfit (by omega) hy h1 h2 (hn.below hW) hsz
  obtain ⟨hn1, hnb, hok⟩ := szB_out hsz
  have hbyte := layC_byte zs f L n hf
  obtain ⟨T, eT⟩ : ∃ T, hdL zs n + loL zs L n = T := ⟨_, rfl⟩
  obtain ⟨bs, ebs⟩ : ∃ bs, layC zs f L n = bs := ⟨_, rfl⟩
  rw [eT] at H1 H3 hT
  rw [ebs] at H1 H3 hbyte
  have HBY := hid hbyte
  have HFT := hid hft
  have hbb : ∀ r, r < 3 → ∀ q, q < two3 T t r → 0 ≤ two3 (fun j => bs.getD j 0) ft r q ∧ two3 (fun j => bs.getD j 0) ft r q < 256 := by
    intro r hr q hq
    unfold two3
    by_cases e : r = 0
    · rw [if_pos e]; exact hbyte q
    · rw [if_neg e]; exact hft q
  have hLL : ∀ r, r < 3 → two3 T t r ≤ 9223372036854775807 := by
    intro r hr
    unfold two3
    by_cases e : r = 0
    · rw [if_pos e]; omega
    · rw [if_neg e]; omega
  have lo := lo3 T t
  have HLAY2 : Hid (∀ W a2 C2, Bys W a2 T C2 (fun j => bs.getD j 0) → Bys W ta t tc ft → Calls Try.prog 5 #[.slice (some ⟨W.heap.size, 0, none⟩) 3 3, .slice (some ⟨W.heap.size + 1, 0, none⟩) 3 3] ((W.alloc (.cells #[.slice a2 T C2, .slice ta t tc, .slice ta t tc] 24)).alloc (.cells #[.int .i64 0, .int .i64 0, .int .i64 0] 3)) fun e w' => ∃ v, e = .returned (.tuple #[v, .int .i64 0]) ∧ w'.ownsRow W.heap.size 5 1 v (12 + (T + 2 * t)) (iv (layC zs0 (two3 (fun j => bs.getD j 0) ft) (two3 T t) 3)) ∧ Below W.heap.size W w') := by
    intro W a2 C2 hy2 hyt
    have hb1 : Below W.heap.size W (W.alloc (.cells #[.slice a2 T C2, .slice ta t tc, .slice ta t tc] 24)) := (Below.refl _ _).alloc (Nat.le_refl _) _
    have hb2 : Below W.heap.size W ((W.alloc (.cells #[.slice a2 T C2, .slice ta t tc, .slice ta t tc] 24)).alloc (.cells #[.int .i64 0, .int .i64 0, .int .i64 0] 3)) := hb1.alloc hb1.size _
    have hp := (parts3 W a2 T C2 _ ta t tc ft hy2 hyt 24).below ((Below.refl _ _).alloc (Nat.le_refl _) (.cells #[.int .i64 0, .int .i64 0, .int .i64 0] 3))
    have hnm := nms3 (W.alloc (.cells #[.slice a2 T C2, .slice ta t tc, .slice ta t tc] 24)) 3
    have hz : (W.alloc (.cells #[.slice a2 T C2, .slice ta t tc, .slice ta t tc] 24)).heap.size = W.heap.size + 1 := by simp
    rw [hz] at hnm
    have hl := lay_ok zs0 _ 3 3 _ _ _ _ _ 3 _ hp hnm sz3 hLL (fits3 _) (by rw [hd3, lo]; omega)
    rw [hd3, lo] at hl
    refine hl.mono ?_
    rintro e w' ⟨v, rfl, ho, hb⟩
    exact ⟨v, rfl, owns_base ho hb2.size, hb2.trans (hb.mono hb2.size)⟩
  have HCUT2 : Hid (∀ W ao cap, Bys W ao (12 + (T + 2 * t)) cap (fun j => (layC zs0 (two3 (fun j => bs.getD j 0) ft) (two3 T t) 3).getD j 0) → 12 + (T + 2 * t) ≤ cap → cap ≤ 9223372036854775807 → Calls Try.prog 6 #[.slice ao (12 + (T + 2 * t)) cap, .slice (some ⟨W.heap.size, 0, none⟩) 3 3] (W.alloc (.cells #[.int .i64 0, .int .i64 0, .int .i64 0] 3)) fun e w' => ∃ gp A', e = .returned (.tuple #[.slice (some ⟨gp, 0, none⟩) 3 3, .int .i64 0]) ∧ Parts w' (some ⟨gp, 0, none⟩) 3 A' (two3 T t) (two3 T t) (two3 (fun j => bs.getD j 0) ft) ∧ Below W.heap.size W w') := by
    intro W ao cap hy2 h1 h2
    have hb1 : Below W.heap.size W (W.alloc (.cells #[.int .i64 0, .int .i64 0, .int .i64 0] 3)) := (Below.refl _ _).alloc (Nat.le_refl _) _
    have e12 : 12 + (T + 2 * t) = hdL zs0 3 + loL zs0 (two3 T t) 3 := by rw [hd3, lo]
    rw [e12] at hy2 h1 ⊢
    refine (cut_laid2 zs0 _ (two3 T t) 3 ao cap _ 3 _ hbb (fits3 _) (by rw [hd3, lo]; omega) (hy2.below hb1) h1 h2 (nms3 W 3) sz3).mono ?_
    rintro e w' ⟨gp, A', rfl, hp, hb⟩
    exact ⟨gp, A', rfl, hp, hb1.trans (hb.mono hb1.size)⟩
  obtain ⟨s, es⟩ : ∃ s, strF (fun j => bs.getD j 0) T = s := ⟨_, rfl⟩
  obtain ⟨st, est⟩ : ∃ st, strF ft t = st := ⟨_, rfl⟩
  obtain ⟨U, eU⟩ : ∃ U, 12 + (T + 2 * t) = U := ⟨_, rfl⟩
  have EE := hid (And.intro es est)
  have EU : (12 : Int) + (T : Int) + 2 * (t : Int) = (U : Int) := by omega
  rw [eU] at HLAY2 HCUT2
  have hU : (U : Int) ≤ 140737488351232 := by omega
  have t1 : (T : Int) ≤ 140737488351232 := by omega
  have t2 : (t : Int) ≤ 140737488351232 := by omega
  have t3 : (0 : Int) ≤ (T : Int) := by omega
  have t4 : (0 : Int) ≤ (t : Int) := by omega
  have hnn : n ≤ 9223372036854775807 := by omega
  clear h hf hn hsz hLb hfit hT eT ebs hok hbyte hbb hLL lo hy hft es est eU ht htc
  go_enter Try.func3, Try.ntmps3
  go_upto_region 6 with (first
    | (go_at_call 4; refine (awake_any _).mono ?_; rintro r w1 ⟨rfl, hb1⟩; have HB1 := hid hb1; clear hb1)
    | (go_at_call 5; refine (H1.out _ HB1.out).mono ?_; rintro r w2 ⟨v2, rfl, ho2, hb2⟩; have HB2 := hid (HB1.out.trans (hb2.mono HB1.out.size)); obtain ⟨a2, C2, rfl, hC1, hC2, hy2⟩ := (owns_bys ho2).2; have HY2 := hid hy2; clear ho2 hb2 hy2))
  have HLL := hid (HLAY2.out w2 a2 C2 HY2.out (HT.out _ HB2.out))
  go_upto_region 10 with (first
    | (go_at_call 5; refine HLL.out.mono ?_; rintro r w5 ⟨v5, rfl, ho5, hb5⟩; have H25 := hid hb5; obtain ⟨a5, C5, rfl, hD1, hD2, hy5⟩ := (owns_bys ho5).2; have HCC := hid (HCUT2.out w5 a5 C5 hy5 hD1 hD2); clear ho5 hb5 hy5)
    | (go_at_call 6; refine HCC.out.mono ?_; rintro r w8 ⟨gp, A8, rfl, hp8, hb8⟩; have H28 := hid (H25.out.trans (hb8.mono H25.out.size)); have HP8 := hid hp8; clear hp8 hb8))
  have HB8 := hid (HB2.out.trans (H28.out.mono HB2.out.size))
  have HV : Hid (∀ W, Below w8.heap.size w8 W → W.cell? ⟨gp, 0, none⟩ = some (.slice (A8 0) T T) ∧ W.cell? ⟨gp, 1, none⟩ = some (.slice (A8 1) t t) ∧ W.cell? ⟨gp, 2, none⟩ = some (.slice (A8 2) t t) ∧ (convert 24 9 (.slice (A8 0) T T)).run Try.prog W = .ok (.string s) W ∧ (convert 24 9 (.slice (A8 1) t t)).run Try.prog W = .ok (.string st) W ∧ (convert 24 9 (.slice (A8 2) t t)).run Try.prog W = .ok (.string st) W ∧ (convert 24 9 (.slice a2 T C2)).run Try.prog W = .ok (.string s) W ∧ (convert 24 9 (.slice ta t tc)).run Try.prog W = .ok (.string st) W) := by
    intro W hW
    have hp := HP8.out.below hW
    obtain ⟨b0, o0, e0, _, c0, y0⟩ := parts_at hp 0 (by omega)
    obtain ⟨b1, o1, e1, _, c1, y1⟩ := parts_at hp 1 (by omega)
    obtain ⟨b2, o2, e2, _, c2, y2⟩ := parts_at hp 2 (by omega)
    cases e0
    cases e1
    cases e2
    have z0 := conv_bys W _ _ _ _ y0
    have z1 := conv_bys W _ _ _ _ y1
    have z2 := conv_bys W _ _ _ _ y2
    have z3 := conv_bys W _ _ _ _ (HY2.out.below (H28.out.trans (hW.mono H28.out.size)))
    have z4 := conv_bys W _ _ _ _ (HT.out _ (HB8.out.trans (hW.mono HB8.out.size)))
    have f0 : two3 (fun j => bs.getD j 0) ft 0 = fun j => bs.getD j 0 := rfl
    have f1 : two3 (fun j => bs.getD j 0) ft 1 = ft := rfl
    have f2 : two3 (fun j => bs.getD j 0) ft 2 = ft := rfl
    have g0 : two3 T t 0 = T := rfl
    have g1 : two3 T t 1 = t := rfl
    have g2 : two3 T t 2 = t := rfl
    rw [f0, g0, EE.out.1] at z0
    rw [f1, g1, EE.out.2] at z1
    rw [f2, g2, EE.out.2] at z2
    rw [EE.out.1] at z3
    rw [EE.out.2] at z4
    rw [g0] at c0
    rw [g1] at c1
    rw [g2] at c2
    exact ⟨c0, c1, c2, z0, z1, z2, z3, z4⟩
  have HC9 : Hid (∀ W, Below w8.heap.size w8 W → Calls Try.prog 6 #[.slice (A8 0) T T, .slice sa n sc] W fun e w' => ∃ gp A, e = .returned (.tuple #[.slice (some ⟨gp, 0, none⟩) n n, .int .i64 0]) ∧ Parts w' (some ⟨gp, 0, none⟩) n A L L f ∧ Below W.heap.size W w') := by
    intro W hW
    obtain ⟨b0, o0, e0, _, c0, y0⟩ := parts_at (HP8.out.below hW) 0 (by omega)
    exact H3.out W (A8 0) T (HB8.out.trans (hW.mono HB8.out.size)) y0 (Nat.le_refl _) (by omega)
  clear HLL HCC HLAY2 HCUT2 H1 H3 HB1
  refine wp_region_noPanic ?_
  refine wp_region_held_drew (S := fun w' => Below w8.heap.size w8 w') (by kernel_rfl) ((Below.refl _ _).drew) (fun hHeld => ?_)
  refine wpAnyH_take (i := 0) (v := ?v1) rfl (by kernel_rfl) (by kernel_rfl) (by kernel_rfl) (fun _ _ _ h => h) (Or.inl ⟨by rfl, ?hy1⟩) hHeld ?rest1
  case hy1 =>
    intro w hSw
    go_simp
    try with_reducible rfl
  try simp only [Act.put, List.setIfInBounds_toArray, List.set_cons_zero, List.set_cons_succ, Array.toArray_toList, List.getElem_toArray, List.getElem_cons_zero, List.getElem_cons_succ]
  refine wpAnyH_take (i := 1) (v := ?v2) rfl (by kernel_rfl) (by kernel_rfl) (by kernel_rfl) (fun _ _ _ h => h) (Or.inl ⟨by rfl, ?hy2⟩) hHeld ?rest2
  case hy2 =>
    intro w hSw
    go_simp
    try with_reducible rfl
  try simp only [Act.put, List.setIfInBounds_toArray, List.set_cons_zero, List.set_cons_succ, Array.toArray_toList, List.getElem_toArray, List.getElem_cons_zero, List.getElem_cons_succ]
  refine wpAnyH_take (i := 2) (v := ?v3) rfl (by kernel_rfl) (by kernel_rfl) (by kernel_rfl) (fun _ _ _ h => h) (Or.inl ⟨by rfl, ?hy3⟩) hHeld ?rest3
  case hy3 =>
    intro w hSw
    go_simp
    try with_reducible rfl
  try simp only [Act.put, List.setIfInBounds_toArray, List.set_cons_zero, List.set_cons_succ, Array.toArray_toList, List.getElem_toArray, List.getElem_cons_zero, List.getElem_cons_succ]
  refine wpAnyH_take (i := 3) (v := ?v4) rfl (by kernel_rfl) (by kernel_rfl) (by kernel_rfl) (fun _ _ _ h => h) (Or.inl ⟨by rfl, ?hy4⟩) hHeld ?rest4
  case hy4 =>
    intro w hSw
    go_simp
    try with_reducible rfl
  try simp only [Act.put, List.setIfInBounds_toArray, List.set_cons_zero, List.set_cons_succ, Array.toArray_toList, List.getElem_toArray, List.getElem_cons_zero, List.getElem_cons_succ]
  refine wpAnyH_take (i := 4) (v := ?v5) rfl (by kernel_rfl) (by kernel_rfl) (by kernel_rfl) (fun _ _ _ h => h) (Or.inl ⟨by rfl, ?hy5⟩) hHeld ?rest5
  case hy5 =>
    intro w hSw
    go_simp
    try with_reducible rfl
  try simp only [Act.put, List.setIfInBounds_toArray, List.set_cons_zero, List.set_cons_succ, Array.toArray_toList, List.getElem_toArray, List.getElem_cons_zero, List.getElem_cons_succ]
  refine wpAnyH_take (i := 5) (v := ?v6) rfl (by kernel_rfl) (by kernel_rfl) (by kernel_rfl) (fun _ _ _ h => h) (Or.inl ⟨by rfl, ?hy6⟩) hHeld ?rest6
  case hy6 =>
    intro w hSw
    go_simp
    try with_reducible rfl
  try simp only [Act.put, List.setIfInBounds_toArray, List.set_cons_zero, List.set_cons_succ, Array.toArray_toList, List.getElem_toArray, List.getElem_cons_zero, List.getElem_cons_succ]
  refine wpAnyH_take (i := 6) (v := ?v7) rfl (by kernel_rfl) (by kernel_rfl) (by kernel_rfl) (fun _ _ _ h => h) (Or.inl ⟨by rfl, ?hy7⟩) hHeld ?rest7
  case hy7 =>
    intro w hSw
    go_simp
    try with_reducible rfl
  try simp only [Act.put, List.setIfInBounds_toArray, List.set_cons_zero, List.set_cons_succ, Array.toArray_toList, List.getElem_toArray, List.getElem_cons_zero, List.getElem_cons_succ]
  refine wpAnyH_take (i := 7) (v := ?v8) rfl (by kernel_rfl) (by kernel_rfl) (by kernel_rfl) (fun _ _ _ h => h) (Or.inl ⟨by rfl, ?hy8⟩) hHeld ?rest8
  case hy8 =>
    intro w hSw
    go_simp
    try with_reducible rfl
  try simp only [Act.put, List.setIfInBounds_toArray, List.set_cons_zero, List.set_cons_succ, Array.toArray_toList, List.getElem_toArray, List.getElem_cons_zero, List.getElem_cons_succ]
  refine wpAnyH_take (i := 8) (v := ?v9) rfl (by kernel_rfl) (by kernel_rfl) (by kernel_rfl) (fun _ _ _ h => h) (Or.inl ⟨by rfl, ?hy9⟩) hHeld ?rest9
  case hy9 =>
    intro w hSw
    go_simp
    try with_reducible rfl
  try simp only [Act.put, List.setIfInBounds_toArray, List.set_cons_zero, List.set_cons_succ, Array.toArray_toList, List.getElem_toArray, List.getElem_cons_zero, List.getElem_cons_succ]
  refine wpAnyH_take (i := 9) (v := ?v10) rfl (by kernel_rfl) (by kernel_rfl) (by kernel_rfl) (fun _ _ _ h => h) (Or.inl ⟨by rfl, ?hy10⟩) hHeld ?rest10
  case hy10 =>
    intro w hSw
    go_simp
    try with_reducible rfl
  try simp only [Act.put, List.setIfInBounds_toArray, List.set_cons_zero, List.set_cons_succ, Array.toArray_toList, List.getElem_toArray, List.getElem_cons_zero, List.getElem_cons_succ]
  refine wpAnyH_take (i := 10) (v := ?v11) rfl (by kernel_rfl) (by kernel_rfl) (by kernel_rfl) (fun _ _ _ h => h) (Or.inl ⟨by rfl, ?hy11⟩) hHeld ?rest11
  case hy11 =>
    intro w hSw
    obtain ⟨d0, d1, d2, e0, e1, e2, e3, e4⟩ := HV.out _ hSw
    go_simp
    try with_reducible rfl
  try simp only [Act.put, List.setIfInBounds_toArray, List.set_cons_zero, List.set_cons_succ, Array.toArray_toList, List.getElem_toArray, List.getElem_cons_zero, List.getElem_cons_succ]
  refine wpAnyH_take (i := 11) (v := ?v12) rfl (by kernel_rfl) (by kernel_rfl) (by kernel_rfl) (fun _ _ _ h => h) (Or.inl ⟨by rfl, ?hy12⟩) hHeld ?rest12
  case hy12 =>
    intro w hSw
    obtain ⟨d0, d1, d2, e0, e1, e2, e3, e4⟩ := HV.out _ hSw
    go_simp
    try with_reducible rfl
  try simp only [Act.put, List.setIfInBounds_toArray, List.set_cons_zero, List.set_cons_succ, Array.toArray_toList, List.getElem_toArray, List.getElem_cons_zero, List.getElem_cons_succ]
  refine wpAnyH_take (i := 12) (v := ?v13) rfl (by kernel_rfl) (by kernel_rfl) (by kernel_rfl) (fun _ _ _ h => h) (Or.inl ⟨by rfl, ?hy13⟩) hHeld ?rest13
  case hy13 =>
    intro w hSw
    go_simp
    try with_reducible rfl
  try simp only [Act.put, List.setIfInBounds_toArray, List.set_cons_zero, List.set_cons_succ, Array.toArray_toList, List.getElem_toArray, List.getElem_cons_zero, List.getElem_cons_succ]
  refine wpAnyH_take (i := 13) (v := ?v14) rfl (by kernel_rfl) (by kernel_rfl) (by kernel_rfl) (fun _ _ _ h => h) (Or.inl ⟨by rfl, ?hy14⟩) hHeld ?rest14
  case hy14 =>
    intro w hSw
    obtain ⟨d0, d1, d2, e0, e1, e2, e3, e4⟩ := HV.out _ hSw
    go_simp
    try with_reducible rfl
  try simp only [Act.put, List.setIfInBounds_toArray, List.set_cons_zero, List.set_cons_succ, Array.toArray_toList, List.getElem_toArray, List.getElem_cons_zero, List.getElem_cons_succ]
  refine wpAnyH_take (i := 14) (v := ?v15) rfl (by kernel_rfl) (by kernel_rfl) (by kernel_rfl) (fun _ _ _ h => h) (Or.inl ⟨by rfl, ?hy15⟩) hHeld ?rest15
  case hy15 =>
    intro w hSw
    go_simp
    try with_reducible rfl
  try simp only [Act.put, List.setIfInBounds_toArray, List.set_cons_zero, List.set_cons_succ, Array.toArray_toList, List.getElem_toArray, List.getElem_cons_zero, List.getElem_cons_succ]
  refine wpAnyH_take (i := 15) (v := ?v16) rfl (by kernel_rfl) (by kernel_rfl) (by kernel_rfl) (fun _ _ _ h => h) (Or.inl ⟨by rfl, ?hy16⟩) hHeld ?rest16
  case hy16 =>
    intro w hSw
    go_simp
    try with_reducible rfl
  try simp only [Act.put, List.setIfInBounds_toArray, List.set_cons_zero, List.set_cons_succ, Array.toArray_toList, List.getElem_toArray, List.getElem_cons_zero, List.getElem_cons_succ]
  refine wpAnyH_take (i := 16) (v := ?v17) rfl (by kernel_rfl) (by kernel_rfl) (by kernel_rfl) (fun _ _ _ h => h) (Or.inl ⟨by rfl, ?hy17⟩) hHeld ?rest17
  case hy17 =>
    intro w hSw
    go_simp
    try with_reducible rfl
  try simp only [Act.put, List.setIfInBounds_toArray, List.set_cons_zero, List.set_cons_succ, Array.toArray_toList, List.getElem_toArray, List.getElem_cons_zero, List.getElem_cons_succ]
  refine wpAnyH_take (i := 17) (v := ?v18) rfl (by kernel_rfl) (by kernel_rfl) (by kernel_rfl) (fun _ _ _ h => h) (Or.inl ⟨by rfl, ?hy18⟩) hHeld ?rest18
  case hy18 =>
    intro w hSw
    go_simp
    try with_reducible rfl
  try simp only [Act.put, List.setIfInBounds_toArray, List.set_cons_zero, List.set_cons_succ, Array.toArray_toList, List.getElem_toArray, List.getElem_cons_zero, List.getElem_cons_succ]
  refine wpAnyH_take (i := 18) (v := ?v19) rfl (by kernel_rfl) (by kernel_rfl) (by kernel_rfl) (fun _ _ _ h => h) (Or.inl ⟨by rfl, ?hy19⟩) hHeld ?rest19
  case hy19 =>
    intro w hSw
    go_simp
    try with_reducible rfl
  try simp only [Act.put, List.setIfInBounds_toArray, List.set_cons_zero, List.set_cons_succ, Array.toArray_toList, List.getElem_toArray, List.getElem_cons_zero, List.getElem_cons_succ]
  refine wpAnyH_take (i := 19) (v := ?v20) rfl (by kernel_rfl) (by kernel_rfl) (by kernel_rfl) (fun _ _ _ h => h) (Or.inl ⟨by rfl, ?hy20⟩) hHeld ?rest20
  case hy20 =>
    intro w hSw
    obtain ⟨d0, d1, d2, e0, e1, e2, e3, e4⟩ := HV.out _ hSw
    go_simp
    try with_reducible rfl
  try simp only [Act.put, List.setIfInBounds_toArray, List.set_cons_zero, List.set_cons_succ, Array.toArray_toList, List.getElem_toArray, List.getElem_cons_zero, List.getElem_cons_succ]
  refine wpAnyH_take (i := 20) (v := ?v21) rfl (by kernel_rfl) (by kernel_rfl) (by kernel_rfl) (fun _ _ _ h => h) (Or.inl ⟨by rfl, ?hy21⟩) hHeld ?rest21
  case hy21 =>
    intro w hSw
    obtain ⟨d0, d1, d2, e0, e1, e2, e3, e4⟩ := HV.out _ hSw
    go_simp
    try with_reducible rfl
  try simp only [Act.put, List.setIfInBounds_toArray, List.set_cons_zero, List.set_cons_succ, Array.toArray_toList, List.getElem_toArray, List.getElem_cons_zero, List.getElem_cons_succ]
  refine wpAnyH_take (i := 21) (v := ?v22) rfl (by kernel_rfl) (by kernel_rfl) (by kernel_rfl) (fun _ _ _ h => h) (Or.inl ⟨by rfl, ?hy22⟩) hHeld ?rest22
  case hy22 =>
    intro w hSw
    go_simp
    try with_reducible rfl
  try simp only [Act.put, List.setIfInBounds_toArray, List.set_cons_zero, List.set_cons_succ, Array.toArray_toList, List.getElem_toArray, List.getElem_cons_zero, List.getElem_cons_succ]
  refine wpAnyH_take (i := 22) (v := ?v23) rfl (by kernel_rfl) (by kernel_rfl) (by kernel_rfl) (fun _ _ _ h => h) (Or.inl ⟨by rfl, ?hy23⟩) hHeld ?rest23
  case hy23 =>
    intro w hSw
    obtain ⟨d0, d1, d2, e0, e1, e2, e3, e4⟩ := HV.out _ hSw
    go_simp
    try with_reducible rfl
  try simp only [Act.put, List.setIfInBounds_toArray, List.set_cons_zero, List.set_cons_succ, Array.toArray_toList, List.getElem_toArray, List.getElem_cons_zero, List.getElem_cons_succ]
  refine wpAnyH_take (i := 23) (v := ?v24) rfl (by kernel_rfl) (by kernel_rfl) (by kernel_rfl) (fun _ _ _ h => h) (Or.inl ⟨by rfl, ?hy24⟩) hHeld ?rest24
  case hy24 =>
    intro w hSw
    go_simp
    try with_reducible rfl
  try simp only [Act.put, List.setIfInBounds_toArray, List.set_cons_zero, List.set_cons_succ, Array.toArray_toList, List.getElem_toArray, List.getElem_cons_zero, List.getElem_cons_succ]
  refine wpAnyH_take (i := 24) (v := ?v25) rfl (by kernel_rfl) (by kernel_rfl) (by kernel_rfl) (fun _ _ _ h => h) (Or.inl ⟨by rfl, ?hy25⟩) hHeld ?rest25
  case hy25 =>
    intro w hSw
    go_simp
    try with_reducible rfl
  try simp only [Act.put, List.setIfInBounds_toArray, List.set_cons_zero, List.set_cons_succ, Array.toArray_toList, List.getElem_toArray, List.getElem_cons_zero, List.getElem_cons_succ]
  refine wpAnyH_take (i := 25) (v := ?v26) rfl (by kernel_rfl) (by kernel_rfl) (by kernel_rfl) (fun _ _ _ h => h) (Or.inl ⟨by rfl, ?hy26⟩) hHeld ?rest26
  case hy26 =>
    intro w hSw
    go_simp
    try with_reducible rfl
  try simp only [Act.put, List.setIfInBounds_toArray, List.set_cons_zero, List.set_cons_succ, Array.toArray_toList, List.getElem_toArray, List.getElem_cons_zero, List.getElem_cons_succ]
  refine wpAnyH_take (i := 26) (v := ?v27) rfl (by kernel_rfl) (by kernel_rfl) (by kernel_rfl) (fun _ _ _ h => h) (Or.inl ⟨by rfl, ?hy27⟩) hHeld ?rest27
  case hy27 =>
    intro w hSw
    go_simp
    try with_reducible rfl
  try simp only [Act.put, List.setIfInBounds_toArray, List.set_cons_zero, List.set_cons_succ, Array.toArray_toList, List.getElem_toArray, List.getElem_cons_zero, List.getElem_cons_succ]
  refine wpAnyH_take (i := 27) (v := ?v28) rfl (by kernel_rfl) (by kernel_rfl) (by kernel_rfl) (fun _ _ _ h => h) (Or.inl ⟨by rfl, ?hy28⟩) hHeld ?rest28
  case hy28 =>
    intro w hSw
    go_simp
    try with_reducible rfl
  try simp only [Act.put, List.setIfInBounds_toArray, List.set_cons_zero, List.set_cons_succ, Array.toArray_toList, List.getElem_toArray, List.getElem_cons_zero, List.getElem_cons_succ]
  refine wpAnyH_take (i := 28) (v := ?v29) rfl (by kernel_rfl) (by kernel_rfl) (by kernel_rfl) (fun _ _ _ h => h) (Or.inl ⟨by rfl, ?hy29⟩) hHeld ?rest29
  case hy29 =>
    intro w hSw
    obtain ⟨d0, d1, d2, e0, e1, e2, e3, e4⟩ := HV.out _ hSw
    go_simp
    try with_reducible rfl
  try simp only [Act.put, List.setIfInBounds_toArray, List.set_cons_zero, List.set_cons_succ, Array.toArray_toList, List.getElem_toArray, List.getElem_cons_zero, List.getElem_cons_succ]
  refine wpAnyH_take (i := 29) (v := ?v30) rfl (by kernel_rfl) (by kernel_rfl) (by kernel_rfl) (fun _ _ _ h => h) (Or.inl ⟨by rfl, ?hy30⟩) hHeld ?rest30
  case hy30 =>
    intro w hSw
    obtain ⟨d0, d1, d2, e0, e1, e2, e3, e4⟩ := HV.out _ hSw
    go_simp
    try with_reducible rfl
  try simp only [Act.put, List.setIfInBounds_toArray, List.set_cons_zero, List.set_cons_succ, Array.toArray_toList, List.getElem_toArray, List.getElem_cons_zero, List.getElem_cons_succ]
  refine wpAnyH_take (i := 30) (v := ?v31) rfl (by kernel_rfl) (by kernel_rfl) (by kernel_rfl) (fun _ _ _ h => h) (Or.inl ⟨by rfl, ?hy31⟩) hHeld ?rest31
  case hy31 =>
    intro w hSw
    go_simp
    try with_reducible rfl
  try simp only [Act.put, List.setIfInBounds_toArray, List.set_cons_zero, List.set_cons_succ, Array.toArray_toList, List.getElem_toArray, List.getElem_cons_zero, List.getElem_cons_succ]
  refine wpAnyH_take (i := 31) (v := ?v32) rfl (by kernel_rfl) (by kernel_rfl) (by kernel_rfl) (fun _ _ _ h => h) (Or.inl ⟨by rfl, ?hy32⟩) hHeld ?rest32
  case hy32 =>
    intro w hSw
    obtain ⟨d0, d1, d2, e0, e1, e2, e3, e4⟩ := HV.out _ hSw
    go_simp
    try with_reducible rfl
  try simp only [Act.put, List.setIfInBounds_toArray, List.set_cons_zero, List.set_cons_succ, Array.toArray_toList, List.getElem_toArray, List.getElem_cons_zero, List.getElem_cons_succ]
  refine wpAnyH_take (i := 32) (v := ?v33) rfl (by kernel_rfl) (by kernel_rfl) (by kernel_rfl) (fun _ _ _ h => h) (Or.inl ⟨by rfl, ?hy33⟩) hHeld ?rest33
  case hy33 =>
    intro w hSw
    go_simp
    try with_reducible rfl
  try simp only [Act.put, List.setIfInBounds_toArray, List.set_cons_zero, List.set_cons_succ, Array.toArray_toList, List.getElem_toArray, List.getElem_cons_zero, List.getElem_cons_succ]
  refine wpAnyH_take (i := 33) (v := ?v34) rfl (by kernel_rfl) (by kernel_rfl) (by kernel_rfl) (fun _ _ _ h => h) (Or.inl ⟨by rfl, ?hy34⟩) hHeld ?rest34
  case hy34 =>
    intro w hSw
    go_simp
    try with_reducible rfl
  try simp only [Act.put, List.setIfInBounds_toArray, List.set_cons_zero, List.set_cons_succ, Array.toArray_toList, List.getElem_toArray, List.getElem_cons_zero, List.getElem_cons_succ]
  refine wpAnyH_done (by kernel_rfl) ?_ _
  refine NoPanic.normal ?_
  clear hHeld
  have hd : Below w8.heap.size w8 w8.drew := (Below.refl _ _).drew
  obtain ⟨d0, _⟩ := HV.out _ hd
  have HC10 := hid (HC9.out _ hd)
  have HBD := hid (HB8.out.drew)
  have SX : Hid (samB n L f n L f = true) := samB_true fun _ _ => rfl
  clear hd
  go_wp2_with (first
    | (go_at_call 6; refine HC10.out.mono ?_; rintro r w9 ⟨gq, A9, rfl, hp9, hb9⟩; have HB9 := hid (HBD.out.trans (hb9.mono HBD.out.size)); have HP9 := hid hp9; clear hp9 hb9)
    | (go_at_call 7; refine (same_any _ n n A9 L L f a n c A L C f _ HP9.out (HP.out _ HB9.out) hnn).mono ?_; rintro r w10 ⟨rfl, hb10⟩; rw [SX.out]; have HB10 := hid (HB9.out.trans (hb10.mono HB9.out.size)); clear hb10))
  go_ret
  exact ⟨rfl, HB10.out⟩

theorem nests_law (zs : Nat → Int) (a : Option Addr) (n c : Nat) (A : Nat → Option Addr) (L C : Nat → Nat) (f : Nat → Nat → Int) (sa : Option Addr) (m sc : Nat) (ta : Option Addr) (t tc : Nat) (ft : Nat → Int) (w : World) (h : Parts w a n A L C f) (hf : ∀ r, r < n → ∀ q, q < L r → 0 ≤ f r q ∧ f r q < 256) (hn : Nms .i64 w sa m zs) (hLb : ∀ r, r < n → L r ≤ 9223372036854775807) (hm : m ≤ 1048576) (hs : sumL L n ≤ 1048576)
    (hy : Bys w ta t tc ft) (hft : ∀ j, 0 ≤ ft j ∧ ft j < 256) (ht : t ≤ 1048576) (htc : t ≤ tc) :
    Calls Try.prog 3 #[.slice a n c, .slice sa m sc, .slice ta t tc] w fun e w' => e = .returned (.bool true) ∧ Below w.heap.size w w' := by
  cases hsz : szB zs m
  · exact nests_err 1 (.inl rfl) a n c sa m sc ta t tc w (fun W hW => lay_arg zs a n c A L C f sa m sc W (hn.below hW) (by omega) hsz)
  · by_cases hnm : n = m
    · subst hnm
      obtain ⟨hn1, hnb, hok⟩ := szB_out hsz
      have hH := hdL_bd n hok
      have hlo := loL_le zs L n
      by_cases hfit : Fits zs L n
      · exact nests_ok zs a n c A L C f sa sc ta t tc ft w h hf hn hsz hLb hfit (by omega) hy hft (by omega) htc
      · exact nests_err 4 (.inr rfl) a n c sa n sc ta t tc w (fun W hW => lay_size zs a n c A L C f sa sc W (h.below hW) (hn.below hW) hsz hLb hfit)
    · exact nests_err 1 (.inl rfl) a n c sa m sc ta t tc w (fun W hW => lay_count zs a n c A L C f sa m sc W (hn.below hW) (by omega) hsz hnm)

end Go.Proofs.Ytppjpodlnelomab
