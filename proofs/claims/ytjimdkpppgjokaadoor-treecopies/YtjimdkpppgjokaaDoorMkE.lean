/-
  What rise makes of a row.
-/
import Derived.Test.YtjimdkpppgjokaaDoorMkD
import Derived.Deep.RegionHeld3
namespace Go.Proofs.YtjimdkpppgjokaaDoor
open Go.RowKit
set_option linter.unusedVariables false
set_option linter.unusedSimpArgs false

attribute [local go_sem ↓] sv24_eq lv24_eq ix22_eq slr_eq

/-- The row above: the hashes of two neighbours each. -/
def upf (f : Nat → Int) (len d : Nat) (q : Nat) : Int := tw (gt32 f len d (2 * (q / 32))) (gt32 f len d (2 * (q / 32) + 1)) (q % 32)
/-- The row, its first k roots written over. -/
def mixf (f : Nat → Int) (len d k : Nat) (q : Nat) : Int := if q < 32 * k then upf f len d q else f q
theorem mixf_get (f : Nat → Int) (len d k i : Nat) (h : k ≤ i) : gt32 (mixf f len d k) len d i = gt32 f len d i := by
  unfold gt32
  by_cases hi : i < len
  · rw [if_pos hi, if_pos hi]
    funext j
    unfold rt32 mixf
    rw [if_neg (by omega)]
  · rw [if_neg hi, if_neg hi]
theorem mixf_step (f : Nat → Int) (len d k q : Nat) : over (mixf f len d k) (tw (gt32 f len d (2 * k)) (gt32 f len d (2 * k + 1))) (32 * k) 32 q = mixf f len d (k + 1) q := by
  unfold over mixf
  by_cases h1 : 32 * k ≤ q ∧ q < 32 * k + 32
  · rw [if_pos h1, if_pos (by omega)]
    unfold upf
    rw [show q / 32 = k by omega, show q % 32 = q - 32 * k by omega]
  · rw [if_neg h1]
    by_cases h2 : q < 32 * k
    · rw [if_pos h2, if_pos (by omega)]
    · rw [if_neg h2, if_neg (by omega)]
theorem upf_bd (f : Nat → Int) (len d n : Nat) : ByB (upf f len d) n := fun q _ => tw_bd _ _ _
theorem Sh.low {w w' : World} {B : Nat} (h : Sh w) (hB : 3 ≤ B) (hb : Below B w w') : Sh w' :=
  ⟨⟨Nat.lt_of_lt_of_le h.1.1 hb.size, fun i hi => (below_cell hb (by omega)).trans (h.1.2 i hi)⟩, ⟨Nat.lt_of_lt_of_le h.2.1 hb.size, fun i hi => (below_cell hb (by omega)).trans (h.2.2 i hi)⟩⟩

theorem ofs_zero (a : Option Addr) (cap : Nat) : ofs a cap 0 = a := by
  unfold ofs
  by_cases h : cap = 0
  · rw [if_pos h]
  · rw [if_neg h]
    cases a with
    | none => rfl
    | some x => simp [Addr.add]
/-- The state of a row in its walk. -/
def RowSt (B g : Nat) (w : World) (a : Option Addr) (len cap d : Nat) (f : Nat → Int) (W : World) : Prop :=
  Below B w W ∧ RowR W B g a len cap f ∧ ∃ z, z ≤ d ∧ W.heap[g]? = some (.cells (rwA (.slice a len cap) d (zr z) z) 68)
theorem keepSt {B g : Nat} {w W W' : World} {a : Option Addr} {len cap d : Nat} {f : Nat → Int} (hBg : B ≤ g) (h : RowSt B g w a len cap d f W) (hb : Below W.heap.size W W') : RowSt B g w a len cap d f W' := by
  obtain ⟨h1, h2, z, h3, h4⟩ := h
  have hgl := (Array.getElem?_eq_some_iff.1 h4).1
  exact ⟨h1.trans (hb.mono (by omega)), h2.below hb, z, h3, (hb.block g hgl).trans h4⟩
theorem storeSt {B g : Nat} {w W : World} {a : Option Addr} {len cap d i : Nat} {f : Nat → Int} (hBg : B ≤ g) (h : RowSt B g w a len cap d f W) (hi : i < len) (c : Nat → Int) :
    ∃ b w', (∀ W : World, (ix22 (.slice a len cap) (.int .i64 i)).run Tryd.prog W = .ok (.pointer (some ⟨b, 32 * i, none⟩)) W) ∧ (sv24 ⟨b, 32 * i, none⟩ (.agg (vs .u8 32 c))).run Tryd.prog W = .ok () w' ∧ RowSt B g w a len cap d (over f c (32 * i) 32) w' := by
  obtain ⟨h1, h2, z, h3, h4⟩ := h
  have hgl := (Array.getElem?_eq_some_iff.1 h4).1
  obtain ⟨b, w', hx, hs, hB, hr, hg, _⟩ := h2.store hi c (by omega)
  exact ⟨b, w', hx, hs, h1.trans hB, hr, z, h3, hg.trans h4⟩

set_option maxRecDepth 20000 in
set_option maxHeartbeats 1000000 in
theorem rise_any (B g : Nat) (a : Option Addr) (len cap d zd : Nat) (f : Nat → Int) (w : World) (hS : Sh w) (hB : 3 ≤ B) (hBg : B ≤ g) (hg : w.heap[g]? = some (.cells (rwA (.slice a len cap) d (zr zd) zd) 68))
    (hr : RowR w B g a len cap f) (hf : ByB f (32 * len)) (hl : len ≤ 140737488355328) (hz : zd ≤ d) (hd : d ≤ 900) :
    Calls Tryd.prog 37 #[.pointer (some ⟨g, 0, none⟩)] w fun e w' => e = .returned (.tuple #[]) ∧ Below B w w' ∧ RowR w' B g a ((len + 1) / 2) cap (upf f len d) ∧ ∃ z, z ≤ d ∧ w'.heap[g]? = some (.cells (rwA (.slice a ((len + 1) / 2) cap) (d + 1 : Nat) (zr z) z) 68) := by
  have hgl : g < w.heap.size := (Array.getElem?_eq_some_iff.1 hg).1
  obtain ⟨hf2, eh⟩ : ∃ h, h = (len + 1) / 2 := ⟨_, rfl⟩
  rw [← eh]
  have c0 := row_cell hg 0
  rw [rwA_0] at c0
  have r1 : ((len : Int) + 1).tdiv 2 = (hf2 : Int) := by rw [Int.tdiv_eq_ediv_of_nonneg (by omega)]; omega
  have r2 : ((len : Int) + 1) / 2 = (hf2 : Int) := by omega
  have HG := hid hg
  have HS := hid hS
  have HR := hid hr
  have HF := hid hf
  have EH := hid eh
  have hle : hf2 ≤ len := by omega
  clear hg hS hr hf eh
  go_enter Tryd.func37, Tryd.ntmps37
  go_wp2
  clear r1 r2 c0
  go_loopw [12] (fun i wr => ∃ k : Nat, k ≤ hf2 ∧ i = .int .i64 k ∧ Below B w wr ∧ RowR wr B g a len cap (mixf f len d k) ∧ ∃ z, z ≤ d ∧ wr.heap[g]? = some (.cells (rwA (.slice a len cap) d (zr z) z) 68)) (fun i _ => hf2 - (intOf i).toNat)
  case atStart =>
    refine ⟨0, by omega, rfl, Below.refl _ _, HR.out.congr (fun q _ => by unfold mixf; rw [if_neg (by omega)]), zd, hz, HG.out⟩
  case round =>
    clear HG HR
    obtain ⟨k, hk, rfl, hBl, hrr, z, hzd, hg⟩ := hrel
    by_cases hlt : k < hf2
    · have hb2 : decide (k < hf2) = true := by simp; omega
      obtain ⟨x0, e0⟩ : ∃ x : Nat, x = 2 * k := ⟨_, rfl⟩
      obtain ⟨x1, e1⟩ : ∃ x : Nat, x = 2 * k + 1 := ⟨_, rfl⟩
      have q0 : 2 * (k : Int) = (x0 : Int) := by omega
      have q1 : (x0 : Int) + 1 = (x1 : Int) := by omega
      have q2 : IntKind.i64.wrap (x0 : Int) = (x0 : Int) := by rw [IntKind.wrap_i64]; omega
      have q3 : IntKind.i64.wrap (x1 : Int) = (x1 : Int) := by rw [IntKind.wrap_i64]; omega
      have hat : ∀ (x : Nat) (W : World), x ≤ 9223372036854775807 → k ≤ x → RowSt B g w a len cap d (mixf f len d k) W →
          Calls Tryd.prog 38 #[.pointer (some ⟨g, 0, none⟩), .int .i64 x] W fun e w' => e = .returned (.agg (vs .u8 32 (gt32 f len d x))) ∧ RowSt B g w a len cap d (mixf f len d k) w' := by
        rintro x W hx hkx ⟨hb, hrw, z, hz, hgw⟩
        refine (at_any g a len cap d z x _ W (HS.out.low hB hb) hgw (by omega) (by omega) hrw.rts hx hz (by omega)).mono ?_
        rintro e w' ⟨rfl, hkp, z', hz', hg'⟩
        rw [mixf_get _ _ _ _ _ hkx]
        have := hb.size
        exact ⟨rfl, hb.trans (hkp.below hBg (by omega)), hrw.kept hkp, z', hz', hg'⟩
      have h0 := fun W => hat x0 W (by omega) (by omega)
      have h1 := fun W => hat x1 W (by omega) (by omega)
      have H0 := hid h0
      have H1 := hid h1
      have HST : Hid (RowSt B g w a len cap d (mixf f len d k) wr.drew) := ⟨hBl.drew, hrr, z, hzd, hg⟩
      have hcell : ∀ (F : Nat → Int) (W : World), RowSt B g w a len cap d F W → W.cell? ⟨g, 0, none⟩ = some (.slice a len cap) := by
        rintro F W ⟨_, _, z, _, h⟩
        rw [row_cell h, rwA_0]
      have HC := hid hcell
      have HK := hid (And.intro hk (And.intro e0 e1))
      clear hat h0 h1 hBl hrr hg hcell hk e0 e1
      go_upto_region 4 with fail
      refine wp_region_noPanic ?_
      refine wp_region_held_drew (S := fun W => W.cell? ⟨g, 0, none⟩ = some (.slice a len cap)) (by kernel_rfl) (HC.out _ _ HST.out) (fun hHeld => ?_)
      refine wpAnyH_take (i := 0) (v := ?v1) rfl (by kernel_rfl) (by kernel_rfl) (by kernel_rfl) (fun _ _ _ h => h) (Or.inl ⟨by rfl, ?hy1⟩) hHeld ?rest1
      case hy1 =>
        intro w hSw
        go_simp
        try with_reducible rfl
      try simp only [Act.put, List.setIfInBounds_toArray, List.set_cons_zero, List.set_cons_succ, Array.toArray_toList, List.getElem_toArray, List.getElem_cons_zero, List.getElem_cons_succ]
      refine wpAnyH_take (i := 1) (v := ?v2) rfl (by kernel_rfl) (by kernel_rfl) (by kernel_rfl) (fun _ _ _ h => h) (Or.inl ⟨by rfl, ?hy2⟩) hHeld ?rest2
      case hy2 =>
        intro w hSw
        go_simp
        try with_reducible rfl
      try simp only [Act.put, List.setIfInBounds_toArray, List.set_cons_zero, List.set_cons_succ, Array.toArray_toList, List.getElem_toArray, List.getElem_cons_zero, List.getElem_cons_succ]
      refine wpAnyH_take (i := 2) (v := ?v3) rfl (by kernel_rfl) (by kernel_rfl) (by kernel_rfl) (fun _ _ _ h => h) (Or.inl ⟨by rfl, ?hy3⟩) hHeld ?rest3
      case hy3 =>
        intro w hSw
        go_simp
        try with_reducible rfl
      try simp only [Act.put, List.setIfInBounds_toArray, List.set_cons_zero, List.set_cons_succ, Array.toArray_toList, List.getElem_toArray, List.getElem_cons_zero, List.getElem_cons_succ]
      refine wpAnyH_take (i := 3) (v := ?v4) rfl (by kernel_rfl) (by kernel_rfl) (by kernel_rfl) (fun _ _ _ h => h) (Or.inl ⟨by rfl, ?hy4⟩) hHeld ?rest4
      case hy4 =>
        intro w hSw
        go_simp
        try with_reducible rfl
      try simp only [Act.put, List.setIfInBounds_toArray, List.set_cons_zero, List.set_cons_succ, Array.toArray_toList, List.getElem_toArray, List.getElem_cons_zero, List.getElem_cons_succ]
      refine wpAnyH_take (i := 4) (v := ?v5) rfl (by kernel_rfl) (by kernel_rfl) (by kernel_rfl) (fun _ _ _ h => h) (Or.inl ⟨by rfl, ?hy5⟩) hHeld ?rest5
      case hy5 =>
        intro w hSw
        go_simp
        try with_reducible rfl
      try simp only [Act.put, List.setIfInBounds_toArray, List.set_cons_zero, List.set_cons_succ, Array.toArray_toList, List.getElem_toArray, List.getElem_cons_zero, List.getElem_cons_succ]
      refine wpAnyH_take (i := 5) (v := ?v6) rfl (by kernel_rfl) (by kernel_rfl) (by kernel_rfl) (fun _ _ _ h => h) (Or.inl ⟨by rfl, ?hy6⟩) hHeld ?rest6
      case hy6 =>
        intro w hSw
        go_simp
        try with_reducible rfl
      try simp only [Act.put, List.setIfInBounds_toArray, List.set_cons_zero, List.set_cons_succ, Array.toArray_toList, List.getElem_toArray, List.getElem_cons_zero, List.getElem_cons_succ]
      refine wpAnyH_take (i := 6) (v := ?v7) rfl (by kernel_rfl) (by kernel_rfl) (by kernel_rfl) (fun _ _ _ h => h) (Or.inl ⟨by rfl, ?hy7⟩) hHeld ?rest7
      case hy7 =>
        intro w hSw
        go_simp
        try with_reducible rfl
      try simp only [Act.put, List.setIfInBounds_toArray, List.set_cons_zero, List.set_cons_succ, Array.toArray_toList, List.getElem_toArray, List.getElem_cons_zero, List.getElem_cons_succ]
      refine wpAnyH_take (i := 7) (v := ?v8) rfl (by kernel_rfl) (by kernel_rfl) (by kernel_rfl) (fun _ _ _ h => h) (Or.inl ⟨by rfl, ?hy8⟩) hHeld ?rest8
      case hy8 =>
        intro w hSw
        go_simp
        try with_reducible rfl
      try simp only [Act.put, List.setIfInBounds_toArray, List.set_cons_zero, List.set_cons_succ, Array.toArray_toList, List.getElem_toArray, List.getElem_cons_zero, List.getElem_cons_succ]
      refine wpAnyH_take (i := 9) (v := ?v9) rfl (by kernel_rfl) (by kernel_rfl) (by kernel_rfl) (fun _ _ _ h => h) (Or.inl ⟨by rfl, ?hy9⟩) hHeld ?rest9
      case hy9 =>
        intro w hSw
        go_simp
        try with_reducible rfl
      try simp only [Act.put, List.setIfInBounds_toArray, List.set_cons_zero, List.set_cons_succ, Array.toArray_toList, List.getElem_toArray, List.getElem_cons_zero, List.getElem_cons_succ]
      refine wpAnyH_take (i := 10) (v := ?v10) rfl (by kernel_rfl) (by kernel_rfl) (by kernel_rfl) (fun _ _ _ h => h) (Or.inl ⟨by rfl, ?hy10⟩) hHeld ?rest10
      case hy10 =>
        intro w hSw
        go_simp
        try with_reducible rfl
      try simp only [Act.put, List.setIfInBounds_toArray, List.set_cons_zero, List.set_cons_succ, Array.toArray_toList, List.getElem_toArray, List.getElem_cons_zero, List.getElem_cons_succ]
      refine wpAnyH_take (i := 11) (v := ?v11) rfl (by kernel_rfl) (by kernel_rfl) (by kernel_rfl) (fun _ _ _ h => h) (Or.inl ⟨by rfl, ?hy11⟩) hHeld ?rest11
      case hy11 =>
        intro w hSw
        go_simp
        try with_reducible rfl
      try simp only [Act.put, List.setIfInBounds_toArray, List.set_cons_zero, List.set_cons_succ, Array.toArray_toList, List.getElem_toArray, List.getElem_cons_zero, List.getElem_cons_succ]
      refine wpAnyH_take (i := 12) (v := ?v12) rfl (by kernel_rfl) (by kernel_rfl) (by kernel_rfl) (fun _ _ _ h => h) (Or.inl ⟨by rfl, ?hy12⟩) hHeld ?rest12
      case hy12 =>
        intro w hSw
        go_simp
        try with_reducible rfl
      try simp only [Act.put, List.setIfInBounds_toArray, List.set_cons_zero, List.set_cons_succ, Array.toArray_toList, List.getElem_toArray, List.getElem_cons_zero, List.getElem_cons_succ]
      refine wpAnyH_ready (rs := [8]) (by kernel_rfl) (by simp) ?_
      refine AllReadyH.cons rfl (fun K hK => ?_) AllReadyH.nil
      go_simp
      refine (H0.out _ HST.out).mono ?_
      rintro e w1 ⟨rfl, hs1⟩
      dsimp only
      refine hK.out _ _ (HC.out _ _ hs1) (fun hHeld => ?_)
      clear hK K
      try simp only [Act.put, List.setIfInBounds_toArray, List.set_cons_zero, List.set_cons_succ, Array.toArray_toList, List.getElem_toArray, List.getElem_cons_zero, List.getElem_cons_succ]
      refine wpAnyH_ready (rs := [13]) (by kernel_rfl) (by simp) ?_
      refine AllReadyH.cons rfl (fun K hK => ?_) AllReadyH.nil
      go_simp
      refine (H1.out _ hs1).mono ?_
      rintro e w2 ⟨rfl, hs2⟩
      dsimp only
      refine hK.out _ _ (HC.out _ _ hs2) (fun hHeld => ?_)
      clear hK K
      try simp only [Act.put, List.setIfInBounds_toArray, List.set_cons_zero, List.set_cons_succ, Array.toArray_toList, List.getElem_toArray, List.getElem_cons_zero, List.getElem_cons_succ]
      refine wpAnyH_ready (rs := [14]) (by kernel_rfl) (by simp) ?_
      refine AllReadyH.cons rfl (fun K hK => ?_) AllReadyH.nil
      go_simp
      refine (two_tw _ _ _ (HS.out.low hB hs2.1) (gt32_bd HF.out _ _) (gt32_bd HF.out _ _)).mono ?_
      rintro e w3 ⟨rfl, hb3⟩
      dsimp only
      have hs3 := keepSt hBg hs2 hb3
      refine hK.out _ _ (HC.out _ _ hs3) (fun hHeld => ?_)
      clear hK K
      try simp only [Act.put, List.setIfInBounds_toArray, List.set_cons_zero, List.set_cons_succ, Array.toArray_toList, List.getElem_toArray, List.getElem_cons_zero, List.getElem_cons_succ]
      obtain ⟨b, w4, hx, hst, hs4⟩ := storeSt hBg hs3 (show k < len by omega) (tw (gt32 f len d x0) (gt32 f len d x1))
      have HS4 := hid hs4
      refine wpAnyH_take (i := 15) (v := ?v13) rfl (by kernel_rfl) (by kernel_rfl) (by kernel_rfl) (fun _ _ _ h => h) (Or.inl ⟨by rfl, ?hy13⟩) hHeld ?rest13
      case hy13 =>
        intro w hSw
        go_simp
        try with_reducible rfl
      try simp only [Act.put, List.setIfInBounds_toArray, List.set_cons_zero, List.set_cons_succ, Array.toArray_toList, List.getElem_toArray, List.getElem_cons_zero, List.getElem_cons_succ]
      refine wpAnyH_ready (rs := [16]) (by kernel_rfl) (by simp) ?_
      refine AllReadyH.cons rfl (fun K hK => ?_) AllReadyH.nil
      go_simp
      refine hK.out _ _ (HC.out _ _ hs4) (fun hHeld => ?_)
      clear hK K
      try simp only [Act.put, List.setIfInBounds_toArray, List.set_cons_zero, List.set_cons_succ, Array.toArray_toList, List.getElem_toArray, List.getElem_cons_zero, List.getElem_cons_succ]
      refine wpAnyH_done (by kernel_rfl) ?_ _
      refine NoPanic.normal ?_
      go_wp2
      go_roundw
      case rel =>
        obtain ⟨h1, h2, h3⟩ := hs4
        refine ⟨k + 1, by omega, by go_num, h1, h2.congr (fun q _ => ?_), h3⟩
        obtain ⟨_, e0, e1⟩ := HK.out
        rw [e0, e1]
        exact mixf_step f len d k q
      case measure => simp [intOf]; omega
    · have ek : k = hf2 := by omega
      subst ek
      have hb2 : decide (k < k) = false := by simp
      have c0 := row_cell hg 0
      rw [rwA_0] at c0
      have f0 := row_frozen hg 0
      have sr := fun W => slr_run W a len cap 0 k none (some (.int .i64 k)) (.inr ⟨rfl, rfl⟩) (.inl rfl) (by omega) hle hrr.1
      rw [ofs_zero, Nat.sub_zero, Nat.sub_zero] at sr
      have hg1 := (row_set hg 0 (.slice a k cap))
      rw [rwA_set0] at hg1
      have c1 := row_cell hg1 1
      rw [rwA_1] at c1
      have f1 := row_frozen hg1 1
      have hB1 : Below B w (wr.setCell ⟨g, 0, none⟩ (.slice a k cap)) := hBl.setCell hBg _
      have hr1 : RowR (wr.setCell ⟨g, 0, none⟩ (.slice a k cap)) B g a k cap (upf f len d) := ((hrr.kept ((Kept.refl g wr).setCell 0 _)).cut hle).congr (fun q hq => by unfold mixf; rw [if_pos hq])
      obtain ⟨W1, hW1⟩ : ∃ W, wr.setCell ⟨g, 0, none⟩ (.slice a k cap) = W := ⟨_, rfl⟩
      rw [hW1] at hg1 c1 f1 hB1 hr1
      have HG1 := hid hg1
      have HB1 := hid hB1
      have HR1 := hid hr1
      have HW1 := hid hW1
      clear hg1 hB1 hr1 hW1 hg hrr hBl hk
      go_upto_region 7 with fail
      rw [HW1.out]
      clear c0 f0
      go_wp2
      refine bodyPost_end (results_none rfl _ _ _) rfl ?_
      refine ⟨rfl, HB1.out.setCell hBg _, HR1.out.kept ((Kept.refl g W1).setCell 1 _), z, hzd, ?_⟩
      refine (row_set HG1.out 1 _).trans ?_
      rw [rwA_set1]
      rfl

end Go.Proofs.YtjimdkpppgjokaaDoor
