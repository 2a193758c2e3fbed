/-
  What rise makes of a row.
  What slices.Clone, lowest, isLimit and depthOf answer.
  What lowest makes; what Zero and Tree answer.
  What Tree answers.
-/
import Derived.Test.YtficlakgameglaaDoorMaA
import Derived.Test.YtficlakgameglaaDoorShelf
import Derived.Deep.RegionHeld3
import Derived.Laws.AppendOwnNone
namespace Go.Proofs.YtficlakgameglaaDoor

open Go.RowKit

set_option linter.unusedVariables false

set_option linter.unusedSimpArgs false

attribute [local go_sem ↓] sv24_eq lv24_eq ix22_eq slr_eq

/-- The row above: the hashes of two neighbours each. -/
def upf (f : Nat → Int) (len d : Nat) (q : Nat) : Int := tw (gt32 f len d (2 * (q / 32))) (gt32 f len d (2 * (q / 32) + 1)) (q % 32)

/-- The row, its first k roots written over. -/
def mixf (f : Nat → Int) (len d k : Nat) (q : Nat) : Int := if q < 32 * k then upf f len d q else f q

theorem mixf_get (f : Nat → Int) (len d k i : Nat) (h : k ≤ i) : gt32 (mixf f len d k) len d i = gt32 f len d i := by
  unfold gt32
  by_cases hi : i < len
  · rw [if_pos hi, if_pos hi]
    funext j
    unfold rt32 mixf
    rw [if_neg (by omega)]
  · rw [if_neg hi, if_neg hi]

theorem mixf_step (f : Nat → Int) (len d k q : Nat) : over (mixf f len d k) (tw (gt32 f len d (2 * k)) (gt32 f len d (2 * k + 1))) (32 * k) 32 q = mixf f len d (k + 1) q := by
  unfold over mixf
  by_cases h1 : 32 * k ≤ q ∧ q < 32 * k + 32
  · rw [if_pos h1, if_pos (by omega)]
    unfold upf
    rw [show q / 32 = k by omega, show q % 32 = q - 32 * k by omega]
  · rw [if_neg h1]
    by_cases h2 : q < 32 * k
    · rw [if_pos h2, if_pos (by omega)]
    · rw [if_neg h2, if_neg (by omega)]

theorem Sh.low {w w' : World} {B : Nat} (h : Sh w) (hB : 2 ≤ B) (hb : Below B w w') : Sh w' :=
  ⟨⟨Nat.lt_of_lt_of_le h.1.1 hb.size, fun i hi => (below_cell hb (by omega)).trans (h.1.2 i hi)⟩, ⟨Nat.lt_of_lt_of_le h.2.1 hb.size, fun i hi => (below_cell hb (by omega)).trans (h.2.2 i hi)⟩⟩

theorem ofs_zero (a : Option Addr) (cap : Nat) : ofs a cap 0 = a := by
  unfold ofs
  by_cases h : cap = 0
  · rw [if_pos h]
  · rw [if_neg h]
    cases a with
    | none => rfl
    | some x => simp [Addr.add]

/-- The state of a row in its walk. -/
def RowSt (B g : Nat) (w : World) (a : Option Addr) (len cap d : Nat) (f : Nat → Int) (W : World) : Prop :=
  Below B w W ∧ RowR W B g a len cap f ∧ ∃ z, z ≤ d ∧ W.heap[g]? = some (.cells (rwA (.slice a len cap) d (zr z) z) 156)

theorem keepSt {B g : Nat} {w W W' : World} {a : Option Addr} {len cap d : Nat} {f : Nat → Int} (hBg : B ≤ g) (h : RowSt B g w a len cap d f W) (hb : Below W.heap.size W W') : RowSt B g w a len cap d f W' := by
  obtain ⟨h1, h2, z, h3, h4⟩ := h
  have hgl := (Array.getElem?_eq_some_iff.1 h4).1
  exact ⟨h1.trans (hb.mono (by omega)), h2.below hb, z, h3, (hb.block g hgl).trans h4⟩

theorem storeSt {B g : Nat} {w W : World} {a : Option Addr} {len cap d i : Nat} {f : Nat → Int} (hBg : B ≤ g) (h : RowSt B g w a len cap d f W) (hi : i < len) (c : Nat → Int) :
    ∃ b w', (∀ W : World, (ix22 (.slice a len cap) (.int .i64 i)).run Tryd.prog W = .ok (.pointer (some ⟨b, 32 * i, none⟩)) W) ∧ (sv24 ⟨b, 32 * i, none⟩ (.agg (vs .u8 32 c))).run Tryd.prog W = .ok () w' ∧ RowSt B g w a len cap d (over f c (32 * i) 32) w' := by
  obtain ⟨h1, h2, z, h3, h4⟩ := h
  have hgl := (Array.getElem?_eq_some_iff.1 h4).1
  obtain ⟨b, w', hx, hs, hB, hr, hg, _⟩ := h2.store hi c (by omega)
  exact ⟨b, w', hx, hs, h1.trans hB, hr, z, h3, hg.trans h4⟩

set_option maxRecDepth 20000 in
set_option maxHeartbeats 1000000 in
theorem rise_any (B g : Nat) (a : Option Addr) (len cap d zd : Nat) (f : Nat → Int) (w : World) (hS : Sh w) (hB : 2 ≤ B) (hBg : B ≤ g) (hg : w.heap[g]? = some (.cells (rwA (.slice a len cap) d (zr zd) zd) 156))
    (hr : RowR w B g a len cap f) (hf : ByB f (32 * len)) (hl : len ≤ 140737488355328) (hz : zd ≤ d) (hd : d ≤ 900) :
    Calls Tryd.prog 101 #[.pointer (some ⟨g, 0, none⟩)] w fun e w' => e = .returned (.tuple #[]) ∧ Below B w w' ∧ RowR w' B g a ((len + 1) / 2) cap (upf f len d) ∧ ∃ z, z ≤ d ∧ w'.heap[g]? = some (.cells (rwA (.slice a ((len + 1) / 2) cap) (d + 1 : Nat) (zr z) z) 156) := by
  have hgl : g < w.heap.size := (Array.getElem?_eq_some_iff.1 hg).1
  obtain ⟨hf2, eh⟩ : ∃ h, h = (len + 1) / 2 := ⟨_, rfl⟩
  rw [← eh]
  have c0 := row_cell hg 0
  rw [rwA_0] at c0
  have r1 : ((len : Int) + 1).tdiv 2 = (hf2 : Int) := by rw [Int.tdiv_eq_ediv_of_nonneg (by omega)]; omega
  have r2 : ((len : Int) + 1) / 2 = (hf2 : Int) := by omega
  have HG := hid hg
  have HS := hid hS
  have HR := hid hr
  have HF := hid hf
  have EH := hid eh
  have hle : hf2 ≤ len := by omega
  clear hg hS hr hf eh
  go_enter Tryd.func101, Tryd.ntmps101
  go_wp2
  clear r1 r2 c0
  go_loopw [12] (fun i wr => ∃ k : Nat, k ≤ hf2 ∧ i = .int .i64 k ∧ Below B w wr ∧ RowR wr B g a len cap (mixf f len d k) ∧ ∃ z, z ≤ d ∧ wr.heap[g]? = some (.cells (rwA (.slice a len cap) d (zr z) z) 156)) (fun i _ => hf2 - (intOf i).toNat)
  case atStart =>
    refine ⟨0, by omega, rfl, Below.refl _ _, HR.out.congr (fun q _ => by unfold mixf; rw [if_neg (by omega)]), zd, hz, HG.out⟩
  case round =>
    clear HG HR
    obtain ⟨k, hk, rfl, hBl, hrr, z, hzd, hg⟩ := hrel
    by_cases hlt : k < hf2
    · have hb2 : decide (k < hf2) = true := by simp; omega
      obtain ⟨x0, e0⟩ : ∃ x : Nat, x = 2 * k := ⟨_, rfl⟩
      obtain ⟨x1, e1⟩ : ∃ x : Nat, x = 2 * k + 1 := ⟨_, rfl⟩
      have q0 : 2 * (k : Int) = (x0 : Int) := by omega
      have q1 : (x0 : Int) + 1 = (x1 : Int) := by omega
      have q2 : IntKind.i64.wrap (x0 : Int) = (x0 : Int) := by rw [IntKind.wrap_i64]; omega
      have q3 : IntKind.i64.wrap (x1 : Int) = (x1 : Int) := by rw [IntKind.wrap_i64]; omega
      have hat : ∀ (x : Nat) (W : World), x ≤ 9223372036854775807 → k ≤ x → RowSt B g w a len cap d (mixf f len d k) W →
          Calls Tryd.prog 102 #[.pointer (some ⟨g, 0, none⟩), .int .i64 x] W fun e w' => e = .returned (.agg (vs .u8 32 (gt32 f len d x))) ∧ RowSt B g w a len cap d (mixf f len d k) w' := by
        rintro x W hx hkx ⟨hb, hrw, z, hz, hgw⟩
        refine (at_any g a len cap d z x _ W (HS.out.low hB hb) hgw (by omega) (by omega) hrw.rts hx hz (by omega)).mono ?_
        rintro e w' ⟨rfl, hkp, z', hz', hg'⟩
        rw [mixf_get _ _ _ _ _ hkx]
        have := hb.size
        exact ⟨rfl, hb.trans (hkp.below hBg (by omega)), hrw.kept hkp, z', hz', hg'⟩
      have h0 := fun W => hat x0 W (by omega) (by omega)
      have h1 := fun W => hat x1 W (by omega) (by omega)
      have H0 := hid h0
      have H1 := hid h1
      have HST : Hid (RowSt B g w a len cap d (mixf f len d k) wr.drew) := ⟨hBl.drew, hrr, z, hzd, hg⟩
      have hcell : ∀ (F : Nat → Int) (W : World), RowSt B g w a len cap d F W → W.cell? ⟨g, 0, none⟩ = some (.slice a len cap) := by
        rintro F W ⟨_, _, z, _, h⟩
        rw [row_cell h, rwA_0]
      have HC := hid hcell
      have HK := hid (And.intro hk (And.intro e0 e1))
      clear hat h0 h1 hBl hrr hg hcell hk e0 e1
      go_upto_region 4 with fail
      refine wp_region_noPanic ?_
      refine wp_region_held_drew (S := fun W => W.cell? ⟨g, 0, none⟩ = some (.slice a len cap)) (by kernel_rfl) (HC.out _ _ HST.out) (fun hHeld => ?_)
      refine tk 0 (v := ?v1) ?y1 hHeld ?r1
      case y1 => intro w hSw; go_simp; try with_reducible rfl
      refine tk 1 (v := ?v2) ?y2 hHeld ?r2
      case y2 => intro w hSw; go_simp; try with_reducible rfl
      refine tk 2 (v := ?v3) ?y3 hHeld ?r3
      case y3 => intro w hSw; go_simp; try with_reducible rfl
      refine tk 3 (v := ?v4) ?y4 hHeld ?r4
      case y4 => intro w hSw; go_simp; try with_reducible rfl
      refine tk 4 (v := ?v5) ?y5 hHeld ?r5
      case y5 => intro w hSw; go_simp; try with_reducible rfl
      refine tk 5 (v := ?v6) ?y6 hHeld ?r6
      case y6 => intro w hSw; go_simp; try with_reducible rfl
      refine tk 6 (v := ?v7) ?y7 hHeld ?r7
      case y7 => intro w hSw; go_simp; try with_reducible rfl
      refine tk 7 (v := ?v8) ?y8 hHeld ?r8
      case y8 => intro w hSw; go_simp; try with_reducible rfl
      refine tk 9 (v := ?v9) ?y9 hHeld ?r9
      case y9 => intro w hSw; go_simp; try with_reducible rfl
      refine tk 10 (v := ?v10) ?y10 hHeld ?r10
      case y10 => intro w hSw; go_simp; try with_reducible rfl
      refine tk 11 (v := ?v11) ?y11 hHeld ?r11
      case y11 => intro w hSw; go_simp; try with_reducible rfl
      refine tk 12 (v := ?v12) ?y12 hHeld ?r12
      case y12 => intro w hSw; go_simp; try with_reducible rfl
      try simp only [Act.put, List.setIfInBounds_toArray, List.set_cons_zero, List.set_cons_succ, Array.toArray_toList, List.getElem_toArray, List.getElem_cons_zero, List.getElem_cons_succ]
      refine wpAnyH_ready (rs := [8]) (by kernel_rfl) (by simp) ?_
      refine AllReadyH.cons rfl (fun K hK => ?_) AllReadyH.nil
      go_simp
      refine (H0.out _ HST.out).mono ?_
      rintro e w1 ⟨rfl, hs1⟩
      dsimp only
      refine hK.out _ _ (HC.out _ _ hs1) (fun hHeld => ?_)
      clear hK K
      try simp only [Act.put, List.setIfInBounds_toArray, List.set_cons_zero, List.set_cons_succ, Array.toArray_toList, List.getElem_toArray, List.getElem_cons_zero, List.getElem_cons_succ]
      refine wpAnyH_ready (rs := [13]) (by kernel_rfl) (by simp) ?_
      refine AllReadyH.cons rfl (fun K hK => ?_) AllReadyH.nil
      go_simp
      refine (H1.out _ hs1).mono ?_
      rintro e w2 ⟨rfl, hs2⟩
      dsimp only
      refine hK.out _ _ (HC.out _ _ hs2) (fun hHeld => ?_)
      clear hK K
      try simp only [Act.put, List.setIfInBounds_toArray, List.set_cons_zero, List.set_cons_succ, Array.toArray_toList, List.getElem_toArray, List.getElem_cons_zero, List.getElem_cons_succ]
      refine wpAnyH_ready (rs := [14]) (by kernel_rfl) (by simp) ?_
      refine AllReadyH.cons rfl (fun K hK => ?_) AllReadyH.nil
      go_simp
      refine (two_tw _ _ _ (HS.out.low hB hs2.1) (gt32_bd HF.out _ _) (gt32_bd HF.out _ _)).mono ?_
      rintro e w3 ⟨rfl, hb3⟩
      dsimp only
      have hs3 := keepSt hBg hs2 hb3
      refine hK.out _ _ (HC.out _ _ hs3) (fun hHeld => ?_)
      clear hK K
      try simp only [Act.put, List.setIfInBounds_toArray, List.set_cons_zero, List.set_cons_succ, Array.toArray_toList, List.getElem_toArray, List.getElem_cons_zero, List.getElem_cons_succ]
      obtain ⟨b, w4, hx, hst, hs4⟩ := storeSt hBg hs3 (show k < len by omega) (tw (gt32 f len d x0) (gt32 f len d x1))
      have HS4 := hid hs4
      refine tk 15 (v := ?v13) ?y13 hHeld ?r13
      case y13 => intro w hSw; go_simp; try with_reducible rfl
      try simp only [Act.put, List.setIfInBounds_toArray, List.set_cons_zero, List.set_cons_succ, Array.toArray_toList, List.getElem_toArray, List.getElem_cons_zero, List.getElem_cons_succ]
      refine wpAnyH_ready (rs := [16]) (by kernel_rfl) (by simp) ?_
      refine AllReadyH.cons rfl (fun K hK => ?_) AllReadyH.nil
      go_simp
      refine hK.out _ _ (HC.out _ _ hs4) (fun hHeld => ?_)
      clear hK K
      try simp only [Act.put, List.setIfInBounds_toArray, List.set_cons_zero, List.set_cons_succ, Array.toArray_toList, List.getElem_toArray, List.getElem_cons_zero, List.getElem_cons_succ]
      refine wpAnyH_done (by kernel_rfl) ?_ _
      refine NoPanic.normal ?_
      go_wp2
      go_roundw
      case rel =>
        obtain ⟨h1, h2, h3⟩ := hs4
        refine ⟨k + 1, by omega, by go_num, h1, h2.congr (fun q _ => ?_), h3⟩
        obtain ⟨_, e0, e1⟩ := HK.out
        rw [e0, e1]
        exact mixf_step f len d k q
      case measure => simp [intOf]; omega
    · have ek : k = hf2 := by omega
      subst ek
      have hb2 : decide (k < k) = false := by simp
      have c0 := row_cell hg 0
      rw [rwA_0] at c0
      have f0 := row_frozen hg 0
      have sr := fun W => slr_run W a len cap 0 k none (some (.int .i64 k)) (.inr ⟨rfl, rfl⟩) (.inl rfl) (by omega) hle hrr.1
      rw [ofs_zero, Nat.sub_zero, Nat.sub_zero] at sr
      have hg1 := (row_set hg 0 (.slice a k cap))
      rw [rwA_set0] at hg1
      have c1 := row_cell hg1 1
      rw [rwA_1] at c1
      have f1 := row_frozen hg1 1
      have hB1 : Below B w (wr.setCell ⟨g, 0, none⟩ (.slice a k cap)) := hBl.setCell hBg _
      have hr1 : RowR (wr.setCell ⟨g, 0, none⟩ (.slice a k cap)) B g a k cap (upf f len d) := ((hrr.kept ((Kept.refl g wr).setCell 0 _)).cut hle).congr (fun q hq => by unfold mixf; rw [if_pos hq])
      obtain ⟨W1, hW1⟩ : ∃ W, wr.setCell ⟨g, 0, none⟩ (.slice a k cap) = W := ⟨_, rfl⟩
      rw [hW1] at hg1 c1 f1 hB1 hr1
      have HG1 := hid hg1
      have HB1 := hid hB1
      have HR1 := hid hr1
      have HW1 := hid hW1
      clear hg1 hB1 hr1 hW1 hg hrr hBl hk
      go_upto_region 7 with fail
      rw [HW1.out]
      clear c0 f0
      go_wp2
      refine bodyPost_end (results_none rfl _ _ _) rfl ?_
      refine ⟨rfl, HB1.out.setCell hBg _, HR1.out.kept ((Kept.refl g W1).setCell 1 _), z, hzd, ?_⟩
      refine (row_set HG1.out 1 _).trans ?_
      rw [rwA_set1]
      rfl

end Go.Proofs.YtficlakgameglaaDoor

namespace Go.Proofs.YtficlakgameglaaDoor

open Go.RowKit

set_option linter.unusedVariables false

set_option linter.unusedSimpArgs false

attribute [local go_sem ↓] sv24_eq lv24_eq ix22_eq slr_eq

theorem infoR : ∃ i, Tryd.prog.info? 24 = some i ∧ i.zero = some (.agg (vs .u8 32 fun _ => 0)) ∧ i.size = 32 ∧ i.bytes = 32 := by
  have h : (Tryd.prog.info? 24).map (fun i => (i.zero, i.size, i.bytes)) = some (some (.agg (vs .u8 32 fun _ => 0)), 32, 32) := by kernel_rfl
  cases hq : Tryd.prog.info? 24 with
  | none => simp [hq] at h
  | some i => simp [hq] at h; exact ⟨i, rfl, h.1, h.2.1, h.2.2⟩

/-- A row of the call's own, as the append's law has it. -/
theorem RowR.ofOwns {w : World} {B : Nat} {v : Value} {n : Nat} {f : Nat → Int} (h : w.ownsRow B 24 32 v n (bl f (32 * n))) : ∃ a cap, v = .slice a n cap ∧ RowR w B w.heap.size a n cap f := by
  rcases h with ⟨_, ⟨rfl, rfl⟩ | ⟨g, cap, cur, rfl, h1, h2, h3, h4, h5, h6⟩⟩
  · exact ⟨none, 0, rfl, Nat.le_refl _, .inl ⟨rfl, fun _ => rfl⟩⟩
  · have hg := (Array.getElem?_eq_some_iff.1 h2).1
    refine ⟨_, cap, rfl, h3, .inr ⟨g, cur, rfl, h1, by omega, h2, by omega, fun q hq => ?_⟩⟩
    have h7 : (cur.toList.take (n * 32))[q]? = (bl f (32 * n))[q]? := by rw [h6]
    rw [List.getElem?_take_of_lt (by omega), bl_at _ _ _ hq, Array.getElem?_toList] at h7
    exact h7

theorem RowR.move {w w' : World} {B g g' : Nat} {a : Option Addr} {len cap : Nat} {f : Nat → Int} (h : RowR w B g a len cap f) (hb : Below w.heap.size w w') (hg : w.heap.size ≤ g') : RowR w' B g' a len cap f := by
  rcases h with ⟨hc, h | ⟨b, C, h1, h2, h3, h4, h5, h6⟩⟩
  · exact ⟨hc, .inl h⟩
  · have hbl := (Array.getElem?_eq_some_iff.1 h4).1
    exact ⟨hc, .inr ⟨b, C, h1, h2, by omega, (hb.block b hbl).trans h4, h5, h6⟩⟩

theorem RowR.down {w : World} {B B' g : Nat} {a : Option Addr} {len cap : Nat} {f : Nat → Int} (h : RowR w B g a len cap f) (hB : B' ≤ B) : RowR w B' g a len cap f := by
  rcases h with ⟨hc, h | ⟨b, C, h1, h2, h3, h4, h5, h6⟩⟩
  · exact ⟨hc, .inl h⟩
  · exact ⟨hc, .inr ⟨b, C, h1, by omega, h3, h4, h5, h6⟩⟩

/- append of roots onto a row of the own -/

set_option maxRecDepth 20000 in
theorem wpList_append_rts (w : World) {ops : Array Oper} {rest : List Oper} {o : Oper} {a : Act} {Q : Exit → Act → World → Prop} (hgd : o.guard = none) (s x : Operand)
    (ho : o.op = .call { callee := .builtin .append, args := #[s, x], argTypes := #[32, 32] })
    (base : Nat) (v : Value) (n : Nat) (m : Nat → Int) (hs : a.eval s = v) (hown : w.ownsRow base 24 32 v n (bl m (32 * n)))
    (ao : Option Addr) (len cap : Nat) (f : Nat → Int) (hx : a.eval x = .slice ao len cap) (hb : Rts w ao len cap f) (hbd : (n + len) * 32 ≤ 140737488355328) (hbase : base ≤ w.heap.size)
    (m' : Nat → Int) (hm1 : ∀ q, q < 32 * n → m' q = m q) (hm2 : ∀ q, q < 32 * len → m' (32 * n + q) = f q)
    (h : ∀ v' w', w'.ownsRow base 24 32 v' (n + len) (bl m' (32 * (n + len))) → w.grownBy w' v.ownBlock → wpList Tryd.prog ops Q rest (a.put o.dst v') w') :
    wpList Tryd.prog ops Q (o :: rest) a w := by
  obtain ⟨i, hi, hz0, hz1, hz2⟩ := infoR
  have hzz : (Value.agg (vs .u8 32 fun _ => 0)).cells.size = 32 := by simp [Value.cells, vs_size]
  have e : bl m (32 * n) ++ bl f (32 * len) = bl m' (32 * (n + len)) := by
    unfold bl
    rw [Nat.mul_add, List.range_add, List.map_append, List.map_map]
    congr 1
    · exact List.map_congr_left fun j hj => by rw [hm1 j (List.mem_range.1 hj)]
    · refine List.map_congr_left fun j hj => ?_
      show Value.int .u8 (f j) = Value.int .u8 (m' (32 * n + j))
      rw [hm2 j (List.mem_range.1 hj)]
  rcases hb with ⟨rfl, rfl, rfl⟩ | ⟨x0, rfl, rfl⟩ | ⟨b, off, rfl, hlc, hbl, hc⟩
  · refine wpList_append_own_none hgd s x 32 ho base 24 i 32 Tryd.underlying32 hi v n _ hs hown hx (h v w ?_ ⟨rfl, rfl, rfl, Nat.le_refl _, fun _ _ _ => rfl⟩)
    rw [← e]
    simpa [bl] using hown
  · exact wpList_append_own w hgd s x 32 ho base 24 i _ 32 32 Tryd.underlying32 hi hz0 hz1 hz2 hzz (by decide) v n _ hs hown x0 0 cap (bl f (32 * 0)) hx (by rw [bl_len])
      (fun j u hj => by
        have := (bl_get f (32 * 0) j u hj).1
        omega) (bl_one f _) (by unfold maxLen; omega) (by omega) hbase (fun v' w' h1 h2 _ => h v' w' (by rw [← e]; exact h1) h2)
  · exact wpList_append_own w hgd s x 32 ho base 24 i _ 32 32 Tryd.underlying32 hi hz0 hz1 hz2 hzz (by decide) v n _ hs hown ⟨b, off, none⟩ len cap (bl f (32 * len)) hx (by rw [bl_len]; omega)
      (fun j u hj => by
        obtain ⟨h1, rfl⟩ := bl_get f (32 * len) j u hj
        rw [addr_add]
        exact hc j h1) (bl_one f _) (by unfold maxLen; omega) (by omega) hbase (fun v' w' h1 h2 _ => h v' w' (by rw [← e]; exact h1) h2)

theorem below_grownS {B s : Nat} {w0 w w' : World} {v : Value} {n : Nat} {xs : List Value} {e : TypeId} (hb : Below B w0 w) (ho : w.ownsRow B e s v n xs) (hB : B ≤ w.heap.size) (hg : w.grownBy w' v.ownBlock) : Below B w0 w' :=
  ⟨hg.os.trans hb.os, hg.tape.trans hb.tape, hg.output.trans hb.output, Nat.le_trans hb.size hg.size, fun k hk => (hg.block k (by omega) (fun e => by have := (ho.lt k e.symm).1; omega)).trans (hb.block k hk)⟩

theorem eqnilR (w : World) (a : Option Addr) (l c : Nat) : (binOp .eql 32 (.slice a l c) (.slice none 0 0)).run Tryd.prog w = .ok (.bool a.isNone) w := by
  simp only [binOp]
  simp [run_equal_slice_nil w 32 24 a l c Tryd.underlying32]

set_option maxRecDepth 20000 in
set_option maxHeartbeats 1000000 in
theorem rclone_any (a : Option Addr) (len cap : Nat) (f : Nat → Int) (w : World) (hr : Rts w a len cap f) (hl : 32 * len ≤ 140737488355328) :
    Calls Tryd.prog 69 #[.slice a len cap] w fun e w' => ∃ a' cap', e = .returned (.slice a' len cap') ∧ Below w.heap.size w w' ∧ RowR w' w.heap.size w'.heap.size a' len cap' f := by
  cases a with
  | none =>
    obtain ⟨rfl, rfl⟩ : len = 0 ∧ cap = 0 := by
      rcases hr with ⟨_, h1, h2⟩ | ⟨_, h, _⟩ | ⟨_, _, h, _⟩
      · exact ⟨h1, h2⟩
      · cases h
      · cases h
    have q := eqnilR w none 0 0
    go_enter Tryd.func69, Tryd.ntmps69
    go_wp2
    go_ret
    exact ⟨none, 0, rfl, Below.refl _ _, Nat.le_refl _, .inl ⟨rfl, fun _ => rfl⟩⟩
  | some x =>
    have HR := hid hr
    have q := eqnilR w (some x) len cap
    clear hr
    go_enter Tryd.func69, Tryd.ntmps69
    go_wp2_with (at_builtin; refine wpList_append_rts _ rfl _ _ rfl w.heap.size _ 0 f rfl (World.ownsRow_made _ #[] 0 (Nat.le_refl _) (Nat.zero_le _) rfl) (some x) len cap f rfl (HR.out.below ((Below.refl _ _).alloc (Nat.le_refl _) _)) (by omega) (by simp) f (fun q _ => rfl) (fun q _ => by rw [Nat.mul_zero, Nat.zero_add]) ?_; intro v' w' ho hgr)
    obtain ⟨a', cap', rfl, hrow⟩ := RowR.ofOwns ho
    go_ret
    refine ⟨a', cap', by rw [Nat.zero_add]; rfl, ?_, by rw [Nat.zero_add] at hrow; exact hrow⟩
    exact below_grownS ((Below.refl _ _).alloc (Nat.le_refl _) _) (World.ownsRow_made (e := 24) (size := 32) _ #[] 0 (Nat.le_refl _) (Nat.zero_le _) rfl) (by simp) hgr

theorem isLimit_any (n : Int) (w : World) (h0 : -9223372036854775808 ≤ n) (h1 : n ≤ 9223372036854775807) :
    Calls Tryd.prog 98 #[.int .i64 n] w fun e w' => e = .returned (.bool (decide (0 ≤ n ∧ n ≤ 1099511627776))) ∧ w' = w := by
  by_cases h : 0 ≤ n
  · go_enter Tryd.func98, Tryd.ntmps98
    go_wp2
    go_ret
    exact ⟨by simp [h], rfl⟩
  · go_enter Tryd.func98, Tryd.ntmps98
    go_wp2
    go_ret
    exact ⟨by rw [decide_eq_false (by omega)]; rfl, rfl⟩

theorem depthOf_any (n : Nat) (w : World) (h1 : n ≤ 1099511627776) :
    Calls Tryd.prog 100 #[.int .i64 n] w fun e w' => e = .returned (.int .i64 (dpt n : Nat)) ∧ w' = w := by
  by_cases h : n = 0
  · subst h
    go_enter Tryd.func100, Tryd.ntmps100
    go_wp2
    go_ret
    exact ⟨rfl, rfl⟩
  · obtain ⟨m, em⟩ : ∃ m, m = n - 1 := ⟨_, rfl⟩
    have hL := Tryd.bits_Len64 (m : Int) w (by omega) (by omega)
    have e1 : (n : Int) - 1 = (m : Int) := by omega
    have hb : ((n : Int) == 0) = false := by simp; omega
    have EM := hid em
    clear em
    go_enter Tryd.func100, Tryd.ntmps100
    go_wp2_with (go_at_call 58; refine hL.mono ?_; rintro e w' ⟨rfl, rfl⟩)
    go_ret
    refine ⟨?_, rfl⟩
    unfold dpt
    rw [if_neg h, EM.out]
    rfl

end Go.Proofs.YtficlakgameglaaDoor

namespace Go.Proofs.YtficlakgameglaaDoor

open Go.RowKit

set_option linter.unusedVariables false

set_option linter.unusedSimpArgs false

/-- A row's block read and written whole. -/
def lv48 (a : Addr) : Sem Value := loadVar 156 a

def sv48 (a : Addr) (v : Value) : Sem Unit := storeVar 156 a v

theorem lv48_eq (a : Addr) : loadVar 156 a = lv48 a := rfl

theorem sv48_eq (a : Addr) (v : Value) : storeVar 156 a v = sv48 a v := rfl

theorem zero_row : ∀ w : World, (zeroValue 156).run Tryd.prog w = .ok (.agg (rwA (.slice none 0 0) 0 (fun _ => 0) 0)) w := (zero_of_info (n := 35) (by kernel_rfl)).1

theorem rwA_one (a : Option Addr) (len cap : Nat) (d : Int) (z : Nat → Int) (zd : Int) : (rwA (.slice a len cap) d z zd).all (·.oneCell') = true := by
  unfold rwA
  rw [Array.all_append, Array.all_append, vs_one]
  simp [Value.oneCell']

theorem sv48_new (W : World) (a a' : Option Addr) (len cap len' cap' : Nat) (d d' zd zd' : Int) (z z' : Nat → Int) : (sv48 ⟨W.heap.size, 0, none⟩ (.agg (rwA (.slice a len cap) d z zd))).run Tryd.prog (W.alloc (.cells (rwA (.slice a' len' cap') d' z' zd') 156)) = .ok () (W.alloc (.cells (rwA (.slice a len cap) d z zd) 156)) :=
  run_storeVar_new W 156 _ _ (by rw [rwA_size]; kernel_rfl) (by rw [rwA_size, rwA_size]) (rwA_one _ _ _ _ _ _)

theorem sv48_run {w : World} {b : Nat} {C : Array Value} {t : TypeId} (h : w.heap[b]? = some (.cells C t)) (hC : C.size = 35) (a : Option Addr) (len cap : Nat) (d : Int) (z : Nat → Int) (zd : Int) : (sv48 ⟨b, 0, none⟩ (.agg (rwA (.slice a len cap) d z zd))).run Tryd.prog w = .ok () (w.setRow b (rwA (.slice a len cap) d z zd)) :=
  run_storeVar_row w b t 156 _ _ h (by rw [rwA_size]; kernel_rfl) (by rw [rwA_size, hC]) (rwA_one _ _ _ _ _ _)

theorem lv48_load {w : World} {b : Nat} {v : Value} {d zd : Int} {z : Nat → Int} {t : TypeId} (h : w.heap[b]? = some (.cells (rwA v d z zd) t)) : (Instr.loadAt 156 (.pointer (some ⟨b, 0, none⟩))).run Tryd.prog w = .ok (.agg (rwA v d z zd)) w :=
  load_row h 156 _ Tryd.underlying156 rfl (by rw [rwA_size]; kernel_rfl)

/-- Values built, whole. -/
def bd48 (ps : Array (Nat × Value)) : Sem Value := Instr.build 156 ps

theorem bd48_eq (ps : Array (Nat × Value)) : Instr.build 156 ps = bd48 ps := rfl

theorem bd48_0 (W : World) (a : Option Addr) (len cap : Nat) : (bd48 #[(0, .slice a len cap)]).run Tryd.prog W = .ok (.agg (rwA (.slice a len cap) 0 (fun _ => 0) 0)) W := by kernel_rfl

def bd27 (ps : Array (Nat × Value)) : Sem Value := Instr.build 24 ps

theorem bd27_eq (ps : Array (Nat × Value)) : Instr.build 24 ps = bd27 ps := rfl

theorem bd27_0 (W : World) : (bd27 #[]).run Tryd.prog W = .ok (.agg (vs .u8 32 fun _ => 0)) W := by kernel_rfl

def bs22 (n : Nat) (ps : Array (Nat × Value)) : Sem Value := Instr.buildSlice 32 n ps

theorem bs22_eq (n : Nat) (ps : Array (Nat × Value)) : Instr.buildSlice 32 n ps = bs22 n ps := rfl

theorem bs22_1 (W : World) (c : Nat → Int) : (bs22 1 #[(0, .agg (vs .u8 32 c))]).run Tryd.prog W = .ok (.slice (some ⟨W.heap.size, 0, none⟩) 1 1) (W.alloc (.cells (vs .u8 32 c) 24)) := by kernel_rfl

theorem sv24_newv (W : World) (o c : Nat → Int) : (sv24 ⟨W.heap.size, 0, none⟩ (.agg (vs .u8 32 c))).run Tryd.prog (W.alloc (.cells (vs .u8 32 o) 24)) = .ok () (W.alloc (.cells (vs .u8 32 c) 24)) :=
  run_storeVar_new W 24 _ _ (by rw [vs_size]; kernel_rfl) (by rw [vs_size, vs_size]) (vs_one _ _ _)

theorem zero_root : ∀ w : World, (zeroValue 24).run Tryd.prog w = .ok (.agg (vs .u8 32 fun _ => 0)) w := (zero_of_info (n := 32) (by kernel_rfl)).1

attribute [local go_sem ↓] sv24_eq lv24_eq ix22_eq slr_eq lv48_eq sv48_eq bd48_eq bd27_eq bs22_eq

theorem RowR.setRow {w : World} {B g k : Nat} {a : Option Addr} {len cap : Nat} {f : Nat → Int} (h : RowR w B g a len cap f) (hk : k < B) (c : Array Value) : RowR (w.setRow k c) B g a len cap f := by
  rcases h with ⟨hc, h | ⟨b, C, h1, h2, h3, h4, h5, h6⟩⟩
  · exact ⟨hc, .inl h⟩
  · exact ⟨hc, .inr ⟨b, C, h1, h2, h3, (setRow_other w k b c (by omega)).trans h4, h5, h6⟩⟩

set_option maxRecDepth 20000 in
set_option maxHeartbeats 1000000 in
theorem lowest_any (a : Option Addr) (len cap : Nat) (f : Nat → Int) (w : World) (hr : Rts w a len cap f) (hl : 32 * len ≤ 140737488355328) :
    Calls Tryd.prog 99 #[.slice a len cap] w fun e w' => ∃ a' cap', e = .returned (.agg (rwA (.slice a' len cap') 0 (zr 0) 0)) ∧ Below w.heap.size w w' ∧ RowR w' w.heap.size w'.heap.size a' len cap' f := by
  have HR := hid hr
  have z := zero_row
  clear hr
  go_enter Tryd.func99, Tryd.ntmps99
  go_upto_region 1 with fail
  obtain ⟨W0, hW0⟩ : ∃ W, w.alloc (.cells (rwA (.slice none 0 0) 0 (fun _ => 0) 0) 156) = W := ⟨_, rfl⟩
  rw [hW0]
  have hB0 : Below w.heap.size w W0 := by rw [← hW0]; exact (Below.refl _ _).alloc (Nat.le_refl _) _
  have r0 : W0.heap[w.heap.size]? = some (.cells (rwA (.slice none 0 0) 0 (fun _ => 0) 0) 156) := by rw [← hW0]; exact heap_new rfl
  have z0 : w.heap.size < W0.heap.size := by rw [← hW0]; simp
  have hc := rclone_any a len cap f W0 (HR.out.below hB0) hl
  have HC := hid hc
  have HB := hid hB0
  have R0 := hid r0
  clear hc hB0 r0 hW0
  have b0 := fun W a' cap' => bd48_0 W a' len cap'
  go_wp2_with (go_at_call 69; refine HC.out.mono ?_; rintro e w1 ⟨a', cap', rfl, hb1, hrow⟩; have s1 := sv48_run ((hb1.block _ z0).trans R0.out) (rwA_size _ _ _ _) a' len cap' 0 (fun _ => 0) 0)
  have z1 := hb1.size
  refine bodyPost_ret (results_cell (by rfl) _ _ w.heap.size _ (by rfl) (lv48_load (setRow_at ((hb1.block _ z0).trans R0.out)))) (by rfl) ?_
  refine ⟨a', cap', rfl, below_row (HB.out.trans (hb1.mono (by omega))) (Nat.le_refl _) _, ?_⟩
  have hs : (w1.setRow w.heap.size (rwA (.slice a' len cap') 0 (fun _ => 0) 0)).heap.size = w1.heap.size := by simp
  rw [hs]
  exact (hrow.setRow z0 _).down (by omega)

/-- The nodes of a level in a row. -/
def ndf (f : Nat → Int) (len k : Nat) (q : Nat) : Int := nd f len k (q / 32) (q % 32)

theorem ndf_get (f : Nat → Int) (len k i j : Nat) (hj : j < 32) : gt32 (ndf f len k) (up len k) k i j = nd f len k i j := by
  unfold gt32
  by_cases h : i < up len k
  · rw [if_pos h]
    unfold rt32 ndf
    rw [show (32 * i + j) / 32 = i by omega, show (32 * i + j) % 32 = j by omega]
  · rw [if_neg h, nd_zero f len k i (by omega)]

theorem ndf_up (f : Nat → Int) (len k q : Nat) : upf (ndf f len k) (up len k) k q = ndf f len (k + 1) q := by
  unfold upf
  exact tw_congr (fun j hj => ndf_get f len k _ j hj) (fun j hj => ndf_get f len k _ j hj) _ (by omega)

theorem ndf_zero (f : Nat → Int) (len q : Nat) (hq : q < 32 * len) : f q = ndf f len 0 q := by
  unfold ndf nd
  rw [if_pos (by omega)]
  unfold rt32
  rw [show 32 * (q / 32) + q % 32 = q by omega]

theorem ndf_bd {f : Nat → Int} {len : Nat} (hf : ByB f (32 * len)) (k n : Nat) : ByB (ndf f len k) n := fun q _ => nd_bd hf k _ _ (by omega)

theorem ret24s {fn : Func} {R : Ending → World → Prop} {a : Act} {w' : World} (t s : Tmp) (b : Nat) (c : Nat → Int) (ty : TypeId) (v : Value) (h : fn.results = #[.cell t 24, .tmp s]) (hd : a.defers = []) (ht : a.tmps.getD t undef = .pointer (some ⟨b, 0, none⟩)) (hs : a.tmps.getD s undef = v) (hr : w'.heap[b]? = some (.cells (vs .u8 32 c) ty))
    (hR : R (.returned (.tuple #[.agg (vs .u8 32 c), v])) w') : bodyPost Tryd.prog fn R .ret a w' := by
  refine bodyPost_ret ?_ hd hR
  have hl := loadAt_var (load_row (P := Tryd.prog) hr 24 _ Tryd.underlying24 rfl (by rw [vs_size]; kernel_rfl))
  rw [Array.getD_eq_getD_getElem?] at ht hs
  simp [results, h, ht, hs, hl, asAddr]

end Go.Proofs.YtficlakgameglaaDoor

namespace Go.Proofs.YtficlakgameglaaDoor

open Go.RowKit

set_option linter.unusedVariables false

set_option linter.unusedSimpArgs false

attribute [local go_sem ↓] sv24_eq lv24_eq ix22_eq slr_eq lv48_eq sv48_eq bd48_eq bd27_eq bs22_eq

/-- Tree's answer: the root and the error. -/
def okL (n : Int) : Prop := 0 ≤ n ∧ n ≤ 1099511627776

instance (n : Int) : Decidable (okL n) := inferInstanceAs (Decidable (0 ≤ n ∧ n ≤ 1099511627776))

def treeV (f : Nat → Int) (len : Nat) (n : Int) : Nat → Int := if okL n ∧ (len : Int) ≤ n then nd f len (dpt n.toNat) 0 else fun _ => 0

def treeE (len : Nat) (n : Int) : Int := if okL n then (if (len : Int) ≤ n then 0 else 6) else 1

/-- What the walk of a tree's rows keeps: the blocks below B, the row's block q after k steps. -/
def LvSt (B q : Nat) (w : World) (a : Option Addr) (cap : Nat) (f : Nat → Int) (len k : Nat) (W : World) : Prop :=
  Below B w W ∧ RowR W B q a (up len k) cap (ndf f len k) ∧ ∃ z, z ≤ k ∧ W.heap[q]? = some (.cells (rwA (.slice a (up len k) cap) (k : Nat) (zr z) z) 156)

theorem LvSt.rise {B q : Nat} {w : World} {a : Option Addr} {cap : Nat} {f : Nat → Int} {len k : Nat} {W : World} (h : LvSt B q w a cap f len k W) (hS : Sh w) (hB : 2 ≤ B) (hBq : B ≤ q) (hf : ByB f (32 * len)) (hl : len ≤ 140737488355328) (hk : k ≤ 100) :
    Calls Tryd.prog 101 #[.pointer (some ⟨q, 0, none⟩)] W fun e w' => e = .returned (.tuple #[]) ∧ LvSt B q w a cap f len (k + 1) w' := by
  obtain ⟨h1, h2, z, h3, h4⟩ := h
  have := up_le len k
  refine (rise_any B q a (up len k) cap k z (ndf f len k) W (hS.low hB h1) hB hBq h4 h2 (ndf_bd hf k _) (by omega) h3 (by omega)).mono ?_
  rintro e w' ⟨rfl, hb, hr, z', hz', hg⟩
  exact ⟨rfl, h1.trans hb, hr.congr (fun q _ => ndf_up f len k q), z', by omega, hg⟩

theorem LvSt.at {B q : Nat} {w : World} {a : Option Addr} {cap : Nat} {f : Nat → Int} {len k : Nat} {W : World} (h : LvSt B q w a cap f len k W) (hS : Sh w) (hB : 2 ≤ B) (hBq : B ≤ q) (hk : k ≤ 100) (i : Nat) (hi : i ≤ 9223372036854775807) :
    Calls Tryd.prog 102 #[.pointer (some ⟨q, 0, none⟩), .int .i64 i] W fun e w' => e = .returned (.agg (vs .u8 32 (nd f len k i))) ∧ LvSt B q w a cap f len k w' := by
  obtain ⟨h1, h2, z, h3, h4⟩ := h
  refine (at_any q a (up len k) cap k z i (ndf f len k) W (hS.low hB h1) h4 (by omega) (by omega) h2.rts hi h3 (by omega)).mono ?_
  rintro e w' ⟨rfl, hkp, z', hz', hg⟩
  have := (Array.getElem?_eq_some_iff.1 h4).1
  exact ⟨by rw [vs_congr fun j hj => ndf_get f len k i j hj], h1.trans (hkp.below hBq (by omega)), h2.kept hkp, z', hz', hg⟩

/-- The lowest row, laid. -/
theorem lvst_zero {B : Nat} {w W : World} {a : Option Addr} {cap : Nat} {f : Nat → Int} {len : Nat} (hb : Below B w W) (hr : RowR W B W.heap.size a len cap f) (hBw : B ≤ W.heap.size) : LvSt B W.heap.size w a cap f len 0 (W.alloc (.cells (rwA (.slice a len cap) 0 (zr 0) 0) 156)) := by
  refine ⟨hb.alloc hBw _, (hr.move ((Below.refl _ _).alloc (Nat.le_refl _) _) (Nat.le_refl _)).congr (fun q hq => ndf_zero f len q hq), 0, Nat.le_refl _, heap_new rfl⟩

set_option maxRecDepth 20000 in
set_option maxHeartbeats 1000000 in
theorem tree_any (a : Option Addr) (len cap : Nat) (f : Nat → Int) (n : Int) (w : World) (hr : Rts w a len cap f) (hl : 32 * len ≤ 140737488355328) (hf : ByB f (32 * len)) (hS : Sh w) (h0 : -9223372036854775808 ≤ n) (h1 : n ≤ 9223372036854775807) :
    Calls Tryd.prog 94 #[.slice a len cap, .int .i64 n] w fun e w' => e = .returned (.tuple #[.agg (vs .u8 32 (treeV f len n)), .int .i64 (treeE len n)]) ∧ Below w.heap.size w w' := by
  have z := zero_root
  have z2 := zero_row
  have HS := hid hS
  have HR := hid hr
  have HF := hid hf
  clear hS hr hf
  have hil := fun W => isLimit_any n W h0 h1
  by_cases hn : okL n
  · rw [decide_eq_true (show 0 ≤ n ∧ n ≤ 1099511627776 from hn)] at hil
    have HIL := hid hil
    by_cases hle : (len : Int) ≤ n
    · unfold treeV treeE
      rw [if_pos ⟨hn, hle⟩, if_pos hn, if_pos hle]
      obtain ⟨m, rfl⟩ : ∃ m : Nat, n = (m : Int) := ⟨n.toNat, by have := hn.1; omega⟩
      have hm : m ≤ 1099511627776 := by have := hn.2; omega
      rw [Int.toNat_natCast]
      have hD := fun W => depthOf_any m W hm
      have hD2 := dpt_le m hm
      have hD3 := dpt_ge m hm
      generalize dpt m = D at hD hD2 hD3 ⊢
      have HD := hid hD
      have bb : decide ((m : Int) < (len : Int)) = false := by simp; omega
      have bb2 : decide (m < len) = false := by simp; omega
      have hlm : len ≤ 2 ^ D := by omega
      have HD3 := hid hlm
      clear hil hD hn h0 h1 hle hD3 hlm
      go_enter Tryd.func94, Tryd.ntmps94
      go_upto_region 5 with (go_at_call 98; refine (HIL.out _).mono ?_; rintro e w1 ⟨rfl, rfl⟩)
      obtain ⟨W0, hW0⟩ : ∃ W, w.alloc (.cells (vs .u8 32 fun _ => 0) 24) = W := ⟨_, rfl⟩
      rw [hW0]
      have hB0 : Below w.heap.size w W0 := by rw [← hW0]; go_grown
      have r0 : W0.heap[w.heap.size]? = some (.cells (vs .u8 32 fun _ => 0) 24) := by rw [← hW0]; exact heap_new rfl
      have z0 : W0.heap.size = w.heap.size + 1 := by rw [← hW0]; simp
      have hlo := lowest_any a len cap f W0 (HR.out.below hB0) hl
      have HLO := hid hlo
      have H0 := hid (And.intro hB0 (And.intro r0 z0))
      clear hlo hB0 r0 z0 hW0 HIL
      go_upto_region 6 with (go_at_call 99; refine HLO.out.mono ?_; rintro e w1 ⟨a', cap', rfl, hb1, hrow⟩; have sv := sv48_new w1 a' none len cap' 0 0 0 0 0 0 (zr 0) (fun _ => 0))
      obtain ⟨hB0, r0, z0⟩ := H0.out
      have hs0 := hb1.size
      have hst := lvst_zero (w := W0) (hb1.mono (Nat.le_refl _)) hrow hs0
      obtain ⟨W2, hW2⟩ : ∃ W, w1.alloc (.cells (rwA (.slice a' len cap') 0 (zr 0) 0) 156) = W := ⟨_, rfl⟩
      rw [hW2] at hst ⊢
      obtain ⟨q, hq⟩ : ∃ q, w1.heap.size = q := ⟨_, rfl⟩
      rw [hq] at hst hs0 ⊢
      have hw := HS.out.2.1
      have HS0 := hid (HS.out.below hB0)
      have hB3 : 2 ≤ W0.heap.size := by omega
      have HB0 := hid hB0
      have R0 := hid r0
      have HZ0 := hid z0
      have HST := hid hst
      clear hst hrow hb1 hW2 hq H0 HLO hB0 r0 z0 hw sv z z2
      go_wp2_with (go_at_call 100; refine (HD.out _).mono ?_; rintro e w3 ⟨rfl, rfl⟩)
      go_loopw [20] (fun i wr => ∃ k : Nat, k ≤ D ∧ i = .int .i64 k ∧ LvSt W0.heap.size q W0 a' cap' f len k wr) (fun i _ => D - (intOf i).toNat)
      case atStart => exact ⟨0, by omega, rfl, HST.out⟩
      case round =>
        clear HST
        obtain ⟨k, hk, rfl, hst⟩ := hrel
        by_cases hlt : k < D
        · have b3 : decide (k < D) = true := by simp; omega
          have hri := hst.rise HS0.out hB3 hs0 HF.out (by omega) (by omega)
          have HRI := hid hri
          clear hri hst
          go_wp2_with (go_at_call 101; refine HRI.out.mono ?_; rintro e w4 ⟨rfl, hst4⟩)
          go_roundw
          case rel => exact ⟨k + 1, by omega, by go_num, hst4⟩
          case measure => simp [intOf]; omega
        · have ek : k = D := by omega
          subst ek
          have b3 : decide (k < k) = false := by simp
          have hat := hst.at HS0.out hB3 hs0 (by omega) 0 (by omega)
          rw [show ((0 : Nat) : Int) = 0 from rfl] at hat
          have HAT := hid hat
          clear hat hst
          go_wp2_with (go_at_call 102; refine HAT.out.mono ?_; rintro e w4 ⟨rfl, hst4⟩; have sv := sv24_run ((hst4.1.block w.heap.size (by rw [HZ0.out]; omega)).trans R0.out) (nd f len k 0))
          refine ret24s 4 5 w.heap.size _ 24 _ rfl rfl rfl rfl (setRow_at ((hst4.1.block w.heap.size (by rw [HZ0.out]; omega)).trans R0.out)) ⟨rfl, ?_⟩
          exact below_row (HB0.out.trans (hst4.1.mono (by rw [HZ0.out]; omega))) (Nat.le_refl _) _
    · unfold treeV treeE
      rw [if_neg (fun h => hle h.2), if_pos hn, if_neg hle]
      obtain ⟨m, rfl⟩ : ∃ m : Nat, n = (m : Int) := ⟨n.toNat, by have := hn.1; omega⟩
      have bb : decide ((m : Int) < (len : Int)) = true := by simp; omega
      have bb2 : decide (m < len) = true := by simp; omega
      have b0 := bd27_0
      have sv := sv24_newv w (fun _ => 0) (fun _ => 0)
      clear hil hn h0 h1 hle
      go_enter Tryd.func94, Tryd.ntmps94
      go_wp2_with (go_at_call 98; refine (HIL.out _).mono ?_; rintro e w1 ⟨rfl, rfl⟩)
      refine ret24s 4 5 w.heap.size _ 24 _ rfl rfl rfl rfl (heap_new rfl) ⟨rfl, ?_⟩
      go_grown
  · rw [decide_eq_false (show ¬ (0 ≤ n ∧ n ≤ 1099511627776) from hn)] at hil
    have HIL := hid hil
    unfold treeV treeE
    rw [if_neg (fun h => hn h.1), if_neg hn]
    have b0 := bd27_0
    have sv := sv24_newv w (fun _ => 0) (fun _ => 0)
    clear hil hn
    go_enter Tryd.func94, Tryd.ntmps94
    go_wp2_with (go_at_call 98; refine (HIL.out _).mono ?_; rintro e w1 ⟨rfl, rfl⟩)
    refine ret24s 4 5 w.heap.size _ 24 _ rfl rfl rfl rfl (heap_new rfl) ⟨rfl, ?_⟩
    go_grown

end Go.Proofs.YtficlakgameglaaDoor
