/-
  A tree of the call's own, above the blocks that the call began with.
-/
import Derived.Test.YtjimdkpppgjokaaDoorTuA
import Derived.Test.YtjimdkpppgjokaaDoorOpt
namespace Go.Proofs.YtjimdkpppgjokaaDoor
open Go.RowKit
set_option linter.unusedVariables false
set_option linter.unusedSimpArgs false

/-- A tree made since w, with at most hb hashes. -/
def TG (w W : World) (t m L : Nat) (f : Nat → Int) (hb : Int) : Prop := Below w.heap.size w W ∧ ∃ LB cn hs, TT W LB w.heap.size t m L f cn hs ∧ 0 ≤ hs ∧ hs ≤ hb
/-- Blocks that others made stay. -/
def Stay (W0 W W' : World) : Prop := ∀ y, W0.heap.size ≤ y → y < W.heap.size → W'.heap[y]? = W.heap[y]?
theorem TG.bel {w W : World} {t m L : Nat} {f : Nat → Int} {hb : Int} (h : TG w W t m L f hb) : Below w.heap.size w W := h.1
theorem TG.below {w W W' : World} {t m L : Nat} {f : Nat → Int} {hb : Int} (h : TG w W t m L f hb) (hw : Below W.heap.size W W') : TG w W' t m L f hb := by
  obtain ⟨h1, LB, cn, hs, h2, h3, h4⟩ := h
  exact ⟨h1.trans (hw.mono h1.size), LB, cn, hs, h2.below hw, h3, h4⟩
theorem TG.congr {w W : World} {t m L : Nat} {f g : Nat → Int} {hb : Int} (h : TG w W t m L f hb) (hg : ∀ q, q < 32 * L → f q = g q) : TG w W t m L g hb := by
  obtain ⟨h1, LB, cn, hs, h2, h3, h4⟩ := h
  exact ⟨h1, LB, cn, hs, h2.congr hg, h3, h4⟩
theorem TG.le {w W : World} {t m L : Nat} {f : Nat → Int} {hb hb' : Int} (h : TG w W t m L f hb) (hl : hb ≤ hb') : TG w W t m L f hb' := by
  obtain ⟨h1, LB, cn, hs, h2, h3, h4⟩ := h
  exact ⟨h1, LB, cn, hs, h2, h3, by omega⟩
theorem TG.few {w W : World} {t m L : Nat} {f : Nat → Int} {hb : Int} (h : TG w W t m L f hb) : L ≤ m ∧ m ≤ 1073741824 ∧ ByB f (32 * L) := by
  obtain ⟨h1, LB, cn, hs, h2, h3, h4⟩ := h
  exact ⟨h2.few.1, h2.lim, h2.few.2.2.1⟩
/-- Behind a call. -/
theorem TG.next {w W0 W w' : World} {t m L : Nat} {f : Nat → Int} {hb : Int} {LB LB' : Nat → Nat} (h1 : Below w.heap.size w W0) (hbase : ∀ k, k < w.heap.size → LB k = 0) (hw : Below W0.heap.size W0 W) (hs : Stp (lab' W0 LB 0) LB' W w') : Below w.heap.size w w' ∧ Stay W0 W w' := by
  have z0 := h1.size
  have z1 := hw.size
  refine ⟨(h1.trans (hw.mono z0)).trans (hs.below (fun k hk => (lab'_old _ _ _ _ (by omega)).trans (hbase k hk)) (by omega)), fun y h2 h3 => ?_⟩
  exact hs.1.block y h3 (lab'_new _ _ _ _ h2)

theorem tg_new (m : Nat) (w W : World) (hS : Sh w) (hW : Below w.heap.size w W) (hm : 1 ≤ m) (hm2 : m ≤ 1073741824) :
    Calls Tryd.prog 9 #[.int .i64 m] W fun e w' => ∃ t, e = .returned (.pointer (some ⟨t, 0, none⟩)) ∧ TG w w' t m 0 (fun _ => 0) 0 := by
  refine (tt_new w.heap.size m W (hS.below hW) hm hm2 hW.size).mono ?_
  rintro e w' ⟨rfl, hb, LB, hl, ht⟩
  exact ⟨_, rfl, hW.trans (hb.mono hW.size), LB, 0, 0, ht, Int.le_refl _, Int.le_refl _⟩

theorem TG.len {w W : World} {t m L : Nat} {f : Nat → Int} {hb : Int} (h : TG w W t m L f hb) :
    Calls Tryd.prog 11 #[.pointer (some ⟨t, 0, none⟩)] W fun e w' => e = .returned (.int .i64 L) ∧ w' = W := by
  obtain ⟨h1, LB, cn, hs, h2, h3, h4⟩ := h
  exact h2.len

theorem TG.get {w W : World} {t m L : Nat} {f : Nat → Int} {hb : Int} (h : TG w W t m L f hb) (i : Int) (h0 : -9223372036854775808 ≤ i) (h1 : i ≤ 9223372036854775807) :
    Calls Tryd.prog 19 #[.pointer (some ⟨t, 0, none⟩), .int .i64 i] W fun e w' => e = .returned (.tuple #[.agg (vs .u8 32 (getV L f i)), .int .i64 (getE L i)]) ∧ Below W.heap.size W w' := by
  obtain ⟨_, LB, cn, hs, h2, h3, h4⟩ := h
  exact h2.get i h0 h1

theorem TG.app {w W0 W : World} {t m L : Nat} {f : Nat → Int} {hb : Int} (h : TG w W0 t m L f hb) (hw : Below W0.heap.size W0 W) (c : Nat → Int) (hc : ∀ j, j < 32 → 0 ≤ c j ∧ c j < 256) :
    Calls Tryd.prog 15 #[.pointer (some ⟨t, 0, none⟩), .agg (vs .u8 32 c)] W fun e w' => e = .returned (.int .i64 (appE m L)) ∧ TG w w' t m (appL m L) (appV m L f c) hb ∧ Stay W0 W w' := by
  obtain ⟨h1, LB, cn, hs, h2, h3, h4⟩ := h
  refine ((h2.fresh.below hw).app c hc).mono ?_
  rintro e w' ⟨rfl, LB', cn', s, ht, _⟩
  obtain ⟨k1, k2⟩ := TG.next (t := t) (m := m) (L := L) (f := f) (hb := hb) h1 h2.base hw s
  exact ⟨rfl, ⟨k1, LB', cn', hs, ht, h3, h4⟩, k2⟩

theorem TG.set {w W0 W : World} {t m L : Nat} {f : Nat → Int} {hb : Int} (h : TG w W0 t m L f hb) (hw : Below W0.heap.size W0 W) (i : Int) (c : Nat → Int) (hc : ∀ j, j < 32 → 0 ≤ c j ∧ c j < 256) (h0 : -9223372036854775808 ≤ i) (h1 : i ≤ 9223372036854775807) :
    Calls Tryd.prog 14 #[.pointer (some ⟨t, 0, none⟩), .int .i64 i, .agg (vs .u8 32 c)] W fun e w' => e = .returned (.int .i64 (getE L i)) ∧ TG w w' t m L (setV f L i c) hb ∧ Stay W0 W w' := by
  obtain ⟨h1', LB, cn, hs, h2, h3, h4⟩ := h
  refine ((h2.fresh.below hw).set i c hc h0 h1).mono ?_
  rintro e w' ⟨rfl, LB', cn', s, ht, _⟩
  obtain ⟨k1, k2⟩ := TG.next (t := t) (m := m) (L := L) (f := f) (hb := hb) h1' h2.base hw s
  exact ⟨rfl, ⟨k1, LB', cn', hs, ht, h3, h4⟩, k2⟩

theorem TG.root {w W0 W : World} {t m L : Nat} {f : Nat → Int} {hb : Int} (h : TG w W0 t m L f hb) (hw : Below W0.heap.size W0 W) (hS : Sh w) (hhb : hb ≤ 576460752303423488) :
    Calls Tryd.prog 12 #[.pointer (some ⟨t, 0, none⟩)] W fun e w' => e = .returned (.agg (vs .u8 32 (treeV f L (m : Nat)))) ∧ TG w w' t m L f (hb + 2147483648) ∧ Stay W0 W w' := by
  obtain ⟨h1, LB, cn, hs, h2, h3, h4⟩ := h
  have hfew := h2.few
  have hlim := h2.lim
  have hdp : dpt m ≤ 40 := dpt_le m (by omega)
  refine ((h2.fresh.below hw).root (hS.below (h1.trans (hw.mono h1.size))) hS.1.1 hS.2.1 h3 (by omega)).mono ?_
  rintro e w' ⟨rfl, LB', hs', s, ht, q1, _, q2⟩
  obtain ⟨k1, k2⟩ := TG.next (t := t) (m := m) (L := L) (f := f) (hb := hb) h1 h2.base hw s
  exact ⟨rfl, ⟨k1, LB', 0, hs', ht, by omega, by omega⟩, k2⟩

/-- A bit's address, whole. -/
theorem ix51_mid (w : World) (b off len cap i : Nat) (h : i < len) : (ix51 (.slice (some ⟨b, off, none⟩) len cap) (.int .i64 i)).run Tryd.prog w = .ok (.pointer (some ⟨b, off + i, none⟩)) w := by
  unfold ix51 Instr.indexAt
  have h1 : (0 : Int) ≤ (i : Int) ∧ (i : Int) < (len : Int) := by omega
  simp only [asIntOf, Sem.run_bind, Sem.run_pure, Result.andThen_ok, run_underlying Tryd.underlying51, if_pos h1, size_bool, Addr.add_mid, Int.toNat_natCast, Nat.mul_one]

end Go.Proofs.YtjimdkpppgjokaaDoor
