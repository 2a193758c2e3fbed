/-
  A tree and the reference's, side by side.
-/
import Derived.Test.YtjimdkpppgjokaaDoorTvX
import Derived.Test.YtjimdkpppgjokaaDoorTrZ
namespace Go.Proofs.YtjimdkpppgjokaaDoor
open Go.RowKit
set_option linter.unusedVariables false
set_option linter.unusedSimpArgs false

/-- The reference's tree at block q, none of a tree's own blocks. -/
def Rt (W : World) (LB : Nat → Nat) (q n L : Nat) (f : Nat → Int) : Prop := ∃ v, W.heap[q]? = some (.cells (rtA n v) 28) ∧ LB q = 0 ∧ W.ownsRow 0 33 32 v L (bl f (32 * L)) ∧ Lab LB 0 v
theorem bl_same {f g : Nat → Int} {n : Nat} (h : ∀ q, q < n → f q = g q) : bl f n = bl g n := bl_congr h
theorem Rt.congr {W : World} {LB : Nat → Nat} {q n L : Nat} {f g : Nat → Int} (h : Rt W LB q n L f) (hg : ∀ j, j < 32 * L → f j = g j) : Rt W LB q n L g := by
  obtain ⟨v, h1, h2, h3, h4⟩ := h
  exact ⟨v, h1, h2, by rw [← bl_same hg]; exact h3, h4⟩
theorem Rt.lt {W : World} {LB : Nat → Nat} {q n L : Nat} {f : Nat → Int} (h : Rt W LB q n L f) : q < W.heap.size := by
  obtain ⟨v, h1, _⟩ := h
  exact (Array.getElem?_eq_some_iff.1 h1).1
/-- Behind a call of the tree's. -/
theorem Rt.step {W W' : World} {LB LB' : Nat → Nat} {q n L : Nat} {f : Nat → Int} (h : Rt W LB q n L f) (hs : Stp LB LB' W W') : Rt W' LB' q n L f := by
  have hq := h.lt
  obtain ⟨v, h1, h2, h3, h4⟩ := h
  exact ⟨v, (hs.1.block q hq h2).trans h1, hs.2 q hq h2, own_tou h3 hs.1 h4, fun b hb => hs.2 b (h3.lt b hb).2 (h4 b hb)⟩
theorem Rt.fresh {W : World} {LB : Nat → Nat} {q n L : Nat} {f : Nat → Int} (h : Rt W LB q n L f) : Rt W (lab' W LB 0) q n L f := h.step (Stp.fresh LB W)
theorem Rt.below {W W' : World} {LB : Nat → Nat} {q n L : Nat} {f : Nat → Int} (h : Rt W LB q n L f) (hb : Below W.heap.size W W') : Rt W' LB q n L f := h.step (Stp.ofBelow hb)
/-- Behind a call of the reference's own. -/
theorem Rt.up {W W' : World} {LB : Nat → Nat} {q n L' : Nat} {g : Nat → Int} {v : Value} (hq : LB q = 0) (hv : Lab LB 0 v) (hv2 : ∀ b, v.ownBlock = some b → b < W.heap.size) (hql : q < W.heap.size) (h : RUp W W' q n v L' g) : Rt W' (lab' W LB 0) q n L' g := by
  obtain ⟨h1, v', h2, h3, h4⟩ := h
  refine ⟨v', h2, (lab'_old _ _ _ _ hql).trans hq, h3, fun b hb => ?_⟩
  rcases h4 with rfl | h4
  · exact (lab'_old _ _ _ _ (hv2 b hb)).trans (hv b hb)
  · exact lab'_new _ _ _ _ (h4 b hb)

/-- A tree t and the reference's at q, made since w: the tree's leaves f, the reference's g. -/
def JK (w W : World) (t q n L : Nat) (f : Nat → Int) (L' : Nat) (g : Nat → Int) (cn : Nat) (hs : Int) : Prop := Below w.heap.size w W ∧ w.heap.size ≤ q ∧ ∃ LB, TT W LB w.heap.size t n L f cn hs ∧ Rt W LB q n L' g
section
variable {w W0 W W' : World} {t q n L : Nat} {f : Nat → Int} {L' : Nat} {g : Nat → Int} {cn : Nat} {hs : Int}
theorem JK.bel (h : JK w W t q n L f L' g cn hs) : Below w.heap.size w W := h.1
theorem JK.qlt (h : JK w W t q n L f L' g cn hs) : q < W.heap.size := by
  obtain ⟨_, _, LB, _, h⟩ := h
  exact h.lt
theorem JK.few (h : JK w W t q n L f L' g cn hs) : L ≤ n ∧ 1 ≤ n ∧ n ≤ 1073741824 ∧ cn ≤ L ∧ ByB f (32 * L) := by
  obtain ⟨_, _, LB, h, _⟩ := h
  exact ⟨h.few.1, h.pos, h.lim, h.few.2.1, h.few.2.2.1⟩
theorem JK.below (h : JK w W t q n L f L' g cn hs) (hb : Below W.heap.size W W') : JK w W' t q n L f L' g cn hs := by
  obtain ⟨h1, h2, LB, h3, h4⟩ := h
  exact ⟨h1.trans (hb.mono h1.size), h2, LB, h3.below hb, h4.below hb⟩
theorem JK.congr {f' g' : Nat → Int} (h : JK w W t q n L f L' g cn hs) (hf : ∀ j, j < 32 * L → f j = f' j) (hg : ∀ j, j < 32 * L' → g j = g' j) : JK w W t q n L f' L' g' cn hs := by
  obtain ⟨h1, h2, LB, h3, h4⟩ := h
  exact ⟨h1, h2, LB, h3.congr hf, h4.congr hg⟩
/-- What the reference's block holds. -/
theorem JK.rblk (h : JK w W t q n L f L' g cn hs) : ∃ a cap, W.heap[q]? = some (.cells (rtA n (.slice a L' cap)) 28) ∧ Rts W a L' cap g ∧ L' ≤ cap := by
  obtain ⟨h1, h2, LB, h3, v, h4, h5, h6, h7⟩ := h
  obtain ⟨a, cap, rfl, hrow⟩ := RowR.ofOwns h6
  refine ⟨a, cap, h4, hrow.rts, ?_⟩
  rcases h6.2 with ⟨e, e2⟩ | ⟨g', cap', cur, e, _, _, hle, _⟩
  · cases e; omega
  · cases e; exact hle
/-- Behind a call of the tree's: blocks that others made stay, and the reference's. -/
def StayT (q : Nat) (W0 W W' : World) : Prop := Stay W0 W W' ∧ W'.heap[q]? = W.heap[q]?
theorem JK.stepT {LB LB' : Nat → Nat} {f' : Nat → Int} {L2 cn' : Nat} {hs' : Int} (h1 : Below w.heap.size w W0) (h2 : w.heap.size ≤ q) (h3 : TT W0 LB w.heap.size t n L f cn hs) (h4 : Rt W0 LB q n L' g) (hw : Below W0.heap.size W0 W) (s : Stp (lab' W0 LB 0) LB' W W') (ht : TT W' LB' w.heap.size t n L2 f' cn' hs') : JK w W' t q n L2 f' L' g cn' hs' ∧ StayT q W0 W W' := by
  obtain ⟨k1, k2⟩ := TG.next (t := t) (m := n) (L := L) (f := f) (hb := hs) h1 h3.base hw s
  have hr := h4.fresh.below hw
  have hq := hr.lt
  exact ⟨⟨k1, h2, LB', ht, hr.step s⟩, k2, by
    obtain ⟨v, _, h5, _⟩ := hr
    exact s.1.block q hq h5⟩

theorem JK.len (h : JK w W t q n L f L' g cn hs) :
    Calls Tryd.prog 11 #[.pointer (some ⟨t, 0, none⟩)] W fun e w' => e = .returned (.int .i64 L) ∧ w' = W := by
  obtain ⟨_, _, LB, h, _⟩ := h
  exact h.len

theorem JK.hashes (h : JK w W t q n L f L' g cn hs) :
    Calls Tryd.prog 16 #[.pointer (some ⟨t, 0, none⟩)] W fun e w' => e = .returned (.int .i64 hs) ∧ w' = W := by
  obtain ⟨_, _, LB, h, _⟩ := h
  exact h.hashes

theorem JK.get (h : JK w W t q n L f L' g cn hs) (i : Int) (h0 : -9223372036854775808 ≤ i) (h1 : i ≤ 9223372036854775807) :
    Calls Tryd.prog 19 #[.pointer (some ⟨t, 0, none⟩), .int .i64 i] W fun e w' => e = .returned (.tuple #[.agg (vs .u8 32 (getV L f i)), .int .i64 (getE L i)]) ∧ Below W.heap.size W w' := by
  obtain ⟨_, _, LB, h, _⟩ := h
  exact h.get i h0 h1

theorem JK.tset (h : JK w W0 t q n L f L' g cn hs) (hw : Below W0.heap.size W0 W) (i : Int) (c : Nat → Int) (hc : ∀ j, j < 32 → 0 ≤ c j ∧ c j < 256) (h0 : -9223372036854775808 ≤ i) (h1 : i ≤ 9223372036854775807) :
    Calls Tryd.prog 14 #[.pointer (some ⟨t, 0, none⟩), .int .i64 i, .agg (vs .u8 32 c)] W fun e w' => e = .returned (.int .i64 (getE L i)) ∧ ∃ cn', cn' ≤ cn + 1 ∧ JK w w' t q n L (setV f L i c) L' g cn' hs ∧ StayT q W0 W w' := by
  obtain ⟨k1, k2, LB, k3, k4⟩ := h
  refine ((k3.fresh.below hw).set i c hc h0 h1).mono ?_
  rintro e w' ⟨rfl, LB', cn', s, ht, hc'⟩
  obtain ⟨r1, r2⟩ := JK.stepT k1 k2 k3 k4 hw s ht
  exact ⟨rfl, cn', hc', r1, r2⟩

theorem JK.tapp (h : JK w W0 t q n L f L' g cn hs) (hw : Below W0.heap.size W0 W) (c : Nat → Int) (hc : ∀ j, j < 32 → 0 ≤ c j ∧ c j < 256) :
    Calls Tryd.prog 15 #[.pointer (some ⟨t, 0, none⟩), .agg (vs .u8 32 c)] W fun e w' => e = .returned (.int .i64 (appE n L)) ∧ ∃ cn', cn' ≤ cn + 1 ∧ JK w w' t q n (appL n L) (appV n L f c) L' g cn' hs ∧ StayT q W0 W w' := by
  obtain ⟨k1, k2, LB, k3, k4⟩ := h
  refine ((k3.fresh.below hw).app c hc).mono ?_
  rintro e w' ⟨rfl, LB', cn', s, ht, hc'⟩
  obtain ⟨r1, r2⟩ := JK.stepT k1 k2 k3 k4 hw s ht
  exact ⟨rfl, cn', hc', r1, r2⟩

theorem JK.troot (h : JK w W0 t q n L f L' g cn hs) (hw : Below W0.heap.size W0 W) (hS : Sh w) (hh0 : 0 ≤ hs) (hh1 : hs ≤ 576460752303423488) :
    Calls Tryd.prog 12 #[.pointer (some ⟨t, 0, none⟩)] W fun e w' => e = .returned (.agg (vs .u8 32 (treeV f L (n : Nat)))) ∧ ∃ hs', hs ≤ hs' ∧ hs' ≤ hs + ((dpt n * cn : Nat) : Int) ∧ hs' ≤ hs + ((L + dpt n : Nat) : Int) ∧ JK w w' t q n L f L' g 0 hs' ∧ StayT q W0 W w' := by
  obtain ⟨k1, k2, LB, k3, k4⟩ := h
  refine ((k3.fresh.below hw).root (hS.below (k1.trans (hw.mono k1.size))) hS.1.1 hS.2.1 hh0 hh1).mono ?_
  rintro e w' ⟨rfl, LB', hs', s, ht, q1, q2, q3⟩
  obtain ⟨r1, r2⟩ := JK.stepT k1 k2 k3 k4 hw s ht
  exact ⟨rfl, hs', q1, q2, q3, r1, r2⟩

theorem JK.tcopy (h : JK w W t q n L f L' g cn hs) :
    Calls Tryd.prog 13 #[.pointer (some ⟨t, 0, none⟩)] W fun e w' => e = .returned (.pointer (some ⟨W.heap.size, 0, none⟩)) ∧ Below W.heap.size W w' ∧ JK w w' W.heap.size q n L f L' g cn 0 := by
  obtain ⟨k1, k2, LB, k3, v, k4, k5, k6, k7⟩ := h
  have hq := (Array.getElem?_eq_some_iff.1 k4).1
  refine k3.copy.mono ?_
  rintro e w' ⟨rfl, hb, LB', hl, ht⟩
  refine ⟨rfl, hb, k1.trans (hb.mono k1.size), k2, LB', ht, v, (hb.block q hq).trans k4, hl q hq, ?_, fun b hb2 => hl b (k6.lt b hb2).2⟩
  exact own_keep (row := none) k6 ⟨hb.os, hb.tape, hb.output, hb.size, fun k hk _ => hb.block k hk⟩ (fun b _ e => by cases e)

theorem JK.stepR {L2 : Nat} {g' : Nat → Int} {LB : Nat → Nat} {v : Value} (k1 : Below w.heap.size w W) (k2 : w.heap.size ≤ q) (k3 : TT W LB w.heap.size t n L f cn hs) (k5 : LB q = 0) (k6 : W.ownsRow 0 33 32 v L' (bl g (32 * L'))) (k7 : Lab LB 0 v) (hq : q < W.heap.size) (hu : RUp W W' q n v L2 g') : JK w W' t q n L f L2 g' cn hs := by
  refine ⟨grown_below k1 k1.size hu.1 (fun b e => by cases e; exact k2), k2, lab' W LB 0, ?_, Rt.up k5 k7 (fun b hb => (k6.lt b hb).2) hq hu⟩
  exact k3.fresh.else hu.1 ((lab'_old _ _ _ _ hq).trans k5)
/-- The reference's calls leave all other blocks. -/
def StayQ (q : Nat) (W W' : World) : Prop := W.heap.size ≤ W'.heap.size ∧ ∀ y, y < W.heap.size → y ≠ q → W'.heap[y]? = W.heap[y]?

theorem JK.rset (h : JK w W t q n L f L' g cn hs) (hl : L' ≤ 1073741824) (i : Int) (c : Nat → Int) (h0 : -9223372036854775808 ≤ i) (h1 : i ≤ 9223372036854775807) :
    Calls Tryd.prog 17 #[.pointer (some ⟨q, 0, none⟩), .int .i64 i, .agg (vs .u8 32 c)] W fun e w' => e = .returned (.int .i64 (getE L' i)) ∧ JK w w' t q n L f L' (setV g L' i c) cn hs ∧ StayQ q W w' := by
  have hq := h.qlt
  obtain ⟨k1, k2, LB, k3, v, k4, k5, k6, k7⟩ := h
  refine (rset6 W q n v L' g k4 k6 (by omega) i c h0 h1).mono ?_
  rintro e w' ⟨rfl, hu⟩
  exact ⟨rfl, JK.stepR k1 k2 k3 k5 k6 k7 hq hu, hu.1.size, fun y hy hne => hu.1.block y hy (fun e => hne (Option.some.inj e))⟩

theorem JK.rapp (h : JK w W t q n L f L' g cn hs) (hl : L' ≤ 1073741824) (c : Nat → Int) :
    Calls Tryd.prog 20 #[.pointer (some ⟨q, 0, none⟩), .agg (vs .u8 32 c)] W fun e w' => e = .returned (.int .i64 (appE n L')) ∧ JK w w' t q n L f (appL n L') (appV n L' g c) cn hs ∧ StayQ q W w' := by
  have hq := h.qlt
  have hn := h.few.2.2.1
  obtain ⟨k1, k2, LB, k3, v, k4, k5, k6, k7⟩ := h
  refine (rapp6 W q n v L' g k4 k6 (by omega) c hn).mono ?_
  rintro e w' ⟨rfl, hu⟩
  exact ⟨rfl, JK.stepR k1 k2 k3 k5 k6 k7 hq hu, hu.1.size, fun y hy hne => hu.1.block y hy (fun e => hne (Option.some.inj e))⟩
end

/-- A call of a script in memory. -/
def oA (k p : Int) (c : Nat → Int) : Array Value := #[.int .i64 k, .int .i64 p] ++ vs .u8 32 c
theorem oA_size (k p : Int) (c : Nat → Int) : (oA k p c).size = 34 := by simp [oA, vs_size]
theorem oA_0 (k p : Int) (c : Nat → Int) : (oA k p c)[0]? = some (.int .i64 k) := by
  unfold oA
  rw [Array.getElem?_append_left (by simp)]
  rfl
theorem oA_1 (k p : Int) (c : Nat → Int) : (oA k p c)[1]? = some (.int .i64 p) := by
  unfold oA
  rw [Array.getElem?_append_left (by simp)]
  rfl
theorem oA_2 (k p : Int) (c : Nat → Int) (j : Nat) (hj : j < 32) : (oA k p c)[2 + j]? = some (.int .u8 (c j)) := by
  unfold oA
  rw [Array.getElem?_append_right (by simp)]
  simp [vs_get _ _ _ _ hj]
theorem oA_one (k p : Int) (c : Nat → Int) : (oA k p c).all (·.oneCell') = true := by
  unfold oA
  rw [Array.all_append, vs_one]
  simp [Value.oneCell']
def lvO (a : Addr) : Sem Value := loadVar 40 a
def svO (a : Addr) (v : Value) : Sem Unit := storeVar 40 a v
def ixO (x i : Value) : Sem Value := Instr.indexAt 22 x i
theorem lvO_eq (a : Addr) : loadVar 40 a = lvO a := rfl
theorem svO_eq (a : Addr) (v : Value) : storeVar 40 a v = svO a v := rfl
theorem ixO_eq (x i : Value) : Instr.indexAt 22 x i = ixO x i := rfl
theorem size_op (w : World) : (sizeOf 40).run Tryd.prog w = .ok 34 w := by
  have hi : (Tryd.prog.info? 40).map (·.size) = some 34 := by kernel_rfl
  cases hq : Tryd.prog.info? 40 with
  | none => simp [hq] at hi
  | some i => simp [hq] at hi; simp [sizeOf, typeInfo, hq, hi]
theorem ixO_run (w : World) (b off len cap i : Nat) (h : i < len) : (ixO (.slice (some ⟨b, off, none⟩) len cap) (.int .i64 i)).run Tryd.prog w = .ok (.pointer (some ⟨b, off + 34 * i, none⟩)) w := by
  unfold ixO Instr.indexAt
  have h1 : (0 : Int) ≤ (i : Int) ∧ (i : Int) < (len : Int) := by omega
  simp only [asIntOf, Sem.run_bind, Sem.run_pure, Result.andThen_ok, run_underlying Tryd.underlying22, if_pos h1, size_op, Addr.add_mid, Int.toNat_natCast]
  rw [Nat.mul_comm]
theorem lvO_mid {w : World} {b o : Nat} {k p : Int} {c : Nat → Int} (h0 : w.cell? ⟨b, o, none⟩ = some (.int .i64 k)) (h1 : w.cell? ⟨b, o + 1, none⟩ = some (.int .i64 p)) (h2 : ∀ j, j < 32 → w.cell? ⟨b, o + 2 + j, none⟩ = some (.int .u8 (c j))) : (lvO ⟨b, o, none⟩).run Tryd.prog w = .ok (.agg (oA k p c)) w := by
  have hr : w.rangeAt b o (oA k p c).toList := by
    intro j v hj
    rw [Array.getElem?_toList] at hj
    have hlt : j < 34 := by
      have := (Array.getElem?_eq_some_iff.1 hj).1
      rw [oA_size] at this
      exact this
    rcases (by omega : j = 0 ∨ j = 1 ∨ 2 ≤ j) with rfl | rfl | h
    · rw [oA_0] at hj
      rw [Nat.add_zero, h0, hj]
    · rw [oA_1] at hj
      rw [h1, hj]
    · have e := oA_2 k p c (j - 2) (by omega)
      rw [show 2 + (j - 2) = j by omega] at e
      have := h2 (j - 2) (by omega)
      rw [show o + 2 + (j - 2) = o + j by omega] at this
      rw [this, ← e, hj]
  have h := run_loadAt_mid w b o 40 _ _ hr Tryd.underlying40 rfl (by rw [Array.length_toList, oA_size]; kernel_rfl)
  rw [Array.toArray_toList] at h
  exact loadAt_var h
set_option maxRecDepth 20000 in
theorem zero_op : ∀ w : World, (zeroValue 40).run Tryd.prog w = .ok (.agg (oA 0 0 (fun _ => 0))) w := (zero_of_info (n := 34) (by kernel_rfl)).1
theorem svO_new (W : World) (k p : Int) (c : Nat → Int) (C : Array Value) (hC : C.size = 34) : (svO ⟨W.heap.size, 0, none⟩ (.agg (oA k p c))).run Tryd.prog (W.alloc (.cells C 40)) = .ok () (W.alloc (.cells (oA k p c) 40)) :=
  run_storeVar_new W 40 _ _ (by rw [oA_size]; kernel_rfl) (by rw [oA_size, hC]) (oA_one _ _ _)
/-- The kind of a call, 0 to 5. -/
theorem kind_any (k : Int) : ∃ K : Nat, K < 6 ∧ (k.tmod 6 + 6) % 6 = (K : Int) := by
  have h1 : -6 < k.tmod 6 := by
    have := Int.lt_tmod_of_pos k (by omega : (0 : Int) < 6); omega
  have h2 : k.tmod 6 < 6 := Int.tmod_lt_of_pos k (by omega)
  exact ⟨((k.tmod 6 + 6) % 6).toNat, by omega, by omega⟩
/-- The reference's block, whole. -/
def lv28 (a : Addr) : Sem Value := loadVar 28 a
def sv28 (a : Addr) (v : Value) : Sem Unit := storeVar 28 a v
theorem lv28_eq (a : Addr) : loadVar 28 a = lv28 a := rfl
theorem sv28_eq (a : Addr) (v : Value) : storeVar 28 a v = sv28 a v := rfl
theorem lv28_run {w : World} {b : Nat} {n : Int} {v : Value} {t : TypeId} (h : w.heap[b]? = some (.cells (rtA n v) t)) : (lv28 ⟨b, 0, none⟩).run Tryd.prog w = .ok (.agg (rtA n v)) w :=
  loadAt_var (load_row h 28 _ Tryd.underlying28 rfl (by show _ = some 2; kernel_rfl))
theorem zero_ref : ∀ w : World, (zeroValue 28).run Tryd.prog w = .ok (.agg (rtA 0 (.slice none 0 0))) w := (zero_of_info (n := 2) (by kernel_rfl)).1
theorem sv28_new (W : World) (n : Int) (a : Option Addr) (l c : Nat) (C : Array Value) (hC : C.size = 2) : (sv28 ⟨W.heap.size, 0, none⟩ (.agg (rtA n (.slice a l c)))).run Tryd.prog (W.alloc (.cells C 28)) = .ok () (W.alloc (.cells (rtA n (.slice a l c)) 28)) :=
  run_storeVar_new W 28 _ _ (by show _ = some 2; kernel_rfl) (by rw [hC]; rfl) (by simp [rtA, Value.oneCell'])

end Go.Proofs.YtjimdkpppgjokaaDoor
