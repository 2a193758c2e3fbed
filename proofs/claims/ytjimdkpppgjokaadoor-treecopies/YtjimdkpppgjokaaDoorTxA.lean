/-
  A tree and the reference's, one call behind the other.
  What TreeCopies answers, at every input.
-/
import Derived.Test.YtjimdkpppgjokaaDoorTvB
import Derived.Test.YtjimdkpppgjokaaDoorOpt
namespace Go.Proofs.YtjimdkpppgjokaaDoor
open Go.RowKit
set_option linter.unusedVariables false
set_option linter.unusedSimpArgs false

/-- A tree t under the labels LB, and the reference's at q with the row v: the tree's leaves f, the reference's g. -/
structure Pr (w W : World) (LB : Nat → Nat) (t q n L : Nat) (f : Nat → Int) (L' : Nat) (g : Nat → Int) (v : Value) (hs : Int) : Prop where
  bel : Below w.heap.size w W
  hq : w.heap.size ≤ q
  tr : ∃ cn, TT W LB w.heap.size t n L f cn hs
  blk : W.heap[q]? = some (.cells (rtA n v) 28)
  own : W.ownsRow 0 33 32 v L' (bl g (32 * L'))
  lq : LB q = 0
  lv : Lab LB 0 v
  h0 : 0 ≤ hs
/-- What calls on the pair leave: all blocks that are none of the tree's, but q; new rows of the reference's lie in new blocks. -/
structure Sq (LB LB' : Nat → Nat) (q : Nat) (v v' : Value) (W W' : World) : Prop where
  os : W'.os = W.os
  tape : W'.tape = W.tape
  output : W'.output = W.output
  size : W.heap.size ≤ W'.heap.size
  block : ∀ k, k < W.heap.size → LB k = 0 → k ≠ q → W'.heap[k]? = W.heap[k]?
  lab : ∀ k, k < W.heap.size → LB k = 0 → LB' k = 0
  row : v' = v ∨ ∀ b, v'.ownBlock = some b → W.heap.size ≤ b
theorem Sq.refl (LB : Nat → Nat) (q : Nat) (v : Value) (W : World) : Sq LB LB q v v W W := ⟨rfl, rfl, rfl, Nat.le_refl _, fun _ _ _ _ => rfl, fun _ _ h => h, .inl rfl⟩
theorem Sq.trans {LB LB' LB'' : Nat → Nat} {q : Nat} {v v' v'' : Value} {a b c : World} (h : Sq LB LB' q v v' a b) (k : Sq LB' LB'' q v' v'' b c) : Sq LB LB'' q v v'' a c := by
  refine ⟨k.os.trans h.os, k.tape.trans h.tape, k.output.trans h.output, Nat.le_trans h.size k.size, fun i hi h0 hne => ?_, fun i hi h0 => k.lab i (Nat.lt_of_lt_of_le hi h.size) (h.lab i hi h0), ?_⟩
  · exact (k.block i (Nat.lt_of_lt_of_le hi h.size) (h.lab i hi h0) hne).trans (h.block i hi h0 hne)
  · rcases k.row with e | e
    · rw [e]; exact h.row
    · exact .inr (fun b hb => Nat.le_trans h.size (e b hb))
theorem Sq.ofStp {LB LB' : Nat → Nat} {q : Nat} {v : Value} {a b : World} (h : Stp LB LB' a b) : Sq LB LB' q v v a b := ⟨h.1.os, h.1.tape, h.1.output, h.1.size, fun k hk h0 _ => h.1.block k hk h0, h.2, .inl rfl⟩
theorem Sq.below {LB : Nat → Nat} {q : Nat} {v : Value} {a b : World} (h : Below a.heap.size a b) : Sq LB LB q v v a b := Sq.ofStp (Stp.ofBelow h)
theorem Sq.ofUp {LB : Nat → Nat} {q : Nat} {n : Int} {v v' : Value} {a b : World} (h : a.grownBy b (some q)) (hv : v' = v ∨ ∀ x, v'.ownBlock = some x → a.heap.size ≤ x) : Sq LB (lab' a LB 0) q v v' a b :=
  ⟨h.os, h.tape, h.output, h.size, fun k hk _ hne => h.block k hk (fun e => hne (Option.some.inj e)), fun k hk h0 => (lab'_old _ _ _ _ hk).trans h0, hv⟩
section
variable {w W0 W W' : World} {LB : Nat → Nat} {t q n L : Nat} {f : Nat → Int} {L' : Nat} {g : Nat → Int} {v : Value} {hs : Int}
theorem Pr.qlt (h : Pr w W LB t q n L f L' g v hs) : q < W.heap.size := (Array.getElem?_eq_some_iff.1 h.blk).1
theorem Pr.small (h : Pr w W LB t q n L f L' g v hs) : L ≤ 1073741824 := by
  obtain ⟨cn, h⟩ := h.tr
  have := h.few
  have := h.lim
  omega
theorem Pr.below (h : Pr w W LB t q n L f L' g v hs) (hb : Below W.heap.size W W') : Pr w W' LB t q n L f L' g v hs := by
  obtain ⟨cn, ht⟩ := h.tr
  exact ⟨h.bel.trans (hb.mono h.bel.size), h.hq, ⟨cn, ht.below hb⟩, (hb.block q h.qlt).trans h.blk, own_keep (row := none) h.own ⟨hb.os, hb.tape, hb.output, hb.size, fun k hk _ => hb.block k hk⟩ (fun b _ e => by cases e), h.lq, h.lv, h.h0⟩
theorem Pr.fresh (h : Pr w W LB t q n L f L' g v hs) : Pr w W (lab' W LB 0) t q n L f L' g v hs := by
  obtain ⟨cn, ht⟩ := h.tr
  exact ⟨h.bel, h.hq, ⟨cn, ht.fresh⟩, h.blk, h.own, (lab'_old _ _ _ _ h.qlt).trans h.lq, Lab.more h.own h.lv 0, h.h0⟩
theorem Pr.stepT {LB' : Nat → Nat} {L2 : Nat} {f2 : Nat → Int} {hs2 : Int} (h : Pr w W0 LB t q n L f L' g v hs) (hw : Below W0.heap.size W0 W) (s : Stp (lab' W0 LB 0) LB' W W') (ht : ∃ cn, TT W' LB' w.heap.size t n L2 f2 cn hs2) (h2 : 0 ≤ hs2) : Pr w W' LB' t q n L2 f2 L' g v hs2 ∧ Sq LB LB' q v v W0 W' ∧ Stay W0 W W' := by
  have hf := h.fresh.below hw
  have z0 := h.bel.size
  have z1 := hw.size
  obtain ⟨cn, hb⟩ := h.tr
  obtain ⟨k1, k2⟩ := TG.next (t := t) (m := n) (L := L) (f := f) (hb := hs) h.bel hb.base hw s
  refine ⟨⟨k1, h.hq, ht, (s.1.block q hf.qlt hf.lq).trans hf.blk, own_tou hf.own s.1 hf.lv, s.2 q hf.qlt hf.lq, fun b hb2 => s.2 b (hf.own.lt b hb2).2 (hf.lv b hb2), h2⟩, ?_, k2⟩
  exact ((Sq.ofStp (Stp.fresh LB W0)).trans (Sq.below hw)).trans (Sq.ofStp s)

theorem Pr.tset (h : Pr w W0 LB t q n L f L' g v hs) (hw : Below W0.heap.size W0 W) (i : Int) (c : Nat → Int) (hc : ∀ j, j < 32 → 0 ≤ c j ∧ c j < 256) (h0 : -9223372036854775808 ≤ i) (h1 : i ≤ 9223372036854775807) :
    Calls Tryd.prog 14 #[.pointer (some ⟨t, 0, none⟩), .int .i64 i, .agg (vs .u8 32 c)] W fun e w' => ∃ LB', e = .returned (.int .i64 (getE L i)) ∧ Pr w w' LB' t q n L (setV f L i c) L' g v hs ∧ Sq LB LB' q v v W0 w' ∧ Stay W0 W w' := by
  obtain ⟨cn, ht0⟩ := h.tr
  refine ((ht0.fresh.below hw).set i c hc h0 h1).mono ?_
  rintro e w' ⟨rfl, LB', cn', s, ht, _⟩
  exact ⟨LB', rfl, h.stepT hw s ⟨cn', ht⟩ h.h0⟩

theorem Pr.tapp (h : Pr w W0 LB t q n L f L' g v hs) (hw : Below W0.heap.size W0 W) (c : Nat → Int) (hc : ∀ j, j < 32 → 0 ≤ c j ∧ c j < 256) :
    Calls Tryd.prog 15 #[.pointer (some ⟨t, 0, none⟩), .agg (vs .u8 32 c)] W fun e w' => ∃ LB', e = .returned (.int .i64 (appE n L)) ∧ Pr w w' LB' t q n (appL n L) (appV n L f c) L' g v hs ∧ Sq LB LB' q v v W0 w' ∧ Stay W0 W w' := by
  obtain ⟨cn, ht0⟩ := h.tr
  refine ((ht0.fresh.below hw).app c hc).mono ?_
  rintro e w' ⟨rfl, LB', cn', s, ht, _⟩
  exact ⟨LB', rfl, h.stepT hw s ⟨cn', ht⟩ h.h0⟩

theorem Pr.troot (h : Pr w W0 LB t q n L f L' g v hs) (hw : Below W0.heap.size W0 W) (hS : Sh w) (hh1 : hs ≤ 576460752303423488) :
    Calls Tryd.prog 12 #[.pointer (some ⟨t, 0, none⟩)] W fun e w' => ∃ LB' hs', e = .returned (.agg (vs .u8 32 (treeV f L (n : Nat)))) ∧ Pr w w' LB' t q n L f L' g v hs' ∧ Sq LB LB' q v v W0 w' ∧ Stay W0 W w' ∧ hs ≤ hs' ∧ hs' ≤ hs + 2147483648 := by
  obtain ⟨cn, ht0⟩ := h.tr
  have hfew := ht0.few
  have hlim := ht0.lim
  have hdp : dpt n ≤ 40 := dpt_le n (by omega)
  have hh0 := h.h0
  refine ((ht0.fresh.below hw).root (hS.below (h.bel.trans (hw.mono h.bel.size))) hS.1.1 hS.2.1 h.h0 hh1).mono ?_
  rintro e w' ⟨rfl, LB', hs', s, ht, q1, _, q2⟩
  obtain ⟨r1, r2, r3⟩ := h.stepT hw s ⟨0, ht⟩ (by omega)
  exact ⟨LB', hs', rfl, r1, r2, r3, q1, by omega⟩

theorem Pr.len (h : Pr w W LB t q n L f L' g v hs) :
    Calls Tryd.prog 11 #[.pointer (some ⟨t, 0, none⟩)] W fun e w' => e = .returned (.int .i64 L) ∧ w' = W := by
  obtain ⟨cn, ht⟩ := h.tr
  exact ht.len

theorem Pr.stepR {L2 : Nat} {g2 : Nat → Int} (h : Pr w W LB t q n L f L' g v hs) (hu : RUp W W' q n v L2 g2) : ∃ v', Pr w W' (lab' W LB 0) t q n L f L2 g2 v' hs ∧ Sq LB (lab' W LB 0) q v v' W W' := by
  obtain ⟨cn, ht⟩ := h.tr
  have hq := h.qlt
  obtain ⟨h1, v', h2, h3, h4⟩ := hu
  refine ⟨v', ⟨grown_below h.bel h.bel.size h1 (fun b e => by cases e; exact h.hq), h.hq, ⟨cn, ht.fresh.else h1 ((lab'_old _ _ _ _ hq).trans h.lq)⟩, h2, h3, (lab'_old _ _ _ _ hq).trans h.lq, fun b hb => ?_, h.h0⟩, Sq.ofUp (n := (n : Int)) h1 h4⟩
  rcases h4 with rfl | h4
  · exact (lab'_old _ _ _ _ (h.own.lt b hb).2).trans (h.lv b hb)
  · exact lab'_new _ _ _ _ (h4 b hb)

theorem Pr.rset (h : Pr w W LB t q n L f L g v hs) (hl : L ≤ 1073741824) (i : Int) (c : Nat → Int) (h0 : -9223372036854775808 ≤ i) (h1 : i ≤ 9223372036854775807) :
    Calls Tryd.prog 17 #[.pointer (some ⟨q, 0, none⟩), .int .i64 i, .agg (vs .u8 32 c)] W fun e w' => ∃ v', e = .returned (.int .i64 (getE L i)) ∧ Pr w w' (lab' W LB 0) t q n L f L (setV g L i c) v' hs ∧ Sq LB (lab' W LB 0) q v v' W w' := by
  refine (rset6 W q n v L g h.blk h.own (by omega) i c h0 h1).mono ?_
  rintro e w' ⟨rfl, hu⟩
  obtain ⟨v', r1, r2⟩ := h.stepR hu
  exact ⟨v', rfl, r1, r2⟩

theorem Pr.rapp {M : Nat} (h : Pr w W LB t q n L f M g v hs) (hl : M ≤ 1073741824) (c : Nat → Int) :
    Calls Tryd.prog 20 #[.pointer (some ⟨q, 0, none⟩), .agg (vs .u8 32 c)] W fun e w' => ∃ v', e = .returned (.int .i64 (appE n M)) ∧ Pr w w' (lab' W LB 0) t q n L f (appL n M) (appV n M g c) v' hs ∧ Sq LB (lab' W LB 0) q v v' W w' := by
  have hn : n ≤ 1073741824 := by
    obtain ⟨cn, ht⟩ := h.tr
    exact ht.lim
  refine (rapp6 W q n v M g h.blk h.own (by omega) c hn).mono ?_
  rintro e w' ⟨rfl, hu⟩
  obtain ⟨v', r1, r2⟩ := h.stepR hu
  exact ⟨v', rfl, r1, r2⟩
end

attribute [local go_sem ↓] sv24_eq lv24_eq ix22_eq slr_eq bd27_eq bs22_eq eqo_eq lvO_eq svO_eq ixO_eq lv28_eq sv28_eq

set_option maxRecDepth 20000 in
set_option maxHeartbeats 4000000 in
theorem run_any {w W : World} {LB : Nat → Nat} {t q n L : Nat} {f : Nat → Int} {v : Value} {hs : Int} (hP : Pr w W LB t q n L f L f v hs) (hS : Sh w) (hh : hs ≤ 288230376151711744) (a : Option Addr) (len cap : Nat) (K P : Nat → Int) (F : Nat → Nat → Int) (hcl : Cls w a len K P F) (hrg : ∀ i, (-9223372036854775808 ≤ K i ∧ K i ≤ 9223372036854775807) ∧ (-9223372036854775808 ≤ P i ∧ P i ≤ 9223372036854775807) ∧ ∀ j, 0 ≤ F i j ∧ F i j < 256) (hlen : len ≤ 140737488355328) :
    Calls Tryd.prog 22 #[.pointer (some ⟨t, 0, none⟩), .pointer (some ⟨q, 0, none⟩), .slice a len cap] W fun e w' => e = .returned (.tuple #[]) ∧ ∃ LB' L' f' v' hs', Pr w w' LB' t q n L' f' L' f' v' hs' ∧ Sq LB LB' q v v' W w' ∧ hs' ≤ hs + 40 * 2147483648 := by
  have HS := hid hS
  have HCL := hid hcl
  have HRG := hid hrg
  have HP0 := hid hP
  have HQL := hid hP.qlt
  clear hS hcl hrg hP
  go_enter Tryd.func22, Tryd.ntmps22
  go_wp2
  go_loopw [6] (fun i wr => ∃ (k : Nat) (LB' : Nat → Nat) (L' : Nat) (f' : Nat → Int) (v' : Value) (hs' : Int), k ≤ len ∧ k ≤ 40 ∧ i = .int .i64 k ∧ Pr w wr LB' t q n L' f' L' f' v' hs' ∧ Sq LB LB' q v v' W wr ∧ hs' ≤ hs + (k : Int) * 2147483648) (fun i _ => 40 - (intOf i).toNat)
  case atStart => exact ⟨0, LB, L, f, v, hs, by omega, by omega, rfl, HP0.out, Sq.refl _ _ _ _, by omega⟩
  case round =>
    clear HP0
    obtain ⟨k, LBk, L, f, vk, hsk, hk1, hk2, rfl, hP, hsq0, hhk⟩ := hrel
    have HSQ0 := hid hsq0
    clear hsq0
    by_cases hlt : k < len ∧ k < 40
    · obtain ⟨hlt1, hlt2⟩ := hlt
      have b1 : decide (k < len) = true := by simp; omega
      have b2 : decide ((k : Int) < (len : Int)) = true := by simp; omega
      have b3 : decide (k < 40) = true := by simp; omega
      have b4 : decide ((k : Int) < 40) = true := by simp; omega
      obtain ⟨bo, oo, hao, hbo, hco⟩ := HCL.out.resolve_left (by omega)
      subst hao
      have hco' := hco k hlt1
      have hB0 := hP.bel
      have l0 := lvO_mid (w := wr) (b := bo) (o := oo + 34 * k) (k := K k) (p := P k) (c := F k) ((below_cell hB0 hbo).trans hco'.1) ((below_cell hB0 hbo).trans hco'.2.1) (fun j hj => (below_cell hB0 hbo).trans (hco'.2.2 j hj))
      have ixo := fun W => ixO_run W bo oo len cap k hlt1
      have zo := zero_op
      have so := svO_new wr (K k) (P k) (F k) (oA 0 0 (fun _ => 0)) (oA_size _ _ _)
      have hrg := HRG.out k
      obtain ⟨kk, ekk⟩ : ∃ z, K k = z := ⟨_, rfl⟩
      obtain ⟨p, ep⟩ : ∃ z, P k = z := ⟨_, rfl⟩
      obtain ⟨c, ec⟩ : ∃ z, F k = z := ⟨_, rfl⟩
      rw [ekk, ep, ec] at l0 so hrg
      obtain ⟨⟨kk1, kk2⟩, ⟨p1, p2⟩, hcb⟩ := hrg
      clear hco hco' hB0 ekk ep ec
      go_upto_region 4 with fail
      clear l0 ixo zo so
      obtain ⟨W1, hW1⟩ : ∃ X, wr.alloc (.cells (oA kk p c) 40) = X := ⟨_, rfl⟩
      rw [hW1]
      have hB1 : Below wr.heap.size wr W1 := by rw [← hW1]; exact (Below.refl _ _).alloc (Nat.le_refl _) _
      have ry : W1.heap[wr.heap.size]? = some (.cells (oA kk p c) 40) := by rw [← hW1]; exact heap_new rfl
      have zy : wr.heap.size < W1.heap.size := by rw [← hW1]; simp
      have HB1w := hid hB1
      obtain ⟨y, ey⟩ : ∃ y, wr.heap.size = y := ⟨_, rfl⟩
      have hqy : q < y := by rw [← ey]; exact hP.qlt
      have cy0 := row_cell ry 0
      rw [oA_0] at cy0
      have x1 : -6 < kk.tmod 6 := by
        have := Int.lt_tmod_of_pos kk (by omega : (0 : Int) < 6); omega
      have x2 : kk.tmod 6 < 6 := Int.tmod_lt_of_pos kk (by omega)
      have HEY := hid ey
      rw [ey] at ry zy cy0 hB1 ⊢
      obtain ⟨kd, hkd, ekd⟩ := kind_any kk
      have EKD := hid ekd
      have HP := hid hP
      have HRY := hid ry
      have HB1 := hid hB1
      have HLP : Hid (∀ X : World, X.heap[y]? = some (.cells (oA kk p c) 40) → X.cell? ⟨y, 1, none⟩ = some (.int .i64 p)) := fun X h => (row_cell h 1).trans (oA_1 _ _ _)
      have HLC : Hid (∀ X : World, X.heap[y]? = some (.cells (oA kk p c) 40) → (lv24 ⟨y, 2, none⟩).run Tryd.prog X = .ok (.agg (vs .u8 32 c)) X) := fun X h => lv24_mid (fun j hj => (row_cell h (2 + j)).trans (oA_2 _ _ _ j hj))
      have HCB : Hid (∀ j, j < 32 → 0 ≤ c j ∧ c j < 256) := fun j _ => hcb j
      have HST : Hid (∀ X X', Stay wr X X' → X.heap[y]? = some (.cells (oA kk p c) 40) → X'.heap[y]? = some (.cells (oA kk p c) 40)) := fun X X' h h2 => (h y (by rw [← HEY.out]; exact Nat.le_refl _) (Array.getElem?_eq_some_iff.1 h2).1).trans h2
      have HSQ : Hid (∀ X X', StayQ q X X' → X.heap[y]? = some (.cells (oA kk p c) 40) → X'.heap[y]? = some (.cells (oA kk p c) 40)) := fun X X' h h2 => (h.2 y (Array.getElem?_eq_some_iff.1 h2).1 (by omega)).trans h2
      have hLm : L ≤ 1073741824 := hP.small
      clear ry hB1 hP ekd hcb hW1 ey
      clear b1 b2 b3 b4
      rcases (by omega : kd = 0 ∨ kd = 1 ∨ kd = 2 ∨ kd = 3 ∨ kd = 4 ∨ kd = 5) with rfl | rfl | rfl | rfl | rfl | rfl
      · -- kind 0
        have hkk : (kk.tmod 6 + 6) % 6 = 0 := by have := EKD.out; omega
        clear EKD
        go_upto_region 12 with fail
        clear cy0 hkk x1 x2
        have hts := HP.out.tapp (HB1w.out) c HCB.out
        have HTS := hid hts
        have lc := HLC.out _ HRY.out
        clear hts
        go_upto_region 13 with (go_at_call 15; refine HTS.out.mono ?_; rintro e w2 ⟨LB2, rfl, hj2, sq2, hs2⟩)
        have S2 := HST.out _ _ hs2 HRY.out
        have hrs := hj2.rapp hLm c
        have HRS := hid hrs
        have SQ2 := hid sq2
        clear lc hrs HTS hj2 hs2 sq2
        have lc := HLC.out _ S2
        clear S2
        go_wp2_with (go_at_call 20; refine HRS.out.mono ?_; rintro e w3 ⟨v3, rfl, hj3, sq3⟩)
        have HJ := hid hj3
        have HSQQ := hid (HSQ0.out.trans (SQ2.out.trans sq3))
        clear hj3 sq3
        go_roundw
        case rel => exact ⟨k + 1, _, _, _, _, _, by omega, by omega, by go_num, HJ.out, HSQQ.out, by omega⟩
        case measure => simp [intOf]; omega
      · -- kind 1
        have hkk : (kk.tmod 6 + 6) % 6 = 1 := by have := EKD.out; omega
        clear EKD
        go_upto_region 6 with fail
        clear cy0 hkk x1 x2
        have hts := HP.out.tset (HB1w.out) p c HCB.out p1 p2
        have HTS := hid hts
        have cp := HLP.out _ HRY.out
        have lc := HLC.out _ HRY.out
        clear hts
        go_upto_region 7 with (go_at_call 14; refine HTS.out.mono ?_; rintro e w2 ⟨LB2, rfl, hj2, sq2, hs2⟩)
        have S2 := HST.out _ _ hs2 HRY.out
        have hrs := hj2.rset hLm p c p1 p2
        have HRS := hid hrs
        have SQ2 := hid sq2
        clear cp lc hrs HTS hj2 hs2 sq2
        have cp := HLP.out _ S2
        have lc := HLC.out _ S2
        clear S2
        go_wp2_with (go_at_call 17; refine HRS.out.mono ?_; rintro e w3 ⟨v3, rfl, hj3, sq3⟩)
        have HJ := hid hj3
        have HSQQ := hid (HSQ0.out.trans (SQ2.out.trans sq3))
        clear hj3 sq3
        go_roundw
        case rel => exact ⟨k + 1, _, _, _, _, _, by omega, by omega, by go_num, HJ.out, HSQQ.out, by omega⟩
        case measure => simp [intOf]; omega
      · -- kind 2
        have hkk : (kk.tmod 6 + 6) % 6 = 2 := by have := EKD.out; omega
        clear EKD
        go_upto_region 9 with fail
        clear cy0 hkk x1 x2
        have hts := HP.out.troot (HB1w.out) HS.out (by omega)
        have HTS := hid hts
        clear hts
        go_wp2_with (go_at_call 12; refine HTS.out.mono ?_; rintro e w2 ⟨LB2, hs2', rfl, hj2, sq2, hs2, g1, g2⟩)
        have HJ := hid hj2
        have HSQQ := hid (HSQ0.out.trans sq2)
        clear hj2 sq2 hs2
        go_roundw
        case rel => exact ⟨k + 1, _, _, _, _, _, by omega, by omega, by go_num, HJ.out, HSQQ.out, by omega⟩
        case measure => simp [intOf]; omega
      · -- kind 3
        have hkk : (kk.tmod 6 + 6) % 6 = 3 := by have := EKD.out; omega
        clear EKD
        go_upto_region 11 with fail
        clear cy0 x1 x2
        have HJ := hid (HP.out.below HB1w.out)
        have HSQQ := hid (HSQ0.out.trans (Sq.below (HB1w.out)))
        go_wp2
        go_roundw
        case rel => exact ⟨k + 1, _, _, _, _, _, by omega, by omega, by go_num, HJ.out, HSQQ.out, by omega⟩
        case measure => simp [intOf]; omega
      · -- kind 4
        have hkk : (kk.tmod 6 + 6) % 6 = 4 := by have := EKD.out; omega
        clear EKD
        go_upto_region 11 with fail
        clear cy0 x1 x2
        have HJ := hid (HP.out.below HB1w.out)
        have HSQQ := hid (HSQ0.out.trans (Sq.below (HB1w.out)))
        go_wp2
        go_roundw
        case rel => exact ⟨k + 1, _, _, _, _, _, by omega, by omega, by go_num, HJ.out, HSQQ.out, by omega⟩
        case measure => simp [intOf]; omega
      · -- kind 5
        have hkk : (kk.tmod 6 + 6) % 6 = 5 := by have := EKD.out; omega
        clear EKD
        go_upto_region 12 with fail
        clear cy0 hkk x1 x2
        have hts := HP.out.tapp (HB1w.out) c HCB.out
        have HTS := hid hts
        have lc := HLC.out _ HRY.out
        clear hts
        go_upto_region 13 with (go_at_call 15; refine HTS.out.mono ?_; rintro e w2 ⟨LB2, rfl, hj2, sq2, hs2⟩)
        have S2 := HST.out _ _ hs2 HRY.out
        have hrs := hj2.rapp hLm c
        have HRS := hid hrs
        have SQ2 := hid sq2
        clear lc hrs HTS hj2 hs2 sq2
        have lc := HLC.out _ S2
        clear S2
        go_wp2_with (go_at_call 20; refine HRS.out.mono ?_; rintro e w3 ⟨v3, rfl, hj3, sq3⟩)
        have HJ := hid hj3
        have HSQQ := hid (HSQ0.out.trans (SQ2.out.trans sq3))
        clear hj3 sq3
        go_roundw
        case rel => exact ⟨k + 1, _, _, _, _, _, by omega, by omega, by go_num, HJ.out, HSQQ.out, by omega⟩
        case measure => simp [intOf]; omega
    · have HP := hid hP
      have hcase : (¬ k < len) ∨ (k < len ∧ ¬ k < 40) := by omega
      clear hP hlt
      rcases hcase with hc | ⟨hc1, hc2⟩
      · have b1 : decide (k < len) = false := by simp; omega
        have b2 : decide ((k : Int) < (len : Int)) = false := by simp; omega
        go_wp2
        refine bodyPost_end (results_none rfl _ _ _) rfl ?_
        exact ⟨rfl, LBk, L, f, vk, hsk, HP.out, HSQ0.out, by omega⟩
      · have b1 : decide (k < len) = true := by simp; omega
        have b2 : decide ((k : Int) < (len : Int)) = true := by simp; omega
        have b3 : decide (k < 40) = false := by simp; omega
        have b4 : decide ((k : Int) < 40) = false := by simp; omega
        go_wp2
        refine bodyPost_end (results_none rfl _ _ _) rfl ?_
        exact ⟨rfl, LBk, L, f, vk, hsk, HP.out, HSQ0.out, by omega⟩

end Go.Proofs.YtjimdkpppgjokaaDoor

namespace Go.Proofs.YtjimdkpppgjokaaDoor
open Go.RowKit
set_option linter.unusedVariables false
set_option linter.unusedSimpArgs false

/-- Two trees with the reference's, none in the other's way. -/
structure Two (w W : World) (LB LBc : Nat → Nat) (t q c s n L : Nat) (f : Nat → Int) (v : Value) (hs : Int) (L2 : Nat) (f2 : Nat → Int) (v2 : Value) (hs2 : Int) : Prop where
  p1 : Pr w W LB t q n L f L f v hs
  p2 : Pr w W LBc c s n L2 f2 L2 f2 v2 hs2
  qs : q ≠ s
  cq : LBc q = 0
  ls : LB s = 0
  cv : Lab LBc 0 v
  lv2 : Lab LB 0 v2
  dis : ∀ k, k < W.heap.size → LB k = 0 ∨ LBc k = 0
theorem Two.swap {w W : World} {LB LBc : Nat → Nat} {t q c s n L : Nat} {f : Nat → Int} {v : Value} {hs : Int} {L2 : Nat} {f2 : Nat → Int} {v2 : Value} {hs2 : Int} (h : Two w W LB LBc t q c s n L f v hs L2 f2 v2 hs2) : Two w W LBc LB c s t q n L2 f2 v2 hs2 L f v hs :=
  ⟨h.p2, h.p1, fun e => h.qs e.symm, h.ls, h.cq, h.lv2, h.cv, fun k hk => (h.dis k hk).symm⟩
theorem row_ne {W : World} {q : Nat} {n : Int} {u v : Value} {L : Nat} {xs : List Value} (hq : W.heap[q]? = some (.cells (rtA n u) 28)) (ho : W.ownsRow 0 33 32 v L xs) (b : Nat) (hb : v.ownBlock = some b) : b ≠ q := by
  intro e
  rcases ho.2 with ⟨e1, _⟩ | ⟨g, cap, cur, e1, _, e2, _⟩
  · rw [e1] at hb; cases hb
  · rw [e1] at hb
    have e3 : g = b := Option.some.inj hb
    rw [e3, e, hq] at e2
    have e4 := Option.some.inj e2
    injection e4 with _ e5
    exact absurd e5 (by decide)
/-- A step on the first pair. -/
theorem Two.step {w W W' : World} {LB LBc LB' : Nat → Nat} {t q c s n L : Nat} {f : Nat → Int} {v : Value} {hs : Int} {L2 : Nat} {f2 : Nat → Int} {v2 : Value} {hs2 : Int} {L3 : Nat} {f3 : Nat → Int} {v3 : Value} {hs3 : Int} (h : Two w W LB LBc t q c s n L f v hs L2 f2 v2 hs2) (hp : Pr w W' LB' t q n L3 f3 L3 f3 v3 hs3) (hsq : Sq LB LB' q v v3 W W') :
    Two w W' LB' (lab' W LBc 0) t q c s n L3 f3 v3 hs3 L2 f2 v2 hs2 ∧ W'.heap[s]? = W.heap[s]? := by
  have hs1 := h.p2.qlt
  have hq1 := h.p1.qlt
  have tou : Tou (fun k => if k = q then 1 else LB k) W W' := ⟨hsq.os, hsq.tape, hsq.output, hsq.size, fun k hk h0 => by
    by_cases e : k = q
    · have h1 : (if k = q then 1 else LB k) = 0 := h0
      rw [if_pos e] at h1; omega
    · have h1 : (if k = q then 1 else LB k) = 0 := h0
      rw [if_neg e] at h1
      exact hsq.block k hk h1 e⟩
  have hbs := hsq.block s hs1 h.ls (fun e => h.qs e.symm)
  obtain ⟨cn, ht⟩ := h.p2.tr
  have ht' := ht.fresh.tou tou (fun k hk h0 => by
    rw [lab'_old _ _ _ _ hk] at h0
    have hk0 : k ≠ q := fun e => h0 (by rw [e]; exact h.cq)
    show (if k = q then 1 else LB k) = 0
    rw [if_neg hk0]
    rcases h.dis k hk with e | e
    · exact e
    · exact absurd e h0)
  have hown2 : W'.ownsRow 0 33 32 v2 L2 (bl f2 (32 * L2)) := own_tou h.p2.own tou (fun b hb => by
    show (if b = q then 1 else LB b) = 0
    rw [if_neg (row_ne h.p1.blk h.p2.own b hb)]
    exact h.lv2 b hb)
  refine ⟨⟨hp, ⟨hp.bel, h.p2.hq, ⟨cn, ht'⟩, hbs.trans h.p2.blk, hown2, (lab'_old _ _ _ _ hs1).trans h.p2.lq, Lab.more h.p2.own h.p2.lv 0, h.p2.h0⟩, h.qs, (lab'_old _ _ _ _ hq1).trans h.cq, hsq.lab s hs1 h.ls, fun b hb => ?_, fun b hb => hsq.lab b (h.p2.own.lt b hb).2 (h.lv2 b hb), fun k hk => ?_⟩, hbs⟩
  · rcases hsq.row with e | e
    · rw [e] at hb
      exact (lab'_old _ _ _ _ (h.p1.own.lt b hb).2).trans (h.cv b hb)
    · exact lab'_new _ _ _ _ (e b hb)
  · by_cases hkw : k < W.heap.size
    · rcases h.dis k hkw with e | e
      · exact .inl (hsq.lab k hkw e)
      · exact .inr ((lab'_old _ _ _ _ hkw).trans e)
    · exact .inr (lab'_new _ _ _ _ (by omega))
theorem Two.below {w W W' : World} {LB LBc : Nat → Nat} {t q c s n L : Nat} {f : Nat → Int} {v : Value} {hs : Int} {L2 : Nat} {f2 : Nat → Int} {v2 : Value} {hs2 : Int} (h : Two w W LB LBc t q c s n L f v hs L2 f2 v2 hs2) (hb : Below W.heap.size W W') : Two w W' (lab' W LB 0) (lab' W LBc 0) t q c s n L f v hs L2 f2 v2 hs2 :=
  ⟨h.p1.fresh.below hb, h.p2.fresh.below hb, h.qs, (lab'_old _ _ _ _ h.p1.qlt).trans h.cq, (lab'_old _ _ _ _ h.p2.qlt).trans h.ls, Lab.more h.p1.own h.cv 0, Lab.more h.p2.own h.lv2 0, fun k hk => by
    by_cases hkw : k < W.heap.size
    · rw [lab'_old _ _ _ _ hkw, lab'_old _ _ _ _ hkw]; exact h.dis k hkw
    · exact .inl (lab'_new _ _ _ _ (by omega))⟩

theorem Two.root {w W : World} {LB LBc : Nat → Nat} {t q c s n L : Nat} {f : Nat → Int} {v : Value} {hs : Int} {L2 : Nat} {f2 : Nat → Int} {v2 : Value} {hs2 : Int} (h : Two w W LB LBc t q c s n L f v hs L2 f2 v2 hs2) (hS : Sh w) (hh : hs ≤ 576460752303423488) :
    Calls Tryd.prog 12 #[.pointer (some ⟨t, 0, none⟩)] W fun e w' => e = .returned (.agg (vs .u8 32 (treeV f L (n : Nat)))) ∧ ∃ LB' LBc' hs', Two w w' LB' LBc' t q c s n L f v hs' L2 f2 v2 hs2 ∧ hs' ≤ hs + 2147483648 ∧ w'.heap[q]? = W.heap[q]? ∧ w'.heap[s]? = W.heap[s]? := by
  refine (h.p1.troot (Below.refl _ _) hS hh).mono ?_
  rintro e w' ⟨LB', hs', rfl, hp, hsq, _, _, hle⟩
  obtain ⟨h2, h3⟩ := h.step hp hsq
  exact ⟨rfl, LB', _, hs', h2, hle, hp.blk.trans h.p1.blk.symm, h3⟩

theorem Two.rroot {w W : World} {LB LBc : Nat → Nat} {t q c s n L : Nat} {f : Nat → Int} {v : Value} {hs : Int} {L2 : Nat} {f2 : Nat → Int} {v2 : Value} {hs2 : Int} (h : Two w W LB LBc t q c s n L f v hs L2 f2 v2 hs2) (hC : Rc w) :
    Calls Tryd.prog 18 #[.agg (rtA n v)] W fun e w' => e = .returned (.agg (vs .u8 32 (treeV f L (n : Nat)))) ∧ Below W.heap.size W w' := by
  obtain ⟨cn, ht⟩ := h.p1.tr
  have hfew := ht.few
  have hlim := ht.lim
  obtain ⟨a, cap, rfl, hrow⟩ := RowR.ofOwns h.p1.own
  have hle : L ≤ cap := by
    rcases h.p1.own.2 with ⟨e, e2⟩ | ⟨g', cap', cur, e, _, _, hle, _⟩
    · cases e; omega
    · cases e; exact hle
  exact rroot6 a L cap f (n : Nat) W (hC.below h.p1.bel) hrow.rts hle hfew.2.2.1 (by omega) (by omega) (by omega)

theorem Two.run {w W : World} {LB LBc : Nat → Nat} {t q c s n L : Nat} {f : Nat → Int} {v : Value} {hs : Int} {L2 : Nat} {f2 : Nat → Int} {v2 : Value} {hs2 : Int} (h : Two w W LB LBc t q c s n L f v hs L2 f2 v2 hs2) (hS : Sh w) (hh : hs ≤ 288230376151711744) (a : Option Addr) (len cap : Nat) (K P : Nat → Int) (F : Nat → Nat → Int) (hcl : Cls w a len K P F) (hrg : ∀ i, (-9223372036854775808 ≤ K i ∧ K i ≤ 9223372036854775807) ∧ (-9223372036854775808 ≤ P i ∧ P i ≤ 9223372036854775807) ∧ ∀ j, 0 ≤ F i j ∧ F i j < 256) (hlen : len ≤ 140737488355328) :
    Calls Tryd.prog 22 #[.pointer (some ⟨t, 0, none⟩), .pointer (some ⟨q, 0, none⟩), .slice a len cap] W fun e w' => e = .returned (.tuple #[]) ∧ ∃ LB' LBc' L' f' v' hs', Two w w' LB' LBc' t q c s n L' f' v' hs' L2 f2 v2 hs2 ∧ hs' ≤ hs + 40 * 2147483648 := by
  refine (run_any h.p1 hS hh a len cap K P F hcl hrg hlen).mono ?_
  rintro e w' ⟨rfl, LB', L', f', v', hs', hp, hsq, hle⟩
  exact ⟨rfl, LB', _, L', f', v', hs', (h.step hp hsq).1, hle⟩

/-- What is there, of two trees, without the labels. -/
def T2 (w W : World) (t q c s n : Nat) (L : Nat) (f : Nat → Int) (v : Value) (L2 : Nat) (f2 : Nat → Int) (v2 : Value) (b : Int) : Prop := ∃ LB LBc hs hs2, Two w W LB LBc t q c s n L f v hs L2 f2 v2 hs2 ∧ hs ≤ b ∧ hs2 ≤ b
section
variable {w W W' : World} {t q c s n L : Nat} {f : Nat → Int} {v : Value} {L2 : Nat} {f2 : Nat → Int} {v2 : Value} {b : Int}
theorem T2.swap (h : T2 w W t q c s n L f v L2 f2 v2 b) : T2 w W c s t q n L2 f2 v2 L f v b := by
  obtain ⟨LB, LBc, hs, hs2, h1, h2, h3⟩ := h
  exact ⟨LBc, LB, hs2, hs, h1.swap, h3, h2⟩
theorem T2.bel (h : T2 w W t q c s n L f v L2 f2 v2 b) : Below w.heap.size w W := by
  obtain ⟨LB, LBc, hs, hs2, h1, h2, h3⟩ := h
  exact h1.p1.bel
theorem T2.below (h : T2 w W t q c s n L f v L2 f2 v2 b) (hb : Below W.heap.size W W') : T2 w W' t q c s n L f v L2 f2 v2 b := by
  obtain ⟨LB, LBc, hs, hs2, h1, h2, h3⟩ := h
  exact ⟨_, _, hs, hs2, h1.below hb, h2, h3⟩
theorem T2.le {b' : Int} (h : T2 w W t q c s n L f v L2 f2 v2 b) (hb : b ≤ b') : T2 w W t q c s n L f v L2 f2 v2 b' := by
  obtain ⟨LB, LBc, hs, hs2, h1, h2, h3⟩ := h
  exact ⟨_, _, hs, hs2, h1, by omega, by omega⟩
theorem T2.blk (h : T2 w W t q c s n L f v L2 f2 v2 b) : W.heap[q]? = some (.cells (rtA n v) 28) ∧ ∃ a cap, v = .slice a L cap := by
  obtain ⟨LB, LBc, hs, hs2, h1, h2, h3⟩ := h
  exact ⟨h1.p1.blk, row_form h1.p1.own⟩

theorem T2.root (h : T2 w W t q c s n L f v L2 f2 v2 b) (hS : Sh w) (hb : b ≤ 576460752303423488) :
    Calls Tryd.prog 12 #[.pointer (some ⟨t, 0, none⟩)] W fun e w' => e = .returned (.agg (vs .u8 32 (treeV f L (n : Nat)))) ∧ T2 w w' t q c s n L f v L2 f2 v2 (b + 2147483648) ∧ w'.heap[q]? = W.heap[q]? ∧ w'.heap[s]? = W.heap[s]? := by
  obtain ⟨LB, LBc, hs, hs2, h1, h2, h3⟩ := h
  refine (h1.root hS (by omega)).mono ?_
  rintro e w' ⟨rfl, LB', LBc', hs', k1, k2, k3⟩
  exact ⟨rfl, ⟨LB', LBc', hs', hs2, k1, by omega, by omega⟩, k3⟩

theorem T2.rroot (h : T2 w W t q c s n L f v L2 f2 v2 b) (hC : Rc w) :
    Calls Tryd.prog 18 #[.agg (rtA n v)] W fun e w' => e = .returned (.agg (vs .u8 32 (treeV f L (n : Nat)))) ∧ Below W.heap.size W w' := by
  obtain ⟨LB, LBc, hs, hs2, h1, h2, h3⟩ := h
  exact h1.rroot hC

theorem T2.len (h : T2 w W t q c s n L f v L2 f2 v2 b) :
    Calls Tryd.prog 11 #[.pointer (some ⟨t, 0, none⟩)] W fun e w' => e = .returned (.int .i64 L) ∧ w' = W := by
  obtain ⟨LB, LBc, hs, hs2, h1, h2, h3⟩ := h
  exact h1.p1.len

theorem T2.run (h : T2 w W t q c s n L f v L2 f2 v2 b) (hS : Sh w) (hb : b ≤ 288230376151711744) (a : Option Addr) (len cap : Nat) (K P : Nat → Int) (F : Nat → Nat → Int) (hcl : Cls w a len K P F) (hrg : ∀ i, (-9223372036854775808 ≤ K i ∧ K i ≤ 9223372036854775807) ∧ (-9223372036854775808 ≤ P i ∧ P i ≤ 9223372036854775807) ∧ ∀ j, 0 ≤ F i j ∧ F i j < 256) (hlen : len ≤ 140737488355328) :
    Calls Tryd.prog 22 #[.pointer (some ⟨t, 0, none⟩), .pointer (some ⟨q, 0, none⟩), .slice a len cap] W fun e w' => e = .returned (.tuple #[]) ∧ ∃ L' f' v', T2 w w' t q c s n L' f' v' L2 f2 v2 (b + 40 * 2147483648) := by
  obtain ⟨LB, LBc, hs, hs2, h1, h2, h3⟩ := h
  refine (h1.run hS (by omega) a len cap K P F hcl hrg hlen).mono ?_
  rintro e w' ⟨rfl, LB', LBc', L', f', v', hs', k1, k2⟩
  exact ⟨rfl, L', f', v', LB', LBc', hs', hs2, k1, by omega, by omega⟩
end
/-- A call of a script by itself. -/
theorem Cls.one {w : World} {a : Option Addr} {len : Nat} {k p : Nat → Int} {f : Nat → Nat → Int} (h : Cls w a len k p f) (i : Nat) (hi : i < len) : ∃ b off, a = some ⟨b, off, none⟩ ∧ Cls w (some ⟨b, off + 34 * i, none⟩) 1 (fun _ => k i) (fun _ => p i) (fun _ => f i) := by
  rcases h with h | ⟨b, off, h1, h2, h3⟩
  · omega
  · refine ⟨b, off, h1, .inr ⟨b, off + 34 * i, rfl, h2, fun j hj => ?_⟩⟩
    obtain rfl : j = 0 := by omega
    exact h3 i hi

end Go.Proofs.YtjimdkpppgjokaaDoor
