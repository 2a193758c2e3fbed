/-
  What the statement's own wipe leaves: all blocks but the two that the parts lie in; where the parts that Each and Many answer lie.
-/
import Derived.Test.YtfhplpcbaoefeaaSyL
import Derived.Test.YtfhplpcbaoefeaaSzP
import Derived.Test.YtfhplpcbaoefeaaSzJ
import Derived.ArgAppend
namespace Go.Proofs.Ytfhplpcbaoefeaa
open Go.RowKit
set_option linter.unusedVariables false
set_option linter.unusedSimpArgs false

/-- All blocks but two stay. -/
structure Kp2 (g gp : Nat) (w w' : World) : Prop where
  os : w'.os = w.os
  tape : w'.tape = w.tape
  output : w'.output = w.output
  size : w.heap.size ≤ w'.heap.size
  block : ∀ k, k < w.heap.size → k ≠ g → k ≠ gp → w'.heap[k]? = w.heap[k]?
theorem Kp2.refl (g gp : Nat) (w : World) : Kp2 g gp w w := ⟨rfl, rfl, rfl, Nat.le_refl _, fun _ _ _ _ => rfl⟩
theorem Kp2.trans {g gp : Nat} {a b c : World} (h : Kp2 g gp a b) (k : Kp2 g gp b c) : Kp2 g gp a c :=
  ⟨k.os.trans h.os, k.tape.trans h.tape, k.output.trans h.output, Nat.le_trans h.size k.size, fun i hi h1 h2 => (k.block i (Nat.lt_of_lt_of_le hi h.size) h1 h2).trans (h.block i hi h1 h2)⟩
theorem Kp2.ofBelow {g gp : Nat} {a b : World} (h : Below a.heap.size a b) : Kp2 g gp a b := ⟨h.os, h.tape, h.output, h.size, fun i hi _ _ => h.block i hi⟩
theorem Kp2.setG {g gp : Nat} (a : World) (i : Nat) (v : Value) : Kp2 g gp a (a.setCell ⟨g, i, none⟩ v) := ⟨rfl, rfl, rfl, by simp [World.setCell], fun k _ h1 _ => heap_set_other h1⟩
theorem Kp2.setP {g gp : Nat} (a : World) (i : Nat) (v : Value) : Kp2 g gp a (a.setCell ⟨gp, i, none⟩ v) := ⟨rfl, rfl, rfl, by simp [World.setCell], fun k _ _ h2 => heap_set_other h2⟩
theorem Kp2.below {g gp B : Nat} {a b : World} (h : Kp2 g gp a b) (h1 : B ≤ g) (h2 : B ≤ gp) (h3 : B ≤ a.heap.size) : Below B a b := ⟨h.os, h.tape, h.output, h.size, fun k hk => h.block k (by omega) (by omega) (by omega)⟩

/-- Parts from the number k on that lie in a row of bytes. -/
def Wq (w : World) (g gp n len : Nat) (P : Nat → Value) (k : Nat) (wr : World) : Prop :=
  ∃ (P' : Nat → Value) (f : Nat → Int) (cur : Array Value), wr.heap[gp]? = some (.cells (vals n P') 22) ∧ (∀ r, k ≤ r → r < n → P' r = P r) ∧ wr.heap[g]? = some (.cells cur 5) ∧ (∀ j, j < len → cur[j]? = some (.int .u8 (f j))) ∧ Kp2 g gp w wr
theorem Wq.below {w : World} {g gp n len : Nat} {P : Nat → Value} {k : Nat} {wr wr' : World} (h : Wq w g gp n len P k wr) (hb : Below wr.heap.size wr wr') : Wq w g gp n len P k wr' := by
  obtain ⟨P', f, cur, h1, h2, h3, h4, h5⟩ := h
  have z1 := (Array.getElem?_eq_some_iff.1 h1).1
  have z3 := (Array.getElem?_eq_some_iff.1 h3).1
  exact ⟨P', f, cur, (hb.block _ z1).trans h1, h2, (hb.block _ z3).trans h3, h4, h5.trans (Kp2.ofBelow hb)⟩
theorem Wq.byte {w : World} {g gp n len : Nat} {P : Nat → Value} {k : Nat} {wr : World} (h : Wq w g gp n len P k wr) (hne : g ≠ gp) (j : Nat) (v : Int) (hj : j < len) : Wq w g gp n len P k (wr.setCell ⟨g, j, none⟩ (.int .u8 v)) := by
  obtain ⟨P', f, cur, h1, h2, h3, h4, h5⟩ := h
  refine ⟨P', fun i => if i = j then v else f i, cur.setIfInBounds j (.int .u8 v), (heap_set_other (fun e => hne e.symm)).trans h1, h2, row_set h3 j _, fun i hi => ?_, h5.trans (Kp2.setG _ _ _)⟩
  have hz : i < cur.size := (Array.getElem?_eq_some_iff.1 (h4 i hi)).1
  rw [Array.getElem?_setIfInBounds]
  dsimp only
  by_cases e : j = i
  · subst e
    rw [if_pos rfl, if_pos hz, if_pos rfl]
  · rw [if_neg e, if_neg (fun e' => e e'.symm)]
    exact h4 i hi
theorem Wq.part {w : World} {g gp n len : Nat} {P : Nat → Value} {k : Nat} {wr : World} (h : Wq w g gp n len P k wr) (hne : g ≠ gp) (v : Value) : Wq w g gp n len P (k + 1) (wr.setCell ⟨gp, k, none⟩ v) := by
  obtain ⟨P', f, cur, h1, h2, h3, h4, h5⟩ := h
  refine ⟨fun i => if i = k then v else P' i, f, cur, ?_, fun r hr hn => ?_, (heap_set_other hne).trans h3, h4, h5.trans (Kp2.setP _ _ _)⟩
  · rw [row_set h1 k v, vals_set]
  · dsimp only
    rw [if_neg (by omega)]
    exact h2 r (by omega) hn
theorem Wq.at {w : World} {g gp n len : Nat} {P : Nat → Value} {k : Nat} {wr : World} (h : Wq w g gp n len P k wr) (hk : k < n) : wr.cell? ⟨gp, k, none⟩ = some (P k) ∧ wr.frozen? ⟨gp, k, none⟩ = false := by
  obtain ⟨P', f, cur, h1, h2, h3, h4, h5⟩ := h
  exact ⟨by rw [vals_cell h1 k hk, h2 k (Nat.le_refl _) hk], row_frozen h1 k⟩
theorem Wq.cell {w : World} {g gp n len : Nat} {P : Nat → Value} {k : Nat} {wr : World} (h : Wq w g gp n len P k wr) : ∃ f : Nat → Int, ∀ j, j < len → wr.cell? ⟨g, j, none⟩ = some (.int .u8 (f j)) ∧ wr.frozen? ⟨g, j, none⟩ = false := by
  obtain ⟨P', f, cur, h1, h2, h3, h4, h5⟩ := h
  exact ⟨f, fun j hj => ⟨by rw [cell_of_row wr g j cur _ (0, 0) h3]; exact h4 j hj, row_frozen h3 j⟩⟩

set_option maxRecDepth 20000 in
set_option maxHeartbeats 2000000 in
theorem wipe2_any (g gp n len : Nat) (P : Nat → Value) (w : World) (h : Wq w g gp n len P 0 w) (hne : g ≠ gp) (hlen : len ≤ 140737488351232) (hn : n ≤ 9223372036854775807)
    (hP : ∀ r, r < n → ∃ x L, P r = .slice (some ⟨g, x, none⟩) L L ∧ x + L ≤ len) :
    Calls Try.prog 11 #[.slice (some ⟨gp, 0, none⟩) n n] w fun e w' => e = .returned (.tuple #[]) ∧ Kp2 g gp w w' := by
  have HP := hid hP
  have HW := hid h
  have HNE := hid hne
  clear hP h hne
  go_enter Try.func11, Try.ntmps11
  go_wp2
  go_loopw [2, 3] (fun i _ wr => ∃ k : Nat, k ≤ n ∧ i = .int .i64 k ∧ Wq w g gp n len P k wr) (fun i _ _ => n - (intOf i).toNat)
  case atStart => exact ⟨0, by omega, rfl, HW.out⟩
  case round =>
    obtain ⟨k, hk, rfl, hw⟩ := hrel
    by_cases hkn : k < n
    · obtain ⟨x, L, eP, hxl⟩ := HP.out k hkn
      have k1 : (k : Int) < (n : Int) := by omega
      have k2 : (0 : Int) ≤ (k : Int) := by omega
      have HW1 := hid hw
      have EP := hid eP
      clear hw eP
      go_wp2
      go_loopw [3] (fun j wr => ∃ q : Nat, q ≤ L ∧ j = .int .i64 q ∧ Wq w g gp n len P k wr) (fun j _ => L - (intOf j).toNat)
      case atStart => exact ⟨0, by omega, rfl, HW1.out⟩
      case round =>
        obtain ⟨q, hq, rfl, hw⟩ := hrel
        obtain ⟨cp, fp⟩ := hw.at hkn
        rw [EP.out] at cp
        by_cases hql : q < L
        · obtain ⟨f, hf⟩ := hw.cell
          obtain ⟨cb, fb⟩ := hf (x + q) (by omega)
          have q1 : (q : Int) < (L : Int) := by omega
          have q2 : (0 : Int) ≤ (q : Int) := by omega
          have q3 : (L : Int) ≤ 140737488351232 := by omega
          have HW2 := hid hw
          generalize f (x + q) = c at cb
          clear hw hf
          go_wp2
          go_region_with fail
          all_goals
            go_wp2
            go_roundw
            case rel => exact ⟨q + 1, by omega, by go_num, (HW2.out.byte HNE.out (x + q) _ (by omega)).below (Below.refl _ _).drew⟩
            case measure => simp [intOf]; omega
        · have q1 : ¬ (q : Int) < (L : Int) := by omega
          obtain ⟨f, hf⟩ := hw.cell
          have hgs : g < wr.heap.size := by
            obtain ⟨_, _, _, _, _, h3, _⟩ := hw
            exact (Array.getElem?_eq_some_iff.1 h3).1
          have HOLD : Hid (∀ b : Addr, some (⟨g, x, none⟩ : Addr) = some b → ∀ j u, (bl (fun j => f (x + j)) L)[j]? = some u → (wr.alloc (.cells #[.int .u8 7] 5)).cell? (b.add j) = some u) := by
            intro b e j u hj
            cases e
            obtain ⟨h1, rfl⟩ := bl_get _ _ j u hj
            rw [addr_add]
            exact (below_cell ((Below.refl wr.heap.size wr).alloc (Nat.le_refl _) _) hgs).trans (hf (x + j) (by omega)).1
          have HW2 := hid hw
          clear hw hf
          obtain ⟨i, hi, hz0, hz1, hz2⟩ := info_parts info8
          have HI := hid (And.intro hi (And.intro hz0 (And.intro hz1 hz2)))
          clear hi hz0 hz1 hz2
          go_wp2_with (at_builtin; refine wpList_append_grows _ rfl _ _ 22 rfl 5 i (.int .u8 0) 1 1 Try.underlying22 HI.out.1 HI.out.2.1 HI.out.2.2.1 HI.out.2.2.2 rfl (by decide) (some ⟨g, x, none⟩) L L (bl (fun j => f (x + j)) L) rfl (fun e => by cases e) (by rw [bl_len]; omega) HOLD.out ⟨wr.heap.size, 0, none⟩ 1 1 [.int .u8 7] rfl rfl (cell_one_new _ _ _) (fun u hu => by simp at hu; subst hu; rfl) (by omega) (by unfold maxLen; omega) (by omega) ?_; intro v6 w6 ho6 hg6; obtain ⟨g6, c6, rfl⟩ := owns_pos ho6 (by omega); have HW6 := hid (HW2.out.below ⟨hg6.os, hg6.tape, hg6.output, by have := hg6.size; simp at this; omega, fun k hk => (hg6.block k (by simp; omega) (by simp)).trans (heap_old hk)⟩); obtain ⟨cp6, fp6⟩ := HW6.out.at hkn; rw [EP.out] at cp6; clear ho6 hg6)
          go_roundw
          case rel => exact ⟨k + 1, by omega, by go_num, HW6.out.part HNE.out _⟩
          case measure => simp [intOf]; omega
    · have ek : k = n := by omega
      subst ek
      obtain ⟨P', f, cur, h1, h2, h3, h4, h5⟩ := hw
      have HB := hid h5
      clear h1 h2 h3 h4 h5
      go_wp2
      refine bodyPost_end (results_none rfl _ _ _) rfl ?_
      exact ⟨rfl, HB.out⟩


set_option maxRecDepth 20000 in
theorem wipe_zero (a : Option Addr) (c : Nat) (w : World) :
    Calls Try.prog 11 #[.slice a 0 c] w fun e w' => e = .returned (.tuple #[]) ∧ Below w.heap.size w w' := by
  go_enter Try.func11, Try.ntmps11
  go_wp2
  go_loopw [2, 3] (fun i _ wr => i = .int .i64 0 ∧ wr = w) (fun _ _ _ => 0)
  case atStart => exact ⟨rfl, rfl⟩
  case round =>
    obtain ⟨rfl, rfl⟩ := hrel
    go_wp2
    refine bodyPost_end (results_none rfl _ _ _) rfl ?_
    exact ⟨rfl, Below.refl _ _⟩

set_option maxRecDepth 20000 in
set_option maxHeartbeats 1000000 in
theorem equal_row (m : Nat → Int) (ao : Option Addr) (len cap s n : Nat) (w : World) (hb : Bys w ao len cap m) (hlen : len ≤ 140737488351232) (hs1 : 1 ≤ s) (hsb : s ≤ 9223372036854775807) (hn : len = n * s) (hnb : n ≤ 1000000000000) :
    Calls Try.prog 13 #[.slice ao len cap, .int .i64 s] w fun e w' => ∃ ga gp, e = .returned (.slice (some ⟨gp, 0, none⟩) n n) ∧ w.heap.size ≤ gp ∧ (0 < len → ∃ g, ga = some ⟨g, 0, none⟩ ∧ w.heap.size ≤ g ∧ Row8 w' g ∧ g ≠ gp ∧ ∀ j, j < len → w'.cell? ⟨g, j, none⟩ = some (.int .u8 (m j))) ∧ w'.heap[gp]? = some (.cells (vals n fun i => pc ga (i * s) ((i + 1) * s)) 22) ∧ Below w.heap.size w w' := by
  have hcl := clone_any m ao len cap w hb hlen
  have HCL := hid hcl
  have q1 : (len : Int) / (s : Int) = (n : Int) := by
    rw [hn, Int.natCast_mul]
    exact Int.mul_ediv_cancel _ (by omega)
  have q2 : (len : Int).tdiv (s : Int) = (n : Int) := by rw [Int.tdiv_eq_ediv_of_nonneg (by omega)]; exact q1
  have q3 : ¬ (s : Int) = 0 := by omega
  have q4 : (len : Int) ≤ 140737488351232 := by omega
  have q5 : ¬ (s : Int) = -1 := by omega
  have HN := hid hn
  clear hcl hb hn
  go_enter Try.func13, Try.ntmps13
  go_upto_region 2 with (go_at_call 18; refine HCL.out.mono ?_; rintro e w1 ⟨v, rfl, ho1, hb1⟩)
  obtain ⟨ga, C, hv, hlC, hrow⟩ := own_whole ho1
  subst hv
  have HROW := hid hrow
  have HRW : Hid (∀ g, ga = some ⟨g, 0, none⟩ → Row8 w1 g) := fun g e => by subst e; exact own_row ho1
  have HB1 := hid hb1
  clear hrow ho1 hb1
  go_wp2_with (at_make; refine wpList_make_parts _ rfl _ _ rfl n rfl rfl hnb ?_; intro f0 w2 hr2 hb2 hz2; have HR2 := hid hr2; have HB2 := hid hb2; have HZ2 := hid hz2; clear hr2 hb2 hz2)
  obtain ⟨gp, egp⟩ : ∃ x, w1.heap.size = x := ⟨_, rfl⟩
  rw [egp] at HR2 HB2 HZ2 ⊢
  have HGP := hid egp
  clear egp q1 q2
  go_loopw [17] (fun i wr => ∃ k : Nat, k ≤ n ∧ i = .int .i64 k ∧ wr.heap[gp]? = some (.cells (vals n fun i => if i < k then pc ga (i * s) ((i + 1) * s) else f0 i) 22) ∧ gp < wr.heap.size ∧ Below gp w1 wr) (fun i _ => n - (intOf i).toNat)
  case atStart =>
    refine ⟨0, by omega, rfl, ?_, HZ2.out, HB2.out⟩
    rw [HR2.out]
    exact congrArg (fun c => some (Obj.cells c 22)) (vals_congr fun i hi => by rw [if_neg (by omega)])
  case round =>
    obtain ⟨k, hk, rfl, hr, hz, hb⟩ := hrel
    clear HR2 HB2 HZ2
    by_cases hkn : k < n
    · obtain ⟨KS, eKS⟩ : ∃ x, k * s = x := ⟨_, rfl⟩
      obtain ⟨KT, eKT⟩ : ∃ x, (k + 1) * s = x := ⟨_, rfl⟩
      have hle : KT ≤ len := by rw [← eKT, HN.out]; exact Nat.mul_le_mul_right _ (by omega)
      have hst : KT = KS + s := by rw [← eKT, ← eKS, Nat.add_mul, Nat.one_mul]
      have e1 : (k : Int) * (s : Int) = (KS : Int) := by rw [← eKS, Int.natCast_mul]
      have e2 : ((k : Int) + 1) * (s : Int) = (KT : Int) := by rw [← eKT, Int.natCast_mul, Int.natCast_add]; rfl
      have hpc := piece_any ga len C KS KT
      have HPC := hid (fun w => hpc w (by omega) (by omega))
      obtain ⟨PA, PL, eP⟩ : ∃ PA PL, pc ga KS KT = .slice PA PL PL := ⟨_, _, rfl⟩
      rw [eP] at HPC
      have HP := hid eP
      have cw := vals_cell hr k hkn
      have fw := row_frozen hr k
      obtain ⟨u, eu⟩ : ∃ u, (if k < k then pc ga (k * s) ((k + 1) * s) else f0 k) = u := ⟨_, rfl⟩
      rw [eu] at cw
      have HR := hid hr
      have HB := hid hb
      have HZ := hid hz
      have HK := hid (And.intro eKS eKT)
      have k1 : (k : Int) < (n : Int) := by omega
      have k2 : (0 : Int) ≤ (k : Int) := by omega
      have k3 : (KS : Int) ≤ 140737488351232 := by omega
      have k4 : (KT : Int) ≤ 140737488351232 := by omega
      clear hr hb hz hpc eP eu eKS eKT hle hst
      go_wp2_with (go_at_call 27; refine (HPC.out _).mono ?_; rintro e w3 ⟨rfl, rfl⟩)
      go_roundw
      case rel =>
        refine ⟨k + 1, by omega, by go_num, ?_, by rw [size_set]; exact HZ.out, HB.out.setCell (by simp) _⟩
        refine (row_set HR.out k _).trans ?_
        rw [vals_set]
        refine congrArg (fun c => some (Obj.cells c 22)) (vals_congr fun i hi => ?_)
        by_cases hik : i = k
        · subst hik
          rw [if_pos rfl, if_pos (by omega), HK.out.1, HK.out.2, HP.out]
        · rw [if_neg hik]
          by_cases h2 : i < k
          · rw [if_pos h2, if_pos (by omega)]
          · rw [if_neg h2, if_neg (by omega)]
      case measure => simp [intOf]; omega
    · have ek : k = n := by omega
      subst ek
      have hr' : wr.heap[gp]? = some (.cells (vals k fun i => pc ga (i * s) ((i + 1) * s)) 22) := by
        rw [hr]
        exact congrArg (fun c => some (Obj.cells c 22)) (vals_congr fun i hi => by rw [if_pos hi])
      have hb1 := HB1.out
      have hz1 := hb1.size
      have egp := HGP.out
      have HX : Hid (w.heap.size ≤ gp ∧ (0 < len → ∃ g, ga = some ⟨g, 0, none⟩ ∧ w.heap.size ≤ g ∧ Row8 wr g ∧ g ≠ gp ∧ ∀ j, j < len → wr.cell? ⟨g, j, none⟩ = some (.int .u8 (m j))) ∧ wr.heap[gp]? = some (.cells (vals k fun i => pc ga (i * s) ((i + 1) * s)) 22) ∧ Below w.heap.size w wr) := by
        refine ⟨by omega, fun h => ?_, hr', hb1.trans (hb.mono (by omega))⟩
        obtain ⟨g, x1, x2, x3, x4⟩ := HROW.out h
        exact ⟨g, x1, x2, row8_kept (HRW.out g x1) (hb.block g (by omega)), by omega, fun j hj => (below_cell hb (by omega)).trans (x4 j hj)⟩
      clear hr hr' hb hz hb1 hz1 egp
      go_wp2
      go_ret
      exact ⟨ga, gp, rfl, HX.out⟩


set_option maxRecDepth 20000 in
set_option maxHeartbeats 1000000 in
theorem each_row (m : Nat → Int) (ao : Option Addr) (len cap s n : Nat) (most : Int) (w : World) (hb : Bys w ao len cap m) (hlen : len ≤ 140737488351232) (hs1 : 1 ≤ s) (hsb : s ≤ 9223372036854775807) (hn : len = n * s) (hnb : n ≤ 1000000000000) (hm : (n : Int) ≤ most) (hm1 : most ≤ 9223372036854775807) :
    Calls Try.prog 5 #[.slice ao len cap, .int .i64 s, .int .i64 most] w fun e w' => ∃ ga gp, e = .returned (.tuple #[.slice (some ⟨gp, 0, none⟩) n n, .int .i64 0]) ∧ w.heap.size ≤ gp ∧ (0 < len → ∃ g, ga = some ⟨g, 0, none⟩ ∧ w.heap.size ≤ g ∧ Row8 w' g ∧ g ≠ gp ∧ ∀ j, j < len → w'.cell? ⟨g, j, none⟩ = some (.int .u8 (m j))) ∧ w'.heap[gp]? = some (.cells (vals n fun i => pc ga (i * s) ((i + 1) * s)) 22) ∧ Below w.heap.size w w' := by
  have heq := equal_row m ao len cap s n w hb hlen hs1 hsb hn hnb
  have HEQ := hid heq
  have hn' : (len : Int) = (n : Int) * (s : Int) := by rw [hn, Int.natCast_mul]
  have q2 : ¬ (s : Int) = 0 := by omega
  have q0 : (len : Int) % (s : Int) = 0 := by rw [hn']; exact Int.mul_emod_left _ _
  have q1 : (len : Int).tmod (s : Int) = 0 := by rw [Int.tmod_eq_emod_of_nonneg (by omega)]; exact q0
  have q3 : ¬ (s : Int) = -1 := by omega
  have q4 : (len : Int) ≤ 140737488351232 := by omega
  have q5 : (len : Int) / (s : Int) = (n : Int) := by rw [hn']; exact Int.mul_ediv_cancel _ q2
  have q6 : (len : Int).tdiv (s : Int) = (n : Int) := by rw [Int.tdiv_eq_ediv_of_nonneg (by omega)]; exact q5
  have q7 : ¬ (s : Int) < 1 := by omega
  have q8 : ¬ most < 0 := by omega
  have q9 : ¬ most < (n : Int) := by omega
  have q10 : ¬ s = 0 := by omega
  have q11 : 1 ≤ s := by omega
  clear hn hn' heq hb
  go_enter Try.func5, Try.ntmps5
  go_wp2
  refine wp_scope_jumps 0 (fun _ _ => False) (fun _ _ => 0) rfl ?_ (fun _ _ h => h.elim)
  go_wp2_with (go_at_call 13; refine HEQ.out.mono ?_; rintro e w1 ⟨ga, gp, rfl, x⟩)
  simp only [Exit.jump]
  go_ret2
  exact ⟨ga, gp, rfl, x⟩


attribute [local go_sem ↓] sl22_eq

set_option maxRecDepth 20000 in
set_option maxHeartbeats 1000000 in
theorem many_row (m : Nat → Int) (ao : Option Addr) (len cap n : Nat) (most : Int) (w : World) (hb : Bys w ao len cap m) (hm : ∀ j, j < len → 0 ≤ m j ∧ m j < 256) (hlen : len ≤ 140737488351232) (hlc : len ≤ cap) (hcap : cap ≤ 9223372036854775807)
    (hn1 : 1 ≤ n) (hfi : o4 m 0 = ((4 * n : Nat) : Int)) (hfl : 4 * n ≤ len) (hmo0 : (n : Int) ≤ most) (hmo1 : most ≤ 9223372036854775807) (os : Nat → Nat) (hos : ∀ i, i < n → o4 m (4 * i) = (os i : Int))
    (hle : ∀ i, i < n → os i ≤ len) (hmo : ∀ i, i + 1 < n → os i ≤ os (i + 1)) :
    Calls Try.prog 8 #[.slice ao len cap, .int .i64 most] w fun e w' => ∃ g C gp, e = .returned (.tuple #[.slice (some ⟨gp, 0, none⟩) n n, .int .i64 0]) ∧ w.heap.size ≤ g ∧ w.heap.size ≤ gp ∧ (∀ j, j < len → w'.cell? ⟨g, j, none⟩ = some (.int .u8 (m j))) ∧ Row8 w' g ∧ len ≤ C ∧ w'.heap[gp]? = some (.cells (vals n (prts (some ⟨g, 0, none⟩) os len n)) 22) ∧ g ≠ gp ∧ Below w.heap.size w w' := by
  have ho4 := o4_bd m 0 (fun j _ h => hm j (by omega))
  have hnb : n ≤ 1000000000000 := by omega
  obtain ⟨b1, o1, hA1, hq1, hq2, hq3, hq4⟩ := bys_pos hb (by omega)
  have hro := readoff_any m b1 o1 len cap w (fun j hj => hq4 j (by omega)) (fun j hj => hm _ (by omega)) (by omega) hq3
  rw [hfi] at hro
  obtain ⟨F, eF⟩ : ∃ F, 4 * n = F := ⟨_, rfl⟩
  rw [eF] at hro
  obtain ⟨A2, hA2, hp2⟩ := sl_upto ao len cap F m (by omega) hlc
  have f1 : ¬ (F : Int) = 0 := by omega
  have f2 : (F : Int) % 4 = 0 := by omega
  have f3 : ¬ (len : Int) < (F : Int) := by omega
  have f3n : ¬ len < F := by omega
  have f3m : F ≤ len := by omega
  have f4 : (F : Int) / 4 = (n : Int) := by omega
  have f5 : ¬ most < (n : Int) := by omega
  have f6 : ¬ most < 0 := by omega
  have f7 : (0 : Int) ≤ most := by omega
  have f8 : (4 : Int) ≤ (len : Int) := by omega
  have f9 : (len : Int) ≤ 140737488351232 := by omega
  have f10 : (F : Int).tmod 4 = 0 := by rw [Int.tmod_eq_emod_of_nonneg (by omega)]; exact f2
  have f11 : (F : Int).tdiv 4 = (n : Int) := by rw [Int.tdiv_eq_ediv_of_nonneg (by omega)]; exact f4
  have HRO := hid hro
  have HA : Hid (Bys w ao len cap m ∧ (∀ j, j < len → 0 ≤ m j ∧ m j < 256) ∧ 4 * n = F ∧ (∀ W, Bys W ao len cap m → Bys W A2 F cap m)) := ⟨hb, hm, eF, hp2⟩
  have HOS := hid hos
  have HLE := hid hle
  have HMO := hid hmo
  have HFL := hid hfl
  subst hA1
  clear hb hm hq1 hq2 hq3 hq4 hro hp2 eF hos hle hmo hfi ho4 hfl
  go_enter Try.func8, Try.ntmps8
  go_wp2
  refine wp_scope_jumps 0 (fun _ _ => False) (fun _ _ => 0) rfl ?_ (fun _ _ h => h.elim)
  go_upto_region 15 with (go_at_call 14; refine HRO.out.mono ?_; rintro e w1 ⟨rfl, hb1⟩)
  obtain ⟨hb, hm, eF, hp2⟩ := HA.out
  have hfl := HFL.out
  have hrs := readoffs_any m A2 F cap n w1 (hp2 w1 (hb.below hb1)) (fun j hj => hm j (by omega)) (by omega) eF.symm hnb
  obtain ⟨go, ego⟩ : ∃ x, w1.heap.size = x := ⟨_, rfl⟩
  rw [ego] at hrs
  have HRS := hid hrs
  have HB1 := hid hb1
  have HGO := hid ego
  clear hb hm eF hp2 hrs hb1 ego hfl
  go_upto_region 16 with (go_at_call 15; refine HRS.out.mono ?_; rintro e w2 ⟨rfl, hr2, hb2⟩)
  obtain ⟨hb, hm, eF, hp2⟩ := HA.out
  have hb1 := HB1.out
  have ego := HGO.out
  have hfl := HFL.out
  have hz1 := hb1.size
  have hB2 : Below w.heap.size w w2 := hb1.trans (hb2.mono (by omega))
  have hgo := (Array.getElem?_eq_some_iff.1 hr2).1
  have hnm : Nms .u64 w2 (some ⟨go, 0, none⟩) n (fun i => (os i : Int)) := .inr ⟨go, 0, rfl, hgo, fun j hj => by rw [Nat.zero_add, vals_cell hr2 j hj, HOS.out j hj]⟩
  have hord := ordB_true (os := fun i => (os i : Int)) (L := (len : Int)) (n := n) (fun i hi => by
    unfold ordAt
    dsimp only
    have h1 := HLE.out i hi
    by_cases h0 : i = 0
    · rw [if_pos h0]; omega
    · rw [if_neg h0]
      have h2 := HMO.out (i - 1) (by omega)
      rw [show i - 1 + 1 = i by omega] at h2
      omega)
  have hio := inorder_any (fun i => (os i : Int)) (some ⟨go, 0, none⟩) n n len w2 hnm (by omega) (fun i hi => by have := HLE.out i hi; omega) (by omega)
  rw [hord] at hio
  have hcl := clone_any m (some ⟨b1, o1, none⟩) len cap w2 (hb.below hB2) hlen
  have HIO := hid hio
  have HCL := hid hcl
  have H2 : Hid (Below w.heap.size w w2 ∧ Nms .u64 w2 (some ⟨go, 0, none⟩) n (fun i => (os i : Int)) ∧ 0 < len) := ⟨hB2, hnm, by omega⟩
  clear hb hm eF hp2 hb1 ego hz1 hB2 hgo hnm hord hio hcl hr2 hb2 hfl
  go_wp2_with (first
    | (go_at_call 16; refine HIO.out.mono ?_; rintro e w3 ⟨rfl, rfl⟩)
    | (go_at_call 18; refine HCL.out.mono ?_; rintro e w4 ⟨v, rfl, ho4, hb4⟩; obtain ⟨g, C, hv⟩ := owns_pos ho4 (H2.out).2.2; subst hv; have hlo := hid (loose_any (some ⟨g, 0, none⟩) len C os (some ⟨go, 0, none⟩) n n w4 ((H2.out).2.1.below hb4) hnb (own_cells ho4).2.2.1 (by omega) HLE.out HMO.out); have HO4 := hid ho4; have HB4 := hid hb4; clear ho4 hb4)
    | (go_at_call 17; refine hlo.out.mono ?_; rintro e w5 ⟨rfl, hr5, hb5⟩))
  simp only [Exit.jump]
  go_ret2
  obtain ⟨c1, c2, c3, c4, c5⟩ := own_cells HO4.out
  have hz2 := (H2.out).1.size
  have hz4 := (HB4.out).size
  have hz5 := hb5.size
  exact ⟨g, C, _, rfl, by omega, by omega, fun j hj => (below_cell hb5 c2).trans (c5 j hj), row8_kept (own_row HO4.out) (hb5.block g c2), c3, hr5, by omega, ((H2.out).1.trans ((HB4.out).mono hz2)).trans (hb5.mono (by omega))⟩


end Go.Proofs.Ytfhplpcbaoefeaa
