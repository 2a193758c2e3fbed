/-
  What swapPairs and List answer.
-/

import Derived.Test.YtenhgoclfljjlaaDoorVfD
import Derived.BigRegion

import Derived.ScopeJumps

import Derived.Laws.MakeOwn

import Derived.Laws.CopyRow

namespace Go.Proofs.YtenhgoclfljjlaaDoor

open Go.RowKit

set_option linter.unusedVariables false

set_option linter.unusedSimpArgs false

theorem Kept.thenBelow {g : Nat} {a b c : World} (h : Kept g a b) (hb : Below b.heap.size b c) : Kept g a c := h.trans (Kept.ofBelow hb)

/-- What stands while the places of a list go through a round: the list's block g, the seed's block, the source's block y. -/
structure SwI (w : World) (g b y n : Nat) (s F : Nat → Int) (X : Nat → Int) (wr : World) : Prop where
  kept : Kept g w wr
  row : wr.heap[g]? = some (.cells (vs .u64 n F) 22)
  seed : wr.heap[b]? = some (.cells (vs .u8 32 s) 24)
  src : wr.heap[y]? = some (.cells (vs .u8 32 X) 24)

theorem SwI.below {w : World} {g b y n : Nat} {s F X : Nat → Int} {wr wr' : World} (h : SwI w g b y n s F X wr) (hb : Below wr.heap.size wr wr') : SwI w g b y n s F X wr' :=
  ⟨h.kept.thenBelow hb, (hb.block _ (Array.getElem?_eq_some_iff.1 h.row).1).trans h.row, (hb.block _ (Array.getElem?_eq_some_iff.1 h.seed).1).trans h.seed, (hb.block _ (Array.getElem?_eq_some_iff.1 h.src).1).trans h.src⟩

theorem SwI.setSrc {w : World} {g b y n : Nat} {s F X : Nat → Int} {wr : World} (h : SwI w g b y n s F X wr) (hy : w.heap.size ≤ y) (h1 : g ≠ y) (h2 : b ≠ y) (Y : Nat → Int) : SwI w g b y n s F Y (wr.setRow y (vs .u8 32 Y)) :=
  ⟨h.kept.setNew hy _, (setRow_other wr y g _ h1).trans h.row, (setRow_other wr y b _ h2).trans h.seed, setRow_at h.src⟩

theorem SwI.setCell {w : World} {g b y n : Nat} {s F X : Nat → Int} {wr : World} (h : SwI w g b y n s F X wr) (h1 : g ≠ y) (h2 : g ≠ b) (k : Nat) (v : Int) : SwI w g b y n s (fun j => if j = k then v else F j) X (wr.setCell ⟨g, k, none⟩ (.int .u64 v)) :=
  ⟨h.kept.setCell _ _, by rw [row_set h.row, vs_set], (heap_set_other (Ne.symm h2)).trans h.seed, (heap_set_other (Ne.symm h1)).trans h.src⟩

theorem SwI.drew {w : World} {g b y n : Nat} {s F X : Nat → Int} {wr : World} (h : SwI w g b y n s F X wr) : SwI w g b y n s F X wr.drew := ⟨h.kept.drew, h.row, h.seed, h.src⟩

theorem SwI.congr {w : World} {g b y n : Nat} {s F F' X : Nat → Int} {wr : World} (h : SwI w g b y n s F X wr) (hF : ∀ j, j < n → F j = F' j) : SwI w g b y n s F' X wr :=
  ⟨h.kept, by rw [h.row, vs_congr hF], h.seed, h.src⟩

attribute [local go_sem ↓] sv24_eq lv24_eq sv8_eq

set_option maxRecDepth 20000 in
set_option maxHeartbeats 2000000 in
theorem swap_any (s : Nat → Int) (r : Int) (g n : Nat) (f : Nat → Int) (w : World) (hs : ∀ j, j < 32 → 0 ≤ s j ∧ s j < 256) (hr : 0 ≤ r ∧ r < 256) (hn0 : 0 < n) (hn1 : n ≤ 65536) (hg : w.heap[g]? = some (.cells (vs .u64 n f) 22)) (hS : Sh w) (g0 : 0 ≠ g) (g1 : 2 ≠ g) :
    Calls Tryd.prog 30 #[.slice (some ⟨g, 0, none⟩) n n, .agg (vs .u8 32 s), .int .u8 r] w fun e w' => e = .returned (.tuple #[]) ∧ Kept g w w' ∧ w'.heap[g]? = some (.cells (vs .u64 n fun j => f (rdV s r n j).toNat) 22) := by
  have zg : g < w.heap.size := (Array.getElem?_eq_some_iff.1 hg).1
  obtain ⟨W0, hW0⟩ : ∃ W, w.alloc (.cells (vs .u8 32 s) 24) = W := ⟨_, rfl⟩
  have r0 : W0.heap[w.heap.size]? = some (.cells (vs .u8 32 s) 24) := by rw [← hW0]; exact heap_new rfl
  have hB0 : Below w.heap.size w W0 := by rw [← hW0]; exact (Below.refl _ _).alloc (Nat.le_refl _) _
  have z0 : w.heap.size < W0.heap.size := (Array.getElem?_eq_some_iff.1 r0).1
  have hpv := pivot_any s r n W0 hs hr (by omega) (by omega) (hS.below hB0)
  obtain ⟨p0, p1⟩ := pv_bd s r (n := (n : Int)) (by omega)
  have hend : ∀ j, j < n → swV (rdB s r) (pv s r n) n f n j = f (rdV s r n j).toNat := fun j hj => swV_end (rdB s r) f p0 p1 hj
  obtain ⟨P, hP⟩ : ∃ P, pv s r n = P := ⟨_, rfl⟩
  rw [hP] at hpv p0 p1 hend
  have hso : ∀ (k : Nat) (W : World), k < n → Kept g w W → Calls Tryd.prog 41 #[.int .u64 (k : Int), .agg (vs .u8 32 s), .int .u8 r] W fun e w' => e = .returned (.agg (vs .u8 32 (srcV s r ((k / 256 : Nat) : Int)))) ∧ Below W.heap.size W w' := fun k W hk hW => by
    have h := source_any s r k W hs hr (by omega) (by omega) (hS.kept hW g0 g1)
    rwa [show (k : Int) / 256 = ((k / 256 : Nat) : Int) by omega] at h
  have hfl : ∀ (k : Nat) (W : World), k < n → Calls Tryd.prog 42 #[.int .u64 (k : Int), .int .u64 (n : Int), .int .u64 P] W fun e w' => e = .returned (.int .u64 (fl k n P)) ∧ w' = W := fun k W hk => flip_any k n P W (by omega) (by omega) (by omega) p0 p1
  have his : ∀ (k : Nat) (W : World), k < n → Calls Tryd.prog 43 #[.agg (vs .u8 32 (srcV s r ((k / 256 : Nat) : Int))), .int .u64 (k : Int)] W fun e w' => e = .returned (.bool (rdB s r k)) ∧ Below W.heap.size W w' := fun k W hk => by
    have h := isset_any (srcV s r ((k / 256 : Nat) : Int)) k W (fun j _ => shaV_bd ..) (by omega) (by omega)
    unfold rdB
    rwa [show (k : Int) / 256 = ((k / 256 : Nat) : Int) by omega]
  have z := zero_root
  have nw : IntKind.u64.wrap (n : Int) = (n : Int) := by rw [IntKind.wrap_u64]; omega
  have l0 := lv24_run r0
  have rg : W0.heap[g]? = some (.cells (vs .u64 n f) 22) := (hB0.block _ zg).trans hg
  have HPV := hid hpv
  have HSO := hid hso
  have HFL := hid hfl
  have HIS := hid his
  have HEND := hid hend
  have HW0 := hid hW0
  have HB0 := hid hB0
  have HR0 := hid (And.intro r0 rg)
  clear hpv hso hfl his hend hW0 hB0 r0 rg hs hr hS hg hP g0 g1
  go_enter Tryd.func30, Tryd.ntmps30
  go_upto_region 1 with fail
  rw [HW0.out]
  clear HW0
  go_upto_region 4 with (go_at_call 40; refine HPV.out.mono ?_; rintro e w1 ⟨rfl, hb1⟩)
  have z1 := hb1.size
  obtain ⟨y, ey⟩ : ∃ y, w1.heap.size = y := ⟨_, rfl⟩
  have hI : SwI w g w.heap.size y n s f (fun _ => 0) (w1.alloc (.cells (vs .u8 32 fun _ => 0) 24)) := by
    have hBn : Below w1.heap.size w1 (w1.alloc (.cells (vs .u8 32 fun _ => 0) 24)) := (Below.refl _ _).alloc (Nat.le_refl _) _
    refine ⟨(Kept.ofBelow (HB0.out.trans ((hb1.mono (by omega)).trans (hBn.mono (by omega))))), ?_, ?_, heap_new ey.symm⟩
    · exact (hBn.block _ (by omega)).trans ((hb1.block _ (by omega)).trans HR0.out.2)
    · exact (hBn.block _ (by omega)).trans ((hb1.block _ (by omega)).trans HR0.out.1)
  rw [ey]
  have hy : w.heap.size < y := by omega
  obtain ⟨W1, hW1⟩ : ∃ W, w1.alloc (.cells (vs .u8 32 fun _ => 0) 24) = W := ⟨_, rfl⟩
  rw [hW1] at hI ⊢
  have HI := hid hI
  clear hI hW1 ey z1 hb1 HR0 HB0 HPV l0 z z0
  go_wp2
  go_loopw [19] (fun c wr => ∃ (k : Nat) (X : Nat → Int), k ≤ n ∧ c = .int .u64 k ∧ SwI w g w.heap.size y n s (swV (rdB s r) P n f k) X wr ∧ (¬ k % 256 = 0 → X = srcV s r ((k / 256 : Nat) : Int))) (fun c _ => n - (intOf c).toNat)
  case atStart => exact ⟨0, _, by omega, rfl, HI.out.congr (fun j _ => (swV_zero _ _ _ _ _).symm), fun h => absurd rfl h⟩
  case round =>
    obtain ⟨k, X, hk, rfl, hI, hX⟩ := hrel
    by_cases hkn : k < n
    · obtain ⟨q0, q1⟩ := fl_bd (i := (k : Int)) (n := (n : Int)) (p := P) (by omega) (by omega) p0 p1
      obtain ⟨q, hq⟩ : ∃ q : Nat, fl k n P = (q : Int) := ⟨(fl k n P).toNat, by omega⟩
      have hstay := fun h j hj => swV_stay (rdB s r) (p := P) (n := n) f (k := k) (j := j) p0 p1 hj hkn h
      have hstep := fun h hB j hj => swV_step (rdB s r) (p := P) (n := n) f (k := k) (j := j) (q := q) p0 p1 hj hkn hq h hB
      rw [hq] at q0 q1 hstay
      have hfl := fun W : World => HFL.out k W hkn
      rw [hq] at hfl
      have his := fun W : World => HIS.out k W hkn
      obtain ⟨b, hb⟩ : ∃ b, rdB s r k = b := ⟨_, rfl⟩
      rw [hb] at his hstay hstep
      have hso := fun W (hW : Kept g w W) => HSO.out k W hkn hW
      obtain ⟨Y, hY⟩ : ∃ Y, srcV s r ((k / 256 : Nat) : Int) = Y := ⟨_, rfl⟩
      rw [hY] at his hso hX
      obtain ⟨G, hG⟩ : ∃ G, swV (rdB s r) P n f k = G := ⟨_, rfl⟩
      rw [hG] at hI hstay hstep
      have k1 : (k : Int) < (n : Int) := by omega
      have k2 : (0 : Int) ≤ (k : Int) := by omega
      have k3 : (k : Int) ≤ 65536 := by omega
      have q2 : (q : Int) < (n : Int) := by omega
      have hnx : ¬ (k + 1) % 256 = 0 → Y = srcV s r (((k + 1) / 256 : Nat) : Int) := fun h => by rw [← hY, show (k + 1) / 256 = k / 256 by omega]
      have SO := hid hso
      have FL := hid hfl
      have IS := hid his
      have STAY := hid hstay
      have STEP := hid hstep
      have II := hid hI
      have HX := hid hX
      have NX := hid hnx
      have l0 := lv24_run hI.seed
      clear hso hfl his hstay hstep hI hX hnx hq hb hY hG
      by_cases hm : k % 256 = 0
      · have d0 : ((k : Int) % 256 == 0) = true := by simp; omega
        go_upto_region 9 with (go_at_call 41; refine (SO.out _ II.out.kept).mono ?_; rintro e w2 ⟨rfl, hb2⟩; have v2 := sv24_run (II.out.below hb2).src Y)
        have hJ := (II.out.below hb2).setSrc (by omega) (by omega) (by omega) Y
        obtain ⟨W2, hW2⟩ : ∃ W, w2.setRow y (vs .u8 32 Y) = W := ⟨_, rfl⟩
        rw [hW2] at hJ ⊢
        have ls := lv24_run hJ.src
        have JJ := hid hJ
        clear hJ hW2 v2 hb2 II l0
        by_cases hqk : q < k
        · have d1 : (q : Int) < (k : Int) := by omega
          cases b
          · go_wp2_with (first
              | (go_at_call 42; refine (FL.out _).mono ?_; rintro e w3 ⟨rfl, hw3⟩; obtain rfl := hw3.symm)
              | (go_at_call 43; refine (IS.out _).mono ?_; rintro e w4 ⟨rfl, hb4⟩))
            have hI4 := (JJ.out.below hb4).congr (fun j hj => (STAY.out (fun h => by cases h.2) j hj).symm)
            go_roundw
            case rel => exact ⟨k + 1, Y, by omega, by go_num, hI4, NX.out⟩
            case measure => simp [intOf]; omega
          · go_upto_region 11 with (first
              | (go_at_call 42; refine (FL.out _).mono ?_; rintro e w3 ⟨rfl, hw3⟩; obtain rfl := hw3.symm)
              | (go_at_call 43; refine (IS.out _).mono ?_; rintro e w4 ⟨rfl, hb4⟩))
            have hI4 := JJ.out.below hb4
            have c1 := row_int hI4.row k hkn
            have c2 := row_int hI4.row q (by omega)
            have f1 := row_frozen hI4.row k
            have f2 := row_frozen hI4.row q
            have hfin := ((hI4.setCell (by omega) (by omega) k (G q)).setCell (by omega) (by omega) q (G k)).congr (fun j hj => (STEP.out hqk trivial j hj).symm)
            have hne : ¬ (k : Nat) = q := by omega
            have FIN := hid hfin
            clear hfin hI4 hb4
            go_region
            all_goals
              go_wp2
              go_roundw
              case rel => exact ⟨k + 1, Y, by omega, by go_num, FIN.out.drew, NX.out⟩
              case measure => simp [intOf]; omega
        · have d1 : decide ((q : Int) < (k : Int)) = false := by simp; omega
          go_wp2_with (go_at_call 42; refine (FL.out _).mono ?_; rintro e w3 ⟨rfl, hw3⟩; obtain rfl := hw3.symm)
          have hI4 := JJ.out.congr (fun j hj => (STAY.out (fun h => by have := h.1; omega) j hj).symm)
          go_roundw
          case rel => exact ⟨k + 1, Y, by omega, by go_num, hI4, NX.out⟩
          case measure => simp [intOf]; omega
      · have d0 : ((k : Int) % 256 == 0) = false := by simp; omega
        obtain rfl : Y = X := (HX.out hm).symm
        go_upto_region 9 with fail
        have ls := lv24_run II.out.src
        have JJ := hid II.out
        clear II l0
        by_cases hqk : q < k
        · have d1 : (q : Int) < (k : Int) := by omega
          cases b
          · go_wp2_with (first
              | (go_at_call 42; refine (FL.out _).mono ?_; rintro e w3 ⟨rfl, hw3⟩; obtain rfl := hw3.symm)
              | (go_at_call 43; refine (IS.out _).mono ?_; rintro e w4 ⟨rfl, hb4⟩))
            have hI4 := (JJ.out.below hb4).congr (fun j hj => (STAY.out (fun h => by cases h.2) j hj).symm)
            go_roundw
            case rel => exact ⟨k + 1, Y, by omega, by go_num, hI4, NX.out⟩
            case measure => simp [intOf]; omega
          · go_upto_region 11 with (first
              | (go_at_call 42; refine (FL.out _).mono ?_; rintro e w3 ⟨rfl, hw3⟩; obtain rfl := hw3.symm)
              | (go_at_call 43; refine (IS.out _).mono ?_; rintro e w4 ⟨rfl, hb4⟩))
            have hI4 := JJ.out.below hb4
            have c1 := row_int hI4.row k hkn
            have c2 := row_int hI4.row q (by omega)
            have f1 := row_frozen hI4.row k
            have f2 := row_frozen hI4.row q
            have hfin := ((hI4.setCell (by omega) (by omega) k (G q)).setCell (by omega) (by omega) q (G k)).congr (fun j hj => (STEP.out hqk trivial j hj).symm)
            have hne : ¬ (k : Nat) = q := by omega
            have FIN := hid hfin
            clear hfin hI4 hb4
            go_region
            all_goals
              go_wp2
              go_roundw
              case rel => exact ⟨k + 1, Y, by omega, by go_num, FIN.out.drew, NX.out⟩
              case measure => simp [intOf]; omega
        · have d1 : decide ((q : Int) < (k : Int)) = false := by simp; omega
          go_wp2_with (go_at_call 42; refine (FL.out _).mono ?_; rintro e w3 ⟨rfl, hw3⟩; obtain rfl := hw3.symm)
          have hI4 := JJ.out.congr (fun j hj => (STAY.out (fun h => by have := h.1; omega) j hj).symm)
          go_roundw
          case rel => exact ⟨k + 1, Y, by omega, by go_num, hI4, NX.out⟩
          case measure => simp [intOf]; omega
    · obtain rfl : k = n := by omega
      have II := hid hI
      clear hI hX
      go_wp2
      go_end0
      refine ⟨rfl, II.out.kept, ?_⟩
      rw [II.out.row, vs_congr HEND.out]

end Go.Proofs.YtenhgoclfljjlaaDoor
