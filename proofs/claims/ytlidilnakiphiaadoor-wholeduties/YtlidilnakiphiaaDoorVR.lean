/-
  What swapPairs and List answer.
  What List answers.
  Numbers appended; List whole; the document's List and Same.
-/
import Derived.Test.YtlidilnakiphiaaDoorVQ
import Derived.Test.YtlidilnakiphiaaDoorLkL
import Derived.BigRegion

import Derived.ScopeJumps

import Derived.Laws.MakeOwn

import Derived.Laws.CopyRow

namespace Go.Proofs.YtlidilnakiphiaaDoor

open Go.RowKit

set_option linter.unusedVariables false

set_option linter.unusedSimpArgs false

theorem Kept.thenBelow {g : Nat} {a b c : World} (h : Kept g a b) (hb : Below b.heap.size b c) : Kept g a c := h.trans (Kept.ofBelow hb)

/-- What stands while the places of a list go through a round: the list's block g, the seed's block, the source's block y. -/
structure SwI (w : World) (g b y n : Nat) (s F : Nat → Int) (X : Nat → Int) (wr : World) : Prop where
  kept : Kept g w wr
  row : wr.heap[g]? = some (.cells (vs .u64 n F) 22)
  seed : wr.heap[b]? = some (.cells (vs .u8 32 s) 24)
  src : wr.heap[y]? = some (.cells (vs .u8 32 X) 24)

theorem SwI.below {w : World} {g b y n : Nat} {s F X : Nat → Int} {wr wr' : World} (h : SwI w g b y n s F X wr) (hb : Below wr.heap.size wr wr') : SwI w g b y n s F X wr' :=
  ⟨h.kept.thenBelow hb, (hb.block _ (Array.getElem?_eq_some_iff.1 h.row).1).trans h.row, (hb.block _ (Array.getElem?_eq_some_iff.1 h.seed).1).trans h.seed, (hb.block _ (Array.getElem?_eq_some_iff.1 h.src).1).trans h.src⟩

theorem SwI.setSrc {w : World} {g b y n : Nat} {s F X : Nat → Int} {wr : World} (h : SwI w g b y n s F X wr) (hy : w.heap.size ≤ y) (h1 : g ≠ y) (h2 : b ≠ y) (Y : Nat → Int) : SwI w g b y n s F Y (wr.setRow y (vs .u8 32 Y)) :=
  ⟨h.kept.setNew hy _, (setRow_other wr y g _ h1).trans h.row, (setRow_other wr y b _ h2).trans h.seed, setRow_at h.src⟩

theorem SwI.setCell {w : World} {g b y n : Nat} {s F X : Nat → Int} {wr : World} (h : SwI w g b y n s F X wr) (h1 : g ≠ y) (h2 : g ≠ b) (k : Nat) (v : Int) : SwI w g b y n s (fun j => if j = k then v else F j) X (wr.setCell ⟨g, k, none⟩ (.int .u64 v)) :=
  ⟨h.kept.setCell _ _, by rw [row_set h.row, vs_set], (heap_set_other (Ne.symm h2)).trans h.seed, (heap_set_other (Ne.symm h1)).trans h.src⟩

theorem SwI.drew {w : World} {g b y n : Nat} {s F X : Nat → Int} {wr : World} (h : SwI w g b y n s F X wr) : SwI w g b y n s F X wr.drew := ⟨h.kept.drew, h.row, h.seed, h.src⟩

theorem SwI.congr {w : World} {g b y n : Nat} {s F F' X : Nat → Int} {wr : World} (h : SwI w g b y n s F X wr) (hF : ∀ j, j < n → F j = F' j) : SwI w g b y n s F' X wr :=
  ⟨h.kept, by rw [h.row, vs_congr hF], h.seed, h.src⟩

attribute [local go_sem ↓] sv24_eq lv24_eq sv8_eq

set_option maxRecDepth 20000 in
set_option maxHeartbeats 2000000 in
theorem swap_any (s : Nat → Int) (r : Int) (g n : Nat) (f : Nat → Int) (w : World) (hs : ∀ j, j < 32 → 0 ≤ s j ∧ s j < 256) (hr : 0 ≤ r ∧ r < 256) (hn0 : 0 < n) (hn1 : n ≤ 65536) (hg : w.heap[g]? = some (.cells (vs .u64 n f) 22)) (hS : Sh w) (g0 : 0 ≠ g) (g1 : 1 ≠ g) :
    Calls Tryd.prog 31 #[.slice (some ⟨g, 0, none⟩) n n, .agg (vs .u8 32 s), .int .u8 r] w fun e w' => e = .returned (.tuple #[]) ∧ Kept g w w' ∧ w'.heap[g]? = some (.cells (vs .u64 n fun j => f (rdV s r n j).toNat) 22) := by
  have zg : g < w.heap.size := (Array.getElem?_eq_some_iff.1 hg).1
  obtain ⟨W0, hW0⟩ : ∃ W, w.alloc (.cells (vs .u8 32 s) 24) = W := ⟨_, rfl⟩
  have r0 : W0.heap[w.heap.size]? = some (.cells (vs .u8 32 s) 24) := by rw [← hW0]; exact heap_new rfl
  have hB0 : Below w.heap.size w W0 := by rw [← hW0]; exact (Below.refl _ _).alloc (Nat.le_refl _) _
  have z0 : w.heap.size < W0.heap.size := (Array.getElem?_eq_some_iff.1 r0).1
  have hpv := pivot_any s r n W0 hs hr (by omega) (by omega) (hS.below hB0)
  obtain ⟨p0, p1⟩ := pv_bd s r (n := (n : Int)) (by omega)
  have hend : ∀ j, j < n → swV (rdB s r) (pv s r n) n f n j = f (rdV s r n j).toNat := fun j hj => swV_end (rdB s r) f p0 p1 hj
  obtain ⟨P, hP⟩ : ∃ P, pv s r n = P := ⟨_, rfl⟩
  rw [hP] at hpv p0 p1 hend
  have hso : ∀ (k : Nat) (W : World), k < n → Kept g w W → Calls Tryd.prog 38 #[.int .u64 (k : Int), .agg (vs .u8 32 s), .int .u8 r] W fun e w' => e = .returned (.agg (vs .u8 32 (srcV s r ((k / 256 : Nat) : Int)))) ∧ Below W.heap.size W w' := fun k W hk hW => by
    have h := source_any s r k W hs hr (by omega) (by omega) (hS.kept hW g0 g1)
    rwa [show (k : Int) / 256 = ((k / 256 : Nat) : Int) by omega] at h
  have hfl : ∀ (k : Nat) (W : World), k < n → Calls Tryd.prog 39 #[.int .u64 (k : Int), .int .u64 (n : Int), .int .u64 P] W fun e w' => e = .returned (.int .u64 (fl k n P)) ∧ w' = W := fun k W hk => flip_any k n P W (by omega) (by omega) (by omega) p0 p1
  have his : ∀ (k : Nat) (W : World), k < n → Calls Tryd.prog 40 #[.agg (vs .u8 32 (srcV s r ((k / 256 : Nat) : Int))), .int .u64 (k : Int)] W fun e w' => e = .returned (.bool (rdB s r k)) ∧ Below W.heap.size W w' := fun k W hk => by
    have h := isset_any (srcV s r ((k / 256 : Nat) : Int)) k W (fun j _ => shaV_bd ..) (by omega) (by omega)
    unfold rdB
    rwa [show (k : Int) / 256 = ((k / 256 : Nat) : Int) by omega]
  have z := zero_root
  have nw : IntKind.u64.wrap (n : Int) = (n : Int) := by rw [IntKind.wrap_u64]; omega
  have l0 := lv24_run r0
  have rg : W0.heap[g]? = some (.cells (vs .u64 n f) 22) := (hB0.block _ zg).trans hg
  have HPV := hid hpv
  have HSO := hid hso
  have HFL := hid hfl
  have HIS := hid his
  have HEND := hid hend
  have HW0 := hid hW0
  have HB0 := hid hB0
  have HR0 := hid (And.intro r0 rg)
  clear hpv hso hfl his hend hW0 hB0 r0 rg hs hr hS hg hP g0 g1
  go_enter Tryd.func31, Tryd.ntmps31
  go_upto_region 1 with fail
  rw [HW0.out]
  clear HW0
  go_upto_region 4 with (go_at_call 37; refine HPV.out.mono ?_; rintro e w1 ⟨rfl, hb1⟩)
  have z1 := hb1.size
  obtain ⟨y, ey⟩ : ∃ y, w1.heap.size = y := ⟨_, rfl⟩
  have hI : SwI w g w.heap.size y n s f (fun _ => 0) (w1.alloc (.cells (vs .u8 32 fun _ => 0) 24)) := by
    have hBn : Below w1.heap.size w1 (w1.alloc (.cells (vs .u8 32 fun _ => 0) 24)) := (Below.refl _ _).alloc (Nat.le_refl _) _
    refine ⟨(Kept.ofBelow (HB0.out.trans ((hb1.mono (by omega)).trans (hBn.mono (by omega))))), ?_, ?_, heap_new ey.symm⟩
    · exact (hBn.block _ (by omega)).trans ((hb1.block _ (by omega)).trans HR0.out.2)
    · exact (hBn.block _ (by omega)).trans ((hb1.block _ (by omega)).trans HR0.out.1)
  rw [ey]
  have hy : w.heap.size < y := by omega
  obtain ⟨W1, hW1⟩ : ∃ W, w1.alloc (.cells (vs .u8 32 fun _ => 0) 24) = W := ⟨_, rfl⟩
  rw [hW1] at hI ⊢
  have HI := hid hI
  clear hI hW1 ey z1 hb1 HR0 HB0 HPV l0 z z0
  go_wp2
  go_loopw [19] (fun c wr => ∃ (k : Nat) (X : Nat → Int), k ≤ n ∧ c = .int .u64 k ∧ SwI w g w.heap.size y n s (swV (rdB s r) P n f k) X wr ∧ (¬ k % 256 = 0 → X = srcV s r ((k / 256 : Nat) : Int))) (fun c _ => n - (intOf c).toNat)
  case atStart => exact ⟨0, _, by omega, rfl, HI.out.congr (fun j _ => (swV_zero _ _ _ _ _).symm), fun h => absurd rfl h⟩
  case round =>
    obtain ⟨k, X, hk, rfl, hI, hX⟩ := hrel
    by_cases hkn : k < n
    · obtain ⟨q0, q1⟩ := fl_bd (i := (k : Int)) (n := (n : Int)) (p := P) (by omega) (by omega) p0 p1
      obtain ⟨q, hq⟩ : ∃ q : Nat, fl k n P = (q : Int) := ⟨(fl k n P).toNat, by omega⟩
      have hstay := fun h j hj => swV_stay (rdB s r) (p := P) (n := n) f (k := k) (j := j) p0 p1 hj hkn h
      have hstep := fun h hB j hj => swV_step (rdB s r) (p := P) (n := n) f (k := k) (j := j) (q := q) p0 p1 hj hkn hq h hB
      rw [hq] at q0 q1 hstay
      have hfl := fun W : World => HFL.out k W hkn
      rw [hq] at hfl
      have his := fun W : World => HIS.out k W hkn
      obtain ⟨b, hb⟩ : ∃ b, rdB s r k = b := ⟨_, rfl⟩
      rw [hb] at his hstay hstep
      have hso := fun W (hW : Kept g w W) => HSO.out k W hkn hW
      obtain ⟨Y, hY⟩ : ∃ Y, srcV s r ((k / 256 : Nat) : Int) = Y := ⟨_, rfl⟩
      rw [hY] at his hso hX
      obtain ⟨G, hG⟩ : ∃ G, swV (rdB s r) P n f k = G := ⟨_, rfl⟩
      rw [hG] at hI hstay hstep
      have k1 : (k : Int) < (n : Int) := by omega
      have k2 : (0 : Int) ≤ (k : Int) := by omega
      have k3 : (k : Int) ≤ 65536 := by omega
      have q2 : (q : Int) < (n : Int) := by omega
      have hnx : ¬ (k + 1) % 256 = 0 → Y = srcV s r (((k + 1) / 256 : Nat) : Int) := fun h => by rw [← hY, show (k + 1) / 256 = k / 256 by omega]
      have SO := hid hso
      have FL := hid hfl
      have IS := hid his
      have STAY := hid hstay
      have STEP := hid hstep
      have II := hid hI
      have HX := hid hX
      have NX := hid hnx
      have l0 := lv24_run hI.seed
      clear hso hfl his hstay hstep hI hX hnx hq hb hY hG
      by_cases hm : k % 256 = 0
      · have d0 : ((k : Int) % 256 == 0) = true := by simp; omega
        go_upto_region 9 with (go_at_call 38; refine (SO.out _ II.out.kept).mono ?_; rintro e w2 ⟨rfl, hb2⟩; have v2 := sv24_run (II.out.below hb2).src Y)
        have hJ := (II.out.below hb2).setSrc (by omega) (by omega) (by omega) Y
        obtain ⟨W2, hW2⟩ : ∃ W, w2.setRow y (vs .u8 32 Y) = W := ⟨_, rfl⟩
        rw [hW2] at hJ ⊢
        have ls := lv24_run hJ.src
        have JJ := hid hJ
        clear hJ hW2 v2 hb2 II l0
        by_cases hqk : q < k
        · have d1 : (q : Int) < (k : Int) := by omega
          cases b
          · go_wp2_with (first
              | (go_at_call 39; refine (FL.out _).mono ?_; rintro e w3 ⟨rfl, hw3⟩; obtain rfl := hw3.symm)
              | (go_at_call 40; refine (IS.out _).mono ?_; rintro e w4 ⟨rfl, hb4⟩))
            have hI4 := (JJ.out.below hb4).congr (fun j hj => (STAY.out (fun h => by cases h.2) j hj).symm)
            go_roundw
            case rel => exact ⟨k + 1, Y, by omega, by go_num, hI4, NX.out⟩
            case measure => simp [intOf]; omega
          · go_upto_region 11 with (first
              | (go_at_call 39; refine (FL.out _).mono ?_; rintro e w3 ⟨rfl, hw3⟩; obtain rfl := hw3.symm)
              | (go_at_call 40; refine (IS.out _).mono ?_; rintro e w4 ⟨rfl, hb4⟩))
            have hI4 := JJ.out.below hb4
            have c1 := row_int hI4.row k hkn
            have c2 := row_int hI4.row q (by omega)
            have f1 := row_frozen hI4.row k
            have f2 := row_frozen hI4.row q
            have hfin := ((hI4.setCell (by omega) (by omega) k (G q)).setCell (by omega) (by omega) q (G k)).congr (fun j hj => (STEP.out hqk trivial j hj).symm)
            have hne : ¬ (k : Nat) = q := by omega
            have FIN := hid hfin
            clear hfin hI4 hb4
            go_region
            all_goals
              go_wp2
              go_roundw
              case rel => exact ⟨k + 1, Y, by omega, by go_num, FIN.out.drew, NX.out⟩
              case measure => simp [intOf]; omega
        · have d1 : decide ((q : Int) < (k : Int)) = false := by simp; omega
          go_wp2_with (go_at_call 39; refine (FL.out _).mono ?_; rintro e w3 ⟨rfl, hw3⟩; obtain rfl := hw3.symm)
          have hI4 := JJ.out.congr (fun j hj => (STAY.out (fun h => by have := h.1; omega) j hj).symm)
          go_roundw
          case rel => exact ⟨k + 1, Y, by omega, by go_num, hI4, NX.out⟩
          case measure => simp [intOf]; omega
      · have d0 : ((k : Int) % 256 == 0) = false := by simp; omega
        obtain rfl : Y = X := (HX.out hm).symm
        go_upto_region 9 with fail
        have ls := lv24_run II.out.src
        have JJ := hid II.out
        clear II l0
        by_cases hqk : q < k
        · have d1 : (q : Int) < (k : Int) := by omega
          cases b
          · go_wp2_with (first
              | (go_at_call 39; refine (FL.out _).mono ?_; rintro e w3 ⟨rfl, hw3⟩; obtain rfl := hw3.symm)
              | (go_at_call 40; refine (IS.out _).mono ?_; rintro e w4 ⟨rfl, hb4⟩))
            have hI4 := (JJ.out.below hb4).congr (fun j hj => (STAY.out (fun h => by cases h.2) j hj).symm)
            go_roundw
            case rel => exact ⟨k + 1, Y, by omega, by go_num, hI4, NX.out⟩
            case measure => simp [intOf]; omega
          · go_upto_region 11 with (first
              | (go_at_call 39; refine (FL.out _).mono ?_; rintro e w3 ⟨rfl, hw3⟩; obtain rfl := hw3.symm)
              | (go_at_call 40; refine (IS.out _).mono ?_; rintro e w4 ⟨rfl, hb4⟩))
            have hI4 := JJ.out.below hb4
            have c1 := row_int hI4.row k hkn
            have c2 := row_int hI4.row q (by omega)
            have f1 := row_frozen hI4.row k
            have f2 := row_frozen hI4.row q
            have hfin := ((hI4.setCell (by omega) (by omega) k (G q)).setCell (by omega) (by omega) q (G k)).congr (fun j hj => (STEP.out hqk trivial j hj).symm)
            have hne : ¬ (k : Nat) = q := by omega
            have FIN := hid hfin
            clear hfin hI4 hb4
            go_region
            all_goals
              go_wp2
              go_roundw
              case rel => exact ⟨k + 1, Y, by omega, by go_num, FIN.out.drew, NX.out⟩
              case measure => simp [intOf]; omega
        · have d1 : decide ((q : Int) < (k : Int)) = false := by simp; omega
          go_wp2_with (go_at_call 39; refine (FL.out _).mono ?_; rintro e w3 ⟨rfl, hw3⟩; obtain rfl := hw3.symm)
          have hI4 := JJ.out.congr (fun j hj => (STAY.out (fun h => by have := h.1; omega) j hj).symm)
          go_roundw
          case rel => exact ⟨k + 1, Y, by omega, by go_num, hI4, NX.out⟩
          case measure => simp [intOf]; omega
    · obtain rfl : k = n := by omega
      have II := hid hI
      clear hI hX
      go_wp2
      go_end0
      refine ⟨rfl, II.out.kept, ?_⟩
      rw [II.out.row, vs_congr HEND.out]

end Go.Proofs.YtlidilnakiphiaaDoor

namespace Go.Proofs.YtlidilnakiphiaaDoor

open Go.RowKit

set_option linter.unusedVariables false

set_option linter.unusedSimpArgs false

/-- The elements of a slice of numbers, whatever it is. -/
def N64 (w : World) (a : Option Addr) (n : Nat) (f : Nat → Int) : Prop :=
  n = 0 ∨ ∃ b off, a = some ⟨b, off, none⟩ ∧ b < w.heap.size ∧ ∀ j, j < n → w.cell? ⟨b, off + j, none⟩ = some (.int .u64 (f j))

theorem N64.below {w w' : World} {a : Option Addr} {n : Nat} {f : Nat → Int} (h : N64 w a n f) (hb : Below w.heap.size w w') : N64 w' a n f := by
  rcases h with h | ⟨b, off, h1, h2, h3⟩
  · exact .inl h
  · exact .inr ⟨b, off, h1, Nat.lt_of_lt_of_le h2 hb.size, fun j hj => (below_cell hb h2).trans (h3 j hj)⟩

theorem n64_row {w : World} {g n : Nat} {f : Nat → Int} {t : TypeId} (h : w.heap[g]? = some (.cells (vs .u64 n f) t)) : N64 w (some ⟨g, 0, none⟩) n f :=
  .inr ⟨g, 0, rfl, (Array.getElem?_eq_some_iff.1 h).1, fun j hj => by rw [Nat.zero_add]; exact row_int h j hj⟩

/-- A list behind k rounds, the last one first. -/
def lsV (s : Nat → Int) (n : Int) (f : Nat → Int) : Nat → Nat → Int
  | 0, j => f j
  | k + 1, j => lsV s n f k (rdV s (5 - (k : Int)) n j).toNat

theorem lsV_at (s : Nat → Int) (n : Int) (f : Nat → Int) (k : Nat) {x : Int} (h : 0 ≤ x) : lsV s n f (k + 1) x.toNat = lsV s n f k (rdV s (5 - (k : Int)) n x).toNat := by
  show lsV s n f k (rdV s (5 - (k : Int)) n (x.toNat : Int)).toNat = _
  rw [Int.toNat_of_nonneg h]

theorem lsV_six (s : Nat → Int) (n : Int) (f : Nat → Int) (j : Nat) (hj : (j : Int) < n) : lsV s n f 6 j = f (plV s n 6 j).toNat := by
  have p := fun k => plV_bd s (i := (j : Int)) (by omega) hj k
  have h0 : lsV s n f 6 j = lsV s n f 5 (plV s n 1 j).toNat := rfl
  have h1 : lsV s n f 5 (plV s n 1 j).toNat = lsV s n f 4 (plV s n 2 j).toNat := lsV_at s n f 4 (p 1).1
  have h2 : lsV s n f 4 (plV s n 2 j).toNat = lsV s n f 3 (plV s n 3 j).toNat := lsV_at s n f 3 (p 2).1
  have h3 : lsV s n f 3 (plV s n 3 j).toNat = lsV s n f 2 (plV s n 4 j).toNat := lsV_at s n f 2 (p 3).1
  have h4 : lsV s n f 2 (plV s n 4 j).toNat = lsV s n f 1 (plV s n 5 j).toNat := lsV_at s n f 1 (p 4).1
  have h5 : lsV s n f 1 (plV s n 5 j).toNat = lsV s n f 0 (plV s n 6 j).toNat := lsV_at s n f 0 (p 5).1
  rw [h0, h1, h2, h3, h4, h5]
  rfl

theorem made_64 (n : Nat) : madeCells #[.int .u64 0] n = vs .u64 n (fun _ => 0) := by
  apply Array.ext_getElem?
  intro j
  by_cases hj : j < n
  · rw [vs_get _ _ _ _ hj]
    simp [madeCells, hj, Nat.mod_one]
  · rw [Array.getElem?_eq_none (by rw [size_madeCells]; omega), Array.getElem?_eq_none (by rw [vs_size]; omega)]

theorem make_64 (W : World) (n : Nat) (hn : n ≤ 17592186044416) : (Instr.makeSlice 37 (.int .i64 n) (.int .i64 n)).run Tryd.prog W = .ok (.slice (some ⟨W.heap.size, 0, none⟩) n n) (W.alloc (.cells (vs .u64 n (fun _ => 0)) 22)) := by
  obtain ⟨i, hi, hz0, hz1, hz2⟩ := info_parts info64
  have h := run_make (P := Tryd.prog) W 37 22 i (.int .u64 0) Tryd.underlying37 hi hz0 .i64 .i64 n n (by omega) (Int.le_refl _) (by rw [hz2]; omega) (by omega)
  rw [hz1, Int.toNat_natCast, Nat.mul_one] at h
  rw [h, ← made_64]
  rfl

theorem copy_64 (W : World) (g n cap : Nat) (o f : Nat → Int) (x : Addr) (t : TypeId) (hg : W.heap[g]? = some (.cells (vs .u64 n o) t)) (hx : ∀ j, j < n → W.cell? (x.add j) = some (.int .u64 (f j))) :
    ∀ ty, (Builtin.copy_ #[37, 37] ty #[.slice (some ⟨g, 0, none⟩) n n, .slice (some x) n cap]).run Tryd.prog W = .ok (.int .i64 n) (W.setRow g (vs .u64 n f)) := by
  intro ty
  have hrun := run_copy_row (P := Tryd.prog) W 37 37 ty 22 g 0 n n x n cap (vs .u64 n o) t (ul f n) Tryd.underlying37 (by kernel_rfl) hg (by rw [ul_len]; exact (Nat.min_self n).symm)
    (fun j v hj => by
      obtain ⟨h1, rfl⟩ := ul_get f n j v hj
      exact hx j h1) (by rw [ul_len, vs_size]; omega) (ul_one f n)
  rw [hrun, ul_len]
  have e : ((vs .u64 n o).toList.take 0 ++ ul f n ++ (vs .u64 n o).toList.drop (0 + n)).toArray = vs .u64 n f := by
    rw [List.take_zero, List.nil_append, Nat.zero_add, List.drop_of_length_le (by rw [Array.length_toList, vs_size]; omega), List.append_nil]
    rfl
  rw [e]
  rfl

/-- What stands where 'before' is jumped to, k rounds done. -/
def LsJ (s f : Nat → Int) (g n : Nat) (w : World) (vl : Value) (a' : Act) (w' : World) : Prop :=
  ∃ (k : Nat) (u1 u2 u8 u9 u10 u11 u12 u13 u14 u15 u16 u17 u18 u19 u20 u21 u22 u23 u24 u25 u26 u27 u28 u29 : Value), a' = { tmps := #[vl, u1, u2, .pointer (some ⟨w.heap.size, 0, none⟩), .slice none 0 0, .int .i64 0, .slice (some ⟨g, 0, none⟩) n n, .int .i64 (6 - (k : Int)), u8, u9, u10, u11, u12, u13, u14, u15, u16, u17, u18, u19, u20, u21, u22, u23, u24, u25, u26, u27, u28, u29], defers := [] } ∧ 1 ≤ k ∧ k ≤ 5 ∧ Below w.heap.size w w' ∧ w'.heap[g]? = some (.cells (vs .u64 n (lsV s n f k)) 22) ∧ w'.heap[w.heap.size]? = some (.cells (vs .u8 32 s) 24)

attribute [local go_sem ↓] sv24_eq lv24_eq sv8_eq

set_option maxRecDepth 20000 in
set_option maxHeartbeats 1000000 in
theorem list_zero (s : Nat → Int) (a : Option Addr) (cap : Nat) (w : World) :
    Calls Tryd.prog 22 #[.slice a 0 cap, .agg (vs .u8 32 s)] w fun e w' => e = .returned (.tuple #[.slice none 0 0, .int .i64 0]) ∧ Below w.heap.size w w' := by
  go_enter Tryd.func22, Tryd.ntmps22
  go_wp2
  go_step3
  go_wp2
  rw [Exit.noGoto_ret]
  go_ret2
  exact ⟨rfl, (Below.refl _ _).alloc (Nat.le_refl _) _⟩

set_option maxRecDepth 20000 in
set_option maxHeartbeats 2000000 in
theorem list_ok (s : Nat → Int) (a : Option Addr) (n cap : Nat) (f : Nat → Int) (w : World) (hs : ∀ j, j < 32 → 0 ≤ s j ∧ s j < 256) (ha : N64 w a n f) (h0 : 0 < n) (h1 : n ≤ 65536) (hS : Sh w) :
    Calls Tryd.prog 22 #[.slice a n cap, .agg (vs .u8 32 s)] w fun e w' => ∃ g, e = .returned (.tuple #[.slice (some ⟨g, 0, none⟩) n n, .int .i64 0]) ∧ Below w.heap.size w w' ∧ w.heap.size ≤ g ∧ w'.heap[g]? = some (.cells (vs .u64 n fun j => f (plV s n 6 j).toNat) 22) := by
  have hfin : ∀ j, j < n → lsV s n f 6 j = f (plV s n 6 j).toNat := fun j hj => lsV_six s n f j (by omega)
  rcases ha with ha | ⟨b, off, rfl, hb, hc⟩
  · omega
  obtain ⟨W0, hW0⟩ : ∃ W, w.alloc (.cells (vs .u8 32 s) 24) = W := ⟨_, rfl⟩
  have r0 : W0.heap[w.heap.size]? = some (.cells (vs .u8 32 s) 24) := by rw [← hW0]; exact heap_new rfl
  have hB0 : Below w.heap.size w W0 := by rw [← hW0]; exact (Below.refl _ _).alloc (Nat.le_refl _) _
  have z0 : W0.heap.size = w.heap.size + 1 := by rw [← hW0]; simp
  obtain ⟨W1, hW1⟩ : ∃ W, W0.alloc (.cells (vs .u64 n (fun _ => 0)) 22) = W := ⟨_, rfl⟩
  have hB1 : Below W0.heap.size W0 W1 := by rw [← hW1]; exact (Below.refl _ _).alloc (Nat.le_refl _) _
  obtain ⟨g, hg⟩ : ∃ g, W0.heap.size = g := ⟨_, rfl⟩
  have r1 : W1.heap[g]? = some (.cells (vs .u64 n (fun _ => 0)) 22) := by rw [← hW1]; exact heap_new hg.symm
  have hgw : w.heap.size < g := by omega
  have mk := make_64 W0 n (by omega)
  rw [hW1, hg] at mk
  have cp := copy_64 W1 g n cap (fun _ => 0) f ⟨b, off, none⟩ 22 r1 (fun j hj => by rw [addr_add, below_cell hB1 (by omega), below_cell hB0 hb]; exact hc j hj)
  obtain ⟨W2, hW2⟩ : ∃ W, W1.setRow g (vs .u64 n f) = W := ⟨_, rfl⟩
  rw [hW2] at cp
  have hB2 : Below w.heap.size w W2 := by rw [← hW2]; exact below_row (hB0.trans (hB1.mono (by omega))) (by omega) _
  have r2 : W2.heap[g]? = some (.cells (vs .u64 n (lsV s n f 0)) 22) := by rw [← hW2]; exact setRow_at r1
  have s2 : W2.heap[w.heap.size]? = some (.cells (vs .u8 32 s) 24) := by rw [← hW2]; exact (setRow_other W1 g _ _ (by omega)).trans ((hB1.block _ (by omega)).trans r0)
  have g0 : 0 ≠ g := by have := hS.1.1; omega
  have g1 : 1 ≠ g := by have := hS.2.1; omega
  have hsw : ∀ (k : Nat) (W : World), k < 6 → Below w.heap.size w W → W.heap[g]? = some (.cells (vs .u64 n (lsV s n f k)) 22) → W.heap[w.heap.size]? = some (.cells (vs .u8 32 s) 24) → Calls Tryd.prog 31 #[.slice (some ⟨g, 0, none⟩) n n, .agg (vs .u8 32 s), .int .u8 (5 - (k : Int))] W fun e w' => e = .returned (.tuple #[]) ∧ Below w.heap.size w w' ∧ w'.heap[g]? = some (.cells (vs .u64 n (lsV s n f (k + 1))) 22) ∧ w'.heap[w.heap.size]? = some (.cells (vs .u8 32 s) 24) := fun k W hk hW hr hsd => by
    refine (swap_any s (5 - (k : Int)) g n (lsV s n f k) W hs (by omega) h0 h1 hr (hS.below hW) g0 g1).mono ?_
    rintro e w' ⟨h1, h2, h3⟩
    exact ⟨h1, hW.trans (h2.below (by omega) hW.size), h3, (h2.block _ (Array.getElem?_eq_some_iff.1 hsd).1 (by omega)).trans hsd⟩
  have n1 : ¬ (65536 : Int) < (n : Int) := by omega
  have n2 : ((n : Int) == 0) = false := by simp; omega
  have HSW := hid hsw
  have HW0 := hid hW0
  have HFIN := hid hfin
  have H2 := hid (And.intro hB2 (And.intro r2 s2))
  clear hsw hW0 hW1 hW2 hfin hB2 r2 s2 r0 hB0 hB1 r1 hs hS hc hb z0 hg g0 g1
  go_enter Tryd.func22, Tryd.ntmps22
  go_wp2
  rw [HW0.out]
  clear HW0
  refine wp_scope_jumps 0 (LsJ s f g n w (.slice (some ⟨b, off, none⟩) n cap)) (fun a' _ => (intOf (a'.tmps.getD 7 undef)).toNat) rfl ?_ ?_
  · have l0 := lv24_run H2.out.2.2
    have u5 : IntKind.u8.wrap 5 = 5 := by decide
    have hs0 := HSW.out 0 W2 (by omega) H2.out.1 H2.out.2.1 H2.out.2.2
    have HS0 : Hid (Calls Tryd.prog 31 #[.slice (some ⟨g, 0, none⟩) n n, .agg (vs .u8 32 s), .int .u8 5] W2 fun e w' => e = .returned (.tuple #[]) ∧ Below w.heap.size w w' ∧ w'.heap[g]? = some (.cells (vs .u64 n (lsV s n f 1)) 22) ∧ w'.heap[w.heap.size]? = some (.cells (vs .u8 32 s) 24)) := hs0
    clear hs0 H2 HSW
    go_wp2
    go_step3
    go_wp2_with (go_at_call 31; refine HS0.out.mono ?_; rintro e w3 ⟨rfl, hb3, hr3, hs3⟩)
    go_step3
    exact ⟨rfl, 1, _, _, _, _, _, _, _, _, _, _, _, _, _, _, _, _, _, _, _, _, _, _, _, _, rfl, by omega, by omega, hb3, hr3, hs3⟩
  · rintro a' w' ⟨k, u1, u2, u8, u9, u10, u11, u12, u13, u14, u15, u16, u17, u18, u19, u20, u21, u22, u23, u24, u25, u26, u27, u28, u29, rfl, hk1, hk5, hB, hR, hSd⟩
    clear mk cp H2
    have l0 := lv24_run hSd
    have hs0 := HSW.out k w' (by omega) hB hR hSd
    have e5 : (6 : Int) - (k : Int) - 1 = 5 - (k : Int) := by omega
    obtain ⟨R, hR5⟩ : ∃ R : Int, 5 - (k : Int) = R := ⟨_, rfl⟩
    have R6 : (6 : Int) - (k : Int) = R + 1 := by omega
    have r5 : 0 ≤ R := by omega
    have r6 : R ≤ 4 := by omega
    have rwr : IntKind.u8.wrap R = R := by rw [IntKind.wrap_u8]; omega
    rw [hR5] at hs0
    rw [R6]
    have HS0 := hid hs0
    have HK := hid hR5
    clear hs0 hB hR hSd e5 R6 hR5 HSW
    by_cases h5 : k = 5
    · obtain rfl : R = 0 := by have := HK.out; omega
      subst h5
      go_wp2_with (go_at_call 31; refine HS0.out.mono ?_; rintro e w3 ⟨rfl, hb3, hr3, hs3⟩)
      simp only [Exit.jump]
      go_ret2
      refine ⟨g, rfl, hb3, by omega, ?_⟩
      rw [hr3, vs_congr HFIN.out]
    · have h6 : (0 : Int) < R := by have := HK.out; omega
      go_wp2_with (go_at_call 31; refine HS0.out.mono ?_; rintro e w3 ⟨rfl, hb3, hr3, hs3⟩)
      go_step3
      have eR : R = 6 - ((k + 1 : Nat) : Int) := by have := HK.out; omega
      refine ⟨rfl, ⟨k + 1, _, _, _, _, _, _, _, _, _, _, _, _, _, _, _, _, _, _, _, _, _, _, _, _, by rw [← eR], by omega, by omega, hb3, hr3, hs3⟩, ?_⟩
      simp [intOf]
      omega

end Go.Proofs.YtlidilnakiphiaaDoor

namespace Go.Proofs.YtlidilnakiphiaaDoor

open Go.RowKit

set_option linter.unusedVariables false

set_option linter.unusedSimpArgs false

theorem N64.congr {w : World} {a : Option Addr} {n : Nat} {f g : Nat → Int} (h : N64 w a n f) (hf : ∀ j, j < n → f j = g j) : N64 w a n g := by
  rcases h with h | ⟨b, off, h1, h2, h3⟩
  · exact .inl h
  · exact .inr ⟨b, off, h1, h2, fun j hj => by rw [h3 j hj, hf j hj]⟩

theorem own_n64 {w : World} {B : Nat} {v : Value} {n : Nat} {f : Nat → Int} (h : w.ownsRow B 22 1 v n (ul f n)) : ∃ a C, v = .slice a n C ∧ n ≤ C ∧ C ≤ 9223372036854775807 ∧ N64 w a n f := by
  rcases h.2 with ⟨h1, h2⟩ | ⟨g, cap, cur, h1, _, _, h2, h3, _⟩
  · subst h1
    subst h2
    exact ⟨none, 0, rfl, Nat.le_refl _, by omega, .inl rfl⟩
  · subst h1
    unfold maxLen at h3
    refine ⟨some ⟨g, 0, none⟩, cap, rfl, h2, by omega, .inr ⟨g, 0, rfl, (h.lt g rfl).2, fun j hj => ?_⟩⟩
    have := h.cells (g := g) rfl j _ (ul_at f n j hj)
    rw [addr_add] at this
    exact this

attribute [local go_sem ↓] sv24_eq lv24_eq sv8_eq bd27_eq

end Go.Proofs.YtlidilnakiphiaaDoor
