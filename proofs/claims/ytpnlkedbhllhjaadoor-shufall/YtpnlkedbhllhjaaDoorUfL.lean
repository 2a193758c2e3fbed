/-
  What ShufAll answers.
-/
import Derived.Test.YtpnlkedbhllhjaaDoorUfJ
namespace Go.Proofs.YtpnlkedbhllhjaaDoor
open Go.RowKit
set_option linter.unusedVariables false
set_option linter.unusedSimpArgs false

/-- n bools. -/
def bvs (n : Nat) (f : Nat → Bool) : Array Value := ((List.range n).map fun i => Value.bool (f i)).toArray
theorem bvs_size (n : Nat) (f : Nat → Bool) : (bvs n f).size = n := by simp [bvs]
theorem bvs_get (n : Nat) (f : Nat → Bool) (i : Nat) (h : i < n) : (bvs n f)[i]? = some (.bool (f i)) := by simp [bvs, h]
theorem bvs_set (n : Nat) (f : Nat → Bool) (i : Nat) (v : Bool) : (bvs n f).setIfInBounds i (.bool v) = bvs n (fun j => if j = i then v else f j) := by
  apply Array.ext_getElem?
  intro j
  by_cases hj : j < n
  · rw [bvs_get _ _ _ hj, Array.getElem?_setIfInBounds]
    by_cases hi : i = j
    · subst hi
      rw [if_pos rfl, if_pos (by rw [bvs_size]; exact hj), if_pos rfl]
    · rw [if_neg hi, bvs_get _ _ _ hj, if_neg (by omega)]
  · rw [Array.getElem?_eq_none (by rw [Array.size_setIfInBounds, bvs_size]; omega), Array.getElem?_eq_none (by rw [bvs_size]; omega)]
theorem zero_300 : ∀ w : World, (zeroValue 35).run Tryd.prog w = .ok (.agg (bvs 300 fun _ => false)) w := (zero_of_info (n := 300) (by kernel_rfl)).1

attribute [local go_sem ↓] sv24_eq lv24_eq sv8_eq bd27_eq

set_option maxRecDepth 20000 in
set_option maxHeartbeats 2000000 in
theorem all_any (s : Nat → Int) (n : Int) (w : World) (hs : ∀ j, j < 32 → 0 ≤ s j ∧ s j < 256) (hn0 : -9223372036854775808 ≤ n) (hn1 : n ≤ 9223372036854775807) (hS : Sh w) :
    Calls Tryd.prog 5 #[.int .i64 n, .agg (vs .u8 32 s)] w fun e w' => e = .returned (.bool true) ∧ Below w.heap.size w w' := by
  obtain ⟨W0, hW0⟩ : ∃ W, w.alloc (.cells (vs .u8 32 s) 24) = W := ⟨_, rfl⟩
  have r0 : W0.heap[w.heap.size]? = some (.cells (vs .u8 32 s) 24) := by rw [← hW0]; exact heap_new rfl
  have hB0 : Below w.heap.size w W0 := by rw [← hW0]; exact (Below.refl _ _).alloc (Nat.le_refl _) _
  have z0 : w.heap.size < W0.heap.size := (Array.getElem?_eq_some_iff.1 r0).1
  have hS0 := hS.below hB0
  have hl : ∀ W : World, Below W0.heap.size W0 W → (lv24 ⟨w.heap.size, 0, none⟩).run Tryd.prog W = .ok (.agg (vs .u8 32 s)) W := fun W h => lv24_run ((h.block _ z0).trans r0)
  have haw := fun (W : World) (h : Below W0.heap.size W0 W) => awake_any W (hS0.below h)
  have HL := hid hl
  have HAW := hid haw
  have HB0 := hid hB0
  have HW0 := hid hW0
  clear hl haw hB0 hW0 r0 hS
  obtain ⟨M, hM⟩ : ∃ M, n.tmod 300 = M := ⟨_, rfl⟩
  have m0 : -300 < M ∧ M < 300 := by
    rw [← hM, Int.tmod_eq_emod]
    have e : ((300 : Int).natAbs : Int) = 300 := rfl
    split <;> omega
  obtain ⟨N, hN⟩ : ∃ N : Nat, (M + 300) % 300 = (N : Int) := ⟨((M + 300) % 300).toNat, by omega⟩
  have hN3 : N < 300 := by omega
  obtain ⟨m1, m2⟩ := m0
  have hlist : ∀ (W : World) (F : Nat → Int) a' c', Below W0.heap.size W0 W → N64 W a' N F → Calls Tryd.prog 13 #[.slice a' N c', .agg (vs .u8 32 s)] W fun e w' => ∃ a2 c2, e = .returned (.tuple #[.slice a2 N c2, .int .i64 0]) ∧ Below W.heap.size W w' ∧ N64 w' a2 N fun j => F (plV s N 6 j).toNat := fun W F a' c' hW hN => list_any s a' N c' F W hs hN (by omega) (hS0.below hW)
  have hpl : ∀ (k : Nat) (W : World), k < N → Below W0.heap.size W0 W → Calls Tryd.prog 9 #[.int .u64 (k : Int), .int .u64 (N : Int), .agg (vs .u8 32 s)] W fun e w' => e = .returned (.tuple #[.int .u64 (plV s N 6 k), .int .i64 0]) ∧ Below W.heap.size W w' := fun k W hk hW => place_ok s k N W hs (by omega) (by omega) (by omega) (hS0.below hW)
  have hw1 : wrap64 M = M := by unfold wrap64; omega
  have nw : IntKind.u64.wrap (N : Int) = (N : Int) := by rw [IntKind.wrap_u64]; omega
  have HLI := hid hlist
  have HPL := hid hpl
  clear hlist hpl hs hS0
  go_enter Tryd.func5, Tryd.ntmps5
  go_upto_region 1 with fail
  rw [HW0.out]
  clear HW0
  go_upto_region 4 with (go_at_call 8; refine (HAW.out _ (Below.refl _ _)).mono ?_; rintro e w1 ⟨rfl, hb1⟩)
  rw [hN]
  have hz1 := hb1.size
  have HB1 := hid hb1
  clear hb1 hM hN hw1 m1 m2
  go_wp2
  go_loopw [5, 6] (fun v c wr => ∃ (k : Nat) (v' : Value), k ≤ N ∧ v = v' ∧ c = .int .i64 k ∧ wr.ownsRow W0.heap.size 22 1 v' k (ul (fun j => (j : Int)) k) ∧ Below W0.heap.size W0 wr) (fun _ c _ => N - (intOf c).toNat)
  case atStart => exact ⟨0, _, by omega, rfl, rfl, World.ownsRow_nil _ _ _ _, HB1.out⟩
  case round =>
    obtain ⟨k, v, hk, ev, rfl, ho, hw⟩ := hrel
    obtain rfl := ev.symm
    clear ev
    by_cases hkn : k < N
    · have k1 : (k : Int) < (N : Int) := by omega
      have k2 : (0 : Int) ≤ (k : Int) := by omega
      have kw : IntKind.u64.wrap (k : Int) = (k : Int) := by rw [IntKind.wrap_u64]; omega
      have HO := hid ho
      have HW := hid hw
      clear ho hw
      go_wp2_with (at_builtin; (refine wpList_append_n64 wr rfl _ _ rfl W0.heap.size v k (fun j => (j : Int)) (k : Int) rfl HO.out rfl rfl (by omega) HW.out.size ?_); intro g2 C2 w2 ho2 hg2)
      have hb2 := below_grown HW.out HO.out HW.out.size hg2
      go_roundw
      case rel => exact ⟨k + 1, _, by omega, rfl, by go_num, ho2, hb2⟩
      case measure => simp [intOf]; omega
    · obtain rfl : k = N := by omega
      clear HB1 hz1
      obtain ⟨a2, C2, rfl, _, _, hn2⟩ := own_n64 ho
      have l0 := HL.out wr hw
      have HW := hid hw
      have HN := hid hn2
      have z300 := zero_300
      clear hw ho hn2
      go_upto_region 12 with (go_at_call 13; refine (HLI.out wr _ a2 C2 HW.out HN.out).mono ?_; rintro e w4 ⟨a4, c4, rfl, hb4, hn4⟩)
      have hB4 := HW.out.trans (hb4.mono HW.out.size)
      have hn4' : N64 w4 a4 k fun j => plV s k 6 j := hn4.congr (fun j hj => by
        obtain ⟨b0, b1⟩ := plV_bd s (i := (j : Int)) (n := (k : Int)) (by omega) (by omega) 6
        show (((plV s k 6 j).toNat : Nat) : Int) = _
        omega)
      have HB4 := hid hB4
      have HN4 := hid hn4'
      clear l0 hB4 hb4 hn4 hn4' HN HW HLI
      go_upto_region 13 with fail
      obtain ⟨W5, hW5⟩ : ∃ W, w4.alloc (.cells (bvs 300 fun _ => false) 35) = W := ⟨_, rfl⟩
      rw [hW5]
      have r5 : W5.heap[w4.heap.size]? = some (.cells (bvs 300 fun _ => false) 35) := by rw [← hW5]; exact heap_new rfl
      have hB5 : Below w4.heap.size w4 W5 := by rw [← hW5]; exact (Below.refl _ _).alloc (Nat.le_refl _) _
      obtain ⟨y, ey⟩ : ∃ y, w4.heap.size = y := ⟨_, rfl⟩
      rw [ey] at r5 ⊢
      have hyy : W0.heap.size ≤ y := by rw [← ey]; exact HB4.out.size
      have hN5 := HN4.out.below hB5
      have hB05 : Below W0.heap.size W0 W5 := HB4.out.trans (hB5.mono HB4.out.size)
      have hab : ∀ b, b < w4.heap.size → b ≠ y := fun b hb => by omega
      have ha4 : k = 0 ∨ ∃ b off, a4 = some ⟨b, off, none⟩ ∧ b ≠ y ∧ b < W5.heap.size ∧ ∀ j, j < k → W5.cell? ⟨b, off + j, none⟩ = some (.int .u64 (plV s k 6 j)) := by
        rcases HN4.out with h | ⟨b, off, h1, h2, h3⟩
        · exact .inl h
        · exact .inr ⟨b, off, h1, hab b h2, Nat.lt_of_lt_of_le h2 hB5.size, fun j hj => (below_cell hB5 h2).trans (h3 j hj)⟩
      have HA4 := hid ha4
      have HR5 := hid r5
      have HB5 := hid hB05
      clear HN4 HB4 hN5 hB05 hB5 hab ha4 r5 ey hW5 z300
      go_wp2
      go_loopw [10] (fun c wr => ∃ (q : Nat) (S : Nat → Bool), q ≤ k ∧ c = .int .i64 q ∧ Kept y W5 wr ∧ wr.heap[y]? = some (.cells (bvs 300 S) 35) ∧ ∀ j, q ≤ j → j < k → S (plV s k 6 j).toNat = false) (fun c _ => k - (intOf c).toNat)
      case atStart => exact ⟨0, _, by omega, rfl, Kept.refl _ _, HR5.out, fun _ _ _ => rfl⟩
      case round =>
        obtain ⟨q, S, hq, rfl, hw, hr, hSn⟩ := hrel
        have hbw : Below W0.heap.size W0 wr := HB5.out.trans (hw.below hyy (HB5.out.size))
        by_cases hqn : q < k
        · rcases HA4.out with h0 | ⟨b, off, ea, hby, hbl, hc⟩
          · omega
          subst ea
          have k1 : (q : Int) < (k : Int) := by omega
          have k2 : (0 : Int) ≤ (q : Int) := by omega
          have kw : IntKind.u64.wrap (q : Int) = (q : Int) := by rw [IntKind.wrap_u64]; omega
          have hp := HPL.out q wr hqn hbw
          obtain ⟨p0, p1⟩ := plV_bd s (i := (q : Int)) (n := (k : Int)) (by omega) (by omega) 6
          have hcq := hc q hqn
          have hSq := hSn q (Nat.le_refl _) hqn
          have hnext : ∀ (P : Nat), plV s k 6 q = (P : Int) → ∀ j, q + 1 ≤ j → j < k → (if (plV s k 6 j).toNat = P then true else S (plV s k 6 j).toNat) = false := fun P hP j h1 h2 => by
            rw [if_neg, hSn j (by omega) h2]
            intro e
            obtain ⟨j0, j1⟩ := plV_bd s (i := (j : Int)) (n := (k : Int)) (by omega) (by omega) 6
            have := pl_inj s (i := (j : Int)) (j := (q : Int)) (n := (k : Int)) (by omega) (by omega) (by omega) (by omega) (by omega)
            omega
          obtain ⟨P, hP⟩ : ∃ P : Nat, plV s k 6 q = (P : Int) := ⟨(plV s k 6 q).toNat, by omega⟩
          have hnx := hnext P hP
          rw [hP] at hp hcq hSq p0 p1
          rw [Int.toNat_natCast] at hSq
          have P3 : P < 300 := by omega
          have p3 : (P : Int) < 300 := by omega
          have l0 := HL.out wr hbw
          have HP1 := hid hp
          have HK := hid hw
          have HR := hid hr
          have HCQ := hid hcq
          have HSQ := hid hSq
          have HNX := hid hnx
          clear hp hw hr hcq hSq hnx hnext hSn hc hP
          go_upto_region 17 with (go_at_call 9; refine HP1.out.mono ?_; rintro e w6 ⟨rfl, hb6⟩)
          have hK6 : Kept y W5 w6 := HK.out.trans (Kept.ofBelow hb6)
          have hr6 := (hb6.block _ (Array.getElem?_eq_some_iff.1 HR.out).1).trans HR.out
          have c6 : w6.cell? ⟨b, off + q, none⟩ = some (.int .u64 (P : Int)) := (hK6.cell hbl hby).trans HCQ.out
          have s6 : w6.cell? ⟨y, P, none⟩ = some (.bool false) := by rw [row_cell hr6, bvs_get _ _ _ P3, HSQ.out]
          have f6 := row_frozen hr6 P
          have hr7 := row_set hr6 P (.bool true)
          rw [bvs_set] at hr7
          have hK7 := hK6.setCell P (.bool true)
          have HR7 := hid hr7
          have HK7 := hid hK7
          clear hr6 hr7 hK6 hK7 hb6 HK HR HCQ HSQ HP1 l0
          go_wp2
          go_roundw
          case rel => exact ⟨q + 1, _, by omega, by go_num, HK7.out, HR7.out, HNX.out⟩
          case measure => simp [intOf]; omega
        · have HW := hid hbw
          clear hbw hw hr hSn
          go_wp2
          go_ret
          exact ⟨rfl, HB0.out.trans (HW.out.mono (by omega))⟩

end Go.Proofs.YtpnlkedbhllhjaaDoor
