/-
  The library contract for math/bits.Len, laid at this program.
  What nextPowerOfTwo, xorshift.Next and breakPatternsOrdered answer.
  What order2Ordered, medianOrdered, medianAdjacentOrdered and choosePivotOrdered answer.
-/
import Derived.Test.YtenhgoclfljjlaaDoorRows
import Derived.Test.YtenhgoclfljjlaaDoorProg
import Derived.Test.YtenhgoclfljjlaaDoorPQ
import Derived.Shelf.Small.Bits
import Derived.Shelf.Small.Wraps
import Derived.BigRegion

import Derived.Deep.Cut

import Derived.Sort.Walk7

import Derived.Sort.WalkD1

import Derived.Sort.Walk13

namespace Go.Proofs
open Go.Shelf
def Tryd.laysL_ren : Go.Shelf.Ren := ⟨fun | 125 => 38 | 128 => 59 | 129 => 60 | n => n, fun | 46 => 87 | 3 => 3 | 51 => 83 | 53 => 22 | 4 => 4 | 5 => 5 | 9 => 9 | n => n, fun | n => n⟩
theorem Tryd.laysL : Go.Proofs.Lays.n125 Tryd.prog Tryd.laysL_ren := {
  mixed := by kernel_rfl
  f125 := Tryd.func38.trans (congrArg some (by kernel_rfl))
  f128 := Tryd.func59.trans (congrArg some (by kernel_rfl))
  f129 := Tryd.func60.trans (congrArg some (by kernel_rfl))
  t3 := Tryd.underlying3
  a3 := Tryd.isAgg3
  z3 := Tryd.sizeOf3
  v3 := Tryd.zeroValue3
  t4 := Tryd.underlying4
  a4 := Tryd.isAgg4
  z4 := Tryd.sizeOf4
  v4 := Tryd.zeroValue4
  t5 := Tryd.underlying5
  a5 := Tryd.isAgg5
  z5 := Tryd.sizeOf5
  v5 := Tryd.zeroValue5
  t9 := Tryd.underlying9
  a9 := Tryd.isAgg9
  z9 := Tryd.sizeOf9
  v9 := Tryd.zeroValue9
  t46 := Tryd.underlying87
  a46 := Tryd.isAgg87
  z46 := Tryd.sizeOf87
  v46 := Tryd.zeroValue87
  t51 := Tryd.underlying83
  a51 := Tryd.isAgg83
  z51 := Tryd.sizeOf83
  v51 := Tryd.zeroValue83
  t53 := Tryd.underlying22
  a53 := Tryd.isAgg22
  z53 := Tryd.sizeOf22
  v53 := Tryd.zeroValue22 }
theorem Tryd.bits_LenL (x : Int) (w : World) (h0 : 0 ≤ x) (h1 : x ≤ 18446744073709551615) :
    Calls Tryd.prog 38 #[.int .u64 x] w fun e w' => e = .returned (.int .i64 (Lib.bitLen x.toNat)) ∧ w' = w := Any.bits_Len Tryd.laysL x w h0 h1
end Go.Proofs

namespace Go.Proofs.YtenhgoclfljjlaaDoor.Q

open Go.RowKit

set_option linter.unusedVariables false

set_option linter.unusedSimpArgs false

set_option maxRecDepth 1000000

theorem cell_other (w : World) (b o r : Nat) (u : Value) (h : r ≠ b) : (w.setCell ⟨b, o, none⟩ u).cell? ⟨r, 0, none⟩ = w.cell? ⟨r, 0, none⟩ := World.cell?_of_block (Below.heap_setCell w ⟨b, o, none⟩ u r h)

theorem soft_other (w : World) (b o r : Nat) (u : Value) (h : r ≠ b) : (w.setCell ⟨b, o, none⟩ u).frozen? ⟨r, 0, none⟩ = w.frozen? ⟨r, 0, none⟩ := World.frozen?_of_block (Below.heap_setCell w ⟨b, o, none⟩ u r h)

/-- A store beside the row. -/
theorem Sr.beside {w wr : World} {g off : Nat} {d : Array Int} (h : Sr w g off d wr) {r : Nat} (hr : g < r) (v : Value) : Sr w g off d (wr.setCell ⟨r, 0, none⟩ v) := by
  have e : (wr.setCell ⟨r, 0, none⟩ v).heap[g]? = wr.heap[g]? := Below.heap_setCell wr ⟨r, 0, none⟩ v g (by show g ≠ r; omega)
  refine ⟨?_, fun t ht => ?_, h.2.2.setCell (Nat.le_of_lt hr) v⟩
  · have := (Array.getElem?_eq_some_iff.1 (e.trans (Array.getElem?_eq_getElem h.1))).1
    exact this
  · exact ⟨(World.cell?_of_block (a := ⟨g, off + t, none⟩) e).trans (h.2.1 t ht).1, (World.frozen?_of_block (a := ⟨g, off + t, none⟩) e).trans (h.2.1 t ht).2⟩

/-- A row that is worked on, and a number in a block of its own. -/
def SrR (w : World) (g off : Nat) (d : Array Int) (r : Nat) (v : Value) (wr : World) : Prop := Sr w g off d wr ∧ g < r ∧ wr.cell? ⟨r, 0, none⟩ = some v ∧ wr.frozen? ⟨r, 0, none⟩ = false

theorem SrR.drewN {w wr : World} {g off : Nat} {d : Array Int} {r : Nat} {v : Value} (h : SrR w g off d r v wr) (q : Nat) : SrR w g off d r v (wr.drewN q) := ⟨h.1.drewN q, h.2.1, h.2.2.1, h.2.2.2⟩

theorem SrR.swap {w wr : World} {g off : Nat} {d : Array Int} {r : Nat} {v : Value} (h : SrR w g off d r v wr) {n : Nat} (hn : d.size = n) {i j : Nat} (hi : i < n) (hj : j < n) (q : Nat) {x y : Int} (hx : x = el d j) (hy : y = el d i) :
    SrR w g off (Sort.swp d i j) r v (((wr.setCell ⟨g, off + i, none⟩ (.int .u64 x)).setCell ⟨g, off + j, none⟩ (.int .u64 y)).drewN q) := by
  have hr : r ≠ g := by have := h.2.1; omega
  exact ⟨h.1.swap hn hi hj q hx hy, h.2.1, by show World.cell? _ _ = _; rw [show ∀ (W : World) a, (W.drewN q).cell? a = W.cell? a from fun _ _ => rfl, cell_other _ _ _ _ _ hr, cell_other _ _ _ _ _ hr]; exact h.2.2.1,
    by rw [show ∀ (W : World) a, (W.drewN q).frozen? a = W.frozen? a from fun _ _ => rfl, soft_other _ _ _ _ _ hr, soft_other _ _ _ _ _ hr]; exact h.2.2.2⟩

theorem SrR.set {w wr : World} {g off : Nat} {d : Array Int} {r : Nat} {v : Value} (h : SrR w g off d r v wr) (u : Value) (q : Nat) : SrR w g off d r u ((wr.setCell ⟨r, 0, none⟩ u).drewN q) := by
  obtain ⟨c, e, fr, hb, hc⟩ := Sort.cells_of_cell? h.2.2.1
  have hz : 0 < c.size := (Array.getElem?_eq_some_iff.1 hc).1
  have k : SrR w g off d r u (wr.setCell ⟨r, 0, none⟩ u) := ⟨h.1.beside h.2.1 u, h.2.1, by rw [Sort.setCell_eq, Sort.cell?_mapBlock _ _ _ _ hb]; simp [hz], by rw [Sort.setCell_eq, Sort.frozen?_mapBlock]; exact h.2.2.2⟩
  exact k.drewN q

theorem Sr.alloc {w wr : World} {g off : Nat} {d : Array Int} (h : Sr w g off d wr) (o : Obj) : Sr w g off d (wr.alloc o) := by
  have e := Below.heap_alloc wr o g h.1
  refine ⟨by have := h.1; simp; omega, fun t ht => ?_, h.2.2.alloc (Nat.le_of_lt h.1) o⟩
  exact ⟨(World.cell?_of_block (a := ⟨g, off + t, none⟩) e).trans (h.2.1 t ht).1, (World.frozen?_of_block (a := ⟨g, off + t, none⟩) e).trans (h.2.1 t ht).2⟩

theorem Sr.alloc1 {w wr : World} {g off : Nat} {d : Array Int} (h : Sr w g off d wr) (v : Value) (T : TypeId) : SrR w g off d wr.heap.size v (wr.alloc (.cells #[v] T)) :=
  ⟨h.alloc _, h.1, by rw [World.cell?_alloc_at _ _ _ _ rfl]; rfl, by rw [World.frozen?_alloc_at _ _ _ _ rfl]⟩

theorem nextPow_any (n : Nat) (hn : n < 4611686018427387904) (w : World) :
    Calls Tryd.prog 68 #[.int .i64 n] w fun e w' => e = .returned (.int .u64 ((1 <<< Sort.bitsLen n : Nat) : Int)) ∧ w' = w := by
  have hl : ∀ W, Calls Tryd.prog 38 #[.int .u64 (n : Int)] W fun e w' => e = .returned (.int .i64 (Sort.bitsLen n : Nat)) ∧ w' = W := fun W => by
    have h := Tryd.bits_LenL (n : Int) W (by omega) (by omega)
    rw [Int.toNat_natCast, bitLen_eq _ (by omega)] at h
    exact h
  have hk : Sort.bitsLen n ≤ 62 := (Sort.bitsLen_le_iff n 62).2 (by omega)
  have hp := wrap_two_pow (Sort.bitsLen n) hk
  have nw : IntKind.u64.wrap (n : Int) = (n : Int) := by rw [IntKind.wrap_u64]; omega
  go_enter Tryd.func68, Tryd.ntmps68
  go_wp2_with (go_at_call 38; refine (hl _).mono ?_; rintro e w1 ⟨rfl, hw1⟩; subst hw1)
  go_ret
  exact ⟨rfl, rfl⟩

set_option maxHeartbeats 1600000 in
theorem next_any (w : World) (g off : Nat) (d : Array Int) (r X : Nat) (wr : World) (hX : X < 18446744073709551616) (hS : SrR w g off d r (.int .u64 (X : Int)) wr) :
    Calls Tryd.prog 69 #[.pointer (some ⟨r, 0, none⟩)] wr fun e w' => e = .returned (.int .u64 (Sort.xorNextN X : Nat)) ∧ SrR w g off d r (.int .u64 (Sort.xorNextN X : Nat)) w' := by
  obtain ⟨Y, hY⟩ : ∃ Y : Nat, X ^^^ (X * 8192 % 18446744073709551616) = Y := ⟨_, rfl⟩
  obtain ⟨Z, hZ⟩ : ∃ Z : Nat, Y ^^^ (Y / 128) = Z := ⟨_, rfl⟩
  have lY : Y < 18446744073709551616 := by rw [← hY]; exact Nat.xor_lt_two_pow (n := 64) (by omega) (by omega)
  have lZ : Z < 18446744073709551616 := by rw [← hZ]; exact Nat.xor_lt_two_pow (n := 64) (by omega) (by omega)
  have hV : Sort.xorNextN X = Z ^^^ (Z * 131072 % 18446744073709551616) := by unfold Sort.xorNextN; simp only []; rw [hY, hZ]
  generalize Sort.xorNextN X = V at hV ⊢
  have b1 : bits .xor .u64 (X : Int) (IntKind.u64.wrap ((X : Int) * 8192)) = (Y : Int) := by
    rw [IntKind.wrap_u64, show ((X : Int) * 8192 % 18446744073709551616) = ((X * 8192 % 18446744073709551616 : Nat) : Int) by omega, bits_xor_u64_nat _ _ hX (by omega), hY]
  have b2 : bits .xor .u64 (Y : Int) ((Y : Int) / 128) = (Z : Int) := by
    rw [show ((Y : Int) / 128) = ((Y / 128 : Nat) : Int) by omega, bits_xor_u64_nat _ _ lY (by omega), hZ]
  have b3 : bits .xor .u64 (Z : Int) (IntKind.u64.wrap ((Z : Int) * 131072)) = (V : Int) := by
    rw [IntKind.wrap_u64, show ((Z : Int) * 131072 % 18446744073709551616) = ((Z * 131072 % 18446744073709551616 : Nat) : Int) by omega, bits_xor_u64_nat _ _ lZ (by omega), hV]
  have hc := hS.2.2.1
  have hf := hS.2.2.2
  have hss : ∀ v v', (wr.setCell ⟨r, 0, none⟩ v).setCell ⟨r, 0, none⟩ v' = wr.setCell ⟨r, 0, none⟩ v' := setCell_setCell wr r 0
  have HS := hid hS
  clear hV hY hZ hS
  go_enter Tryd.func69, Tryd.ntmps69
  go_wp2
  go_region
  all_goals go_wp2
  all_goals go_region
  all_goals go_wp2
  all_goals go_region
  all_goals go_wp2
  go_ret
  exact ⟨rfl, HS.out.set _ 3⟩

set_option maxHeartbeats 1600000 in
theorem break_long (g off n cap a L : Nat) (d : Array Int) (w : World) (hS : Sr w g off d w) (hn : d.size = n) (hb : a + L ≤ n) (hz : n < 4611686018427387904) (h8 : 8 ≤ L) :
    Calls Tryd.prog 52 #[.slice (some ⟨g, off, none⟩) n cap, .int .i64 a, .int .i64 ((a + L : Nat) : Int)] w (SrE w g off (Sort.breakPatterns d a (a + L))) := by
  rw [breakPatterns_eq d a L h8]
  obtain ⟨M, hM⟩ : ∃ M : Nat, 1 <<< Sort.bitsLen L = M := ⟨_, rfl⟩
  have hM1 : 1 ≤ M := by rw [← hM, Nat.one_shiftLeft]; exact Nat.two_pow_pos _
  have hM2 : M ≤ 2 * L := by rw [← hM, Nat.one_shiftLeft]; exact Sort.two_pow_bitsLen_le (by omega)
  have hnp : ∀ W, Calls Tryd.prog 68 #[.int .i64 (L : Int)] W fun e w' => e = .returned (.int .u64 (M : Int)) ∧ w' = W := by rw [← hM]; exact fun W => nextPow_any L (by omega) W
  rw [hM]
  clear hM
  have HNP := hid hnp
  clear hnp
  have eL : (a : Int) + (L : Int) - (a : Int) = (L : Int) := by omega
  obtain ⟨Q, hQ⟩ : ∃ Q, L / 4 = Q := ⟨_, rfl⟩
  have eQ : (L : Int) / 4 = (Q : Int) := by omega
  rw [hQ]
  obtain ⟨I, hI⟩ : ∃ I, a + Q * 2 - 1 = I := ⟨_, rfl⟩
  have eI : (a : Int) + (Q : Int) * 2 - 1 = (I : Int) := by omega
  have hI2 : a < I ∧ I + 2 < a + L := by omega
  rw [hI]
  have ha := hS.alloc1 (.int .u64 (L : Int)) 119
  obtain ⟨r, er⟩ : ∃ r, w.heap.size = r := ⟨_, rfl⟩
  rw [er] at ha
  have hof : (UInt64.ofNat L).toNat = L := by rw [UInt64.toNat_ofNat']; omega
  have HA := hid ha
  have HL := hid h8
  have HOF := hid hof
  clear ha hQ hof hS
  go_enter Tryd.func52, Tryd.ntmps52
  go_upto_region 3 with fail
  generalize w.alloc (.cells #[.int .u64 (L : Int)] 119) = W1 at HA ⊢
  go_wp2_with (go_at_call 68; refine (HNP.out _).mono ?_; rintro e w1 ⟨rfl, hw1⟩; subst hw1)
  go_loopg [9] 4 (fun k s9 wr => ∃ (z : Int) (t : Nat) (R : UInt64) (dk : Array Int), s9 = .int .i64 z ∧ z = (I : Int) + (t : Int) ∧ t ≤ 3 ∧ 4 - t ≤ k ∧ dk.size = n ∧ SrR w g off dk r (.int .u64 (R.toNat : Int)) wr ∧ bpRest a L M I (3 - t) t (R, dk) = bpRest a L M I 3 0 (UInt64.ofNat L, d))
  case atStart => exact ⟨_, 0, UInt64.ofNat L, d, rfl, by omega, by omega, by omega, hn, by rw [HOF.out]; exact HA.out, rfl⟩
  case round =>
    clear HA HOF
    obtain ⟨z, t, R, dk, rfl, ez, ht, hk, hd, hs, heq⟩ := hrel
    by_cases h3 : t < 3
    · obtain ⟨p, rfl⟩ : ∃ p : Nat, z = p := ⟨I + t, by omega⟩
      have ep : I + t = p := by omega
      have hle : (p : Int) ≤ (a : Int) + (Q : Int) * 2 + 1 := by omega
      have hnx : Calls Tryd.prog 69 #[.pointer (some ⟨r, 0, none⟩)] wr fun e w' => e = .returned (.int .u64 ((Sort.xorNext R).toNat : Int)) ∧ SrR w g off dk r (.int .u64 ((Sort.xorNext R).toNat : Int)) w' := by
        rw [Sort.xorNext_toNat]
        exact next_any w g off dk r R.toNat wr (by have := R.toNat_lt; omega) hs
      have hlt : (Sort.xorNext R).toNat < 18446744073709551616 := by have := (Sort.xorNext R).toNat_lt; omega
      have ho : ∀ o, (if (Sort.xorNext R).toNat &&& (M - 1) ≥ L then ((Sort.xorNext R).toNat &&& (M - 1)) - L else (Sort.xorNext R).toNat &&& (M - 1)) = o → bpRest a L M I (3 - t) t (R, dk) = bpRest a L M I (3 - (t + 1)) (t + 1) (Sort.xorNext R, Sort.swp dk (I + t) (a + o)) := fun o h => bp_step a L M I t R dk o h3 h
      rw [ep] at ho
      have ea : bits .and .u64 ((Sort.xorNext R).toNat : Int) ((M : Int) - 1) = (((Sort.xorNext R).toNat &&& (M - 1) : Nat) : Int) := by
        rw [show (M : Int) - 1 = ((M - 1 : Nat) : Int) by omega, bits_and_u64_nat _ _ hlt (by omega)]
      have ob : (Sort.xorNext R).toNat &&& (M - 1) ≤ M - 1 := Nat.and_le_right
      generalize (Sort.xorNext R).toNat &&& (M - 1) = o1 at ho ea ob
      have ow : IntKind.i64.wrap (o1 : Int) = (o1 : Int) := by rw [IntKind.wrap_i64]; omega
      generalize hX : (Sort.xorNext R).toNat = X at hnx ea hlt
      have HE := hid heq
      have HNX := hid hnx
      have EP := hid ep
      clear hs heq hnx
      by_cases hoL : L ≤ o1
      · obtain ⟨o, eo⟩ : ∃ o, o1 - L = o := ⟨_, rfl⟩
        have eoz : (o1 : Int) - (L : Int) = (o : Int) := by omega
        have HO := hid (ho o (by rw [if_pos hoL]; exact eo))
        have hob : o < L := by omega
        have hol : (L : Int) ≤ (o1 : Int) := by omega
        clear ho eo
        go_upto_region 10 with (go_at_call 69; refine HNX.out.mono ?_; rintro e w1 ⟨rfl, hs2⟩)
        rw [← hX] at hs2
        by_cases hp : p = a + o
        · subst hp
          have hc := hs2.1.cell hd
          have hf := hs2.1.soft hd
          have HS2 := hid hs2
          clear hs2
          go_wp2_with fail
          go_region
          go_wp2
          go_roundg (4 - (t + 1))
          case measure => omega
          case rel => exact ⟨_, t + 1, Sort.xorNext R, _, rfl, by omega, by omega, Nat.le_refl _, by rw [swp_size]; exact hd, HS2.out.swap hd (by omega) (by omega) 1 rfl rfl, by rw [← HE.out, HO.out]⟩
        · have hp2 : (p : Int) ≠ (a : Int) + (o : Int) := by omega
          have hc := hs2.1.cell hd
          have hf := hs2.1.soft hd
          have HS2 := hid hs2
          clear hs2
          go_wp2_with fail
          go_region
          go_wp2
          go_roundg (4 - (t + 1))
          case measure => omega
          case rel => exact ⟨_, t + 1, Sort.xorNext R, _, rfl, by omega, by omega, Nat.le_refl _, by rw [swp_size]; exact hd, HS2.out.swap hd (by omega) (by omega) 1 rfl rfl, by rw [← HE.out, HO.out]⟩
      · obtain ⟨o, eo⟩ : ∃ o, o = o1 := ⟨_, rfl⟩
        subst eo
        have HO := hid (ho o (by rw [if_neg hoL]))
        have hob : o < L := by omega
        clear ho
        go_upto_region 10 with (go_at_call 69; refine HNX.out.mono ?_; rintro e w1 ⟨rfl, hs2⟩)
        rw [← hX] at hs2
        by_cases hp : p = a + o
        · subst hp
          have hc := hs2.1.cell hd
          have hf := hs2.1.soft hd
          have HS2 := hid hs2
          clear hs2
          go_wp2_with fail
          go_region
          go_wp2
          go_roundg (4 - (t + 1))
          case measure => omega
          case rel => exact ⟨_, t + 1, Sort.xorNext R, _, rfl, by omega, by omega, Nat.le_refl _, by rw [swp_size]; exact hd, HS2.out.swap hd (by omega) (by omega) 1 rfl rfl, by rw [← HE.out, HO.out]⟩
        · have hp2 : (p : Int) ≠ (a : Int) + (o : Int) := by omega
          have hc := hs2.1.cell hd
          have hf := hs2.1.soft hd
          have HS2 := hid hs2
          clear hs2
          go_wp2_with fail
          go_region
          go_wp2
          go_roundg (4 - (t + 1))
          case measure => omega
          case rel => exact ⟨_, t + 1, Sort.xorNext R, _, rfl, by omega, by omega, Nat.le_refl _, by rw [swp_size]; exact hd, HS2.out.swap hd (by omega) (by omega) 1 rfl rfl, by rw [← HE.out, HO.out]⟩
    · obtain rfl : t = 3 := by omega
      have hgt : ¬ (z ≤ (a : Int) + (Q : Int) * 2 + 1) := by omega
      have HS := hid hs
      have HE := hid heq
      clear hs heq
      go_wp2
      go_end0
      exact ⟨rfl, by rw [← HE.out]; exact HS.out.1⟩

theorem break_any (g off n cap a b : Nat) (d : Array Int) (w : World) (hS : Sr w g off d w) (hn : d.size = n) (hab : a ≤ b) (hb : b ≤ n) (hz : n < 4611686018427387904) :
    Calls Tryd.prog 52 #[.slice (some ⟨g, off, none⟩) n cap, .int .i64 a, .int .i64 b] w (SrE w g off (Sort.breakPatterns d a b)) := by
  by_cases h8 : 8 ≤ b - a
  · obtain ⟨L, rfl⟩ : ∃ L, b = a + L := ⟨b - a, by omega⟩
    exact break_long g off n cap a L d w hS hn hb hz (by omega)
  · have e : Sort.breakPatterns d a b = d := by unfold Sort.breakPatterns; simp only []; rw [if_neg h8]
    rw [e]
    have h8z : ¬ (8 : Int) ≤ (b : Int) - (a : Int) := by omega
    have HS := hid hS
    clear hS e
    go_enter Tryd.func52, Tryd.ntmps52
    go_wp2
    go_end0
    exact ⟨rfl, HS.out⟩

end Go.Proofs.YtenhgoclfljjlaaDoor.Q

namespace Go.Proofs.YtenhgoclfljjlaaDoor.Q

open Go.RowKit

set_option linter.unusedVariables false

set_option linter.unusedSimpArgs false

set_option maxRecDepth 1000000

set_option maxHeartbeats 1600000 in
theorem order2_any (g off n cap a b r s : Nat) (d : Array Int) (w wr : World) (hS : SrR w g off d r (.int .i64 (s : Int)) wr) (hn : d.size = n) (ha : a < n) (hb : b < n) (hz : n < 4611686018427387904) (hs : s ≤ 100) :
    Calls Tryd.prog 84 #[.slice (some ⟨g, off, none⟩) n cap, .int .i64 a, .int .i64 b, .pointer (some ⟨r, 0, none⟩)] wr fun e w' => e = .returned (.tuple #[.int .i64 ((Sort.order2 Sort.ltInt d a b s).1 : Nat), .int .i64 ((Sort.order2 Sort.ltInt d a b s).2.1 : Nat)]) ∧ SrR w g off d r (.int .i64 ((Sort.order2 Sort.ltInt d a b s).2.2 : Nat)) w' := by
  have e1 : ls (el d b) (el d a) = true → Sort.order2 Sort.ltInt d a b s = (b, a, s + 1) := fun h => if_pos h
  have e2 : ls (el d b) (el d a) = false → Sort.order2 Sort.ltInt d a b s = (a, b, s) := fun h => if_neg (by rw [show Sort.ltInt d[b]! d[a]! = false from h]; decide)
  generalize Sort.order2 Sort.ltInt d a b s = R at e1 e2 ⊢
  have hc := hS.1.cell hn
  have hf := hS.1.soft hn
  have hcr := hS.2.2.1
  have hfr := hS.2.2.2
  have HS := hid hS
  have E1 := hid e1
  have E2 := hid e2
  clear hS e1 e2
  go_enter Tryd.func84, Tryd.ntmps84
  go_wp2
  go_quiet (first | (go_at_call 56; refine Calls.quiet_of_same (less_any _ _ _)))
  go_wp2
  · have hl : ls (el d b) (el d a) = true := by assumption
    obtain rfl := E1.out hl
    go_ret2
    exact ⟨rfl, (HS.out.drewN nq).set _ 0⟩
  · have hl : ls (el d b) (el d a) = false := by assumption
    obtain rfl := E2.out hl
    go_ret2
    exact ⟨rfl, HS.out.drewN nq⟩

set_option maxHeartbeats 1600000 in
theorem median_any (g off n cap a b c r s : Nat) (d : Array Int) (w wr : World) (hS : SrR w g off d r (.int .i64 (s : Int)) wr) (hn : d.size = n) (ha : a < n) (hb : b < n) (hc : c < n) (hz : n < 4611686018427387904) (hs : s ≤ 90) :
    Calls Tryd.prog 71 #[.slice (some ⟨g, off, none⟩) n cap, .int .i64 a, .int .i64 b, .int .i64 c, .pointer (some ⟨r, 0, none⟩)] wr fun e w' => e = .returned (.int .i64 ((Sort.median Sort.ltInt d a b c s).1 : Nat)) ∧ SrR w g off d r (.int .i64 ((Sort.median Sort.ltInt d a b c s).2 : Nat)) w' := by
  have l1 := order2_lt d s ha hb
  have w1 := order2_swaps d a b s
  have h1 := order2_any g off n cap a b r s d w wr hS hn ha hb hz (by omega)
  unfold Sort.median
  simp only []
  generalize Sort.order2 Sort.ltInt d a b s = R1 at l1 w1 h1 ⊢
  obtain ⟨x1, y1, s1⟩ := R1
  dsimp only at l1 w1 h1 ⊢
  have l2 := order2_lt d s1 l1.2 hc
  have w2 := order2_swaps d y1 c s1
  have h2 : ∀ W, SrR w g off d r (.int .i64 (s1 : Int)) W → _ := fun W h => order2_any g off n cap y1 c r s1 d w W h hn l1.2 hc hz (by omega)
  generalize Sort.order2 Sort.ltInt d y1 c s1 = R2 at l2 w2 h2 ⊢
  obtain ⟨x2, y2, s2⟩ := R2
  dsimp only at l2 w2 h2 ⊢
  have l3 := order2_lt d s2 l1.1 l2.1
  have h3 : ∀ W, SrR w g off d r (.int .i64 (s2 : Int)) W → _ := fun W h => order2_any g off n cap x1 x2 r s2 d w W h hn l1.1 l2.1 hz (by omega)
  generalize Sort.order2 Sort.ltInt d x1 x2 s2 = R3 at l3 h3 ⊢
  obtain ⟨x3, y3, s3⟩ := R3
  dsimp only at l3 h3 ⊢
  have H1 := hid h1
  have H2 := hid h2
  have H3 := hid h3
  clear h1 h2 h3 hS
  go_enter Tryd.func71, Tryd.ntmps71
  go_upto_region 2 with (go_at_call 84; refine H1.out.mono ?_; rintro e w1 ⟨rfl, k1⟩)
  go_upto_region 3 with (go_at_call 84; refine (H2.out _ k1).mono ?_; rintro e w2 ⟨rfl, k2⟩)
  go_wp2_with (go_at_call 84; refine (H3.out _ k2).mono ?_; rintro e w3 ⟨rfl, k3⟩)
  go_ret
  exact ⟨rfl, k3⟩

theorem median_lt (d : Array Int) {a b c n : Nat} (s : Nat) (ha : a < n) (hb : b < n) (hc : c < n) : (Sort.median Sort.ltInt d a b c s).1 < n ∧ (Sort.median Sort.ltInt d a b c s).2 ≤ s + 3 := by
  have l1 := order2_lt d s ha hb
  have w1 := order2_swaps d a b s
  have l2 := order2_lt d (Sort.order2 Sort.ltInt d a b s).2.2 l1.2 hc
  have w2 := order2_swaps d (Sort.order2 Sort.ltInt d a b s).2.1 c (Sort.order2 Sort.ltInt d a b s).2.2
  have l3 := order2_lt d (Sort.order2 Sort.ltInt d (Sort.order2 Sort.ltInt d a b s).2.1 c (Sort.order2 Sort.ltInt d a b s).2.2).2.2 l1.1 l2.1
  have w3 := order2_swaps d (Sort.order2 Sort.ltInt d a b s).1 (Sort.order2 Sort.ltInt d (Sort.order2 Sort.ltInt d a b s).2.1 c (Sort.order2 Sort.ltInt d a b s).2.2).1 (Sort.order2 Sort.ltInt d (Sort.order2 Sort.ltInt d a b s).2.1 c (Sort.order2 Sort.ltInt d a b s).2.2).2.2
  refine ⟨l3.2, Nat.le_trans w3 (by omega)⟩

set_option maxHeartbeats 1600000 in
theorem adjacent_any (g off n cap a r s : Nat) (d : Array Int) (w wr : World) (hS : SrR w g off d r (.int .i64 (s : Int)) wr) (hn : d.size = n) (h0 : 0 < a) (ha : a + 1 < n) (hz : n < 4611686018427387904) (hs : s ≤ 90) :
    Calls Tryd.prog 70 #[.slice (some ⟨g, off, none⟩) n cap, .int .i64 a, .pointer (some ⟨r, 0, none⟩)] wr fun e w' => e = .returned (.int .i64 ((Sort.medianAdjacent Sort.ltInt d a s).1 : Nat)) ∧ SrR w g off d r (.int .i64 ((Sort.medianAdjacent Sort.ltInt d a s).2 : Nat)) w' := by
  obtain ⟨p, rfl⟩ : ∃ p, a = p + 1 := ⟨a - 1, by omega⟩
  have h1 := median_any g off n cap p (p + 1) (p + 1 + 1) r s d w wr hS hn (by omega) (by omega) (by omega) hz hs
  unfold Sort.medianAdjacent
  rw [Nat.add_sub_cancel]
  generalize Sort.median Sort.ltInt d p (p + 1) (p + 1 + 1) s = R at h1 ⊢
  simp only [Int.natCast_add, Int.natCast_one] at h1
  have e1 : (p : Int) + 1 - 1 = (p : Int) := by omega
  have H1 := hid h1
  clear h1 hS
  go_enter Tryd.func70, Tryd.ntmps70
  go_wp2_with (go_at_call 71; refine H1.out.mono ?_; rintro e w1 ⟨rfl, k1⟩)
  go_ret
  exact ⟨rfl, k1⟩

/-- A pivot, and what the exchanges tell of it. -/
def piv (p s : Nat) : Nat × Sort.Hint := (p, if s = 0 then .increasing else if s = 12 then .decreasing else .unknown)

theorem cp_small (d : Array Int) {a b : Nat} (h : ¬ 8 ≤ b - a) : Sort.choosePivot Sort.ltInt d a b = piv (a + (b - a) / 4 * 2) 0 := by
  unfold Sort.choosePivot
  simp only []
  rw [if_neg h]
  rfl

theorem cp_mid (d : Array Int) {a b : Nat} (h : 8 ≤ b - a) (h2 : ¬ 50 ≤ b - a) : Sort.choosePivot Sort.ltInt d a b = piv (Sort.median Sort.ltInt d (a + (b - a) / 4 * 1) (a + (b - a) / 4 * 2) (a + (b - a) / 4 * 3) 0).1 (Sort.median Sort.ltInt d (a + (b - a) / 4 * 1) (a + (b - a) / 4 * 2) (a + (b - a) / 4 * 3) 0).2 := by
  unfold Sort.choosePivot
  simp only []
  rw [if_pos h, if_neg h2]
  rfl

theorem cp_long (d : Array Int) {a b x y z s1 s2 s3 p s : Nat} (h2 : 50 ≤ b - a) (h3 : Sort.medianAdjacent Sort.ltInt d (a + (b - a) / 4 * 1) 0 = (x, s1)) (h4 : Sort.medianAdjacent Sort.ltInt d (a + (b - a) / 4 * 2) s1 = (y, s2)) (h5 : Sort.medianAdjacent Sort.ltInt d (a + (b - a) / 4 * 3) s2 = (z, s3)) (h6 : Sort.median Sort.ltInt d x y z s3 = (p, s)) :
    Sort.choosePivot Sort.ltInt d a b = piv p s := by
  unfold Sort.choosePivot
  simp only []
  rw [if_pos (show 8 ≤ b - a by omega), if_pos h2, h3]
  dsimp only
  rw [h4]
  dsimp only
  rw [h5]
  dsimp only
  rw [h6]
  rfl

/-- What choosePivotOrdered answers. -/
def PvE (w : World) (g off : Nat) (d : Array Int) (p : Nat × Sort.Hint) (e : Ending) (w' : World) : Prop := e = .returned (.tuple #[.int .i64 (p.1 : Nat), .int .i64 (Sort.hintCode p.2)]) ∧ Sr w g off d w'

set_option maxHeartbeats 3200000 in
theorem pivot_any (g off n cap a b : Nat) (d : Array Int) (w : World) (hS : Sr w g off d w) (hn : d.size = n) (hab : a ≤ b) (hb : b ≤ n) (hb0 : 0 < n) (hz : n < 4611686018427387904) :
    Calls Tryd.prog 53 #[.slice (some ⟨g, off, none⟩) n cap, .int .i64 a, .int .i64 b] w (PvE w g off d (Sort.choosePivot Sort.ltInt d a b)) := by
  have ha := hS.alloc1 (.int .i64 0) 3
  obtain ⟨r, er⟩ : ∃ r, w.heap.size = r := ⟨_, rfl⟩
  rw [er] at ha
  obtain ⟨L, eL⟩ : ∃ L, b - a = L := ⟨_, rfl⟩
  have eLz : (b : Int) - (a : Int) = (L : Int) := by omega
  obtain ⟨Q, eQ⟩ : ∃ Q, L / 4 = Q := ⟨_, rfl⟩
  have eQz : (L : Int) / 4 = (Q : Int) := by omega
  have hQ : Q * 4 ≤ L := by omega
  by_cases h8 : 8 ≤ L
  · by_cases h50 : 50 ≤ L
    · have l3 := median_lt d 0 (a := a + Q * 1 - 1) (b := a + Q * 1) (c := a + Q * 1 + 1) (n := n) (by omega) (by omega) (by omega)
      have c3 := adjacent_any g off n cap (a + Q * 1) r 0 d w
      have e3 : ∃ x s1, Sort.medianAdjacent Sort.ltInt d (a + Q * 1) 0 = (x, s1) := ⟨_, _, rfl⟩
      obtain ⟨x, s1, e3⟩ := e3
      have l3' : x < n ∧ s1 ≤ 3 := by
        unfold Sort.medianAdjacent at e3
        rw [e3] at l3
        exact l3
      have l4 := median_lt d s1 (a := a + Q * 2 - 1) (b := a + Q * 2) (c := a + Q * 2 + 1) (n := n) (by omega) (by omega) (by omega)
      have e4 : ∃ y s2, Sort.medianAdjacent Sort.ltInt d (a + Q * 2) s1 = (y, s2) := ⟨_, _, rfl⟩
      obtain ⟨y, s2, e4⟩ := e4
      have l4' : y < n ∧ s2 ≤ 6 := by
        unfold Sort.medianAdjacent at e4
        rw [e4] at l4
        dsimp only at l4
        omega
      have l5 := median_lt d s2 (a := a + Q * 3 - 1) (b := a + Q * 3) (c := a + Q * 3 + 1) (n := n) (by omega) (by omega) (by omega)
      have e5 : ∃ z s3, Sort.medianAdjacent Sort.ltInt d (a + Q * 3) s2 = (z, s3) := ⟨_, _, rfl⟩
      obtain ⟨z, s3, e5⟩ := e5
      have l5' : z < n ∧ s3 ≤ 9 := by
        unfold Sort.medianAdjacent at e5
        rw [e5] at l5
        dsimp only at l5
        omega
      have e6 : ∃ p s, Sort.median Sort.ltInt d x y z s3 = (p, s) := ⟨_, _, rfl⟩
      obtain ⟨p, s, e6⟩ := e6
      have k3 : ∀ W, SrR w g off d r (.int .i64 0) W → _ := fun W h => adjacent_any g off n cap (a + Q * 1) r 0 d w W h hn (by omega) (by omega) hz (by omega)
      have k4 : ∀ W, SrR w g off d r (.int .i64 (s1 : Int)) W → _ := fun W h => adjacent_any g off n cap (a + Q * 2) r s1 d w W h hn (by omega) (by omega) hz (by omega)
      have k5 : ∀ W, SrR w g off d r (.int .i64 (s2 : Int)) W → _ := fun W h => adjacent_any g off n cap (a + Q * 3) r s2 d w W h hn (by omega) (by omega) hz (by omega)
      have k6 : ∀ W, SrR w g off d r (.int .i64 (s3 : Int)) W → _ := fun W h => median_any g off n cap x y z r s3 d w W h hn l3'.1 l4'.1 l5'.1 hz (by omega)
      rw [cp_long d (by rw [eL]; exact h50) (by rw [eL, eQ]; exact e3) (by rw [eL, eQ]; exact e4) (by rw [eL, eQ]; exact e5) e6]
      rw [e3] at k3
      rw [e4] at k4
      rw [e5] at k5
      rw [e6] at k6
      simp only [Int.natCast_add, Int.natCast_mul, Nat.mul_one] at k3 k4 k5
      have h8z : (8 : Int) ≤ (L : Int) := by omega
      have h50z : (50 : Int) ≤ (L : Int) := by omega
      have HA := hid ha
      have K3 := hid k3
      have K4 := hid k4
      have K5 := hid k5
      have K6 := hid k6
      clear ha k3 k4 k5 k6 e3 e4 e5 e6 l3 l4 l5 hS c3 l3' l4' l5'
      go_enter Tryd.func53, Tryd.ntmps53
      go_upto_region 3 with fail
      generalize w.alloc (.cells #[.int .i64 0] 3) = W1 at HA ⊢
      go_upto_region 9 with (go_at_call 70; refine (K3.out _ HA.out).mono ?_; rintro e w1 ⟨rfl, k1⟩)
      go_upto_region 10 with (go_at_call 70; refine (K4.out _ k1).mono ?_; rintro e w2 ⟨rfl, k2⟩)
      go_upto_region 11 with (go_at_call 70; refine (K5.out _ k2).mono ?_; rintro e w3 ⟨rfl, k3⟩)
      go_upto_region 12 with (go_at_call 71; refine (K6.out _ k3).mono ?_; rintro e w4 ⟨rfl, k4⟩)
      have hc := k4.2.2.1
      have H4 := hid k4
      clear k1 k2 k3 k4 K3 K4 K5 K6 HA
      by_cases hz0 : s = 0
      · subst hz0
        go_wp2
        go_ret2
        exact ⟨rfl, H4.out.1⟩
      · have hz1 : ((s : Int) == 0) = false := by simp; omega
        by_cases hz2 : s = 12
        · subst hz2
          go_wp2
          go_ret2
          exact ⟨rfl, H4.out.1⟩
        · have hz3 : ((s : Int) == 12) = false := by simp; omega
          have hz4 : Sort.hintCode (piv p s).2 = 0 := by unfold piv; rw [if_neg hz0, if_neg hz2]; rfl
          have HZ4 := hid hz4
          clear hz4
          go_wp2
          go_ret2
          exact ⟨by rw [HZ4.out]; rfl, H4.out.1⟩
    · have l6 := median_lt d 0 (a := a + Q * 1) (b := a + Q * 2) (c := a + Q * 3) (n := n) (by omega) (by omega) (by omega)
      have k6 : ∀ W, SrR w g off d r (.int .i64 0) W → _ := fun W h => median_any g off n cap (a + Q * 1) (a + Q * 2) (a + Q * 3) r 0 d w W h hn (by omega) (by omega) (by omega) hz (by omega)
      rw [cp_mid d (by omega) (by omega), eL, eQ]
      generalize Sort.median Sort.ltInt d (a + Q * 1) (a + Q * 2) (a + Q * 3) 0 = R at k6 l6 ⊢
      obtain ⟨p, s⟩ := R
      dsimp only at k6 l6 ⊢
      simp only [Int.natCast_add, Int.natCast_mul, Nat.mul_one] at k6
      have h8z : (8 : Int) ≤ (L : Int) := by omega
      have h50z : ¬ (50 : Int) ≤ (L : Int) := by omega
      have HA := hid ha
      have K6 := hid k6
      clear ha k6 hS l6
      go_enter Tryd.func53, Tryd.ntmps53
      go_upto_region 3 with fail
      generalize w.alloc (.cells #[.int .i64 0] 3) = W1 at HA ⊢
      go_upto_region 12 with (go_at_call 71; refine (K6.out _ HA.out).mono ?_; rintro e w4 ⟨rfl, k4⟩)
      have hc := k4.2.2.1
      have H4 := hid k4
      clear k4 K6 HA
      by_cases hz0 : s = 0
      · subst hz0
        go_wp2
        go_ret2
        exact ⟨rfl, H4.out.1⟩
      · have hz1 : ((s : Int) == 0) = false := by simp; omega
        by_cases hz2 : s = 12
        · subst hz2
          go_wp2
          go_ret2
          exact ⟨rfl, H4.out.1⟩
        · have hz3 : ((s : Int) == 12) = false := by simp; omega
          have hz4 : Sort.hintCode (piv p s).2 = 0 := by unfold piv; rw [if_neg hz0, if_neg hz2]; rfl
          have HZ4 := hid hz4
          clear hz4
          go_wp2
          go_ret2
          exact ⟨by rw [HZ4.out]; rfl, H4.out.1⟩
  · rw [cp_small d (by omega), eL, eQ]
    have h8z : ¬ (8 : Int) ≤ (L : Int) := by omega
    have hc := ha.2.2.1
    have HA := hid ha
    clear ha hS
    go_enter Tryd.func53, Tryd.ntmps53
    go_upto_region 3 with fail
    generalize w.alloc (.cells #[.int .i64 0] 3) = W1 at HA hc ⊢
    go_wp2
    go_ret2
    exact ⟨by simp [piv, Sort.hintCode], HA.out.1⟩

end Go.Proofs.YtenhgoclfljjlaaDoor.Q
