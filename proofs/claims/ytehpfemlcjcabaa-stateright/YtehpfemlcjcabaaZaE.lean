/-
  What the reference's sizesOK and Head answer.
  What the reference's offset answers.
  What word.Bytes, ssz.appendOffset and ssz.totalLength answer.
  Lists of bytes; what the reference's Same and ssz.totalLength answer.
-/
import Derived.Test.YtehpfemlcjcabaaZaD
namespace Go.Proofs.Ytehpfemlcjcabaa.Z

open Go.RowKit

set_option linter.unusedVariables false

set_option linter.unusedSimpArgs false

set_option maxHeartbeats 400000 in
theorem rsizes_any (zs : Nat → Int) (a : Option Addr) (n cap : Nat) (w : World) (hn : Nms .i64 w a n zs) (hnb : n ≤ 9223372036854775807) :
    Calls Try.prog 83 #[.slice a n cap] w fun e w' => e = .returned (.bool (szB zs n)) ∧ w' = w := by
  by_cases h1 : n < 1
  · have e := szB_false (zs := zs) (n := n) (.inl (by omega))
    have h1' : (n : Int) < 1 := by omega
    have E := hid e
    clear e hn
    go_enter Try.func83, Try.ntmps83
    go_wp2
    go_ret
    exact ⟨E.out ▸ rfl, rfl⟩
  · by_cases h2 : 64 < n
    · have e := szB_false (zs := zs) (n := n) (.inr (.inl h2))
      have h1' : ¬ (n : Int) < 1 := by omega
      have h2' : (64 : Int) < (n : Int) := by omega
      have E := hid e
      clear e hn
      go_enter Try.func83, Try.ntmps83
      go_wp2
      go_ret
      exact ⟨E.out ▸ rfl, rfl⟩
    · have h1' : ¬ (n : Int) < 1 := by omega
      have h2' : ¬ (64 : Int) < (n : Int) := by omega
      rcases hn with h | ⟨b, off, rfl, hb, hc⟩
      · omega
      have HC := hid hc
      clear hc
      go_enter Try.func83, Try.ntmps83
      go_wp2
      go_loopw [3] (fun v wr => ∃ k : Nat, k ≤ n ∧ v = .int .i64 k ∧ wr = w ∧ ∀ i, i < k → okS (zs i)) (fun v _ => n - (intOf v).toNat)
      case atStart => exact ⟨0, by omega, rfl, rfl, fun i hi => by omega⟩
      case round =>
        obtain ⟨k, hk, rfl, rfl, hok⟩ := hrel
        by_cases hkn : k < n
        · have ck := HC.out k hkn
          obtain ⟨z, hz⟩ : ∃ z, zs k = z := ⟨_, rfl⟩
          rw [hz] at ck
          have k1 : (k : Int) < (n : Int) := by omega
          have k2 : (0 : Int) ≤ (k : Int) := by omega
          have HOK := hid hok
          have HZ := hid hz
          clear hok hz
          by_cases hlo : z < 0
          · have e := szB_false (zs := zs) (n := n) (.inr (.inr ⟨k, hkn, by rw [HZ.out]; unfold okS; omega⟩))
            have E := hid e
            clear e
            go_wp2
            go_ret
            exact ⟨E.out ▸ rfl, rfl⟩
          · by_cases hhi : 65536 < z
            · have e := szB_false (zs := zs) (n := n) (.inr (.inr ⟨k, hkn, by rw [HZ.out]; unfold okS; omega⟩))
              have E := hid e
              clear e
              go_wp2
              go_ret
              exact ⟨E.out ▸ rfl, rfl⟩
            · have hlo' : 0 ≤ z := by omega
              have hhi' : z ≤ 65536 := by omega
              go_wp2
              go_roundw
              case rel =>
                refine ⟨k + 1, by omega, by go_num, trivial, fun i hi => ?_⟩
                by_cases hik : i = k
                · subst hik; rw [HZ.out]; exact ⟨hlo', hhi'⟩
                · exact HOK.out i (by omega)
              case measure => simp [intOf]; omega
        · have ek : k = n := by omega
          subst ek
          have e := szB_true (zs := zs) (n := k) (by omega) (by omega) hok
          have E := hid e
          clear e hok
          go_wp2
          go_ret
          exact ⟨E.out ▸ rfl, rfl⟩

set_option maxHeartbeats 400000 in
theorem rhead_any (zs : Nat → Int) (a : Option Addr) (n cap : Nat) (w : World) (hn : Nms .i64 w a n zs) (hn1 : 1 ≤ n) (hnb : n ≤ 64) (hok : ∀ i, i < n → okS (zs i)) :
    Calls Try.prog 84 #[.slice a n cap] w fun e w' => e = .returned (.int .i64 (hdL zs n)) ∧ w' = w := by
  rcases hn with h | ⟨b, off, rfl, hb, hc⟩
  · omega
  have HC := hid hc
  have HOK := hid hok
  clear hc hok
  go_enter Try.func84, Try.ntmps84
  go_wp2
  go_loopw [3, 4] (fun s v wr => ∃ k : Nat, k ≤ n ∧ v = .int .i64 k ∧ wr = w ∧ s = .int .i64 ((hdL zs k : Nat) : Int)) (fun _ v _ => n - (intOf v).toNat)
  case atStart => exact ⟨0, by omega, rfl, rfl, rfl⟩
  case round =>
    obtain ⟨k, hk, rfl, rfl, rfl⟩ := hrel
    by_cases hkn : k < n
    · have ck := HC.out k hkn
      have hbd := hdL_bd (zs := zs) k (fun i hi => HOK.out i (by omega))
      have hokk := HOK.out k hkn
      have hsu : hdL zs (k + 1) = hdL zs k + inH (zs k) := rfl
      obtain ⟨z, ez⟩ : ∃ z, zs k = z := ⟨_, rfl⟩
      obtain ⟨S, eS⟩ : ∃ S, hdL zs k = S := ⟨_, rfl⟩
      rw [ez] at ck hokk hsu
      rw [eS] at hbd hsu ⊢
      obtain ⟨z1, z2⟩ := hokk
      have k1 : (k : Int) < (n : Int) := by omega
      have k2 : (0 : Int) ≤ (k : Int) := by omega
      have s1 : (S : Int) ≤ 4194304 := by omega
      have HSU := hid hsu
      clear hsu ez eS hbd
      by_cases h0 : z = 0
      · subst h0
        go_wp2
        go_roundw
        case rel =>
          refine ⟨k + 1, by omega, by go_num, trivial, ?_⟩
          rw [HSU.out]
          rfl
        case measure => simp [intOf]; omega
      · go_wp2
        go_roundw
        case rel =>
          refine ⟨k + 1, by omega, by go_num, trivial, ?_⟩
          rw [HSU.out]
          unfold inH
          rw [if_neg h0]
          congr 1
          omega
        case measure => simp [intOf]; omega
    · have ek : k = n := by omega
      subst ek
      go_wp2
      go_ret
      exact ⟨rfl, rfl⟩

end Go.Proofs.Ytehpfemlcjcabaa.Z

namespace Go.Proofs.Ytehpfemlcjcabaa.Z

open Go.RowKit

set_option linter.unusedVariables false

set_option linter.unusedSimpArgs false

end Go.Proofs.Ytehpfemlcjcabaa.Z

namespace Go.Proofs.Ytehpfemlcjcabaa.Z

open Go.RowKit

set_option linter.unusedVariables false

set_option linter.unusedSimpArgs false

/-- The byte at place i, the lowest first. -/
def bt (n : Int) : Nat → Int
  | 0 => n % 256
  | 1 => n / 256 % 256
  | 2 => n / 65536 % 256
  | 3 => n / 16777216 % 256
  | 4 => n / 4294967296 % 256
  | 5 => n / 1099511627776 % 256
  | 6 => n / 281474976710656 % 256
  | _ => n / 72057594037927936 % 256

set_option maxHeartbeats 1000000 in
theorem bytes_any (n : Int) (w : World) (h0 : 0 ≤ n) (h1 : n < 18446744073709551616) :
    Calls Try.prog 60 #[.int .u64 n] w fun e w' => e = .returned (.agg #[.int .u8 (bt n 0), .int .u8 (bt n 1), .int .u8 (bt n 2), .int .u8 (bt n 3), .int .u8 (bt n 4), .int .u8 (bt n 5), .int .u8 (bt n 6), .int .u8 (bt n 7)]) ∧ Below w.heap.size w w' := by
  show Calls Try.prog 60 #[.int .u64 n] w fun e w' => e = .returned (.agg #[.int .u8 (n % 256), .int .u8 (n / 256 % 256), .int .u8 (n / 65536 % 256), .int .u8 (n / 16777216 % 256), .int .u8 (n / 4294967296 % 256), .int .u8 (n / 1099511627776 % 256), .int .u8 (n / 281474976710656 % 256), .int .u8 (n / 72057594037927936 % 256)]) ∧ Below w.heap.size w w'
  go_enter Try.func60, Try.ntmps60
  go_wp2
  go_rounds 9
  go_returns
  have e7 : n / 72057594037927936 % 256 = n / 72057594037927936 := by omega
  rw [e7]
  refine ⟨rfl, ?_⟩
  go_grown

/-- Bytes as values. -/
def iv (l : List Int) : List Value := l.map (Value.int .u8)

theorem iv_len (l : List Int) : (iv l).length = l.length := by simp [iv]

theorem iv_append (l r : List Int) : iv (l ++ r) = iv l ++ iv r := by simp [iv]

/-- Four bytes of a number, the lowest first. -/
def fourL (x : Nat) : List Int := [bt x 0, bt x 1, bt x 2, bt x 3]

theorem bl_four (x : Nat) : bl (fun j => bt x j) 4 = iv (fourL x) := rfl

theorem row8_bys (w : World) (x : Nat) (b0 b1 b2 b3 b4 b5 b6 b7 : Int) (t : TypeId) (h : bt x 0 = b0 ∧ bt x 1 = b1 ∧ bt x 2 = b2 ∧ bt x 3 = b3) :
    Bys (w.alloc (.cells #[.int .u8 b0, .int .u8 b1, .int .u8 b2, .int .u8 b3, .int .u8 b4, .int .u8 b5, .int .u8 b6, .int .u8 b7] t)) (some ⟨w.heap.size, 0, none⟩) 4 8 (fun j => bt x j) := by
  obtain ⟨rfl, rfl, rfl, rfl⟩ := h
  refine .inr (.inr ⟨w.heap.size, 0, rfl, by omega, by omega, by simp, fun j hj => ?_⟩)
  rw [Nat.zero_add, row_cell (heap_new rfl) j]
  rcases (by omega : j = 0 ∨ j = 1 ∨ j = 2 ∨ j = 3) with rfl | rfl | rfl | rfl <;> rfl

set_option maxHeartbeats 400000 in
theorem appendoff_any (v : Value) (n : Nat) (xs : List Int) (x B : Nat) (w : World) (ho : w.ownsRow B 5 1 v n (iv xs)) (hx : x < 4294967296) (hn : n + 4 ≤ 140737488355328) (hB : B ≤ w.heap.size) :
    Calls Try.prog 87 #[v, .int .u64 x] w fun e w' => ∃ v', e = .returned v' ∧ w'.ownsRow B 5 1 v' (n + 4) (iv (xs ++ fourL x)) ∧ Below B w w' := by
  have HBY := hid (bytes_any x w (by omega) (by omega))
  have HO := hid ho
  clear ho
  obtain ⟨b0, e0⟩ : ∃ b, bt x 0 = b := ⟨_, rfl⟩
  obtain ⟨b1, e1⟩ : ∃ b, bt x 1 = b := ⟨_, rfl⟩
  obtain ⟨b2, e2⟩ : ∃ b, bt x 2 = b := ⟨_, rfl⟩
  obtain ⟨b3, e3⟩ : ∃ b, bt x 3 = b := ⟨_, rfl⟩
  obtain ⟨b4, e4⟩ : ∃ b, bt x 4 = b := ⟨_, rfl⟩
  obtain ⟨b5, e5⟩ : ∃ b, bt x 5 = b := ⟨_, rfl⟩
  obtain ⟨b6, e6⟩ : ∃ b, bt x 6 = b := ⟨_, rfl⟩
  obtain ⟨b7, e7⟩ : ∃ b, bt x 7 = b := ⟨_, rfl⟩
  rw [e0, e1, e2, e3, e4, e5, e6, e7] at HBY
  have EE := hid (And.intro e0 (And.intro e1 (And.intro e2 e3)))
  clear e0 e1 e2 e3 e4 e5 e6 e7
  go_enter Try.func87, Try.ntmps87
  go_wp2_with (first
    | (go_at_call 60; refine HBY.out.mono ?_; rintro e w1 ⟨rfl, hb1⟩; have HB1 := hid hb1; clear hb1)
    | (at_builtin; refine wpList_append_bys _ rfl _ _ rfl B v n (iv xs) rfl (owns_below HO.out (HB1.out.alloc HB1.out.size _)) (some ⟨w1.heap.size, 0, none⟩) 4 8 (fun j => bt x j) rfl (row8_bys w1 x _ _ _ _ _ _ _ _ _ EE.out) (by omega) (by have := HB1.out.size; simp; omega) ?_; intro v2 w2 ho2 hg2; have HG2 := hid hg2; have HO2 := hid ho2; clear hg2 ho2))
  go_ret
  have hb1 : Below B w (w1.alloc (.cells #[.int .u8 b0, .int .u8 b1, .int .u8 b2, .int .u8 b3, .int .u8 b4, .int .u8 b5, .int .u8 b6, .int .u8 b7] 110)) := (HB1.out.alloc HB1.out.size _).mono hB
  refine ⟨_, rfl, ?_, below_grown hb1 (owns_below HO.out (HB1.out.alloc HB1.out.size _)) (by have := HB1.out.size; simp; omega) HG2.out⟩
  rw [iv_append, ← bl_four]
  exact HO2.out

end Go.Proofs.Ytehpfemlcjcabaa.Z

namespace Go.Proofs.Ytehpfemlcjcabaa.Z

open Go.RowKit

set_option linter.unusedVariables false

set_option linter.unusedSimpArgs false

/-- The parts of a slice of slices of bytes. -/
def Parts (w : World) (a : Option Addr) (n : Nat) (A : Nat → Option Addr) (L C : Nat → Nat) (f : Nat → Nat → Int) : Prop :=
  n = 0 ∨ ∃ b off, a = some ⟨b, off, none⟩ ∧ b < w.heap.size ∧ ∀ r, r < n → w.cell? ⟨b, off + r, none⟩ = some (.slice (A r) (L r) (C r)) ∧ Bys w (A r) (L r) (C r) (f r)

theorem Parts.below {w w' : World} {a : Option Addr} {n : Nat} {A : Nat → Option Addr} {L C : Nat → Nat} {f : Nat → Nat → Int} (h : Parts w a n A L C f) (hb : Below w.heap.size w w') : Parts w' a n A L C f := by
  rcases h with h | ⟨b, off, h1, h2, h3⟩
  · exact .inl h
  · exact .inr ⟨b, off, h1, Nat.lt_of_lt_of_le h2 hb.size, fun r hr => ⟨(below_cell hb h2).trans (h3 r hr).1, (h3 r hr).2.below hb⟩⟩

theorem parts_at {w : World} {a : Option Addr} {n : Nat} {A : Nat → Option Addr} {L C : Nat → Nat} {f : Nat → Nat → Int} (h : Parts w a n A L C f) (r : Nat) (hr : r < n) :
    ∃ b off, a = some ⟨b, off, none⟩ ∧ b < w.heap.size ∧ w.cell? ⟨b, off + r, none⟩ = some (.slice (A r) (L r) (C r)) ∧ Bys w (A r) (L r) (C r) (f r) := by
  rcases h with h | ⟨b, off, h1, h2, h3⟩
  · omega
  · exact ⟨b, off, h1, h2, (h3 r hr).1, (h3 r hr).2⟩

/-- How many bytes the first k parts have. -/
def sumL (L : Nat → Nat) : Nat → Nat
  | 0 => 0
  | k + 1 => sumL L k + L k

theorem sumL_mono (L : Nat → Nat) {i j : Nat} (h : i ≤ j) : sumL L i ≤ sumL L j := by
  induction j with
  | zero => have : i = 0 := by omega
            subst this
            exact Nat.le_refl _
  | succ j ih =>
    by_cases hj : i ≤ j
    · have := ih hj
      show sumL L i ≤ sumL L j + L j
      omega
    · have : i = j + 1 := by omega
      subst this
      exact Nat.le_refl _

/-- The answer of totalLength. -/
def totR (s : Nat) : Ending := if s < 4294967296 then .returned (.tuple #[.int .u64 (s : Int), .int .i64 0]) else .returned (.tuple #[.int .u64 0, .int .i64 1])

theorem totR_ok {s : Nat} (h : s < 4294967296) : totR s = .returned (.tuple #[.int .u64 (s : Int), .int .i64 0]) := by unfold totR; rw [if_pos h]

theorem totR_big {s : Nat} (h : ¬ s < 4294967296) : totR s = .returned (.tuple #[.int .u64 0, .int .i64 1]) := by unfold totR; rw [if_neg h]

set_option maxRecDepth 20000 in
set_option maxHeartbeats 400000 in
theorem total_any (hd : Nat) (a : Option Addr) (n c : Nat) (A : Nat → Option Addr) (L C : Nat → Nat) (f : Nat → Nat → Int) (w : World) (h : Parts w a n A L C f) (hn : n ≤ 9223372036854775807) (hh : hd < 4294967296) (hL : ∀ r, r < n → L r ≤ 9223372036854775807) :
    Calls Try.prog 57 #[.int .u64 hd, .slice a n c] w fun e w' => e = totR (hd + sumL L n) ∧ w' = w := by
  have H := hid h
  have HL := hid hL
  clear h hL
  go_enter Try.func57, Try.ntmps57
  go_wp2
  go_loopw [6, 12] (fun t v wr => ∃ k : Nat, k ≤ n ∧ v = .int .i64 k ∧ t = .int .u64 ((hd + sumL L k : Nat) : Int) ∧ hd + sumL L k < 4294967296 ∧ wr = w) (fun _ v _ => n - (intOf v).toNat)
  case atStart => exact ⟨0, by omega, rfl, rfl, by simpa [sumL] using hh, rfl⟩
  case round =>
    obtain ⟨k, hk, rfl, rfl, ht, rfl⟩ := hrel
    by_cases hkn : k < n
    · obtain ⟨b1, o1, rfl, hb1, c1, y1⟩ := parts_at H.out k hkn
      have hLk := HL.out k hkn
      have hsu : sumL L (k + 1) = sumL L k + L k := rfl
      have hmo := sumL_mono L (i := k + 1) (j := n) (by omega)
      obtain ⟨T, eT⟩ : ∃ T, hd + sumL L k = T := ⟨_, rfl⟩
      obtain ⟨l, el⟩ : ∃ l, L k = l := ⟨_, rfl⟩
      rw [el] at c1 hLk hsu
      rw [eT] at ht ⊢
      have k1 : (k : Int) < (n : Int) := by omega
      have k2 : (0 : Int) ≤ (k : Int) := by omega
      have t1 : (T : Int) < 4294967296 := by omega
      have t2 : (0 : Int) ≤ (T : Int) := by omega
      have l1 : (l : Int) ≤ 9223372036854775807 := by omega
      have l2 : (0 : Int) ≤ (l : Int) := by omega
      by_cases hbig : 4294967296 ≤ T + l
      · have hb' : (4294967296 : Int) ≤ (T : Int) + (l : Int) := by omega
        have E : Hid (¬ hd + sumL L n < 4294967296) := by show ¬ hd + sumL L n < 4294967296; omega
        clear hsu hmo eT el y1
        go_wp2
        go_ret2
        exact ⟨(totR_big E.out).symm, rfl⟩
      · have hb' : ¬ (4294967296 : Int) ≤ (T : Int) + (l : Int) := by omega
        have E : Hid (hd + sumL L (k + 1) = T + l) := by show hd + sumL L (k + 1) = T + l; omega
        clear hsu hmo eT el y1
        go_wp2
        go_roundw
        case rel => exact ⟨k + 1, by omega, by go_num, by rw [E.out]; go_num, by rw [E.out]; omega, trivial⟩
        case measure => simp [intOf]; omega
    · have ek : k = n := by omega
      subst ek
      obtain ⟨T, eT⟩ : ∃ T, hd + sumL L k = T := ⟨_, rfl⟩
      rw [eT] at ht ⊢
      have ET := hid eT
      clear eT
      go_wp2
      go_ret2
      rw [ET.out]
      exact ⟨(totR_ok ht).symm, rfl⟩

end Go.Proofs.Ytehpfemlcjcabaa.Z
