/-
  What inOrder, bytes.Clone and piece answer.
  What looseParts answers.
  What containerParts answers.
  What ssz.Cut answers where it cuts.
  What the reference's sizesOK and Head answer.
  What the reference's offset answers.
  What word.Bytes, ssz.appendOffset and ssz.totalLength answer.
  Lists of bytes; what the reference's Same and ssz.totalLength answer.
  What ssz.LayMany and the reference's four and LayMany answer.
  What the reference's four and LayMany answer.
  Bytes that were laid, read again.
  The bytes of a container; what layContainer answers.
  What ssz.Lay answers.
  Bits and bytes: what Vector, List, ReadVector and the reference answer (of the texts of layer 4, what others stand on).
-/
import Derived.Test.YtficlakgameglaaDoorZaA
import Derived.Test.YtficlakgameglaaDoorShelf
import Derived.Laws.Cover3
import Derived.ScopeJumps
namespace Go.Proofs.YtficlakgameglaaDoor.Z

open Go.RowKit

set_option linter.unusedVariables false

set_option linter.unusedSimpArgs false

/-- None below the one ahead of it, none above L. -/
def ordAt (os : Nat → Int) (L : Int) (i : Nat) : Prop := (if i = 0 then 0 else os (i - 1)) ≤ os i ∧ os i ≤ L

instance (os : Nat → Int) (L : Int) (i : Nat) : Decidable (ordAt os L i) := by unfold ordAt; infer_instance

def sm22 (x : Value) (lo hi mx : Option Value) : Sem Value := Instr.sliceAt 39 x lo hi mx

theorem sm22_eq (x : Value) (lo hi mx : Value) : Instr.sliceAt 39 x (some lo) (some hi) (some mx) = sm22 x (some lo) (some hi) (some mx) := rfl

attribute [local go_sem ↓] sm22_eq

end Go.Proofs.YtficlakgameglaaDoor.Z

namespace Go.Proofs.YtficlakgameglaaDoor.Z

open Go.RowKit

set_option linter.unusedVariables false

set_option linter.unusedSimpArgs false

/-- n values. -/
def vals (n : Nat) (f : Nat → Value) : Array Value := ((List.range n).map f).toArray

theorem vals_size (n : Nat) (f : Nat → Value) : (vals n f).size = n := by simp [vals]

theorem vals_get (n : Nat) (f : Nat → Value) (i : Nat) (h : i < n) : (vals n f)[i]? = some (f i) := by simp [vals, h]

theorem size_set (w : World) (a : Addr) (v : Value) : (w.setCell a v).heap.size = w.heap.size := by simp [World.setCell]

end Go.Proofs.YtficlakgameglaaDoor.Z

namespace Go.Proofs.YtficlakgameglaaDoor.Z

open Go.RowKit

set_option linter.unusedVariables false

set_option linter.unusedSimpArgs false

/-- How many of the first k parts are of any size. -/
def zn (zs : Nat → Int) : Nat → Nat
  | 0 => 0
  | k + 1 => zn zs k + (if zs k = 0 then 1 else 0)

end Go.Proofs.YtficlakgameglaaDoor.Z

namespace Go.Proofs.YtficlakgameglaaDoor.Z

open Go.RowKit

set_option linter.unusedVariables false

set_option linter.unusedSimpArgs false

end Go.Proofs.YtficlakgameglaaDoor.Z

namespace Go.Proofs.YtficlakgameglaaDoor.Z

open Go.RowKit

set_option linter.unusedVariables false

set_option linter.unusedSimpArgs false

set_option maxHeartbeats 400000 in
theorem rsizes_any (zs : Nat → Int) (a : Option Addr) (n cap : Nat) (w : World) (hn : Nms .i64 w a n zs) (hnb : n ≤ 9223372036854775807) :
    Calls Tryd.prog 77 #[.slice a n cap] w fun e w' => e = .returned (.bool (szB zs n)) ∧ w' = w := by
  by_cases h1 : n < 1
  · have e := szB_false (zs := zs) (n := n) (.inl (by omega))
    have h1' : (n : Int) < 1 := by omega
    have E := hid e
    clear e hn
    go_enter Tryd.func77, Tryd.ntmps77
    go_wp2
    go_ret
    exact ⟨E.out ▸ rfl, rfl⟩
  · by_cases h2 : 64 < n
    · have e := szB_false (zs := zs) (n := n) (.inr (.inl h2))
      have h1' : ¬ (n : Int) < 1 := by omega
      have h2' : (64 : Int) < (n : Int) := by omega
      have E := hid e
      clear e hn
      go_enter Tryd.func77, Tryd.ntmps77
      go_wp2
      go_ret
      exact ⟨E.out ▸ rfl, rfl⟩
    · have h1' : ¬ (n : Int) < 1 := by omega
      have h2' : ¬ (64 : Int) < (n : Int) := by omega
      rcases hn with h | ⟨b, off, rfl, hb, hc⟩
      · omega
      have HC := hid hc
      clear hc
      go_enter Tryd.func77, Tryd.ntmps77
      go_wp2
      go_loopw [3] (fun v wr => ∃ k : Nat, k ≤ n ∧ v = .int .i64 k ∧ wr = w ∧ ∀ i, i < k → okS (zs i)) (fun v _ => n - (intOf v).toNat)
      case atStart => exact ⟨0, by omega, rfl, rfl, fun i hi => by omega⟩
      case round =>
        obtain ⟨k, hk, rfl, rfl, hok⟩ := hrel
        by_cases hkn : k < n
        · have ck := HC.out k hkn
          obtain ⟨z, hz⟩ : ∃ z, zs k = z := ⟨_, rfl⟩
          rw [hz] at ck
          have k1 : (k : Int) < (n : Int) := by omega
          have k2 : (0 : Int) ≤ (k : Int) := by omega
          have HOK := hid hok
          have HZ := hid hz
          clear hok hz
          by_cases hlo : z < 0
          · have e := szB_false (zs := zs) (n := n) (.inr (.inr ⟨k, hkn, by rw [HZ.out]; unfold okS; omega⟩))
            have E := hid e
            clear e
            go_wp2
            go_ret
            exact ⟨E.out ▸ rfl, rfl⟩
          · by_cases hhi : 65536 < z
            · have e := szB_false (zs := zs) (n := n) (.inr (.inr ⟨k, hkn, by rw [HZ.out]; unfold okS; omega⟩))
              have E := hid e
              clear e
              go_wp2
              go_ret
              exact ⟨E.out ▸ rfl, rfl⟩
            · have hlo' : 0 ≤ z := by omega
              have hhi' : z ≤ 65536 := by omega
              go_wp2
              go_roundw
              case rel =>
                refine ⟨k + 1, by omega, by go_num, trivial, fun i hi => ?_⟩
                by_cases hik : i = k
                · subst hik; rw [HZ.out]; exact ⟨hlo', hhi'⟩
                · exact HOK.out i (by omega)
              case measure => simp [intOf]; omega
        · have ek : k = n := by omega
          subst ek
          have e := szB_true (zs := zs) (n := k) (by omega) (by omega) hok
          have E := hid e
          clear e hok
          go_wp2
          go_ret
          exact ⟨E.out ▸ rfl, rfl⟩

set_option maxHeartbeats 400000 in
theorem rhead_any (zs : Nat → Int) (a : Option Addr) (n cap : Nat) (w : World) (hn : Nms .i64 w a n zs) (hn1 : 1 ≤ n) (hnb : n ≤ 64) (hok : ∀ i, i < n → okS (zs i)) :
    Calls Tryd.prog 78 #[.slice a n cap] w fun e w' => e = .returned (.int .i64 (hdL zs n)) ∧ w' = w := by
  rcases hn with h | ⟨b, off, rfl, hb, hc⟩
  · omega
  have HC := hid hc
  have HOK := hid hok
  clear hc hok
  go_enter Tryd.func78, Tryd.ntmps78
  go_wp2
  go_loopw [3, 4] (fun s v wr => ∃ k : Nat, k ≤ n ∧ v = .int .i64 k ∧ wr = w ∧ s = .int .i64 ((hdL zs k : Nat) : Int)) (fun _ v _ => n - (intOf v).toNat)
  case atStart => exact ⟨0, by omega, rfl, rfl, rfl⟩
  case round =>
    obtain ⟨k, hk, rfl, rfl, rfl⟩ := hrel
    by_cases hkn : k < n
    · have ck := HC.out k hkn
      have hbd := hdL_bd (zs := zs) k (fun i hi => HOK.out i (by omega))
      have hokk := HOK.out k hkn
      have hsu : hdL zs (k + 1) = hdL zs k + inH (zs k) := rfl
      obtain ⟨z, ez⟩ : ∃ z, zs k = z := ⟨_, rfl⟩
      obtain ⟨S, eS⟩ : ∃ S, hdL zs k = S := ⟨_, rfl⟩
      rw [ez] at ck hokk hsu
      rw [eS] at hbd hsu ⊢
      obtain ⟨z1, z2⟩ := hokk
      have k1 : (k : Int) < (n : Int) := by omega
      have k2 : (0 : Int) ≤ (k : Int) := by omega
      have s1 : (S : Int) ≤ 4194304 := by omega
      have HSU := hid hsu
      clear hsu ez eS hbd
      by_cases h0 : z = 0
      · subst h0
        go_wp2
        go_roundw
        case rel =>
          refine ⟨k + 1, by omega, by go_num, trivial, ?_⟩
          rw [HSU.out]
          rfl
        case measure => simp [intOf]; omega
      · go_wp2
        go_roundw
        case rel =>
          refine ⟨k + 1, by omega, by go_num, trivial, ?_⟩
          rw [HSU.out]
          unfold inH
          rw [if_neg h0]
          congr 1
          omega
        case measure => simp [intOf]; omega
    · have ek : k = n := by omega
      subst ek
      go_wp2
      go_ret
      exact ⟨rfl, rfl⟩

end Go.Proofs.YtficlakgameglaaDoor.Z

namespace Go.Proofs.YtficlakgameglaaDoor.Z

open Go.RowKit

set_option linter.unusedVariables false

set_option linter.unusedSimpArgs false

end Go.Proofs.YtficlakgameglaaDoor.Z

namespace Go.Proofs.YtficlakgameglaaDoor.Z

open Go.RowKit

set_option linter.unusedVariables false

set_option linter.unusedSimpArgs false

/-- The byte at place i, the lowest first. -/
def bt (n : Int) : Nat → Int
  | 0 => n % 256
  | 1 => n / 256 % 256
  | 2 => n / 65536 % 256
  | 3 => n / 16777216 % 256
  | 4 => n / 4294967296 % 256
  | 5 => n / 1099511627776 % 256
  | 6 => n / 281474976710656 % 256
  | _ => n / 72057594037927936 % 256

/-- Bytes as values. -/
def iv (l : List Int) : List Value := l.map (Value.int .u8)

theorem iv_len (l : List Int) : (iv l).length = l.length := by simp [iv]

theorem iv_append (l r : List Int) : iv (l ++ r) = iv l ++ iv r := by simp [iv]

/-- Four bytes of a number, the lowest first. -/
def fourL (x : Nat) : List Int := [bt x 0, bt x 1, bt x 2, bt x 3]

theorem bl_four (x : Nat) : bl (fun j => bt x j) 4 = iv (fourL x) := rfl

end Go.Proofs.YtficlakgameglaaDoor.Z

namespace Go.Proofs.YtficlakgameglaaDoor.Z

open Go.RowKit

set_option linter.unusedVariables false

set_option linter.unusedSimpArgs false

/-- The parts of a slice of slices of bytes. -/
def Parts (w : World) (a : Option Addr) (n : Nat) (A : Nat → Option Addr) (L C : Nat → Nat) (f : Nat → Nat → Int) : Prop :=
  n = 0 ∨ ∃ b off, a = some ⟨b, off, none⟩ ∧ b < w.heap.size ∧ ∀ r, r < n → w.cell? ⟨b, off + r, none⟩ = some (.slice (A r) (L r) (C r)) ∧ Bys w (A r) (L r) (C r) (f r)

theorem Parts.below {w w' : World} {a : Option Addr} {n : Nat} {A : Nat → Option Addr} {L C : Nat → Nat} {f : Nat → Nat → Int} (h : Parts w a n A L C f) (hb : Below w.heap.size w w') : Parts w' a n A L C f := by
  rcases h with h | ⟨b, off, h1, h2, h3⟩
  · exact .inl h
  · exact .inr ⟨b, off, h1, Nat.lt_of_lt_of_le h2 hb.size, fun r hr => ⟨(below_cell hb h2).trans (h3 r hr).1, (h3 r hr).2.below hb⟩⟩

theorem parts_at {w : World} {a : Option Addr} {n : Nat} {A : Nat → Option Addr} {L C : Nat → Nat} {f : Nat → Nat → Int} (h : Parts w a n A L C f) (r : Nat) (hr : r < n) :
    ∃ b off, a = some ⟨b, off, none⟩ ∧ b < w.heap.size ∧ w.cell? ⟨b, off + r, none⟩ = some (.slice (A r) (L r) (C r)) ∧ Bys w (A r) (L r) (C r) (f r) := by
  rcases h with h | ⟨b, off, h1, h2, h3⟩
  · omega
  · exact ⟨b, off, h1, h2, (h3 r hr).1, (h3 r hr).2⟩

end Go.Proofs.YtficlakgameglaaDoor.Z

namespace Go.Proofs.YtficlakgameglaaDoor.Z

open Go.RowKit

set_option linter.unusedVariables false

set_option linter.unusedSimpArgs false

/-- The bytes of the part number r; the first k offsets; the first k parts. -/
def prt (f : Nat → Nat → Int) (L : Nat → Nat) (r : Nat) : List Int := (List.range (L r)).map (f r)

theorem prt_len (f : Nat → Nat → Int) (L : Nat → Nat) (r : Nat) : (prt f L r).length = L r := by simp [prt]

theorem bl_prt (f : Nat → Nat → Int) (L : Nat → Nat) (r : Nat) : bl (f r) (L r) = iv (prt f L r) := by simp [bl, iv, prt]

end Go.Proofs.YtficlakgameglaaDoor.Z

namespace Go.Proofs.YtficlakgameglaaDoor.Z

open Go.RowKit

set_option linter.unusedVariables false

set_option linter.unusedSimpArgs false

theorem rfour_any (x : Nat) (w : World) (hx : x < 4611686018427387904) :
    Calls Tryd.prog 79 #[.int .i64 x] w fun e w' => e = .returned (.slice (some ⟨w.heap.size, 0, none⟩) 4 4) ∧ w' = w.alloc (.cells #[.int .u8 (bt x 0), .int .u8 (bt x 1), .int .u8 (bt x 2), .int .u8 (bt x 3)] 5) := by
  have h1 : (x : Int) < 4611686018427387904 := by omega
  have h0 : (0 : Int) ≤ (x : Int) := by omega
  show Calls Tryd.prog 79 #[.int .i64 x] w fun e w' => e = .returned (.slice (some ⟨w.heap.size, 0, none⟩) 4 4) ∧ w' = w.alloc (.cells #[.int .u8 ((x : Int) % 256), .int .u8 ((x : Int) / 256 % 256), .int .u8 ((x : Int) / 65536 % 256), .int .u8 ((x : Int) / 16777216 % 256)] 5)
  go_enter Tryd.func79, Tryd.ntmps79
  go_wp2
  go_ret
  exact ⟨rfl, rfl⟩

theorem row4_bys (w : World) (x : Nat) : Bys (w.alloc (.cells #[.int .u8 (bt x 0), .int .u8 (bt x 1), .int .u8 (bt x 2), .int .u8 (bt x 3)] 5)) (some ⟨w.heap.size, 0, none⟩) 4 4 (fun j => bt x j) := by
  refine .inr (.inr ⟨w.heap.size, 0, rfl, by omega, by omega, by simp, fun j hj => ?_⟩)
  rw [Nat.zero_add, row_cell (heap_new rfl) j]
  rcases (by omega : j = 0 ∨ j = 1 ∨ j = 2 ∨ j = 3) with rfl | rfl | rfl | rfl <;> rfl

end Go.Proofs.YtficlakgameglaaDoor.Z

namespace Go.Proofs.YtficlakgameglaaDoor.Z

open Go.RowKit

set_option linter.unusedVariables false

set_option linter.unusedSimpArgs false

theorem iv_bl (l : List Int) : iv l = bl (fun j => l.getD j 0) l.length := by
  unfold iv bl
  apply List.ext_getElem?
  intro j
  by_cases hj : j < l.length
  · simp [List.getD_eq_getElem?_getD, hj]
  · simp [hj]

theorem owns_bys {w : World} {B : Nat} {v : Value} {n : Nat} {l : List Int} (h : w.ownsRow B 5 1 v n (iv l)) : n = l.length ∧ ∃ a C, v = .slice a n C ∧ n ≤ C ∧ C ≤ 9223372036854775807 ∧ Bys w a n C (fun j => l.getD j 0) := by
  have hl : n = l.length := by have := h.1; rw [iv_len] at this; omega
  refine ⟨hl, ?_⟩
  subst hl
  rw [iv_bl] at h
  rcases h.2 with ⟨h1, h0⟩ | ⟨g, cap, cur, h1, h2, h3, h4, h5, h6, h7⟩
  · rw [h0]
    exact ⟨none, 0, by rw [h1], Nat.le_refl _, by omega, .inl ⟨rfl, rfl, rfl⟩⟩
  · subst h1
    obtain ⟨_, hb, hc, hd, hcell⟩ := own_cells h
    exact ⟨_, cap, rfl, hc, hd, .inr (.inr ⟨g, 0, rfl, hc, hd, hb, fun j hj => by rw [Nat.zero_add]; exact hcell j hj⟩)⟩

end Go.Proofs.YtficlakgameglaaDoor.Z

namespace Go.Proofs.YtficlakgameglaaDoor.Z

open Go.RowKit

set_option linter.unusedVariables false

set_option linter.unusedSimpArgs false

/-- How many bytes the parts of any size have, among the first k; their bytes; the bytes of the head. -/
def loL (zs : Nat → Int) (L : Nat → Nat) : Nat → Nat
  | 0 => 0
  | k + 1 => loL zs L k + (if zs k = 0 then L k else 0)

def loB (zs : Nat → Int) (f : Nat → Nat → Int) (L : Nat → Nat) : Nat → List Int
  | 0 => []
  | k + 1 => loB zs f L k ++ (if zs k = 0 then prt f L k else [])

def hdB (zs : Nat → Int) (f : Nat → Nat → Int) (L : Nat → Nat) (H : Nat) : Nat → List Int
  | 0 => []
  | k + 1 => hdB zs f L H k ++ (if zs k = 0 then fourL (H + loL zs L k) else prt f L k)

theorem loB_len (zs : Nat → Int) (f : Nat → Nat → Int) (L : Nat → Nat) (k : Nat) : (loB zs f L k).length = loL zs L k := by
  induction k with
  | zero => rfl
  | succ k ih =>
    unfold loB loL
    rw [List.length_append, ih]
    by_cases h : zs k = 0
    · rw [if_pos h, if_pos h, prt_len]
    · rw [if_neg h, if_neg h]
      rfl

theorem loL_mono (zs : Nat → Int) (L : Nat → Nat) {i j : Nat} (h : i ≤ j) : loL zs L i ≤ loL zs L j := by
  induction j with
  | zero => have : i = 0 := by omega
            subst this
            exact Nat.le_refl _
  | succ j ih =>
    by_cases hj : i ≤ j
    · have := ih hj
      show loL zs L i ≤ loL zs L j + _
      omega
    · have : i = j + 1 := by omega
      subst this
      exact Nat.le_refl _

/-- The parts of a known size have it. -/
def Fits (zs : Nat → Int) (L : Nat → Nat) (n : Nat) : Prop := ∀ r, r < n → zs r ≠ 0 → (L r : Int) = zs r

theorem hdB_len (zs : Nat → Int) (f : Nat → Nat → Int) (L : Nat → Nat) (H k : Nat) (hf : Fits zs L k) : (hdB zs f L H k).length = hdL zs k := by
  induction k with
  | zero => rfl
  | succ k ih =>
    unfold hdB hdL
    rw [List.length_append, ih fun r hr => hf r (by omega)]
    by_cases h : zs k = 0
    · rw [if_pos h]
      unfold inH
      rw [if_pos h]
      rfl
    · rw [if_neg h, prt_len]
      unfold inH
      rw [if_neg h]
      have := hf k (by omega) h
      omega

def layC (zs : Nat → Int) (f : Nat → Nat → Int) (L : Nat → Nat) (n : Nat) : List Int := hdB zs f L (hdL zs n) n ++ loB zs f L n

theorem layC_len (zs : Nat → Int) (f : Nat → Nat → Int) (L : Nat → Nat) (n : Nat) (hf : Fits zs L n) : (layC zs f L n).length = hdL zs n + loL zs L n := by
  unfold layC
  rw [List.length_append, hdB_len _ _ _ _ _ hf, loB_len]

end Go.Proofs.YtficlakgameglaaDoor.Z

namespace Go.Proofs.YtficlakgameglaaDoor.Z

open Go.RowKit

set_option linter.unusedVariables false

set_option linter.unusedSimpArgs false

end Go.Proofs.YtficlakgameglaaDoor.Z

namespace Go.Proofs.YtficlakgameglaaDoor.Z

open Go.RowKit

set_option linter.unusedVariables false

set_option linter.unusedSimpArgs false

/-- The number whose lowest n bits are g's. -/
def bo (g : Nat → Bool) : Nat → Nat
  | 0 => 0
  | k + 1 => bo g k + (if g k = true then 2 ^ k else 0)

theorem bo_lt (g : Nat → Bool) (k : Nat) : bo g k < 2 ^ k := by
  induction k with
  | zero => simp [bo]
  | succ k ih =>
    unfold bo
    rw [Nat.pow_succ]
    split <;> omega

theorem bo_bit (g : Nat → Bool) (n k : Nat) : (bo g n).testBit k = (decide (k < n) && g k) := by
  induction n with
  | zero => simp [bo]
  | succ n ih =>
    have hl := bo_lt g n
    unfold bo
    by_cases hg : g n = true
    · rw [if_pos hg, Nat.add_comm]
      by_cases h : k < n
      · rw [Nat.testBit_two_pow_add_gt h, ih]
        simp [h, Nat.lt_succ_of_lt h]
      · by_cases e : k = n
        · subst e
          rw [Nat.testBit_two_pow_add_eq, Nat.testBit_lt_two_pow hl]
          simp [hg]
        · rw [Nat.testBit_lt_two_pow]
          · simp [show ¬ k < n + 1 by omega]
          · have : 2 ^ (n + 1) ≤ 2 ^ k := Nat.pow_le_pow_right (by omega) (by omega)
            rw [Nat.pow_succ] at this
            omega
    · rw [if_neg hg, Nat.add_zero, ih]
      by_cases e : k = n
      · subst e
        simp at hg
        simp [hg]
      · have : k < n + 1 ↔ k < n := by omega
        simp [this]

/-- The byte q of the bytes of the first n bits of f. -/
def byt (f : Nat → Bool) (n q : Nat) : Nat := bo (fun k => decide (8 * q + k < n) && f (8 * q + k)) 8

theorem byt_lt (f : Nat → Bool) (n q : Nat) : byt f n q < 256 := bo_lt _ 8

theorem byt_bit (f : Nat → Bool) (n q k : Nat) : (byt f n q).testBit k = (decide (k < 8) && (decide (8 * q + k < n) && f (8 * q + k))) := bo_bit _ 8 k

theorem byt_zero (f : Nat → Bool) (q : Nat) : byt f 0 q = 0 := by
  apply Nat.eq_of_testBit_eq
  intro k
  rw [byt_bit]
  simp

theorem byt_other (f : Nat → Bool) (n q : Nat) (h : q ≠ n / 8) : byt f (n + 1) q = byt f n q := by
  apply Nat.eq_of_testBit_eq
  intro k
  rw [byt_bit, byt_bit]
  by_cases hk : k < 8
  · have : 8 * q + k < n + 1 ↔ 8 * q + k < n := by omega
    simp [this]
  · simp [hk]

theorem byt_skip (f : Nat → Bool) (n q : Nat) (h : f n = false) : byt f (n + 1) q = byt f n q := by
  apply Nat.eq_of_testBit_eq
  intro k
  rw [byt_bit, byt_bit]
  by_cases e : 8 * q + k = n
  · rw [e, h]
    simp
  · have : 8 * q + k < n + 1 ↔ 8 * q + k < n := by omega
    simp [this]

theorem byt_or (f : Nat → Bool) (n : Nat) (h : f n = true) : byt f n (n / 8) ||| 2 ^ (n % 8) = byt f (n + 1) (n / 8) := by
  apply Nat.eq_of_testBit_eq
  intro k
  rw [Nat.testBit_or, byt_bit, byt_bit, Nat.testBit_two_pow]
  by_cases hk : k < 8
  · by_cases e : n % 8 = k
    · have e2 : 8 * (n / 8) + k = n := by omega
      rw [e2, h]
      simp [e, hk]
    · have : 8 * (n / 8) + k < n + 1 ↔ 8 * (n / 8) + k < n := by omega
      simp [this, e]
  · have : ¬ n % 8 = k := by omega
    simp [hk, this]

theorem byt_low (f : Nat → Bool) (n : Nat) : byt f n (n / 8) < 2 ^ (n % 8) := by
  apply Nat.lt_pow_two_of_testBit
  intro k hk
  rw [byt_bit]
  simp [show ¬ 8 * (n / 8) + k < n by omega]

theorem byt_add (f : Nat → Bool) (n : Nat) (h : f n = true) : byt f n (n / 8) + 2 ^ (n % 8) = byt f (n + 1) (n / 8) := by
  rw [← byt_or f n h, Nat.or_comm, Nat.add_comm]
  have := Nat.two_pow_add_eq_or_of_lt (byt_low f n) 1
  simpa using this

end Go.Proofs.YtficlakgameglaaDoor.Z

namespace Go.Proofs.YtficlakgameglaaDoor.Z

open Go.RowKit

set_option linter.unusedVariables false

set_option linter.unusedSimpArgs false

/-- The bits of a slice, whatever it is. -/
def Bls (w : World) (a : Option Addr) (len cap : Nat) (f : Nat → Bool) : Prop :=
  (a = none ∧ len = 0 ∧ cap = 0) ∨ (∃ x, a = some x ∧ len = 0) ∨ ∃ b off, a = some ⟨b, off, none⟩ ∧ len ≤ cap ∧ cap ≤ 9223372036854775807 ∧ b < w.heap.size ∧ ∀ j, j < len → w.cell? ⟨b, off + j, none⟩ = some (.bool (f j))

theorem Bls.below {w w' : World} {a : Option Addr} {len cap : Nat} {f : Nat → Bool} (h : Bls w a len cap f) (hb : Below w.heap.size w w') : Bls w' a len cap f := by
  rcases h with h | h | ⟨b, off, h1, h2, h3, h4, h5⟩
  · exact .inl h
  · exact .inr (.inl h)
  · exact .inr (.inr ⟨b, off, h1, h2, h3, Nat.lt_of_lt_of_le h4 hb.size, fun j hj => (below_cell hb h4).trans (h5 j hj)⟩)

theorem bls_at {w : World} {a : Option Addr} {len cap : Nat} {f : Nat → Bool} (h : Bls w a len cap f) (j : Nat) (hj : j < len) : ∃ b off, a = some ⟨b, off, none⟩ ∧ b < w.heap.size ∧ w.cell? ⟨b, off + j, none⟩ = some (.bool (f j)) := by
  rcases h with ⟨_, h, _⟩ | ⟨_, _, h⟩ | ⟨b, off, h1, h2, h3, h4, h5⟩
  · omega
  · omega
  · exact ⟨b, off, h1, h4, h5 j hj⟩

end Go.Proofs.YtficlakgameglaaDoor.Z

namespace Go.Proofs.YtficlakgameglaaDoor.Z

open Go.RowKit

set_option linter.unusedVariables false

set_option linter.unusedSimpArgs false

theorem made_vals (z : Value) (n : Nat) : madeCells #[z] n = vals n (fun _ => z) := by
  apply Array.ext_getElem?
  intro j
  by_cases hj : j < n
  · rw [vals_get _ _ _ hj]
    simp [madeCells, hj, Nat.mod_one]
  · rw [Array.getElem?_eq_none (by rw [size_madeCells]; omega), Array.getElem?_eq_none (by rw [vals_size]; omega)]

theorem made_vs (n : Nat) : madeCells #[.int .u8 0] n = vs .u8 n (fun _ => 0) := made_vals _ n

theorem make_bytes (W : World) (n : Nat) (hn : n ≤ 140737488355328) : (Instr.makeSlice 39 (.int .i64 n) (.int .i64 n)).run Tryd.prog W = .ok (.slice (some ⟨W.heap.size, 0, none⟩) n n) (W.alloc (.cells (vs .u8 n (fun _ => 0)) 5)) := by
  obtain ⟨i, hi, hz0, hz1, hz2⟩ := info_parts info8
  have h := run_make (P := Tryd.prog) W 39 5 i (.int .u8 0) Tryd.underlying39 hi hz0 .i64 .i64 n n (by omega) (Int.le_refl _) (by rw [hz2]; omega) (by omega)
  rw [hz1, Int.toNat_natCast, Nat.mul_one] at h
  rw [h, ← made_vs]
  rfl

theorem bys_at {w : World} {a : Option Addr} {len cap : Nat} {m : Nat → Int} (h : Bys w a len cap m) (j : Nat) (hj : j < len) : ∃ b off, a = some ⟨b, off, none⟩ ∧ b < w.heap.size ∧ w.cell? ⟨b, off + j, none⟩ = some (.int .u8 (m j)) := by
  rcases h with ⟨_, h, _⟩ | ⟨_, _, h⟩ | ⟨b, off, h1, h2, h3, h4, h5⟩
  · omega
  · omega
  · exact ⟨b, off, h1, h4, h5 j hj⟩

end Go.Proofs.YtficlakgameglaaDoor.Z

namespace Go.Proofs.YtficlakgameglaaDoor.Z

open Go.RowKit

set_option linter.unusedVariables false

set_option linter.unusedSimpArgs false

theorem vs0 (f : Nat → Bool) (N : Nat) : vs .u8 N (fun _ => 0) = vs .u8 N (fun q => (byt f 0 q : Int)) := vs_congr fun q _ => by rw [byt_zero]; rfl

end Go.Proofs.YtficlakgameglaaDoor.Z

namespace Go.Proofs.YtficlakgameglaaDoor.Z

open Go.RowKit

set_option linter.unusedVariables false

set_option linter.unusedSimpArgs false

/-- A slice of bits, whole. -/
def slB (x : Value) (lo hi : Option Value) : Sem Value := Instr.sliceAt 103 x lo hi none

theorem slB_eq (x : Value) (lo hi : Option Value) : Instr.sliceAt 103 x lo hi none = slB x lo hi := rfl

end Go.Proofs.YtficlakgameglaaDoor.Z

namespace Go.Proofs.YtficlakgameglaaDoor.Z

open Go.RowKit

set_option linter.unusedVariables false

set_option linter.unusedSimpArgs false

theorem add_pow (B r : Nat) (hr : r < 8) (hs : B + 2 ^ r < 256) : ((B : Int) + 2 ^ r) % 256 = ((B + 2 ^ r : Nat) : Int) := by
  rw [show ((2 : Int) ^ r) = ((2 ^ r : Nat) : Int) by simp, ← Int.natCast_add]
  exact Int.emod_eq_of_lt (Int.natCast_nonneg _) (Int.ofNat_lt.2 hs)

set_option maxHeartbeats 400000 in
theorem rvector_any (f : Nat → Bool) (a : Option Addr) (n cap : Nat) (w : World) (h : Bls w a n cap f) (hnb : n ≤ 140737488355328) :
    Calls Tryd.prog 51 #[.slice a n cap] w fun e w' => e = .returned (.slice (some ⟨w.heap.size, 0, none⟩) ((n + 7) / 8) ((n + 7) / 8)) ∧ w'.heap[w.heap.size]? = some (.cells (vs .u8 ((n + 7) / 8) (fun q => (byt f n q : Int))) 5) ∧ Below w.heap.size w w' ∧ w'.heap.size = w.heap.size + 1 := by
  have hmk := make_bytes w ((n + 7) / 8) (by omega)
  obtain ⟨N, eN⟩ : ∃ N, (n + 7) / 8 = N := ⟨_, rfl⟩
  have eN' : ((n : Int) + 7) / 8 = (N : Int) := by omega
  have hN : n ≤ 8 * N := by omega
  rw [eN] at hmk ⊢
  have H := hid h
  have hn : (n : Int) ≤ 140737488355328 := by omega
  have n0 : (0 : Int) ≤ (n : Int) := by omega
  clear h eN
  go_enter Tryd.func51, Tryd.ntmps51
  go_wp2
  go_loopw [4] (fun v wr => ∃ k : Nat, k ≤ n ∧ v = .int .i64 k ∧ wr.heap[w.heap.size]? = some (.cells (vs .u8 N (fun q => (byt f k q : Int))) 5) ∧ Below w.heap.size w wr ∧ wr.heap.size = w.heap.size + 1) (fun v _ => n - (intOf v).toNat)
  case atStart => exact ⟨0, by omega, rfl, (heap_new rfl).trans (by rw [vs0 f]), (Below.refl _ _).alloc (Nat.le_refl _) _, by simp⟩
  case round =>
    obtain ⟨k, hk, rfl, hr, hb, hz⟩ := hrel
    clear hmk
    by_cases hkn : k < n
    · obtain ⟨b, off, rfl, hbb, ck0⟩ := bls_at H.out k hkn
      have ck := (below_cell hb hbb).trans ck0
      obtain ⟨x, ex⟩ : ∃ x, f k = x := ⟨_, rfl⟩
      rw [ex] at ck
      have k1 : (k : Int) < (n : Int) := by omega
      have k2 : (0 : Int) ≤ (k : Int) := by omega
      have HR := hid hr
      have HB := hid hb
      have HZ := hid hz
      have EX := hid ex
      clear ck0 ex
      cases x
      · clear hr hb hz
        go_wp2
        go_roundw
        case rel =>
          refine ⟨k + 1, by omega, by go_num, ?_, HB.out, HZ.out⟩
          rw [HR.out]
          exact congrArg (fun c => some (Obj.cells c 5)) (vs_congr fun q _ => by rw [byt_skip f k q EX.out])
        case measure => simp [intOf]; omega
      · have cq := row_int hr (k / 8) (by omega)
        have fq := row_frozen hr (k / 8)
        obtain ⟨q, eq⟩ : ∃ q, k / 8 = q := ⟨_, rfl⟩
        obtain ⟨B, eB⟩ : ∃ B, byt f k q = B := ⟨_, rfl⟩
        obtain ⟨r, er⟩ : ∃ r, k % 8 = r := ⟨_, rfl⟩
        have e1 : (k : Int) / 8 = (q : Int) := by omega
        have e2 : (k : Int) % 8 = (r : Int) := by omega
        have q1 : (q : Int) < (N : Int) := by omega
        have q2 : (0 : Int) ≤ (q : Int) := by omega
        have r1 : (r : Int) < 8 := by omega
        have r2 : (0 : Int) ≤ (r : Int) := by omega
        rw [eq] at cq fq
        rw [eB] at cq
        have EE := hid (And.intro eq (And.intro er eB))
        clear hr hb hz eq er eB
        go_wp2
        go_roundw
        case rel =>
          obtain ⟨eq, er, eB⟩ := EE.out
          refine ⟨k + 1, by omega, by go_num, ?_, HB.out.setCell (by simp) _, ?_⟩
          · refine (row_set HR.out q _).trans ?_
            rw [vs_set]
            refine congrArg (fun c => some (Obj.cells c 5)) (vs_congr fun i _ => ?_)
            by_cases hi : i = q
            · have e3 := byt_add f k EX.out
              have e4 := byt_lt f (k + 1) (k / 8)
              rw [← e3, eq, er, eB] at e4
              rw [eq, er, eB] at e3
              rw [if_pos hi, add_pow B r (by omega) e4, hi, e3]
            · rw [if_neg hi, byt_other f k i (by omega)]
          · exact (size_set _ _ _).trans HZ.out
        case measure => simp [intOf]; omega
    · have ek : k = n := by omega
      subst ek
      have HR := hid hr
      have HB := hid hb
      clear hr hb
      go_wp2
      go_ret
      exact ⟨rfl, HR.out, HB.out, hz⟩

end Go.Proofs.YtficlakgameglaaDoor.Z

namespace Go.Proofs.YtficlakgameglaaDoor.Z

open Go.RowKit

set_option linter.unusedVariables false

set_option linter.unusedSimpArgs false

end Go.Proofs.YtficlakgameglaaDoor.Z

namespace Go.Proofs.YtficlakgameglaaDoor.Z

open Go.RowKit

set_option linter.unusedVariables false

set_option linter.unusedSimpArgs false

attribute [local go_sem ↓] slB_eq

end Go.Proofs.YtficlakgameglaaDoor.Z
