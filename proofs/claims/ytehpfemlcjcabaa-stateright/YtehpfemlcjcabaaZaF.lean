/-
  What ssz.LayMany and the reference's four and LayMany answer.
  What the reference's four and LayMany answer.
  Bytes that were laid, read again.
  The bytes of a container; what layContainer answers.
  What ssz.Lay answers.
-/
import Derived.Test.YtehpfemlcjcabaaZaE
import Derived.ScopeJumps
namespace Go.Proofs.Ytehpfemlcjcabaa.Z

open Go.RowKit

set_option linter.unusedVariables false

set_option linter.unusedSimpArgs false

/-- The bytes of the part number r; the first k offsets; the first k parts. -/
def prt (f : Nat → Nat → Int) (L : Nat → Nat) (r : Nat) : List Int := (List.range (L r)).map (f r)

theorem prt_len (f : Nat → Nat → Int) (L : Nat → Nat) (r : Nat) : (prt f L r).length = L r := by simp [prt]

theorem bl_prt (f : Nat → Nat → Int) (L : Nat → Nat) (r : Nat) : bl (f r) (L r) = iv (prt f L r) := by simp [bl, iv, prt]

def cats (f : Nat → Nat → Int) (L : Nat → Nat) : Nat → List Int
  | 0 => []
  | k + 1 => cats f L k ++ prt f L k

end Go.Proofs.Ytehpfemlcjcabaa.Z

namespace Go.Proofs.Ytehpfemlcjcabaa.Z

open Go.RowKit

set_option linter.unusedVariables false

set_option linter.unusedSimpArgs false

theorem rfour_any (x : Nat) (w : World) (hx : x < 4611686018427387904) :
    Calls Try.prog 85 #[.int .i64 x] w fun e w' => e = .returned (.slice (some ⟨w.heap.size, 0, none⟩) 4 4) ∧ w' = w.alloc (.cells #[.int .u8 (bt x 0), .int .u8 (bt x 1), .int .u8 (bt x 2), .int .u8 (bt x 3)] 5) := by
  have h1 : (x : Int) < 4611686018427387904 := by omega
  have h0 : (0 : Int) ≤ (x : Int) := by omega
  show Calls Try.prog 85 #[.int .i64 x] w fun e w' => e = .returned (.slice (some ⟨w.heap.size, 0, none⟩) 4 4) ∧ w' = w.alloc (.cells #[.int .u8 ((x : Int) % 256), .int .u8 ((x : Int) / 256 % 256), .int .u8 ((x : Int) / 65536 % 256), .int .u8 ((x : Int) / 16777216 % 256)] 5)
  go_enter Try.func85, Try.ntmps85
  go_wp2
  go_ret
  exact ⟨rfl, rfl⟩

theorem row4_bys (w : World) (x : Nat) : Bys (w.alloc (.cells #[.int .u8 (bt x 0), .int .u8 (bt x 1), .int .u8 (bt x 2), .int .u8 (bt x 3)] 5)) (some ⟨w.heap.size, 0, none⟩) 4 4 (fun j => bt x j) := by
  refine .inr (.inr ⟨w.heap.size, 0, rfl, by omega, by omega, by simp, fun j hj => ?_⟩)
  rw [Nat.zero_add, row_cell (heap_new rfl) j]
  rcases (by omega : j = 0 ∨ j = 1 ∨ j = 2 ∨ j = 3) with rfl | rfl | rfl | rfl <;> rfl

end Go.Proofs.Ytehpfemlcjcabaa.Z

namespace Go.Proofs.Ytehpfemlcjcabaa.Z

open Go.RowKit

set_option linter.unusedVariables false

set_option linter.unusedSimpArgs false

theorem getD_left (l r : List Int) (j : Nat) (h : j < l.length) : (l ++ r).getD j 0 = l.getD j 0 := by
  simp [List.getD_eq_getElem?_getD, List.getElem?_append_left h]

theorem getD_right (l r : List Int) (j : Nat) : (l ++ r).getD (l.length + j) 0 = r.getD j 0 := by
  simp [List.getD_eq_getElem?_getD, List.getElem?_append_right (Nat.le_add_right _ _)]

theorem getD_map (m : Nat → Int) (n j : Nat) (h : j < n) : ((List.range n).map m).getD j 0 = m j := by
  simp [List.getD_eq_getElem?_getD, List.getElem?_range h]

theorem iv_bl (l : List Int) : iv l = bl (fun j => l.getD j 0) l.length := by
  unfold iv bl
  apply List.ext_getElem?
  intro j
  by_cases hj : j < l.length
  · simp [List.getD_eq_getElem?_getD, hj]
  · simp [hj]

theorem owns_bys {w : World} {B : Nat} {v : Value} {n : Nat} {l : List Int} (h : w.ownsRow B 5 1 v n (iv l)) : n = l.length ∧ ∃ a C, v = .slice a n C ∧ n ≤ C ∧ C ≤ 9223372036854775807 ∧ Bys w a n C (fun j => l.getD j 0) := by
  have hl : n = l.length := by have := h.1; rw [iv_len] at this; omega
  refine ⟨hl, ?_⟩
  subst hl
  rw [iv_bl] at h
  rcases h.2 with ⟨h1, h0⟩ | ⟨g, cap, cur, h1, h2, h3, h4, h5, h6, h7⟩
  · rw [h0]
    exact ⟨none, 0, by rw [h1], Nat.le_refl _, by omega, .inl ⟨rfl, rfl, rfl⟩⟩
  · subst h1
    obtain ⟨_, hb, hc, hd, hcell⟩ := own_cells h
    exact ⟨_, cap, rfl, hc, hd, .inr (.inr ⟨g, 0, rfl, hc, hd, hb, fun j hj => by rw [Nat.zero_add]; exact hcell j hj⟩)⟩

theorem fourL_get (x j : Nat) (h : j < 4) : (fourL x).getD j 0 = bt x j := by
  rcases (by omega : j = 0 ∨ j = 1 ∨ j = 2 ∨ j = 3) with rfl | rfl | rfl | rfl <;> rfl

theorem o4_bt (m : Nat → Int) (k x : Nat) (hx : x < 4294967296) (h : ∀ j, j < 4 → m (k + j) = bt x j) : o4 m k = (x : Int) := by
  have h0 := h 0 (by omega)
  have h1 := h 1 (by omega)
  have h2 := h 2 (by omega)
  have h3 := h 3 (by omega)
  unfold o4
  rw [Nat.add_zero] at h0
  rw [h0, h1, h2, h3]
  show (x : Int) % 256 + (x : Int) / 256 % 256 * 256 + (x : Int) / 65536 % 256 * 65536 + (x : Int) / 16777216 % 256 * 16777216 = (x : Int)
  omega

theorem bt_byte (x j : Nat) : 0 ≤ bt x j ∧ bt x j < 256 := by
  unfold bt
  split <;> omega

theorem getD_byte {l : List Int} (h : ∀ z ∈ l, 0 ≤ z ∧ z < 256) (j : Nat) : 0 ≤ l.getD j 0 ∧ l.getD j 0 < 256 := by
  rw [List.getD_eq_getElem?_getD]
  by_cases hj : j < l.length
  · rw [List.getElem?_eq_getElem hj]
    exact h _ (List.getElem_mem hj)
  · rw [List.getElem?_eq_none (by omega)]
    decide

/-- Pieces of a block's bytes. -/
theorem pc_bys {w : World} {g len : Nat} {m : Nat → Int} (hg : g < w.heap.size) (hc : ∀ j, j < len → w.cell? ⟨g, j, none⟩ = some (.int .u8 (m j))) (lo hi : Nat) (h1 : lo ≤ hi) (h2 : hi ≤ len) (hl : len ≤ 9223372036854775807) :
    ∃ A, pc (some ⟨g, 0, none⟩) lo hi = .slice A (hi - lo) (hi - lo) ∧ Bys w A (hi - lo) (hi - lo) (fun q => m (lo + q)) := by
  by_cases e : hi = lo
  · exact ⟨some ⟨g, 0, none⟩, by unfold pc; rw [if_pos e], .inr (.inl ⟨_, rfl, by omega⟩)⟩
  · refine ⟨some ⟨g, lo, none⟩, by unfold pc; rw [if_neg e, Option.map_some, addr_add, Nat.zero_add], .inr (.inr ⟨g, lo, rfl, Nat.le_refl _, by omega, hg, fun j hj => hc _ (by omega)⟩)⟩

theorem parts_of {w : World} {gp n : Nat} {P : Nat → Value} {L : Nat → Nat} {f : Nat → Nat → Int} {t : TypeId} (h : w.heap[gp]? = some (.cells (vals n P) t)) (hp : ∀ r, r < n → ∃ A, P r = .slice A (L r) (L r) ∧ Bys w A (L r) (L r) (f r)) : ∃ A, Parts w (some ⟨gp, 0, none⟩) n A L L f := by
  have hch : ∃ A : Nat → Option Addr, ∀ r, r < n → P r = .slice (A r) (L r) (L r) ∧ Bys w (A r) (L r) (L r) (f r) := by
    refine ⟨fun r => if hr : r < n then Classical.choose (hp r hr) else none, fun r hr => ?_⟩
    simp only [dif_pos hr]
    exact Classical.choose_spec (hp r hr)
  obtain ⟨A, hA⟩ := hch
  refine ⟨A, .inr ⟨gp, 0, rfl, (Array.getElem?_eq_some_iff.1 h).1, fun r hr => ⟨?_, (hA r hr).2⟩⟩⟩
  rw [Nat.zero_add, vals_cell h r hr, (hA r hr).1]

end Go.Proofs.Ytehpfemlcjcabaa.Z

namespace Go.Proofs.Ytehpfemlcjcabaa.Z

open Go.RowKit

set_option linter.unusedVariables false

set_option linter.unusedSimpArgs false

/-- How many bytes the parts of any size have, among the first k; their bytes; the bytes of the head. -/
def loL (zs : Nat → Int) (L : Nat → Nat) : Nat → Nat
  | 0 => 0
  | k + 1 => loL zs L k + (if zs k = 0 then L k else 0)

def loB (zs : Nat → Int) (f : Nat → Nat → Int) (L : Nat → Nat) : Nat → List Int
  | 0 => []
  | k + 1 => loB zs f L k ++ (if zs k = 0 then prt f L k else [])

def hdB (zs : Nat → Int) (f : Nat → Nat → Int) (L : Nat → Nat) (H : Nat) : Nat → List Int
  | 0 => []
  | k + 1 => hdB zs f L H k ++ (if zs k = 0 then fourL (H + loL zs L k) else prt f L k)

theorem loB_len (zs : Nat → Int) (f : Nat → Nat → Int) (L : Nat → Nat) (k : Nat) : (loB zs f L k).length = loL zs L k := by
  induction k with
  | zero => rfl
  | succ k ih =>
    unfold loB loL
    rw [List.length_append, ih]
    by_cases h : zs k = 0
    · rw [if_pos h, if_pos h, prt_len]
    · rw [if_neg h, if_neg h]
      rfl

theorem loL_mono (zs : Nat → Int) (L : Nat → Nat) {i j : Nat} (h : i ≤ j) : loL zs L i ≤ loL zs L j := by
  induction j with
  | zero => have : i = 0 := by omega
            subst this
            exact Nat.le_refl _
  | succ j ih =>
    by_cases hj : i ≤ j
    · have := ih hj
      show loL zs L i ≤ loL zs L j + _
      omega
    · have : i = j + 1 := by omega
      subst this
      exact Nat.le_refl _

/-- The parts of a known size have it. -/
def Fits (zs : Nat → Int) (L : Nat → Nat) (n : Nat) : Prop := ∀ r, r < n → zs r ≠ 0 → (L r : Int) = zs r

theorem hdB_len (zs : Nat → Int) (f : Nat → Nat → Int) (L : Nat → Nat) (H k : Nat) (hf : Fits zs L k) : (hdB zs f L H k).length = hdL zs k := by
  induction k with
  | zero => rfl
  | succ k ih =>
    unfold hdB hdL
    rw [List.length_append, ih fun r hr => hf r (by omega)]
    by_cases h : zs k = 0
    · rw [if_pos h]
      unfold inH
      rw [if_pos h]
      rfl
    · rw [if_neg h, prt_len]
      unfold inH
      rw [if_neg h]
      have := hf k (by omega) h
      omega

def layC (zs : Nat → Int) (f : Nat → Nat → Int) (L : Nat → Nat) (n : Nat) : List Int := hdB zs f L (hdL zs n) n ++ loB zs f L n

theorem layC_len (zs : Nat → Int) (f : Nat → Nat → Int) (L : Nat → Nat) (n : Nat) (hf : Fits zs L n) : (layC zs f L n).length = hdL zs n + loL zs L n := by
  unfold layC
  rw [List.length_append, hdB_len _ _ _ _ _ hf, loB_len]

set_option maxRecDepth 20000 in
set_option maxHeartbeats 1000000 in
theorem layc_any (zs : Nat → Int) (a : Option Addr) (n c : Nat) (A : Nat → Option Addr) (L C : Nat → Nat) (f : Nat → Nat → Int) (sa : Option Addr) (sc : Nat) (la : Option Addr) (nl lc : Nat) (Al : Nat → Option Addr) (Ll Cl : Nat → Nat) (fl : Nat → Nat → Int) (w : World)
    (h : Parts w a n A L C f) (hn : Nms .i64 w sa n zs) (hn1 : 1 ≤ n) (hnb : n ≤ 64) (hok : ∀ i, i < n → okS (zs i)) (hfit : Fits zs L n) (hl : Parts w la nl Al Ll Cl fl) (hnl : nl ≤ 64) (hcat : cats fl Ll nl = loB zs f L n) (hsum : sumL Ll nl = loL zs L n) (ht : hdL zs n + loL zs L n < 4294967296) :
    Calls Try.prog 59 #[.slice a n c, .slice sa n sc, .slice la nl lc, .int .u64 ((hdL zs n + loL zs L n : Nat) : Int)] w fun e w' => ∃ v, e = .returned v ∧ w'.ownsRow w.heap.size 5 1 v (hdL zs n + loL zs L n) (iv (layC zs f L n)) ∧ Below w.heap.size w w' := by
  have HH : Hid (∀ W, Below w.heap.size w W → Calls Try.prog 58 #[.slice sa n sc] W fun e w' => e = .returned (.int .u64 (hdL zs n)) ∧ w' = W) := fun W hW => headlen_any zs sa n sc W (hn.below hW) hn1 hnb hok
  have HP : Hid (∀ W, Below w.heap.size w W → Parts W a n A L C f) := fun W hW => h.below hW
  have HL : Hid (∀ W, Below w.heap.size w W → Parts W la nl Al Ll Cl fl) := fun W hW => hl.below hW
  have HN : Hid (∀ W, Below w.heap.size w W → ∀ k, k < n → ∃ b off, sa = some ⟨b, off, none⟩ ∧ W.cell? ⟨b, off + k, none⟩ = some (.int .i64 (zs k))) := by
    intro W hW k hk
    rcases hn.below hW with h | ⟨b, off, h1, h2, h3⟩
    · omega
    · exact ⟨b, off, h1, h3 k hk⟩
  have hH := hdL_bd n hok
  obtain ⟨T, eT⟩ : ∃ T, hdL zs n + loL zs L n = T := ⟨_, rfl⟩
  obtain ⟨S, eS⟩ : ∃ S, hdL zs n = S := ⟨_, rfl⟩
  have elay : layC zs f L n = hdB zs f L S n ++ loB zs f L n := by unfold layC; rw [eS]
  rw [eT] at ht ⊢
  rw [eS] at HH hH
  rw [elay]
  have EE : Hid (S + loL zs L n = T ∧ hdL zs n = S ∧ cats fl Ll nl = loB zs f L n ∧ sumL Ll nl = loL zs L n ∧ Fits zs L n) := ⟨by rw [← eS]; exact eT, eS, hcat, hsum, hfit⟩
  have HOK := hid hok
  obtain ⟨i8, hi8, hz0, hz1, hz2⟩ := info_parts info8
  clear h hn hok hfit hl hcat hsum eT eS elay
  go_enter Try.func59, Try.ntmps59
  go_wp2_with (first
    | (at_make; refine wpList_make_own _ rfl _ _ 39 rfl w.heap.size 5 i8 (.int .u8 0) 1 Try.underlying39 hi8 hz0 hz1 _ _ _ T rfl rfl rfl (by rw [hz2]; omega) (by unfold maxLen; omega) (Nat.le_refl _) ?_; intro w2 ho2 hg2; have HO2 := hid ho2; have HB2 : Hid (Below w.heap.size w w2) := ⟨hg2.os, hg2.tape, hg2.output, hg2.size, fun k hk => hg2.block k hk (by intro h; cases h)⟩; clear ho2 hg2)
    | (go_at_call 58; refine (HH.out _ HB2.out).mono ?_; rintro e w3 ⟨rfl, hw3⟩; obtain rfl := hw3.symm))
  go_loopw [9, 10, 21] (fun v o i wr => ∃ k : Nat, k ≤ n ∧ i = .int .i64 k ∧ o = .int .u64 ((S + loL zs L k : Nat) : Int) ∧ wr.ownsRow w.heap.size 5 1 v (hdL zs k) (iv (hdB zs f L S k)) ∧ Below w.heap.size w wr) (fun _ _ i _ => n - (intOf i).toNat)
  case atStart => exact ⟨0, by omega, rfl, by simp [loL], HO2.out, HB2.out⟩
  case round =>
    obtain ⟨k, hk, rfl, rfl, hown, hb⟩ := hrel
    by_cases hkn : k < n
    · obtain ⟨b1, o1, rfl, hb1, c1, y1⟩ := parts_at (HP.out _ hb) k hkn
      obtain ⟨b2, o2, rfl, c2⟩ := HN.out _ hb k hkn
      obtain ⟨eT, eS, hcat, hsum, hfit⟩ := EE.out
      have hmo := loL_mono zs L (i := k + 1) (j := n) (by omega)
      have hlo : loL zs L (k + 1) = loL zs L k + (if zs k = 0 then L k else 0) := rfl
      have hhm := hdL_mono zs (i := k) (j := n) (by omega)
      have hz := hb.size
      obtain ⟨O, eO⟩ : ∃ O, S + loL zs L k = O := ⟨_, rfl⟩
      have k1 : (k : Int) < (n : Int) := by omega
      have k2 : (0 : Int) ≤ (k : Int) := by omega
      have hx := HOK.out k hkn
      have hlen : (hdB zs f L S (k + 1)) = hdB zs f L S k ++ (if zs k = 0 then fourL (S + loL zs L k) else prt f L k) := rfl
      have hhd : hdL zs (k + 1) = hdL zs k + inH (zs k) := rfl
      rw [eO] at hlen ⊢
      by_cases h0 : zs k = 0
      · have hap := appendoff_any u9 (hdL zs k) (hdB zs f L S k) O w.heap.size wr hown (by omega) (by omega) hz
        rw [if_pos h0] at hlo hlen
        rw [← hlen] at hap
        have e4 : hdL zs (k + 1) = hdL zs k + 4 := by rw [hhd]; unfold inH; rw [if_pos h0]
        rw [← e4] at hap
        have HAP := hid hap
        obtain ⟨l, el⟩ : ∃ l, L k = l := ⟨_, rfl⟩
        rw [el] at c1 hlo
        rw [h0] at c2
        have t1 : (O : Int) < 4294967296 := by omega
        have t2 : (0 : Int) ≤ (O : Int) := by omega
        have l1 : (l : Int) < 4294967296 := by omega
        have l2 : (0 : Int) ≤ (l : Int) := by omega
        have t3 : (O : Int) + (l : Int) < 4294967296 := by omega
        have E : Hid (S + loL zs L (k + 1) = O + l) := by show S + loL zs L (k + 1) = O + l; omega
        have HB := hid hb
        clear hlo hmo hhm eO el hap hlen hhd e4 hown hb y1 h0 eT eS hcat hsum hfit hx
        go_wp2_with (go_at_call 87; refine HAP.out.mono ?_; rintro e w3 ⟨v3, rfl, ho3, hb3⟩; have HO3 := hid ho3; have HB3 := hid hb3; clear ho3 hb3)
        go_roundw
        case rel => exact ⟨k + 1, by omega, by go_num, by rw [E.out]; go_num, HO3.out, HB.out.trans HB3.out⟩
        case measure => simp [intOf]; omega
      · have hfk := hfit k hkn h0
        rw [if_neg h0] at hlo hlen
        obtain ⟨z, ez⟩ : ∃ z, zs k = z := ⟨_, rfl⟩
        rw [ez] at c2 h0 hfk
        have EL : Hid (hdL zs (k + 1) = hdL zs k + L k ∧ hdB zs f L S (k + 1) = hdB zs f L S k ++ prt f L k ∧ S + loL zs L (k + 1) = O) := ⟨by rw [hhd]; unfold inH; rw [ez, if_neg h0]; omega, hlen, by omega⟩
        have hbd : hdL zs k + L k ≤ 140737488355328 := by have := hdL_mono zs (i := k + 1) (j := n) (by omega); have := EL.out.1; omega
        have t0 : (z != 0) = true := by simpa using h0
        have HO := hid hown
        have HB := hid hb
        have HY := hid y1
        clear hlo hmo hhm eO hlen hhd hown hb y1 h0 eT eS hcat hsum hfit hx hfk ez
        go_wp2_with (at_builtin; refine wpList_append_bys _ rfl _ _ rfl w.heap.size _ (hdL zs k) _ rfl HO.out (A k) (L k) (C k) (f k) rfl HY.out hbd hz ?_; intro v3 w3 ho3 hg3; have HB3 := hid (below_grown HB.out HO.out hz hg3); have HO3 := hid ho3; clear ho3 hg3)
        go_roundw
        case rel =>
          refine ⟨k + 1, by omega, by go_num, by rw [EL.out.2.2], ?_, HB3.out⟩
          rw [EL.out.1, EL.out.2.1, iv_append, ← bl_prt]
          exact HO3.out
        case measure => simp [intOf]; omega
    · have ek : k = n := by omega
      subst ek
      obtain ⟨eT, eS, hcat, hsum, hfit⟩ := EE.out
      rw [eS] at hown
      rw [eT]
      have HO := hid hown
      have HB := hid hb
      have EC : Hid (cats fl Ll nl = loB zs f L k ∧ S + sumL Ll nl = T) := ⟨hcat, by omega⟩
      clear hown hb HO2 HB2 hcat hsum hfit eT eS
      go_wp2
      go_loopw [9, 45] (fun v i wr' => ∃ j : Nat, j ≤ nl ∧ i = .int .i64 j ∧ wr'.ownsRow w.heap.size 5 1 v (S + sumL Ll j) (iv (hdB zs f L S k ++ cats fl Ll j)) ∧ Below w.heap.size w wr') (fun _ i _ => nl - (intOf i).toNat)
      case atStart => exact ⟨0, by omega, rfl, by simpa [sumL, cats] using HO.out, HB.out⟩
      case round =>
        obtain ⟨j, hj, rfl, hown, hb⟩ := hrel
        by_cases hjn : j < nl
        · obtain ⟨b1, o1, rfl, hb1, c1, y1⟩ := parts_at (HL.out _ hb) j hjn
          have hsu : sumL Ll (j + 1) = sumL Ll j + Ll j := rfl
          have hmo := sumL_mono Ll (i := j + 1) (j := nl) (by omega)
          have hz := hb.size
          have hbd : S + sumL Ll j + Ll j ≤ 140737488355328 := by have := EC.out.2; omega
          have k1 : (j : Int) < (nl : Int) := by omega
          have k2 : (0 : Int) ≤ (j : Int) := by omega
          have HO := hid hown
          have HB := hid hb
          have HY := hid y1
          clear hsu hmo hown hb y1
          go_wp2_with (at_builtin; refine wpList_append_bys _ rfl _ _ rfl w.heap.size _ (S + sumL Ll j) _ rfl HO.out (Al j) (Ll j) (Cl j) (fl j) rfl HY.out hbd hz ?_; intro v3 w3 ho3 hg3; have HB3 := hid (below_grown HB.out HO.out hz hg3); have HO3 := hid ho3; clear ho3 hg3)
          go_roundw
          case rel =>
            refine ⟨j + 1, by omega, by go_num, ?_, HB3.out⟩
            have := HO3.out
            rw [bl_prt, ← iv_append, List.append_assoc, Nat.add_assoc] at this
            exact this
          case measure => simp [intOf]; omega
        · have ej : j = nl := by omega
          subst ej
          have HO := hid hown
          have HB := hid hb
          clear hown hb
          go_wp2
          go_ret
          refine ⟨_, rfl, ?_, HB.out⟩
          have := HO.out
          rw [EC.out.1, EC.out.2] at this
          exact this

end Go.Proofs.Ytehpfemlcjcabaa.Z

namespace Go.Proofs.Ytehpfemlcjcabaa.Z

open Go.RowKit

set_option linter.unusedVariables false

set_option linter.unusedSimpArgs false

/-- Which part is the loose one number j. -/
def ixz (zs : Nat → Int) : Nat → Nat → Nat
  | 0, _ => 0
  | n + 1, j => if zs n = 0 ∧ zn zs n = j then n else ixz zs n j

theorem ixz_at (zs : Nat → Int) {k n : Nat} (hk : k < n) (h0 : zs k = 0) : ixz zs n (zn zs k) = k := by
  induction n with
  | zero => omega
  | succ n ih =>
    unfold ixz
    by_cases e : k = n
    · subst e
      rw [if_pos ⟨h0, rfl⟩]
    · have h := zn_lt zs (k := k) (n := n) (by omega) h0
      rw [if_neg (by omega), ih (by omega)]

theorem zn_succ (zs : Nat → Int) (k : Nat) : (zs k = 0 → zn zs (k + 1) = zn zs k + 1) ∧ (¬ zs k = 0 → zn zs (k + 1) = zn zs k) := by
  refine ⟨fun h => ?_, fun h => ?_⟩
  · show zn zs k + (if zs k = 0 then 1 else 0) = _
    rw [if_pos h]
  · show zn zs k + (if zs k = 0 then 1 else 0) = _
    rw [if_neg h, Nat.add_zero]

theorem loose_sum (zs : Nat → Int) (L : Nat → Nat) (n k : Nat) (hk : k ≤ n) : sumL (fun j => L (ixz zs n j)) (zn zs k) = loL zs L k := by
  induction k with
  | zero => rfl
  | succ k ih =>
    have h1 := ih (by omega)
    show _ = loL zs L k + (if zs k = 0 then L k else 0)
    by_cases h : zs k = 0
    · rw [(zn_succ zs k).1 h, if_pos h, ← h1]
      show sumL _ (zn zs k) + L (ixz zs n (zn zs k)) = _
      rw [ixz_at zs (by omega) h]
    · rw [(zn_succ zs k).2 h, if_neg h, h1]
      rfl

theorem loose_cats (zs : Nat → Int) (f : Nat → Nat → Int) (L : Nat → Nat) (n k : Nat) (hk : k ≤ n) : cats (fun j => f (ixz zs n j)) (fun j => L (ixz zs n j)) (zn zs k) = loB zs f L k := by
  induction k with
  | zero => rfl
  | succ k ih =>
    have h1 := ih (by omega)
    show _ = loB zs f L k ++ (if zs k = 0 then prt f L k else [])
    by_cases h : zs k = 0
    · rw [(zn_succ zs k).1 h, if_pos h, ← h1]
      show cats _ _ (zn zs k) ++ (List.range (L (ixz zs n (zn zs k)))).map (f (ixz zs n (zn zs k))) = _
      rw [ixz_at zs (by omega) h]
      rfl
    · rw [(zn_succ zs k).2 h, if_neg h, h1, List.append_nil]

/-- The loose parts among the first k, as values. -/
def lvs (zs : Nat → Int) (P : Nat → Value) (n k : Nat) : List Value := (List.range (zn zs k)).map fun j => P (ixz zs n j)

theorem lvs_succ (zs : Nat → Int) (P : Nat → Value) (n k : Nat) (hk : k < n) (h : zs k = 0) : lvs zs P n (k + 1) = lvs zs P n k ++ [P k] := by
  unfold lvs
  rw [(zn_succ zs k).1 h, List.range_succ, List.map_append]
  simp [ixz_at zs hk h]

theorem lvs_skip (zs : Nat → Int) (P : Nat → Value) (n k : Nat) (h : ¬ zs k = 0) : lvs zs P n (k + 1) = lvs zs P n k := by
  unfold lvs
  rw [(zn_succ zs k).2 h]

theorem info22' : (Try.prog.info? 39).map (fun i => (i.zero, i.size, i.bytes)) = some (some (.slice none 0 0), 1, 24) := by kernel_rfl

/-- append of one part. -/
theorem wpList_append_part (w : World) {ops : Array Oper} {rest : List Oper} {o : Oper} {a : Act} {Q : Exit → Act → World → Prop} (hgd : o.guard = none) (s x : Operand)
    (ho : o.op = .call { callee := .builtin .append, args := #[s, x], argTypes := #[80, 80] })
    (base : Nat) (v : Value) (n : Nat) (xs : List Value) (z : Value) (hz : z.oneCell' = true) (hs : a.eval s = v) (hown : w.ownsRow base 39 1 v n xs)
    (hx : a.eval x = .slice (some ⟨w.heap.size, 0, none⟩) 1 1) (hbd : n ≤ 1000000000000) (hbase : base ≤ w.heap.size)
    (h : ∀ v' w', w'.ownsRow base 39 1 v' (n + 1) (xs ++ [z]) → w.grownBy w' v.ownBlock → wpList Try.prog ops Q rest (a.put o.dst v') w') :
    wpList Try.prog ops Q (o :: rest) a (w.alloc (.cells #[z] 39)) := by
  obtain ⟨i, hi, hz0, hz1, hz2⟩ := info_parts info22'
  refine wpList_append_own _ hgd s x 80 ho base 39 i (.slice none 0 0) 1 24 Try.underlying80 hi hz0 hz1 hz2 rfl (by decide) v n xs hs (hown.alloc _) ⟨w.heap.size, 0, none⟩ 1 1 [z] hx rfl (cell_one_new _ _ _)
    (fun u hu => by simp at hu; subst hu; exact hz) (by unfold maxLen; omega) (by omega) (by simp; omega) (fun v' w' h1 h2 _ => ?_)
  refine h v' w' h1 ⟨h2.os, h2.tape, h2.output, ?_, fun k hk hne => ?_⟩
  · have := h2.size
    simp at this
    omega
  · exact (h2.block k (by simp; omega) hne).trans (heap_old hk)

/-- Parts that lie in a row of the call's own. -/
theorem owns_parts {w : World} {B : Nat} {v : Value} {n : Nat} {A : Nat → Option Addr} {L C : Nat → Nat} {f : Nat → Nat → Int} (h : w.ownsRow B 39 1 v n ((List.range n).map fun j => Value.slice (A j) (L j) (C j))) (hb : ∀ j, j < n → Bys w (A j) (L j) (C j) (f j)) : ∃ a c, v = .slice a n c ∧ Parts w a n A L C f ∧ ∀ x, a = some x → B ≤ x.block := by
  rcases h.2 with ⟨h1, h0⟩ | ⟨g, cap, cur, h1, h2, h3, h4, h5, h6, h7⟩
  · subst h0
    exact ⟨none, 0, h1, .inl rfl, fun x hx => by cases hx⟩
  · subst h1
    refine ⟨_, cap, rfl, .inr ⟨g, 0, rfl, (Array.getElem?_eq_some_iff.1 h3).1, fun r hr => ⟨?_, hb r hr⟩⟩, fun x hx => by cases hx; exact h2⟩
    have := h.cells (g := g) rfl r (.slice (A r) (L r) (C r)) (by rw [List.getElem?_map, List.getElem?_range hr]; rfl)
    rw [addr_add] at this
    exact this

theorem ixz_lt (zs : Nat → Int) {n j : Nat} (hj : j < zn zs n) : ixz zs n j < n := by
  induction n with
  | zero => simp [zn] at hj
  | succ n ih =>
    unfold ixz
    by_cases h : zs n = 0 ∧ zn zs n = j
    · rw [if_pos h]; omega
    · rw [if_neg h]
      have : j < zn zs n := by
        by_cases h0 : zs n = 0
        · have h1 := (zn_succ zs n).1 h0
          have h2 : ¬ zn zs n = j := fun e => h ⟨h0, e⟩
          omega
        · have h1 := (zn_succ zs n).2 h0
          omega
      have := ih this
      omega

theorem loose_bys {w : World} {a : Option Addr} {n : Nat} {A : Nat → Option Addr} {L C : Nat → Nat} {f : Nat → Nat → Int} {zs : Nat → Int} (h : Parts w a n A L C f) {j : Nat} (hj : j < zn zs n) : Bys w (A (ixz zs n j)) (L (ixz zs n j)) (C (ixz zs n j)) (f (ixz zs n j)) := by
  obtain ⟨_, _, _, _, _, h5⟩ := parts_at h (ixz zs n j) (ixz_lt zs hj)
  exact h5

theorem owns_base {w : World} {B B' : Nat} {e : TypeId} {v : Value} {n : Nat} {xs : List Value} (h : w.ownsRow B e 1 v n xs) (hB : B' ≤ B) : w.ownsRow B' e 1 v n xs := by
  refine ⟨h.1, ?_⟩
  rcases h.2 with h1 | ⟨g, cap, cur, h1, h2, h3⟩
  · exact .inl h1
  · exact .inr ⟨g, cap, cur, h1, by omega, h3⟩

set_option maxRecDepth 20000 in
set_option maxHeartbeats 1000000 in
theorem lay_ok (zs : Nat → Int) (a : Option Addr) (n c : Nat) (A : Nat → Option Addr) (L C : Nat → Nat) (f : Nat → Nat → Int) (sa : Option Addr) (sc : Nat) (w : World) (h : Parts w a n A L C f) (hn : Nms .i64 w sa n zs) (hsz : szB zs n = true) (hLb : ∀ r, r < n → L r ≤ 9223372036854775807) (hfit : Fits zs L n) (ht : hdL zs n + loL zs L n < 4294967296) :
    Calls Try.prog 22 #[.slice a n c, .slice sa n sc] w fun e w' => ∃ v, e = .returned (.tuple #[v, .int .i64 0]) ∧ w'.ownsRow w.heap.size 5 1 v (hdL zs n + loL zs L n) (iv (layC zs f L n)) ∧ Below w.heap.size w w' := by
  obtain ⟨hn1, hnb, hok⟩ := szB_out hsz
  have hH := hdL_bd n hok
  have hsi := sizes_any zs sa n sc w hn (by omega)
  rw [hsz] at hsi
  have HSI := hid hsi
  have HP : Hid (∀ W, Below w.heap.size w W → Parts W a n A L C f) := fun W hW => h.below hW
  have HHL : Hid (∀ W, Below w.heap.size w W → Calls Try.prog 58 #[.slice sa n sc] W fun e w' => e = .returned (.int .u64 (hdL zs n)) ∧ w' = W) := fun W hW => headlen_any zs sa n sc W (hn.below hW) hn1 hnb hok
  have HNN : Hid (∀ W, Below w.heap.size w W → Nms .i64 W sa n zs) := fun W hW => hn.below hW
  have HN : Hid (∀ W, Below w.heap.size w W → ∀ k, k < n → ∃ b off, sa = some ⟨b, off, none⟩ ∧ W.cell? ⟨b, off + k, none⟩ = some (.int .i64 (zs k))) := by
    intro W hW k hk
    rcases hn.below hW with h | ⟨b, off, h1, h2, h3⟩
    · omega
    · exact ⟨b, off, h1, h3 k hk⟩
  have HLB := hid hLb
  have HFIT := hid hfit
  have HOK := hid hok
  clear hsi h hn hsz hLb hfit hok
  go_enter Try.func22, Try.ntmps22
  go_wp2
  refine wp_scope_jumps 0 (fun _ _ => False) (fun _ _ => 0) rfl ?_ (fun _ _ h => h.elim)
  go_wp2_with (go_at_call 56; refine HSI.out.mono ?_; rintro e w1 ⟨rfl, hw1⟩; obtain rfl := hw1.symm)
  go_loopw [6, 23] (fun v i wr => ∃ k : Nat, k ≤ n ∧ i = .int .i64 k ∧ wr.ownsRow w.heap.size 39 1 v (zn zs k) (lvs zs (fun r => .slice (A r) (L r) (C r)) n k) ∧ Below w.heap.size w wr ∧ Fits zs L k) (fun _ i _ => n - (intOf i).toNat)
  case atStart => exact ⟨0, by omega, rfl, World.ownsRow_nil _ _ _ _, Below.refl _ _, fun r hr => by omega⟩
  case round =>
    obtain ⟨k, hk, rfl, hown, hb, hfk⟩ := hrel
    by_cases hkn : k < n
    · obtain ⟨b1, o1, rfl, hb1, c1, y1⟩ := parts_at (HP.out _ hb) k hkn
      obtain ⟨b2, o2, rfl, c2⟩ := HN.out _ hb k hkn
      have hz := hb.size
      have hx := HOK.out k hkn
      unfold okS at hx
      obtain ⟨hx1, hx2⟩ := hx
      obtain ⟨z, ez⟩ : ∃ z, zs k = z := ⟨_, rfl⟩
      rw [ez] at c2 hx1 hx2
      have hlk := HLB.out k hkn
      have hznk := zn_le zs k
      have k1 : (k : Int) < (n : Int) := by omega
      have k2 : (0 : Int) ≤ (k : Int) := by omega
      have HO := hid hown
      have HB := hid hb
      have HFK := hid hfk
      have EZ := hid ez
      clear hown hb hfk ez y1
      by_cases h0 : z = 0
      · subst h0
        go_wp2_with (at_builtin; refine wpList_append_part wr rfl _ _ rfl w.heap.size u6 (zn zs k) _ (.slice (A k) (L k) (C k)) rfl rfl HO.out rfl (by omega) hz ?_; intro v3 w3 ho3 hg3; have HB3 := hid (below_grown HB.out HO.out hz hg3); have HO3 := hid ho3; clear ho3 hg3)
        go_roundw
        case rel =>
          refine ⟨k + 1, by omega, by go_num, ?_, HB3.out, fun r hr hne => ?_⟩
          · rw [(zn_succ zs k).1 EZ.out, lvs_succ zs _ n k hkn EZ.out]
            exact HO3.out
          · by_cases e : r = k
            · subst e; exact absurd EZ.out hne
            · exact HFK.out r (by omega) hne
        case measure => simp [intOf]; omega
      · have h0' : (z == 0) = false := by simpa using h0
        obtain ⟨l, el⟩ : ∃ l, L k = l := ⟨_, rfl⟩
        rw [el] at c1 hlk
        have EL := hid el
        have H0 := hid h0
        clear el
        by_cases hlz : (l : Int) = z
        · have hlz' : ((l : Int) != z) = false := by rw [bne_eq_false_iff_eq]; exact hlz
          have HLZ := hid hlz
          clear hlz h0
          go_wp2
          go_roundw
          case rel =>
            refine ⟨k + 1, by omega, by go_num, ?_, HB.out, fun r hr hne => ?_⟩
            · rw [(zn_succ zs k).2 (by rw [EZ.out]; exact H0.out), lvs_skip zs _ n k (by rw [EZ.out]; exact H0.out)]
              exact HO.out
            · by_cases e : r = k
              · subst e; rw [EL.out, EZ.out]; exact HLZ.out
              · exact HFK.out r (by omega) hne
          case measure => simp [intOf]; omega
        · exact absurd (by have := HFIT.out k hkn (by rw [EZ.out]; exact h0); rw [EL.out, EZ.out] at this; exact this) hlz
    · have ek : k = n := by omega
      subst ek
      obtain ⟨la, lc, hv, hlp, _⟩ := owns_parts (A := fun j => A (ixz zs k j)) (L := fun j => L (ixz zs k j)) (C := fun j => C (ixz zs k j)) (f := fun j => f (ixz zs k j)) hown (fun j hj => loose_bys (HP.out _ hb) hj)
      subst hv
      have hznk := zn_le zs k
      have hsum := loose_sum zs L k k (Nat.le_refl _)
      have hcat := loose_cats zs f L k k (Nat.le_refl _)
      have htot := total_any (hdL zs k) la (zn zs k) lc _ _ _ _ wr hlp (by omega) (by omega) (fun j hj => HLB.out _ (ixz_lt zs hj))
      rw [hsum] at htot
      rw [totR_ok ht] at htot
      have hlay := layc_any zs a k c A L C f sa sc la (zn zs k) lc _ _ _ _ wr (HP.out _ hb) (HNN.out _ hb) hn1 hnb HOK.out HFIT.out hlp (by omega) hcat hsum ht
      obtain ⟨T, eT⟩ : ∃ T, hdL zs k + loL zs L k = T := ⟨_, rfl⟩
      obtain ⟨S, eS⟩ : ∃ S, hdL zs k = S := ⟨_, rfl⟩
      obtain ⟨Z, eZ⟩ : ∃ Z, zn zs k = Z := ⟨_, rfl⟩
      have hh := HHL.out wr hb
      rw [eT] at htot hlay
      rw [eS, eZ] at htot
      have ET := hid eT
      rw [eS] at hh
      rw [eZ] at hlay ⊢
      have HTOT := hid htot
      have HLAY := hid hlay
      have HH := hid hh
      have HB := hid hb
      clear hown hb hfk hlp hsum hcat htot hlay hh ht eT eS eZ hH
      go_wp2_with (first
        | (go_at_call 58; refine HH.out.mono ?_; rintro e w4 ⟨rfl, hw4⟩; obtain rfl := hw4.symm)
        | (go_at_call 57; refine HTOT.out.mono ?_; rintro e w5 ⟨rfl, hw5⟩; obtain rfl := hw5.symm)
        | (go_at_call 59; refine HLAY.out.mono ?_; rintro e w6 ⟨v6, rfl, ho6, hb6⟩))
      simp only [Exit.jump]
      go_ret2
      refine ⟨_, rfl, ?_, HB.out.trans (hb6.mono HB.out.size)⟩
      rw [ET.out]
      exact owns_base ho6 HB.out.size

end Go.Proofs.Ytehpfemlcjcabaa.Z
