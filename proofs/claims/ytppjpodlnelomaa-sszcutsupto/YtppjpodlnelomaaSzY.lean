/-
  The bytes of a container; what layContainer answers.
-/
import Derived.Test.YtppjpodlnelomaaSzW
namespace Go.Proofs.Ytppjpodlnelomaa
open Go.RowKit
set_option linter.unusedVariables false
set_option linter.unusedSimpArgs false

/-- How many bytes the parts of any size have, among the first k; their bytes; the bytes of the head. -/
def loL (zs : Nat → Int) (L : Nat → Nat) : Nat → Nat
  | 0 => 0
  | k + 1 => loL zs L k + (if zs k = 0 then L k else 0)
def loB (zs : Nat → Int) (f : Nat → Nat → Int) (L : Nat → Nat) : Nat → List Int
  | 0 => []
  | k + 1 => loB zs f L k ++ (if zs k = 0 then prt f L k else [])
def hdB (zs : Nat → Int) (f : Nat → Nat → Int) (L : Nat → Nat) (H : Nat) : Nat → List Int
  | 0 => []
  | k + 1 => hdB zs f L H k ++ (if zs k = 0 then fourL (H + loL zs L k) else prt f L k)
theorem loB_len (zs : Nat → Int) (f : Nat → Nat → Int) (L : Nat → Nat) (k : Nat) : (loB zs f L k).length = loL zs L k := by
  induction k with
  | zero => rfl
  | succ k ih =>
    unfold loB loL
    rw [List.length_append, ih]
    by_cases h : zs k = 0
    · rw [if_pos h, if_pos h, prt_len]
    · rw [if_neg h, if_neg h]
      rfl
theorem loL_mono (zs : Nat → Int) (L : Nat → Nat) {i j : Nat} (h : i ≤ j) : loL zs L i ≤ loL zs L j := by
  induction j with
  | zero => have : i = 0 := by omega
            subst this
            exact Nat.le_refl _
  | succ j ih =>
    by_cases hj : i ≤ j
    · have := ih hj
      show loL zs L i ≤ loL zs L j + _
      omega
    · have : i = j + 1 := by omega
      subst this
      exact Nat.le_refl _
/-- The parts of a known size have it. -/
def Fits (zs : Nat → Int) (L : Nat → Nat) (n : Nat) : Prop := ∀ r, r < n → zs r ≠ 0 → (L r : Int) = zs r
theorem hdB_len (zs : Nat → Int) (f : Nat → Nat → Int) (L : Nat → Nat) (H k : Nat) (hf : Fits zs L k) : (hdB zs f L H k).length = hdL zs k := by
  induction k with
  | zero => rfl
  | succ k ih =>
    unfold hdB hdL
    rw [List.length_append, ih fun r hr => hf r (by omega)]
    by_cases h : zs k = 0
    · rw [if_pos h]
      unfold inH
      rw [if_pos h]
      rfl
    · rw [if_neg h, prt_len]
      unfold inH
      rw [if_neg h]
      have := hf k (by omega) h
      omega
def layC (zs : Nat → Int) (f : Nat → Nat → Int) (L : Nat → Nat) (n : Nat) : List Int := hdB zs f L (hdL zs n) n ++ loB zs f L n
theorem layC_len (zs : Nat → Int) (f : Nat → Nat → Int) (L : Nat → Nat) (n : Nat) (hf : Fits zs L n) : (layC zs f L n).length = hdL zs n + loL zs L n := by
  unfold layC
  rw [List.length_append, hdB_len _ _ _ _ _ hf, loB_len]

set_option maxRecDepth 20000 in
set_option maxHeartbeats 1000000 in
theorem layc_any (zs : Nat → Int) (a : Option Addr) (n c : Nat) (A : Nat → Option Addr) (L C : Nat → Nat) (f : Nat → Nat → Int) (sa : Option Addr) (sc : Nat) (la : Option Addr) (nl lc : Nat) (Al : Nat → Option Addr) (Ll Cl : Nat → Nat) (fl : Nat → Nat → Int) (w : World)
    (h : Parts w a n A L C f) (hn : Nms .i64 w sa n zs) (hn1 : 1 ≤ n) (hnb : n ≤ 64) (hok : ∀ i, i < n → okS (zs i)) (hfit : Fits zs L n) (hl : Parts w la nl Al Ll Cl fl) (hnl : nl ≤ 64) (hcat : cats fl Ll nl = loB zs f L n) (hsum : sumL Ll nl = loL zs L n) (ht : hdL zs n + loL zs L n < 4294967296) :
    Calls Try.prog 34 #[.slice a n c, .slice sa n sc, .slice la nl lc, .int .u64 ((hdL zs n + loL zs L n : Nat) : Int)] w fun e w' => ∃ v, e = .returned v ∧ w'.ownsRow w.heap.size 5 1 v (hdL zs n + loL zs L n) (iv (layC zs f L n)) ∧ Below w.heap.size w w' := by
  have HH : Hid (∀ W, Below w.heap.size w W → Calls Try.prog 25 #[.slice sa n sc] W fun e w' => e = .returned (.int .u64 (hdL zs n)) ∧ w' = W) := fun W hW => headlen_any zs sa n sc W (hn.below hW) hn1 hnb hok
  have HP : Hid (∀ W, Below w.heap.size w W → Parts W a n A L C f) := fun W hW => h.below hW
  have HL : Hid (∀ W, Below w.heap.size w W → Parts W la nl Al Ll Cl fl) := fun W hW => hl.below hW
  have HN : Hid (∀ W, Below w.heap.size w W → ∀ k, k < n → ∃ b off, sa = some ⟨b, off, none⟩ ∧ W.cell? ⟨b, off + k, none⟩ = some (.int .i64 (zs k))) := by
    intro W hW k hk
    rcases hn.below hW with h | ⟨b, off, h1, h2, h3⟩
    · omega
    · exact ⟨b, off, h1, h3 k hk⟩
  have hH := hdL_bd n hok
  obtain ⟨T, eT⟩ : ∃ T, hdL zs n + loL zs L n = T := ⟨_, rfl⟩
  obtain ⟨S, eS⟩ : ∃ S, hdL zs n = S := ⟨_, rfl⟩
  have elay : layC zs f L n = hdB zs f L S n ++ loB zs f L n := by unfold layC; rw [eS]
  rw [eT] at ht ⊢
  rw [eS] at HH hH
  rw [elay]
  have EE : Hid (S + loL zs L n = T ∧ hdL zs n = S ∧ cats fl Ll nl = loB zs f L n ∧ sumL Ll nl = loL zs L n ∧ Fits zs L n) := ⟨by rw [← eS]; exact eT, eS, hcat, hsum, hfit⟩
  have HOK := hid hok
  obtain ⟨i8, hi8, hz0, hz1, hz2⟩ := info_parts info8
  clear h hn hok hfit hl hcat hsum eT eS elay
  go_enter Try.func34, Try.ntmps34
  go_wp2_with (first
    | (at_make; refine wpList_make_own _ rfl _ _ 22 rfl w.heap.size 5 i8 (.int .u8 0) 1 Try.underlying22 hi8 hz0 hz1 _ _ _ T rfl rfl rfl (by rw [hz2]; omega) (by unfold maxLen; omega) (Nat.le_refl _) ?_; intro w2 ho2 hg2; have HO2 := hid ho2; have HB2 : Hid (Below w.heap.size w w2) := ⟨hg2.os, hg2.tape, hg2.output, hg2.size, fun k hk => hg2.block k hk (by intro h; cases h)⟩; clear ho2 hg2)
    | (go_at_call 25; refine (HH.out _ HB2.out).mono ?_; rintro e w3 ⟨rfl, hw3⟩; obtain rfl := hw3.symm))
  go_loopw [9, 10, 21] (fun v o i wr => ∃ k : Nat, k ≤ n ∧ i = .int .i64 k ∧ o = .int .u64 ((S + loL zs L k : Nat) : Int) ∧ wr.ownsRow w.heap.size 5 1 v (hdL zs k) (iv (hdB zs f L S k)) ∧ Below w.heap.size w wr) (fun _ _ i _ => n - (intOf i).toNat)
  case atStart => exact ⟨0, by omega, rfl, by simp [loL], HO2.out, HB2.out⟩
  case round =>
    obtain ⟨k, hk, rfl, rfl, hown, hb⟩ := hrel
    by_cases hkn : k < n
    · obtain ⟨b1, o1, rfl, hb1, c1, y1⟩ := parts_at (HP.out _ hb) k hkn
      obtain ⟨b2, o2, rfl, c2⟩ := HN.out _ hb k hkn
      obtain ⟨eT, eS, hcat, hsum, hfit⟩ := EE.out
      have hmo := loL_mono zs L (i := k + 1) (j := n) (by omega)
      have hlo : loL zs L (k + 1) = loL zs L k + (if zs k = 0 then L k else 0) := rfl
      have hhm := hdL_mono zs (i := k) (j := n) (by omega)
      have hz := hb.size
      obtain ⟨O, eO⟩ : ∃ O, S + loL zs L k = O := ⟨_, rfl⟩
      have k1 : (k : Int) < (n : Int) := by omega
      have k2 : (0 : Int) ≤ (k : Int) := by omega
      have hx := HOK.out k hkn
      have hlen : (hdB zs f L S (k + 1)) = hdB zs f L S k ++ (if zs k = 0 then fourL (S + loL zs L k) else prt f L k) := rfl
      have hhd : hdL zs (k + 1) = hdL zs k + inH (zs k) := rfl
      rw [eO] at hlen ⊢
      by_cases h0 : zs k = 0
      · have hap := appendoff_any u9 (hdL zs k) (hdB zs f L S k) O w.heap.size wr hown (by omega) (by omega) hz
        rw [if_pos h0] at hlo hlen
        rw [← hlen] at hap
        have e4 : hdL zs (k + 1) = hdL zs k + 4 := by rw [hhd]; unfold inH; rw [if_pos h0]
        rw [← e4] at hap
        have HAP := hid hap
        obtain ⟨l, el⟩ : ∃ l, L k = l := ⟨_, rfl⟩
        rw [el] at c1 hlo
        rw [h0] at c2
        have t1 : (O : Int) < 4294967296 := by omega
        have t2 : (0 : Int) ≤ (O : Int) := by omega
        have l1 : (l : Int) < 4294967296 := by omega
        have l2 : (0 : Int) ≤ (l : Int) := by omega
        have t3 : (O : Int) + (l : Int) < 4294967296 := by omega
        have E : Hid (S + loL zs L (k + 1) = O + l) := by show S + loL zs L (k + 1) = O + l; omega
        have HB := hid hb
        clear hlo hmo hhm eO el hap hlen hhd e4 hown hb y1 h0 eT eS hcat hsum hfit hx
        go_wp2_with (go_at_call 41; refine HAP.out.mono ?_; rintro e w3 ⟨v3, rfl, ho3, hb3⟩; have HO3 := hid ho3; have HB3 := hid hb3; clear ho3 hb3)
        go_roundw
        case rel => exact ⟨k + 1, by omega, by go_num, by rw [E.out]; go_num, HO3.out, HB.out.trans HB3.out⟩
        case measure => simp [intOf]; omega
      · have hfk := hfit k hkn h0
        rw [if_neg h0] at hlo hlen
        obtain ⟨z, ez⟩ : ∃ z, zs k = z := ⟨_, rfl⟩
        rw [ez] at c2 h0 hfk
        have EL : Hid (hdL zs (k + 1) = hdL zs k + L k ∧ hdB zs f L S (k + 1) = hdB zs f L S k ++ prt f L k ∧ S + loL zs L (k + 1) = O) := ⟨by rw [hhd]; unfold inH; rw [ez, if_neg h0]; omega, hlen, by omega⟩
        have hbd : hdL zs k + L k ≤ 140737488355328 := by have := hdL_mono zs (i := k + 1) (j := n) (by omega); have := EL.out.1; omega
        have t0 : (z != 0) = true := by simpa using h0
        have HO := hid hown
        have HB := hid hb
        have HY := hid y1
        clear hlo hmo hhm eO hlen hhd hown hb y1 h0 eT eS hcat hsum hfit hx hfk ez
        go_wp2_with (at_builtin; refine wpList_append_bys _ rfl _ _ rfl w.heap.size _ (hdL zs k) _ rfl HO.out (A k) (L k) (C k) (f k) rfl HY.out hbd hz ?_; intro v3 w3 ho3 hg3; have HB3 := hid (below_grown HB.out HO.out hz hg3); have HO3 := hid ho3; clear ho3 hg3)
        go_roundw
        case rel =>
          refine ⟨k + 1, by omega, by go_num, by rw [EL.out.2.2], ?_, HB3.out⟩
          rw [EL.out.1, EL.out.2.1, iv_append, ← bl_prt]
          exact HO3.out
        case measure => simp [intOf]; omega
    · have ek : k = n := by omega
      subst ek
      obtain ⟨eT, eS, hcat, hsum, hfit⟩ := EE.out
      rw [eS] at hown
      rw [eT]
      have HO := hid hown
      have HB := hid hb
      have EC : Hid (cats fl Ll nl = loB zs f L k ∧ S + sumL Ll nl = T) := ⟨hcat, by omega⟩
      clear hown hb HO2 HB2 hcat hsum hfit eT eS
      go_wp2
      go_loopw [9, 45] (fun v i wr' => ∃ j : Nat, j ≤ nl ∧ i = .int .i64 j ∧ wr'.ownsRow w.heap.size 5 1 v (S + sumL Ll j) (iv (hdB zs f L S k ++ cats fl Ll j)) ∧ Below w.heap.size w wr') (fun _ i _ => nl - (intOf i).toNat)
      case atStart => exact ⟨0, by omega, rfl, by simpa [sumL, cats] using HO.out, HB.out⟩
      case round =>
        obtain ⟨j, hj, rfl, hown, hb⟩ := hrel
        by_cases hjn : j < nl
        · obtain ⟨b1, o1, rfl, hb1, c1, y1⟩ := parts_at (HL.out _ hb) j hjn
          have hsu : sumL Ll (j + 1) = sumL Ll j + Ll j := rfl
          have hmo := sumL_mono Ll (i := j + 1) (j := nl) (by omega)
          have hz := hb.size
          have hbd : S + sumL Ll j + Ll j ≤ 140737488355328 := by have := EC.out.2; omega
          have k1 : (j : Int) < (nl : Int) := by omega
          have k2 : (0 : Int) ≤ (j : Int) := by omega
          have HO := hid hown
          have HB := hid hb
          have HY := hid y1
          clear hsu hmo hown hb y1
          go_wp2_with (at_builtin; refine wpList_append_bys _ rfl _ _ rfl w.heap.size _ (S + sumL Ll j) _ rfl HO.out (Al j) (Ll j) (Cl j) (fl j) rfl HY.out hbd hz ?_; intro v3 w3 ho3 hg3; have HB3 := hid (below_grown HB.out HO.out hz hg3); have HO3 := hid ho3; clear ho3 hg3)
          go_roundw
          case rel =>
            refine ⟨j + 1, by omega, by go_num, ?_, HB3.out⟩
            have := HO3.out
            rw [bl_prt, ← iv_append, List.append_assoc, Nat.add_assoc] at this
            exact this
          case measure => simp [intOf]; omega
        · have ej : j = nl := by omega
          subst ej
          have HO := hid hown
          have HB := hid hb
          clear hown hb
          go_wp2
          go_ret
          refine ⟨_, rfl, ?_, HB.out⟩
          have := HO.out
          rw [EC.out.1, EC.out.2] at this
          exact this

end Go.Proofs.Ytppjpodlnelomaa
