/-
  Branches of a tree, as functions; what Branch answers.
-/
import Derived.Test.YtahnlfiahchdeaaDoorMkP
import Derived.Test.YtahnlfiahchdeaaDoorMkR
import Derived.Laws.BitsAllLaws
namespace Go.Proofs.YtahnlfiahchdeaaDoor
open Go.RowKit
set_option linter.unusedVariables false
set_option linter.unusedSimpArgs false

/-- The neighbour of a place. -/
def sib (n : Nat) : Nat := if n % 2 = 0 then n + 1 else n - 1
theorem xor_sib (n : Nat) : n ^^^ 1 = sib n := by
  have h1 : (n ^^^ 1) / 2 = n / 2 := by
    have := Nat.xor_div_two_pow (a := n) (b := 1) (n := 1)
    simpa using this
  have h2 := Nat.xor_mod_two_eq_one (a := n) (b := 1)
  unfold sib
  by_cases h : n % 2 = 0
  · rw [if_pos h]
    have : (n ^^^ 1) % 2 = 1 := h2.2 (by omega)
    omega
  · rw [if_neg h]
    have : ¬ (n ^^^ 1) % 2 = 1 := fun h3 => h2.1 h3 (by omega)
    omega
theorem i64_xor1 (n : Nat) (hn : n < 4611686018427387904) : bits .xor .i64 (n : Int) 1 = (sib n : Int) := by
  have hs : sib n < 4611686018427387906 := by unfold sib; by_cases h : n % 2 = 0 <;> simp [h] <;> omega
  show IntKind.i64.wrap ((BitVec.ofInt 64 (n : Int) ^^^ BitVec.ofInt 64 (1 : Nat)).toNat : Int) = _
  rw [BitVec.toNat_xor, ofInt_u64 n (by omega), ofInt_u64 1 (by omega), IntKind.wrap_i64, xor_sib]
  omega
/-- A branch's roots in a row. -/
def brV (f : Nat → Int) (len i q : Nat) : Int := nd f len (q / 32) (sib (i / 2 ^ (q / 32))) (q % 32)
theorem brV_at (f : Nat → Int) (len i k j : Nat) (hj : j < 32) : rt32 (brV f len i) k j = nd f len k (sib (i / 2 ^ k)) j := by
  unfold rt32 brV
  rw [show (32 * k + j) / 32 = k by omega, show (32 * k + j) % 32 = j by omega]
theorem brV_bd {f : Nat → Int} {len : Nat} (hf : ByB f (32 * len)) (i n : Nat) : ByB (brV f len i) n := fun q _ => nd_bd hf _ _ _ (by omega)
/-- A branch leads up. -/
theorem up_br (f leaf : Nat → Int) (len i : Nat) (hl : ∀ j, j < 32 → leaf j = nd f len 0 i j) : ∀ k, ∀ j, j < 32 → upV leaf (brV f len i) i k j = nd f len k (i / 2 ^ k) j
  | 0 => by
    intro j hj
    show leaf j = nd f len 0 (i / 2 ^ 0) j
    rw [Nat.pow_zero, Nat.div_one]
    exact hl j hj
  | k + 1 => by
    intro j hj
    have ih := up_br f leaf len i hl k
    have hp : i / 2 ^ (k + 1) = i / 2 ^ k / 2 := by rw [Nat.pow_succ, ← Nat.div_div_eq_div_mul]
    show (if i / 2 ^ k % 2 = 1 then tw (rt32 (brV f len i) k) (upV leaf (brV f len i) i k) else tw (upV leaf (brV f len i) i k) (rt32 (brV f len i) k)) j = tw (nd f len k (2 * (i / 2 ^ (k + 1)))) (nd f len k (2 * (i / 2 ^ (k + 1)) + 1)) j
    by_cases h : i / 2 ^ k % 2 = 1
    · rw [if_pos h]
      refine tw_congr (fun j hj => ?_) (fun j hj => ?_) j hj
      · rw [brV_at _ _ _ _ _ hj, hp]
        unfold sib
        rw [if_neg (by omega), show i / 2 ^ k - 1 = 2 * (i / 2 ^ k / 2) by omega]
      · rw [ih j hj, hp]
        congr 2
        omega
    · rw [if_neg h]
      refine tw_congr (fun j hj => ?_) (fun j hj => ?_) j hj
      · rw [ih j hj, hp]
        congr 2
        omega
      · rw [brV_at _ _ _ _ _ hj, hp]
        unfold sib
        rw [if_pos (by omega)]
        congr 2
        omega

/-- Branch's answer: is there one, how many roots, the error. -/
def brOk (n i : Int) : Prop := okL n ∧ 0 ≤ i ∧ i < ((2 ^ dpt n.toNat : Nat) : Int)
instance (n i : Int) : Decidable (brOk n i) := inferInstanceAs (Decidable (okL n ∧ 0 ≤ i ∧ i < ((2 ^ dpt n.toNat : Nat) : Int)))
def brE (len : Nat) (n i : Int) : Int := if brOk n i then (if (len : Int) ≤ n then 0 else 6) else 1
def brN (len : Nat) (n i : Int) : Nat := if brOk n i ∧ (len : Int) ≤ n then dpt n.toNat else 0

theorem LvSt.self {B q : Nat} {w : World} {a : Option Addr} {cap : Nat} {f : Nat → Int} {len k : Nat} {W : World} (h : LvSt B q w a cap f len k W) : LvSt B q W a cap f len k W := ⟨Below.refl _ _, h.2⟩
theorem LvSt.kept {B q g : Nat} {a : Option Addr} {cap : Nat} {f : Nat → Int} {len k : Nat} {W W' : World} (h : LvSt B q W a cap f len k W) (hk : Kept g W W') (hg : g < B) (hq : B ≤ q) : LvSt B q W' a cap f len k W' := by
  obtain ⟨_, h2, z, h3, h4⟩ := h
  refine ⟨Below.refl _ _, ?_, z, h3, (hk.block q (Array.getElem?_eq_some_iff.1 h4).1 (by omega)).trans h4⟩
  rcases h2 with ⟨hc, h | ⟨b, C, h5, h6, h7, h8, h9, h10⟩⟩
  · exact ⟨hc, .inl h⟩
  · exact ⟨hc, .inr ⟨b, C, h5, h6, h7, (hk.block b (Array.getElem?_eq_some_iff.1 h8).1 (by omega)).trans h8, h9, h10⟩⟩
/-- The branch as far as it is made. -/
def brU (f : Nat → Int) (len i k q : Nat) : Int := if q < 32 * k then brV f len i q else 0
theorem brU_step (f : Nat → Int) (len i k n : Nat) (hk : k < n) : putL (vs .u8 (32 * n) (brU f len i k)) (32 * k) (bl (nd f len k (sib (i / 2 ^ k))) 32) = vs .u8 (32 * n) (brU f len i (k + 1)) := by
  apply Array.ext_getElem?
  intro q
  rw [putL_get _ _ _ _ (by rw [bl_len, vs_size]; omega), bl_len]
  by_cases hq : q < 32 * n
  · rw [vs_get _ _ _ _ hq, vs_get _ _ _ _ hq]
    unfold brU
    by_cases h1 : 32 * k ≤ q ∧ q < 32 * k + 32
    · rw [if_pos h1, bl_at _ _ _ (by omega), if_pos (by omega)]
      unfold brV
      rw [show q / 32 = k by omega, show q - 32 * k = q % 32 by omega]
    · rw [if_neg h1]
      by_cases h2 : q < 32 * k
      · rw [if_pos h2, if_pos (by omega)]
      · rw [if_neg h2, if_neg (by omega)]
  · rw [if_neg (by omega), Array.getElem?_eq_none (by rw [vs_size]; omega), Array.getElem?_eq_none (by rw [vs_size]; omega)]

attribute [local go_sem ↓] sv24_eq lv24_eq ix22_eq slr_eq lv48_eq sv48_eq bd48_eq bd27_eq bs22_eq mk22_eq eqo_eq

set_option maxRecDepth 20000 in
set_option maxHeartbeats 2000000 in
theorem branch_ok (a : Option Addr) (len cap : Nat) (f : Nat → Int) (m i D : Nat) (w : World) (hr : Rts w a len cap f) (hl : 32 * len ≤ 140737488355328) (hf : ByB f (32 * len)) (hS : Sh w) (hm : m ≤ 1099511627776) (hlm : len ≤ m) (hD : dpt m = D) (hi : i < 2 ^ D) :
    Calls Tryd.prog 19 #[.slice a len cap, .int .i64 m, .int .i64 i] w fun e w' => ∃ a' cap', e = .returned (.tuple #[.slice a' D cap', .int .i64 0]) ∧ Below w.heap.size w w' ∧ Rts w' a' D cap' (brV f len i) := by
  have HS := hid hS
  have HR := hid hr
  have HF := hid hf
  have hil := fun W => isLimit_any (m : Int) W (by omega) (by omega)
  rw [decide_eq_true (show 0 ≤ (m : Int) ∧ (m : Int) ≤ 1099511627776 by omega)] at hil
  have hdp := fun W => depthOf_any m W hm
  have hD2 := dpt_le m hm
  rw [hD] at hdp hD2
  have hX : 2 ^ D ≤ 2 ^ 40 := Nat.pow_le_pow_right (by omega) hD2
  have hi2 : i < 4611686018427387904 := by omega
  have i0 : i / 2 ^ D = 0 := Nat.div_eq_of_lt hi
  have i1 : (i : Int) / 2 ^ D = 0 := by
    have : ((i / 2 ^ D : Nat) : Int) = 0 := by rw [i0]; rfl
    rw [← this]
    simp
  have d0 : decide ((i : Int) < 0) = false := by simp
  have bb : decide ((m : Int) < (len : Int)) = false := by simp; omega
  have bb2 : decide (m < len) = false := by simp; omega
  have mk := mk22_run w D (by omega)
  have z2 := zero_row
  have HIL := hid hil
  have HDP := hid hdp
  have HD := hid hD
  clear hil hdp hD hS hr hf hX hi i0
  go_enter Tryd.func19, Tryd.ntmps19
  go_upto_region 6 with (first
    | (go_at_call 24; refine (HIL.out _).mono ?_; rintro e w1 ⟨rfl, hw1⟩; obtain rfl := hw1.symm)
    | (go_at_call 26; refine (HDP.out _).mono ?_; rintro e w2 ⟨rfl, hw2⟩; obtain rfl := hw2.symm))
  obtain ⟨W0, hW0⟩ : ∃ W, w.alloc (.cells (vs .u8 (32 * D) (fun _ => 0)) 27) = W := ⟨_, rfl⟩
  rw [hW0]
  have hB0 : Below w.heap.size w W0 := by rw [← hW0]; exact (Below.refl _ _).alloc (Nat.le_refl _) _
  have r0 : W0.heap[w.heap.size]? = some (.cells (vs .u8 (32 * D) (fun _ => 0)) 27) := by rw [← hW0]; exact heap_new rfl
  have z0 : W0.heap.size = w.heap.size + 1 := by rw [← hW0]; simp
  have hlo := lowest_any a len cap f W0 (HR.out.below hB0) hl
  have HLO := hid hlo
  have H0 := hid (And.intro hB0 (And.intro r0 z0))
  clear hlo hB0 r0 z0 hW0 mk
  go_upto_region 7 with (go_at_call 25; refine HLO.out.mono ?_; rintro e w1 ⟨a', cap', rfl, hb1, hrow⟩; have sv := sv48_new w1 a' none len cap' 0 0 0 0 0 0 (zr 0) (fun _ => 0))
  obtain ⟨hB0, r0, z0⟩ := H0.out
  have hs0 := hb1.size
  have hst := (lvst_zero (w := W0) (hb1.mono (Nat.le_refl _)) hrow hs0)
  obtain ⟨W2, hW2⟩ : ∃ W, w1.alloc (.cells (rwA (.slice a' len cap') 0 (zr 0) 0) 48) = W := ⟨_, rfl⟩
  rw [hW2] at hst ⊢
  obtain ⟨q, hq⟩ : ∃ q, w1.heap.size = q := ⟨_, rfl⟩
  rw [hq] at hst hs0 ⊢
  have hw := HS.out.2.1
  obtain ⟨B, hBe⟩ : ∃ B, W0.heap.size = B := ⟨_, rfl⟩
  rw [hBe] at hst hs0 z0
  have hB3 : 3 ≤ B := by omega
  have hgB : w.heap.size < B := by omega
  have hBw : Below w.heap.size w W2 := hB0.trans (hst.1.mono (by omega))
  have rb2 : W2.heap[w.heap.size]? = some (.cells (vs .u8 (32 * D) (brU f len i 0)) 27) := ((hst.1.block _ hgB).trans r0).trans (congrArg (fun c => some (Obj.cells c 27)) (vs_congr fun x _ => by unfold brU; rw [if_neg (by omega)]))
  have HST := hid (And.intro hBw (And.intro hst.self rb2))
  clear hst hBw rb2 hrow hb1 hW2 hq H0 HLO hB0 r0 z0 hw sv z2 hBe
  go_wp2
  go_loopw [2, 36] (fun v d wr => ∃ k : Nat, k ≤ D ∧ d = .int .i64 k ∧ v = .int .i64 (i / 2 ^ k : Nat) ∧ Below w.heap.size w wr ∧ LvSt B q wr a' cap' f len k wr ∧ wr.heap[w.heap.size]? = some (.cells (vs .u8 (32 * D) (brU f len i k)) 27)) (fun _ d _ => D - (intOf d).toNat)
  case atStart => exact ⟨0, by omega, rfl, by rw [Nat.pow_zero, Nat.div_one], HST.out.1, HST.out.2.1, HST.out.2.2⟩
  case round =>
    clear HST
    obtain ⟨k, hk, rfl, rfl, hB, hst, rb⟩ := hrel
    by_cases hlt : k < D
    · have b3 : decide (k < D) = true := by simp; omega
      obtain ⟨P, eP⟩ : ∃ P, P = i / 2 ^ k := ⟨_, rfl⟩
      rw [← eP]
      have hP : P < 4611686018427387904 := by rw [eP]; exact Nat.lt_of_le_of_lt (Nat.div_le_self _ _) hi2
      have x1 := i64_xor1 P hP
      obtain ⟨P2, eP2⟩ : ∃ P2, P2 = P / 2 := ⟨_, rfl⟩
      have s1 : (P : Int) / 2 = (P2 : Int) := by omega
      obtain ⟨Q, eQ⟩ : ∃ Q, sib P = Q := ⟨_, rfl⟩
      have hQ : Q ≤ 4611686018427387904 := by rw [← eQ]; unfold sib; by_cases h : P % 2 = 0 <;> simp [h] <;> omega
      rw [eQ] at x1
      have ixf := fun W => ix22_run W w.heap.size 0 D D k hlt
      rw [Nat.zero_add] at ixf
      have hat := hst.at (HS.out.below hB) hB3 hs0 (by omega) Q (by omega)
      have hbl := rb
      have hstep : ∀ w4, LvSt B q wr a' cap' f len k w4 → ∃ w5, (sv24 ⟨w.heap.size, 32 * k, none⟩ (.agg (vs .u8 32 (nd f len k Q)))).run Tryd.prog w4 = .ok () w5 ∧ Below w.heap.size w w5 ∧ LvSt B q w5 a' cap' f len k w5 ∧ w5.heap[w.heap.size]? = some (.cells (vs .u8 (32 * D) (brU f len i (k + 1))) 27) := by
        intro w4 h4
        have rb4 := (h4.1.block _ hgB).trans rb
        have hk4 := setCells_kept (bl (nd f len k Q) 32) (32 * k) (Kept.refl w.heap.size w4)
        have hB4 := hB.trans (h4.1.mono (by omega))
        refine ⟨_, sv24_mid rb4 (32 * k) (nd f len k Q) (by rw [vs_size]; omega), hB4.trans (hk4.below (Nat.le_refl _) hB4.size), h4.self.kept hk4 hgB hs0, ?_⟩
        rw [setCells_row (bl (nd f len k Q) 32) (32 * k) rb4, ← eQ, eP, brU_step f len i k D hlt]
      have hrise : ∀ w5, Below w.heap.size w w5 → LvSt B q w5 a' cap' f len k w5 → Calls Tryd.prog 27 #[.pointer (some ⟨q, 0, none⟩)] w5 fun e w' => e = .returned (.tuple #[]) ∧ LvSt B q w5 a' cap' f len (k + 1) w' := fun w5 h5 h6 => h6.rise (HS.out.below h5) hB3 hs0 HF.out (by omega) (by omega)
      have HAT := hid hat
      have HSTEP := hid hstep
      have HRISE := hid hrise
      have EP := hid (And.intro eP eP2)
      generalize nd f len k Q = C at HAT HSTEP
      clear hat hbl hstep hrise hst rb hB eQ eP eP2
      go_wp2_with (first
        | (go_at_call 28; refine HAT.out.mono ?_; rintro e w4 ⟨rfl, hst4⟩; obtain ⟨w5, sv5, h5⟩ := HSTEP.out w4 hst4; have H5 := hid h5; clear h5 hst4)
        | (go_at_call 27; refine (HRISE.out _ H5.out.1 H5.out.2.1).mono ?_; rintro e w6 ⟨rfl, hst6⟩))
      go_roundw
      case rel =>
        obtain ⟨h5, _, rb5⟩ := H5.out
        refine ⟨k + 1, by omega, by go_num, ?_, h5.trans (hst6.1.mono (by omega)), hst6.self, (hst6.1.block _ hgB).trans rb5⟩
        rw [Nat.pow_succ, ← Nat.div_div_eq_div_mul, ← EP.out.1, ← EP.out.2]
      case measure => simp [intOf]; omega
    · obtain rfl : D = k := by omega
      have b3 : decide (D < D) = false := by simp
      have hrt : Rts wr (some ⟨w.heap.size, 0, none⟩) D D (brV f len i) := by
        refine rts_row (t := 27) (rb.trans (congrArg (fun c => some (Obj.cells c 27)) (vs_congr fun x hx => ?_)))
        unfold brU
        rw [if_pos hx]
      have HRT := hid hrt
      have HB := hid hB
      clear hrt hB hst rb
      go_wp2
      go_ret2
      exact ⟨_, _, rfl, HB.out, HRT.out⟩

set_option maxRecDepth 20000 in
set_option maxHeartbeats 2000000 in
theorem branch_any (a : Option Addr) (len cap : Nat) (f : Nat → Int) (n i : Int) (w : World) (hr : Rts w a len cap f) (hl : 32 * len ≤ 140737488355328) (hf : ByB f (32 * len)) (hS : Sh w) (h0 : -9223372036854775808 ≤ n) (h1 : n ≤ 9223372036854775807) (h2 : -9223372036854775808 ≤ i) (h3 : i ≤ 9223372036854775807) :
    Calls Tryd.prog 19 #[.slice a len cap, .int .i64 n, .int .i64 i] w fun e w' => ∃ a' cap', e = .returned (.tuple #[.slice a' (brN len n i) cap', .int .i64 (brE len n i)]) ∧ Below w.heap.size w w' ∧ Rts w' a' (brN len n i) cap' (brV f len i.toNat) := by
  by_cases hn : okL n
  · obtain ⟨m, rfl⟩ : ∃ m : Nat, n = (m : Int) := ⟨n.toNat, by have := hn.1; omega⟩
    have hm : m ≤ 1099511627776 := by have := hn.2; omega
    have hil := fun W => isLimit_any (m : Int) W (by omega) (by omega)
    rw [decide_eq_true (show 0 ≤ (m : Int) ∧ (m : Int) ≤ 1099511627776 by omega)] at hil
    have HIL := hid hil
    clear hil
    by_cases hi0 : i < 0
    · have d0 : decide (i < 0) = true := by simp; omega
      have e1 : brN len m i = 0 := if_neg (fun h => by have := h.1.2.1; omega)
      have e2 : brE len m i = 1 := if_neg (fun h => by have := h.2.1; omega)
      rw [e1, e2]
      clear e1 e2 hn hr hf hS h0 h1
      go_enter Tryd.func19, Tryd.ntmps19
      go_wp2_with (go_at_call 24; refine (HIL.out _).mono ?_; rintro e w1 ⟨rfl, hw1⟩; obtain rfl := hw1.symm)
      go_ret2
      exact ⟨_, _, rfl, Below.refl _ _, .inl ⟨rfl, rfl, rfl⟩⟩
    · obtain ⟨I, rfl⟩ : ∃ I : Nat, i = (I : Int) := ⟨i.toNat, by omega⟩
      have d0 : decide ((I : Int) < 0) = false := by simp
      have hdp := fun W => depthOf_any m W hm
      have hD2 := dpt_le m hm
      have hB1 : brOk (m : Int) (I : Int) ↔ I < 2 ^ dpt m := by
        unfold brOk
        rw [Int.toNat_natCast]
        constructor
        · intro h
          have := h.2.2
          omega
        · intro h
          exact ⟨hn, by omega, by omega⟩
      by_cases hx : I < 2 ^ dpt m
      · by_cases hlm : len ≤ m
        · have e1 : brN len m I = dpt m := by unfold brN; rw [if_pos ⟨hB1.2 hx, by omega⟩, Int.toNat_natCast]
          have e2 : brE len m I = 0 := by unfold brE; rw [if_pos (hB1.2 hx), if_pos (by omega)]
          rw [e1, e2, Int.toNat_natCast]
          exact branch_ok a len cap f m I (dpt m) w hr hl hf hS hm hlm rfl hx
        · have e1 : brN len m I = 0 := if_neg (fun h => by have := h.2; omega)
          have e2 : brE len m I = 6 := by unfold brE; rw [if_pos (hB1.2 hx), if_neg (by omega)]
          rw [e1, e2]
          have bb : decide ((m : Int) < (len : Int)) = true := by simp; omega
          have bb2 : decide (m < len) = true := by simp; omega
          clear e1 e2 hB1
          generalize dpt m = D at hdp hD2 hx
          have i0 : I / 2 ^ D = 0 := Nat.div_eq_of_lt hx
          have i1 : (I : Int) / 2 ^ D = 0 := by
            have : ((I / 2 ^ D : Nat) : Int) = 0 := by rw [i0]; rfl
            rw [← this]
            simp
          have HDP := hid hdp
          clear hdp hn hr hf hS h0 h1 hx i0
          go_enter Tryd.func19, Tryd.ntmps19
          go_wp2_with (first
            | (go_at_call 24; refine (HIL.out _).mono ?_; rintro e w1 ⟨rfl, hw1⟩; obtain rfl := hw1.symm)
            | (go_at_call 26; refine (HDP.out _).mono ?_; rintro e w2 ⟨rfl, hw2⟩; obtain rfl := hw2.symm))
          go_ret2
          exact ⟨_, _, rfl, Below.refl _ _, .inl ⟨rfl, rfl, rfl⟩⟩
      · have e1 : brN len m I = 0 := if_neg (fun h => hx (hB1.1 h.1))
        have e2 : brE len m I = 1 := if_neg (fun h => hx (hB1.1 h))
        rw [e1, e2]
        clear e1 e2 hB1
        generalize dpt m = D at hdp hD2 hx
        obtain ⟨Q, eQ⟩ : ∃ Q, Q = I / 2 ^ D := ⟨_, rfl⟩
        have hQ : 0 < Q := by rw [eQ]; exact Nat.div_pos (by omega) (Nat.two_pow_pos _)
        have i1 : (I : Int) / 2 ^ D = (Q : Int) := by rw [eQ]; simp
        have i2 : ((Q : Int) == 0) = false := by simp; omega
        have i3 : (Q == 0) = false := by simp; omega
        have HDP := hid hdp
        clear hdp hn hr hf hS h0 h1 hx eQ
        go_enter Tryd.func19, Tryd.ntmps19
        go_wp2_with (first
          | (go_at_call 24; refine (HIL.out _).mono ?_; rintro e w1 ⟨rfl, hw1⟩; obtain rfl := hw1.symm)
          | (go_at_call 26; refine (HDP.out _).mono ?_; rintro e w2 ⟨rfl, hw2⟩; obtain rfl := hw2.symm))
        go_ret2
        exact ⟨_, _, rfl, Below.refl _ _, .inl ⟨rfl, rfl, rfl⟩⟩
  · have hil := fun W => isLimit_any n W h0 h1
    rw [decide_eq_false (show ¬ (0 ≤ n ∧ n ≤ 1099511627776) from hn)] at hil
    have HIL := hid hil
    have e1 : brN len n i = 0 := if_neg (fun h => hn h.1.1)
    have e2 : brE len n i = 1 := if_neg (fun h => hn h.1)
    rw [e1, e2]
    clear hil e1 e2 hn hr hf hS h0 h1
    go_enter Tryd.func19, Tryd.ntmps19
    go_wp2_with (go_at_call 24; refine (HIL.out _).mono ?_; rintro e w1 ⟨rfl, hw1⟩; obtain rfl := hw1.symm)
    go_ret2
    exact ⟨_, _, rfl, Below.refl _ _, .inl ⟨rfl, rfl, rfl⟩⟩

end Go.Proofs.YtahnlfiahchdeaaDoor
