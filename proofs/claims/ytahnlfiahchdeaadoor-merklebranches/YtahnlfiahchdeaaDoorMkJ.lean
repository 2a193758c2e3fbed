/-
  What Mix and Holds answer.
-/
import Derived.Test.YtahnlfiahchdeaaDoorMkI
namespace Go.Proofs.YtahnlfiahchdeaaDoor
open Go.RowKit
set_option linter.unusedVariables false
set_option linter.unusedSimpArgs false

attribute [local go_sem ↓] sv24_eq lv24_eq ix22_eq slr_eq lv48_eq sv48_eq bd48_eq bd27_eq bs22_eq sl22_eq mk22_eq

/-- A number as a chunk. -/
def nmB (n : Int) (j : Nat) : Int := n / 2 ^ (8 * j) % 256
def nmC (n : Int) (j : Nat) : Int := if j < 8 then nmB n j else 0
theorem nmC_bd (n : Int) (j : Nat) : 0 ≤ nmC n j ∧ nmC n j < 256 := by
  unfold nmC nmB
  by_cases h : j < 8
  · rw [if_pos h]; omega
  · rw [if_neg h]; omega

set_option maxRecDepth 20000 in
set_option maxHeartbeats 1000000 in
theorem mix_any (c : Nat → Int) (n : Int) (w : World) (hS : Sh w) (hc : ∀ j, j < 32 → 0 ≤ c j ∧ c j < 256) (h0 : 0 ≤ n) (h1 : n ≤ 18446744073709551615) :
    Calls Tryd.prog 17 #[.agg (vs .u8 32 c), .int .u64 n] w fun e w' => e = .returned (.agg (vs .u8 32 (tw c (nmC n)))) ∧ Below w.heap.size w w' := by
  have HS := hid hS
  have HC := hid hc
  have z := zero_root
  clear hS hc
  go_enter Tryd.func17, Tryd.ntmps17
  go_wp2
  go_loopw [7] (fun i wr => ∃ k : Nat, k ≤ 8 ∧ i = .int .i64 k ∧ Below w.heap.size w wr ∧ wr.heap.size = w.heap.size + 3 ∧ wr.heap[w.heap.size]? = some (.cells (vs .u8 32 c) 27) ∧ wr.heap[w.heap.size + 1]? = some (.cells (vs .u8 32 fun _ => 0) 27) ∧ wr.heap[w.heap.size + 1 + 1]? = some (.cells (vs .u8 32 fun j => if j < k then nmB n j else 0) 27)) (fun i _ => 8 - (intOf i).toNat)
  case atStart =>
    refine ⟨0, by omega, rfl, by go_grown, by simp, ?_, ?_, ?_⟩
    · exact (heap_old (by simp; omega)).trans ((heap_old (by simp)).trans (heap_new rfl))
    · exact (heap_old (by simp)).trans (heap_new (by simp))
    · exact (heap_new (by simp)).trans (congrArg (fun c => some (Obj.cells c 27)) (vs_congr fun q _ => by rw [if_neg (by omega)]))
  case round =>
    obtain ⟨k, hk, rfl, hB, hz, ra, rr, rn⟩ := hrel
    by_cases hlt : k < 8
    · have b3 : decide (k < 8) = true := by simp; omega
      have cs := row_int rn k (by omega)
      have fs := row_frozen rn k
      have RA := hid (And.intro ra rr)
      have RN := hid rn
      have HB := hid hB
      have HZ := hid hz
      clear ra rr rn hB hz
      go_wp2
      go_roundw
      case rel =>
        refine ⟨k + 1, by omega, by go_num, HB.out.setCell (by show w.heap.size ≤ w.heap.size + 1 + 1; omega) _, (size_s _ _ _).trans HZ.out, (heap_set_other (by omega)).trans RA.out.1, (heap_set_other (by omega)).trans RA.out.2, ?_⟩
        refine (row_set RN.out k _).trans ?_
        rw [vs_set]
        refine congrArg (fun c => some (Obj.cells c 27)) (vs_congr fun q _ => ?_)
        by_cases hq : q = k
        · subst hq
          rw [if_pos rfl, if_pos (by omega)]
          rfl
        · rw [if_neg hq]
          by_cases h2 : q < k
          · rw [if_pos h2, if_pos (by omega)]
          · rw [if_neg h2, if_neg (by omega)]
      case measure => simp [intOf]; omega
    · have ek : k = 8 := by omega
      subst ek
      have b3 : decide (8 < 8) = false := by simp
      have rn' : wr.heap[w.heap.size + 1 + 1]? = some (.cells (vs .u8 32 (nmC n)) 27) := rn
      have la := lv24_run ra
      have ln := lv24_run rn'
      have ht := two_tw c (nmC n) wr (HS.out.below hB) HC.out (fun j _ => nmC_bd n j)
      have HT := hid ht
      have HB := hid hB
      have RR := hid rr
      clear ht hB ra rn rn' rr
      rw [show ((8 : Nat) : Int) = 8 from rfl]
      go_wp2_with (go_at_call 23; refine HT.out.mono ?_; rintro e w1 ⟨rfl, hb1⟩; have sv := sv24_run ((hb1.block (w.heap.size + 1) (by omega)).trans RR.out) (tw c (nmC n)))
      refine ret24 4 (w.heap.size + 1) _ 27 rfl rfl rfl (setRow_at ((hb1.block (w.heap.size + 1) (by omega)).trans RR.out)) ⟨rfl, ?_⟩
      exact below_row (HB.out.trans (hb1.mono (by omega))) (by omega) _

/-- Roots compared. -/
def eqR (c d : Nat → Int) : Bool := (List.range 32).all fun j => c j == d j
theorem eqR_self (c : Nat → Int) : eqR c c = true := by simp [eqR]
theorem eqR_congr {c c' d d' : Nat → Int} (h : ∀ j, j < 32 → c j = c' j) (h' : ∀ j, j < 32 → d j = d' j) : eqR c d = eqR c' d' := by
  unfold eqR
  rw [Bool.eq_iff_iff]
  simp only [List.all_eq_true, List.mem_range, beq_iff_eq]
  constructor
  · intro hh j hj; rw [← h j hj, ← h' j hj]; exact hh j hj
  · intro hh j hj; rw [h j hj, h' j hj]; exact hh j hj
theorem eq32g (w : World) (c d : Nat → Int) : (Op.equalIn 10000 27 (.agg (vs .u8 32 c)) (.agg (vs .u8 32 d))).run Tryd.prog w = .ok (eqR c d) w := by
  have hi : ∃ i, Tryd.prog.info? 5 = some i := ⟨_, rfl⟩
  obtain ⟨i, hi⟩ := hi
  have hc : Tryd.prog.cellsOf 5 = 1 := by kernel_rfl
  rw [run_equalIn_array w 9999 _ _ Tryd.underlying27 hi, hc]
  exact run_eqItems_ints (P := Tryd.prog) 9998 5 .u8 .u8 Tryd.underlying5 agg_u8 (vs .u8 32 c) (vs .u8 32 d) c d w (List.range 32) (by
    intro j hj
    have hj := List.mem_range.1 hj
    exact ⟨vs_get _ _ _ _ hj, vs_get _ _ _ _ hj⟩)

/-- What comes out of a leaf and the first k roots of a branch. -/
def upV (leaf f : Nat → Int) (p : Nat) : Nat → Nat → Int
  | 0 => leaf
  | k + 1 => if p / 2 ^ k % 2 = 1 then tw (rt32 f k) (upV leaf f p k) else tw (upV leaf f p k) (rt32 f k)
theorem upV_bd {leaf f : Nat → Int} (hl : ∀ j, j < 32 → 0 ≤ leaf j ∧ leaf j < 256) (p k : Nat) : ∀ j, j < 32 → 0 ≤ upV leaf f p k j ∧ upV leaf f p k j < 256 := by
  intro j hj
  cases k with
  | zero => exact hl j hj
  | succ k =>
    unfold upV
    split
    · exact tw_bd _ _ _
    · exact tw_bd _ _ _
def holdsV (leaf f : Nat → Int) (len p : Nat) (root : Nat → Int) : Bool := decide (len ≤ 64) && eqR (upV leaf f p len) root

set_option maxRecDepth 20000 in
set_option maxHeartbeats 1000000 in
theorem holds_any (leaf root f : Nat → Int) (a : Option Addr) (len cap p : Nat) (w : World) (hS : Sh w) (hl : ∀ j, j < 32 → 0 ≤ leaf j ∧ leaf j < 256) (hr : Rts w a len cap f) (hf : ByB f (32 * len)) (hp : p ≤ 18446744073709551615) (hln : len ≤ 9223372036854775807) :
    Calls Tryd.prog 21 #[.agg (vs .u8 32 leaf), .slice a len cap, .int .u64 p, .agg (vs .u8 32 root)] w fun e w' => e = .returned (.bool (holdsV leaf f len p root)) ∧ Below w.heap.size w w' := by
  have HS := hid hS
  have HL := hid hl
  have HR := hid hr
  have HF := hid hf
  have eqf := eq32g
  clear hS hl hr hf
  by_cases h64 : len ≤ 64
  · have b1 : decide (64 < len) = false := by simp; omega
    have b2 : decide ((64 : Int) < (len : Int)) = false := by simp; omega
    go_enter Tryd.func21, Tryd.ntmps21
    go_wp2
    go_loopw [2, 16] (fun pl i wr => ∃ k : Nat, k ≤ len ∧ i = .int .i64 k ∧ pl = .int .u64 (p / 2 ^ k : Nat) ∧ Below w.heap.size w wr ∧ w.heap.size + 1 < wr.heap.size ∧ wr.heap[w.heap.size]? = some (.cells (vs .u8 32 (upV leaf f p k)) 27) ∧ wr.heap[w.heap.size + 1]? = some (.cells (vs .u8 32 root) 27)) (fun _ i _ => len - (intOf i).toNat)
    case atStart =>
      refine ⟨0, by omega, rfl, by simp, by go_grown, by simp, ?_, ?_⟩
      · exact (heap_old (by simp)).trans (heap_new rfl)
      · exact heap_new (by simp)
    case round =>
      obtain ⟨k, hk, rfl, rfl, hB, hz, rl, rr⟩ := hrel
      by_cases hlt : k < len
      · have b3 : decide (k < len) = true := by simp; omega
        obtain ⟨P, eP⟩ : ∃ P, P = p / 2 ^ k := ⟨_, rfl⟩
        rw [← eP]
        have hP : P ≤ 18446744073709551615 := by rw [eP]; exact Nat.le_trans (Nat.div_le_self _ _) hp
        obtain ⟨P2, eP2⟩ : ∃ P2, P2 = P / 2 := ⟨_, rfl⟩
        have s1 : (P : Int) / 2 = (P2 : Int) := by omega
        obtain ⟨b, o, hbw, hx, hc⟩ := HR.out.at k hlt
        have l0 := lv24_mid (w := wr) (b := b) (o := o) (c := rt32 f k) (fun j hj => (below_cell hB hbw).trans (hc j hj))
        have z := zero_root
        have sv := sv24_newv wr (fun _ => 0) (rt32 f k)
        have hbr : ∀ j, j < 32 → 0 ≤ rt32 f k j ∧ rt32 f k j < 256 := fun j hj => HF.out _ (by omega)
        have HBR := hid hbr
        have RL := hid rl
        have RR := hid rr
        have HB := hid hB
        have HEP := hid (And.intro eP eP2)
        clear hc hbr rl rr hB eP eP2
        go_upto_region 6 with fail
        obtain ⟨W1, hW1⟩ : ∃ W, wr.alloc (.cells (vs .u8 32 (rt32 f k)) 27) = W := ⟨_, rfl⟩
        rw [hW1]
        have r1 : W1.heap[wr.heap.size]? = some (.cells (vs .u8 32 (rt32 f k)) 27) := by rw [← hW1]; exact heap_new rfl
        have rl1 : W1.heap[w.heap.size]? = some (.cells (vs .u8 32 (upV leaf f p k)) 27) := by rw [← hW1]; exact (heap_old (by omega)).trans RL.out
        have rr1 : W1.heap[w.heap.size + 1]? = some (.cells (vs .u8 32 root) 27) := by rw [← hW1]; exact (heap_old hz).trans RR.out
        have hB1 : Below w.heap.size w W1 := by rw [← hW1]; exact HB.out.alloc (by omega) _
        have hz1 : wr.heap.size < W1.heap.size := by rw [← hW1]; simp
        have la := lv24_run r1
        have lb := lv24_run rl1
        have hs1 := HS.out.below hB1
        have HS1 := hid hs1
        have HB1 := hid hB1
        have RL1 := hid rl1
        have RR1 := hid rr1
        obtain ⟨y, ey⟩ : ∃ y, wr.heap.size = y := ⟨_, rfl⟩
        rw [ey] at la hz hz1 ⊢
        clear r1 rl1 rr1 hB1 hs1 hW1 l0 sv z ey
        have hst : ∀ (c : Nat → Int) (w2 : World), Below W1.heap.size W1 w2 → c = upV leaf f p (k + 1) → ∃ W3, (sv24 ⟨w.heap.size, 0, none⟩ (.agg (vs .u8 32 c))).run Tryd.prog w2 = .ok () W3 ∧ Below w.heap.size w W3 ∧ w.heap.size + 1 < W3.heap.size ∧ W3.heap[w.heap.size]? = some (.cells (vs .u8 32 (upV leaf f p (k + 1))) 27) ∧ W3.heap[w.heap.size + 1]? = some (.cells (vs .u8 32 root) 27) := by
          rintro c w2 hb2 rfl
          have r2 := (hb2.block w.heap.size (by omega)).trans RL1.out
          have := hb2.size
          refine ⟨_, sv24_run r2 _, below_row (HB1.out.trans (hb2.mono (by omega))) (Nat.le_refl _) _, by simp; omega, setRow_at r2, (setRow_other _ _ _ _ (by omega)).trans ((hb2.block _ (by omega)).trans RR1.out)⟩
        have HST := hid hst
        clear hst
        by_cases hodd : P % 2 = 1
        · have a1 : bits .and .u64 (P : Int) 1 = 1 := by
            rw [u64_and _ _ (by omega) (by omega) (by omega) (by omega)]
            simp [Nat.and_one_is_mod, hodd]
          have e3 : tw (rt32 f k) (upV leaf f p k) = upV leaf f p (k + 1) := by
            show _ = if p / 2 ^ k % 2 = 1 then _ else _
            rw [← HEP.out.1, if_pos hodd]
          have ht := two_tw _ _ W1 HS1.out HBR.out (upV_bd (f := f) HL.out p k)
          have HT := hid ht
          have E3 := hid e3
          clear ht e3
          go_wp2_with (go_at_call 23; refine HT.out.mono ?_; rintro e w2 ⟨rfl, hb2⟩; obtain ⟨W3, sv, h3⟩ := HST.out _ w2 hb2 E3.out)
          go_roundw
          case rel =>
            refine ⟨k + 1, by omega, by go_num, ?_, h3.1, h3.2.1, h3.2.2.1, h3.2.2.2⟩
            rw [Nat.pow_succ, ← Nat.div_div_eq_div_mul, ← HEP.out.1, ← HEP.out.2]
          case measure => simp [intOf]; omega
        · have a1 : bits .and .u64 (P : Int) 1 = 0 := by
            rw [u64_and _ _ (by omega) (by omega) (by omega) (by omega)]
            simp [Nat.and_one_is_mod]
            omega
          have e3 : tw (upV leaf f p k) (rt32 f k) = upV leaf f p (k + 1) := by
            show _ = if p / 2 ^ k % 2 = 1 then _ else _
            rw [← HEP.out.1, if_neg hodd]
          have ht := two_tw _ _ W1 HS1.out (upV_bd (f := f) HL.out p k) HBR.out
          have HT := hid ht
          have E3 := hid e3
          clear ht e3
          go_wp2_with (go_at_call 23; refine HT.out.mono ?_; rintro e w2 ⟨rfl, hb2⟩; obtain ⟨W3, sv, h3⟩ := HST.out _ w2 hb2 E3.out)
          go_roundw
          case rel =>
            refine ⟨k + 1, by omega, by go_num, ?_, h3.1, h3.2.1, h3.2.2.1, h3.2.2.2⟩
            rw [Nat.pow_succ, ← Nat.div_div_eq_div_mul, ← HEP.out.1, ← HEP.out.2]
          case measure => simp [intOf]; omega
      · have ek : k = len := by omega
        subst ek
        have b3 : decide (k < k) = false := by simp
        have l1 := lv24_run rl
        have l2 := lv24_run rr
        clear rl rr
        go_wp2
        go_ret
        refine ⟨?_, hB⟩
        unfold holdsV
        rw [decide_eq_true h64, Bool.true_and]
        rfl
  · have b1 : decide (64 < len) = true := by simp; omega
    have b2 : decide ((64 : Int) < (len : Int)) = true := by simp; omega
    go_enter Tryd.func21, Tryd.ntmps21
    go_wp2
    go_ret
    refine ⟨?_, by go_grown⟩
    unfold holdsV
    rw [decide_eq_false h64, Bool.false_and]
    rfl

end Go.Proofs.YtahnlfiahchdeaaDoor
