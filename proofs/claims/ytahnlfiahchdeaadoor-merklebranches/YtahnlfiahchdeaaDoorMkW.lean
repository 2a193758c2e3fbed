/-
  What the reference's Tree, Bytes and Mix answer.
-/
import Derived.Test.YtahnlfiahchdeaaDoorMkV
namespace Go.Proofs.YtahnlfiahchdeaaDoor
open Go.RowKit
set_option linter.unusedVariables false
set_option linter.unusedSimpArgs false

attribute [local go_sem ↓] sv24_eq lv24_eq ix22_eq slr_eq lv48_eq sv48_eq bd48_eq bd27_eq bs22_eq sl22_eq mk22_eq eqo_eq

theorem trV_tree (f : Nat → Int) (len d : Nat) (hl : len ≤ 2 ^ d) : vs .u8 32 (trV f d 0 len) = vs .u8 32 (nd f len d 0) := vs_congr fun j hj => by
  rw [trV_nd f d 0 len hl j hj]
  have : shf f 0 = f := by funext q; unfold shf; rw [Nat.mul_zero, Nat.zero_add]
  rw [this]

set_option maxRecDepth 20000 in
set_option maxHeartbeats 1000000 in
theorem rtreeT_any (a : Option Addr) (len cap : Nat) (f : Nat → Int) (n : Int) (w : World) (hC : Rc w) (hr : Rts w a len cap f) (hlc : len ≤ cap) (hf : ByB f (32 * len)) (h0 : -9223372036854775808 ≤ n) (h1 : n ≤ 9223372036854775807) (hln : len ≤ 9223372036854775807) :
    Calls Tryd.prog 11 #[.slice a len cap, .int .i64 n] w fun e w' => e = .returned (.tuple #[.agg (vs .u8 32 (treeV f len n)), .int .i64 (treeE len n)]) ∧ Below w.heap.size w w' := by
  have z := zero_root
  have HC := hid hC
  have HR := hid hr
  have HF := hid hf
  clear hC hr hf
  by_cases hn : okL n
  · obtain ⟨m, rfl⟩ : ∃ m : Nat, n = (m : Int) := ⟨n.toNat, by have := hn.1; omega⟩
    have hm : m ≤ 1099511627776 := by have := hn.2; omega
    have d1 : decide ((m : Int) < 0) = false := by simp
    have d2 : decide ((1099511627776 : Int) < (m : Int)) = false := by simp; omega
    have d3 : decide (1099511627776 < m) = false := by simp; omega
    by_cases hle : (len : Int) ≤ m
    · unfold treeV treeE
      rw [if_pos ⟨hn, hle⟩, if_pos hn, if_pos hle, Int.toNat_natCast]
      have hD := fun W => rdepth_any m W hm
      have hD2 := dpt_le m hm
      have hD3 := dpt_ge m hm
      generalize dpt m = D at hD hD2 hD3 ⊢
      have e1 := trV_tree f len D (by omega)
      generalize nd f len D 0 = V at e1 ⊢
      have bb : decide ((m : Int) < (len : Int)) = false := by simp; omega
      have bb2 : decide (m < len) = false := by simp; omega
      have hlm : len ≤ 1099511627776 := by omega
      have HD := hid hD
      have E1 := hid e1
      clear hn h0 h1 hle hD hD3 e1
      go_enter Tryd.func11, Tryd.ntmps11
      go_upto_region 5 with fail
      obtain ⟨W0, hW0⟩ : ∃ W, w.alloc (.cells (vs .u8 32 fun _ => 0) 27) = W := ⟨_, rfl⟩
      rw [hW0]
      have hB0 : Below w.heap.size w W0 := by rw [← hW0]; go_grown
      have r0 : W0.heap[w.heap.size]? = some (.cells (vs .u8 32 fun _ => 0) 27) := by rw [← hW0]; exact heap_new rfl
      have z0 : W0.heap.size = w.heap.size + 1 := by rw [← hW0]; simp
      have hzs := rzeros_any D W0 (HC.out.below hB0) (by omega)
      have HZS := hid hzs
      have htr : ∀ W az capz, Below W0.heap.size W0 W → Rts W az (D + 1) capz zrf → Calls Tryd.prog 29 #[.slice a len cap, .int .i64 D, .slice az (D + 1) capz] W fun e w' => e = .returned (.agg (vs .u8 32 V)) ∧ Below W0.heap.size W0 w' := by
        intro W az capz h hz
        have hb := hB0.trans (h.mono hB0.size)
        refine (rtree_any D W a len cap f az (D + 1) capz (HC.out.below hb) (HR.out.below hb) HF.out hz (by omega) (by omega) hD2 hlm hlc).mono ?_
        rintro e w' ⟨rfl, h2⟩
        exact ⟨by rw [E1.out], h.trans (h2.mono h.size)⟩
      have HTR := hid htr
      have H0 := hid (And.intro hB0 (And.intro r0 z0))
      clear hzs htr hB0 r0 z0 hW0
      go_wp2_with (first
        | (go_at_call 30; refine (HD.out _).mono ?_; rintro e w1 ⟨rfl, rfl⟩)
        | (go_at_call 31; refine HZS.out.mono ?_; rintro e w2 ⟨az, capz, rfl, hb2, hz2⟩)
        | (go_at_call 29; refine (HTR.out _ az capz hb2 hz2).mono ?_; rintro e w3 ⟨rfl, hb3⟩; have sv := sv24_run ((hb3.block w.heap.size (by have := H0.out.2.2; omega)).trans H0.out.2.1) V))
      have z0 := H0.out.2.2
      refine ret24s 4 5 w.heap.size _ 27 _ rfl rfl rfl rfl (setRow_at ((hb3.block w.heap.size (by omega)).trans H0.out.2.1)) ⟨rfl, ?_⟩
      exact below_row (H0.out.1.trans (hb3.mono (by omega))) (Nat.le_refl _) _
    · unfold treeV treeE
      rw [if_neg (fun h => hle h.2), if_pos hn, if_neg hle]
      have bb : decide ((m : Int) < (len : Int)) = true := by simp; omega
      have bb2 : decide (m < len) = true := by simp; omega
      have b0 := bd27_0
      have sv := sv24_newv w (fun _ => 0) (fun _ => 0)
      clear hn h0 h1 hle
      go_enter Tryd.func11, Tryd.ntmps11
      go_wp2
      refine ret24s 4 5 w.heap.size _ 27 _ rfl rfl rfl rfl (heap_new rfl) ⟨rfl, ?_⟩
      go_grown
  · unfold treeV treeE
    rw [if_neg (fun h => hn h.1), if_neg hn]
    have b0 := bd27_0
    have sv := sv24_newv w (fun _ => 0) (fun _ => 0)
    by_cases hneg : n < 0
    · have d1 : decide (n < 0) = true := by simp; omega
      clear hn
      go_enter Tryd.func11, Tryd.ntmps11
      go_wp2
      refine ret24s 4 5 w.heap.size _ 27 _ rfl rfl rfl rfl (heap_new rfl) ⟨rfl, ?_⟩
      go_grown
    · have d1 : decide (n < 0) = false := by simp; omega
      have d2 : decide (1099511627776 < n) = true := by
        have : ¬ n ≤ 1099511627776 := fun h => hn ⟨by omega, h⟩
        simp; omega
      clear hn
      go_enter Tryd.func11, Tryd.ntmps11
      go_wp2
      refine ret24s 4 5 w.heap.size _ 27 _ rfl rfl rfl rfl (heap_new rfl) ⟨rfl, ?_⟩
      go_grown

set_option maxHeartbeats 1000000 in
theorem rbytes_any (n : Int) (w : World) (h0 : 0 ≤ n) (h1 : n ≤ 18446744073709551615) :
    Calls Tryd.prog 33 #[.int .u64 n] w fun e w' => e = .returned (.agg (vs .u8 8 (nmB n))) ∧ Below w.heap.size w w' := by
  have e0 : vs .u8 8 (nmB n) = #[.int .u8 (n % 256), .int .u8 (n / 256 % 256), .int .u8 (n / 65536 % 256), .int .u8 (n / 16777216 % 256), .int .u8 (n / 4294967296 % 256), .int .u8 (n / 1099511627776 % 256), .int .u8 (n / 281474976710656 % 256), .int .u8 (n / 72057594037927936)] := by
    have e7 : n / 72057594037927936 = n / 72057594037927936 % 256 := by omega
    have e1 : n % 256 = n / 1 % 256 := by omega
    rw [e7, e1]
    rfl
  rw [e0]
  clear e0
  go_enter Tryd.func33, Tryd.ntmps33
  go_wp2
  go_rounds 9
  go_returns
  exact ⟨rfl, by go_grown⟩

/-- Eight bytes stored, whole. -/
def sv53 (a : Addr) (v : Value) : Sem Unit := storeVar 53 a v
theorem sv53_eq (a : Addr) (v : Value) : storeVar 53 a v = sv53 a v := rfl
theorem zero_53 : ∀ w : World, (zeroValue 53).run Tryd.prog w = .ok (.agg (vs .u8 8 fun _ => 0)) w := (zero_of_info (n := 8) (by kernel_rfl)).1
theorem sv53_new (W : World) (o c : Nat → Int) : (sv53 ⟨W.heap.size, 0, none⟩ (.agg (vs .u8 8 c))).run Tryd.prog (W.alloc (.cells (vs .u8 8 o) 53)) = .ok () (W.alloc (.cells (vs .u8 8 c) 53)) :=
  run_storeVar_new W 53 _ _ (by rw [vs_size]; kernel_rfl) (by rw [vs_size, vs_size]) (vs_one _ _ _)
attribute [local go_sem ↓] sv53_eq

set_option maxRecDepth 20000 in
set_option maxHeartbeats 1000000 in
theorem rmix_any (c : Nat → Int) (n : Int) (w : World) (hC : Rc w) (hc : ∀ j, j < 32 → 0 ≤ c j ∧ c j < 256) (h0 : 0 ≤ n) (h1 : n ≤ 18446744073709551615) :
    Calls Tryd.prog 18 #[.agg (vs .u8 32 c), .int .u64 n] w fun e w' => e = .returned (.agg (vs .u8 32 (tw c (nmC n)))) ∧ Below w.heap.size w w' := by
  have HC := hid hC
  have HCB := hid hc
  have z := zero_root
  have z8 := zero_53
  have sv8 := fun W => sv53_new W (fun _ => 0) (nmB n)
  clear hC hc
  go_enter Tryd.func18, Tryd.ntmps18
  go_upto_region 2 with fail
  obtain ⟨W0, hW0⟩ : ∃ W, ((w.alloc (.cells (vs .u8 32 c) 27)).alloc (.cells (vs .u8 32 fun _ => 0) 27)).alloc (.cells (vs .u8 32 fun _ => 0) 27) = W := ⟨_, rfl⟩
  rw [hW0]
  have hB0 : Below w.heap.size w W0 := by rw [← hW0]; go_grown
  have z0 : W0.heap.size = w.heap.size + 3 := by rw [← hW0]; simp
  have ra : W0.heap[w.heap.size]? = some (.cells (vs .u8 32 c) 27) := by rw [← hW0]; exact (heap_old (by simp; omega)).trans ((heap_old (by simp)).trans (heap_new rfl))
  have rr : W0.heap[w.heap.size + 1]? = some (.cells (vs .u8 32 fun _ => 0) 27) := by rw [← hW0]; exact (heap_old (by simp)).trans (heap_new (by simp))
  have rn : W0.heap[w.heap.size + 1 + 1]? = some (.cells (vs .u8 32 fun _ => 0) 27) := by rw [← hW0]; exact heap_new (by simp)
  have hby := rbytes_any n W0 h0 h1
  have HBY := hid hby
  have H0 := hid (And.intro hB0 (And.intro z0 (And.intro ra (And.intro rr rn))))
  clear hby hB0 z0 ra rr rn hW0
  go_upto_region 3 with (go_at_call 33; refine HBY.out.mono ?_; rintro e w1 ⟨rfl, hb1⟩)
  obtain ⟨hB0, z0, ra, rr, rn⟩ := H0.out
  have s1 := hb1.size
  have hB1 : Below w.heap.size w (w1.alloc (.cells (vs .u8 8 (nmB n)) 53)) := (hB0.trans (hb1.mono (by omega))).alloc (by omega) _
  have ra1 : (w1.alloc (.cells (vs .u8 8 (nmB n)) 53)).heap[w.heap.size]? = some (.cells (vs .u8 32 c) 27) := (heap_old (by omega)).trans ((hb1.block _ (by omega)).trans ra)
  have rr1 : (w1.alloc (.cells (vs .u8 8 (nmB n)) 53)).heap[w.heap.size + 1]? = some (.cells (vs .u8 32 fun _ => 0) 27) := (heap_old (by omega)).trans ((hb1.block _ (by omega)).trans rr)
  have rn1 : (w1.alloc (.cells (vs .u8 8 (nmB n)) 53)).heap[w.heap.size + 1 + 1]? = some (.cells (vs .u8 32 fun _ => 0) 27) := (heap_old (by omega)).trans ((hb1.block _ (by omega)).trans rn)
  have rb1 : (w1.alloc (.cells (vs .u8 8 (nmB n)) 53)).heap[w1.heap.size]? = some (.cells (vs .u8 8 (nmB n)) 53) := heap_new rfl
  have z1 : (w1.alloc (.cells (vs .u8 8 (nmB n)) 53)).heap.size = w1.heap.size + 1 := by simp
  obtain ⟨y, ey⟩ : ∃ y, w1.heap.size = y := ⟨_, rfl⟩
  obtain ⟨W1, hW1⟩ : ∃ W, w1.alloc (.cells (vs .u8 8 (nmB n)) 53) = W := ⟨_, rfl⟩
  rw [hW1] at hB1 ra1 rr1 rn1 rb1 z1 ⊢
  rw [ey] at rb1 z1 s1 ⊢
  have hy : w.heap.size + 3 ≤ y := by omega
  have H1 := hid (And.intro hB1 (And.intro z1 (And.intro ra1 (And.intro rr1 (And.intro rn1 rb1)))))
  clear hB1 ra1 rr1 rn1 rb1 z1 hW1 ey hB0 z0 ra rr rn H0 HBY s1 hb1
  go_wp2
  go_loopw [7] (fun i wr => ∃ k : Nat, k ≤ 8 ∧ i = .int .i64 k ∧ Below w.heap.size w wr ∧ wr.heap.size = y + 1 ∧ wr.heap[w.heap.size]? = some (.cells (vs .u8 32 c) 27) ∧ wr.heap[w.heap.size + 1]? = some (.cells (vs .u8 32 fun _ => 0) 27) ∧ wr.heap[y]? = some (.cells (vs .u8 8 (nmB n)) 53) ∧ wr.heap[w.heap.size + 1 + 1]? = some (.cells (vs .u8 32 fun j => if j < k then nmB n j else 0) 27)) (fun i _ => 8 - (intOf i).toNat)
  case atStart =>
    obtain ⟨hB1, z1, ra1, rr1, rn1, rb1⟩ := H1.out
    refine ⟨0, by omega, rfl, hB1, z1, ra1, rr1, rb1, ?_⟩
    exact rn1.trans (congrArg (fun c => some (Obj.cells c 27)) (vs_congr fun q _ => by rw [if_neg (by omega)]))
  case round =>
    clear H1
    obtain ⟨k, hk, rfl, hB, hz, ra, rr, rb, rn⟩ := hrel
    by_cases hlt : k < 8
    · have b3 : decide (k < 8) = true := by simp; omega
      have cs := row_int rn k (by omega)
      have fs := row_frozen rn k
      have cb := row_int rb k hlt
      have RA := hid (And.intro ra (And.intro rr rb))
      have RN := hid rn
      have HB := hid hB
      have HZ := hid hz
      clear ra rr rn hB hz rb
      go_wp2
      go_roundw
      case rel =>
        refine ⟨k + 1, by omega, by go_num, HB.out.setCell (by show w.heap.size ≤ w.heap.size + 1 + 1; omega) _, (size_s _ _ _).trans HZ.out, (heap_set_other (by omega)).trans RA.out.1, (heap_set_other (by omega)).trans RA.out.2.1, (heap_set_other (by omega)).trans RA.out.2.2, ?_⟩
        refine (row_set RN.out k _).trans ?_
        rw [vs_set]
        refine congrArg (fun c => some (Obj.cells c 27)) (vs_congr fun q _ => ?_)
        by_cases hq : q = k
        · subst hq
          rw [if_pos rfl, if_pos (by omega)]
        · rw [if_neg hq]
          by_cases h2 : q < k
          · rw [if_pos h2, if_pos (by omega)]
          · rw [if_neg h2, if_neg (by omega)]
      case measure => simp [intOf]; omega
    · have ek : k = 8 := by omega
      subst ek
      have b3 : decide (8 < 8) = false := by simp
      have rn' : wr.heap[w.heap.size + 1 + 1]? = some (.cells (vs .u8 32 (nmC n)) 27) := rn
      have la := lv24_run ra
      have ln := lv24_run rn'
      have ht := rtwo_tw c (nmC n) wr (HC.out.below hB) HCB.out (fun j _ => nmC_bd n j)
      have HT := hid ht
      have HB := hid hB
      have RR := hid rr
      clear ht hB ra rn rn' rr rb
      rw [show ((8 : Nat) : Int) = 8 from rfl]
      go_wp2_with (go_at_call 32; refine HT.out.mono ?_; rintro e w1 ⟨rfl, hb1⟩; have sv := sv24_run ((hb1.block (w.heap.size + 1) (by omega)).trans RR.out) (tw c (nmC n)))
      refine ret24 4 (w.heap.size + 1) _ 27 rfl rfl rfl (setRow_at ((hb1.block (w.heap.size + 1) (by omega)).trans RR.out)) ⟨rfl, ?_⟩
      exact below_row (HB.out.trans (hb1.mono (by omega))) (by omega) _

end Go.Proofs.YtahnlfiahchdeaaDoor
