/-
  What the reference's Branch answers.
-/
import Derived.Test.YtahnlfiahchdeaaDoorMkW
import Derived.Test.YtahnlfiahchdeaaDoorMbA
namespace Go.Proofs.YtahnlfiahchdeaaDoor
open Go.RowKit
set_option linter.unusedVariables false
set_option linter.unusedSimpArgs false

/-- Shifts and neighbours, whole. -/
def sho (x y : Value) : Sem Value := binOp .shl 3 x y
theorem sho_eq (x y : Value) : binOp .shl 3 x y = sho x y := rfl
def xro (x y : Value) : Sem Value := binOp .xor 3 x y
theorem xro_eq (x y : Value) : binOp .xor 3 x y = xro x y := rfl
theorem sho_run (q d X : Nat) (hd : d ≤ 60) (hX : q * 2 ^ d = X) (h : X ≤ 4611686018427387904) (W : World) : (sho (.int .i64 q) (.int .u64 d)).run Tryd.prog W = .ok (.int .i64 X) W := by
  unfold sho
  show (Op.shift .shl .i64 (q : Int) .u64 (d : Int)).run Tryd.prog W = _
  have hb : IntKind.i64.bits = 64 := rfl
  rw [shift_shl .i64 .u64 _ _ (by omega) (by rw [hb]; omega), Sem.run_pure, Int.toNat_natCast, IntKind.wrap_i64]
  have e : ((q : Int) * (2 : Int) ^ d) = (X : Int) := by rw [← hX]; simp
  have e2 : ((X : Int) + 9223372036854775808) % 18446744073709551616 - 9223372036854775808 = (X : Int) := by omega
  rw [e, e2]
theorem sho_one (d X : Nat) (hd : d ≤ 60) (hX : 2 ^ d = X) (h : X ≤ 4611686018427387904) (W : World) : (sho (.int .i64 1) (.int .u64 d)).run Tryd.prog W = .ok (.int .i64 X) W := sho_run 1 d X hd (by rw [Nat.one_mul]; exact hX) h W
theorem xro_run (P Q : Nat) (hP : P < 4611686018427387904) (hQ : sib P = Q) (W : World) : (xro (.int .i64 P) (.int .i64 1)).run Tryd.prog W = .ok (.int .i64 Q) W := by
  have h := i64_xor1 P hP
  rw [hQ] at h
  rw [← h]
  rfl
theorem sib_lt (P n : Nat) (h : P < 2 ^ (n + 1)) : sib P < 2 ^ (n + 1) := by
  have hp : 2 ^ (n + 1) = 2 * 2 ^ n := by rw [Nat.pow_succ, Nat.mul_comm]
  unfold sib
  by_cases h2 : P % 2 = 0
  · rw [if_pos h2]; omega
  · rw [if_neg h2]; omega
/-- A piece of the row, as the reference cuts it, makes the node. -/
theorem piece_nd (f : Nat → Int) (len k Q F T : Nat) (hF : F = min (Q * 2 ^ k) len) (hT : T = min (Q * 2 ^ k + 2 ^ k) len) : vs .u8 32 (trV (shf f F) k 0 (T - F)) = vs .u8 32 (nd f len k Q) := vs_congr fun j hj => by
  generalize hA : Q * 2 ^ k = A at hF hT
  have hN : T - F ≤ 2 ^ k := by
    generalize 2 ^ k = X at hT ⊢
    omega
  rw [trV_nd (shf f F) k 0 (T - F) hN j hj]
  refine nd_congr _ f (T - F) len k 0 Q (fun t ht j hj => ?_) j hj
  rw [shf_shf, Nat.zero_mul, Nat.zero_add, Nat.add_zero, hA]
  clear hN
  generalize 2 ^ k = X at hT ht
  unfold nd
  by_cases h : A + t < len
  · rw [if_pos h, if_pos (by omega), rt32_shf, show F = A by omega]
  · rw [if_neg h, if_neg (by omega)]

theorem clip (F0 T0 len F T : Nat) (h : F0 ≤ T0) (hF : F = min F0 len) (hT : T = min T0 len) : F ≤ T ∧ T ≤ len := by omega
/-- The reference's tree of a piece. -/
theorem rpiece (a : Option Addr) (len cap : Nat) (f : Nat → Int) (az : Option Addr) (lz capz k Q F T : Nat) (w : World) (hC : Rc w) (hr : Rts w a len cap f) (hf : ByB f (32 * len)) (hz : Rts w az lz capz zrf) (hkz : k < lz) (hlz : lz ≤ 100) (hk : k ≤ 40) (hl : len ≤ 1099511627776) (hlc : len ≤ cap) (hFT : F ≤ T) (hT : T ≤ len)
    (e1 : vs .u8 32 (trV (shf f F) k 0 (T - F)) = vs .u8 32 (nd f len k Q)) :
    Calls Tryd.prog 29 #[.slice (ofs a cap F) (T - F) (cap - F), .int .i64 k, .slice az lz capz] w fun e w' => e = .returned (.agg (vs .u8 32 (nd f len k Q))) ∧ Below w.heap.size w w' := by
  have h1 : Rts w (ofs a cap F) (T - F) (cap - F) (shf f F) := hr.part F T hFT hT
  have h2 : ByB (shf f F) (32 * (T - F)) := fun q hq => hf (32 * F + q) (by omega)
  have h := rtree_any k w (ofs a cap F) (T - F) (cap - F) (shf f F) az lz capz hC h1 h2 hz hkz hlz hk (by omega) (by omega)
  rw [e1] at h
  exact h

attribute [local go_sem ↓] sv24_eq lv24_eq ix22_eq slr_eq lv48_eq sv48_eq bd48_eq bd27_eq bs22_eq mk22_eq eqo_eq sho_eq xro_eq

set_option maxRecDepth 20000 in
set_option maxHeartbeats 4000000 in
theorem rbranch_ok (a : Option Addr) (len cap : Nat) (f : Nat → Int) (m I D : Nat) (w : World) (hr : Rts w a len cap f) (hlc : len ≤ cap) (hf : ByB f (32 * len)) (hC : Rc w) (hm : m ≤ 1099511627776) (hlm : len ≤ m) (hD : dpt m = D) (hi : I < 2 ^ D) :
    Calls Tryd.prog 20 #[.slice a len cap, .int .i64 m, .int .i64 I] w fun e w' => ∃ a' cap', e = .returned (.tuple #[.slice a' D cap', .int .i64 0]) ∧ Below w.heap.size w w' ∧ Rts w' a' D cap' (brV f len I) := by
  have HC := hid hC
  have HR := hid hr
  have HF := hid hf
  have hdp := fun W => rdepth_any m W hm
  have hD2 := dpt_le m hm
  rw [hD] at hdp hD2
  have hX : 2 ^ D ≤ 2 ^ 40 := Nat.pow_le_pow_right (by omega) hD2
  obtain ⟨X0, eX0⟩ : ∃ X, 2 ^ D = X := ⟨_, rfl⟩
  have hX0 : X0 ≤ 1099511627776 := by omega
  have hIX : I < X0 := by omega
  have hs0 := fun W => sho_one D X0 (by omega) eX0 (by omega) W
  have d0 : decide ((m : Int) < 0) = false := by simp
  have d1 : decide ((1099511627776 : Int) < (m : Int)) = false := by simp; omega
  have d2 : decide (1099511627776 < m) = false := by simp; omega
  have d3 : decide ((I : Int) < 0) = false := by simp
  have d4 : decide (X0 ≤ I) = false := by simp; omega
  have d5 : decide ((X0 : Int) ≤ (I : Int)) = false := by simp; omega
  have d6 : decide ((m : Int) < (len : Int)) = false := by simp; omega
  have d7 : decide (m < len) = false := by simp; omega
  have hzs := rzeros_any D w hC (by omega)
  have HZS := hid hzs
  have HDP := hid hdp
  have HI := hid (And.intro hi hX)
  clear hzs hdp hD hC hr hf hi eX0 hX
  go_enter Tryd.func20, Tryd.ntmps20
  go_upto_region 7 with (first
    | (go_at_call 30; refine (HDP.out _).mono ?_; rintro e w2 ⟨rfl, hw2⟩; obtain rfl := hw2.symm)
    | (go_at_call 31; refine HZS.out.mono ?_; rintro e Wz ⟨az, capz, rfl, hbz, hz⟩))
  have HBZ := hid hbz
  have HZ := hid hz
  clear hbz hz HZS d0 d1 d2 d3 d4 d5 d6 d7 hs0
  go_wp2
  go_loopw [8, 10, 11] (fun v at' d wr => ∃ k : Nat, k ≤ D ∧ d = .int .i64 k ∧ at' = .int .i64 (I / 2 ^ k : Nat) ∧ Below Wz.heap.size Wz wr ∧ wr.ownsRow Wz.heap.size 27 32 v k (bl (brV f len I) (32 * k))) (fun _ _ d _ => D - (intOf d).toNat)
  case atStart => exact ⟨0, by omega, rfl, by rw [Nat.pow_zero, Nat.div_one], Below.refl _ _, World.ownsRow_nil _ _ _ _⟩
  case round =>
    obtain ⟨k, hk, rfl, rfl, hB, ho⟩ := hrel
    have HB := hid hB
    have HO := hid ho
    clear hB ho
    by_cases hlt : k < D
    · have b3 : decide (k < D) = true := by simp; omega
      obtain ⟨P, eP⟩ : ∃ P, P = I / 2 ^ k := ⟨_, rfl⟩
      rw [← eP]
      have hP : P < 4611686018427387904 := by rw [eP]; exact Nat.lt_of_le_of_lt (Nat.div_le_self _ _) (by omega)
      obtain ⟨P2, eP2⟩ : ∃ P2, P2 = P / 2 := ⟨_, rfl⟩
      have s1 : (P : Int) / 2 = (P2 : Int) := by omega
      have hPd : P < 2 ^ (D - k) := by
        rw [eP]
        refine Nat.div_lt_of_lt_mul ?_
        rw [← Nat.pow_add, show k + (D - k) = D by omega]
        exact HI.out.1
      obtain ⟨Q, eQ⟩ : ∃ Q, sib P = Q := ⟨_, rfl⟩
      have hQd : Q < 2 ^ (D - k) := by
        rw [← eQ]
        obtain ⟨j, ej⟩ : ∃ j, D - k = j + 1 := ⟨D - k - 1, by omega⟩
        rw [ej] at hPd ⊢
        exact sib_lt P j hPd
      have hQ2 : Q * 2 ^ k + 2 ^ k ≤ 2 ^ D := by
        have : (Q + 1) * 2 ^ k ≤ 2 ^ (D - k) * 2 ^ k := Nat.mul_le_mul_right _ hQd
        rw [← Nat.pow_add, show D - k + k = D by omega, Nat.add_mul, Nat.one_mul] at this
        exact this
      have x1 := fun W => xro_run P Q hP eQ W
      obtain ⟨F0, eF0⟩ : ∃ F, Q * 2 ^ k = F := ⟨_, rfl⟩
      obtain ⟨X, eX⟩ : ∃ X, 2 ^ k = X := ⟨_, rfl⟩
      obtain ⟨T0, eT0⟩ : ∃ T, F0 + X = T := ⟨_, rfl⟩
      have hT0 : T0 ≤ 1099511627776 := by
        rw [← eT0, ← eF0, ← eX]
        exact Nat.le_trans hQ2 (Nat.le_trans HI.out.2 (by decide))
      have hXp : 0 < X := by rw [← eX]; exact Nat.two_pow_pos _
      clear hQ2 hQd hPd
      have hF0 : F0 ≤ T0 := by omega
      have hXT : X ≤ T0 := by omega
      have sh1 := fun W => sho_run Q k F0 (by omega) eF0 (by omega) W
      have sh2 := fun W => sho_one k X (by omega) eX (by omega) W
      have e1 : ∀ F T, F = min F0 len → T = min T0 len → vs .u8 32 (trV (shf f F) k 0 (T - F)) = vs .u8 32 (nd f len k Q) := fun F T hF hT => piece_nd f len k Q F T (by rw [eF0]; exact hF) (by rw [eF0, eX, eT0]; exact hT)
      have hbr : ∀ x, x < 32 * 1 → brV f len I (32 * k + x) = nd f len k Q x := fun x hx => by
        have := brV_at f len I k x hx
        rw [← eP, eQ] at this
        unfold rt32 at this
        exact this
      have EP := hid (And.intro eP eP2)
      clear eF0 eX eQ eP eP2
      have k1 : k < D + 1 := by omega
      have k2 : D + 1 ≤ 100 := by omega
      have k3 : k ≤ 40 := by omega
      have k4 : len ≤ 1099511627776 := by omega
      have hpc : ∀ F T, F = min F0 len → T = min T0 len → Calls Tryd.prog 29 #[.slice (ofs a cap F) (T - F) (cap - F), .int .i64 k, .slice az (D + 1) capz] wr fun e w' => e = .returned (.agg (vs .u8 32 (nd f len k Q))) ∧ Below wr.heap.size wr w' := by
        intro F T hF hT
        have hb := HBZ.out.trans (HB.out.mono HBZ.out.size)
        have hc := clip F0 T0 len F T hF0 hF hT
        exact rpiece a len cap f az (D + 1) capz k Q F T wr (HC.out.below hb) (HR.out.below hb) HF.out (HZ.out.below HB.out) k1 k2 k3 k4 hlc hc.1 hc.2 (e1 F T hF hT)
      have sh3 : (F0 : Int) + (X : Int) = (T0 : Int) := by omega
      have HPC := hid hpc
      have HBR := hid hbr
      generalize nd f len k Q = C at HPC HBR
      clear hpc hbr e1
      by_cases c1 : len < F0
      · have g1 : decide (len < F0) = true := by simp; omega
        have g2 : decide ((len : Int) < (F0 : Int)) = true := by simp; omega
        have g3 : decide (len < T0) = true := by simp; omega
        have g4 : decide ((len : Int) < (T0 : Int)) = true := by simp; omega
        have sl := fun W => slr_run W a len cap len len (some (.int .i64 len)) (some (.int .i64 len)) (.inl rfl) (.inl rfl) (by omega) (by omega) hlc
        have hN := HPC.out len len (by omega) (by omega)
        generalize ofs a cap len = ap at sl hN
        generalize len - len = np at sl hN
        generalize cap - len = cp at sl hN
        have HN := hid hN
        clear hN HPC
        go_wp2_with (first
          | (go_at_call 30; refine (HDP.out _).mono ?_; rintro e w2 ⟨rfl, hw2⟩; obtain rfl := hw2.symm)
          | (go_at_call 29; refine HN.out.mono ?_; rintro e w3 ⟨rfl, hb3⟩; have bs := bs22_1 w3 C; have HO3 := hid (ownsRow_below HO.out hb3); have HB3 := hid (HB.out.trans (hb3.mono HB.out.size)); clear hb3)
          | (at_builtin; go_loud (refine wpList_append_rts _ rfl _ _ rfl Wz.heap.size u8 k (brV f len I) rfl (HO3.out.alloc _) _ 1 1 C rfl (rts_row (heap_new rfl)) (by omega) (by have := HB3.out.size; simp; omega) (brV f len I) (fun _ _ => rfl) (fun x hx => HBR.out x hx) ?_); intro v4 w4 ho4 hg4; have HB4 := hid (below_grownS (HB3.out.alloc HB3.out.size _) (HO3.out.alloc _) (by have := HB3.out.size; simp; omega) hg4); have HO4 := hid ho4; clear ho4 hg4))
        go_roundw
        case rel =>
          refine ⟨k + 1, by omega, by go_num, ?_, HB4.out, HO4.out⟩
          rw [Nat.pow_succ, ← Nat.div_div_eq_div_mul, ← EP.out.1, ← EP.out.2]
        case measure => simp [intOf]; omega
      · have g1 : decide (len < F0) = false := by simp; omega
        have g2 : decide ((len : Int) < (F0 : Int)) = false := by simp; omega
        by_cases c2 : len < T0
        · have g3 : decide (len < T0) = true := by simp; omega
          have g4 : decide ((len : Int) < (T0 : Int)) = true := by simp; omega
          have sl := fun W => slr_run W a len cap F0 len (some (.int .i64 F0)) (some (.int .i64 len)) (.inl rfl) (.inl rfl) (by omega) (by omega) hlc
          have hN := HPC.out F0 len (by omega) (by omega)
          generalize ofs a cap F0 = ap at sl hN
          generalize len - F0 = np at sl hN
          generalize cap - F0 = cp at sl hN
          have HN := hid hN
          clear hN HPC
          go_wp2_with (first
            | (go_at_call 30; refine (HDP.out _).mono ?_; rintro e w2 ⟨rfl, hw2⟩; obtain rfl := hw2.symm)
            | (go_at_call 29; refine HN.out.mono ?_; rintro e w3 ⟨rfl, hb3⟩; have bs := bs22_1 w3 C; have HO3 := hid (ownsRow_below HO.out hb3); have HB3 := hid (HB.out.trans (hb3.mono HB.out.size)); clear hb3)
            | (at_builtin; go_loud (refine wpList_append_rts _ rfl _ _ rfl Wz.heap.size u8 k (brV f len I) rfl (HO3.out.alloc _) _ 1 1 C rfl (rts_row (heap_new rfl)) (by omega) (by have := HB3.out.size; simp; omega) (brV f len I) (fun _ _ => rfl) (fun x hx => HBR.out x hx) ?_); intro v4 w4 ho4 hg4; have HB4 := hid (below_grownS (HB3.out.alloc HB3.out.size _) (HO3.out.alloc _) (by have := HB3.out.size; simp; omega) hg4); have HO4 := hid ho4; clear ho4 hg4))
          go_roundw
          case rel =>
            refine ⟨k + 1, by omega, by go_num, ?_, HB4.out, HO4.out⟩
            rw [Nat.pow_succ, ← Nat.div_div_eq_div_mul, ← EP.out.1, ← EP.out.2]
          case measure => simp [intOf]; omega
        · have g3 : decide (len < T0) = false := by simp; omega
          have g4 : decide ((len : Int) < (T0 : Int)) = false := by simp; omega
          have sl := fun W => slr_run W a len cap F0 T0 (some (.int .i64 F0)) (some (.int .i64 T0)) (.inl rfl) (.inl rfl) (by omega) (by omega) hlc
          have hN := HPC.out F0 T0 (by omega) (by omega)
          generalize ofs a cap F0 = ap at sl hN
          generalize T0 - F0 = np at sl hN
          generalize cap - F0 = cp at sl hN
          have HN := hid hN
          clear hN HPC
          go_wp2_with (first
            | (go_at_call 30; refine (HDP.out _).mono ?_; rintro e w2 ⟨rfl, hw2⟩; obtain rfl := hw2.symm)
            | (go_at_call 29; refine HN.out.mono ?_; rintro e w3 ⟨rfl, hb3⟩; have bs := bs22_1 w3 C; have HO3 := hid (ownsRow_below HO.out hb3); have HB3 := hid (HB.out.trans (hb3.mono HB.out.size)); clear hb3)
            | (at_builtin; go_loud (refine wpList_append_rts _ rfl _ _ rfl Wz.heap.size u8 k (brV f len I) rfl (HO3.out.alloc _) _ 1 1 C rfl (rts_row (heap_new rfl)) (by omega) (by have := HB3.out.size; simp; omega) (brV f len I) (fun _ _ => rfl) (fun x hx => HBR.out x hx) ?_); intro v4 w4 ho4 hg4; have HB4 := hid (below_grownS (HB3.out.alloc HB3.out.size _) (HO3.out.alloc _) (by have := HB3.out.size; simp; omega) hg4); have HO4 := hid ho4; clear ho4 hg4))
          go_roundw
          case rel =>
            refine ⟨k + 1, by omega, by go_num, ?_, HB4.out, HO4.out⟩
            rw [Nat.pow_succ, ← Nat.div_div_eq_div_mul, ← EP.out.1, ← EP.out.2]
          case measure => simp [intOf]; omega
    · obtain rfl : D = k := by omega
      have b3 : decide (D < D) = false := by simp
      obtain ⟨a', cap', rfl, hrow⟩ := RowR.ofOwns HO.out
      have HRT := hid hrow.rts
      clear hrow HO
      go_wp2_with (go_at_call 30; refine (HDP.out _).mono ?_; rintro e w2 ⟨rfl, hw2⟩; obtain rfl := hw2.symm)
      go_ret2
      exact ⟨_, _, rfl, HBZ.out.trans (HB.out.mono HBZ.out.size), HRT.out⟩

end Go.Proofs.YtahnlfiahchdeaaDoor
