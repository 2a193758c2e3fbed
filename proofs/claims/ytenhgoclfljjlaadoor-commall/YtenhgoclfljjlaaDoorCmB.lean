/-
  What the reference's Count and Of answer.
-/

import Derived.Test.YtenhgoclfljjlaaDoorCmA
import Derived.Test.YtenhgoclfljjlaaDoorVR
import Derived.Test.YtenhgoclfljjlaaDoorLkM
namespace Go.Proofs.YtenhgoclfljjlaaDoor

open Go.RowKit

set_option linter.unusedVariables false

set_option linter.unusedSimpArgs false

set_option maxRecDepth 20000

attribute [local go_sem ↓] lvState_eq svState_eq bdState_eq lvValidator_eq svValidator_eq ixValidator_eq sv24_eq lv24_eq

/-- The actives of an epoch. -/
def acE (x : VState) (e : Int) : List Int := acL x.f11.z e x.f11.n

theorem acE_len {x : VState} {e : Int} (h : x.f11.n ≤ 65536) : (acE x e).length ≤ 65536 := Nat.le_trans (acL_len _ _ _) h

set_option maxHeartbeats 1000000 in
theorem rcount_any (x : VState) (e : Int) (w : World) (hx : Lk w x) :
    Calls Tryd.prog 9 #[.agg (cel (sState x)), .int .u64 e] w fun e' w' => e' = .returned (.int .u64 (cnt (acE x e).length : Nat)) ∧ Below w.heap.size w w' := by
  obtain ⟨W0, hW0⟩ : ∃ W, w.alloc (.cells (cel (sState x)) 49) = W := ⟨_, rfl⟩
  have r0 : W0.heap[w.heap.size]? = some (.cells (cel (sState x)) 49) := by rw [← hW0]; exact heap_new rfl
  have hB0 : Below w.heap.size w W0 := by rw [← hW0]; exact (Below.refl _ _).alloc (Nat.le_refl _) _
  have l0 : (lvState ⟨w.heap.size, 0, none⟩).run Tryd.prog W0 = .ok (.agg (cel (sState x))) W0 := lvState_run r0
  have hac : Calls Tryd.prog 21 #[.agg (cel (sState x)), .int .u64 e] W0 fun e' w' => ∃ a c, e' = .returned (.slice a (acE x e).length c) ∧ Nml w' a (acE x e) ∧ Below W0.heap.size W0 w' := ractives_any x e W0 (hx.below hB0)
  have hlen := acE_len (e := e) hx.nb
  generalize acE x e = L at *
  obtain ⟨n, hn⟩ : ∃ n, L.length = n := ⟨_, rfl⟩
  rw [hn] at hac hlen ⊢
  have hch : cnt n = if n / 8 < 1 then 1 else if 2 < n / 8 then 2 else n / 8 := rfl
  generalize cnt n = R at *
  have nw : IntKind.u64.wrap (n : Int) = (n : Int) := by rw [IntKind.wrap_u64]; omega
  have n0 : (0 : Int) ≤ (n : Int) := by omega
  have n1 : (n : Int) ≤ 65536 := by omega
  have HB := hid hB0
  have HW := hid hW0
  have HAC := hid hac
  have HCH := hid hch
  clear hB0 hW0 hac hx r0 hch hn
  go_enter Tryd.func9, Tryd.ntmps9
  go_upto_region 1 with fail
  rw [HW.out]
  clear HW
  go_upto_region 2 with (go_at_call 21; refine HAC.out.mono ?_; rintro e' w2 ⟨a2, c2, rfl, hn2, hb2⟩)
  clear l0 hn2
  have hz := HB.out.size
  have HB2 := hid (HB.out.trans (hb2.mono hz))
  clear hb2
  by_cases h1 : (n : Int) / 4 / 2 < 1
  · go_wp2
    go_ret
    exact ⟨ret_int (by rw [HCH.out, if_pos (by omega)]; rfl), HB2.out⟩
  · by_cases h2 : 2 < (n : Int) / 4 / 2
    · go_wp2
      go_ret
      exact ⟨ret_int (by rw [HCH.out, if_neg (by omega), if_pos (by omega)]; rfl), HB2.out⟩
    · go_wp2
      go_ret
      exact ⟨ret_int (by rw [HCH.out, if_neg (by omega), if_neg (by omega)]; omega), HB2.out⟩

/-- What an answered list of a committee is. -/
def OfA (x : VState) (sl ix : Int) (w : World) (e' : Ending) (w' : World) : Prop :=
  ∃ a c, e' = .returned (.tuple #[.slice a (cmN (acE x (sl / 4)).length sl ix) c, .int .i64 (cmE (acE x (sl / 4)).length ix)]) ∧ N64 w' a (cmN (acE x (sl / 4)).length sl ix) (cmF (acE x (sl / 4)) (seedV x (sl / 4) 1) sl ix) ∧ Below w.heap.size w w'

theorem seedV_bd (x : VState) (e k : Int) (j : Nat) : 0 ≤ seedV x e k j ∧ seedV x e k j < 256 := shaV_bd ..

set_option maxHeartbeats 2000000 in
theorem rof_no (x : VState) (sl ix : Int) (w : World) (hx : Lk w x) (h : (cnt (acE x (sl / 4)).length : Int) ≤ ix) (s0 : 0 ≤ sl) (s1 : sl < 18446744073709551616) :
    Calls Tryd.prog 11 #[.agg (cel (sState x)), .int .u64 sl, .int .u64 ix] w (OfA x sl ix w) := by
  obtain ⟨W0, hW0⟩ : ∃ W, w.alloc (.cells (cel (sState x)) 49) = W := ⟨_, rfl⟩
  have r0 : W0.heap[w.heap.size]? = some (.cells (cel (sState x)) 49) := by rw [← hW0]; exact heap_new rfl
  have hB0 : Below w.heap.size w W0 := by rw [← hW0]; exact (Below.refl _ _).alloc (Nat.le_refl _) _
  have l0 : (lvState ⟨w.heap.size, 0, none⟩).run Tryd.prog W0 = .ok (.agg (cel (sState x))) W0 := lvState_run r0
  have hco := rcount_any x (sl / 4) W0 (hx.below hB0)
  have hN : cmN (acE x (sl / 4)).length sl ix = 0 := by unfold cmN; rw [if_neg (by omega)]
  have hE : cmE (acE x (sl / 4)).length ix = 1 := by unfold cmE; rw [if_neg (by omega)]
  unfold OfA
  rw [hN, hE]
  have hc := cnt_bd (acE x (sl / 4)).length
  generalize cnt (acE x (sl / 4)).length = C at *
  generalize cmF (acE x (sl / 4)) (seedV x (sl / 4) 1) sl ix = F at *
  obtain ⟨E, eE⟩ : ∃ E, sl / 4 = E := ⟨_, rfl⟩
  rw [eE] at hco
  have ee : IntKind.u64.wrap (sl.tdiv 4) = E := by rw [Int.tdiv_eq_ediv_of_nonneg s0, IntKind.wrap_u64]; omega
  have HB := hid hB0
  have HW := hid hW0
  have HCO := hid hco
  clear hB0 hW0 hco hx r0 hN hE eE
  go_enter Tryd.func11, Tryd.ntmps11
  go_upto_region 1 with fail
  rw [HW.out]
  clear HW
  go_wp2_with (go_at_call 9; refine HCO.out.mono ?_; rintro e' w2 ⟨rfl, hb2⟩)
  go_ret2
  exact ⟨none, 0, rfl, .inl rfl, HB.out.trans (hb2.mono HB.out.size)⟩

set_option maxHeartbeats 4000000 in
theorem rof_ok (x : VState) (sl ix : Int) (w : World) (ho : OkState x) (hx : Lk w x) (h : ix < (cnt (acE x (sl / 4)).length : Int)) (i0 : 0 ≤ ix) (s0 : 0 ≤ sl) (s1 : sl < 18446744073709551616) (hC : Tab w 1 64 KW) :
    Calls Tryd.prog 11 #[.agg (cel (sState x)), .int .u64 sl, .int .u64 ix] w (OfA x sl ix w) := by
  obtain ⟨W0, hW0⟩ : ∃ W, w.alloc (.cells (cel (sState x)) 49) = W := ⟨_, rfl⟩
  have r0 : W0.heap[w.heap.size]? = some (.cells (cel (sState x)) 49) := by rw [← hW0]; exact heap_new rfl
  have hB0 : Below w.heap.size w W0 := by rw [← hW0]; exact (Below.refl _ _).alloc (Nat.le_refl _) _
  have z0 : w.heap.size < W0.heap.size := (Array.getElem?_eq_some_iff.1 r0).1
  have hld : ∀ W : World, Below W0.heap.size W0 W → (lvState ⟨w.heap.size, 0, none⟩).run Tryd.prog W = .ok (.agg (cel (sState x))) W := fun W h => lvState_run ((h.block _ z0).trans r0)
  have hx0 := hx.below hB0
  have hC0 := hC.below hB0
  have hco := rcount_any x (sl / 4) W0 hx0
  have hac : ∀ W, Below W0.heap.size W0 W → Calls Tryd.prog 21 #[.agg (cel (sState x)), .int .u64 (sl / 4)] W fun e' w' => ∃ a c, e' = .returned (.slice a (acE x (sl / 4)).length c) ∧ Nml w' a (acE x (sl / 4)) ∧ Below W.heap.size W w' := fun W h => ractives_any x (sl / 4) W (hx0.below h)
  have hse : ∀ W, Below W0.heap.size W0 W → Calls Tryd.prog 25 #[.agg (cel (sState x)), .int .u64 (sl / 4), .int .i64 1] W fun e' w' => e' = .returned (.agg (vs .u8 32 (seedV x (sl / 4) 1))) ∧ Below W.heap.size W w' := fun W h => rseed_any x (sl / 4) 1 W ho (by omega) (by omega) (hC0.below h)
  have hN : cmN (acE x (sl / 4)).length sl ix = cut (acE x (sl / 4)).length (pcK (acE x (sl / 4)).length sl ix + 1) - cut (acE x (sl / 4)).length (pcK (acE x (sl / 4)).length sl ix) := by unfold cmN; rw [if_pos h]
  have hE : cmE (acE x (sl / 4)).length ix = 0 := by unfold cmE; rw [if_pos h]
  have hF : ∀ j, cmF (acE x (sl / 4)) (seedV x (sl / 4) 1) sl ix j = (acE x (sl / 4)).getD (plV (seedV x (sl / 4) 1) (acE x (sl / 4)).length 6 ((cut (acE x (sl / 4)).length (pcK (acE x (sl / 4)).length sl ix) + j : Nat) : Int)).toNat 0 := fun j => rfl
  have hpl : ∀ (W : World) (i : Int), Below W0.heap.size W0 W → 0 ≤ i → i < ((acE x (sl / 4)).length : Int) → Calls Tryd.prog 26 #[.int .u64 i, .int .u64 ((acE x (sl / 4)).length : Nat), .agg (vs .u8 32 (seedV x (sl / 4) 1))] W fun e w' => e = .returned (.tuple #[.int .u64 (plV (seedV x (sl / 4) 1) (acE x (sl / 4)).length 6 i), .int .i64 0]) ∧ Below W.heap.size W w' := fun W i hW h0 h1 => rplace_ok _ i _ W (fun j _ => seedV_bd ..) h0 h1 (by have := acE_len (e := sl / 4) hx.nb; omega) (hC0.below hW)
  have hpb : ∀ i : Int, 0 ≤ i → i < ((acE x (sl / 4)).length : Int) → 0 ≤ plV (seedV x (sl / 4) 1) (acE x (sl / 4)).length 6 i ∧ plV (seedV x (sl / 4) 1) (acE x (sl / 4)).length 6 i < (acE x (sl / 4)).length := fun i h0 h1 => plV_bd _ h0 h1 6
  have hlen := acE_len (e := sl / 4) hx.nb
  have hkb := pcK_lt (sl := sl) i0 h
  have hcl := cut_le (acE x (sl / 4)).length (k := pcK (acE x (sl / 4)).length sl ix + 1) (by omega)
  have hcm := cut_mono (acE x (sl / 4)).length (j := pcK (acE x (sl / 4)).length sl ix) (k := pcK (acE x (sl / 4)).length sl ix + 1) (by omega)
  have hk : pcK (acE x (sl / 4)).length sl ix = (sl % 4).toNat * cnt (acE x (sl / 4)).length + ix.toNat := rfl
  have hlo : cut (acE x (sl / 4)).length (pcK (acE x (sl / 4)).length sl ix) = (acE x (sl / 4)).length * pcK (acE x (sl / 4)).length sl ix / (4 * cnt (acE x (sl / 4)).length) := rfl
  have hhi : cut (acE x (sl / 4)).length (pcK (acE x (sl / 4)).length sl ix + 1) = (acE x (sl / 4)).length * (pcK (acE x (sl / 4)).length sl ix + 1) / (4 * cnt (acE x (sl / 4)).length) := rfl
  have hc := cnt_bd (acE x (sl / 4)).length
  unfold OfA
  rw [hN, hE]
  generalize cmF (acE x (sl / 4)) (seedV x (sl / 4) 1) sl ix = F at *
  generalize seedV x (sl / 4) 1 = SD at *
  obtain ⟨E, eE⟩ : ∃ E, sl / 4 = E := ⟨_, rfl⟩
  rw [eE] at hco hac hse hN hE hF hpl hpb hlen hkb hcl hcm hk hlo hhi hc h ⊢
  generalize acE x E = L at *
  have hel : ∀ (W : World) a, Nml W a L → N64 W a L.length (fun j => L.getD j 0) := fun W a h => h
  obtain ⟨n, hn⟩ : ∃ n, L.length = n := ⟨_, rfl⟩
  rw [hn] at hco hac hN hE hF hpl hpb hlen hkb hcl hcm hk hlo hhi hc h hel ⊢
  generalize cnt n = C at *
  generalize pcK n sl ix = K at *
  generalize cut n (K + 1) = hi at *
  generalize cut n K = lo at *
  have fT : 0 ≤ sl % 4 ∧ sl % 4 ≤ 3 := by omega
  have fL : (n : Int) * (K : Int) / ((C : Int) * 4) = (lo : Int) := by rw [hlo, Int.natCast_ediv, Int.natCast_mul, Int.natCast_mul, Int.mul_comm (C : Int)]; rfl
  have fH : (n : Int) * ((K : Int) + 1) / ((C : Int) * 4) = (hi : Int) := by rw [hhi, Int.natCast_ediv, Int.natCast_mul, Int.natCast_mul, Int.mul_comm (C : Int)]; rfl
  have fM : n * K ≤ 65536 * 8 := Nat.mul_le_mul hlen (by omega)
  have fM2 : n * (K + 1) ≤ 65536 * 8 := Nat.mul_le_mul hlen (by omega)
  have fm : (n : Int) * (K : Int) = ((n * K : Nat) : Int) := by rw [Int.natCast_mul]
  have fm2 : (n : Int) * ((K : Int) + 1) = ((n * (K + 1) : Nat) : Int) := by rw [Int.natCast_mul]; rfl
  have fU : sl % 4 * (C : Int) + ix = (K : Int) ∧ 0 ≤ sl % 4 * (C : Int) ∧ sl % 4 * (C : Int) ≤ 6 := by
    obtain rfl | rfl : C = 1 ∨ C = 2 := by omega
    all_goals omega
  obtain ⟨T, eT⟩ : ∃ T, sl % 4 = T := ⟨_, rfl⟩
  rw [eT] at fT fU
  obtain ⟨k, ek⟩ : ∃ k, (K : Int) = k := ⟨_, rfl⟩
  rw [ek] at fL fH fm fm2 fU
  obtain ⟨c, ec⟩ : ∃ c, (C : Int) = c := ⟨_, rfl⟩
  rw [ec] at fL fH fU hco h
  have cb : 1 ≤ c ∧ c ≤ 2 := by omega
  obtain ⟨U, eU⟩ : ∃ U, T * c = U := ⟨_, rfl⟩
  rw [eU] at fU
  obtain ⟨S, eS⟩ : ∃ S, c * 4 = S := ⟨_, rfl⟩
  rw [eS] at fL fH
  have sb : 4 ≤ S ∧ S ≤ 8 := by omega
  obtain ⟨M, eM⟩ : ∃ M, (n : Int) * k = M := ⟨_, rfl⟩
  rw [eM] at fL fm
  obtain ⟨N, eN⟩ : ∃ N, (n : Int) * (k + 1) = N := ⟨_, rfl⟩
  rw [eN] at fH fm2
  have mb : 0 ≤ M ∧ M ≤ 524288 := by omega
  have nb : 0 ≤ N ∧ N ≤ 524288 := by omega
  have kb : 0 ≤ k ∧ k ≤ 7 := by omega
  obtain ⟨U1, U2, U3⟩ := fU
  obtain ⟨T1, T2⟩ := fT
  obtain ⟨m1, m2⟩ := mb
  obtain ⟨n1, n2⟩ := nb
  obtain ⟨k1, k2⟩ := kb
  obtain ⟨c1, c2⟩ := cb
  obtain ⟨S1, S2⟩ := sb
  have nw : IntKind.u64.wrap (n : Int) = (n : Int) := by rw [IntKind.wrap_u64]; omega
  have lw : IntKind.u64.wrap (lo : Int) = (lo : Int) := by rw [IntKind.wrap_u64]; omega
  have hw' : IntKind.u64.wrap (hi : Int) = (hi : Int) := by rw [IntKind.wrap_u64]; omega
  have hFa : ∀ j, j < hi - lo → ∃ q : Nat, plV SD n 6 ((lo + j : Nat) : Int) = (q : Int) ∧ q < n ∧ L.getD q 0 = F j := fun j hj => by
    obtain ⟨b0, b1⟩ := hpb ((lo + j : Nat) : Int) (by omega) (by omega)
    exact ⟨(plV SD n 6 ((lo + j : Nat) : Int)).toNat, by omega, by omega, (hF j).symm⟩
  have v24 := fun W => sv24_newv W (fun _ => 0) SD
  have zr := zero_root
  have l0 := hld W0 (Below.refl _ _)
  have HF := hid hFa
  have HPL := hid hpl
  have HLD := hid hld
  have HCO := hid hco
  have HAC := hid hac
  have HSE := hid hse
  have HB0 := hid hB0
  have HW0 := hid hW0
  have HEL := hid hel
  have HLE := hid hcl
  have HLO := hid hcm
  have NB := hid hlen
  clear hFa hpl hld hco hac hse hB0 hW0 hel hcl hcm hF hpb hk hlo hhi hkb hC hC0 hx hx0 ho r0 fM fM2 fm fm2 ek ec hc hN hE hn hlen
  go_enter Tryd.func11, Tryd.ntmps11
  go_upto_region 1 with fail
  rw [HW0.out]
  clear HW0
  go_upto_region 5 with (go_at_call 9; refine HCO.out.mono ?_; rintro e' w2 ⟨rfl, hb2⟩)
  have l2 := HLD.out w2 hb2
  have HB2 := hid hb2
  clear l0 hb2
  go_upto_region 7 with (go_at_call 21; refine (HAC.out w2 HB2.out).mono ?_; rintro e' w3 ⟨a3, c3, rfl, hn3, hb3⟩)
  have hB3 := HB2.out.trans (hb3.mono HB2.out.size)
  have l3 := HLD.out w3 hB3
  have hL3 := HEL.out w3 a3 hn3
  have HB3 := hid hB3
  have HL3 := hid hL3
  clear l2 hb3 hn3 hB3 hL3 HB2 HEL
  go_upto_region 8 with (go_at_call 25; refine (HSE.out w3 HB3.out).mono ?_; rintro e' w4 ⟨rfl, hb4⟩)
  obtain ⟨W5, hW5⟩ : ∃ W, w4.alloc (.cells (vs .u8 32 SD) 24) = W := ⟨_, rfl⟩
  rw [hW5]
  have r5 : W5.heap[w4.heap.size]? = some (.cells (vs .u8 32 SD) 24) := by rw [← hW5]; exact heap_new rfl
  have hE5 : Below w4.heap.size w4 W5 := by rw [← hW5]; exact (Below.refl _ _).alloc (Nat.le_refl _) _
  have hB4 := HB3.out.trans (hb4.mono HB3.out.size)
  have hB5 := hB4.trans (hE5.mono hB4.size)
  have hL5 := (HL3.out.below hb4).below hE5
  obtain ⟨y, ey⟩ : ∃ y, w4.heap.size = y := ⟨_, rfl⟩
  rw [ey] at r5 ⊢
  have z5 : y < W5.heap.size := (Array.getElem?_eq_some_iff.1 r5).1
  have hl5 : ∀ W : World, Below W5.heap.size W5 W → (lv24 ⟨y, 0, none⟩).run Tryd.prog W = .ok (.agg (vs .u8 32 SD)) W := fun W h => lv24_run ((h.block _ z5).trans r5)
  have HL5 := hid hl5
  have HA5 := hid hL5
  have HB5 := hid hB5
  clear l3 hW5 r5 hE5 hB4 hB5 hL5 ey z5 hl5 hb4 HB3 HL3 v24 zr
  go_wp2
  have FL := hid fL
  clear eT eE eU eS eM fL U1
  go_loopw [15, 16] (fun v i wr => ∃ (j : Nat) (v' : Value), j ≤ hi - lo ∧ v = v' ∧ i = .int .u64 ((lo : Int) + (j : Int)) ∧ wr.ownsRow W5.heap.size 22 1 v' j (ul F j) ∧ Below W5.heap.size W5 wr) (fun _ i _ => hi - (intOf i).toNat)
  case atStart => exact ⟨0, _, by omega, rfl, by rw [FL.out]; go_num, World.ownsRow_nil _ _ _ _, Below.refl _ _⟩
  case round =>
    obtain ⟨j, v, hj, ev, rfl, ho, hw⟩ := hrel
    obtain rfl := ev.symm
    clear ev
    have b1 := HLE.out
    have b2 := HLO.out
    have b3 := NB.out
    by_cases hjn : j < hi - lo
    · obtain ⟨q, eq1, hq, hfq⟩ := HF.out j hjn
      have hp := HPL.out wr ((lo : Int) + (j : Int)) (HB5.out.trans (hw.mono HB5.out.size)) (by omega) (by omega)
      rw [show ((lo + j : Nat) : Int) = (lo : Int) + (j : Int) by omega] at eq1
      rw [eq1] at hp
      have j1 : (lo : Int) + (j : Int) < (hi : Int) := by omega
      have q1 : (q : Int) < (n : Int) := by omega
      have q2 : (0 : Int) ≤ (q : Int) := by omega
      have jw : IntKind.u64.wrap ((lo : Int) + (j : Int) + 1) = (lo : Int) + (j : Int) + 1 := by rw [IntKind.wrap_u64]; omega
      rcases HA5.out with h0 | ⟨b, off, ea, hb, hc⟩
      · omega
      subst ea
      have l5 := HL5.out wr hw
      obtain ⟨I, eI⟩ : ∃ I, (lo : Int) + (j : Int) = I := ⟨_, rfl⟩
      rw [eI] at hp j1 jw ⊢
      have HI := hid eI
      have HP1 := hid hp
      have HO := hid ho
      have HW := hid hw
      have HFQ := hid hfq
      have HCC := hid (And.intro hb hc)
      have HJ := hid (And.intro hj hjn)
      clear hp ho hw hfq hb hc eq1 eI b1 b2 b3 hj hjn
      go_upto_region 15 with (go_at_call 26; refine HP1.out.mono ?_; rintro e w1 ⟨rfl, hb1⟩)
      have hB1 := HW.out.trans (hb1.mono HW.out.size)
      have c1 : w1.cell? ⟨b, off + q, none⟩ = some (.int .u64 (L.getD q 0)) := (below_cell hB1 HCC.out.1).trans (HCC.out.2 q hq)
      have ho1 : w1.ownsRow W5.heap.size 22 1 v j (ul F j) := own_below HO.out hb1
      have HO1 := hid ho1
      have HB1 := hid hB1
      clear ho1 hB1 hb1 HO HCC l5
      go_wp2_with (at_builtin; (refine wpList_append_n64 w1 rfl _ _ rfl W5.heap.size v j F (L.getD q 0) rfl HO1.out rfl HFQ.out (by have := HJ.out; have := HLE.out; have := NB.out; omega) HB1.out.size ?_); intro g2 C2 w2 ho2 hg2)
      have hb2 := below_grown HB1.out HO1.out HB1.out.size hg2
      have hJ := HJ.out
      have hI := HI.out
      go_roundw
      case rel => exact ⟨j + 1, _, by omega, rfl, by rw [← hI]; go_num, ho2, hb2⟩
      case measure => simp [intOf]; omega
    · obtain rfl : j = hi - lo := by omega
      have e1 : (lo : Int) + ((hi - lo : Nat) : Int) = (hi : Int) := by omega
      rw [e1]
      have HW := hid hw
      have HO := hid ho
      clear hw ho e1
      go_wp2
      obtain ⟨a', C', rfl, _, _, hn⟩ := own_n64 HO.out
      go_ret2
      exact ⟨a', C', rfl, hn, HB0.out.trans ((HB5.out.trans (HW.out.mono HB5.out.size)).mono HB0.out.size)⟩

theorem rof_any (x : VState) (sl ix : Int) (w : World) (ho : OkState x) (hx : Lk w x) (i0 : 0 ≤ ix) (s0 : 0 ≤ sl) (s1 : sl < 18446744073709551616) (hC : Tab w 1 64 KW) :
    Calls Tryd.prog 11 #[.agg (cel (sState x)), .int .u64 sl, .int .u64 ix] w (OfA x sl ix w) := by
  by_cases h : ix < (cnt (acE x (sl / 4)).length : Int)
  · exact rof_ok x sl ix w ho hx h i0 s0 s1 hC
  · exact rof_no x sl ix w hx (by omega) s0 s1

end Go.Proofs.YtenhgoclfljjlaaDoor
