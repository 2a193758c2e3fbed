/-
  The statements' own awake.
-/

import Derived.Test.YtmapeodhcllimaaDoorJnI
namespace Go.Proofs.YtmapeodhcllimaaDoor

open Go.RowKit

set_option linter.unusedVariables false

set_option linter.unusedSimpArgs false

set_option maxRecDepth 20000

theorem dA_put : (cel (sDeposit oDeposit)).setIfInBounds 304 (.int .u64 33000000000) = cel (sDeposit dA) := by kernel_rfl

theorem dA_304 : (cel (sDeposit oDeposit))[304]? = some (.int .u64 0) := by kernel_rfl

theorem lvDe_run {w : World} {b : Nat} {x : VDeposit} {t : TypeId} (h : w.heap[b]? = some (.cells (cel (sDeposit x)) t)) : (lvDeposit ⟨b, 0, none⟩).run Tryd.prog w = .ok (.agg (cel (sDeposit x))) w :=
  loadAt_var (load_row h 56 _ Tryd.underlying56 rfl (by rw [cel_size, show slen (sDeposit x) = 401 from rfl]; kernel_rfl))

theorem ef_dA : (nvV dA.f1).f2 = 32000000000 := by
  show min 32000000000 ((33000000000 : Int) - 33000000000 % 1000000000) = 32000000000
  decide

/-- What Deposit and Exit answer there. -/
theorem jd_awake (w : World) (hS : Sh w) : ∃ x : VState, rtS oState dA = x ∧ (∀ W, Up w W → Calls Tryd.prog 7 #[.agg (cel (sState x)), .agg (cel (sDeposit dA)), .slice none 0 0] W fun e' w' => ∃ (X : VState) (a : Option Addr) (c b off C : Nat), e' = .returned (.tuple #[.agg (cel (sState X)), .slice a 1 c, .int .i64 0]) ∧ X.f11.a = some ⟨b, off, none⟩ ∧ X.f11.n = 1 ∧ X.f11.c = C ∧ b < w'.heap.size ∧ w'.cell? ⟨b, off + 80, none⟩ = some (.int .u64 32000000000) ∧ Below W.heap.size W w') ∧
    ∀ W, Up w W → Calls Tryd.prog 8 #[.agg (cel (sState x)), .agg (cel (sSignedExit oSignedExit)), .slice none 0 0] W fun e' w' => ∃ (X : VState) (a : Option Addr) (c : Nat), e' = .returned (.tuple #[.agg (cel (sState X)), .slice a 0 c, .int .i64 27]) ∧ Below W.heap.size W w' := by
  have hjk := jd_xA (fun _ => 0)
  obtain ⟨r, er⟩ : ∃ r, upV (hDepositData dA.f1) dA.f0.f0 oState.f10.toNat 7 = r := ⟨_, rfl⟩
  have hrb : ∀ j, j < 32 → 0 ≤ r j ∧ r j < 256 := fun j hj => by rw [← er]; exact jn_bd ok_dA j hj
  have ex : rtS oState dA = xA r := by show rtR oState _ = rtR oState r; rw [er]
  rw [ex] at hjk ⊢
  have hox : OkState (xA r) := ok_rt ok_z15 hrb
  refine ⟨_, rfl, fun W h => ?_, fun W h => ?_⟩
  · obtain ⟨h1, h2, r', h3⟩ := hjk
    refine (jdep_prog (xA r) dA none 0 0 (fun _ => 0) W hox (inw_rt (inwO W) _) (nil_rt nilO _) (lns_rt lns_z _) ok_dA (.inl ⟨rfl, rfl, rfl⟩) (by omega) (hS.below h)).mono ?_
    rintro e' w' ⟨X, a, c, he, hres, _, _, hb⟩
    rw [h1, h2] at he
    rw [h3] at hres
    have hn : X.f11.n = 1 := hres.sim.l11
    have hz : X.f11.z 0 = nvV dA.f1 := by
      rw [hres.sim.z11]
      show vnZ (upS (xA r')).f11.z (upS (xA r')).f11.n (nvV dA.f1) (upS (xA r')).f11.n = _
      exact vn_top _ _ _
    rcases hres.inw.i11 with h0 | ⟨b, off, ea, hbl, hc⟩
    · omega
    have h80 := val_e2 (hc 0 (by omega))
    rw [hz, ef_dA] at h80
    exact ⟨X, a, c, b, off, X.f11.c, he, ea, hn, rfl, hbl, h80, hb⟩
  · obtain ⟨h1, h2⟩ := ex_xA r (fun _ => 0)
    refine (exit_prog (xA r) oSignedExit none 0 0 (fun _ => 0) W hox (inw_rt (inwO W) _) (nil_rt nilO _) (lns_rt lns_z _) ⟨⟨by show (0 : Int) ≤ 0 ∧ (0 : Int) < 18446744073709551616; omega, by show (0 : Int) ≤ 0 ∧ (0 : Int) < 18446744073709551616; omega⟩, fun _ _ => by show (0 : Int) ≤ 0 ∧ (0 : Int) < 256; omega⟩ (.inl ⟨rfl, rfl, rfl⟩) (by omega) (hS.below h)).mono ?_
    rintro e' w' ⟨X, a, c, he, _, _, _, hb⟩
    rw [h1, h2] at he
    exact ⟨X, a, c, he, hb⟩

attribute [local go_sem ↓] lvState_eq svState_eq bdState_eq lvDeposit_eq bdSignedExit_eq ixValidator_eq

set_option maxHeartbeats 8000000 in
theorem awake20 (w : World) (hS : Sh w) (hC : Rc w) :
    Calls Tryd.prog 5 #[] w fun e' w' => e' = .returned (.bool true) ∧ Below w.heap.size w w' := by
  obtain ⟨W0, hW0⟩ : ∃ W, w.alloc (.cells (cel (sDeposit oDeposit)) 56) = W := ⟨_, rfl⟩
  have r0 : W0.heap[w.heap.size]? = some (.cells (cel (sDeposit oDeposit)) 56) := by rw [← hW0]; exact heap_new rfl
  have hB0 : Up w W0 := by rw [← hW0]; exact (Below.refl _ _).alloc (Nat.le_refl _) _
  have hc304 : W0.cell? ⟨w.heap.size, 304, none⟩ = some (.int .u64 0) := (row_cell r0 (i := 304)).trans dA_304
  have fz := row_frozen r0 304
  obtain ⟨W1, hW1⟩ : ∃ W, W0.setCell ⟨w.heap.size, 304, none⟩ (.int .u64 33000000000) = W := ⟨_, rfl⟩
  have r1 : W1.heap[w.heap.size]? = some (.cells (cel (sDeposit dA)) 56) := by rw [← hW1]; exact (row_set r0 304 _).trans (congrArg (fun c => some (Obj.cells c 56)) dA_put)
  have hB1 : Up w W1 := by rw [← hW1]; exact hB0.trans (((Kept.refl w.heap.size W0).setCell 304 (.int .u64 33000000000)).below (B := w.heap.size) (Nat.le_refl _) hB0.size)
  obtain ⟨x, ex, hjd, hxx⟩ := jd_awake w hS
  have hro := rooted_any oState dA W1 ok_z15 ok_dA (hC.below hB1)
  rw [ex] at hro
  have b0 := bdState_0
  have b1 := bdSignedExit_0
  have z := zeroState
  have zd := zeroDeposit
  have ld1 := lvDe_run r1
  obtain ⟨xo, exo⟩ : ∃ s, oState = s := ⟨_, rfl⟩
  rw [exo] at b0 z hro
  obtain ⟨so, eso⟩ : ∃ s, oSignedExit = s := ⟨_, rfl⟩
  rw [eso] at b1
  simp only [eso] at hxx
  obtain ⟨dd, edd⟩ : ∃ s, dA = s := ⟨_, rfl⟩
  rw [edd] at hro ld1 r1
  simp only [edd] at hjd
  have HB := hid hB1
  have HRO := hid hro
  have HJD := hid hjd
  have HEX := hid hxx
  have R1 := hid r1
  clear hB0 hB1 hro hjd hxx hS hC r0 r1 exo eso edd ex
  go_enter Tryd.func5, Tryd.ntmps5
  go_upto_region 3 with fail
  clear hW0 hc304 fz zd
  go_upto_region 4 with (go_at_call 6; refine HRO.out.mono ?_; rintro e' w1 ⟨rfl, hb1⟩; have sv := svState_newv w1 xo x)
  obtain ⟨W2, y2, hW2, ey2, r2, hd2, _⟩ := upN2 hb1 (.cells (cel (sState x)) 49)
  rw [hW2, ey2]
  have hu2 := upT hb1 hd2
  have ld2 := lvDe_run (upR hu2 R1.out)
  have lx2 := lvState_run r2
  have R2 := hid r2
  have HU2 := hid (upT HB.out hu2)
  have HJ2 := hid (HJD.out W2 (upT HB.out hu2))
  clear hW2 ey2 r2 hd2 hb1 hu2 sv HRO HJD ld1 hW1 R1
  go_upto_region 5 with (go_at_call 7; refine HJ2.out.mono ?_; rintro e' w3 ⟨X, a3, c3, b, off, C, rfl, ea, en, ec, hbl, h80, hb3⟩; have sv := svState_newv w3 xo X)
  obtain ⟨W4, y4, hW4, ey4, r4, hd4, _⟩ := upN2 hb3 (.cells (cel (sState X)) 49)
  rw [hW4, ey4]
  have hu4 := upT hb3 hd4
  have lx4 := lvState_run (upR hu4 R2.out)
  have HU4 := hid (upT HU2.out hu4)
  have HE4 := hid (HEX.out W4 (upT HU2.out hu4))
  have c11 : ∀ V, Up W4 V → V.cell? ⟨y4, 721, none⟩ = some (.slice (some ⟨b, off, none⟩) 1 C) := fun V h => by
    have := cS11 (upR h r4)
    rw [ea, en, ec] at this
    exact this
  have c80 : ∀ V, Up W4 V → V.cell? ⟨b, off + 80, none⟩ = some (.int .u64 32000000000) := fun V h => (below_cell (upT hd4 h) hbl).trans h80
  have HC11 := hid c11
  have HC80 := hid c80
  have hix : ∀ V : World, (ixValidator (.slice (some ⟨b, off, none⟩) 1 C) (.int .i64 0)).run Tryd.prog V = .ok (.pointer (some ⟨b, off, none⟩)) V := fun V => ixValidator_run V b off 1 C 0 (by omega)
  have HIX := hid hix
  clear hW4 ey4 r4 hd4 hb3 hu4 sv HJ2 lx2 ld2 ea en ec hbl h80 c11 c80 hix R2
  go_upto_region 6 with (go_at_call 8; refine HE4.out.mono ?_; rintro e' w5 ⟨X5, a5, c5, rfl, hb5⟩; have sv := svState_newv w5 xo X5)
  obtain ⟨W6, y6, hW6, ey6, r6, hd6, _⟩ := upN2 hb5 (.cells (cel (sState X5)) 49)
  rw [hW6, ey6]
  have hu6 := upT hb5 hd6
  have c11 := HC11.out W6 hu6
  have c80 := HC80.out W6 hu6
  have ix := HIX.out
  have HU6 := hid (upT HU4.out hu6)
  clear hW6 ey6 r6 hd6 hb5 hu6 sv HE4 lx4
  go_wp2
  go_ret
  exact ⟨rfl, HU6.out⟩

end Go.Proofs.YtmapeodhcllimaaDoor
