/-
 What the program's Randao answers.
-/
import Derived.Test.YtopnhpllidegnaaGreatDoorHdP
import Derived.Test.YtopnhpllidegnaaGreatDoorSgP
import Derived.Test.YtopnhpllidegnaaGreatDoorPkS
import Derived.Test.YtopnhpllidegnaaGreatDoorQM
namespace Go.Proofs.YtopnhpllidegnaaGreatDoor
open Go.RowKit
set_option linter.unusedVariables false
set_option linter.unusedSimpArgs false
set_option maxRecDepth 20000
theorem epo_any (x : VState) (w : World) (h0 : 0 ≤ x.f2) (h1 : x.f2 < 1099511627776) :
    Calls Tryz.prog 21 #[.agg (cel (sState x))] w fun e' w' => e' = .returned (.int .u64 (x.f2 / 4)) ∧ Below w.heap.size w w' := by
 obtain ⟨W0, hW0⟩ : ∃ W, w.alloc (.cells (cel (sState x)) 49) = W := ⟨_, rfl⟩
 have r0 : W0.heap[w.heap.size]? = some (.cells (cel (sState x)) 49) := by rw [← hW0]; exact heap_new rfl
 have hB0 : Below w.heap.size w W0 := by rw [← hW0]; exact (Below.refl _ _).alloc (Nat.le_refl _) _
 have l2 := cS2 r0
 generalize x.f2 = p at *
 have HB := hid hB0
 have HW := hid hW0
 clear hB0 hW0 r0
 go_enter Tryz.func21, Tryz.ntmps21
 go_upto_region 1 with fail
 rw [HW.out]
 clear HW
 go_wp2
 go_ret
 exact ⟨ret_int rfl, HB.out⟩
def ixv (x i : Value) : Sem Value := Instr.index 24 x i
theorem ixv_eq (x i : Value) : Instr.index 24 x i = ixv x i := rfl
theorem ixv_run (W : World) (f : Nat → Int) (k : Nat) (hk : k < 32) : (ixv (.agg (vs .u8 32 f)) (.int .i64 k)).run Tryz.prog W = .ok (.int .u8 (f k)) W := by
 have h1 : (0 : Int) ≤ (k : Int) ∧ (k : Int) < ((32 : Nat) : Int) := by omega
 have hc : (vs .u8 32 f)[k * 1]? = some (.int .u8 (f k)) := by rw [Nat.mul_one]; exact vs_get .u8 32 f k hk
 have hs : (sizeOf 5).run Tryz.prog W = .ok 1 W := by kernel_rfl
 have hp : (part 5 (vs .u8 32 f) (k * 1)).run Tryz.prog W = .ok (.int .u8 (f k)) W := run_part_plain W (by kernel_rfl) hc
 unfold ixv Instr.index
 simp only [asIntOf, Sem.run_bind, Sem.run_pure, Result.andThen_ok, run_underlying Tryz.underlying24, if_pos h1, hs, Int.toNat_natCast, hp]
theorem pk_step (n : Int) (k : Nat) : (fun j => if j = k then nmB n k else pk (nmB n) k j) = pk (nmB n) (k + 1) := funext fun j => by
 unfold pk
 by_cases h : j = k
 ·subst h; rw [if_pos rfl, if_pos (by omega)]
 ·rw [if_neg h]
  by_cases h2 : j < k
  ·rw [if_pos h2, if_pos (by omega)]
  ·rw [if_neg h2, if_neg (by omega)]
theorem wrap_nm (n : Int) (k : Nat) : IntKind.u8.wrap (n / 2 ^ (8 * k)) = nmB n k := by
 rw [IntKind.wrap_u8]
 rfl
attribute [local go_sem ↓] lvState_eq svState_eq bdState_eq sv24_eq lv24_eq ixv_eq bs22_eq bsK_eq lvSg_eq lvKy_eq ixValidator_eq
set_option maxHeartbeats 2000000 in
theorem num_any (n : Int) (w : World) (h0 : 0 ≤ n) (h1 : n < 18446744073709551616) :
    Calls Tryz.prog 46 #[.int .u64 n] w fun e' w' => e' = .returned (.agg (vs .u8 32 (nuR n))) ∧ Below w.heap.size w w' := by
 obtain ⟨W0, hW0⟩ : ∃ W, (w.alloc (.cells (vs .u8 32 fun _ => 0) 24)).alloc (.cells (vs .u8 32 fun _ => 0) 24) = W := ⟨_, rfl⟩
 have r0 : W0.heap[w.heap.size]? = some (.cells (vs .u8 32 fun _ => 0) 24) := by rw [← hW0]; exact (heap_old (by simp)).trans (heap_new rfl)
 have r1 : W0.heap[w.heap.size + 1]? = some (.cells (vs .u8 32 fun _ => 0) 24) := by rw [← hW0]; exact heap_new (by simp)
 have hB0 : Up w W0 := by rw [← hW0]; exact ((Below.refl _ _).alloc (Nat.le_refl _) _).alloc (by simp) _
 have zr := zero_root
 have e0 : (fun _ => (0 : Int)) = pk (nmB n) 0 := funext fun j => by unfold pk; rw [if_neg (by omega)]
 have R0 := hid r0
 rw [e0] at r1
 have R1 := hid r1
 have HB := hid hB0
 have HW := hid hW0
 clear r0 r1 hB0 hW0 e0
 go_enter Tryz.func46, Tryz.ntmps46
 go_upto_region 2 with fail
 rw [HW.out]
 clear HW zr
 go_wp2
 go_loopw [5] (fun i wr => ∃ k : Nat, k ≤ 8 ∧ i = .int .i64 k ∧ wr.heap[w.heap.size]? = some (.cells (vs .u8 32 fun _ => 0) 24) ∧ wr.heap[w.heap.size + 1]? = some (.cells (vs .u8 32 (pk (nmB n) k)) 24) ∧ Up w wr) (fun i _ => 8 - (intOf i).toNat)
 case atStart => exact ⟨0, by omega, rfl, R0.out, R1.out, HB.out⟩
 case round =>
  clear R0 R1 HB
  obtain ⟨k, hk, rfl, q0, q1, hup⟩ := hrel
  by_cases hlt : k < 8
  ·have k1 : (k : Int) < 8 := by omega
   have k2 : IntKind.i64.wrap ((k : Int) + 1) = (k : Int) + 1 := by rw [IntKind.wrap_i64]; omega
   have k3 : IntKind.i64.wrap (8 * (k : Int)) = 8 * (k : Int) := by rw [IntKind.wrap_i64]; omega
   have k4 : (8 * (k : Int)).toNat = 8 * k := by omega
   have k5 : ¬ 8 * (k : Int) < 0 := by omega
   have k6 : (0 : Int) ≤ 8 * (k : Int) := by omega
   have k7 : 8 * (k : Int) < 64 := by omega
   have k8 := wrap_nm n k
   have k9 : (k : Int) < 32 := by omega
   have kz : (0 : Int) ≤ (k : Int) := by omega
   have cz := row_int q1 k (by omega)
   have fz := row_frozen q1 k
   have p1 : (wr.setCell ⟨w.heap.size + 1, k, none⟩ (.int .u8 (nmB n k))).heap[w.heap.size + 1]? = some (.cells (vs .u8 32 (pk (nmB n) (k + 1))) 24) := by
    rw [row_set q1 k _, vs_set, pk_step]
   have p0 : (wr.setCell ⟨w.heap.size + 1, k, none⟩ (.int .u8 (nmB n k))).heap[w.heap.size]? = some (.cells (vs .u8 32 fun _ => 0) 24) := (heap_set_other (by omega)).trans q0
   have pu : Up w (wr.setCell ⟨w.heap.size + 1, k, none⟩ (.int .u8 (nmB n k))) := hup.trans (((Kept.refl (w.heap.size + 1) wr).setCell k _).below (by omega) hup.size)
   have P0 := hid p0
   have P1 := hid p1
   have PU := hid pu
   clear p0 p1 pu q0 q1 hup
   go_wp2
   go_roundw
   case rel => exact ⟨k + 1, by omega, by go_num, P0.out, P1.out, PU.out⟩
   case measure => simp [intOf]; omega
  ·obtain rfl : k = 8 := by omega
   have kN : ¬ ((8 : Nat) : Int) < 8 := by omega
   have ld := lv24_run q1
   have v3 := sv24_run q0 (pk (nmB n) 8)
   have Q0 := hid q0
   have HUP := hid hup
   clear q0 q1 hup
   go_wp2
   exact ret24 2 w.heap.size (nuR n) 24 rfl rfl rfl (setRow_at Q0.out) ⟨rfl, below_row HUP.out (Nat.le_refl _) _⟩
set_option maxHeartbeats 4000000 in
theorem mixin_any (X : VState) (f13 s : Nat → Int) (E y : Nat) (w V : World) (hy : w.heap.size ≤ y) (hb : BF w y V { X with f13 := f13 }) (hE : E < 8) (hs : ∀ j, j < 96 → 0 ≤ s j ∧ s j < 256) (hS : Sh V) :
    Calls Tryz.prog 20 #[.pointer (some ⟨y, 723 + E * 32, none⟩), .agg (vs .u8 96 s)] V fun e w' => e = .returned (.tuple #[]) ∧ BF w y w' { X with f13 := mxV f13 (shaV KW HW s 96) E 32 } ∧ Kept y V w' := by
 obtain ⟨W0, hW0⟩ : ∃ W, V.alloc (.cells (vs .u8 96 s) 51) = W := ⟨_, rfl⟩
 have r0 : W0.heap[V.heap.size]? = some (.cells (vs .u8 96 s) 51) := by rw [← hW0]; exact heap_new rfl
 have hB0 : Up V W0 := by rw [← hW0]; exact (Below.refl _ _).alloc (Nat.le_refl _) _
 have hsu : Calls Tryz.prog 55 #[.slice (some ⟨V.heap.size, 0, none⟩) 96 96] W0 fun e w' => e = .returned (.agg (vs .u8 32 (shaV KW HW s 96))) ∧ Below W0.heap.size W0 w' := sum_any KW HW s 96 96 V.heap.size 0 W0 (hS.below hB0).1 (hS.below hB0).2 HW_bd (fun j hj => by rw [Nat.zero_add]; exact row_int r0 j hj) hs (some_ltK r0) (by omega) (by omega) (by omega)
 obtain ⟨SH, eSH⟩ : ∃ S, shaV KW HW s 96 = S := ⟨_, rfl⟩
 rw [eSH] at hsu ⊢
 have v24 := fun W => sv24_newv W (fun _ => 0) SH
 have zr := zero_root
 have HSU := hid hsu
 have HW := hid hW0
 have HB := hid hB0
 have HBF := hid hb
 have HY := hid hy
 clear hsu hW0 hB0 r0 hb hy hS hs eSH
 go_enter Tryz.func20, Tryz.ntmps20
 go_upto_region 1 with fail
 rw [HW.out]
 clear HW
 go_upto_region 2 with (go_at_call 55; refine HSU.out.mono ?_; rintro e' w8 ⟨rfl, hb8⟩)
 obtain ⟨V1, yh, hV1, eyh, rh, hd8, _⟩ := upN2 hb8 (.cells (vs .u8 32 SH) 24)
 rw [hV1, eyh]
 have hu := upT HB.out (upT hb8 hd8)
 have ld := lv24_run rh
 have m0 : X = X := rfl
 have HB1 := hid (HBF.out.below hu)
 have HK1 : Hid (Kept y V V1) := Kept.ofBelow hu
 clear hV1 eyh rh hd8 hb8 HSU v24 zr hu m0 HBF HB
 go_wp2
 go_loopw [10] (fun i wr => ∃ k : Nat, k ≤ 32 ∧ i = .int .i64 k ∧ BF w y wr { X with f13 := mxV f13 SH E k } ∧ Kept y V wr) (fun i _ => 32 - (intOf i).toNat)
 case atStart => exact ⟨0, by omega, rfl, by rw [mx_zero]; exact HB1.out, HK1.out⟩
 case round =>
  clear HB1 HK1 ld
  obtain ⟨k, hk, rfl, hbf, hkp⟩ := hrel
  by_cases hlt : k < 32
  ·have k1 : (k : Int) < 32 := by omega
   have k2 : IntKind.i64.wrap ((k : Int) + 1) = (k : Int) + 1 := by rw [IntKind.wrap_i64]; omega
   have kz : (0 : Int) ≤ (k : Int) := by omega
   have c13 := mix_at hbf.row (32 * E + k) (by omega)
   have fz := row_frozen hbf.row (723 + (32 * E + k))
   have ix := fun W => ixv_run W SH k hlt
   have hst := mx_step f13 SH E k
   have hset := st_13 { X with f13 := mxV f13 SH E k } (32 * E + k) (by omega)
   have hat := mx_at f13 SH E k
   simp only [] at c13 hset
   rw [hat] at c13
   have ead : 723 + (32 * E + k) = 723 + E * 32 + k := by omega
   rw [ead] at c13 fz hset
   have HBB := hid hbf
   have HKK := hid hkp
   have HST := hid hst
   have HSET := hid hset
   clear hbf hkp hst hset hat ead
   generalize f13 (32 * E + k) = FJ at c13 HST
   generalize SH k = SK at ix HST
   go_upto_region 5 with fail
   go_region
   obtain ⟨VB, hVB⟩ : ∃ V, (wr.setCell ⟨y, 723 + E * 32 + k, none⟩ (.int .u8 (bits .xor .u8 FJ SK))).drew = V := ⟨_, rfl⟩
   rw [hVB]
   have hbg : BF w y VB { X with f13 := mxV f13 SH E (k + 1) } := by
    rw [← hVB, ← HST.out]
    exact (HBB.out.setY HY.out (723 + E * 32 + k) _ (HSET.out _) rfl rfl rfl rfl rfl rfl rfl).drew
   have hkg : Kept y V VB := by rw [← hVB]; exact (HKK.out.setCell _ _).drew
   have HBG := hid hbg
   have HKG := hid hkg
   clear hVB hbg hkg HBB HKK HST HSET c13 fz ix
   go_wp2
   go_roundw
   case rel => exact ⟨k + 1, by omega, by go_num, HBG.out, HKG.out⟩
   case measure => simp [intOf]; omega
  ·obtain rfl : k = 32 := by omega
   have kN : ¬ ((32 : Nat) : Int) < 32 := by omega
   have HBF := hid hbf
   have HKP := hid hkp
   clear hbf hkp
   go_wp2
   refine bodyPost_end (results_none rfl _ _ _) rfl ?_
   exact ⟨rfl, HBF.out, HKP.out⟩
set_option maxHeartbeats 8000000 in
theorem quest_any (x : VState) (V : Nat) (s : Nat → Int) (w : World) (hx : OkState x) (hw : InW w x) (hV : V < x.f11.n) (hs : ∀ j, j < 96 → 0 ≤ s j ∧ s j < 256) (f2b : x.f2 < 1099511627776) (hS : Sh w) :
    Calls Tryz.prog 17 #[.agg (cel (sState x)), .int .u64 (V : Int), .agg (vs .u8 96 s)] w fun e' w' => e' = .returned (.agg (vs .u8 32 (qsV (x.f11.z V).f0 1 (tw (nuR (x.f2 / 4)) (domV x 2 (x.f2 / 4))) s))) ∧ Below w.heap.size w w' := by
 obtain ⟨W0, hW0⟩ : ∃ W, ((w.alloc (.cells (cel (sState x)) 49)).alloc (.cells (vs .u8 96 s) 51)).alloc (.cells (vs .u8 32 fun _ => 0) 24) = W := ⟨_, rfl⟩
 have r0 : W0.heap[w.heap.size]? = some (.cells (cel (sState x)) 49) := by rw [← hW0]; exact (heap_old (by simp <;> omega)).trans ((heap_old (by simp)).trans (heap_new rfl))
 have r1 : W0.heap[w.heap.size + 1]? = some (.cells (vs .u8 96 s) 51) := by rw [← hW0]; exact (heap_old (by simp)).trans (heap_new (by simp))
 have r2 : W0.heap[w.heap.size + 2]? = some (.cells (vs .u8 32 fun _ => 0) 24) := by rw [← hW0]; exact heap_new (by simp)
 have hB0 : Up w W0 := by rw [← hW0]; exact (((Below.refl _ _).alloc (Nat.le_refl _) _).alloc (by simp) _).alloc (by simp <;> omega) _
 have f20 : 0 ≤ x.f2 := hx.o2.1
 have hep := fun (W : World) => epo_any x W f20 f2b
 have hnu := fun (W : World) (h : Up W0 W) => num_any (x.f2 / 4) W (by omega) (by omega)
 have hdo := fun (W : World) (h : Up W0 W) => dom_prog x 2 (x.f2 / 4) W hx (by omega) (by omega) (by omega) (by omega) (hS.below (upT hB0 h))
 have nub : ∀ j, j < 32 → 0 ≤ nuR (x.f2 / 4) j ∧ nuR (x.f2 / 4) j < 256 := fun j _ => pk_in (fun j _ => by unfold nmB; omega) j
 have hro := fun (W : World) (h : Up W0 W) => roo_prog (nuR (x.f2 / 4)) (domV x 2 (x.f2 / 4)) W nub (fun j _ => domB ..) (hS.below (upT hB0 h))
 have hqu : ∀ (W : World) y, Up W0 W → W.heap[y]? = some (.cells (vs .u8 48 (x.f11.z V).f0) 44) → Calls Tryz.prog 48 #[.slice (some ⟨y, 0, none⟩) 1 1, .agg (vs .u8 32 (tw (nuR (x.f2 / 4)) (domV x 2 (x.f2 / 4)))), .agg (vs .u8 96 s)] W fun e' w' => e' = .returned (.agg (vs .u8 32 (qsV (x.f11.z V).f0 1 (tw (nuR (x.f2 / 4)) (domV x 2 (x.f2 / 4))) s))) ∧ Below W.heap.size W w' := fun W y h hy => que_prog (some ⟨y, 0, none⟩) 1 1 (x.f11.z V).f0 _ s W (.inr (.inr ⟨y, 0, rfl, by omega, some_ltK hy, fun j hj => by rw [Nat.zero_add]; exact row_int hy j (by omega)⟩)) (fun j hj => (hx.o11 V hV).1 j (by omega)) (fun j _ => twB ..) hs (by omega) (hS.below (upT hB0 h))
 rcases hw.i11 with h' | ⟨b, off, ea, hbl, hrr⟩
 ·omega
 have hc11 : ∀ W, Kept (w.heap.size + 2) W0 W → W.cell? ⟨w.heap.size, 721, none⟩ = some (.slice (some ⟨b, off, none⟩) x.f11.n x.f11.c) := fun W h => by
  have := cS11 ((h.block _ (some_ltK r0) (by omega)).trans r0)
  rw [ea] at this
  exact this
 have hix := fun W => ixValidator_u W b off x.f11.n x.f11.c V hV
 have hlk2 : ∀ W, Kept (w.heap.size + 2) W0 W → (lvKy ⟨b, off + 86 * V, none⟩).run Tryz.prog W = .ok (.agg (vs .u8 48 (x.f11.z V).f0)) W := fun W h => lvKy_mid fun j hj => (h.cell (Nat.lt_of_lt_of_le hbl hB0.size) (by omega)).trans ((below_cell hB0 hbl).trans (val_key (hrr V hV) j hj))
 have hlx : ∀ W, Kept (w.heap.size + 2) W0 W → (lvState ⟨w.heap.size, 0, none⟩).run Tryz.prog W = .ok (.agg (cel (sState x))) W := fun W h => lvState_run ((h.block _ (some_ltK r0) (by omega)).trans r0)
 have hls : ∀ W, Kept (w.heap.size + 2) W0 W → (lvSg ⟨w.heap.size + 1, 0, none⟩).run Tryz.prog W = .ok (.agg (vs .u8 96 s)) W := fun W h => lvSgR ((h.block _ (some_ltK r1) (by omega)).trans r1)
 have z0 : w.heap.size + 2 < W0.heap.size := some_ltK r2
 generalize qsV (x.f11.z V).f0 1 (tw (nuR (x.f2 / 4)) (domV x 2 (x.f2 / 4))) s = QV at hqu ⊢
 generalize tw (nuR (x.f2 / 4)) (domV x 2 (x.f2 / 4)) = RT at hro hqu
 generalize domV x 2 (x.f2 / 4) = DM at hdo hro
 generalize nuR (x.f2 / 4) = NU at hnu hro
 generalize (x.f11.z V).f0 = KF at hqu hlk2
 generalize x.f11.c = C11 at hc11 hix
 generalize x.f11.n = N11 at hc11 hix hV
 generalize x.f2 / 4 = EP at hep hnu hdo
 generalize cel (sState x) = XC at hep hdo hlx hW0 ⊢
 have lx := hlx W0 (Kept.refl _ _)
 have z := zero_root
 have HEP := hid (hep W0)
 have HNU0 := hid hnu
 have HDO0 := hid hdo
 have HRO0 := hid hro
 have HQU0 := hid hqu
 have HC110 := hid hc11
 have HIX := hid hix
 have HLK0 := hid hlk2
 have HLX0 := hid hlx
 have HLS0 := hid hls
 have HB := hid hB0
 have HWo := hid hW0
 have RR := hid r2
 clear hep hnu hdo hro hqu hc11 hix hlk2 hlx hls hB0 hW0 r0 r1 r2 hx hw hs hS nub f20 f2b ea hbl hrr
 go_enter Tryz.func17, Tryz.ntmps17
 go_upto_region 1 with fail
 rw [HWo.out]
 clear HWo
 go_upto_region 2 with (go_at_call 21; refine HEP.out.mono ?_; rintro e' W4 ⟨rfl, hb4⟩)
 have HU4 := hid hb4
 clear hb4 lx HEP z
 have HNU := hid (fun W (h : Up W4 W) => HNU0.out W (upT HU4.out h))
 have HDO := hid (fun W (h : Up W4 W) => HDO0.out W (upT HU4.out h))
 have HRO := hid (fun W (h : Up W4 W) => HRO0.out W (upT HU4.out h))
 have HQU := hid (fun W y (h : Up W4 W) hy => HQU0.out W y (upT HU4.out h) hy)
 have HC11 := hid (fun W (h : Kept (w.heap.size + 2) W4 W) => HC110.out W ((Kept.ofBelow HU4.out).trans h))
 have HLK := hid (fun W (h : Kept (w.heap.size + 2) W4 W) => HLK0.out W ((Kept.ofBelow HU4.out).trans h))
 have HLX := hid (fun W (h : Up W4 W) => HLX0.out W (Kept.ofBelow (upT HU4.out h)))
 have HLS := hid (fun W (h : Kept (w.heap.size + 2) W4 W) => HLS0.out W ((Kept.ofBelow HU4.out).trans h))
 clear HNU0 HDO0 HRO0 HQU0 HC110 HLK0 HLX0 HLS0
 go_cut [8] from 16 (fun u wx => ∃ y, u = .pointer (some ⟨y, 0, none⟩) ∧ wx.heap[y]? = some (.cells (vs .u8 32 RT) 24) ∧ Up W4 wx ∧ W4.heap.size ≤ y)
 case first =>
  refine wp_region_noPanic ?_
  refine wp_region_held_drew (S := fun W => Up W4 W) (by kernel_rfl) ((Below.refl _ _).drew) (fun hHeld => ?_)
  generalize W4.drew = wd at hHeld ⊢
  refine tk 0 (v := ?v901) ?y901 hHeld ?r901
  case y901 => intro w hSw; go_simp; try with_reducible rfl
  refine tk 2 (v := ?v902) ?y902 hHeld ?r902
  case y902 => intro w hSw; have ld0 := HLX.out w hSw; go_simp; try with_reducible rfl
  refine tk 3 (v := ?v903) ?y903 hHeld ?r903
  case y903 => intro w hSw; go_simp; try with_reducible rfl
  try simp only [Act.put, z_1, z_2, z_3, z_4, z_5, z_6, z_7]
  refine sh1 (fuel' := ?f202) (listed' := ?l202) (act := ?a202) (fun (y15 : Nat) V => Up W4 V ∧ V.heap[y15]? = some (.cells (vs .u8 32 fun _ => 0) 24) ∧ W4.heap.size ≤ y15) (fun K202 => ?m202) ?t202
  case' m202 => skip
  refine sh1 (fuel' := ?f201) (listed' := ?l201) (act := ?a201) (fun (y15 : Nat) V => Up W4 V ∧ V.heap[y15]? = some (.cells (vs .u8 32 fun _ => 0) 24) ∧ W4.heap.size ≤ y15) (fun K201 => ?m201) ?t201
  case' m201 => skip
  refine sh1 (fuel' := ?f200) (listed' := ?l200) (act := ?a200) (fun (y15 : Nat) V => Up W4 V ∧ V.heap[y15]? = some (.cells (vs .u8 32 fun _ => 0) 24) ∧ W4.heap.size ≤ y15) (fun K200 => ?m200) ?t200
  case' m200 => skip
  refine rd2 1 6 (fun K hK => ?_) (fun K hK => ?_)
  ·go_simp
   refine (HNU.out _ (hHeld)).mono ?_
   rintro e' x301 ⟨rfl, hd301⟩
   dsimp only
   have hc301 := upT hHeld hd301
   refine hK.out _ _ hc301 (fun hHeld => ?_)
   clear hK K
   try simp only [Act.put, z_1, z_2, z_3, z_4, z_5, z_6, z_7]
   refine rd2 4 6 (fun K hK => ?_) (fun K hK => ?_)
   ·go_simp
    refine (HDO.out _ (hc301)).mono ?_
    rintro e' x302 ⟨rfl, hd302⟩
    dsimp only
    have hc302 := upT hc301 hd302
    refine hK.out _ _ hc302 (fun hHeld => ?_)
    clear hK K
    try simp only [Act.put, z_1, z_2, z_3, z_4, z_5, z_6, z_7]
    refine rd2 5 6 (fun K hK => ?_) (fun K hK => ?_)
    ·go_simp
     refine (HRO.out _ (hc302)).mono ?_
     rintro e' x303 ⟨rfl, hd303⟩
     dsimp only
     have hc303 := upT hc302 hd303
     refine hK.out _ _ hc303 (fun hHeld => ?_)
     clear hK K
     try simp only [Act.put, z_1, z_2, z_3, z_4, z_5, z_6, z_7]
     refine rd1 6 (fun K hK => ?_)
     have zr := zero_root
     go_simp
     obtain ⟨x304, y15, hx, ey, r15, hd304, b15⟩ := upN2 hc303 (.cells (vs .u8 32 fun _ => 0) 24)
     rw [hx, ey]
     have l304 := Nat.le_of_eq ey
     clear hx ey zr
     have hc304 := upT hc303 hd304
     refine hK.out _ _ hc304 (fun hHeld => ?_)
     clear hK K
     try simp only [Act.put, z_1, z_2, z_3, z_4, z_5, z_6, z_7]
     exact K202.out y15 x304 ⟨hc304, r15, b15⟩
    ·have zr := zero_root
     go_simp
     obtain ⟨x305, y15, hx, ey, r15, hd305, b15⟩ := upN2 hc302 (.cells (vs .u8 32 fun _ => 0) 24)
     rw [hx, ey]
     have l305 := Nat.le_of_eq ey
     clear hx ey zr
     have hc305 := upT hc302 hd305
     refine hK.out _ _ hc305 (fun hHeld => ?_)
     clear hK K
     try simp only [Act.put, z_1, z_2, z_3, z_4, z_5, z_6, z_7]
     exact K201.out y15 x305 ⟨hc305, r15, b15⟩
   ·have zr := zero_root
    go_simp
    obtain ⟨x306, y15, hx, ey, r15, hd306, b15⟩ := upN2 hc301 (.cells (vs .u8 32 fun _ => 0) 24)
    rw [hx, ey]
    have l306 := Nat.le_of_eq ey
    clear hx ey zr
    have hc306 := upT hc301 hd306
    refine hK.out _ _ hc306 (fun hHeld => ?_)
    clear hK K
    try simp only [Act.put, z_1, z_2, z_3, z_4, z_5, z_6, z_7]
    exact K200.out y15 x306 ⟨hc306, r15, b15⟩
  ·have zr := zero_root
   go_simp
   obtain ⟨x307, y15, hx, ey, r15, hd307, b15⟩ := upN2 hHeld (.cells (vs .u8 32 fun _ => 0) 24)
   rw [hx, ey]
   have l307 := Nat.le_of_eq ey
   clear hx ey zr
   have hc307 := upT hHeld hd307
   refine hK.out _ _ hc307 (fun hHeld => ?_)
   clear hK K
   try simp only [Act.put, z_1, z_2, z_3, z_4, z_5, z_6, z_7]
   refine rd1 1 (fun K hK => ?_)
   go_simp
   refine (HNU.out _ (hc307)).mono ?_
   rintro e' x308 ⟨rfl, hd308⟩
   dsimp only
   have hc308 := upT hc307 hd308
   replace r15 := upR hd308 r15
   refine hK.out _ _ hc308 (fun hHeld => ?_)
   clear hK K
   try simp only [Act.put, z_1, z_2, z_3, z_4, z_5, z_6, z_7]
   exact K200.out y15 x308 ⟨hc308, r15, b15⟩
  case t200 =>
   rintro y15 V ⟨hB, r15, b15⟩
   have hHeld := hB
   refine rd1 4 (fun K hK => ?_)
   go_simp
   refine (HDO.out _ (hB)).mono ?_
   rintro e' x309 ⟨rfl, hd309⟩
   dsimp only
   have hc309 := upT hB hd309
   replace r15 := upR hd309 r15
   refine hK.out _ _ hc309 (fun hHeld => ?_)
   clear hK K
   try simp only [Act.put, z_1, z_2, z_3, z_4, z_5, z_6, z_7]
   exact K201.out y15 x309 ⟨hc309, r15, b15⟩
  case t201 =>
   rintro y15 V ⟨hB, r15, b15⟩
   have hHeld := hB
   refine rd1 5 (fun K hK => ?_)
   go_simp
   refine (HRO.out _ (hB)).mono ?_
   rintro e' x310 ⟨rfl, hd310⟩
   dsimp only
   have hc310 := upT hB hd310
   replace r15 := upR hd310 r15
   refine hK.out _ _ hc310 (fun hHeld => ?_)
   clear hK K
   try simp only [Act.put, z_1, z_2, z_3, z_4, z_5, z_6, z_7]
   exact K202.out y15 x310 ⟨hc310, r15, b15⟩
  case t202 =>
   rintro y15 V ⟨hB, r15, b15⟩
   have hHeld := hB
   refine rd1 7 (fun K hK => ?_)
   have v3 := sv24_run r15 RT
   go_simp
   have hce : Up W4 _ := below_row (hB) b15 (vs .u8 32 RT)
   refine hK.out _ _ hce (fun hHeld => ?_)
   clear hK K
   try simp only [Act.put, z_1, z_2, z_3, z_4, z_5, z_6, z_7]
   refine wpAnyH_done (by kernel_rfl) ?_ _
   refine NoPanic.normal ?_
   go_wp2
   go_meet
   exact ⟨_, rfl, setRow_at r15, hce, b15⟩
 case rest =>
  clear HNU HDO HRO HLX
  obtain ⟨y12, rfl, rq, hcw, hyg⟩ := hcut
  have HUC := hid hcw
  have RQ := hid rq
  have hb0 := upT HB.out (upT HU4.out HUC.out)
  have HBW := hid hb0
  have z1 : w.heap.size + 2 < W4.heap.size := Nat.lt_of_lt_of_le z0 HU4.out.size
  clear rq hcw hb0
  go_upto_region 3 with fail
  refine wp_region_noPanic ?_
  refine wp_region_held_drew (S := fun W => Kept (w.heap.size + 2) wc W) (by kernel_rfl) ((Kept.refl _ _).drew) (fun hHeld => ?_)
  have hUd : Up wc wc.drew := (Below.refl _ _).drew
  generalize wc.drew = wd at hHeld hUd ⊢
  refine tk 0 (v := ?v904) ?y904 hHeld ?r904
  case y904 => intro w hSw; go_simp; try with_reducible rfl
  refine tk 1 (v := ?v905) ?y905 hHeld ?r905
  case y905 => intro w hSw; have ld0 := HC11.out w ((Kept.ofBelow HUC.out).trans hSw); go_simp; try with_reducible rfl
  refine tk 2 (v := ?v906) ?y906 hHeld ?r906
  case y906 => intro w hSw; go_simp; try with_reducible rfl
  refine tk 3 (v := ?v907) ?y907 hHeld ?r907
  case y907 => intro w hSw; have ld0 := HIX.out w; go_simp; try with_reducible rfl
  refine tk 4 (v := ?v908) ?y908 hHeld ?r908
  case y908 => intro w hSw; go_simp; try with_reducible rfl
  refine tk 5 (v := ?v909) ?y909 hHeld ?r909
  case y909 => intro w hSw; have ld0 := HLK.out w ((Kept.ofBelow HUC.out).trans hSw); go_simp; try with_reducible rfl
  refine tk 7 (v := ?v910) ?y910 hHeld ?r910
  case y910 => intro w hSw; have ld0 := lv24_run ((hSw.block y12 (some_ltK RQ.out) (by omega)).trans RQ.out); go_simp; try with_reducible rfl
  refine tk 8 (v := ?v911) ?y911 hHeld ?r911
  case y911 => intro w hSw; have ld0 := HLS.out w ((Kept.ofBelow HUC.out).trans hSw); go_simp; try with_reducible rfl
  try simp only [Act.put, z_1, z_2, z_3, z_4, z_5, z_6, z_7]
  refine rd1 6 (fun K hK => ?_)
  have zr := bsK_1 wd KF
  go_simp
  obtain ⟨x1, y6, hx, ey, r6, hd1, _⟩ := upN2 hUd (.cells (vs .u8 48 KF) 44)
  rw [hx, ey]
  clear hx ey zr
  have hc1 := upT hUd hd1
  refine hK.out _ _ (Kept.ofBelow hc1) (fun hHeld => ?_)
  clear hK K
  try simp only [Act.put, z_1, z_2, z_3, z_4, z_5, z_6, z_7]
  refine rd1 9 (fun K hK => ?_)
  go_simp
  refine (HQU.out _ y6 (upT HUC.out hc1) r6).mono ?_
  rintro e' x2 ⟨rfl, hd2⟩
  dsimp only
  have hc2 := upT hc1 hd2
  refine hK.out _ _ (Kept.ofBelow hc2) (fun hHeld => ?_)
  clear hK K
  try simp only [Act.put, z_1, z_2, z_3, z_4, z_5, z_6, z_7]
  have r2 := upR (upT HU4.out (upT HUC.out hc2)) RR.out
  refine rd1 10 (fun K hK => ?_)
  have v3 := sv24_run r2 QV
  go_simp
  have hc3 : Up w _ := below_row (upT HBW.out hc2) (by omega : w.heap.size ≤ w.heap.size + 2) (vs .u8 32 QV)
  refine hK.out _ _ ((Kept.ofBelow hc2).setRow _) (fun hHeld => ?_)
  clear hK K
  try simp only [Act.put, z_1, z_2, z_3, z_4, z_5, z_6, z_7]
  refine wpAnyH_done (by kernel_rfl) ?_ _
  refine NoPanic.normal ?_
  go_wp2
  exact ret24 6 (w.heap.size + 2) QV 24 rfl rfl rfl (setRow_at r2) ⟨rfl, hc3⟩
end Go.Proofs.YtopnhpllidegnaaGreatDoor
