/- A part. -/
import Derived.Test.YtopnhpllidegnaaGreatDoorQK
import Derived.Test.YtopnhpllidegnaaGreatDoorQC
import Derived.Test.YtopnhpllidegnaaGreatDoorStS
import Derived.Test.YtopnhpllidegnaaGreatDoorPkB
import Derived.Test.YtopnhpllidegnaaGreatDoorQO
import Derived.Test.YtopnhpllidegnaaGreatDoorQG
import Derived.Deep.Cut
import Derived.ArgAppend
import Derived.DeepKeys
namespace Go.Proofs.YtopnhpllidegnaaGreatDoor
open Go.RowKit
set_option linter.unusedVariables false
set_option linter.unusedSimpArgs false
section
open Go.RowKit
set_option linter.unusedVariables false
set_option linter.unusedSimpArgs false
set_option maxRecDepth 20000
def Kys (w : World) (a : Option Addr) (len cap : Nat) (f : Nat → Int) : Prop :=
 (a = none ∧ len = 0 ∧ cap = 0) ∨ (∃ x, a = some x ∧ len = 0) ∨ ∃ b off, a = some ⟨b, off, none⟩ ∧ len ≤ cap ∧ b < w.heap.size ∧ ∀ j, j < 48 * len → w.cell? ⟨b, off + j, none⟩ = some (.int .u8 (f j))
theorem Kys.below {w w' : World} {a : Option Addr} {len cap : Nat} {f : Nat → Int} (h : Kys w a len cap f) (hb : Below w.heap.size w w') : Kys w' a len cap f := by
 rcases h with h | h | ⟨b, off, h1, h2, h3, h4⟩
 ·exact .inl h
 ·exact .inr (.inl h)
 ·exact .inr (.inr ⟨b, off, h1, h2, Nat.lt_of_lt_of_le h3 hb.size, fun j hj => (below_cell hb h3).trans (h4 j hj)⟩)
def ixKy (x i : Value) : Sem Value := Instr.indexAt 88 x i
theorem ixKy_eq (x i : Value) : Instr.indexAt 88 x i = ixKy x i := rfl
theorem sizeKy (w : World) : (sizeOf 44).run Tryz.prog w = .ok 48 w := by
 have hi : (Tryz.prog.info? 44).map (·.size) = some 48 := by kernel_rfl
 cases hq : Tryz.prog.info? 44 with
 | none => simp [hq] at hi
 | some i => simp [hq] at hi; simp [sizeOf, typeInfo, hq, hi]
theorem ixKy_run (w : World) (b off len cap i : Nat) (h : i < len) : (ixKy (.slice (some ⟨b, off, none⟩) len cap) (.int .i64 i)).run Tryz.prog w = .ok (.pointer (some ⟨b, off + 48 * i, none⟩)) w := by
 unfold ixKy Instr.indexAt
 have h1 : (0 : Int) ≤ (i : Int) ∧ (i : Int) < (len : Int) := by omega
 simp only [asIntOf, Sem.run_bind, Sem.run_pure, Result.andThen_ok, run_underlying Tryz.underlying88, if_pos h1, sizeKy, Addr.add_mid, Int.toNat_natCast]
 rw [Nat.mul_comm]
def lvKy (a : Addr) : Sem Value := loadVar 44 a
theorem lvKy_eq (a : Addr) : loadVar 44 a = lvKy a := rfl
attribute [local go_sem ↓] ixKy_eq lvKy_eq svKy_eq sv24_eq lv24_eq
end
section
open Go.RowKit
set_option linter.unusedVariables false
set_option linter.unusedSimpArgs false
set_option maxRecDepth 20000
attribute [local go_sem ↓] lvState_eq svState_eq bdState_eq lvValidator_eq svValidator_eq ixValidator_eq sv24_eq lv24_eq sv8_eq
def prS (x : VState) : Nat → Int := shaV KW HW (sd8 (seedV x (x.f2 / 4) 0) x.f2) 40
def prL (x : VState) : List Int := dwL x.f11.z (acE x (x.f2 / 4)) (prS x) 1
def prE (x : VState) : Int := dwE x.f11.z (acE x (x.f2 / 4)) (prS x) 1
def prV (x : VState) : Int := (prL x).getD 0 0
theorem dw_one (z : Nat → VValidator) (L : List Int) (s : Nat → Int) (want : Nat) : (dwE z L s want = 0 ∧ (dwL z L s want).length = want ∧ ∀ v ∈ dwL z L s want, v ∈ L) ∨ (dwE z L s want = 7 ∧ dwL z L s want = []) := by
 unfold dwE dwL
 by_cases h : dwO z L s want = true
 ·rw [if_pos h, if_pos h]
  unfold dwO at h
  rw [Bool.and_eq_true, decide_eq_true_eq, decide_eq_true_eq] at h
  exact .inl ⟨rfl, by rw [List.length_take]; omega, fun v hv => drL_mem z L s h.1 256 v (List.mem_of_mem_take hv)⟩
 ·rw [if_neg h, if_neg h]
  exact .inr ⟨rfl, rfl⟩
theorem ap_rowO (W : World) (B : Nat) (v : Value) (n k cp b : Nat) (m c : Nat → Int) (ho : W.ownsRow B 5 1 v n (bl m n)) (hb : ∀ j, j < k → W.cell? ⟨b, j, none⟩ = some (.int .u8 (c j))) (hm : ∀ j, j < k → m (n + j) = c j) (hB : B ≤ W.heap.size) (hn : n ≤ 64) (hk : k ≤ 64) (hk0 : 0 < k) (ty : TypeId) :
    ∃ g' C' w', (ap22 ty v (.slice (some ⟨b, 0, none⟩) k cp)).run Tryz.prog W = .ok (.slice (some ⟨g', 0, none⟩) (n + k) C') w' ∧ w'.ownsRow B 5 1 (.slice (some ⟨g', 0, none⟩) (n + k) C') (n + k) (bl m (n + k)) ∧ Below B W w' ∧ ∀ B' u l, W.ownsRow B' 22 1 u l.length (iv6 l) → w'.ownsRow B' 22 1 u l.length (iv6 l) := by
 obtain ⟨g', C', w', h1, h2, h3, h4⟩ := ap_rowG W B v n k cp b m c ho hb hm hB hn hk hk0 ty
 refine ⟨g', C', w', h1, h2, h3, fun B' u l hu => ⟨hu.1, ?_⟩⟩
 rcases hu.2 with h | ⟨g, cap, cur, e1, e2, e3, e4⟩
 ·exact .inl h
 ·exact .inr ⟨g, cap, cur, e1, e2, h4 _ _ _ e3 (by decide), e4⟩
set_option maxHeartbeats 4000000 in
theorem rprop_any (x : VState) (w : World) (ho : OkState x) (hx : Lk w x) (hC : Tab w 0 64 KW) :
    Calls Tryz.prog 23 #[.agg (cel (sState x))] w fun e' w' => e' = .returned (.tuple #[.int .u64 (prV x), .int .i64 (prE x)]) ∧ Below w.heap.size w w' := by
 obtain ⟨W0, hW0⟩ : ∃ W, w.alloc (.cells (cel (sState x)) 49) = W := ⟨_, rfl⟩
 have r0 : W0.heap[w.heap.size]? = some (.cells (cel (sState x)) 49) := by rw [← hW0]; exact heap_new rfl
 have hB0 : Below w.heap.size w W0 := by rw [← hW0]; exact (Below.refl _ _).alloc (Nat.le_refl _) _
 have z0 : w.heap.size < W0.heap.size := (Array.getElem?_eq_some_iff.1 r0).1
 have hld : ∀ W : World, Below W0.heap.size W0 W → (lvState ⟨w.heap.size, 0, none⟩).run Tryz.prog W = .ok (.agg (cel (sState x))) W := fun W h => lvState_run ((h.block _ z0).trans r0)
 have hc2 : ∀ W : World, Below W0.heap.size W0 W → W.cell? ⟨w.heap.size, 33, none⟩ = some (.int .u64 x.f2) := fun W h => cS2 ((h.block _ z0).trans r0)
 have hx0 := hx.below hB0
 have hC0 := hC.below hB0
 have hsl := hx.sl
 have hep := repoch_any x W0 hx.sl.1 hx.sl.2
 have hlen := acE_len (e := x.f2 / 4) hx.nb
 have hac : ∀ W, Below W0.heap.size W0 W → Calls Tryz.prog 61 #[.agg (cel (sState x)), .int .u64 (x.f2 / 4)] W fun e' w' => ∃ v, e' = .returned v ∧ w'.ownsRow W.heap.size 22 1 v (acE x (x.f2 / 4)).length (iv6 (acE x (x.f2 / 4))) ∧ Below W.heap.size W w' := fun W h => ractives_own x (x.f2 / 4) W (hx0.below h)
 have hse : ∀ W, Below W0.heap.size W0 W → Calls Tryz.prog 58 #[.agg (cel (sState x)), .int .u64 (x.f2 / 4), .int .i64 0] W fun e' w' => e' = .returned (.agg (vs .u8 32 (seedV x (x.f2 / 4) 0))) ∧ Below W.heap.size W w' := fun W h => rseed_any x (x.f2 / 4) 0 W ho (by omega) (by omega) (hC0.below h)
 have hby := fun (W : World) => rbytes_any x.f2 W (by omega) (by omega)
 have hsb : ∀ j, j < 32 → 0 ≤ seedV x (x.f2 / 4) 0 j ∧ seedV x (x.f2 / 4) 0 j < 256 := fun j _ => seedV_bd ..
 have hsm : ∀ (W : World) g C B, Below W0.heap.size W0 W → W.ownsRow B 5 1 (.slice (some ⟨g, 0, none⟩) 40 C) 40 (bl (sd8 (seedV x (x.f2 / 4) 0) x.f2) 40) → Calls Tryz.prog 30 #[.slice (some ⟨g, 0, none⟩) 40 C] W fun e w' => e = .returned (.agg (vs .u8 32 (prS x))) ∧ Below W.heap.size W w' := fun W g C B h1 ho => by
  obtain ⟨q1, q2, q3, q4, q5⟩ := own_cells ho
  exact refsum_any KW (sd8 (seedV x (x.f2 / 4) 0) x.f2) (some ⟨g, 0, none⟩) 40 C W (hC0.below h1) (.inr (.inr ⟨g, 0, rfl, q3, q4, q2, fun j hj => by rw [Nat.zero_add]; exact q5 j hj⟩)) (fun j hj => sd8_bd hsb _ _) (by omega)
 have hpb : ∀ j, j < 32 → 0 ≤ prS x j ∧ prS x j < 256 := fun j _ => shaV_bd ..
 have hdw : ∀ (W : World) (v : Value) B, Below W0.heap.size W0 W → W.ownsRow B 22 1 v (acE x (x.f2 / 4)).length (iv6 (acE x (x.f2 / 4))) → Calls Tryz.prog 60 #[.agg (cel (sState x)), v, .agg (vs .u8 32 (prS x)), .int .i64 1] W fun e' w' => ∃ a c, e' = .returned (.tuple #[.slice a (prL x).length c, .int .i64 (prE x)]) ∧ Nml w' a (prL x) ∧ Below W.heap.size W w' := fun W v B h hv => by
  obtain ⟨a, c, rfl, hn⟩ := own_nml hv
  exact rdraw_any x a c (acE x (x.f2 / 4)) (prS x) 1 W (hx0.below h) hn (fun v hv => by have := (acL_mem _ _ _ _).1 hv; exact ⟨this.1, this.2.1⟩) hlen hpb (by omega) (by omega) (hC0.below h)
 have hd1 := dw_one x.f11.z (acE x (x.f2 / 4)) (prS x) 1
 have hV : prV x = (prL x).getD 0 0 := rfl
 rw [show dwE x.f11.z (acE x (x.f2 / 4)) (prS x) 1 = prE x from rfl, show dwL x.f11.z (acE x (x.f2 / 4)) (prS x) 1 = prL x from rfl] at hd1
 obtain ⟨SD, eSD⟩ : ∃ SD, seedV x (x.f2 / 4) 0 = SD := ⟨_, rfl⟩
 rw [eSD] at hse hsm
 generalize prL x = PL at hdw hd1 hV
 generalize prE x = PE at hdw hd1 ⊢
 generalize prV x = PV at hV ⊢
 generalize prS x = PS at hsm hdw
 generalize acE x (x.f2 / 4) = L at hac hdw hd1
 have he : 0 ≤ x.f2 / 4 ∧ x.f2 / 4 < 274877906944 := by omega
 generalize x.f2 / 4 = E at hep hac hse he
 generalize x.f2 = T at hc2 hby hsm
 have HB := hid hB0
 have HW := hid hW0
 have HLD := hid hld
 have HC2 := hid hc2
 have HEP := hid hep
 have HAC0 := hid hac
 have HSE := hid hse
 have HBY := hid hby
 have HSM := hid hsm
 have HDW0 := hid hdw
 have HD1 := hid (And.intro hd1 hV)
 have l0 := hld W0 (Below.refl _ _)
 clear hB0 hW0 hld hc2 hep hac hse hby hsm hdw hd1 hV hx hx0 ho hC hC0 r0 hsl hlen hsb hpb eSD
 go_enter Tryz.func23, Tryz.ntmps23
 go_upto_region 1 with fail
 rw [HW.out]
 clear HW
 go_upto_region 2 with (go_at_call 24; refine HEP.out.mono ?_; rintro e' w1 ⟨rfl, hb1⟩)
 have l1 := HLD.out w1 hb1
 have zr := zero_root
 have v3 := fun W => sv24_newv W (fun _ => 0) SD
 go_upto_region 3 with (go_at_call 58; refine (HSE.out _ hb1).mono ?_; rintro e' w2 ⟨rfl, hb2⟩)
 have hB2 := hb1.trans (hb2.mono hb1.size)
 obtain ⟨W2, hW2⟩ : ∃ W, w2.alloc (.cells (vs .u8 32 SD) 24) = W := ⟨_, rfl⟩
 rw [hW2]
 have rs : W2.heap[w2.heap.size]? = some (.cells (vs .u8 32 SD) 24) := by rw [← hW2]; exact heap_new rfl
 have hE2 : Below w2.heap.size w2 W2 := by rw [← hW2]; exact (Below.refl _ _).alloc (Nat.le_refl _) _
 have hF2 : Below W0.heap.size W0 W2 := hB2.trans (hE2.mono hB2.size)
 obtain ⟨y1, ey1⟩ : ∃ y, w2.heap.size = y := ⟨_, rfl⟩
 rw [ey1] at rs ⊢
 have c2 := HC2.out W2 hF2
 have z8 := zero_8
 have v8 := fun W => sv8_newv W (fun _ => 0) (nmB T)
 have RS := hid rs
 have HF2 := hid hF2
 clear rs hF2 hE2 hB2 hb2 hb1 l0 l1 hW2 ey1 zr v3
 go_upto_region 4 with (go_at_call 59; refine (HBY.out _).mono ?_; rintro e' w3 ⟨rfl, hb3⟩)
 obtain ⟨W3, hW3⟩ : ∃ W, w3.alloc (.cells (vs .u8 8 (nmB T)) 114) = W := ⟨_, rfl⟩
 rw [hW3]
 have rb : W3.heap[w3.heap.size]? = some (.cells (vs .u8 8 (nmB T)) 114) := by rw [← hW3]; exact heap_new rfl
 have hE3 : Below w3.heap.size w3 W3 := by rw [← hW3]; exact (Below.refl _ _).alloc (Nat.le_refl _) _
 have hG3 : Below W2.heap.size W2 W3 := hb3.trans (hE3.mono hb3.size)
 have hF3 : Below W0.heap.size W0 W3 := HF2.out.trans (hG3.mono HF2.out.size)
 have rs := (hG3.block _ (Array.getElem?_eq_some_iff.1 RS.out).1).trans RS.out
 obtain ⟨y2, ey2⟩ : ∃ y, w3.heap.size = y := ⟨_, rfl⟩
 rw [ey2] at rb ⊢
 have hld3 : ∀ W, Below W3.heap.size W3 W → (lvState ⟨w.heap.size, 0, none⟩).run Tryz.prog W = .ok (.agg (cel (sState x))) W := fun W h => HLD.out W (hF3.trans (h.mono hF3.size))
 have hap1 : ∀ (W : World) e, Below W3.heap.size W3 W → W.ownsRow W3.heap.size 5 1 (.slice (some ⟨e, 0, none⟩) 0 0) 0 (bl (sd8 SD T) 0) → ∀ ty, ∃ g C w', (ap22 ty (.slice (some ⟨e, 0, none⟩) 0 0) (.slice (some ⟨y1, 0, none⟩) 32 32)).run Tryz.prog W = .ok (.slice (some ⟨g, 0, none⟩) 32 C) w' ∧ w'.ownsRow W3.heap.size 5 1 (.slice (some ⟨g, 0, none⟩) 32 C) 32 (bl (sd8 SD T) 32) ∧ Below W3.heap.size W3 w' ∧ ∀ B' u l, W.ownsRow B' 22 1 u l.length (iv6 l) → w'.ownsRow B' 22 1 u l.length (iv6 l) := fun W e hW ho ty => by
  obtain ⟨g, C, w', h1, h2, h3, h4⟩ := ap_rowO W W3.heap.size (.slice (some ⟨e, 0, none⟩) 0 0) 0 32 32 y1 (sd8 SD T) SD ho (fun j hj => row_int ((hW.block _ (Array.getElem?_eq_some_iff.1 rs).1).trans rs) j (by omega)) (fun j hj => by unfold sd8; rw [Nat.zero_add, if_pos hj]) hW.size (by omega) (by omega) (by omega) ty
  rw [Nat.zero_add] at h1 h2
  exact ⟨g, C, w', h1, h2, hW.trans h3, h4⟩
 have hap2 : ∀ (W : World) g C, Below W3.heap.size W3 W → W.ownsRow W3.heap.size 5 1 (.slice (some ⟨g, 0, none⟩) 32 C) 32 (bl (sd8 SD T) 32) → ∀ ty, ∃ g' C' w', (ap22 ty (.slice (some ⟨g, 0, none⟩) 32 C) (.slice (some ⟨y2, 0, none⟩) 8 8)).run Tryz.prog W = .ok (.slice (some ⟨g', 0, none⟩) 40 C') w' ∧ w'.ownsRow W3.heap.size 5 1 (.slice (some ⟨g', 0, none⟩) 40 C') 40 (bl (sd8 SD T) 40) ∧ Below W3.heap.size W3 w' ∧ ∀ B' u l, W.ownsRow B' 22 1 u l.length (iv6 l) → w'.ownsRow B' 22 1 u l.length (iv6 l) := fun W g C hW ho ty => by
  obtain ⟨g', C', w', h1, h2, h3, h4⟩ := ap_rowO W W3.heap.size _ 32 8 8 y2 (sd8 SD T) (nmB T) ho (fun j hj => row_int ((hW.block _ (Array.getElem?_eq_some_iff.1 rb).1).trans rb) j hj) (fun j hj => by unfold sd8; rw [if_neg (by omega), show 32 + j - 32 = j by omega]) hW.size (by omega) (by omega) (by omega) ty
  exact ⟨g', C', w', h1, h2, hW.trans h3, h4⟩
 have hsm := fun (W : World) g C (h : Below W3.heap.size W3 W) (ho : W.ownsRow W3.heap.size 5 1 (.slice (some ⟨g, 0, none⟩) 40 C) 40 (bl (sd8 SD T) 40)) => HSM.out W g C _ (hF3.trans (h.mono hF3.size)) ho
 have hac := fun (W : World) (h : Below W3.heap.size W3 W) => HAC0.out W (hF3.trans (h.mono hF3.size))
 have hdw := fun (W : World) (v : Value) (h : Below W3.heap.size W3 W) {B : Nat} (hv : W.ownsRow B 22 1 v L.length (iv6 L)) => HDW0.out W v B (hF3.trans (h.mono hF3.size)) hv
 have hdr : Below W3.heap.size W3 W3.drew := (Below.refl _ _).drew
 generalize sd8 SD T = SQ at hap1 hap2 hsm
 have HLD := hid hld3
 have HAP1 := hid hap1
 have HAP2 := hid hap2
 have HSUM := hid hsm
 have HAC := hid hac
 have HDW := hid hdw
 have HDR := hid hdr
 have HF3 := hid hF3
 clear hld3 hap1 hap2 hsm hac hdw hdr hF3 rb rs hE3 hG3 hb3 ey2 hW3 z8 v8 c2 HF2 RS HSE HBY HSM HAC0 HDW0 HEP HC2
 go_cut [7, 8] from 9 (fun v u wx => ∃ a c, v = .slice a PL.length c ∧ u = .int .i64 PE ∧ Nml wx a PL ∧ Below W3.heap.size W3 wx)
 case first =>
  refine wp_region_noPanic ?_
  refine wp_region_held_drew (S := fun W => Below W3.heap.size W3 W) (by kernel_rfl) (HDR.out) (fun hHeld => ?_)
  refine tk 0 (v := ?v501) ?y501 hHeld ?r501
  case y501 => intro w hSw; have ld := HLD.out _ hSw; go_simp; try with_reducible rfl
  refine tk 1 (v := ?v502) ?y502 hHeld ?r502
  case y502 => intro w hSw; have ld := HLD.out _ hSw; go_simp; try with_reducible rfl
  refine tk 2 (v := ?v503) ?y503 hHeld ?r503
  case y503 => intro w hSw; go_simp; try with_reducible rfl
  refine tk 5 (v := ?v504) ?y504 hHeld ?r504
  case y504 => intro w hSw; go_simp; try with_reducible rfl
  refine tk 7 (v := ?v505) ?y505 hHeld ?r505
  case y505 => intro w hSw; go_simp; try with_reducible rfl
  try simp only [Act.put, z_1, z_2, z_3, z_4, z_5, z_6, z_7]
  refine wpAnyH_ready (rs := [3, 4]) (by kernel_rfl) (by simp) ?_
  refine AllReadyH.cons rfl (fun K hK => ?_) (AllReadyH.cons rfl (fun K hK => ?_) AllReadyH.nil)
  ·go_simp
   refine (HAC.out W3.drew HDR.out).mono ?_
   rintro e' x1 ⟨va, rfl, hn1, hd1⟩
   dsimp only
   have hc1 : Below W3.heap.size W3 x1 := (HDR.out).trans (hd1.mono (HDR.out).size)
   refine hK.out _ _ (hc1) (fun hHeld => ?_)
   clear hK K
   try simp only [Act.put, z_1, z_2, z_3, z_4, z_5, z_6, z_7]
   refine wpAnyH_ready (rs := [4]) (by kernel_rfl) (by simp) ?_
   refine AllReadyH.cons rfl (fun K hK => ?_) AllReadyH.nil
   go_simp
   have hc2 : Below W3.heap.size W3 (x1.alloc (.cells #[] 5)) := (hc1).alloc (hc1).size _
   have ho2 : (x1.alloc (.cells #[] 5)).ownsRow W3.heap.size 5 1 (.slice (some ⟨x1.heap.size, 0, none⟩) 0 0) 0 (bl SQ 0) := by
    rw [show x1.heap.size = x1.heap.size by simp]
    exact World.ownsRow_made _ #[] 0 (hc1).size (Nat.zero_le _) rfl
   have hn2 := own_below hn1 ((Below.refl _ _).alloc (Nat.le_refl _) (.cells #[] 5))
   refine hK.out _ _ (hc2) (fun hHeld => ?_)
   clear hK K
   try simp only [Act.put, z_1, z_2, z_3, z_4, z_5, z_6, z_7]
   refine wpAnyH_ready (rs := [6]) (by kernel_rfl) (by simp) ?_
   refine AllReadyH.cons rfl (fun K hK => ?_) AllReadyH.nil
   obtain ⟨g3, C3, x3, hap3, ho3, hc3, hr3⟩ := HAP1.out (x1.alloc (.cells #[] 5)) _ hc2 ho2 39
   refine wp_append_is _ _ rfl _ _ _ _ rfl rfl hap3 ?_
   have hn3 := hr3 _ _ _ hn2
   refine hK.out _ _ (hc3) (fun hHeld => ?_)
   clear hK K
   try simp only [Act.put, z_1, z_2, z_3, z_4, z_5, z_6, z_7]
   refine wpAnyH_ready (rs := [8]) (by kernel_rfl) (by simp) ?_
   refine AllReadyH.cons rfl (fun K hK => ?_) AllReadyH.nil
   obtain ⟨g4, C4, x4, hap4, ho4, hc4, hr4⟩ := HAP2.out x3 _ _ hc3 ho3 39
   refine wp_append_is _ _ rfl _ _ _ _ rfl rfl hap4 ?_
   have hn4 := hr4 _ _ _ hn3
   refine hK.out _ _ (hc4) (fun hHeld => ?_)
   clear hK K
   try simp only [Act.put, z_1, z_2, z_3, z_4, z_5, z_6, z_7]
   refine wpAnyH_ready (rs := [9]) (by kernel_rfl) (by simp) ?_
   refine AllReadyH.cons rfl (fun K hK => ?_) AllReadyH.nil
   go_simp
   refine (HSUM.out x4 _ _ hc4 ho4).mono ?_
   rintro e' x5 ⟨rfl, hd5⟩
   dsimp only
   have hc5 : Below W3.heap.size W3 x5 := (hc4).trans (hd5.mono (hc4).size)
   have hn5 := own_below hn4 hd5
   refine hK.out _ _ (hc5) (fun hHeld => ?_)
   clear hK K
   try simp only [Act.put, z_1, z_2, z_3, z_4, z_5, z_6, z_7]
   refine wpAnyH_ready (rs := [10]) (by kernel_rfl) (by simp) ?_
   refine AllReadyH.cons rfl (fun K hK => ?_) AllReadyH.nil
   go_simp
   refine (HDW.out x5 va hc5 hn5).mono ?_
   rintro e' x6 ⟨a4, c4, rfl, hn4, hd6⟩
   dsimp only
   have hc6 : Below W3.heap.size W3 x6 := (hc5).trans (hd6.mono (hc5).size)
   refine hK.out _ _ (hc6) (fun hHeld => ?_)
   clear hK K
   try simp only [Act.put, z_1, z_2, z_3, z_4, z_5, z_6, z_7]
   refine tk 11 (v := ?v506) ?y506 hHeld ?r506
   case y506 => intro w hSw; go_simp; try with_reducible rfl
   refine tk 12 (v := ?v507) ?y507 hHeld ?r507
   case y507 => intro w hSw; go_simp; try with_reducible rfl
   refine tk 13 (v := ?v508) ?y508 hHeld ?r508
   case y508 => intro w hSw; go_simp; try with_reducible rfl
   refine tk 14 (v := ?v509) ?y509 hHeld ?r509
   case y509 => intro w hSw; go_simp; try with_reducible rfl
   refine tk 15 (v := ?v510) ?y510 hHeld ?r510
   case y510 => intro w hSw; go_simp; try with_reducible rfl
   try simp only [Act.put, z_1, z_2, z_3, z_4, z_5, z_6, z_7]
   refine wpAnyH_done (by kernel_rfl) ?_ _
   refine NoPanic.normal ?_
   go_wp2
   go_meet
   exact ⟨a4, c4, rfl, rfl, hn4, hc6⟩
  ·go_simp
   have hc1 : Below W3.heap.size W3 (W3.drew.alloc (.cells #[] 5)) := (HDR.out).alloc (HDR.out).size _
   have ho1 : (W3.drew.alloc (.cells #[] 5)).ownsRow W3.heap.size 5 1 (.slice (some ⟨W3.heap.size, 0, none⟩) 0 0) 0 (bl SQ 0) := by
    rw [show W3.heap.size = W3.drew.heap.size by simp]
    exact World.ownsRow_made _ #[] 0 (HDR.out).size (Nat.zero_le _) rfl
   refine hK.out _ _ (hc1) (fun hHeld => ?_)
   clear hK K
   try simp only [Act.put, z_1, z_2, z_3, z_4, z_5, z_6, z_7]
   refine wpAnyH_ready (rs := [3]) (by kernel_rfl) (by simp) ?_
   refine AllReadyH.cons rfl (fun K hK => ?_) AllReadyH.nil
   go_simp
   refine (HAC.out (W3.drew.alloc (.cells #[] 5)) hc1).mono ?_
   rintro e' x2 ⟨va, rfl, hn2, hd2⟩
   dsimp only
   have hc2 : Below W3.heap.size W3 x2 := (hc1).trans (hd2.mono (hc1).size)
   have ho2 := own_below ho1 hd2
   refine hK.out _ _ (hc2) (fun hHeld => ?_)
   clear hK K
   try simp only [Act.put, z_1, z_2, z_3, z_4, z_5, z_6, z_7]
   refine wpAnyH_ready (rs := [6]) (by kernel_rfl) (by simp) ?_
   refine AllReadyH.cons rfl (fun K hK => ?_) AllReadyH.nil
   obtain ⟨g3, C3, x3, hap3, ho3, hc3, hr3⟩ := HAP1.out x2 _ hc2 ho2 39
   refine wp_append_is _ _ rfl _ _ _ _ rfl rfl hap3 ?_
   have hn3 := hr3 _ _ _ hn2
   refine hK.out _ _ (hc3) (fun hHeld => ?_)
   clear hK K
   try simp only [Act.put, z_1, z_2, z_3, z_4, z_5, z_6, z_7]
   refine wpAnyH_ready (rs := [8]) (by kernel_rfl) (by simp) ?_
   refine AllReadyH.cons rfl (fun K hK => ?_) AllReadyH.nil
   obtain ⟨g4, C4, x4, hap4, ho4, hc4, hr4⟩ := HAP2.out x3 _ _ hc3 ho3 39
   refine wp_append_is _ _ rfl _ _ _ _ rfl rfl hap4 ?_
   have hn4 := hr4 _ _ _ hn3
   refine hK.out _ _ (hc4) (fun hHeld => ?_)
   clear hK K
   try simp only [Act.put, z_1, z_2, z_3, z_4, z_5, z_6, z_7]
   refine wpAnyH_ready (rs := [9]) (by kernel_rfl) (by simp) ?_
   refine AllReadyH.cons rfl (fun K hK => ?_) AllReadyH.nil
   go_simp
   refine (HSUM.out x4 _ _ hc4 ho4).mono ?_
   rintro e' x5 ⟨rfl, hd5⟩
   dsimp only
   have hc5 : Below W3.heap.size W3 x5 := (hc4).trans (hd5.mono (hc4).size)
   have hn5 := own_below hn4 hd5
   refine hK.out _ _ (hc5) (fun hHeld => ?_)
   clear hK K
   try simp only [Act.put, z_1, z_2, z_3, z_4, z_5, z_6, z_7]
   refine wpAnyH_ready (rs := [10]) (by kernel_rfl) (by simp) ?_
   refine AllReadyH.cons rfl (fun K hK => ?_) AllReadyH.nil
   go_simp
   refine (HDW.out x5 va hc5 hn5).mono ?_
   rintro e' x6 ⟨a4, c4, rfl, hn4, hd6⟩
   dsimp only
   have hc6 : Below W3.heap.size W3 x6 := (hc5).trans (hd6.mono (hc5).size)
   refine hK.out _ _ (hc6) (fun hHeld => ?_)
   clear hK K
   try simp only [Act.put, z_1, z_2, z_3, z_4, z_5, z_6, z_7]
   refine tk 11 (v := ?v511) ?y511 hHeld ?r511
   case y511 => intro w hSw; go_simp; try with_reducible rfl
   refine tk 12 (v := ?v512) ?y512 hHeld ?r512
   case y512 => intro w hSw; go_simp; try with_reducible rfl
   refine tk 13 (v := ?v513) ?y513 hHeld ?r513
   case y513 => intro w hSw; go_simp; try with_reducible rfl
   refine tk 14 (v := ?v514) ?y514 hHeld ?r514
   case y514 => intro w hSw; go_simp; try with_reducible rfl
   refine tk 15 (v := ?v515) ?y515 hHeld ?r515
   case y515 => intro w hSw; go_simp; try with_reducible rfl
   try simp only [Act.put, z_1, z_2, z_3, z_4, z_5, z_6, z_7]
   refine wpAnyH_done (by kernel_rfl) ?_ _
   refine NoPanic.normal ?_
   go_wp2
   go_meet
   exact ⟨a4, c4, rfl, rfl, hn4, hc6⟩
 case rest =>
  clear HLD HAP1 HAP2 HSUM HAC HDW HDR
  obtain ⟨a, c, rfl, rfl, hn, hb⟩ := hcut
  have hE : Below w.heap.size w wc := HB.out.trans ((HF3.out.trans (hb.mono HF3.out.size)).mono HB.out.size)
  obtain ⟨h1, hV⟩ := HD1.out
  rcases h1 with ⟨e0, e1, _⟩ | ⟨e0, e1⟩
  ·subst e0
   rcases hn with e2 | ⟨b, o, ea, _, hc⟩
   ·omega
   subst ea
   have c0 : wc.cell? ⟨b, o, none⟩ = some (.int .u64 PV) := by
    have := hc 0 (by omega)
    rw [Nat.add_zero] at this
    rw [hV]
    exact this
   have HE := hid hE
   rw [e1]
   clear hc hV hE HF3 HB HD1 hb e1
   go_wp2
   go_ret2
   exact ⟨rfl, HE.out⟩
  ·subst e0
   rw [e1] at hV
   have HV := hid hV
   have HE := hid hE
   clear hV hE HF3 HB HD1 hb hn
   go_wp2
   go_ret2
   exact ⟨by rw [HV.out]; rfl, HE.out⟩
end
section
open Go.RowKit
set_option linter.unusedVariables false
set_option linter.unusedSimpArgs false
set_option maxRecDepth 100000
def oV2 : VValidator := ⟨fun _ => 0, fun _ => 0, 32000000000, false, 0, 0, 18446744073709551615, 18446744073709551615⟩
structure FS where
 a11 : Option Addr
 n11 : Nat
 c11 : Nat
 a12 : Option Addr
 n12 : Nat
 c12 : Nat
 a15 : Option Addr
 n15 : Nat
 c15 : Nat
 a16 : Option Addr
 n16 : Nat
 c16 : Nat
 a21 : Option Addr
 n21 : Nat
 c21 : Nat
def fX (s : FS) : VState := { oState with f11 := ⟨s.a11, s.n11, s.c11, fun _ => oV2⟩, f12 := ⟨s.a12, s.n12, s.c12, fun _ => 32000000000⟩, f15 := ⟨s.a15, s.n15, s.c15, fun _ => 0⟩, f16 := ⟨s.a16, s.n16, s.c16, fun _ => 0⟩, f21 := ⟨s.a21, s.n21, s.c21, fun _ => 0⟩ }
def fs0 : FS := ⟨none, 0, 0, none, 0, 0, none, 0, 0, none, 0, 0, none, 0, 0⟩
theorem okCz : OkState (fX fs0) := by
 have z : (0 : Int) ≤ 0 ∧ (0 : Int) < 256 := by decide
 have zz : (0 : Int) ≤ 0 ∧ (0 : Int) < 18446744073709551616 := by decide
 exact ⟨zz, fun _ _ => z, zz, ⟨fun _ _ => z, fun _ _ => z, zz⟩, ⟨zz, zz, fun _ _ => z, fun _ _ => z, fun _ _ => z⟩, fun _ _ => z, fun _ _ => z, fun _ h => absurd h (Nat.not_lt_zero _), ⟨fun _ _ => z, zz, fun _ _ => z⟩, fun _ h => absurd h (Nat.not_lt_zero _), zz, fun _ h => absurd h (Nat.not_lt_zero _), fun _ h => absurd h (Nat.not_lt_zero _), fun _ _ => z, fun _ _ => zz, fun _ h => absurd h (Nat.not_lt_zero _), fun _ h => absurd h (Nat.not_lt_zero _), ⟨zz, fun _ _ => z⟩, ⟨zz, fun _ _ => z⟩, ⟨zz, fun _ _ => z⟩, fun _ h => absurd h (Nat.not_lt_zero _), ⟨fun _ _ => z, fun _ _ => z⟩, ⟨fun _ _ => z, fun _ _ => z⟩⟩
attribute [local go_sem ↓] lvState_eq svState_eq bdState_eq bvV_eq bsV_eq
end
section
open Go.RowKit
set_option linter.unusedVariables false
set_option linter.unusedSimpArgs false
set_option maxRecDepth 100000
def PProp : Prop := ∀ (x : VState) (w : World), OkState x → Lk w x → Sh w → Calls Tryz.prog 16 #[.agg (cel (sState x))] w fun e' w' => e' = .returned (.tuple #[.int .u64 (prV x), .int .i64 (prE x)]) ∧ Below w.heap.size w w'
def X2 (g1 g2 g3 g4 g5 : Nat) : VState := { oState with f11 := ⟨some ⟨g1, 0, none⟩, 1, 1, fun _ => oV2⟩, f12 := ⟨some ⟨g2, 0, none⟩, 1, 1, fun _ => 0⟩, f15 := ⟨some ⟨g3, 0, none⟩, 1, 1, fun _ => 0⟩, f16 := ⟨some ⟨g4, 0, none⟩, 1, 1, fun _ => 0⟩, f21 := ⟨some ⟨g5, 0, none⟩, 1, 1, fun _ => 0⟩ }
theorem ok_z15 : OkState oState := by
 have h := okCz
 exact ⟨h.o0, h.o1, h.o2, h.o3, h.o4, h.o5, h.o6, h.o7, h.o8, h.o9, h.o10, fun _ hj => absurd hj (Nat.not_lt_zero _), fun _ hj => absurd hj (Nat.not_lt_zero _), h.o13, h.o14, fun _ hj => absurd hj (Nat.not_lt_zero _), fun _ hj => absurd hj (Nat.not_lt_zero _), h.o18, h.o19, h.o20, fun _ hj => absurd hj (Nat.not_lt_zero _), h.o22, h.o23⟩
theorem pr_zero : prE oState = 7 := by
 have hL : acE oState (oState.f2 / 4) = [] := rfl
 unfold prE
 rw [hL]
 exact (dw_none (.inl rfl)).2
theorem setRow_other {w : World} {b k : Nat} {C : Array Value} (h : k ≠ b) : (w.setRow b C).heap[k]? = w.heap[k]? := by
 simp only [World.setRow, Array.getElem?_modify]
 rw [if_neg (fun e => h e.symm)]
attribute [local go_sem ↓] lvState_eq svState_eq bdState_eq lvValidator_eq svValidator_eq ixValidator_eq bvV_eq bsV_eq
end
section
open Go.RowKit
set_option linter.unusedVariables false
set_option linter.unusedSimpArgs false
set_option maxRecDepth 20000
theorem lvKy_mid {w : World} {b o : Nat} {c : Nat → Int} (h : ∀ j, j < 48 → w.cell? ⟨b, o + j, none⟩ = some (.int .u8 (c j))) : (lvKy ⟨b, o, none⟩).run Tryz.prog w = .ok (.agg (vs .u8 48 c)) w := by
 have hr : w.rangeAt b o ((List.range 48).map fun i => Value.int .u8 (c i)) := by
  intro j v hj
  have hlt : j < 48 := by
   have := (List.getElem?_eq_some_iff.1 hj).1
   simpa using this
  rw [h j hlt]
  simp [hlt] at hj
  rw [hj]
 exact loadAt_var (run_loadAt_mid w b o 44 _ _ hr Tryz.underlying44 rfl (by rw [List.length_map, List.length_range]; kernel_rfl))
def bdC15 (ps : Array (Nat × Value)) : Sem Value := Instr.build 47 ps
theorem bdC15_eq (ps : Array (Nat × Value)) : Instr.build 47 ps = bdC15 ps := rfl
def ix45 (x i : Value) : Sem Value := Instr.indexAt 45 x i
theorem ix45_eq (x i : Value) : Instr.indexAt 45 x i = ix45 x i := rfl
attribute [local go_sem ↓] lvState_eq svState_eq bdState_eq lvValidator_eq svValidator_eq ixValidator_eq lvCommittee_eq svCommittee_eq bdC15_eq ixKy_eq lvKy_eq svKy_eq ix45_eq
end
section
open Go.RowKit
set_option linter.unusedVariables false
set_option linter.unusedSimpArgs false
set_option maxRecDepth 20000
theorem lits_u8 (d : Nat) (c : Int) (h : 0 ≤ c ∧ c < 256) : Tryz.prog.keyLits (d + 1) 5 [.int .u8 c] = some [.int .u8 c] := by
 have hw : (Lit.int .u8 c).wf = true := by
  have : IntKind.u8.min = 0 ∧ IntKind.u8.max = 255 := by decide
  simp [Lit.wf, this]
  omega
 simp [Program.keyLits, Tryz.underlying5, hw]
theorem bl_part (f : Nat → Int) (n o k : Nat) (h : o + k ≤ n) : ((bl f n).drop o).take k = bl (fun j => f (o + j)) k := by
 apply List.ext_getElem?
 intro j
 rw [List.getElem?_take]
 by_cases hj : j < k
 ·rw [if_pos hj, List.getElem?_drop]
  unfold bl
  rw [List.getElem?_map, List.getElem?_range (by omega), List.getElem?_map, List.getElem?_range hj]
  rfl
 ·rw [if_neg hj]
  unfold bl
  rw [List.getElem?_eq_none (by simp; omega)]
end
section
open Go.RowKit
set_option linter.unusedVariables false
set_option linter.unusedSimpArgs false
set_option maxRecDepth 20000
theorem put_seg (l1 m m' l2 : List Seg) (hm : slen m' = slen m) : putL (cel (l1 ++ m ++ l2)) (slen l1) (celL m') = cel (l1 ++ m' ++ l2) := by
 have hs : slen (l1 ++ m ++ l2) = slen l1 + slen m + slen l2 := by
  rw [← celL_len, celL_app, celL_app, List.length_append, List.length_append, celL_len, celL_len, celL_len]
 rw [putL_eq _ _ _ (by rw [cel_size, celL_len, hm, hs]; omega), celL_len, hm, cel_put]
theorem celL_by (N : Nat) (u : Nat → Int) : celL [.by N u] = bl u N := by
 show (List.range N).map _ ++ [] = _
 rw [List.append_nil]
 rfl
theorem byte_at {w : World} {g : Nat} {t : TypeId} (l1 l2 : List Seg) (N : Nat) (f : Nat → Int) (h : w.heap[g]? = some (.cells (cel (l1 ++ [.by N f] ++ l2)) t)) (p : Nat) (hp : p < N) : w.cell? ⟨g, slen l1 + p, none⟩ = some (.int .u8 (f p)) := by
 rw [row_cell h]
 show (celL (l1 ++ [.by N f] ++ l2)).toArray[slen l1 + p]? = _
 rw [List.getElem?_toArray, celL_app, celL_app, List.append_assoc, List.getElem?_append_right (by rw [celL_len]; omega), celL_len, Nat.add_sub_cancel_left, celL_by, List.getElem?_append_left (by rw [bl_len]; exact hp)]
 unfold bl
 rw [List.getElem?_map, List.getElem?_range hp]
 rfl
theorem splitKA (x : VState) (u : Nat → Int) : sState { x with f1 := u } = (sState x).take 1 ++ [.by 32 u] ++ (sState x).drop 2 := by kernel_rfl
theorem len1 (x : VState) : slen ((sState x).take 1) = 1 := by kernel_rfl
theorem at1 {w : World} {g : Nat} {x : VState} {t : TypeId} (h : w.heap[g]? = some (.cells (cel (sState x)) t)) (p : Nat) (hp : p < 32) : w.cell? ⟨g, 1 + p, none⟩ = some (.int .u8 (x.f1 p)) := by
 have := byte_at ((sState x).take 1) ((sState x).drop 2) 32 x.f1 (t := t) (by rw [← splitKA]; exact h) p hp
 rw [len1] at this
 exact this
def lvR8 (a : Addr) : Sem Value := loadVar 31 a
def svR8 (a : Addr) (v : Value) : Sem Unit := storeVar 31 a v
theorem lvR8_mid {w : World} {b o : Nat} {c : Nat → Int} (h : ∀ j, j < 256 → w.cell? ⟨b, o + j, none⟩ = some (.int .u8 (c j))) : (lvR8 ⟨b, o, none⟩).run Tryz.prog w = .ok (.agg (vs .u8 256 c)) w := by
 have hr : w.rangeAt b o ((List.range 256).map fun i => Value.int .u8 (c i)) := by
  intro j v hj
  have hlt : j < 256 := by
   have := (List.getElem?_eq_some_iff.1 hj).1
   simpa using this
  rw [h j hlt]
  simp [hlt] at hj
  rw [hj]
 exact loadAt_var (run_loadAt_mid w b o 31 _ _ hr Tryz.underlying31 rfl (by rw [List.length_map, List.length_range]; kernel_rfl))
theorem svR8_mid {w : World} {b : Nat} {C : Array Value} {t : TypeId} (h : w.heap[b]? = some (.cells C t)) (o : Nat) (c : Nat → Int) (hn : o + 256 ≤ C.size) :
    (svR8 ⟨b, o, none⟩ (.agg (vs .u8 256 c))).run Tryz.prog w = .ok () (w.setCells b o (bl c 256)) := by
 have h1 := run_storeVar_mid (P := Tryz.prog) w b o 31 (vs .u8 256 c) (by rw [vs_size]; exact there_row h o 256 hn) (by rw [vs_size]; kernel_rfl) (vs_one _ _ _)
 rw [vs_list] at h1
 exact h1
theorem drL_congr {z z' : Nat → VValidator} (h : ∀ j, (z j).f2 = (z' j).f2) (L : List Int) (s : Nat → Int) : ∀ i, drL z L s i = drL z' L s i
 | 0 => rfl
 | i + 1 => by
  have e : tkB z L s i = tkB z' L s i := by unfold tkB; rw [h]
  show (if tkB z L s i = true then drL z L s i ++ _ else drL z L s i) = (if tkB z' L s i = true then drL z' L s i ++ _ else drL z' L s i)
  rw [e, drL_congr h L s i]
theorem dw_congr {z z' : Nat → VValidator} (h : ∀ j, (z j).f2 = (z' j).f2) (L : List Int) (s : Nat → Int) (want : Nat) : dwL z L s want = dwL z' L s want ∧ dwE z L s want = dwE z' L s want := by
 unfold dwL dwE dwO
 rw [drL_congr h L s 256]
 exact ⟨rfl, rfl⟩
theorem acL_congr {z z' : Nat → VValidator} (h : ∀ j, (z j).f5 = (z' j).f5 ∧ (z j).f6 = (z' j).f6) (e : Int) : ∀ n, acL z e n = acL z' e n
 | 0 => rfl
 | n + 1 => by
  have e1 : actB (z n) e = actB (z' n) e := by unfold actB; rw [(h n).1, (h n).2]
  show (if actB (z n) e = true then acL z e n ++ _ else acL z e n) = (if actB (z' n) e = true then acL z' e n ++ _ else acL z' e n)
  rw [e1, acL_congr h e n]
theorem pr_congr {Y Z : VState} (h2 : Z.f2 = Y.f2) (h13 : Z.f13 = Y.f13) (hn : Z.f11.n = Y.f11.n) (hz : ∀ j, (Z.f11.z j).f2 = (Y.f11.z j).f2 ∧ (Z.f11.z j).f5 = (Y.f11.z j).f5 ∧ (Z.f11.z j).f6 = (Y.f11.z j).f6) : prV Z = prV Y ∧ prE Z = prE Y := by
 have hs : ∀ e k, seedV Z e k = seedV Y e k := fun e k => by unfold seedV mixV; rw [h13]
 have hp : prS Z = prS Y := by unfold prS; rw [hs, h2]
 have ha : ∀ e, acE Z e = acE Y e := fun e => by unfold acE; rw [hn]; exact acL_congr (fun j => (hz j).2) e _
 have hd := dw_congr (fun j => (hz j).1) (acE Y (Y.f2 / 4)) (prS Y) 1
 unfold prV prL prE
 rw [h2, ha, hp]
 rw [hd.1, hd.2]
 exact ⟨rfl, rfl⟩
end
section
open Go.RowKit
set_option linter.unusedVariables false
set_option linter.unusedSimpArgs false
def kdB (k : Int) (j : Nat) : Int := nmB (k % 4294967296) j
def dmV (k : Int) (v r : Nat → Int) (j : Nat) : Int := if j < 4 then kdB k j else tw (pk v 4) r (j - 4)
def domV (x : VState) (k e : Int) : Nat → Int := dmV k (if e < x.f3.f2 then x.f3.f0 else x.f3.f1) x.f1
theorem kdB_64 (k : Int) (j : Nat) (hj : j < 4) : nmB (k % 18446744073709551616) j = kdB k j := by
 unfold kdB nmB
 match j, hj with
 | 0, _ => simp only [Nat.mul_zero, Int.pow_zero]; omega
 | 1, _ => show k % 18446744073709551616 / 256 % 256 = k % 4294967296 / 256 % 256; omega
 | 2, _ => show k % 18446744073709551616 / 65536 % 256 = k % 4294967296 / 65536 % 256; omega
 | 3, _ => show k % 18446744073709551616 / 16777216 % 256 = k % 4294967296 / 16777216 % 256; omega
theorem pk_in {m : Nat → Int} {len : Nat} (h : ∀ j, j < len → 0 ≤ m j ∧ m j < 256) (q : Nat) : 0 ≤ pk m len q ∧ pk m len q < 256 := by
 unfold pk
 split
 ·exact h q ‹_›
 ·omega
theorem blCongr {m m' : Nat → Int} {n : Nat} (h : ∀ j, j < n → m j = m' j) : bl m n = bl m' n := by
 unfold bl
 exact List.map_congr_left fun j hj => by rw [h j (List.mem_range.1 hj)]
theorem rt32_0 (f : Nat → Int) : rt32 f 0 = f := funext fun j => by unfold rt32; rw [Nat.mul_zero, Nat.zero_add]
def qsF (f : Nat → Int) (n : Nat) (r s : Nat → Int) (j : Nat) : Int := if j < 48 * n then f j else if j < 48 * n + 32 then r (j - 48 * n) else s (j - (48 * n + 32))
def qsV (f : Nat → Int) (n : Nat) (r s : Nat → Int) : Nat → Int := shaV KW HW (qsF f n r s) (48 * n + 128)
theorem qsF_bd {f r s : Nat → Int} {n : Nat} (hf : ∀ j, j < 48 * n → 0 ≤ f j ∧ f j < 256) (hr : ∀ j, j < 32 → 0 ≤ r j ∧ r j < 256) (hs : ∀ j, j < 96 → 0 ≤ s j ∧ s j < 256) : ∀ j, j < 48 * n + 128 → 0 ≤ qsF f n r s j ∧ qsF f n r s j < 256 := fun j hj => by
 unfold qsF
 split
 ·exact hf j ‹_›
 ·split
  ·exact hr _ (by omega)
  ·exact hs _ (by omega)
def gdB (q f : Nat → Int) (n : Nat) : Bool := !(List.range n).any fun i => eqR (rt32 f i) q
theorem gdB_zero (q f : Nat → Int) : gdB q f 0 = true := rfl
theorem gdB_succ (q f : Nat → Int) (n : Nat) : gdB q f (n + 1) = (gdB q f n && !eqR (rt32 f n) q) := by
 unfold gdB
 rw [List.range_succ, List.any_append, Bool.not_or]
 simp
theorem gdB_true {q f : Nat → Int} {n : Nat} : gdB q f n = true ↔ ∀ i, i < n → eqR (rt32 f i) q = false := by
 unfold gdB
 simp
end
end Go.Proofs.YtopnhpllidegnaaGreatDoor
