/-
  The program's epochOf, ownerOf, sharesOf, Shares and isEmpty.
-/

import Derived.Test.YtficlakgameglaaDoorQQ
import Derived.Test.YtficlakgameglaaDoorLkW
import Derived.Test.YtficlakgameglaaDoorQN
import Derived.BigRegion

namespace Go.Proofs.YtficlakgameglaaDoor

open Go.RowKit

set_option linter.unusedVariables false

set_option linter.unusedSimpArgs false

set_option maxRecDepth 20000

attribute [local go_sem ↓] lvState_eq lvKy_eq ixValidator_eq

theorem epoC_any (n : Int) (w : World) (h0 : 0 ≤ n) (h1 : n < 18446744073709551616) :
    Calls Tryd.prog 29 #[.int .u64 n] w fun e' w' => e' = .returned (.int .u64 (n / 4)) ∧ w' = w := by
  have k1 : n.tdiv 4 = n / 4 := Int.tdiv_eq_ediv_of_nonneg h0
  have k2 : IntKind.u64.wrap (n / 4) = n / 4 := by rw [IntKind.wrap_u64]; omega
  go_enter Tryd.func29, Tryd.ntmps29
  go_wp2
  go_ret
  exact ⟨rfl, rfl⟩

set_option maxHeartbeats 4000000 in
theorem ownC_any (x : VState) (K0 : Nat → Int) (w : World) (hw : InW w x) (hn : x.f11.n ≤ 65536) :
    Calls Tryd.prog 44 #[.agg (cel (sState x)), .agg (vs .u8 48 K0)] w fun e' w' => e' = .returned (.tuple #[.int .i64 ((if owN x.f11.z K0 x.f11.n < x.f11.n then owN x.f11.z K0 x.f11.n else 0 : Nat) : Int), .bool (decide (owN x.f11.z K0 x.f11.n < x.f11.n))]) ∧ Below w.heap.size w w' := by
  obtain ⟨W0, hW0⟩ : ∃ W, (w.alloc (.cells (cel (sState x)) 49)).alloc (.cells (vs .u8 48 K0) 44) = W := ⟨_, rfl⟩
  have r0 : W0.heap[w.heap.size]? = some (.cells (cel (sState x)) 49) := by rw [← hW0]; exact (heap_old (by simp)).trans (heap_new rfl)
  have r1 : W0.heap[w.heap.size + 1]? = some (.cells (vs .u8 48 K0) 44) := by rw [← hW0]; exact heap_new (by simp)
  have hB0 : Below w.heap.size w W0 := by rw [← hW0]; exact ((Below.refl _ _).alloc (Nat.le_refl _) _).alloc (by simp) _
  have z0 : w.heap.size < W0.heap.size := some_ltK r0
  have z1 : w.heap.size + 1 < W0.heap.size := some_ltK r1
  have hcs : ∀ W : World, Below W0.heap.size W0 W → W.cell? ⟨w.heap.size, 721, none⟩ = some (.slice x.f11.a x.f11.n x.f11.c) := fun W h => cS11 ((h.block _ z0).trans r0)
  have hkq : ∀ W : World, Below W0.heap.size W0 W → (lvKy ⟨w.heap.size + 1, 0, none⟩).run Tryd.prog W = .ok (.agg (vs .u8 48 K0)) W := fun W h => lvKy_run ((h.block _ z1).trans r1)
  have hel := (hw.below hB0).i11
  have c0 := hcs W0 (Below.refl _ _)
  have HB := hid hB0
  have HW := hid hW0
  have HCS := hid hcs
  have HKQ := hid hkq
  have HEL := hid hel
  clear hB0 hW0 r0 r1 hcs hkq hel hw
  generalize x.f11.a = A at *
  generalize x.f11.n = n at *
  generalize x.f11.c = C at *
  generalize x.f11.z = z at *
  obtain ⟨IV, eI⟩ : ∃ i : Int, ((if owN z K0 n < n then owN z K0 n else 0 : Nat) : Int) = i := ⟨_, rfl⟩
  obtain ⟨BV, eB⟩ : ∃ i, decide (owN z K0 n < n) = i := ⟨_, rfl⟩
  rw [eI, eB]
  have HEI := hid eI
  have HEB := hid eB
  clear eI eB
  go_enter Tryd.func44, Tryd.ntmps44
  go_upto_region 1 with fail
  rw [HW.out]
  clear HW
  go_wp2
  go_loopw [10] (fun i wr => ∃ k : Nat, k ≤ n ∧ i = .int .i64 k ∧ (∀ j, j < k → eqY (z j).f0 K0 = false) ∧ Below W0.heap.size W0 wr) (fun i _ => n - (intOf i).toNat)
  case atStart => exact ⟨0, by omega, rfl, fun j hj => absurd hj (Nat.not_lt_zero _), Below.refl _ _⟩
  case round =>
    obtain ⟨k, hk, rfl, hg, hb⟩ := hrel
    by_cases hlt : k < n
    · have k1 : (k : Int) < (n : Int) := by omega
      have k2 : IntKind.i64.wrap ((k : Int) + 1) = (k : Int) + 1 := by rw [IntKind.wrap_i64]; omega
      rcases HEL.out with h0 | ⟨b, off, ea, hbl, hc⟩
      · omega
      subst ea
      have hla : ∀ W, Below W0.heap.size W0 W → (lvKy ⟨b, off + 86 * k, none⟩).run Tryd.prog W = .ok (.agg (vs .u8 48 (z k).f0)) W := fun W h => lvKy_mid fun j hj => (below_cell h hbl).trans (val_key (hc k hlt) j hj)
      have hix := fun W => ixValidator_run W b off n C k hlt
      have hst : ∀ j, j < k + 1 → eqY (z k).f0 K0 = false → eqY (z j).f0 K0 = false := fun j hj h => by
        by_cases e : j = k
        · rw [e]; exact h
        · exact hg j (by omega)
      have hfo : eqY (z k).f0 K0 = true → owN z K0 n = k := fun h => owN_at z K0 k hg h n hlt
      obtain ⟨P, eP⟩ : ∃ P, off + 86 * k = P := ⟨_, rfl⟩
      rw [eP] at hla
      simp only [eP] at hix
      obtain ⟨R, eR⟩ : ∃ R, (z k).f0 = R := ⟨_, rfl⟩
      rw [eR] at hla hst hfo
      have HIX := hid hix
      have HLA := hid hla
      have HST := hid hst
      have HFO := hid hfo
      have HDR := hid hb.drew
      clear hix hla hst hfo hg hb hc hbl eR eP
      cases he : eqY R K0
      · have HEQ := hid he
        go_upto_region 4 with fail
        refine wp_region_noPanic ?_
        refine wp_region_held_drew (S := fun W => Below W0.heap.size W0 W) (by kernel_rfl) (HDR.out) (fun hHeld => ?_)
        refine tk 0 (v := ?v101) ?y101 hHeld ?r101
        case y101 => intro w hSw; go_simp; try with_reducible rfl
        refine tk 1 (v := ?v102) ?y102 hHeld ?r102
        case y102 => intro w hSw; have ld0 := HCS.out w hSw; go_simp; try with_reducible rfl
        refine tk 2 (v := ?v103) ?y103 hHeld ?r103
        case y103 => intro w hSw; go_simp; try with_reducible rfl
        refine tk 3 (v := ?v104) ?y104 hHeld ?r104
        case y104 => intro w hSw; have ld0 := HIX.out w; go_simp; try with_reducible rfl
        refine tk 4 (v := ?v105) ?y105 hHeld ?r105
        case y105 => intro w hSw; go_simp; try with_reducible rfl
        refine tk 5 (v := ?v106) ?y106 hHeld ?r106
        case y106 => intro w hSw; have ld0 := HLA.out w hSw; go_simp; try with_reducible rfl
        refine tk 6 (v := ?v107) ?y107 hHeld ?r107
        case y107 => intro w hSw; have ld0 := HKQ.out w hSw; go_simp; try with_reducible rfl
        try simp only [Act.put, List.setIfInBounds_toArray, List.set_cons_zero, List.set_cons_succ, Array.toArray_toList, List.getElem_toArray, List.getElem_cons_zero, List.getElem_cons_succ]
        refine wpAnyH_take (i := 7) rfl (by kernel_rfl) (by kernel_rfl) (by kernel_rfl) (fun _ _ _ h => h) (yields_eqY (by rfl) _ _ _ rfl R K0 rfl rfl) hHeld ?_
        rw [HEQ.out]
        try simp only [Act.put, List.setIfInBounds_toArray, List.set_cons_zero, List.set_cons_succ, Array.toArray_toList, List.getElem_toArray, List.getElem_cons_zero, List.getElem_cons_succ]
        refine wpAnyH_done (by kernel_rfl) ?_ _
        refine NoPanic.normal ?_
        go_wp2
        go_roundw
        case rel => exact ⟨k + 1, by omega, by go_num, fun j hj => HST.out j hj HEQ.out, HDR.out⟩
        case measure => simp [intOf]; omega
      · have HEQ := hid he
        have hF := HFO.out he
        obtain rfl : (k : Int) = IV := by rw [← HEI.out, hF, if_pos hlt]
        obtain rfl : true = BV := by rw [← HEB.out, hF, decide_eq_true hlt]
        go_upto_region 4 with fail
        refine wp_region_noPanic ?_
        refine wp_region_held_drew (S := fun W => Below W0.heap.size W0 W) (by kernel_rfl) (HDR.out) (fun hHeld => ?_)
        refine tk 0 (v := ?v108) ?y108 hHeld ?r108
        case y108 => intro w hSw; go_simp; try with_reducible rfl
        refine tk 1 (v := ?v109) ?y109 hHeld ?r109
        case y109 => intro w hSw; have ld0 := HCS.out w hSw; go_simp; try with_reducible rfl
        refine tk 2 (v := ?v110) ?y110 hHeld ?r110
        case y110 => intro w hSw; go_simp; try with_reducible rfl
        refine tk 3 (v := ?v111) ?y111 hHeld ?r111
        case y111 => intro w hSw; have ld0 := HIX.out w; go_simp; try with_reducible rfl
        refine tk 4 (v := ?v112) ?y112 hHeld ?r112
        case y112 => intro w hSw; go_simp; try with_reducible rfl
        refine tk 5 (v := ?v113) ?y113 hHeld ?r113
        case y113 => intro w hSw; have ld0 := HLA.out w hSw; go_simp; try with_reducible rfl
        refine tk 6 (v := ?v114) ?y114 hHeld ?r114
        case y114 => intro w hSw; have ld0 := HKQ.out w hSw; go_simp; try with_reducible rfl
        try simp only [Act.put, List.setIfInBounds_toArray, List.set_cons_zero, List.set_cons_succ, Array.toArray_toList, List.getElem_toArray, List.getElem_cons_zero, List.getElem_cons_succ]
        refine wpAnyH_take (i := 7) rfl (by kernel_rfl) (by kernel_rfl) (by kernel_rfl) (fun _ _ _ h => h) (yields_eqY (by rfl) _ _ _ rfl R K0 rfl rfl) hHeld ?_
        rw [HEQ.out]
        try simp only [Act.put, List.setIfInBounds_toArray, List.set_cons_zero, List.set_cons_succ, Array.toArray_toList, List.getElem_toArray, List.getElem_cons_zero, List.getElem_cons_succ]
        refine wpAnyH_done (by kernel_rfl) ?_ _
        refine NoPanic.normal ?_
        go_wp2
        go_ret2
        exact ⟨rfl, HB.out.trans (HDR.out.mono HB.out.size)⟩
    · obtain rfl : k = n := by omega
      have hF := owN_none z K0 k hg
      obtain rfl : 0 = IV := by rw [← HEI.out, hF, if_neg (Nat.lt_irrefl k)]; rfl
      obtain rfl : false = BV := by rw [← HEB.out, hF, decide_eq_false (Nat.lt_irrefl k)]
      have HBB := hid hb
      clear hg hb
      go_wp2
      go_ret2
      exact ⟨rfl, HB.out.trans (HBB.out.mono HB.out.size)⟩

/-- Shares in memory. -/
def svSh (a : Addr) (v : Value) : Sem Unit := storeVar 65 a v

theorem svSh_eq (a : Addr) (v : Value) : storeVar 65 a v = svSh a v := rfl

def lvSh (a : Addr) : Sem Value := loadVar 65 a

theorem lvSh_eq (a : Addr) : loadVar 65 a = lvSh a := rfl

def bdSh (ps : Array (Nat × Value)) : Sem Value := Instr.build 65 ps

theorem bdSh_eq (ps : Array (Nat × Value)) : Instr.build 65 ps = bdSh ps := rfl

theorem bdSh_run (W : World) (m q : Int) : (bdSh #[(0, .int .u64 m), (1, .int .u64 q)]).run Tryd.prog W = .ok (.agg #[.int .u64 m, .int .u64 q]) W := by kernel_rfl

theorem zeroSh (W : World) : (zeroValue 65).run Tryd.prog W = .ok (.agg #[.int .u64 0, .int .u64 0]) W := by kernel_rfl

theorem svSh_newv (W : World) (m q : Int) : (svSh ⟨W.heap.size, 0, none⟩ (.agg #[.int .u64 m, .int .u64 q])).run Tryd.prog (W.alloc (.cells #[.int .u64 0, .int .u64 0] 65)) = .ok () (W.alloc (.cells #[.int .u64 m, .int .u64 q] 65)) :=
  run_storeVar_new W 65 _ _ (by kernel_rfl) rfl (by kernel_rfl)

theorem svSh_run {w : World} {b : Nat} (m q m' q' : Int) (h : w.heap[b]? = some (.cells #[.int .u64 m', .int .u64 q'] 65)) : (svSh ⟨b, 0, none⟩ (.agg #[.int .u64 m, .int .u64 q])).run Tryd.prog w = .ok () (w.setRow b #[.int .u64 m, .int .u64 q]) :=
  run_storeVar_row w b 65 65 _ _ h (by kernel_rfl) rfl (by kernel_rfl)

theorem row_cell2 {w : World} {b : Nat} {C : Array Value} {t : TypeId} (h : w.heap[b]? = some (.cells C t)) (i : Nat) (v : Value) (e : C[i]? = some v) : w.cell? ⟨b, i, none⟩ = some v := (row_cell h i).trans e

theorem retSh {fn : Func} {R : Ending → World → Prop} {a : Act} {w' : World} (t : Tmp) (b : Nat) (m q : Int) (h : fn.results = #[.cell t 65]) (hd : a.defers = []) (ht : a.tmps.getD t undef = .pointer (some ⟨b, 0, none⟩)) (hr : w'.heap[b]? = some (.cells #[.int .u64 m, .int .u64 q] 65))
    (hR : R (.returned (.agg #[.int .u64 m, .int .u64 q])) w') : bodyPost Tryd.prog fn R .ret a w' := by
  refine bodyPost_ret ?_ hd hR
  have hl := loadAt_var (load_row (P := Tryd.prog) hr 65 _ Tryd.underlying65 rfl (by kernel_rfl))
  rw [Array.getD_eq_getD_getElem?] at ht
  simp [results, h, ht, hl, asAddr]

attribute [local go_sem ↓] svSh_eq lvSh_eq bdSh_eq

set_option maxHeartbeats 4000000 in
theorem shof_any (x : VState) (r : Int) (w : World) (hR : Rg x) (hw : InW w x) (hr : IsRut (allS x) r) :
    Calls Tryd.prog 12 #[.agg (cel (sState x))] w fun e' w' => e' = .returned (.agg #[.int .u64 (shM x r), .int .u64 (shQ x r)]) ∧ Below w.heap.size w w' := by
  obtain ⟨W0, hW0⟩ : ∃ W, (w.alloc (.cells (cel (sState x)) 49)).alloc (.cells #[.int .u64 0, .int .u64 0] 65) = W := ⟨_, rfl⟩
  have r0 : W0.heap[w.heap.size]? = some (.cells (cel (sState x)) 49) := by rw [← hW0]; exact (heap_old (by simp)).trans (heap_new rfl)
  have r1 : W0.heap[w.heap.size + 1]? = some (.cells #[.int .u64 0, .int .u64 0] 65) := by rw [← hW0]; exact heap_new (by simp)
  have hB0 : Up w W0 := by rw [← hW0]; exact ((Below.refl _ _).alloc (Nat.le_refl _) _).alloc (by simp) _
  have hld : ∀ W : World, Up W0 W → (lvState ⟨w.heap.size, 0, none⟩).run Tryd.prog W = .ok (.agg (cel (sState x))) W := fun W h => lvState_run (upR h r0)
  have hc2 : ∀ W : World, Up W0 W → W.cell? ⟨w.heap.size, 33, none⟩ = some (.int .u64 x.f2) := fun W h => cS2 (upR h r0)
  have hx := hR.lk hw
  have hep := fun W : World => epoC_any x.f2 W hR.ok.o2.1 hR.ok.o2.2
  have hac : ∀ W : World, Up W0 W → Calls Tryd.prog 28 #[.agg (cel (sState x)), .int .u64 (x.f2 / 4)] W fun e' w' => ∃ a c, e' = .returned (.slice a (acS x).length c) ∧ Nml w' a (acS x) ∧ Below W.heap.size W w' := fun W h => actives_prog x (x.f2 / 4) W (hx.below (upT hB0 h)) hR.ok.o11
  have hto : ∀ (W : World) a c, Up W0 W → Nml W a (acS x) → Calls Tryd.prog 27 #[.agg (cel (sState x)), .slice a (acS x).length c] W fun e' w' => e' = .returned (.int .u64 (allS x)) ∧ Below W.heap.size W w' := fun W a c h hn => total_prog x a (acS x).length c _ W (hx.below (upT hB0 h)) hn (acS_bd x hx.nb) (Nat.le_trans (acL_len _ _ _) hx.nb)
  have hab := allS_bd x hx.nb hx.ef
  have hrp := root_pos hr hab.1
  have hro : ∀ W : World, Calls Tryd.prog 30 #[.int .u64 (allS x)] W fun e w' => e = .returned (.int .u64 r) ∧ w' = W := fun W => by
    refine (root_prog (allS x) W (by omega) (by omega)).mono ?_
    rintro e w' ⟨⟨r', rfl, h⟩, rfl⟩
    exact ⟨by rw [rut_unique hr h], rfl⟩
  have hsb := sh_base hab.1 hab.2 hrp
  have hpb := per_bd hrp
  have eM : shM x r = allS x / 1000000000 * (64000000000 / r) * 2 / 64 / 4 / 8 := rfl
  have eQ : shQ x r = shM x r * 8 / 56 := rfl
  generalize shQ x r = Q at *
  generalize shM x r = M at *
  generalize allS x = AL at *
  generalize x.f2 / 4 = E at *
  generalize acS x = LL at *
  obtain ⟨P, eP⟩ : ∃ P, 64000000000 / r = P := ⟨_, rfl⟩
  have eP2 : (64000000000 : Int).tdiv r = P := by rw [Int.tdiv_eq_ediv_of_nonneg (by omega), eP]
  have eP3 : IntKind.u64.wrap P = P := by rw [IntKind.wrap_u64]; rw [eP] at hpb; omega
  rw [eP] at hsb eM
  obtain ⟨B, eB⟩ : ∃ B, AL / 1000000000 * P = B := ⟨_, rfl⟩
  rw [eB] at hsb eM
  have a0 : AL.tdiv 1000000000 = AL / 1000000000 := Int.tdiv_eq_ediv_of_nonneg (by omega)
  have a1 : IntKind.u64.wrap (AL / 1000000000) = AL / 1000000000 := by rw [IntKind.wrap_u64]; omega
  have a2 : IntKind.u64.wrap (AL / 1000000000 * P) = B := by rw [eB, IntKind.wrap_u64]; omega
  have b1 : IntKind.u64.wrap (B * 2) = B * 2 := by rw [IntKind.wrap_u64]; omega
  have b2 : (B * 2).tdiv 64 = B * 2 / 64 := Int.tdiv_eq_ediv_of_nonneg (by omega)
  have b3 : IntKind.u64.wrap (B * 2 / 64) = B * 2 / 64 := by rw [IntKind.wrap_u64]; omega
  have b4 : (B * 2 / 64).tdiv 4 = B * 2 / 64 / 4 := Int.tdiv_eq_ediv_of_nonneg (by omega)
  have b5 : IntKind.u64.wrap (B * 2 / 64 / 4) = B * 2 / 64 / 4 := by rw [IntKind.wrap_u64]; omega
  have b6 : (B * 2 / 64 / 4).tdiv 8 = M := by rw [Int.tdiv_eq_ediv_of_nonneg (by omega), eM]
  have b7 : IntKind.u64.wrap M = M := by rw [IntKind.wrap_u64]; omega
  have m1 : IntKind.u64.wrap (M * 8) = M * 8 := by rw [IntKind.wrap_u64]; omega
  have m2 : (M * 8).tdiv 56 = Q := by rw [Int.tdiv_eq_ediv_of_nonneg (by omega), eQ]
  have m3 : IntKind.u64.wrap Q = Q := by rw [IntKind.wrap_u64]; omega
  have rz : (r == 0) = false := by simp; omega
  have rz' : ¬ r = 0 := by omega
  have bdz := fun W => bdSh_run W M Q
  have hdr : Up W0 W0.drew := (Below.refl _ _).drew
  have zs := zeroSh
  have HDR := hid hdr
  have HB := hid hB0
  have HW := hid hW0
  have HLD := hid hld
  have HC2 := hid hc2
  have HEP := hid hep
  have HAC := hid hac
  have HTO := hid hto
  have HRO := hid hro
  have R1 := hid r1
  clear hdr hB0 hW0 hld hc2 hep hac hto hro hx hw hR r0 r1 hr hab hsb hpb eB eM eQ hrp
  go_enter Tryd.func12, Tryd.ntmps12
  go_upto_region 1 with fail
  rw [HW.out]
  clear HW zs
  refine wp_region_noPanic ?_
  refine wp_region_held_drew (S := fun W => Up W0 W) (by kernel_rfl) (HDR.out) (fun hHeld => ?_)
  generalize W0.drew = wd at hHeld ⊢
  refine tk 0 (v := ?v101) ?y101 hHeld ?r101
  case y101 => intro w hSw; have ld0 := HLD.out w hSw; go_simp; try with_reducible rfl
  refine tk 1 (v := ?v102) ?y102 hHeld ?r102
  case y102 => intro w hSw; have ld0 := HLD.out w hSw; go_simp; try with_reducible rfl
  refine tk 2 (v := ?v103) ?y103 hHeld ?r103
  case y103 => intro w hSw; go_simp; try with_reducible rfl
  refine tk 3 (v := ?v104) ?y104 hHeld ?r104
  case y104 => intro w hSw; have ld0 := HC2.out w hSw; go_simp; try with_reducible rfl
  try simp only [Act.put, List.setIfInBounds_toArray, List.set_cons_zero, List.set_cons_succ, Array.toArray_toList, List.getElem_toArray, List.getElem_cons_zero, List.getElem_cons_succ]
  refine rd1 4 (fun K hK => ?_)
  go_simp
  refine (HEP.out _).mono ?_
  rintro e' w1 ⟨rfl, hw1⟩
  obtain rfl := hw1.symm
  dsimp only
  have hB1 := hHeld
  refine hK.out _ _ hB1 (fun hHeld => ?_)
  clear hK K
  try simp only [Act.put, List.setIfInBounds_toArray, List.set_cons_zero, List.set_cons_succ, Array.toArray_toList, List.getElem_toArray, List.getElem_cons_zero, List.getElem_cons_succ]
  refine wpAnyH_ready (rs := [5]) (by kernel_rfl) (by simp) ?_
  refine AllReadyH.cons rfl (fun K hK => ?_) AllReadyH.nil
  go_simp
  refine (HAC.out _ hB1).mono ?_
  rintro e' w2 ⟨a2, c2, rfl, hn2, hb2⟩
  dsimp only
  refine hK.out _ _ (upT hB1 hb2) (fun hHeld => ?_)
  clear hK K
  try simp only [Act.put, List.setIfInBounds_toArray, List.set_cons_zero, List.set_cons_succ, Array.toArray_toList, List.getElem_toArray, List.getElem_cons_zero, List.getElem_cons_succ]
  refine wpAnyH_ready (rs := [6]) (by kernel_rfl) (by simp) ?_
  refine AllReadyH.cons rfl (fun K hK => ?_) AllReadyH.nil
  go_simp
  refine (HTO.out _ a2 c2 (upT hB1 hb2) hn2).mono ?_
  rintro e' w3 ⟨rfl, hb3⟩
  dsimp only
  refine hK.out _ _ (upT (upT hB1 hb2) hb3) (fun hHeld => ?_)
  clear hK K
  try simp only [Act.put, List.setIfInBounds_toArray, List.set_cons_zero, List.set_cons_succ, Array.toArray_toList, List.getElem_toArray, List.getElem_cons_zero, List.getElem_cons_succ]
  refine tk 7 (v := ?v105) ?y105 hHeld ?r105
  case y105 => intro w hSw; go_simp; try with_reducible rfl
  try simp only [Act.put, List.setIfInBounds_toArray, List.set_cons_zero, List.set_cons_succ, Array.toArray_toList, List.getElem_toArray, List.getElem_cons_zero, List.getElem_cons_succ]
  refine wpAnyH_done (by kernel_rfl) ?_ _
  refine NoPanic.normal ?_
  have HW3 := hid (upT (upT hB1 hb2) hb3)
  clear hB1 hb2 hb3 hn2 hHeld HDR HEP HAC HTO
  go_upto_region 3 with (go_at_call 30; refine (HRO.out _).mono ?_; rintro e' w5 ⟨rfl, hw5⟩)
  subst hw5
  have s5 := svSh_run M Q 0 0 (upR HW3.out R1.out)
  have r5 := upR HW3.out R1.out
  clear rz rz' HRO
  go_wp2
  exact retSh 2 (w.heap.size + 1) M Q rfl rfl rfl (setRow_at r5) ⟨rfl, below_row (upT HB.out HW3.out) (by omega) _⟩

set_option maxHeartbeats 4000000 in
theorem shares_prog (x : VState) (r : Int) (w : World) (hx : OkState x) (hw : InW w x) (hl : Lns x) (hr : IsRut (allS x) r) :
    Calls Tryd.prog 6 #[.agg (cel (sState x))] w fun e' w' => e' = .returned (.tuple #[.int .u64 (if rightB x = true then shM x r else 0), .int .u64 (if rightB x = true then shQ x r else 0)]) ∧ Below w.heap.size w w' := by
  obtain ⟨W0, hW0⟩ : ∃ W, w.alloc (.cells (cel (sState x)) 49) = W := ⟨_, rfl⟩
  have r0 : W0.heap[w.heap.size]? = some (.cells (cel (sState x)) 49) := by rw [← hW0]; exact heap_new rfl
  have hB0 : Up w W0 := by rw [← hW0]; exact (Below.refl _ _).alloc (Nat.le_refl _) _
  have hri := right_any x W0 hx.r' (hw.below hB0).r' hl
  have lx := lvState_run r0
  have HW := hid hW0
  have HB := hid hB0
  cases hR : rightB x
  · rw [hR] at hri
    have HRI := hid hri
    clear hri hB0 hW0 r0 hx hw hl hr hR
    go_enter Tryd.func6, Tryd.ntmps6
    go_upto_region 1 with fail
    rw [HW.out]
    clear HW
    go_wp2_with (go_at_call 11; refine HRI.out.mono ?_; rintro e' w1 ⟨rfl, hu⟩)
    go_ret2
    exact ⟨rfl, upT HB.out hu⟩
  · rw [hR] at hri
    have hsh := fun (W : World) (h : Up W0 W) => shof_any x r W ((rightB_out hR).rg hx) (hw.below (upT hB0 h)) hr
    have R0 := hid r0
    have HSH := hid hsh
    have HRI := hid hri
    clear hri hB0 hW0 r0 hx hw hl hr hsh hR
    simp only [if_true]
    generalize shQ x r = Q at *
    generalize shM x r = M at *
    have zs := zeroSh
    go_enter Tryd.func6, Tryd.ntmps6
    go_upto_region 1 with fail
    rw [HW.out]
    clear HW
    go_upto_region 3 with (go_at_call 11; refine HRI.out.mono ?_; rintro e' w1 ⟨rfl, hu⟩; have lx1 := lvState_run (upR hu R0.out))
    clear lx HRI
    go_upto_region 4 with (go_at_call 12; refine (HSH.out _ hu).mono ?_; rintro e' w2 ⟨rfl, hu2⟩; have sv := svSh_newv w2 M Q)
    obtain ⟨W3, y1, hW3, ey, r1, hd3, _⟩ := upN2 hu2 (.cells #[.int .u64 M, .int .u64 Q] 65)
    rw [hW3, ey]
    have R1 := hid r1
    have HU := hid (upT HB.out (upT hu (upT hu2 hd3)))
    clear hW3 ey r1 hd3 hu hu2 HSH sv zs lx1
    refine wp_region_noPanic ?_
    refine wp_region_held_drew (S := fun W => W.heap[y1]? = some (.cells #[.int .u64 M, .int .u64 Q] 65)) (by kernel_rfl) (upR ((Below.refl _ _).drew) R1.out) (fun hHeld => ?_)
    refine tk 0 (v := ?v106) ?y106 hHeld ?r106
    case y106 => intro w hSw; go_simp; try with_reducible rfl
    refine tk 1 (v := ?v107) ?y107 hHeld ?r107
    case y107 => intro w hSw; have ld0 := row_cell2 hSw 0 _ rfl; go_simp; try with_reducible rfl
    refine tk 2 (v := ?v108) ?y108 hHeld ?r108
    case y108 => intro w hSw; go_simp; try with_reducible rfl
    refine tk 3 (v := ?v109) ?y109 hHeld ?r109
    case y109 => intro w hSw; have ld0 := row_cell2 hSw 1 _ rfl; go_simp; try with_reducible rfl
    refine tk 4 (v := ?v110) ?y110 hHeld ?r110
    case y110 => intro w hSw; go_simp; try with_reducible rfl
    refine tk 5 (v := ?v111) ?y111 hHeld ?r111
    case y111 => intro w hSw; go_simp; try with_reducible rfl
    try simp only [Act.put, List.setIfInBounds_toArray, List.set_cons_zero, List.set_cons_succ, Array.toArray_toList, List.getElem_toArray, List.getElem_cons_zero, List.getElem_cons_succ]
    refine wpAnyH_done (by kernel_rfl) ?_ _
    refine NoPanic.normal ?_
    go_wp2
    go_ret2
    exact ⟨rfl, HU.out.drew⟩

end Go.Proofs.YtficlakgameglaaDoor
