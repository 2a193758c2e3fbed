/-
  What the document's All and Churn answer.
  What LookActives answers, by what the program's functions answer.
  The state of the statements' own awake.
  What the document's RootAt, Leak and Seed answer.
-/
import Derived.Test.YtpnpmgeokicpjaaDoorQI
import Derived.Test.YtpnpmgeokicpjaaDoorStY
import Derived.Test.YtpnpmgeokicpjaaDoorQE
import Derived.Test.YtpnpmgeokicpjaaDoorQA
import Derived.Test.YtpnpmgeokicpjaaDoorHaE
import Derived.Deep.Onto

namespace Go.Proofs.YtpnpmgeokicpjaaDoor

open Go.RowKit

set_option linter.unusedVariables false

set_option linter.unusedSimpArgs false

set_option maxRecDepth 20000

attribute [local go_sem ↓] lvState_eq svState_eq bdState_eq lvValidator_eq svValidator_eq ixValidator_eq

/-- The actives of a state's epoch; their sum; how many may come. -/
def acS (x : VState) : List Int := acL x.f11.z (x.f2 / 4) x.f11.n

def chuS (x : VState) : Int := if ((acS x).length : Int) / 32 < 2 then 2 else ((acS x).length : Int) / 32

set_option maxHeartbeats 2000000 in
theorem rchurn_any (x : VState) (w : World) (hx : Lk w x) :
    Calls Tryd.prog 6 #[.agg (cel (sState x))] w fun e' w' => e' = .returned (.int .u64 (chuS x)) ∧ Below w.heap.size w w' := by
  obtain ⟨W0, hW0⟩ : ∃ W, w.alloc (.cells (cel (sState x)) 49) = W := ⟨_, rfl⟩
  have r0 : W0.heap[w.heap.size]? = some (.cells (cel (sState x)) 49) := by rw [← hW0]; exact heap_new rfl
  have hB0 : Below w.heap.size w W0 := by rw [← hW0]; exact (Below.refl _ _).alloc (Nat.le_refl _) _
  have z0 : w.heap.size < W0.heap.size := (Array.getElem?_eq_some_iff.1 r0).1
  have hld : ∀ W : World, Below W0.heap.size W0 W → (lvState ⟨w.heap.size, 0, none⟩).run Tryd.prog W = .ok (.agg (cel (sState x))) W := fun W h => lvState_run ((h.block _ z0).trans r0)
  have hx0 := hx.below hB0
  have hep := fun W : World => repoch_any x W hx.sl.1 hx.sl.2
  have hac : ∀ W : World, Below W0.heap.size W0 W → Calls Tryd.prog 13 #[.agg (cel (sState x)), .int .u64 (x.f2 / 4)] W fun e' w' => ∃ a c, e' = .returned (.slice a (acS x).length c) ∧ Nml w' a (acS x) ∧ Below W.heap.size W w' := fun W h => ractives_any x (x.f2 / 4) W (hx0.below h)
  have hch : chuS x = if ((acS x).length : Int) / 32 < 2 then 2 else ((acS x).length : Int) / 32 := rfl
  have hlen : (acS x).length ≤ 65536 := Nat.le_trans (acL_len _ _ _) hx.nb
  generalize chuS x = R at *
  generalize x.f2 / 4 = E at *
  generalize (acS x) = L at *
  obtain ⟨n, hn⟩ : ∃ n, L.length = n := ⟨_, rfl⟩
  rw [hn] at hac hch hlen
  have nw : IntKind.u64.wrap (n : Int) = (n : Int) := by rw [IntKind.wrap_u64]; omega
  have n0 : (0 : Int) ≤ (n : Int) := by omega
  have n1 : (n : Int) ≤ 65536 := by omega
  have n2 : IntKind.u64.wrap ((n : Int) / 32) = (n : Int) / 32 := by rw [IntKind.wrap_u64]; omega
  have hdr : Below W0.heap.size W0 W0.drew := (Below.refl _ _).drew
  have HDR := hid hdr
  have HB := hid hB0
  have HW := hid hW0
  have HLD := hid hld
  have HEP := hid hep
  have HAC := hid hac
  have HCH := hid hch
  clear hdr hB0 hW0 hld hep hac hx hx0 r0 hch hn
  go_enter Tryd.func6, Tryd.ntmps6
  go_upto_region 1 with fail
  rw [HW.out]
  clear HW
  refine wp_region_noPanic ?_
  refine wp_region_held_drew (S := fun W => Below W0.heap.size W0 W) (by kernel_rfl) (HDR.out) (fun hHeld => ?_)
  refine tk 0 (v := ?v5) ?y5 hHeld ?r5
  case y5 => intro w hSw; have ld := HLD.out _ hSw; go_simp; try with_reducible rfl
  refine tk 1 (v := ?v6) ?y6 hHeld ?r6
  case y6 => intro w hSw; have ld := HLD.out _ hSw; go_simp; try with_reducible rfl
  try simp only [Act.put, List.setIfInBounds_toArray, List.set_cons_zero, List.set_cons_succ, Array.toArray_toList, List.getElem_toArray, List.getElem_cons_zero, List.getElem_cons_succ]
  refine wpAnyH_ready (rs := [2]) (by kernel_rfl) (by simp) ?_
  refine AllReadyH.cons rfl (fun K hK => ?_) AllReadyH.nil
  go_simp
  refine (HEP.out _).mono ?_
  rintro e' w1 ⟨rfl, hb1⟩
  dsimp only
  have hB1 : Below W0.heap.size W0 w1 := HDR.out.trans hb1
  refine hK.out _ _ (hB1) (fun hHeld => ?_)
  clear hK K
  try simp only [Act.put, List.setIfInBounds_toArray, List.set_cons_zero, List.set_cons_succ, Array.toArray_toList, List.getElem_toArray, List.getElem_cons_zero, List.getElem_cons_succ]
  refine wpAnyH_ready (rs := [3]) (by kernel_rfl) (by simp) ?_
  refine AllReadyH.cons rfl (fun K hK => ?_) AllReadyH.nil
  go_simp
  refine (HAC.out _ hB1).mono ?_
  rintro e' w2 ⟨a2, c2, rfl, hn2, hb2⟩
  dsimp only
  have hB2 : Below W0.heap.size W0 w2 := hB1.trans (hb2.mono hB1.size)
  refine hK.out _ _ (hB2) (fun hHeld => ?_)
  clear hK K
  try simp only [Act.put, List.setIfInBounds_toArray, List.set_cons_zero, List.set_cons_succ, Array.toArray_toList, List.getElem_toArray, List.getElem_cons_zero, List.getElem_cons_succ]
  refine tk 4 (v := ?v7) ?y7 hHeld ?r7
  case y7 => intro w hSw; go_simp; try with_reducible rfl
  refine tk 5 (v := ?v8) ?y8 hHeld ?r8
  case y8 => intro w hSw; go_simp; try with_reducible rfl
  refine tk 6 (v := ?v9) ?y9 hHeld ?r9
  case y9 => intro w hSw; go_simp; try with_reducible rfl
  refine tk 7 (v := ?v10) ?y10 hHeld ?r10
  case y10 => intro w hSw; go_simp; try with_reducible rfl
  try simp only [Act.put, List.setIfInBounds_toArray, List.set_cons_zero, List.set_cons_succ, Array.toArray_toList, List.getElem_toArray, List.getElem_cons_zero, List.getElem_cons_succ]
  refine wpAnyH_done (by kernel_rfl) ?_ _
  refine NoPanic.normal ?_
  by_cases h2 : (n : Int) / 32 < 2
  · go_wp2
    go_ret
    exact ⟨ret_int (by rw [HCH.out, if_pos h2]), HB.out.trans (hB2.mono (by omega))⟩
  · go_wp2
    go_ret
    exact ⟨ret_int (by rw [HCH.out, if_neg (by omega)]), HB.out.trans (hB2.mono (by omega))⟩

end Go.Proofs.YtpnpmgeokicpjaaDoor

namespace Go.Proofs.YtpnpmgeokicpjaaDoor

open Go.RowKit

set_option linter.unusedVariables false

set_option linter.unusedSimpArgs false

set_option maxRecDepth 20000

attribute [local go_sem ↓] lvState_eq svState_eq bdState_eq lvValidator_eq svValidator_eq ixValidator_eq

theorem RtO.lk {x : VState} (h : RtO x) {w : World} (hx : OkState x) (hw : InW w x) : Lk w x := by
  refine ⟨hw.i11, h.c0, fun j hj => ?_, hx.o2.1, h.c7⟩
  have hv := h.cv j hj
  have ho := (hx.o11 j hj).2.2.1
  unfold vldB at hv
  simp only [Bool.and_eq_true, decide_eq_true_eq] at hv
  exact ⟨ho.1, hv.2.1⟩

theorem lvValidator_row {w : World} {b : Nat} {x : VValidator} {t : TypeId} (h : w.heap[b]? = some (.cells (cel (sValidator x)) t)) : (lvValidator ⟨b, 0, none⟩).run Tryd.prog w = .ok (.agg (cel (sValidator x))) w :=
  loadAt_var (load_row h 58 _ Tryd.underlying58 rfl (by rw [cel_size, slValidator]; kernel_rfl))

theorem OkState.r' {x : VState} (h : OkState x) : OkR x := ⟨h.o2, h.o11, h.o12, h.o14, h.o21⟩

theorem InW.r' {w : World} {x : VState} (h : InW w x) : InR w x := ⟨h.i11, h.i12, h.i21⟩

end Go.Proofs.YtpnpmgeokicpjaaDoor

namespace Go.Proofs.YtpnpmgeokicpjaaDoor

open Go.RowKit

set_option linter.unusedVariables false

set_option linter.unusedSimpArgs false

set_option maxRecDepth 100000

def bvV (ps : Array (Nat × Value)) : Sem Value := Instr.build 58 ps

theorem bvV_eq (ps : Array (Nat × Value)) : Instr.build 58 ps = bvV ps := rfl

def bsV (n : Nat) (ps : Array (Nat × Value)) : Sem Value := Instr.buildSlice 36 n ps

theorem bsV_eq (n : Nat) (ps : Array (Nat × Value)) : Instr.buildSlice 36 n ps = bsV n ps := rfl

/-- One validator that is active up to the epoch 9. -/
def oV1 : VValidator := ⟨fun _ => 0, fun _ => 0, 32000000000, false, 0, 0, 9, 0⟩

def X0 (g1 g2 g3 g4 g5 : Nat) : VState := { oState with f11 := ⟨some ⟨g1, 0, none⟩, 1, 1, fun _ => oV1⟩, f12 := ⟨some ⟨g2, 0, none⟩, 1, 1, fun _ => 0⟩, f15 := ⟨some ⟨g3, 0, none⟩, 1, 1, fun _ => 0⟩, f16 := ⟨some ⟨g4, 0, none⟩, 1, 1, fun _ => 0⟩, f21 := ⟨some ⟨g5, 0, none⟩, 1, 1, fun _ => 0⟩ }

end Go.Proofs.YtpnpmgeokicpjaaDoor

namespace Go.Proofs.YtpnpmgeokicpjaaDoor

open Go.RowKit

set_option linter.unusedVariables false

set_option linter.unusedSimpArgs false

set_option maxRecDepth 20000

def ix31 (x i : Value) : Sem Value := Instr.indexAt 31 x i

theorem ix31_eq (x i : Value) : Instr.indexAt 31 x i = ix31 x i := rfl

theorem sizeRoot (w : World) : (sizeOf 24).run Tryd.prog w = .ok 32 w := by
  have hi : (Tryd.prog.info? 24).map (·.size) = some 32 := by kernel_rfl
  obtain ⟨i, h1, h2⟩ := Option.map_eq_some_iff.1 hi
  simp [sizeOf, typeInfo, h1, h2]

theorem ix31_run (w : World) (g o k : Nat) (h : k < 8) : (ix31 (.pointer (some ⟨g, o, none⟩)) (.int .u64 k)).run Tryd.prog w = .ok (.pointer (some ⟨g, o + 32 * k, none⟩)) w := by
  unfold ix31 Instr.indexAt
  have h1 : (0 : Int) ≤ (k : Int) ∧ (k : Int) < 8 := by omega
  simp only [asIntOf, Sem.run_bind, Sem.run_pure, Result.andThen_ok, run_underlying Tryd.underlying31]
  simp [h1.2, sizeRoot, Instr.sureAddr, asAddr, addr_add, Nat.mul_comm]

/-- Less; the epoch ahead; the leak. -/
def lesV (a b : Int) : Int := if a < b then 0 else a - b

attribute [local go_sem ↓] lvState_eq svState_eq bdState_eq lvValidator_eq svValidator_eq ixValidator_eq sv24_eq lv24_eq bd27_eq sv8_eq ix31_eq

/-- What a seed is the sum of. -/
def sdM (k e : Int) (m : Nat → Int) (j : Nat) : Int := if j < 4 then nmB k j else if j < 12 then nmB e (j - 4) else m (j - 12)

def mixP (e : Int) : Nat := ((e % 8 + 6) % 8).toNat

def mixV (x : VState) (e : Int) (j : Nat) : Int := x.f13 (32 * mixP e + j)

def seedV (x : VState) (e k : Int) : Nat → Int := shaV KW HW (sdM (k % 4294967296) e (mixV x e)) 44

theorem sdM_bd (k e : Int) (m : Nat → Int) (hm : ∀ j, j < 32 → 0 ≤ m j ∧ m j < 256) (j : Nat) (hj : j < 44) : 0 ≤ sdM k e m j ∧ sdM k e m j < 256 := by
  unfold sdM
  by_cases h1 : j < 4
  · rw [if_pos h1]; exact nmB_bd _ _
  · rw [if_neg h1]
    by_cases h2 : j < 12
    · rw [if_pos h2]; exact nmB_bd _ _
    · rw [if_neg h2]; exact hm _ (by omega)

theorem bl_add' (m c : Nat → Int) (n k : Nat) (hm : ∀ j, j < k → m (n + j) = c j) : bl m n ++ bl c k = bl m (n + k) := by
  unfold bl
  rw [List.range_add, List.map_append, List.map_map]
  congr 1
  refine List.map_congr_left fun j hj => ?_
  show Value.int .u8 (c j) = Value.int .u8 (m (n + j))
  rw [hm j (List.mem_range.1 hj)]

/-- Bytes at a block's head behind a row of one's own. -/
theorem ap_row (W : World) (B : Nat) (v : Value) (n k cp b : Nat) (m c : Nat → Int) (ho : W.ownsRow B 5 1 v n (bl m n)) (hb : ∀ j, j < k → W.cell? ⟨b, j, none⟩ = some (.int .u8 (c j))) (hm : ∀ j, j < k → m (n + j) = c j) (hB : B ≤ W.heap.size) (hn : n ≤ 64) (hk : k ≤ 64) (hk0 : 0 < k) (ty : TypeId) :
    ∃ g' C' w', (ap22 ty v (.slice (some ⟨b, 0, none⟩) k cp)).run Tryd.prog W = .ok (.slice (some ⟨g', 0, none⟩) (n + k) C') w' ∧ w'.ownsRow B 5 1 (.slice (some ⟨g', 0, none⟩) (n + k) C') (n + k) (bl m (n + k)) ∧ Below B W w' := by
  obtain ⟨i, hi, hz0, hz1, hz2⟩ := info_parts info8
  obtain ⟨v', w', hr, ho', hg, _⟩ := run_append_own_at (P := Tryd.prog) W B 39 ty 5 i (.int .u8 0) 1 1 Tryd.underlying39 hi hz0 hz1 hz2 rfl (by decide) v n (bl m n) ho ⟨b, 0, none⟩ k cp (bl c k) (by rw [bl_len, Nat.mul_one])
    (fun j u hj => by
      obtain ⟨h1, rfl⟩ := bl_get c k j u hj
      rw [addr_add, Nat.zero_add]
      exact hb j h1) (bl_one c k) (by unfold maxLen; omega) (by omega) hB
  rw [bl_add' m c n k hm] at ho'
  obtain ⟨g', C', rfl⟩ := owns_pos ho' (by omega)
  exact ⟨g', C', w', hr, ho', below_grown (Below.refl _ _) ho hB hg⟩

end Go.Proofs.YtpnpmgeokicpjaaDoor
