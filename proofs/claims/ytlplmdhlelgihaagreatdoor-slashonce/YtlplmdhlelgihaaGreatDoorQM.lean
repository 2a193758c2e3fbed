/-
  A validator stored whole; who proposes does not hang on who leaves; what Leave and Slash answer.
  The reference: who leaves, in place.
  The reference: who is slashed.
-/
import Derived.Test.YtlplmdhlelgihaaGreatDoorQK
import Derived.Test.YtlplmdhlelgihaaGreatDoorQO
import Derived.Test.YtlplmdhlelgihaaGreatDoorQD
import Derived.Test.YtlplmdhlelgihaaGreatDoorQL
import Derived.Test.YtlplmdhlelgihaaGreatDoorQH
import Derived.BigRegion

namespace Go.Proofs.YtlplmdhlelgihaaGreatDoor

open Go.RowKit

set_option linter.unusedVariables false

set_option linter.unusedSimpArgs false

set_option maxRecDepth 20000

/-- A sum of slashings. -/
theorem cS14 {w : World} {g : Nat} {x : VState} {t : TypeId} (h : w.heap[g]? = some (.cells (cel (sState x)) t)) (p : Nat) (hp : p < 8) : w.cell? ⟨g, 979 + p, none⟩ = some (.int .u64 (x.f14 p)) := by
  rcases (by omega : p = 0 ∨ p = 1 ∨ p = 2 ∨ p = 3 ∨ p = 4 ∨ p = 5 ∨ p = 6 ∨ p = 7) with rfl | rfl | rfl | rfl | rfl | rfl | rfl | rfl
  · exact cS14_0 h
  · exact cS14_1 h
  · exact cS14_2 h
  · exact cS14_3 h
  · exact cS14_4 h
  · exact cS14_5 h
  · exact cS14_6 h
  · exact cS14_7 h

theorem BK.sla {w V : World} {y p : Nat} {X : VState} (v : Int) (h : BK w y V X) (hp : p < 8) : BK w y (V.setCell ⟨y, 979 + p, none⟩ (.int .u64 v)) (s14 X p v) :=
  h.setY (979 + p) (.int .u64 v) (na_set X p hp v) rfl rfl rfl rfl rfl rfl rfl

theorem valS_valS (X : VState) (i : Nat) (f g : VValidator → VValidator) : valS (valS X i f) i g = valS X i fun v => g (f v) := by
  unfold valS
  congr 2
  funext j
  show (if j = i then g (if i = i then f (X.f11.z i) else X.f11.z i) else if j = i then f (X.f11.z i) else X.f11.z j) = _
  by_cases hj : j = i
  · rw [if_pos hj, if_pos hj, if_pos rfl]
  · rw [if_neg hj, if_neg hj, if_neg hj]

theorem valS_at (X : VState) (i : Nat) (f : VValidator → VValidator) : (valS X i f).f11.z i = f (X.f11.z i) := if_pos rfl

theorem valS_off (X : VState) (i j : Nat) (f : VValidator → VValidator) (h : j ≠ i) : (valS X i f).f11.z j = X.f11.z j := if_neg h

theorem lvQ_le (z : Nat → VValidator) (e : Int) (h1 : e + 3 ≤ 18446744073709551614) : ∀ k, (∀ j, j < k → (z j).f6 < 18446744073709551616) → lvQ z e k ≤ 18446744073709551614
  | 0, _ => h1
  | k + 1, h => by
    have := lvQ_le z e h1 k fun j hj => h j (by omega)
    have hk := h k (by omega)
    show (if ¬ (z k).f6 = far ∧ lvQ z e k < (z k).f6 then (z k).f6 else lvQ z e k) ≤ _
    unfold far
    split <;> omega

theorem lvX_ge {x : VState} (h : OkState x) (h2 : x.f2 < 1099511627776) : x.f2 / 4 + 3 ≤ lvX x ∧ lvX x < 18446744073709551616 := by
  have h0 := h.o2.1
  have a := lvQ_bd x.f11.z (x.f2 / 4) (by omega) (by omega) x.f11.n fun j hj => (h.o11 j hj).2.2.2.2.2.2.1
  have b := lvQ_le x.f11.z (x.f2 / 4) (by omega) x.f11.n fun j hj => (h.o11 j hj).2.2.2.2.2.2.1.2
  unfold lvX
  split
  · rw [w64_in (by omega) (by omega)]; omega
  · omega

/-- What a state has to be, that somebody leaves it. -/
structure Rg (x : VState) : Prop where
  ok : OkState x
  nb : x.f11.n ≤ 65536
  ln : x.f12.n = x.f11.n
  ef : ∀ j, j < x.f11.n → 0 ≤ (x.f11.z j).f2 ∧ (x.f11.z j).f2 ≤ 32000000000
  sl : x.f2 < 1099511627776

theorem Rg.lk {x : VState} {w : World} (h : Rg x) (hw : InW w x) : Lk w x := ⟨hw.i11, h.nb, h.ef, h.ok.o2.1, h.sl⟩

theorem RtO.rg {x : VState} (h : RtO x) (ho : OkState x) : Rg x := by
  refine ⟨ho, h.c0, h.c1, fun j hj => ?_, h.c7⟩
  have := h.cv j hj
  unfold vldB at this
  simp only [Bool.and_eq_true, decide_eq_true_eq] at this
  exact ⟨(ho.o11 j hj).2.2.1.1, this.2.1⟩

theorem Rg.sim {x X : VState} (h : Rg x) (s : SimF x X) : Rg X := ⟨okF_sim s h.ok, by rw [s.l11]; exact h.nb, by rw [s.l12, s.l11]; exact h.ln, by rw [s.l11, s.z11]; exact h.ef, by rw [s.e2]; exact h.sl⟩

theorem eff_valS (X : VState) (i : Nat) (f : VValidator → VValidator) (hf : (f (X.f11.z i)).f2 = (X.f11.z i).f2) (j : Nat) : ((valS X i f).f11.z j).f2 = (X.f11.z j).f2 := by
  by_cases h : j = i
  · subst h; rw [valS_at]; exact hf
  · rw [valS_off _ _ _ _ h]

theorem eff_lvS (X : VState) (i j : Nat) : ((lvS X i).f11.z j).f2 = (X.f11.z j).f2 := by
  unfold lvS
  split
  · exact eff_valS X i (lvV (lvX X)) rfl j
  · rfl

theorem eff_slA (X : VState) (i j : Nat) : ((slA X i).f11.z j).f2 = (X.f11.z j).f2 := by
  unfold slA
  rw [eff_valS _ _ _ rfl, eff_lvS]

theorem act_valS (X : VState) (i : Nat) (f : VValidator → VValidator) (e : Int) (hf : actB (f (X.f11.z i)) e = actB (X.f11.z i) e) (j : Nat) : actB ((valS X i f).f11.z j) e = actB (X.f11.z j) e := by
  by_cases h : j = i
  · subst h; rw [valS_at]; exact hf
  · rw [valS_off _ _ _ _ h]

theorem act_lvS {X : VState} (h : OkState X) (h2 : X.f2 < 1099511627776) (i j : Nat) : actB ((lvS X i).f11.z j) (X.f2 / 4) = actB (X.f11.z j) (X.f2 / 4) := by
  unfold lvS
  split
  · rename_i hf
    refine act_valS X i (lvV (lvX X)) _ ?_ j
    have := lvX_ge h h2
    have h0 := h.o2.1
    unfold actB
    show (decide ((X.f11.z i).f5 ≤ X.f2 / 4) && decide (X.f2 / 4 < lvX X)) = _
    rw [hf, decide_eq_true (by omega : X.f2 / 4 < lvX X), decide_eq_true (by unfold far; omega : X.f2 / 4 < far)]
  · rfl

theorem act_slA {X : VState} (h : OkState X) (h2 : X.f2 < 1099511627776) (i j : Nat) : actB ((slA X i).f11.z j) (X.f2 / 4) = actB (X.f11.z j) (X.f2 / 4) := by
  unfold slA
  rw [act_valS _ _ _ _ rfl, act_lvS h h2]

theorem acL_congrB {z z' : Nat → VValidator} {e : Int} (h : ∀ j, actB (z j) e = actB (z' j) e) : ∀ n, acL z e n = acL z' e n
  | 0 => rfl
  | n + 1 => by
    show (if actB (z n) e = true then acL z e n ++ _ else acL z e n) = (if actB (z' n) e = true then acL z' e n ++ _ else acL z' e n)
    rw [h, acL_congrB h n]

theorem pr_congrB {Y Z : VState} (h2 : Z.f2 = Y.f2) (h13 : Z.f13 = Y.f13) (hn : Z.f11.n = Y.f11.n) (hz : ∀ j, (Z.f11.z j).f2 = (Y.f11.z j).f2 ∧ actB (Z.f11.z j) (Y.f2 / 4) = actB (Y.f11.z j) (Y.f2 / 4)) : prV Z = prV Y ∧ prE Z = prE Y := by
  have hs : ∀ e k, seedV Z e k = seedV Y e k := fun e k => by unfold seedV mixV; rw [h13]
  have hp : prS Z = prS Y := by unfold prS; rw [hs, h2]
  have ha : acE Z (Y.f2 / 4) = acE Y (Y.f2 / 4) := by unfold acE; rw [hn]; exact acL_congrB (fun j => (hz j).2) _
  have hd := dw_congr (fun j => (hz j).1) (acE Y (Y.f2 / 4)) (prS Y) 1
  unfold prV prL prE
  rw [h2, ha, hp, hd.1, hd.2]
  exact ⟨rfl, rfl⟩

theorem lvS_o (X : VState) (i : Nat) : (lvS X i).f2 = X.f2 ∧ (lvS X i).f13 = X.f13 ∧ (lvS X i).f11.n = X.f11.n ∧ (lvS X i).f12 = X.f12 ∧ (lvS X i).f14 = X.f14 ∧ (lvS X i).f11.a = X.f11.a ∧ (lvS X i).f11.c = X.f11.c := by
  unfold lvS
  split <;> exact ⟨rfl, rfl, rfl, rfl, rfl, rfl, rfl⟩

theorem slA_o (X : VState) (i : Nat) : (slA X i).f2 = X.f2 ∧ (slA X i).f13 = X.f13 ∧ (slA X i).f11.n = X.f11.n ∧ (slA X i).f12 = X.f12 ∧ (slA X i).f14 = X.f14 ∧ (slA X i).f11.a = X.f11.a ∧ (slA X i).f11.c = X.f11.c := lvS_o X i

/-- Who proposes is the same behind a slashing. -/
theorem pr_slC {X : VState} (h : OkState X) (h2 : X.f2 < 1099511627776) (i : Nat) : prV (slC X i) = prV X ∧ prE (slC X i) = prE X :=
  pr_congrB (slA_o X i).1 (slA_o X i).2.1 (slA_o X i).2.2.1 fun j => ⟨eff_slA X i j, act_slA h h2 i j⟩

theorem Rg.lv {X : VState} (h : Rg X) (i : Nat) : Rg (lvS X i) := by
  obtain ⟨a, b, c, d, e, f, g⟩ := lvS_o X i
  exact ⟨ok_lv h.ok h.sl i, by rw [c]; exact h.nb, by rw [c, d]; exact h.ln, fun j hj => by rw [eff_lvS]; exact h.ef j (by rw [← c]; exact hj), by rw [a]; exact h.sl⟩

theorem Rg.a {X : VState} (h : Rg X) (i : Nat) : Rg (slA X i) := by
  obtain ⟨a, b, c, d, e, f, g⟩ := slA_o X i
  exact ⟨ok_slA h.ok h.sl i, by rw [c]; exact h.nb, by rw [c, d]; exact h.ln, fun j hj => by rw [eff_slA]; exact h.ef j (by rw [← c]; exact hj), by rw [a]; exact h.sl⟩

theorem Rg.b {X : VState} (h : Rg X) (i : Nat) : Rg (slB X i) := ⟨ok_14 (h.a i).ok _ _ (w64_bd _), (h.a i).nb, (h.a i).ln, (h.a i).ef, (h.a i).sl⟩

theorem Rg.bal {X : VState} (h : Rg X) (i : Nat) (v : Int) (hv : 0 ≤ v ∧ v < 18446744073709551616) : Rg (balS X i v) := ⟨ok_bal h.ok i v hv, h.nb, h.ln, h.ef, h.sl⟩

theorem Rg.c {X : VState} (h : Rg X) (i : Nat) (hi : i < X.f11.n) : Rg (slC X i) := by
  have hb := h.b i
  have hi2 : i < (slB X i).f12.n := by
    have e1 := hb.ln
    have e2 : (slB X i).f11.n = X.f11.n := (slA_o X i).2.2.1
    omega
  have e := h.ef i hi
  exact hb.bal i _ (les_bd (hb.ok.o12 i hi2).1 (hb.ok.o12 i hi2).2 (by unfold effS; omega))

theorem pr_in {X : VState} (h0 : prE X = 0) : ∃ p : Nat, prV X = (p : Int) ∧ p < X.f11.n := by
  rcases dw_one X.f11.z (acE X (X.f2 / 4)) (prS X) 1 with ⟨a, b, c⟩ | ⟨a, b⟩
  · have h6 := c _ (getD_mem _ 0 (by rw [b]; omega))
    obtain ⟨q0, q1, _⟩ := (acL_mem _ _ _ _).1 h6
    refine ⟨(prV X).toNat, ?_, ?_⟩
    · have : 0 ≤ prV X := q0
      omega
    · have : prV X < (X.f11.n : Int) := q1
      have : 0 ≤ prV X := q0
      omega
  · exfalso
    have : prE X = 7 := a
    omega

/-- What is slashed, with a proposer that is told. -/
def sloS (X : VState) (i p : Nat) : VState := balS (slC X i) p (w64 ((slC X i).f12.z p + effS X i / 512))

theorem sloS_S {X : VState} (h : OkState X) (h2 : X.f2 < 1099511627776) (i : Nat) (h0 : prE X = 0) : slS X i = sloS X i (prV X).toNat := by
  have := pr_slC h h2 i
  unfold slS slE slP sloS
  rw [this.2, if_pos h0, this.1]

theorem Rg.o {X : VState} (h : Rg X) (i p : Nat) (hi : i < X.f11.n) : Rg (sloS X i p) := (h.c i hi).bal p _ (w64_bd _)

theorem Rg.s {X : VState} (h : Rg X) (i : Nat) (hi : i < X.f11.n) : Rg (slS X i) := by
  unfold slS
  split
  · exact (h.c i hi).bal _ _ (w64_bd _)
  · exact h.c i hi

/-- What Leave and Slash answer. -/
def lqE (x : VState) (i : Int) : Int := if rightB x = true ∧ i < (x.f11.n : Int) then (if rightB (lvS x i.toNat) = true then 0 else 2) else 1

def lqS (x : VState) (i : Int) : VState := if lqE x i = 0 then lvS x i.toNat else oState

def sqE (x : VState) (i : Int) : Int := if rightB x = true ∧ i < (x.f11.n : Int) then (if prE x = 0 then (if rightB (slS x i.toNat) = true then 0 else 2) else prE x) else 1

def sqS (x : VState) (i : Int) : VState := if sqE x i = 0 then slS x i.toNat else oState

/-- How long a state's lists are that is right. -/
theorem right_lns {x : VState} (h : rightB x = true) : Lns x := by
  have := right_small h
  unfold Lns
  omega

end Go.Proofs.YtlplmdhlelgihaaGreatDoor

namespace Go.Proofs.YtlplmdhlelgihaaGreatDoor

open Go.RowKit

set_option linter.unusedVariables false

set_option linter.unusedSimpArgs false

set_option maxRecDepth 20000

/-- Where a state's validators lie. -/
structure Vl (y g : Nat) (W : World) (X : VState) : Prop where
  c11 : W.cell? ⟨y, 721, none⟩ = some (.slice (some ⟨g, 0, none⟩) X.f11.n X.f11.c)
  row : ∃ C, W.heap[g]? = some (.cells C 62)
  at_ : ∀ k, k < X.f11.n → W.rangeAt g (86 * k) (celL (sValidator (X.f11.z k)))

theorem BK.vl {w V : World} {y g : Nat} {X : VState} (h : BK w y V X) (hg : X.f11.a = some ⟨g, 0, none⟩) : Vl y g V X := by
  have c := cS11 h.row
  rw [hg] at c
  have o := h.cpd.o11
  rw [hg] at o
  refine ⟨c, (own_row o).2, fun k hk => ?_⟩
  rcases h.inW.i11 with h0 | ⟨b, off, ea, _, hr⟩
  · omega
  · rw [hg] at ea
    cases ea
    have := hr k hk
    rw [Nat.zero_add] at this
    exact this

theorem ixV_u (W : World) (g n c k : Nat) (h : k < n) : (ixValidator (.slice (some ⟨g, 0, none⟩) n c) (.int .u64 k)).run Tryz.prog W = .ok (.pointer (some ⟨g, 86 * k, none⟩)) W := by
  have := ixValidator_u W g 0 n c k h
  rw [Nat.zero_add] at this
  exact this

theorem val_e6 {w : World} {b o : Nat} {v : VValidator} (h : w.rangeAt b o (celL (sValidator v))) : w.cell? ⟨b, o + 84, none⟩ = some (.int .u64 v.f6) := h 84 _ rfl

theorem val_e7 {w : World} {b o : Nat} {v : VValidator} (h : w.rangeAt b o (celL (sValidator v))) : w.cell? ⟨b, o + 85, none⟩ = some (.int .u64 v.f7) := h 85 _ rfl

theorem val_e3 {w : World} {b o : Nat} {v : VValidator} (h : w.rangeAt b o (celL (sValidator v))) : w.cell? ⟨b, o + 81, none⟩ = some (.bool v.f3) := h 81 _ rfl

attribute [local go_sem ↓] lvState_eq svState_eq lvValidator_eq svValidator_eq ixValidator_eq

end Go.Proofs.YtlplmdhlelgihaaGreatDoor

namespace Go.Proofs.YtlplmdhlelgihaaGreatDoor

open Go.RowKit

set_option linter.unusedVariables false

set_option linter.unusedSimpArgs false

set_option maxRecDepth 20000

theorem ixU_u (w : World) (b off len cap i : Nat) (h : i < len) : (ixU (.slice (some ⟨b, off, none⟩) len cap) (.int .u64 i)).run Tryz.prog w = .ok (.pointer (some ⟨b, off + i, none⟩)) w := by
  unfold ixU Instr.indexAt
  have h1 : (0 : Int) ≤ (i : Int) ∧ (i : Int) < (len : Int) := by omega
  simp only [asIntOf, Sem.run_bind, Sem.run_pure, Result.andThen_ok, run_underlying Tryz.underlying37, if_pos h1, size_u64, Addr.add_mid, Int.toNat_natCast, Nat.mul_one]

theorem ixN_u (w : World) (b len cap i : Nat) (h : i < len) : (ixU (.slice (some ⟨b, 0, none⟩) len cap) (.int .u64 i)).run Tryz.prog w = .ok (.pointer (some ⟨b, i, none⟩)) w := by
  have := ixU_u w b 0 len cap i h
  rw [Nat.zero_add] at this
  exact this

/-- Where a state's balances lie. -/
structure Bl12 (y g : Nat) (W : World) (X : VState) : Prop where
  c12 : W.cell? ⟨y, 722, none⟩ = some (.slice (some ⟨g, 0, none⟩) X.f12.n X.f12.c)
  row : ∃ C, W.heap[g]? = some (.cells C 22)
  at_ : ∀ k, k < X.f12.n → W.cell? ⟨g, k, none⟩ = some (.int .u64 (X.f12.z k))

theorem BK.bl12 {w V : World} {y g : Nat} {X : VState} (h : BK w y V X) (hg : X.f12.a = some ⟨g, 0, none⟩) : Bl12 y g V X := by
  have c := cS12 h.row
  rw [hg] at c
  have o := h.cpd.o12
  rw [hg] at o
  refine ⟨c, (own_row o).2, fun k hk => ?_⟩
  rcases h.inW.i12 with h0 | ⟨b, off, ea, _, hr⟩
  · omega
  · rw [hg] at ea
    cases ea
    have := hr k hk
    rw [Nat.zero_add] at this
    exact this

attribute [local go_sem ↓] lvState_eq svState_eq bdState_eq lvValidator_eq svValidator_eq ixValidator_eq ixU_eq

theorem BK.res {w V : World} {y : Nat} {Y : VState} (h : BK w y V Y) : Res w.heap.size V Y Y := ⟨.refl _, h.inW, h.cpd.nil, h.cpd.nw⟩

end Go.Proofs.YtlplmdhlelgihaaGreatDoor
