/-
  A validator stored whole; who proposes does not hang on who leaves; what Leave and Slash answer.
-/

import Derived.Test.YtpnpmgeokicpjaaGreatDoorQP
import Derived.Test.YtpnpmgeokicpjaaGreatDoorQS
import Derived.Test.YtpnpmgeokicpjaaGreatDoorQF
namespace Go.Proofs.YtpnpmgeokicpjaaGreatDoor

open Go.RowKit

set_option linter.unusedVariables false

set_option linter.unusedSimpArgs false

set_option maxRecDepth 20000

def setL : List Value → Nat → List Value → List Value
  | xs, _, [] => xs
  | xs, o, v :: r => setL (xs.set o v) (o + 1) r

theorem setL_full : ∀ (l a b : List Value), b.length = l.length → setL (a ++ b) a.length l = a ++ l
  | [], a, b, h => by rw [List.length_eq_zero_iff.1 h]; rfl
  | v :: r, a, [], h => by cases h
  | v :: r, a, c :: d, h => by
    show setL ((a ++ c :: d).set a.length v) (a.length + 1) r = _
    rw [List.set_append_right _ _ (Nat.le_refl _), Nat.sub_self]
    have := setL_full r (a ++ [v]) d (Nat.succ.inj h)
    rw [List.length_append, List.append_assoc, List.append_assoc] at this
    exact this

theorem setL_flat {k : Nat} (n i : Nat) (hi : i < n) : ∀ (l : List Value) (p : Nat) (e : Nat → List Value), (∀ j, (e j).length = k) → p + l.length ≤ k → setL (flat e n) (i * k + p) l = flat (fun j => if j = i then setL (e i) p l else e j) n
  | [], p, e, h, hp => congrArg (fun f => flat f n) (funext fun j => by
      by_cases hj : j = i
      · rw [if_pos hj, hj]; rfl
      · rw [if_neg hj])
  | v :: r, p, e, h, hp => by
    rw [List.length_cons] at hp
    show setL ((flat e n).set (i * k + p) v) (i * k + p + 1) r = _
    rw [flat_set h n i p hi (by omega) v, Nat.add_assoc, setL_flat n i hi r (p + 1) (fun j => if j = i then (e i).set p v else e j) (fun j => by
      show (if j = i then (e i).set p v else e j).length = k
      by_cases hj : j = i
      · rw [if_pos hj, List.length_set]; exact h i
      · rw [if_neg hj]; exact h j) (by omega)]
    refine congrArg (fun f => flat f n) (funext fun j => ?_)
    show (if j = i then setL (if i = i then (e i).set p v else e i) (p + 1) r else if j = i then (e i).set p v else e j) = _
    by_cases hj : j = i
    · rw [if_pos hj, if_pos hj, if_pos rfl]; rfl
    · rw [if_neg hj, if_neg hj, if_neg hj]

theorem ownSetCs {B k g n cap : Nat} {t : TypeId} : ∀ (l : List Value) {w : World} {xs : List Value} (o : Nat), w.ownsRow B t k (.slice (some ⟨g, 0, none⟩) n cap) n xs → o + l.length ≤ n * k → (w.setCells g o l).ownsRow B t k (.slice (some ⟨g, 0, none⟩) n cap) n (setL xs o l)
  | [], w, xs, o, h, _ => h
  | v :: r, w, xs, o, h, hl => by
    rw [List.length_cons] at hl
    exact ownSetCs r (o + 1) (ownSetC h o (by omega) v) (by omega)

theorem kept_news {w V V' : World} {y g : Nat} (h : Kept y w V) (hg : w.heap.size ≤ g) (hk : Kept g V V') : Kept y w V' :=
  ⟨hk.os.trans h.os, hk.tape.trans h.tape, hk.output.trans h.output, Nat.le_trans h.size hk.size, fun k hk1 hn => (hk.block k (Nat.lt_of_lt_of_le hk1 h.size) (by omega)).trans (h.block k hk1 hn)⟩

/-- One validator stored whole. -/
theorem BK.valW {w V : World} {y i g : Nat} {X : VState} (v : VValidator) (h : BK w y V X) (hg : X.f11.a = some ⟨g, 0, none⟩) (hi : i < X.f11.n) : BK w y (V.setCells g (86 * i) (celL (sValidator v))) (valS X i fun _ => v) := by
  have o11 := h.cpd.o11
  rw [hg] at o11
  obtain ⟨hB, C, hrg⟩ := own_row o11
  have l86 : ∀ u : VValidator, (celL (sValidator u)).length = 86 := fun u => by rw [celL_len]; rfl
  have hb : 86 * i + (celL (sValidator v)).length ≤ X.f11.n * 86 := by
    rw [l86]
    have : i * 86 + 86 ≤ X.f11.n * 86 := by
      rw [← Nat.succ_mul]
      exact Nat.mul_le_mul_right _ hi
    omega
  have h1 := ownSetCs (celL (sValidator v)) (86 * i) o11 hb
  have hf := setL_flat X.f11.n i hi (celL (sValidator v)) 0 (fun j => celL (sValidator (X.f11.z j))) (fun j => l86 _) (by rw [l86]; omega)
  rw [Nat.add_zero, Nat.mul_comm] at hf
  rw [hf] at h1
  have hw := setL_full (celL (sValidator v)) [] (celL (sValidator (X.f11.z i))) (by rw [l86, l86])
  have e : (fun j => if j = i then setL (celL (sValidator (X.f11.z i))) 0 (celL (sValidator v)) else celL (sValidator (X.f11.z j))) = fun j => celL (sValidator ((valS X i fun _ => v).f11.z j)) := funext fun j => by
    show _ = celL (sValidator (if j = i then v else X.f11.z j))
    by_cases hj : j = i
    · rw [if_pos hj, if_pos hj]; exact hw
    · rw [if_neg hj, if_neg hj]
  rw [e] at h1
  have hk : Kept g V (V.setCells g (86 * i) (celL (sValidator v))) := setCells_kept (celL (sValidator v)) (86 * i) (Kept.refl g V)
  have hne : y ≠ g := fun e => by
    subst e
    rw [h.row] at hrg
    injection hrg with q
    injection q with _ q2
    exact absurd q2 (by decide)
  refine ⟨kept_news h.kep hB hk, (hk.block y (some_lt h.row) hne).trans h.row, ⟨own_keptB h.cpd.o7 hk (own_ne h.cpd.o7 hrg (by decide)), own_keptB h.cpd.o9 hk (own_ne h.cpd.o9 hrg (by decide)), ?_, own_keptB h.cpd.o12 hk (own_ne h.cpd.o12 hrg (by decide)), own_keptB h.cpd.o15 hk (own_ne h.cpd.o15 hrg (by decide)), own_keptB h.cpd.o16 hk (own_ne h.cpd.o16 hrg (by decide)), own_keptB h.cpd.o21 hk (own_ne h.cpd.o21 hrg (by decide)), h.cpd.d15, h.cpd.d12⟩⟩
  show World.ownsRow _ _ _ _ (.slice X.f11.a X.f11.n X.f11.c) _ _
  rw [hg]
  exact h1

/-- A sum of slashings. -/
theorem cS14 {w : World} {g : Nat} {x : VState} {t : TypeId} (h : w.heap[g]? = some (.cells (cel (sState x)) t)) (p : Nat) (hp : p < 8) : w.cell? ⟨g, 979 + p, none⟩ = some (.int .u64 (x.f14 p)) := by
  rcases (by omega : p = 0 ∨ p = 1 ∨ p = 2 ∨ p = 3 ∨ p = 4 ∨ p = 5 ∨ p = 6 ∨ p = 7) with rfl | rfl | rfl | rfl | rfl | rfl | rfl | rfl
  · exact cS14_0 h
  · exact cS14_1 h
  · exact cS14_2 h
  · exact cS14_3 h
  · exact cS14_4 h
  · exact cS14_5 h
  · exact cS14_6 h
  · exact cS14_7 h

theorem BK.sla {w V : World} {y p : Nat} {X : VState} (v : Int) (h : BK w y V X) (hp : p < 8) : BK w y (V.setCell ⟨y, 979 + p, none⟩ (.int .u64 v)) (s14 X p v) :=
  h.setY (979 + p) (.int .u64 v) (na_set X p hp v) rfl rfl rfl rfl rfl rfl rfl

theorem valS_valS (X : VState) (i : Nat) (f g : VValidator → VValidator) : valS (valS X i f) i g = valS X i fun v => g (f v) := by
  unfold valS
  congr 2
  funext j
  show (if j = i then g (if i = i then f (X.f11.z i) else X.f11.z i) else if j = i then f (X.f11.z i) else X.f11.z j) = _
  by_cases hj : j = i
  · rw [if_pos hj, if_pos hj, if_pos rfl]
  · rw [if_neg hj, if_neg hj, if_neg hj]

theorem valS_at (X : VState) (i : Nat) (f : VValidator → VValidator) : (valS X i f).f11.z i = f (X.f11.z i) := if_pos rfl

theorem valS_off (X : VState) (i j : Nat) (f : VValidator → VValidator) (h : j ≠ i) : (valS X i f).f11.z j = X.f11.z j := if_neg h

theorem lvQ_le (z : Nat → VValidator) (e : Int) (h1 : e + 3 ≤ 18446744073709551614) : ∀ k, (∀ j, j < k → (z j).f6 < 18446744073709551616) → lvQ z e k ≤ 18446744073709551614
  | 0, _ => h1
  | k + 1, h => by
    have := lvQ_le z e h1 k fun j hj => h j (by omega)
    have hk := h k (by omega)
    show (if ¬ (z k).f6 = far ∧ lvQ z e k < (z k).f6 then (z k).f6 else lvQ z e k) ≤ _
    unfold far
    split <;> omega

theorem lvX_ge {x : VState} (h : OkState x) (h2 : x.f2 < 1099511627776) : x.f2 / 4 + 3 ≤ lvX x ∧ lvX x < 18446744073709551616 := by
  have h0 := h.o2.1
  have a := lvQ_bd x.f11.z (x.f2 / 4) (by omega) (by omega) x.f11.n fun j hj => (h.o11 j hj).2.2.2.2.2.2.1
  have b := lvQ_le x.f11.z (x.f2 / 4) (by omega) x.f11.n fun j hj => (h.o11 j hj).2.2.2.2.2.2.1.2
  unfold lvX
  split
  · rw [w64_in (by omega) (by omega)]; omega
  · omega

/-- What a state has to be, that somebody leaves it. -/
structure Rg (x : VState) : Prop where
  ok : OkState x
  nb : x.f11.n ≤ 65536
  ln : x.f12.n = x.f11.n
  ef : ∀ j, j < x.f11.n → 0 ≤ (x.f11.z j).f2 ∧ (x.f11.z j).f2 ≤ 32000000000
  sl : x.f2 < 1099511627776

theorem Rg.lk {x : VState} {w : World} (h : Rg x) (hw : InW w x) : Lk w x := ⟨hw.i11, h.nb, h.ef, h.ok.o2.1, h.sl⟩

theorem RtO.rg {x : VState} (h : RtO x) (ho : OkState x) : Rg x := by
  refine ⟨ho, h.c0, h.c1, fun j hj => ?_, h.c7⟩
  have := h.cv j hj
  unfold vldB at this
  simp only [Bool.and_eq_true, decide_eq_true_eq] at this
  exact ⟨(ho.o11 j hj).2.2.1.1, this.2.1⟩

theorem Rg.sim {x X : VState} (h : Rg x) (s : SimF x X) : Rg X := ⟨okF_sim s h.ok, by rw [s.l11]; exact h.nb, by rw [s.l12, s.l11]; exact h.ln, by rw [s.l11, s.z11]; exact h.ef, by rw [s.e2]; exact h.sl⟩

theorem eff_valS (X : VState) (i : Nat) (f : VValidator → VValidator) (hf : (f (X.f11.z i)).f2 = (X.f11.z i).f2) (j : Nat) : ((valS X i f).f11.z j).f2 = (X.f11.z j).f2 := by
  by_cases h : j = i
  · subst h; rw [valS_at]; exact hf
  · rw [valS_off _ _ _ _ h]

theorem eff_lvS (X : VState) (i j : Nat) : ((lvS X i).f11.z j).f2 = (X.f11.z j).f2 := by
  unfold lvS
  split
  · exact eff_valS X i (lvV (lvX X)) rfl j
  · rfl

theorem eff_slA (X : VState) (i j : Nat) : ((slA X i).f11.z j).f2 = (X.f11.z j).f2 := by
  unfold slA
  rw [eff_valS _ _ _ rfl, eff_lvS]

theorem act_valS (X : VState) (i : Nat) (f : VValidator → VValidator) (e : Int) (hf : actB (f (X.f11.z i)) e = actB (X.f11.z i) e) (j : Nat) : actB ((valS X i f).f11.z j) e = actB (X.f11.z j) e := by
  by_cases h : j = i
  · subst h; rw [valS_at]; exact hf
  · rw [valS_off _ _ _ _ h]

theorem act_lvS {X : VState} (h : OkState X) (h2 : X.f2 < 1099511627776) (i j : Nat) : actB ((lvS X i).f11.z j) (X.f2 / 4) = actB (X.f11.z j) (X.f2 / 4) := by
  unfold lvS
  split
  · rename_i hf
    refine act_valS X i (lvV (lvX X)) _ ?_ j
    have := lvX_ge h h2
    have h0 := h.o2.1
    unfold actB
    show (decide ((X.f11.z i).f5 ≤ X.f2 / 4) && decide (X.f2 / 4 < lvX X)) = _
    rw [hf, decide_eq_true (by omega : X.f2 / 4 < lvX X), decide_eq_true (by unfold far; omega : X.f2 / 4 < far)]
  · rfl

theorem act_slA {X : VState} (h : OkState X) (h2 : X.f2 < 1099511627776) (i j : Nat) : actB ((slA X i).f11.z j) (X.f2 / 4) = actB (X.f11.z j) (X.f2 / 4) := by
  unfold slA
  rw [act_valS _ _ _ _ rfl, act_lvS h h2]

theorem acL_congrB {z z' : Nat → VValidator} {e : Int} (h : ∀ j, actB (z j) e = actB (z' j) e) : ∀ n, acL z e n = acL z' e n
  | 0 => rfl
  | n + 1 => by
    show (if actB (z n) e = true then acL z e n ++ _ else acL z e n) = (if actB (z' n) e = true then acL z' e n ++ _ else acL z' e n)
    rw [h, acL_congrB h n]

theorem pr_congrB {Y Z : VState} (h2 : Z.f2 = Y.f2) (h13 : Z.f13 = Y.f13) (hn : Z.f11.n = Y.f11.n) (hz : ∀ j, (Z.f11.z j).f2 = (Y.f11.z j).f2 ∧ actB (Z.f11.z j) (Y.f2 / 4) = actB (Y.f11.z j) (Y.f2 / 4)) : prV Z = prV Y ∧ prE Z = prE Y := by
  have hs : ∀ e k, seedV Z e k = seedV Y e k := fun e k => by unfold seedV mixV; rw [h13]
  have hp : prS Z = prS Y := by unfold prS; rw [hs, h2]
  have ha : acE Z (Y.f2 / 4) = acE Y (Y.f2 / 4) := by unfold acE; rw [hn]; exact acL_congrB (fun j => (hz j).2) _
  have hd := dw_congr (fun j => (hz j).1) (acE Y (Y.f2 / 4)) (prS Y) 1
  unfold prV prL prE
  rw [h2, ha, hp, hd.1, hd.2]
  exact ⟨rfl, rfl⟩

theorem lvS_o (X : VState) (i : Nat) : (lvS X i).f2 = X.f2 ∧ (lvS X i).f13 = X.f13 ∧ (lvS X i).f11.n = X.f11.n ∧ (lvS X i).f12 = X.f12 ∧ (lvS X i).f14 = X.f14 ∧ (lvS X i).f11.a = X.f11.a ∧ (lvS X i).f11.c = X.f11.c := by
  unfold lvS
  split <;> exact ⟨rfl, rfl, rfl, rfl, rfl, rfl, rfl⟩

theorem slA_o (X : VState) (i : Nat) : (slA X i).f2 = X.f2 ∧ (slA X i).f13 = X.f13 ∧ (slA X i).f11.n = X.f11.n ∧ (slA X i).f12 = X.f12 ∧ (slA X i).f14 = X.f14 ∧ (slA X i).f11.a = X.f11.a ∧ (slA X i).f11.c = X.f11.c := lvS_o X i

/-- Who proposes is the same behind a slashing. -/
theorem pr_slC {X : VState} (h : OkState X) (h2 : X.f2 < 1099511627776) (i : Nat) : prV (slC X i) = prV X ∧ prE (slC X i) = prE X :=
  pr_congrB (slA_o X i).1 (slA_o X i).2.1 (slA_o X i).2.2.1 fun j => ⟨eff_slA X i j, act_slA h h2 i j⟩

theorem Rg.lv {X : VState} (h : Rg X) (i : Nat) : Rg (lvS X i) := by
  obtain ⟨a, b, c, d, e, f, g⟩ := lvS_o X i
  exact ⟨ok_lv h.ok h.sl i, by rw [c]; exact h.nb, by rw [c, d]; exact h.ln, fun j hj => by rw [eff_lvS]; exact h.ef j (by rw [← c]; exact hj), by rw [a]; exact h.sl⟩

theorem Rg.a {X : VState} (h : Rg X) (i : Nat) : Rg (slA X i) := by
  obtain ⟨a, b, c, d, e, f, g⟩ := slA_o X i
  exact ⟨ok_slA h.ok h.sl i, by rw [c]; exact h.nb, by rw [c, d]; exact h.ln, fun j hj => by rw [eff_slA]; exact h.ef j (by rw [← c]; exact hj), by rw [a]; exact h.sl⟩

theorem Rg.b {X : VState} (h : Rg X) (i : Nat) : Rg (slB X i) := ⟨ok_14 (h.a i).ok _ _ (w64_bd _), (h.a i).nb, (h.a i).ln, (h.a i).ef, (h.a i).sl⟩

theorem Rg.bal {X : VState} (h : Rg X) (i : Nat) (v : Int) (hv : 0 ≤ v ∧ v < 18446744073709551616) : Rg (balS X i v) := ⟨ok_bal h.ok i v hv, h.nb, h.ln, h.ef, h.sl⟩

theorem Rg.c {X : VState} (h : Rg X) (i : Nat) (hi : i < X.f11.n) : Rg (slC X i) := by
  have hb := h.b i
  have hi2 : i < (slB X i).f12.n := by
    have e1 := hb.ln
    have e2 : (slB X i).f11.n = X.f11.n := (slA_o X i).2.2.1
    omega
  have e := h.ef i hi
  exact hb.bal i _ (les_bd (hb.ok.o12 i hi2).1 (hb.ok.o12 i hi2).2 (by unfold effS; omega))

theorem pr_in {X : VState} (h0 : prE X = 0) : ∃ p : Nat, prV X = (p : Int) ∧ p < X.f11.n := by
  rcases dw_one X.f11.z (acE X (X.f2 / 4)) (prS X) 1 with ⟨a, b, c⟩ | ⟨a, b⟩
  · have h6 := c _ (getD_mem _ 0 (by rw [b]; omega))
    obtain ⟨q0, q1, _⟩ := (acL_mem _ _ _ _).1 h6
    refine ⟨(prV X).toNat, ?_, ?_⟩
    · have : 0 ≤ prV X := q0
      omega
    · have : prV X < (X.f11.n : Int) := q1
      have : 0 ≤ prV X := q0
      omega
  · exfalso
    have : prE X = 7 := a
    omega

/-- What is slashed, with a proposer that is told. -/
def sloS (X : VState) (i p : Nat) : VState := balS (slC X i) p (w64 ((slC X i).f12.z p + effS X i / 512))

theorem sloS_S {X : VState} (h : OkState X) (h2 : X.f2 < 1099511627776) (i : Nat) (h0 : prE X = 0) : slS X i = sloS X i (prV X).toNat := by
  have := pr_slC h h2 i
  unfold slS slE slP sloS
  rw [this.2, if_pos h0, this.1]

theorem Rg.o {X : VState} (h : Rg X) (i p : Nat) (hi : i < X.f11.n) : Rg (sloS X i p) := (h.c i hi).bal p _ (w64_bd _)

theorem Rg.s {X : VState} (h : Rg X) (i : Nat) (hi : i < X.f11.n) : Rg (slS X i) := by
  unfold slS
  split
  · exact (h.c i hi).bal _ _ (w64_bd _)
  · exact h.c i hi

/-- What Leave and Slash answer. -/
def lqE (x : VState) (i : Int) : Int := if rightB x = true ∧ i < (x.f11.n : Int) then (if rightB (lvS x i.toNat) = true then 0 else 2) else 1

def lqS (x : VState) (i : Int) : VState := if lqE x i = 0 then lvS x i.toNat else oState

def sqE (x : VState) (i : Int) : Int := if rightB x = true ∧ i < (x.f11.n : Int) then (if prE x = 0 then (if rightB (slS x i.toNat) = true then 0 else 2) else prE x) else 1

def sqS (x : VState) (i : Int) : VState := if sqE x i = 0 then slS x i.toNat else oState

theorem lqE_sim {x X : VState} (h : SimF x X) (i : Int) : lqE X i = lqE x i := by unfold lqE; rw [rightF h, h.l11, rightF (lvS_sim i.toNat h)]

theorem lqS_sim {x X : VState} (h : SimF x X) (i : Int) : SimF (lqS x i) (lqS X i) := by
  unfold lqS
  rw [lqE_sim h]
  split
  · exact lvS_sim _ h
  · exact SimF.refl _

theorem prE_sim {x X : VState} (h : SimF x X) : prE X = prE x := int_by (fun x => (pr_cor x).1) h

theorem sqE_sim {x X : VState} (h : SimF x X) (i : Int) : sqE X i = sqE x i := by unfold sqE; rw [rightF h, h.l11, rightF (slS_sim i.toNat h), prE_sim h]

theorem sqS_sim {x X : VState} (h : SimF x X) (i : Int) : SimF (sqS x i) (sqS X i) := by
  unfold sqS
  rw [sqE_sim h]
  split
  · exact slS_sim _ h
  · exact SimF.refl _

/-- How long a state's lists are that is right. -/
theorem right_lns {x : VState} (h : rightB x = true) : Lns x := by
  have := right_small h
  unfold Lns
  omega

end Go.Proofs.YtpnpmgeokicpjaaGreatDoor
