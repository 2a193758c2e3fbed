/-
  What a deposit brings, in plain numbers; validators compared.
-/

import Derived.Test.YtmapeodhcllimaaDoorJnJ
import Derived.Test.YtmapeodhcllimaaDoorQE
namespace Go.Proofs.YtmapeodhcllimaaDoor

open Go.RowKit

set_option linter.unusedVariables false

set_option linter.unusedSimpArgs false

set_option maxRecDepth 20000

theorem cel_Va (v : VValidator) : celL (sValidator v) = bl v.f0 48 ++ (bl v.f1 32 ++ [Value.int .u64 v.f2, Value.bool v.f3, Value.int .u64 v.f4, Value.int .u64 v.f5, Value.int .u64 v.f6, Value.int .u64 v.f7]) := rfl

theorem lits_bo (d : Nat) (b : Bool) : ∃ l, Tryd.prog.keyLits (d + 1) 4 [.bool b] = some l := ⟨_, by simp [Program.keyLits, Tryd.underlying4]; rfl⟩

theorem lits_Va (v : VValidator) (h : OkValidator v) : ∃ l, Tryd.prog.keyLits 5 63 (celL (sValidator v)) = some l := by
  have c0 : Tryd.prog.cellsOf 44 = 48 := by kernel_rfl
  have c1 : Tryd.prog.cellsOf 24 = 32 := by kernel_rfl
  have c2 : Tryd.prog.cellsOf 22 = 1 := by kernel_rfl
  have c4 : Tryd.prog.cellsOf 4 = 1 := by kernel_rfl
  have c3 : Tryd.prog.cellsOf 63 = 86 := by kernel_rfl
  have h0 := lits_by Tryd.underlying44 c0 2 v.f0 h.1
  have h1 := lits_by Tryd.underlying24 c1 2 v.f1 h.2.1
  have h2 := lits_u64 3 v.f2 h.2.2.1
  obtain ⟨l3, h3⟩ := lits_bo 3 v.f3
  have h4 := lits_u64 3 v.f4 h.2.2.2.2.1
  have h5 := lits_u64 3 v.f5 h.2.2.2.2.2.1
  have h6 := lits_u64 3 v.f6 h.2.2.2.2.2.2.1
  have h7 := lits_u64 3 v.f7 h.2.2.2.2.2.2.2
  have e0 : (celL (sValidator v)).take 48 = bl v.f0 48 := by rw [cel_Va, List.take_left' (bl_len _ _)]
  have e1 : ((celL (sValidator v)).drop 48).take 32 = bl v.f1 32 := by rw [cel_Va, List.drop_left' (bl_len _ _), List.take_left' (bl_len _ _)]
  have d80 : (celL (sValidator v)).drop 80 = [Value.int .u64 v.f2, Value.bool v.f3, Value.int .u64 v.f4, Value.int .u64 v.f5, Value.int .u64 v.f6, Value.int .u64 v.f7] := by
    rw [cel_Va, show 80 = 48 + 32 from rfl, ← List.drop_drop, List.drop_left' (bl_len _ _), List.drop_left' (bl_len _ _)]
  have e2 : ((celL (sValidator v)).drop 80).take 1 = [.int .u64 v.f2] := by rw [d80]; rfl
  have e3 : ((celL (sValidator v)).drop 81).take 1 = [.bool v.f3] := by rw [show 81 = 80 + 1 from rfl, ← List.drop_drop, d80]; rfl
  have e4 : ((celL (sValidator v)).drop 82).take 1 = [.int .u64 v.f4] := by rw [show 82 = 80 + 2 from rfl, ← List.drop_drop, d80]; rfl
  have e5 : ((celL (sValidator v)).drop 83).take 1 = [.int .u64 v.f5] := by rw [show 83 = 80 + 3 from rfl, ← List.drop_drop, d80]; rfl
  have e6 : ((celL (sValidator v)).drop 84).take 1 = [.int .u64 v.f6] := by rw [show 84 = 80 + 4 from rfl, ← List.drop_drop, d80]; rfl
  have e7 : ((celL (sValidator v)).drop 85).take 1 = [.int .u64 v.f7] := by rw [show 85 = 80 + 5 from rfl, ← List.drop_drop, d80]; rfl
  have hu := Tryd.underlying63
  unfold Program.keyLits
  rw [hu]
  show ∃ l, (if (celL (sValidator v)).length = Tryd.prog.cellsOf 63 ∧ _ then _ else none) = some l
  rw [if_pos ⟨by rw [celL_len, c3]; rfl, by kernel_rfl⟩]
  simp [List.mapM_cons, c0, c1, c2, c4, e0, e1, e2, e3, e4, e5, e6, e7, h0, h1, h2, h3, h4, h5, h6, h7]

theorem eqVal (w : World) (v : VValidator) (h : OkValidator v) : (Op.equalIn 10000 63 (.agg (cel (sValidator v))) (.agg (cel (sValidator v)))).run Tryd.prog w = .ok true w := by
  obtain ⟨la, hla⟩ := lits_Va v h
  have hk : Tryd.prog.keyTypeAt 5 63 = true := by kernel_rfl
  have hf : (Value.agg (cel (sValidator v))).formed Tryd.prog 63 = true := by
    simp only [Value.formed, Tryd.underlying63]
    rw [cel_size, show slen (sValidator v) = 86 from rfl]
    kernel_rfl
  obtain ⟨r, h1, h2⟩ := run_equalIn_deep (P := Tryd.prog) 9995 5 63 hk w 5 5 (.agg (cel (sValidator v))) (.agg (cel (sValidator v))) la la hf hf hla hla
  rw [h2.2 rfl] at h1
  exact h1

theorem yields_neVa {ops : Array Oper} {S : World → Prop} {op : Oper} {a : Act} (hw : Region.wanted op (yielded ops a.tmps) = true) (x y : Operand) (rt : TypeId) (ho : op.op = .binOp .neq 63 x y rt) (c : VValidator) (hc : OkValidator c)
    (hx : a.eval x = .agg (cel (sValidator c))) (hy : a.eval y = .agg (cel (sValidator c))) : YieldsIf Tryd.prog ops S op (.bool false) a :=
  .inl ⟨hw, fun w _ => by
    have h : (Op.equalIn Op.maxDepth 63 (.agg (cel (sValidator c))) (.agg (cel (sValidator c)))).run Tryd.prog w = .ok true w := eqVal w c hc
    unfold execOp
    simp [ho, hx, hy, eqGuard, binOp, Op.equal, h]⟩

/-- What all balances have more, step by step. -/
def brV (z z' : Nat → Int) (n : Nat) : Nat → Int
  | 0 => 0
  | k + 1 => w64 (brV z z' n k + w64 (z' k - (if k < n then z k else 0)))

theorem br_one {z z' : Nat → Int} {n m p : Nat} {A : Int} (hA : 0 ≤ A ∧ A < 18446744073709551616) (h : ∀ j, j < m → j ≠ p → z' j = if j < n then z j else 0) (hp : p < m → w64 (z' p - (if p < n then z p else 0)) = A) : ∀ k, k ≤ m → brV z z' n k = if p < k then A else 0
  | 0, _ => by rw [if_neg (Nat.not_lt_zero p)]; rfl
  | k + 1, hk => by
    have ih := br_one hA h hp k (by omega)
    show w64 (brV z z' n k + w64 (z' k - (if k < n then z k else 0))) = _
    rw [ih]
    by_cases e : k = p
    · subst e
      rw [if_neg (Nat.lt_irrefl k), if_pos (Nat.lt_succ_self k), hp (by omega), Int.zero_add]
      exact w64_in hA.1 hA.2
    · rw [h k (by omega) e, Int.sub_self]
      have e0 : w64 0 = 0 := w64_in (by omega) (by omega)
      rw [e0, Int.add_zero]
      by_cases e2 : p < k
      · rw [if_pos e2, if_pos (by omega)]
        exact w64_in hA.1 hA.2
      · rw [if_neg e2, if_neg (by omega), e0]

/-- What a deposit that was taken leaves. -/
structure JsF (R X : VState) (d : VDeposit) (K : Nat) : Prop where
  dep : X.f10 = w64 (R.f10 + 1)
  lo : R.f11.n ≤ X.f11.n
  hi : X.f11.n ≤ R.f11.n + 1
  nb : X.f11.n ≤ 65536
  l12 : X.f12.n = X.f11.n
  r12 : R.f12.n = R.f11.n
  val : ∀ k, k < R.f11.n → X.f11.z k = R.f11.z k
  ok : OkState R
  br : brV R.f12.z X.f12.z R.f11.n X.f11.n = d.f1.f2 ∨ (brV R.f12.z X.f12.z R.f11.n X.f11.n = 0 ∧ K = 1 ∧ X.f11.n = R.f11.n)

theorem js_facts {R X : VState} {d : VDeposit} {f : Nat → Int} {n : Nat} (hR : OkState R) (hd : OkDeposit d) (he : jdE R d f n = 0) (hX : SimF (jdS R d f n) X) : JsF R X d (jdK R d) := by
  have hP : jdP R d = 0 := by
    by_cases h : jdP R d = 0
    · exact h
    · unfold jdE at he; rw [if_neg h] at he; exact absurd he h
  have hRt : rightB R = true := by
    by_cases h : rightB R = true
    · exact h
    · unfold jdP at hP; rw [if_neg h] at hP; omega
  have hTE : tkE R d.f1 f n = 0 ∧ rightB (tkS (upS R) d.f1 f n) = true := by
    unfold jdE at he
    rw [if_pos hP] at he
    by_cases h : tkE R d.f1 f n = 0
    · rw [if_pos h] at he
      by_cases h2 : rightB (tkS (upS R) d.f1 f n) = true
      · exact ⟨h, h2⟩
      · rw [if_neg h2] at he; omega
    · rw [if_neg h] at he; exact absurd he h
  have hS : jdS R d f n = tkS (upS R) d.f1 f n := by unfold jdS; rw [if_pos he]
  have hK : jdK R d = tkK R d.f1 := by unfold jdK; rw [if_pos hP]
  rw [hS] at hX
  rw [hK]
  have hXr := rightB_out (show rightB X = true by rw [rightF hX]; exact hTE.2)
  have hRr := rightB_out hRt
  have hA := hd.2.2.2.1
  have hzb : ∀ j, j < R.f12.n → 0 ≤ R.f12.z j ∧ R.f12.z j < 18446744073709551616 := hR.o12
  by_cases ho : dpO R d.f1 < R.f11.n
  · have eT : tkS (upS R) d.f1 f n = balS (upS R) (dpO R d.f1) (w64 (R.f12.z (dpO R d.f1) + d.f1.f2)) := if_pos ho
    rw [eT] at hX
    obtain ⟨o, eo⟩ : ∃ o, dpO R d.f1 = o := ⟨_, rfl⟩
    rw [eo] at hX ho
    have h11 : X.f11.n = R.f11.n := hX.l11
    have hz : ∀ j, X.f12.z j = if j = o then w64 (R.f12.z o + d.f1.f2) else R.f12.z j := fun j => by rw [hX.z12]; rfl
    have hob := hzb o (by rw [hRr.c1]; exact ho)
    refine ⟨hX.e10, by omega, by omega, hXr.c0, hXr.c1, hRr.c1, fun k _ => by rw [hX.z11]; rfl, hR, .inl ?_⟩
    rw [br_one (m := X.f11.n) (p := o) hA (fun j hj hn => ?_) (fun _ => ?_) X.f11.n (Nat.le_refl _), if_pos (by omega)]
    · rw [hz, if_neg hn, if_pos (by omega)]
    · rw [hz, if_pos rfl, if_pos ho]
      unfold w64
      rw [IntKind.wrap_u64, IntKind.wrap_u64]
      omega
  · have hK1 : tkK R d.f1 = 1 := if_neg ho
    by_cases hg : gdB (dpQ d.f1) f n = true
    · have eT : tkS (upS R) d.f1 f n = enS (upS R) d.f1 := by unfold tkS; rw [if_neg (show ¬ dpO (upS R) d.f1 < (upS R).f11.n from ho), if_pos hg]
      rw [eT] at hX
      have h11 : X.f11.n = R.f11.n + 1 := hX.l11
      have hz : ∀ j, X.f12.z j = if j < R.f12.n then R.f12.z j else d.f1.f2 := fun j => by rw [hX.z12]; rfl
      have hc1 := hRr.c1
      refine ⟨hX.e10, by omega, by omega, hXr.c0, hXr.c1, hRr.c1, fun k hk => by rw [hX.z11]; exact vn_low _ _ _ _ hk, hR, .inl ?_⟩
      rw [br_one (m := X.f11.n) (p := R.f11.n) hA (fun j hj hn => ?_) (fun _ => ?_) X.f11.n (Nat.le_refl _), if_pos (by omega)]
      · rw [hz, if_pos (by omega), if_pos (by omega)]
      · rw [hz, if_neg (by omega), if_neg (by omega), Int.sub_zero]
        exact w64_in hA.1 hA.2
    · have eT : tkS (upS R) d.f1 f n = upS R := by unfold tkS; rw [if_neg (show ¬ dpO (upS R) d.f1 < (upS R).f11.n from ho), if_neg hg]
      rw [eT] at hX
      have h11 : X.f11.n = R.f11.n := hX.l11
      have hz : X.f12.z = R.f12.z := hX.z12
      refine ⟨hX.e10, by omega, by omega, hXr.c0, hXr.c1, hRr.c1, fun k _ => by rw [hX.z11]; rfl, hR, .inr ⟨?_, hK1, h11⟩⟩
      rw [br_one (m := X.f11.n) (p := X.f11.n) (A := 0) (by omega) (fun j hj hn => ?_) (fun h => absurd h (Nat.lt_irrefl _)) X.f11.n (Nat.le_refl _), if_neg (Nat.lt_irrefl _)]
      rw [hz, if_pos (by omega)]

theorem jdK_le (x : VState) (d : VDeposit) : jdK x d ≤ 1 := by
  unfold jdK tkK
  split
  · split <;> omega
  · omega

end Go.Proofs.YtmapeodhcllimaaDoor
