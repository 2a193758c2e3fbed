/-
  Headers compared.
-/

import Derived.Test.YtlplmdhlelgihaaGreatDoorQJ
namespace Go.Proofs.YtlplmdhlelgihaaGreatDoor

open Go.RowKit

set_option linter.unusedVariables false

set_option linter.unusedSimpArgs false

set_option maxRecDepth 20000

def eqH (a b : VHeader) : Bool := decide (a.f0 = b.f0) && (decide (a.f1 = b.f1) && (eqR a.f2 b.f2 && (eqR a.f3 b.f3 && eqR a.f4 b.f4)))

def litH (v : VHeader) : List Lit := [.int .u64 v.f0] ++ ([.int .u64 v.f1] ++ (litR v.f2 32 ++ (litR v.f3 32 ++ (litR v.f4 32 ++ []))))

theorem litH_iff (a b : VHeader) : litH a = litH b ↔ eqH a b = true := by
  unfold litH eqH
  rw [Bool.and_eq_true, Bool.and_eq_true, Bool.and_eq_true, Bool.and_eq_true, decide_eq_true_iff, decide_eq_true_iff, eqR_iff, eqR_iff, eqR_iff, ← litR_inj (n := 32), ← litR_inj (n := 32), ← litR_inj (n := 32)]
  constructor
  · intro h
    obtain ⟨h1, h2⟩ := List.append_inj h rfl
    obtain ⟨h3, h4⟩ := List.append_inj h2 rfl
    obtain ⟨h5, h6⟩ := List.append_inj h4 (by rw [litR_len, litR_len])
    obtain ⟨h7, h8⟩ := List.append_inj h6 (by rw [litR_len, litR_len])
    rw [List.append_nil, List.append_nil] at h8
    exact ⟨(Lit.int.inj (List.cons.inj h1).1).2, (Lit.int.inj (List.cons.inj h3).1).2, h5, h7, h8⟩
  · rintro ⟨h1, h2, h3, h4, h5⟩
    rw [h1, h2, h3, h4, h5]

theorem cel_H (v : VHeader) : celL (sHeader v) = [Value.int .u64 v.f0] ++ ([Value.int .u64 v.f1] ++ (bl v.f2 32 ++ (bl v.f3 32 ++ bl v.f4 32))) := by
  show [Value.int .u64 v.f0] ++ ([Value.int .u64 v.f1] ++ ((List.range 32).map _ ++ ((List.range 32).map _ ++ ((List.range 32).map _ ++ [])))) = _
  rw [List.append_nil]
  rfl

theorem lits_H (v : VHeader) (h : OkHeader v) : Tryz.prog.keyLits 5 30 (celL (sHeader v)) = some (litH v) := by
  have c1 : Tryz.prog.cellsOf 24 = 32 := by kernel_rfl
  have c2 : Tryz.prog.cellsOf 22 = 1 := by kernel_rfl
  have c3 : Tryz.prog.cellsOf 30 = 98 := by kernel_rfl
  have h1 := lits_u64 3 v.f0 h.1
  have h2 := lits_u64 3 v.f1 h.2.1
  have h3 := lits_by Tryz.underlying24 c1 2 v.f2 h.2.2.1
  have h4 := lits_by Tryz.underlying24 c1 2 v.f3 h.2.2.2.1
  have h5 := lits_by Tryz.underlying24 c1 2 v.f4 h.2.2.2.2
  have e1 : (celL (sHeader v)).take 1 = [.int .u64 v.f0] := by rw [cel_H]; rfl
  have e2 : (celL (sHeader v)).tail.take 1 = [.int .u64 v.f1] := by rw [cel_H]; rfl
  have d2 : (celL (sHeader v)).drop 2 = bl v.f2 32 ++ (bl v.f3 32 ++ bl v.f4 32) := by rw [cel_H]; rfl
  have e3 : ((celL (sHeader v)).drop 2).take 32 = bl v.f2 32 := by rw [d2, List.take_left' (bl_len _ _)]
  have e4 : ((celL (sHeader v)).drop 34).take 32 = bl v.f3 32 := by
    rw [show 34 = 2 + 32 from rfl, ← List.drop_drop, d2, List.drop_left' (bl_len _ _), List.take_left' (bl_len _ _)]
  have e5 : ((celL (sHeader v)).drop 66).take 32 = bl v.f4 32 := by
    rw [show 66 = 2 + 32 + 32 from rfl, ← List.drop_drop, ← List.drop_drop, d2, List.drop_left' (bl_len _ _), List.drop_left' (bl_len _ _)]
    exact List.take_of_length_le (by rw [bl_len]; omega)
  have hu := Tryz.underlying30
  unfold Program.keyLits
  rw [hu]
  show (if (celL (sHeader v)).length = Tryz.prog.cellsOf 30 ∧ _ then _ else none) = _
  rw [if_pos ⟨by rw [celL_len, c3]; rfl, by kernel_rfl⟩]
  simp [List.mapM_cons, c1, c2, e1, e2, e3, e4, e5, h1, h2, h3, h4, h5, litH]

/-- '==' of headers, kept whole. -/
def eqoH (x y : Value) : Sem Value := binOp .eql 30 x y

theorem eqoH_eq (x y : Value) : binOp .eql 30 x y = eqoH x y := rfl

theorem eqoH_run (w : World) (a b : VHeader) (ha : OkHeader a) (hb : OkHeader b) : (eqoH (.agg (cel (sHeader a))) (.agg (cel (sHeader b)))).run Tryz.prog w = .ok (.bool (eqH a b)) w := by
  have hk : Tryz.prog.keyTypeAt 5 30 = true := by kernel_rfl
  have hf : ∀ v : VHeader, (Value.agg (cel (sHeader v))).formed Tryz.prog 30 = true := fun v => by
    simp only [Value.formed, Tryz.underlying30]
    rw [cel_size, show slen (sHeader v) = 98 from rfl]
    kernel_rfl
  obtain ⟨r, h1, h2⟩ := run_equalIn_deep (P := Tryz.prog) 9995 5 30 hk w 5 5 (.agg (cel (sHeader a))) (.agg (cel (sHeader b))) _ _ (hf a) (hf b) (lits_H a ha) (lits_H b hb)
  rw [litH_iff] at h2
  have hr : eqH a b = r := by
    cases r
    · cases h : eqH a b
      · rfl
      · exact absurd (h2.2 h) (by decide)
    · exact h2.1 rfl
  have h3 : (Op.equalIn Op.maxDepth 30 (.agg (cel (sHeader a))) (.agg (cel (sHeader b)))).run Tryz.prog w = .ok (eqH a b) w := by rw [hr]; exact h1
  unfold eqoH
  simp [binOp, Op.equal, h3]

theorem eqH_off {a b : VHeader} (h : ¬ a.f4 0 = b.f4 0) : eqH a b = false := by
  cases he : eqH a b
  · rfl
  · unfold eqH at he
    simp only [Bool.and_eq_true, decide_eq_true_eq] at he
    exact absurd (eqR_iff.1 he.2.2.2.2 0 (by omega)) h

end Go.Proofs.YtlplmdhlelgihaaGreatDoor
