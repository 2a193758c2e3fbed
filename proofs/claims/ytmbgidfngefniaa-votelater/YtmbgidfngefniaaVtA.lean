/-
  Attestations: what they are worth, as plain numbers; three flags; checkpoints compared.
-/

import Derived.Test.YtmbgidfngefniaaLkM
import Derived.Test.YtmbgidfngefniaaStY
import Derived.Test.YtmbgidfngefniaaHdA
import Derived.Test.YtmbgidfngefniaaShB
namespace Go.Proofs.Ytmbgidfngefniaa

open Go.RowKit

set_option linter.unusedVariables false

set_option linter.unusedSimpArgs false

set_option maxRecDepth 20000

/-- Checkpoints compared. -/
def eqK (a b : VCheckpoint) : Bool := decide (a.f0 = b.f0) && eqR a.f1 b.f1

def litK (v : VCheckpoint) : List Lit := [.int .u64 v.f0] ++ (litR v.f1 32 ++ [])

theorem litK_iff (a b : VCheckpoint) : litK a = litK b ↔ eqK a b = true := by
  unfold litK eqK
  rw [Bool.and_eq_true, decide_eq_true_iff, eqR_iff, ← litR_inj (n := 32)]
  constructor
  · intro h
    obtain ⟨h1, h2⟩ := List.append_inj h rfl
    rw [List.append_nil, List.append_nil] at h2
    exact ⟨(Lit.int.inj (List.cons.inj h1).1).2, h2⟩
  · rintro ⟨h1, h2⟩
    rw [h1, h2]

theorem cel_K (v : VCheckpoint) : celL (sCheckpoint v) = [Value.int .u64 v.f0] ++ bl v.f1 32 := by
  show [Value.int .u64 v.f0] ++ ((List.range 32).map _ ++ []) = _
  rw [List.append_nil]
  rfl

theorem lits_K (v : VCheckpoint) (h : OkCheckpoint v) : Try.prog.keyLits 5 42 (celL (sCheckpoint v)) = some (litK v) := by
  have c1 : Try.prog.cellsOf 24 = 32 := by kernel_rfl
  have c2 : Try.prog.cellsOf 22 = 1 := by kernel_rfl
  have c3 : Try.prog.cellsOf 42 = 33 := by kernel_rfl
  have h1 := lits_u64 3 v.f0 h.1
  have h2 := lits_by Try.underlying24 c1 2 v.f1 h.2
  have e1 : (celL (sCheckpoint v)).take 1 = [.int .u64 v.f0] := by rw [cel_K]; rfl
  have e2 : (celL (sCheckpoint v)).tail.take 32 = bl v.f1 32 := by
    rw [cel_K]
    show (bl v.f1 32).take 32 = bl v.f1 32
    exact List.take_of_length_le (by rw [bl_len]; omega)
  have hu := Try.underlying42
  unfold Program.keyLits
  rw [hu]
  show (if (celL (sCheckpoint v)).length = Try.prog.cellsOf 42 ∧ _ then _ else none) = _
  rw [if_pos ⟨by rw [celL_len, c3]; rfl, by kernel_rfl⟩]
  simp [List.mapM_cons, c1, c2, e1, e2, h1, h2, litK]

theorem eqChk (w : World) (a b : VCheckpoint) (ha : OkCheckpoint a) (hb : OkCheckpoint b) : (Op.equalIn 10000 42 (.agg (cel (sCheckpoint a))) (.agg (cel (sCheckpoint b)))).run Try.prog w = .ok (eqK a b) w := by
  have hk : Try.prog.keyTypeAt 5 42 = true := by kernel_rfl
  have hf : ∀ v : VCheckpoint, (Value.agg (cel (sCheckpoint v))).formed Try.prog 42 = true := fun v => by
    simp only [Value.formed, Try.underlying42]
    rw [cel_size, show slen (sCheckpoint v) = 33 from rfl]
    kernel_rfl
  obtain ⟨r, h1, h2⟩ := run_equalIn_deep (P := Try.prog) 9995 5 42 hk w 5 5 (.agg (cel (sCheckpoint a))) (.agg (cel (sCheckpoint b))) _ _ (hf a) (hf b) (lits_K a ha) (lits_K b hb)
  rw [litK_iff] at h2
  rw [show eqK a b = r from by
    cases r
    · cases h : eqK a b
      · rfl
      · exact absurd (h2.2 h) (by decide)
    · exact h2.1 rfl]
  exact h1

/-- '!=' of checkpoints, kept whole. -/
def neoK (x y : Value) : Sem Value := binOp .neq 42 x y

theorem neoK_eq (x y : Value) : binOp .neq 42 x y = neoK x y := rfl

theorem neoK_run (w : World) (a b : VCheckpoint) (ha : OkCheckpoint a) (hb : OkCheckpoint b) : (neoK (.agg (cel (sCheckpoint a))) (.agg (cel (sCheckpoint b)))).run Try.prog w = .ok (.bool (!eqK a b)) w := by
  have h := eqChk w a b ha hb
  unfold neoK
  have h2 : (Op.equalIn Op.maxDepth 42 (.agg (cel (sCheckpoint a))) (.agg (cel (sCheckpoint b)))).run Try.prog w = .ok (eqK a b) w := h
  simp [binOp, Op.equal, h2]

/-- Three flags. -/
def b3 (a b c : Bool) : Array Value := #[.bool a, .bool b, .bool c]

theorem b3_one (a b c : Bool) : (b3 a b c).all (·.oneCell') = true := by simp [b3, Value.oneCell']

def lvF (a : Addr) : Sem Value := loadVar 53 a

theorem lvF_eq (a : Addr) : loadVar 53 a = lvF a := rfl

theorem lvF_run {w : World} {b : Nat} {p q r : Bool} {t : TypeId} (h : w.heap[b]? = some (.cells (b3 p q r) t)) : (lvF ⟨b, 0, none⟩).run Try.prog w = .ok (.agg (b3 p q r)) w :=
  loadAt_var (load_row h 53 _ Try.underlying53 rfl (by kernel_rfl))

def svF (a : Addr) (v : Value) : Sem Unit := storeVar 53 a v

theorem svF_eq (a : Addr) (v : Value) : storeVar 53 a v = svF a v := rfl

theorem svF_run {w : World} {b : Nat} {p q r : Bool} {t : TypeId} (h : w.heap[b]? = some (.cells (b3 p q r) t)) (i j k : Bool) : (svF ⟨b, 0, none⟩ (.agg (b3 i j k))).run Try.prog w = .ok () (w.setRow b (b3 i j k)) :=
  run_storeVar_row w b t 53 _ _ h (by kernel_rfl) rfl (b3_one _ _ _)

theorem svF_newv (W : World) (p q r i j k : Bool) : (svF ⟨W.heap.size, 0, none⟩ (.agg (b3 i j k))).run Try.prog (W.alloc (.cells (b3 p q r) 53)) = .ok () (W.alloc (.cells (b3 i j k) 53)) :=
  run_storeVar_new W 53 _ _ (by kernel_rfl) rfl (b3_one _ _ _)

theorem zeroF : ∀ w : World, (zeroValue 53).run Try.prog w = .ok (.agg (b3 false false false)) w := (zero_of_info (n := 3) (by kernel_rfl)).1

def bdF (ps : Array (Nat × Value)) : Sem Value := Instr.build 53 ps

theorem bdF_eq (ps : Array (Nat × Value)) : Instr.build 53 ps = bdF ps := rfl

theorem bdF_0 (W : World) : (bdF #[]).run Try.prog W = .ok (.agg (b3 false false false)) W := by kernel_rfl

theorem bdF_3 (W : World) (a b c : Bool) : (bdF #[(0, .bool a), (1, .bool b), (2, .bool c)]).run Try.prog W = .ok (.agg (b3 a b c)) W := by kernel_rfl

theorem eqF (w : World) (a b c : Bool) : (Op.equalIn 10000 53 (.agg (b3 a b c)) (.agg (b3 a b c))).run Try.prog w = .ok true w := by
  cases a <;> cases b <;> cases c <;> kernel_rfl

def eqoF (x y : Value) : Sem Value := binOp .eql 53 x y

theorem eqoF_eq (x y : Value) : binOp .eql 53 x y = eqoF x y := rfl

theorem eqoF_run (w : World) (a b c : Bool) : (eqoF (.agg (b3 a b c)) (.agg (b3 a b c))).run Try.prog w = .ok (.bool true) w := by
  have h := eqF w a b c
  unfold eqoF
  have h2 : (Op.equalIn Op.maxDepth 53 (.agg (b3 a b c)) (.agg (b3 a b c))).run Try.prog w = .ok true w := h
  simp [binOp, Op.equal, h2]

theorem retF {fn : Func} {R : Ending → World → Prop} {a : Act} {w' : World} (t : Tmp) (b : Nat) (i j k : Bool) (ty : TypeId) (h : fn.results = #[.cell t 53]) (hd : a.defers = []) (ht : a.tmps.getD t undef = .pointer (some ⟨b, 0, none⟩)) (hr : w'.heap[b]? = some (.cells (b3 i j k) ty))
    (hR : R (.returned (.agg (b3 i j k))) w') : bodyPost Try.prog fn R .ret a w' := by
  refine bodyPost_ret ?_ hd hR
  have hl := loadAt_var (load_row (P := Try.prog) hr 53 _ Try.underlying53 rfl (by kernel_rfl))
  rw [Array.getD_eq_getD_getElem?] at ht
  simp [results, h, ht, hl, asAddr]

theorem retFs {fn : Func} {R : Ending → World → Prop} {a : Act} {w' : World} (t s : Tmp) (b : Nat) (i j k : Bool) (ty : TypeId) (v : Value) (h : fn.results = #[.cell t 53, .tmp s]) (hd : a.defers = []) (ht : a.tmps.getD t undef = .pointer (some ⟨b, 0, none⟩)) (hs : a.tmps.getD s undef = v) (hr : w'.heap[b]? = some (.cells (b3 i j k) ty))
    (hR : R (.returned (.tuple #[.agg (b3 i j k), v])) w') : bodyPost Try.prog fn R .ret a w' := by
  refine bodyPost_ret ?_ hd hR
  have hl := loadAt_var (load_row (P := Try.prog) hr 53 _ Try.underlying53 rfl (by kernel_rfl))
  rw [Array.getD_eq_getD_getElem?] at ht hs
  simp [results, h, ht, hs, hl, asAddr]

theorem retK {fn : Func} {R : Ending → World → Prop} {a : Act} {w' : World} (t : Tmp) (b : Nat) (c : VCheckpoint) (ty : TypeId) (h : fn.results = #[.cell t 42]) (hd : a.defers = []) (ht : a.tmps.getD t undef = .pointer (some ⟨b, 0, none⟩)) (hr : w'.heap[b]? = some (.cells (cel (sCheckpoint c)) ty))
    (hR : R (.returned (.agg (cel (sCheckpoint c)))) w') : bodyPost Try.prog fn R .ret a w' := by
  refine bodyPost_ret ?_ hd hR
  have hl := loadAt_var (load_row (P := Try.prog) hr 42 _ Try.underlying42 rfl (by rw [cel_size]; kernel_rfl))
  rw [Array.getD_eq_getD_getElem?] at ht
  simp [results, h, ht, hl, asAddr]

/-- Checkpoints stored. -/
def oK : VCheckpoint := ⟨0, fun _ => 0⟩

def svK (a : Addr) (v : Value) : Sem Unit := storeVar 42 a v

theorem svK_eq (a : Addr) (v : Value) : storeVar 42 a v = svK a v := rfl

theorem svK_run {w : World} {b : Nat} {o : VCheckpoint} {t : TypeId} (h : w.heap[b]? = some (.cells (cel (sCheckpoint o)) t)) (c : VCheckpoint) : (svK ⟨b, 0, none⟩ (.agg (cel (sCheckpoint c)))).run Try.prog w = .ok () (w.setRow b (cel (sCheckpoint c))) :=
  run_storeVar_row w b t 42 _ _ h (by rw [cel_size]; kernel_rfl) (by rw [cel_size, cel_size]; rfl) (cel_one _)

theorem svK_newv (W : World) (o c : VCheckpoint) : (svK ⟨W.heap.size, 0, none⟩ (.agg (cel (sCheckpoint c)))).run Try.prog (W.alloc (.cells (cel (sCheckpoint o)) 42)) = .ok () (W.alloc (.cells (cel (sCheckpoint c)) 42)) :=
  run_storeVar_new W 42 _ _ (by rw [cel_size]; kernel_rfl) (by rw [cel_size, cel_size]; rfl) (cel_one _)

theorem zeroK (W : World) : (zeroValue 42).run Try.prog W = .ok (.agg (cel (sCheckpoint oK))) W := by kernel_rfl

theorem lvK_row {w : World} {b : Nat} {c : VCheckpoint} {t : TypeId} (h : w.heap[b]? = some (.cells (cel (sCheckpoint c)) t)) : (lvCheckpoint ⟨b, 0, none⟩).run Try.prog w = .ok (.agg (cel (sCheckpoint c))) w :=
  loadAt_var (load_row h 42 _ Try.underlying42 rfl (by rw [cel_size]; kernel_rfl))

/-- What lies in a data's block. -/
theorem lvD_row {w : World} {b : Nat} {d : VData} {t : TypeId} (h : w.heap[b]? = some (.cells (cel (sData d)) t)) : (lvData ⟨b, 0, none⟩).run Try.prog w = .ok (.agg (cel (sData d))) w :=
  loadAt_var (load_row h 51 _ Try.underlying51 rfl (by rw [cel_size]; kernel_rfl))

theorem lvR_bys {w : World} {b o : Nat} {f : Nat → Int} (h : Bys w (some ⟨b, o, none⟩) 32 32 f) : (lv24 ⟨b, o, none⟩).run Try.prog w = .ok (.agg (vs .u8 32 f)) w := lv24_mid (fun j hj => by
  rcases h with ⟨h, _⟩ | ⟨_, _, h⟩ | ⟨b', off, h1, _, _, _, h5⟩
  · cases h
  · cases h
  · cases h1
    exact h5 j hj)

theorem dC0 {w : World} {g : Nat} {d : VData} {t : TypeId} (h : w.heap[g]? = some (.cells (cel (sData d)) t)) : w.cell? ⟨g, 0, none⟩ = some (.int .u64 d.f0) := seg_nu h 0 d.f0 rfl 0 rfl

theorem dR2 {w : World} {g : Nat} {d : VData} {t : TypeId} (h : w.heap[g]? = some (.cells (cel (sData d)) t)) : (lv24 ⟨g, 2, none⟩).run Try.prog w = .ok (.agg (vs .u8 32 d.f2)) w := lvR_bys (seg_bys h 2 32 d.f2 rfl 2 rfl (by omega))

theorem dK3 {w : World} {g : Nat} {d : VData} {t : TypeId} (h : w.heap[g]? = some (.cells (cel (sData d)) t)) : (lvCheckpoint ⟨g, 34, none⟩).run Try.prog w = .ok (.agg (cel (sCheckpoint d.f3))) w := lvCheckpoint_mid h 34 rfl rfl

theorem dC67 {w : World} {g : Nat} {d : VData} {t : TypeId} (h : w.heap[g]? = some (.cells (cel (sData d)) t)) : w.cell? ⟨g, 67, none⟩ = some (.int .u64 d.f4.f0) := seg_nu h 5 d.f4.f0 rfl 67 rfl

theorem dR68 {w : World} {g : Nat} {d : VData} {t : TypeId} (h : w.heap[g]? = some (.cells (cel (sData d)) t)) : (lv24 ⟨g, 68, none⟩).run Try.prog w = .ok (.agg (vs .u8 32 d.f4.f1)) w := lvR_bys (seg_bys h 6 32 d.f4.f1 rfl 68 rfl (by omega))

/-- The source that it must have; whether its times are right; its worth. -/
def soV (x : VState) (t : Int) : VCheckpoint := if t = x.f2 / 4 then x.f19 else x.f18

def tmE (x : VState) (d : VData) : Int := if (d.f4.f0 = x.f2 / 4 ∨ d.f4.f0 = lesV (x.f2 / 4) 1) ∧ d.f4.f0 = d.f0 / 4 then (if d.f0 < x.f2 ∧ x.f2 - d.f0 ≤ 4 then 0 else 31) else 29

def flE (x : VState) (d : VData) : Int := if rightB x = true then (if tmE x d = 0 then (if eqK d.f3 (soV x d.f4.f0) = true then 0 else 33) else tmE x d) else 1

def wo0 (x : VState) (d : VData) : Bool := decide (x.f2 - d.f0 ≤ 2)

def wo1 (x : VState) (d : VData) : Bool := eqR d.f4.f1 (rtV x (d.f4.f0 * 4))

def wo2 (x : VState) (d : VData) : Bool := wo1 x d && (eqR d.f2 (rtV x d.f0) && decide (x.f2 - d.f0 = 1))

def woV (x : VState) (d : VData) : Array Value := b3 (wo0 x d) (wo1 x d) (wo2 x d)

def flV (x : VState) (d : VData) : Array Value := if flE x d = 0 then woV x d else b3 false false false

theorem tmE_ok {x : VState} {d : VData} (h : tmE x d = 0) : d.f0 < x.f2 ∧ x.f2 - d.f0 ≤ 4 ∧ d.f4.f0 = d.f0 / 4 := by
  unfold tmE at h
  split at h
  · rename_i h1
    split at h
    · rename_i h2; exact ⟨h2.1, h2.2, h1.2⟩
    · omega
  · omega

theorem soV_ok {x : VState} (hx : OkState x) (t : Int) : OkCheckpoint (soV x t) := by
  unfold soV
  split
  · exact hx.o19
  · exact hx.o18

end Go.Proofs.Ytmbgidfngefniaa
