/-
  The program's isEmpty and Sync; awake.
-/

import Derived.Test.YtficlakgameglaaDoorChD
import Derived.Test.YtficlakgameglaaDoorQM
import Derived.Test.YtficlakgameglaaDoorQN
import Derived.Test.YtficlakgameglaaDoorQQ
import Derived.Test.YtficlakgameglaaDoorQL
namespace Go.Proofs.YtficlakgameglaaDoor

open Go.RowKit

set_option linter.unusedVariables false

set_option linter.unusedSimpArgs false

set_option maxRecDepth 20000

/-- Aggregates compared. -/
def litB (b : Nat → Bool) : List Lit := (List.range 8).map fun j => Lit.bool (b j)

theorem litB_len (b : Nat → Bool) : (litB b).length = 8 := by simp [litB]

def eqB8 (b c : Nat → Bool) : Bool := (List.range 8).all fun j => b j == c j

theorem litB_iff (b c : Nat → Bool) : litB b = litB c ↔ eqB8 b c = true := by
  unfold litB eqB8
  rw [List.map_inj_left, List.all_eq_true]
  constructor
  · intro h j hj
    exact beq_iff_eq.2 (Lit.bool.inj (h j hj))
  · intro h j hj
    rw [beq_iff_eq.1 (h j hj)]

theorem eqS_iff (c d : Nat → Int) : litR c 96 = litR d 96 ↔ eqS c d = true := by
  rw [litR_inj]
  unfold eqS
  rw [List.all_eq_true]
  constructor
  · intro h j hj
    exact beq_iff_eq.2 (h j (List.mem_range.1 hj))
  · intro h j hj
    exact beq_iff_eq.1 (h j (List.mem_range.2 hj))

theorem lits_b8 (d : Nat) (b : Nat → Bool) : Tryd.prog.keyLits (d + 2) 56 (celL (sB8 b)) = some (litB b) := by
  have c1 : Tryd.prog.cellsOf 4 = 1 := by kernel_rfl
  have c8 : Tryd.prog.cellsOf 56 = 8 := by kernel_rfl
  have e : (List.range 8).mapM (fun i => Tryd.prog.keyLits (d + 1) 4 (((celL (sB8 b)).drop (i * Tryd.prog.cellsOf 4)).take (Tryd.prog.cellsOf 4))) = some ((List.range 8).map fun i => [Lit.bool (b i)]) := mapM_is fun i hi => by
    have hi := List.mem_range.1 hi
    rw [c1, Nat.mul_one]
    have h1 : ((celL (sB8 b)).drop i).take 1 = [.bool (b i)] := by
      rcases (by omega : i = 0 ∨ i = 1 ∨ i = 2 ∨ i = 3 ∨ i = 4 ∨ i = 5 ∨ i = 6 ∨ i = 7) with rfl | rfl | rfl | rfl | rfl | rfl | rfl | rfl
      all_goals rfl
    rw [h1]
    simp [Program.keyLits, Tryd.underlying4]
  unfold Program.keyLits
  rw [Tryd.underlying56]
  show (if (celL (sB8 b)).length = Tryd.prog.cellsOf 56 then _ else none) = _
  rw [if_pos (by rw [c8]; rfl), e]
  exact congrArg some (flat_sing (fun i => Lit.bool (b i)) (List.range 8))

def litA (a : VSyncAggregate) : List Lit := litB a.f0 ++ (litR a.f1 96 ++ [])

def eqA (a b : VSyncAggregate) : Bool := eqB8 a.f0 b.f0 && eqS a.f1 b.f1

theorem litA_iff (a b : VSyncAggregate) : litA a = litA b ↔ eqA a b = true := by
  unfold litA eqA
  rw [Bool.and_eq_true, ← litB_iff, ← eqS_iff, List.append_nil, List.append_nil]
  constructor
  · intro h
    exact List.append_inj h (by rw [litB_len, litB_len])
  · rintro ⟨h1, h2⟩
    rw [h1, h2]

theorem cel_A (a : VSyncAggregate) : celL (sSyncAggregate a) = celL (sB8 a.f0) ++ bl a.f1 96 := by
  show _ = celL (sB8 a.f0) ++ (List.range 96).map _
  rw [← List.append_nil ((List.range 96).map fun j => Value.int .u8 (a.f1 j))]
  rfl

theorem lits_A (a : VSyncAggregate) (h : ∀ j, j < 96 → 0 ≤ a.f1 j ∧ a.f1 j < 256) : Tryd.prog.keyLits 5 58 (celL (sSyncAggregate a)) = some (litA a) := by
  have c1 : Tryd.prog.cellsOf 55 = 96 := by kernel_rfl
  have c2 : Tryd.prog.cellsOf 56 = 8 := by kernel_rfl
  have c3 : Tryd.prog.cellsOf 58 = 104 := by kernel_rfl
  have h1 := lits_b8 2 a.f0
  have h2 := lits_by Tryd.underlying55 c1 2 a.f1 h
  have l8 : (celL (sB8 a.f0)).length = 8 := rfl
  have e1 : (celL (sSyncAggregate a)).take 8 = celL (sB8 a.f0) := by rw [cel_A, List.take_left' l8]
  have e2 : ((celL (sSyncAggregate a)).drop 8).take 96 = bl a.f1 96 := by
    rw [cel_A, List.drop_left' l8]
    exact List.take_of_length_le (by rw [bl_len]; omega)
  have hu := Tryd.underlying58
  unfold Program.keyLits
  rw [hu]
  show (if (celL (sSyncAggregate a)).length = Tryd.prog.cellsOf 58 ∧ _ then _ else none) = _
  rw [if_pos ⟨by rw [celL_len, c3]; rfl, by kernel_rfl⟩]
  simp [List.mapM_cons, c1, c2, e1, e2, h1, h2, litA]

def eqoA (x y : Value) : Sem Value := binOp .eql 58 x y

theorem eqoA_eq (x y : Value) : binOp .eql 58 x y = eqoA x y := rfl

theorem eqoA_run (w : World) (a b : VSyncAggregate) (ha : ∀ j, j < 96 → 0 ≤ a.f1 j ∧ a.f1 j < 256) (hb : ∀ j, j < 96 → 0 ≤ b.f1 j ∧ b.f1 j < 256) : (eqoA (.agg (cel (sSyncAggregate a))) (.agg (cel (sSyncAggregate b)))).run Tryd.prog w = .ok (.bool (eqA a b)) w := by
  have hk : Tryd.prog.keyTypeAt 5 58 = true := by kernel_rfl
  have hf : ∀ v : VSyncAggregate, (Value.agg (cel (sSyncAggregate v))).formed Tryd.prog 58 = true := fun v => by
    simp only [Value.formed, Tryd.underlying58]
    rw [cel_size, slSyncAggregate]
    kernel_rfl
  obtain ⟨r, h1, h2⟩ := run_equalIn_deep (P := Tryd.prog) 9995 5 58 hk w 5 5 (.agg (cel (sSyncAggregate a))) (.agg (cel (sSyncAggregate b))) _ _ (hf a) (hf b) (lits_A a ha) (lits_A b hb)
  rw [litA_iff] at h2
  have hr : eqA a b = r := by
    cases r
    · cases h : eqA a b
      · rfl
      · exact absurd (h2.2 h) (by decide)
    · exact h2.1 rfl
  have h3 : (Op.equalIn Op.maxDepth 58 (.agg (cel (sSyncAggregate a))) (.agg (cel (sSyncAggregate b)))).run Tryd.prog w = .ok (eqA a b) w := by rw [hr]; exact h1
  unfold eqoA
  simp [binOp, Op.equal, h3]

def emA : VSyncAggregate := ⟨fun _ => false, emG⟩

theorem emG_bd (j : Nat) : 0 ≤ emG j ∧ emG j < 256 := by unfold emG; split <;> omega

theorem eqA_em (a : VSyncAggregate) : eqA a emA = cyB a := by
  have h : eqB8 a.f0 (fun _ => false) = decide (skN a.f0 8 = 0) := by
    unfold eqB8
    by_cases h0 : skN a.f0 8 = 0
    · rw [decide_eq_true h0, List.all_eq_true]
      exact fun j hj => beq_iff_eq.2 (skN_zero 8 h0 j (List.mem_range.1 hj))
    · rw [decide_eq_false h0, List.all_eq_false]
      have : ∃ j, j < 8 ∧ a.f0 j = true := by
        refine Classical.byContradiction fun hc => h0 ?_
        have hz : ∀ k, k ≤ 8 → skN a.f0 k = 0 := fun k => by
          induction k with
          | zero => exact fun _ => rfl
          | succ k ih =>
            intro hk
            have : a.f0 k = false := by
              cases hb : a.f0 k
              · rfl
              · exact absurd ⟨k, by omega, hb⟩ hc
            rw [skN_no this]
            exact ih (by omega)
        exact hz 8 (Nat.le_refl _)
      obtain ⟨j, hj, hb⟩ := this
      exact ⟨j, List.mem_range.2 hj, by rw [hb]; simp⟩
  show (eqB8 a.f0 (fun _ => false) && eqS a.f1 emG) = _
  rw [h]
  rfl

theorem lvAg_run {w : World} {b : Nat} {x : VSyncAggregate} {t : TypeId} (h : w.heap[b]? = some (.cells (cel (sSyncAggregate x)) t)) : (lvSyncAggregate ⟨b, 0, none⟩).run Tryd.prog w = .ok (.agg (cel (sSyncAggregate x))) w :=
  loadAt_var (load_row h 58 _ Tryd.underlying58 rfl (by rw [cel_size, slSyncAggregate]; kernel_rfl))

def lvB8 (a : Addr) : Sem Value := loadVar 56 a

theorem lvB8_eq (a : Addr) : loadVar 56 a = lvB8 a := rfl

theorem ag_cel (a : VSyncAggregate) : cel (sSyncAggregate a) = (celL (sB8 a.f0) ++ bl a.f1 96).toArray := congrArg List.toArray (cel_A a)

theorem ag_bits {w : World} {g : Nat} {t : TypeId} {a : VSyncAggregate} (h : w.heap[g]? = some (.cells (cel (sSyncAggregate a)) t)) : (lvB8 ⟨g, 0, none⟩).run Tryd.prog w = .ok (.agg (cel (sB8 a.f0))) w := by
  have hr : w.rangeAt g 0 (celL (sB8 a.f0)) := fun j v hj => by
    rw [Nat.zero_add, row_cell h, ag_cel, List.getElem?_toArray, List.getElem?_append_left (List.getElem?_eq_some_iff.1 hj).1]
    exact hj
  exact loadAt_var (run_loadAt_mid w g 0 56 _ _ hr Tryd.underlying56 rfl (by rw [show (celL (sB8 a.f0)).length = 8 from rfl]; kernel_rfl))

theorem bdSg_192 (W : World) : (bdSg #[(0, .int .u8 192)]).run Tryd.prog W = .ok (.agg (vs .u8 96 emG)) W := by kernel_rfl

theorem bdAg_em (W : World) : (bdSyncAggregate #[(1, .agg (vs .u8 96 emG))]).run Tryd.prog W = .ok (.agg (cel (sSyncAggregate emA))) W := by kernel_rfl

attribute [local go_sem ↓] lvState_eq svState_eq bdState_eq lvSyncAggregate_eq bdSyncAggregate_eq bdSg_eq lvB8_eq sv24_eq lv24_eq bs22_eq eqoA_eq

set_option maxHeartbeats 2000000 in
theorem isem_any (a : VSyncAggregate) (w : World) (ha : ∀ j, j < 96 → 0 ≤ a.f1 j ∧ a.f1 j < 256) :
    Calls Tryd.prog 16 #[.agg (cel (sSyncAggregate a))] w fun e' w' => e' = .returned (.bool (cyB a)) ∧ Below w.heap.size w w' := by
  obtain ⟨W0, hW0⟩ : ∃ W, w.alloc (.cells (cel (sSyncAggregate a)) 58) = W := ⟨_, rfl⟩
  have r0 : W0.heap[w.heap.size]? = some (.cells (cel (sSyncAggregate a)) 58) := by rw [← hW0]; exact heap_new rfl
  have hB0 : Up w W0 := by rw [← hW0]; exact (Below.refl _ _).alloc (Nat.le_refl _) _
  have la := lvAg_run r0
  have b1 := bdSg_192
  have b2 := bdAg_em
  have hq := fun W => eqoA_run W a emA ha fun j _ => emG_bd j
  rw [eqA_em] at hq
  obtain ⟨B, eB⟩ : ∃ B, cyB a = B := ⟨_, rfl⟩
  obtain ⟨EM, eE⟩ : ∃ B, cel (sSyncAggregate emA) = B := ⟨_, rfl⟩
  obtain ⟨EG, eG⟩ : ∃ B, vs .u8 96 emG = B := ⟨_, rfl⟩
  rw [eG] at b1 b2
  rw [eE] at b2
  rw [eB, eE] at hq
  rw [eB]
  have HB := hid hB0
  have HW := hid hW0
  clear hB0 hW0 r0 ha eB eE eG
  go_enter Tryd.func16, Tryd.ntmps16
  go_upto_region 1 with fail
  rw [HW.out]
  clear HW
  go_wp2
  go_ret
  exact ⟨rfl, HB.out⟩

set_option maxHeartbeats 16000000 in
theorem csync_prog (x : VState) (a : VSyncAggregate) (r : Int) (ao : Option Addr) (n cap : Nat) (f : Nat → Int) (w : World) (hx : OkState x) (hw : InW w x) (hn : NilW x) (hl : Lns x) (hs : ∀ j, j < 96 → 0 ≤ a.f1 j ∧ a.f1 j < 256) (hr : IsRut (allS x) r) (hb : Rts w ao n cap f) (hnn : n ≤ 9223372036854775807) (hS : Sh w) :
    Calls Tryd.prog 8 #[.agg (cel (sState x)), .agg (cel (sSyncAggregate a)), .slice ao n cap] w (CyA x a r f n w) := by
  obtain ⟨W0, hW0⟩ : ∃ W, ((w.alloc (.cells (cel (sState x)) 49)).alloc (.cells (cel (sSyncAggregate a)) 58)).alloc (.cells (cel (sState oState)) 49) = W := ⟨_, rfl⟩
  have r0 : W0.heap[w.heap.size]? = some (.cells (cel (sState x)) 49) := by rw [← hW0]; exact (heap_old (by simp <;> omega)).trans ((heap_old (by simp)).trans (heap_new rfl))
  have r1 : W0.heap[w.heap.size + 1]? = some (.cells (cel (sSyncAggregate a)) 58) := by rw [← hW0]; exact (heap_old (by simp)).trans (heap_new (by simp))
  have r2 : W0.heap[w.heap.size + 2]? = some (.cells (cel (sState oState)) 49) := by rw [← hW0]; exact heap_new (by simp)
  have hB0 : Up w W0 := by rw [← hW0]; exact (((Below.refl _ _).alloc (Nat.le_refl _) _).alloc (by simp) _).alloc (by simp <;> omega) _
  have hri := right_any x W0 hx.r' (hw.below hB0).r' hl
  have lx := lvState_run r0
  have z := zeroState
  have bz := bdState_0
  have HB := hid hB0
  have HW := hid hW0
  have R0 := hid r0
  have R1 := hid r1
  have R2 := hid r2
  unfold CyA
  cases hR : rightB x
  · rw [hR] at hri
    have HRI := hid hri
    have eK : cyK x a = 0 := by unfold cyK; rw [hR]; rfl
    have eE : cyE x a r f n = 1 := by unfold cyE; rw [hR]; rfl
    have eS : cyS x a r f n = oState := by unfold cyS; rw [eE]; rfl
    rw [eK, eE, eS]
    clear hri hB0 hW0 r0 r1 r2 hx hw hn hl hs hr hb hnn hS eK eE eS
    go_enter Tryd.func8, Tryd.ntmps8
    go_upto_region 1 with fail
    rw [HW.out]
    clear HW z
    go_wp2_with (go_at_call 11; refine HRI.out.mono ?_; rintro e' w1 ⟨rfl, hu⟩; have s1 := svState_run (upR hu R2.out) oState)
    exact retState3 6 7 8 (w.heap.size + 2) oState 49 (.slice none 0 0) (.int .i64 1) rfl rfl rfl rfl rfl (setRow_at (upR hu R2.out)) ⟨oState, none, 0, rfl, resO _ _, .inl ⟨rfl, rfl, rfl⟩, .inl rfl, below_row (upT HB.out hu) (by omega) _⟩
  · rw [hR] at hri
    have HRI := hid hri
    have hrg := (rightB_out hR).rg hx
    by_cases h2 : x.f2 = 0
    · have eK : cyK x a = 0 := by unfold cyK; rw [hR, if_pos rfl, if_pos h2]
      have eE : cyE x a r f n = 20 := by unfold cyE; rw [hR, if_pos rfl, if_pos h2]
      have eS : cyS x a r f n = oState := by unfold cyS; rw [eE]; rfl
      rw [eK, eE, eS]
      clear hri hB0 hW0 r0 r1 r2 hx hw hn hl hs hr hb hnn hS eK eE eS hrg
      go_enter Tryd.func8, Tryd.ntmps8
      go_upto_region 1 with fail
      rw [HW.out]
      clear HW z
      go_wp2_with (go_at_call 11; refine HRI.out.mono ?_; rintro e' w1 ⟨rfl, hu⟩; have c2 := cS2 (upR hu R0.out); rw [h2] at c2; have s1 := svState_run (upR hu R2.out) oState)
      exact retState3 6 7 8 (w.heap.size + 2) oState 49 (.slice none 0 0) (.int .i64 20) rfl rfl rfl rfl rfl (setRow_at (upR hu R2.out)) ⟨oState, none, 0, rfl, resO _ _, .inl ⟨rfl, rfl, rfl⟩, .inl rfl, below_row (upT HB.out hu) (by omega) _⟩
    · have h2' : (x.f2 == 0) = false := by simp [h2]
      have h21 : 1 ≤ x.f2 := by have := hx.o2.1; omega
      have hie := fun W => isem_any a W hs
      have hpd := fun (W : World) (h : Up w W) => paid_prog x r a.f0 W hx (hw.below h) hn hR hr (hS.below h)
      have HPD := hid hpd
      have HIE := hid hie
      cases hB : cyB a
      · rw [hB] at hie
        replace HIE := hid hie
        have eK : cyK x a = 1 := by unfold cyK; rw [hR, if_pos rfl, if_neg h2, hB]; rfl
        have hqu := fun (W : World) (h : Up w W) => sque_any x a W hx (hw.below h) hrg h21 hs (hS.below h)
        have hgo := fun (W : World) (h : Up w W) => goo_prog (cyQ x a) f ao n cap W (hb.below h) hnn
        have hyb : gdB (cyQ x a) f n = true → cyE x a r f n = pdE x r a.f0 ∧ cyS x a r f n = pdS x r a.f0 := fun h => by
          have e1 : cyE x a r f n = pdE x r a.f0 := by unfold cyE; rw [hR, if_pos rfl, if_neg h2, hB, if_neg (by decide), if_pos h]
          refine ⟨e1, ?_⟩
          unfold cyS
          rw [e1]
          unfold pdS
          split <;> rfl
        have hyn : gdB (cyQ x a) f n = false → cyE x a r f n = 25 ∧ cyS x a r f n = oState := fun h => by
          have e1 : cyE x a r f n = 25 := by unfold cyE; rw [hR, if_pos rfl, if_neg h2, hB, if_neg (by decide), h]; rfl
          refine ⟨e1, ?_⟩
          unfold cyS
          rw [e1]
          rfl
        rw [eK]
        obtain ⟨QE, eQE⟩ : ∃ q, cyE x a r f n = q := ⟨_, rfl⟩
        obtain ⟨QS, eQS⟩ : ∃ q, cyS x a r f n = q := ⟨_, rfl⟩
        rw [eQE, eQS] at hyb hyn ⊢
        obtain ⟨QV, eQ⟩ : ∃ q, cyQ x a = q := ⟨_, rfl⟩
        rw [eQ] at hqu hyb hyn ⊢
        simp only [eQ] at hgo
        have HQU := hid hqu
        have HGO := hid hgo
        have HYB := hid hyb
        have HYN := hid hyn
        clear hri hie hpd hqu hgo hyb hyn hB0 hW0 r0 r1 r2 hx hw hn hl hs hr hb hnn hS eK hrg h21 eQ eQE eQS hB hR
        go_enter Tryd.func8, Tryd.ntmps8
        go_upto_region 1 with fail
        rw [HW.out]
        clear HW
        go_upto_region 6 with (go_at_call 11; refine HRI.out.mono ?_; rintro e' w1 ⟨rfl, hb1⟩; have c2 := cS2 (upR hb1 R0.out); have la1 := lvAg_run (upR hb1 R1.out))
        have HU1 := hid hb1
        have HI1 := hid (HIE.out w1)
        clear hb1 HRI HIE lx c2
        go_upto_region 7 with (go_at_call 16; refine HI1.out.mono ?_; rintro e' w2 ⟨rfl, hb2⟩)
        have hu2 := upT HU1.out hb2
        have lx2 := lvState_run (upR hu2 R0.out)
        have la2 := lvAg_run (upR hu2 R1.out)
        have HQ2 := hid (HQU.out w2 (upT HB.out hu2))
        have HU2 := hid hu2
        have zr := zero_root
        clear hu2 hb2 HI1 HU1 HQU la1
        go_upto_region 8 with (go_at_call 17; refine HQ2.out.mono ?_; rintro e' w3 ⟨rfl, hb3⟩; have sv := sv24_newv w3 (fun _ => 0) QV)
        obtain ⟨W4, y4, hW4, ey4, r4, hd4, b4⟩ := upN2 hb3 (.cells (vs .u8 32 QV) 24)
        rw [hW4, ey4]
        have hu4 := upT HU2.out (upT hb3 hd4)
        have lq4 := lv24_run r4
        have bs1 := fun W => bs22_1 W QV
        obtain ⟨W5, y5, hW5, ey5, r5, hd5, b5⟩ := upN2 hu4 (.cells (vs .u8 32 QV) 24)
        have hu5 := upT hu4 hd5
        have q4 := upR hd5 r4
        have lq5 := lv24_run q4
        have RQ5 := hid r5
        have HU5 := hid hu5
        have HG5 := hid (HGO.out W5 (upT HB.out hu5))
        have y5b : w.heap.size + 3 ≤ y5 := by
          have := hu4.size
          have := HB.out.size
          have := some_ltK R2.out
          omega
        clear hW4 ey4 r4 hd4 b4 hu4 hb3 HQ2 HU2 hd5 q4 hu5 sv lx2 la2 zr HGO
        go_upto_region 9 with fail
        clear hW5 ey5 b5 bs1 lq4
        cases hG : gdB QV f n
        · obtain ⟨rfl, rfl⟩ := HYN.out hG
          rw [hG] at HG5
          clear HYB HYN HPD r5 hG
          go_wp2_with (go_at_call 18; refine HG5.out.mono ?_; rintro e' w6 ⟨rfl, hb6⟩; have s6 := svState_run (upR (upT HU5.out hb6) R2.out) oState)
          have hr6 := upR (upT HU5.out hb6) R2.out
          refine retState3 6 7 8 (w.heap.size + 2) oState 49 (.slice (some ⟨y5, 0, none⟩) 1 1) (.int .i64 25) rfl rfl rfl rfl rfl (setRow_at hr6) ⟨oState, _, _, rfl, resO _ _, ?_, .inr ⟨_, rfl, by show w.heap.size ≤ y5; omega⟩, below_row (upT HB.out (upT HU5.out hb6)) (by omega) _⟩
          exact .inr (.inr ⟨y5, 0, rfl, Nat.le_refl _, some_ltK ((setRow_other (by omega)).trans (upR hb6 RQ5.out)), fun j hj => by rw [Nat.zero_add]; exact row_int ((setRow_other (by omega)).trans (upR hb6 RQ5.out)) j (by omega)⟩)
        · obtain ⟨eE, rfl⟩ := HYB.out hG
          rw [hG] at HG5
          clear HYB HYN r5 hG
          go_upto_region 11 with (go_at_call 18; refine HG5.out.mono ?_; rintro e' w6 ⟨rfl, hb6⟩)
          have hu6 := upT HU5.out hb6
          have lx6 := lvState_run (upR hu6 R0.out)
          have lb6 := ag_bits (upR hu6 R1.out)
          have hl6 := HPD.out w6 (upT HB.out hu6)
          unfold PdA at hl6
          rw [← eE] at hl6
          have HL6 := hid hl6
          have RQ6 := hid (upR hb6 RQ5.out)
          have HU6 := hid hu6
          clear hu6 hb6 HG5 HPD RQ5 HU5 hl6 eE
          go_upto_region 12 with (go_at_call 19; refine HL6.out.mono ?_; rintro e' w7 ⟨X, rfl, hres, hb7⟩; have sv := svState_newv w7 oState X; have HRES := hid hres; have HB7 := hid hb7; clear hres hb7)
          obtain ⟨W8, y8, hW8, ey8, r8, hd8, b8⟩ := upN2 HB7.out (.cells (cel (sState X)) 49)
          rw [hW8, ey8]
          have h78 := upT HB7.out hd8
          have hu8 := upT HU6.out h78
          have l8 := lvState_run r8
          have q2 := upR hu8 R2.out
          have s8 := svState_run q2 X
          have HQQ := hid (upR h78 RQ6.out)
          have HRS := hid (HRES.out.below hd8)
          have hz6 : w.heap.size + 2 < w6.heap.size := Nat.lt_of_lt_of_le (some_ltK R2.out) HU6.out.size
          have HU8 := hid (upT HB.out hu8)
          have Q2 := hid q2
          clear hW8 ey8 r8 hd8 b8 h78 hu8 HB7 HRES HL6 HU6 sv q2
          go_wp2
          exact retState3 6 7 8 (w.heap.size + 2) X 49 (.slice (some ⟨y5, 0, none⟩) 1 1) (.int .i64 QE) rfl rfl rfl rfl rfl (setRow_at Q2.out) ⟨X, _, _, rfl, ((HRS.out.row hz6 _).to (by omega) HRS.out.sim), .inr (.inr ⟨y5, 0, rfl, Nat.le_refl _, some_ltK ((setRow_other (by omega)).trans HQQ.out), fun j hj => by rw [Nat.zero_add]; exact row_int ((setRow_other (by omega)).trans HQQ.out) j (by omega)⟩), .inr ⟨_, rfl, by show w.heap.size ≤ y5; omega⟩, below_row HU8.out (by omega) _⟩
      · rw [hB] at hie
        replace HIE := hid hie
        have eK : cyK x a = 0 := by unfold cyK; rw [hR, if_pos rfl, if_neg h2, hB]; rfl
        have eE : cyE x a r f n = pdE x r a.f0 := by unfold cyE; rw [hR, if_pos rfl, if_neg h2, hB, if_pos rfl]
        have eS : cyS x a r f n = pdS x r a.f0 := by unfold cyS; rw [eE]; unfold pdS; split <;> rfl
        rw [eK, eE, eS]
        obtain ⟨QE, eQE⟩ : ∃ q, pdE x r a.f0 = q := ⟨_, rfl⟩
        unfold PdA at HPD
        rw [eQE] at HPD ⊢
        clear hri hie hpd hB0 hW0 r0 r1 r2 hx hw hn hl hs hr hb hnn hS eK hrg h21 eQE eE eS hB hR
        go_enter Tryd.func8, Tryd.ntmps8
        go_upto_region 1 with fail
        rw [HW.out]
        clear HW
        go_upto_region 6 with (go_at_call 11; refine HRI.out.mono ?_; rintro e' w1 ⟨rfl, hb1⟩; have c2 := cS2 (upR hb1 R0.out); have la1 := lvAg_run (upR hb1 R1.out))
        have HU1 := hid hb1
        have HI1 := hid (HIE.out w1)
        clear hb1 HRI HIE lx c2
        go_upto_region 11 with (go_at_call 16; refine HI1.out.mono ?_; rintro e' w6 ⟨rfl, hb6⟩)
        have hu6 := upT HU1.out hb6
        have lx6 := lvState_run (upR hu6 R0.out)
        have lb6 := ag_bits (upR hu6 R1.out)
        have HL6 := hid (HPD.out w6 (upT HB.out hu6))
        have HU6 := hid hu6
        clear hu6 hb6 HI1 HU1 HPD la1
        go_upto_region 12 with (go_at_call 19; refine HL6.out.mono ?_; rintro e' w7 ⟨X, rfl, hres, hb7⟩; have sv := svState_newv w7 oState X; have HRES := hid hres; have HB7 := hid hb7; clear hres hb7)
        obtain ⟨W8, y8, hW8, ey8, r8, hd8, b8⟩ := upN2 HB7.out (.cells (cel (sState X)) 49)
        rw [hW8, ey8]
        have h78 := upT HB7.out hd8
        have hu8 := upT HU6.out h78
        have l8 := lvState_run r8
        have q2 := upR hu8 R2.out
        have s8 := svState_run q2 X
        have HRS := hid (HRES.out.below hd8)
        have hz6 : w.heap.size + 2 < w6.heap.size := Nat.lt_of_lt_of_le (some_ltK R2.out) HU6.out.size
        have HU8 := hid (upT HB.out hu8)
        have Q2 := hid q2
        clear hW8 ey8 r8 hd8 b8 h78 hu8 HB7 HRES HL6 HU6 sv q2
        go_wp2
        exact retState3 6 7 8 (w.heap.size + 2) X 49 (.slice none 0 0) (.int .i64 QE) rfl rfl rfl rfl rfl (setRow_at Q2.out) ⟨X, none, 0, rfl, ((HRS.out.row hz6 _).to (by omega) HRS.out.sim), .inl ⟨rfl, rfl, rfl⟩, .inl rfl, below_row HU8.out (by omega) _⟩

end Go.Proofs.YtficlakgameglaaDoor
