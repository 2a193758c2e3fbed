/-
  Validators looked at: who is active, sums; lists of numbers that grow.
  What the document's Active, CanSlash, Epoch, Actives, Total, All and Churn answer.
-/
import Derived.Test.YtficlakgameglaaDoorStD
import Derived.Laws.AppendOwnNone

import Derived.BigQuiet

import Derived.Deep.QuietTactic

import Derived.Deep.RegionHeld3

namespace Go.Proofs.YtficlakgameglaaDoor

open Go.RowKit

set_option linter.unusedVariables false

set_option linter.unusedSimpArgs false

set_option maxRecDepth 20000

/-- Is a validator active? May it be slashed? -/
def actB (v : VValidator) (e : Int) : Bool := decide (v.f5 ≤ e) && decide (e < v.f6)

/-- The actives below k. -/
def acL (z : Nat → VValidator) (e : Int) : Nat → List Int
  | 0 => []
  | k + 1 => if actB (z k) e = true then acL z e k ++ [(k : Int)] else acL z e k

theorem acL_len (z : Nat → VValidator) (e : Int) (k : Nat) : (acL z e k).length ≤ k := by
  induction k with
  | zero => exact Nat.le_refl _
  | succ k ih =>
    unfold acL
    split
    · simp; omega
    · omega

theorem acL_bd (z : Nat → VValidator) (e : Int) (k : Nat) : ∀ v ∈ acL z e k, 0 ≤ v ∧ v < (k : Int) := by
  induction k with
  | zero => intro v hv; cases hv
  | succ k ih =>
    intro v hv
    unfold acL at hv
    split at hv
    · rcases List.mem_append.1 hv with h | h
      · have := ih v h; omega
      · simp at h; omega
    · have := ih v hv; omega

/-- The sum of the validators that are there, of the first k of a list. -/
def ttl (z : Nat → VValidator) (n : Nat) (f : Nat → Int) : Nat → Int
  | 0 => 0
  | k + 1 => if f k < (n : Int) then ttl z n f k + (z (f k).toNat).f2 else ttl z n f k

theorem ttl_bd (z : Nat → VValidator) (n : Nat) (f : Nat → Int) (hz : ∀ j, j < n → 0 ≤ (z j).f2 ∧ (z j).f2 ≤ 32000000000) (k : Nat) (hf : ∀ j, j < k → 0 ≤ f j) : 0 ≤ ttl z n f k ∧ ttl z n f k ≤ (k : Int) * 32000000000 := by
  induction k with
  | zero => exact ⟨Int.le_refl _, by unfold ttl; omega⟩
  | succ k ih =>
    have := ih (fun j hj => hf j (by omega))
    unfold ttl
    split
    · rename_i h
      have h2 := hz (f k).toNat (by have := hf k (by omega); omega)
      omega
    · omega

/-- At least an Increment. -/
def lst (n : Int) : Int := if n < 1000000000 then 1000000000 else n

/-- Numbers, as values. -/
def iv6 (l : List Int) : List Value := l.map (Value.int .u64)

theorem info64 : (Tryd.prog.info? 22).map (fun i => (i.zero, i.size, i.bytes)) = some (some (.int .u64 0), 1, 8) := by kernel_rfl

/-- append of one number onto a slice of the call's own. -/
theorem wpList_append_one (w : World) {ops : Array Oper} {rest : List Oper} {o : Oper} {a : Act} {Q : Exit → Act → World → Prop} (hgd : o.guard = none) (s x : Operand)
    (ho : o.op = .call { callee := .builtin .append, args := #[s, x], argTypes := #[37, 37] })
    (base : Nat) (v : Value) (l : List Int) (z : Int) (hs : a.eval s = v) (hown : w.ownsRow base 22 1 v l.length (iv6 l))
    (hx : a.eval x = .slice (some ⟨w.heap.size, 0, none⟩) 1 1) (hbd : l.length + 1 ≤ 17592186044416) (hbase : base ≤ w.heap.size)
    (h : ∀ v' w', w'.ownsRow base 22 1 v' (l ++ [z]).length (iv6 (l ++ [z])) → w.grownBy w' v.ownBlock → wpList Tryd.prog ops Q rest (a.put o.dst v') w') :
    wpList Tryd.prog ops Q (o :: rest) a (w.alloc (.cells #[.int .u64 z] 22)) := by
  obtain ⟨i, hi, hz0, hz1, hz2⟩ := info_parts info64
  refine wpList_append_own _ hgd s x 37 ho base 22 i (.int .u64 0) 1 8 Tryd.underlying37 hi hz0 hz1 hz2 rfl (by decide) v l.length (iv6 l) hs (hown.alloc _) ⟨w.heap.size, 0, none⟩ 1 1 [.int .u64 z] hx rfl (cell_one_new _ _ _)
    (fun u hu => by simp at hu; subst hu; rfl) (by unfold maxLen; omega) (by omega) (by simp; omega) (fun v' w' h1 h2 _ => ?_)
  have e : iv6 l ++ [.int .u64 z] = iv6 (l ++ [z]) := by simp [iv6]
  rw [e] at h1
  refine h v' w' (by rw [List.length_append]; exact h1) ⟨h2.os, h2.tape, h2.output, ?_, fun k hk hne => ?_⟩
  · have := h2.size
    simp at this
    omega
  · exact (h2.block k (by simp; omega) hne).trans (heap_old hk)

/-- The numbers of a list, in memory. -/
def Nml (w : World) (a : Option Addr) (l : List Int) : Prop := Z.Nms .u64 w a l.length (fun j => l.getD j 0)

theorem own_nml {w : World} {B : Nat} {v : Value} {l : List Int} (h : w.ownsRow B 22 1 v l.length (iv6 l)) : ∃ a C, v = .slice a l.length C ∧ Nml w a l := by
  rcases h.2 with ⟨h1, h2⟩ | ⟨g, cap, cur, h1, _, _, h2, h3, _⟩
  · subst h1
    exact ⟨none, 0, by rw [h2], .inl h2⟩
  · subst h1
    refine ⟨some ⟨g, 0, none⟩, cap, rfl, .inr ⟨g, 0, rfl, (h.lt g rfl).2, fun j hj => ?_⟩⟩
    have hj' : (iv6 l)[j]? = some (.int .u64 (l.getD j 0)) := by
      unfold iv6
      rw [List.getElem?_map, List.getElem?_eq_getElem hj, List.getD_eq_getElem?_getD, List.getElem?_eq_getElem hj]
      rfl
    have := h.cells (g := g) rfl j _ hj'
    rw [addr_add] at this
    exact this

theorem own_below {w w' : World} {B : Nat} {e : TypeId} {v : Value} {n : Nat} {xs : List Value} (h : w.ownsRow B e 1 v n xs) (hb : Below w.heap.size w w') : w'.ownsRow B e 1 v n xs := by
  refine ⟨h.1, ?_⟩
  rcases h.2 with h | ⟨g, cap, cur, e1, e2, e3, e4⟩
  · exact .inl h
  · exact .inr ⟨g, cap, cur, e1, e2, (hb.block _ (Array.getElem?_eq_some_iff.1 e3).1).trans e3, e4⟩

theorem drewN_heap (w : World) : ∀ q, (w.drewN q).heap = w.heap ∧ (w.drewN q).os = w.os ∧ (w.drewN q).tape = w.tape ∧ (w.drewN q).output = w.output := by
  intro q
  induction q with
  | zero => exact ⟨rfl, rfl, rfl, rfl⟩
  | succ q ih => exact ih

theorem below_drewN {B : Nat} {w w' : World} (h : Below B w w') (q : Nat) : Below B w (w'.drewN q) := by
  obtain ⟨h1, h2, h3, h4⟩ := drewN_heap w' q
  exact ⟨h2.trans h.os, h3.trans h.tape, h4.trans h.output, by rw [h1]; exact h.size, fun k hk => by rw [h1]; exact h.block k hk⟩

theorem ret_int {k : IntKind} {a b : Int} (h : a = b) : Ending.returned (.int k a) = .returned (.int k b) := by rw [h]

theorem ret_bool {a b : Bool} (h : a = b) : Ending.returned (.bool a) = .returned (.bool b) := by rw [h]

theorem val_eff {w : World} {b o : Nat} {v : VValidator} (h : w.rangeAt b o (celL (sValidator v))) : w.cell? ⟨b, o + 80, none⟩ = some (.int .u64 v.f2) := h 80 _ rfl

end Go.Proofs.YtficlakgameglaaDoor

namespace Go.Proofs.YtficlakgameglaaDoor

open Go.RowKit

set_option linter.unusedVariables false

set_option linter.unusedSimpArgs false

set_option maxRecDepth 20000

/-- What is looked at of a state. -/
structure Lk (w : World) (x : VState) : Prop where
  el : Els w x.f11.a x.f11.n 86 (fun i => celL (sValidator (x.f11.z i)))
  nb : x.f11.n ≤ 65536
  ef : ∀ j, j < x.f11.n → 0 ≤ (x.f11.z j).f2 ∧ (x.f11.z j).f2 ≤ 32000000000
  sl : 0 ≤ x.f2 ∧ x.f2 < 1099511627776

theorem Lk.below {w w' : World} {x : VState} (h : Lk w x) (hb : Below w.heap.size w w') : Lk w' x := ⟨h.el.below hb, h.nb, h.ef, h.sl⟩

attribute [local go_sem ↓] lvState_eq svState_eq bdState_eq lvValidator_eq svValidator_eq ixValidator_eq

theorem ixValidator_u (w : World) (b off len cap i : Nat) (h : i < len) : (ixValidator (.slice (some ⟨b, off, none⟩) len cap) (.int .u64 i)).run Tryd.prog w = .ok (.pointer (some ⟨b, off + 86 * i, none⟩)) w := by
  unfold ixValidator Instr.indexAt
  have h1 : (0 : Int) ≤ (i : Int) ∧ (i : Int) < (len : Int) := by omega
  simp only [asIntOf, Sem.run_bind, Sem.run_pure, Result.andThen_ok, run_underlying Tryd.underlying36, if_pos h1, sizeValidator, Addr.add_mid, Int.toNat_natCast]
  rw [Nat.mul_comm]

set_option maxHeartbeats 1000000 in
theorem ractive_any (v : VValidator) (e : Int) (w : World) :
    Calls Tryd.prog 59 #[.agg (cel (sValidator v)), .int .u64 e] w fun e' w' => e' = .returned (.bool (actB v e)) ∧ Below w.heap.size w w' := by
  obtain ⟨W0, hW0⟩ : ∃ W, w.alloc (.cells (cel (sValidator v)) 82) = W := ⟨_, rfl⟩
  have r0 : W0.heap[w.heap.size]? = some (.cells (cel (sValidator v)) 82) := by rw [← hW0]; exact heap_new rfl
  have hB0 : Below w.heap.size w W0 := by rw [← hW0]; exact (Below.refl _ _).alloc (Nat.le_refl _) _
  have l5 := seg_nu r0 5 v.f5 rfl 83 rfl
  have l6 := seg_nu r0 6 v.f6 rfl 84 rfl
  have hE : actB v e = (decide (v.f5 ≤ e) && decide (e < v.f6)) := rfl
  generalize v.f5 = p at *
  generalize v.f6 = q at *
  have HB := hid hB0
  have HW := hid hW0
  have HE := hid hE
  clear hB0 hW0 r0 hE
  by_cases h : p ≤ e
  · have d1 : decide (p ≤ e) = true := by simp [h]
    go_enter Tryd.func59, Tryd.ntmps59
    go_upto_region 1 with fail
    rw [HW.out]
    clear HW
    go_wp2
    go_ret
    exact ⟨ret_bool (by rw [HE.out, d1, Bool.true_and]), HB.out⟩
  · have d1 : decide (p ≤ e) = false := by simp [h]
    go_enter Tryd.func59, Tryd.ntmps59
    go_upto_region 1 with fail
    rw [HW.out]
    clear HW
    go_wp2
    go_ret
    exact ⟨ret_bool (by rw [HE.out, d1, Bool.false_and]), HB.out⟩

set_option maxHeartbeats 1000000 in
theorem repoch_any (x : VState) (w : World) (h0 : 0 ≤ x.f2) (h1 : x.f2 < 1099511627776) :
    Calls Tryd.prog 35 #[.agg (cel (sState x))] w fun e' w' => e' = .returned (.int .u64 (x.f2 / 4)) ∧ Below w.heap.size w w' := by
  obtain ⟨W0, hW0⟩ : ∃ W, w.alloc (.cells (cel (sState x)) 49) = W := ⟨_, rfl⟩
  have r0 : W0.heap[w.heap.size]? = some (.cells (cel (sState x)) 49) := by rw [← hW0]; exact heap_new rfl
  have hB0 : Below w.heap.size w W0 := by rw [← hW0]; exact (Below.refl _ _).alloc (Nat.le_refl _) _
  have l2 := cS2 r0
  generalize x.f2 = p at *
  have HB := hid hB0
  have HW := hid hW0
  clear hB0 hW0 r0
  go_enter Tryd.func35, Tryd.ntmps35
  go_upto_region 1 with fail
  rw [HW.out]
  clear HW
  go_wp2
  go_ret
  exact ⟨ret_int rfl, HB.out⟩

theorem own_down {w : World} {B B' : Nat} {e : TypeId} {s n : Nat} {v : Value} {xs : List Value} (h : w.ownsRow B e s v n xs) (hB : B' ≤ B) : w.ownsRow B' e s v n xs := by
  refine ⟨h.1, ?_⟩
  rcases h.2 with h | ⟨g, cap, cur, e1, e2, e3⟩
  · exact .inl h
  · exact .inr ⟨g, cap, cur, e1, Nat.le_trans hB e2, e3⟩

set_option maxHeartbeats 2000000 in
theorem ractives_own (x : VState) (e : Int) (w : World) (hx : Lk w x) :
    Calls Tryd.prog 34 #[.agg (cel (sState x)), .int .u64 e] w fun e' w' => ∃ v, e' = .returned v ∧ w'.ownsRow w.heap.size 22 1 v (acL x.f11.z e x.f11.n).length (iv6 (acL x.f11.z e x.f11.n)) ∧ Below w.heap.size w w' := by
  obtain ⟨W0, hW0⟩ : ∃ W, w.alloc (.cells (cel (sState x)) 49) = W := ⟨_, rfl⟩
  have r0 : W0.heap[w.heap.size]? = some (.cells (cel (sState x)) 49) := by rw [← hW0]; exact heap_new rfl
  have hB0 : Below w.heap.size w W0 := by rw [← hW0]; exact (Below.refl _ _).alloc (Nat.le_refl _) _
  have z0 : w.heap.size < W0.heap.size := (Array.getElem?_eq_some_iff.1 r0).1
  have hcs : ∀ W : World, Below W0.heap.size W0 W → W.cell? ⟨w.heap.size, 721, none⟩ = some (.slice x.f11.a x.f11.n x.f11.c) := fun W h => cS11 ((h.block _ z0).trans r0)
  have hel := hx.el.below hB0
  have hnb := hx.nb
  generalize x.f11.a = A at *
  generalize x.f11.n = n at *
  generalize x.f11.c = C at *
  generalize x.f11.z = z at *
  have HB := hid hB0
  have HW := hid hW0
  have HC := hid hcs
  have HE := hid hel
  clear hB0 hW0 r0 hcs hel hx
  go_enter Tryd.func34, Tryd.ntmps34
  go_upto_region 1 with fail
  rw [HW.out]
  clear HW
  go_wp2
  go_loopw [5, 6] (fun v c wr => ∃ (k : Nat) (v' : Value), k ≤ n ∧ v = v' ∧ c = .int .i64 k ∧ wr.ownsRow W0.heap.size 22 1 v' (acL z e k).length (iv6 (acL z e k)) ∧ Below W0.heap.size W0 wr) (fun _ c _ => n - (intOf c).toNat)
  case atStart => exact ⟨0, _, by omega, rfl, rfl, World.ownsRow_nil _ _ _ _, Below.refl _ _⟩
  case round =>
    obtain ⟨k, v, hk, ev, rfl, ho, hw⟩ := hrel
    obtain rfl := ev.symm
    clear ev
    have c0 := HC.out wr hw
    by_cases hkn : k < n
    · have k1 : (k : Int) < (n : Int) := by omega
      have k2 : (0 : Int) ≤ (k : Int) := by omega
      have kw : IntKind.u64.wrap (k : Int) = (k : Int) := by rw [IntKind.wrap_u64]; omega
      rcases HE.out.below hw with h0 | ⟨b, off, ea, hbl, hc⟩
      · omega
      subst ea
      have lv := lvValidator_at (hc k hkn)
      have ix := fun W => ixValidator_run W b off n C k hkn
      obtain ⟨P, eP⟩ : ∃ P, off + 86 * k = P := ⟨_, rfl⟩
      rw [eP] at lv
      simp only [eP] at ix
      have hact := fun W : World => ractive_any (z k) e W
      have hln := acL_len z e k
      have hstep : acL z e (k + 1) = if actB (z k) e = true then acL z e k ++ [(k : Int)] else acL z e k := rfl
      obtain ⟨b', hb'⟩ : ∃ b, actB (z k) e = b := ⟨_, rfl⟩
      rw [hb'] at hact hstep
      obtain ⟨V, hV⟩ : ∃ V, z k = V := ⟨_, rfl⟩
      rw [hV] at lv hact
      have HACT := hid hact
      have HO := hid ho
      have HW := hid hw
      have HST := hid hstep
      clear hact ho hw hstep hc hbl eP hb' hV
      cases b'
      · go_wp2_with (go_at_call 59; refine (HACT.out _).mono ?_; rintro e' w1 ⟨rfl, hb1⟩)
        have ho1 := own_below HO.out hb1
        have hw1 := HW.out.trans (hb1.mono HW.out.size)
        go_roundw
        case rel => exact ⟨k + 1, _, by omega, rfl, by go_num, by rw [HST.out]; exact ho1, hw1⟩
        case measure => simp [intOf]; omega
      · go_upto_region 6 with (go_at_call 59; refine (HACT.out _).mono ?_; rintro e' w1 ⟨rfl, hb1⟩)
        have ho1 := own_below HO.out hb1
        have hw1 := HW.out.trans (hb1.mono HW.out.size)
        have HO1 := hid ho1
        have HW1 := hid hw1
        clear ho1 hw1 hb1 HO HW lv c0
        go_wp2_with (at_builtin; (refine wpList_append_one w1 rfl _ _ rfl W0.heap.size v (acL z e k) (k : Int) rfl HO1.out rfl (by omega) HW1.out.size ?_); intro v2 w2 ho2 hg2)
        have hb2 := below_grown HW1.out HO1.out HW1.out.size hg2
        go_roundw
        case rel => exact ⟨k + 1, _, by omega, rfl, by go_num, by rw [HST.out]; exact ho2, hb2⟩
        case measure => simp [intOf]; omega
    · obtain rfl : k = n := by omega
      have HW := hid hw
      have HO := hid ho
      clear hw ho
      go_wp2
      go_ret
      exact ⟨v, rfl, own_down HO.out HB.out.size, HB.out.trans (HW.out.mono (by omega))⟩

theorem ractives_any (x : VState) (e : Int) (w : World) (hx : Lk w x) :
    Calls Tryd.prog 34 #[.agg (cel (sState x)), .int .u64 e] w fun e' w' => ∃ a c, e' = .returned (.slice a (acL x.f11.z e x.f11.n).length c) ∧ Nml w' a (acL x.f11.z e x.f11.n) ∧ Below w.heap.size w w' := by
  refine (ractives_own x e w hx).mono ?_
  rintro e' w' ⟨v, rfl, ho, hb⟩
  obtain ⟨a', C', rfl, hn⟩ := own_nml ho
  exact ⟨a', C', rfl, hn, hb⟩

set_option maxHeartbeats 2000000 in
theorem rtotal_any (x : VState) (a : Option Addr) (m cap : Nat) (f : Nat → Int) (w : World) (hx : Lk w x) (hf : Z.Nms .u64 w a m f) (hf0 : ∀ j, j < m → 0 ≤ f j ∧ f j < 18446744073709551616) (hm : m ≤ 65536) :
    Calls Tryd.prog 33 #[.agg (cel (sState x)), .slice a m cap] w fun e' w' => e' = .returned (.int .u64 (lst (ttl x.f11.z x.f11.n f m))) ∧ Below w.heap.size w w' := by
  obtain ⟨W0, hW0⟩ : ∃ W, w.alloc (.cells (cel (sState x)) 49) = W := ⟨_, rfl⟩
  have r0 : W0.heap[w.heap.size]? = some (.cells (cel (sState x)) 49) := by rw [← hW0]; exact heap_new rfl
  have hB0 : Below w.heap.size w W0 := by rw [← hW0]; exact (Below.refl _ _).alloc (Nat.le_refl _) _
  have z0 : w.heap.size < W0.heap.size := (Array.getElem?_eq_some_iff.1 r0).1
  have hcs : ∀ W : World, Below W0.heap.size W0 W → W.cell? ⟨w.heap.size, 721, none⟩ = some (.slice x.f11.a x.f11.n x.f11.c) := fun W h => cS11 ((h.block _ z0).trans r0)
  have hel := hx.el.below hB0
  have hnb := hx.nb
  have hef := hx.ef
  have hfb := hf.below hB0
  generalize x.f11.a = A at *
  generalize x.f11.n = n at *
  generalize x.f11.c = C at *
  generalize x.f11.z = z at *
  have hbd := fun k (hk : k ≤ m) => ttl_bd z n f hef k (fun j hj => (hf0 j (by omega)).1)
  have nw : IntKind.u64.wrap (n : Int) = (n : Int) := by rw [IntKind.wrap_u64]; omega
  have HB := hid hB0
  have HW := hid hW0
  have HC := hid hcs
  have HE := hid hel
  have HF := hid hfb
  have HF0 := hid hf0
  have HBD := hid hbd
  have HEF := hid hef
  clear hB0 hW0 r0 hcs hel hx hf hfb hf0 hbd hef
  go_enter Tryd.func33, Tryd.ntmps33
  go_upto_region 1 with fail
  rw [HW.out]
  clear HW
  go_wp2
  go_loopw [5, 6] (fun v c wr => ∃ (k : Nat), k ≤ m ∧ v = .int .u64 (ttl z n f k) ∧ c = .int .i64 k ∧ Below W0.heap.size W0 wr) (fun _ c _ => m - (intOf c).toNat)
  case atStart => exact ⟨0, by omega, rfl, rfl, Below.refl _ _⟩
  case round =>
    obtain ⟨k, hk, rfl, rfl, hw⟩ := hrel
    have hT := HBD.out k hk
    have hstep : ttl z n f (k + 1) = if f k < (n : Int) then ttl z n f k + (z (f k).toNat).f2 else ttl z n f k := rfl
    obtain ⟨T, eT⟩ : ∃ T, ttl z n f k = T := ⟨_, rfl⟩
    rw [eT] at hT hstep ⊢
    obtain ⟨t0, t1⟩ := hT
    by_cases hkm : k < m
    · have c0 := HC.out wr hw
      have k1 : (k : Int) < (m : Int) := by omega
      have k2 : (0 : Int) ≤ (k : Int) := by omega
      rcases HF.out.below hw with h0 | ⟨b2, o2, ea, hbl2, hc2⟩
      · omega
      subst ea
      have cf := hc2 k hkm
      have hfk := HF0.out k hkm
      have hef := HEF.out
      obtain ⟨q, hq⟩ : ∃ q : Nat, f k = (q : Int) := ⟨(f k).toNat, by omega⟩
      rw [hq] at cf hstep
      rw [Int.toNat_natCast] at hstep
      by_cases hqn : q < n
      · rcases HE.out.below hw with h0 | ⟨b, off, ea, hbl, hc⟩
        · omega
        subst ea
        have q1 : (q : Int) < (n : Int) := by omega
        have q2 : (0 : Int) ≤ (q : Int) := by omega
        have cv := val_eff (hc q hqn)
        have ix := fun W => ixValidator_u W b off n C q hqn
        obtain ⟨P, eP⟩ : ∃ P, off + 86 * q = P := ⟨_, rfl⟩
        rw [eP] at cv
        simp only [eP] at ix
        have hv := hef q hqn
        rw [if_pos q1] at hstep
        obtain ⟨V, eV⟩ : ∃ V, (z q).f2 = V := ⟨_, rfl⟩
        rw [eV] at cv hstep hv
        have wa : IntKind.u64.wrap (T + V) = T + V := by rw [IntKind.wrap_u64]; omega
        have HST := hid hstep
        have HW := hid hw
        clear hstep hw hc hbl hc2 hbl2 hef eP eV eT hfk hq hv
        go_upto_region 5 with fail
        go_quiet (fail)
        go_upto_region 6 with fail
        go_quiet (fail)
        go_wp2
        go_roundw
        case rel => exact ⟨k + 1, by omega, by rw [HST.out], by go_num, below_drewN HW.out _⟩
        case measure => simp [intOf]; omega
      · have q1 : ¬ (q : Int) < (n : Int) := by omega
        rw [if_neg q1] at hstep
        have HST := hid hstep
        have HW := hid hw
        clear hstep hw hc2 hbl2 hef eT hfk hq
        go_upto_region 5 with fail
        go_quiet (fail)
        go_wp2
        go_roundw
        case rel => exact ⟨k + 1, by omega, by rw [HST.out], by go_num, below_drewN HW.out _⟩
        case measure => simp [intOf]; omega
    · obtain rfl : k = m := by omega
      have eL : lst (ttl z n f k) = lst T := by rw [eT]
      have HW := hid hw
      have HEL := hid eL
      clear hw eT eL hstep
      by_cases hT : T < 1000000000
      · go_wp2
        go_ret
        exact ⟨ret_int (by rw [HEL.out]; unfold lst; rw [if_pos hT]), HB.out.trans (HW.out.mono (by omega))⟩
      · go_wp2
        go_ret
        exact ⟨ret_int (by rw [HEL.out]; unfold lst; rw [if_neg (by omega)]), HB.out.trans (HW.out.mono (by omega))⟩

end Go.Proofs.YtficlakgameglaaDoor
