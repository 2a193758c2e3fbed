/-
  The reference of layer 6: a tree without memory.
-/
import Derived.Test.YtjimdkpppgjokaaDoorMaG
import Derived.Test.YtjimdkpppgjokaaDoorTuB
import Derived.Deep.Onto
namespace Go.Proofs.YtjimdkpppgjokaaDoor
open Go.RowKit
set_option linter.unusedVariables false
set_option linter.unusedSimpArgs false

theorem bs22_0 (W : World) : (bs22 0 #[]).run Tryd.prog W = .ok (.slice (some ⟨W.heap.size, 0, none⟩) 0 0) (W.alloc (.cells #[] 33)) := by kernel_rfl
/-- Roots copied behind an empty slice, wherever it lies. -/
theorem cpy_own (W : World) (base e1 : Nat) (h1 : W.heap[e1]? = some (.cells #[] 33)) (hb1 : base ≤ e1) (v : Value) (len : Nat) (f : Nat → Int) (hv : W.ownsRow 0 33 32 v len (bl f (32 * len))) (hl : 32 * len ≤ 140737488355328) (hbase : base ≤ W.heap.size) (ty : TypeId) :
    ∃ v' W', (apT ty (.slice (some ⟨e1, 0, none⟩) 0 0) v).run Tryd.prog W = .ok v' W' ∧ W'.ownsRow base 33 32 v' len (bl f (32 * len)) ∧ W.grownBy W' (some e1) ∧ (v'.ownBlock = some e1 ∨ v'.ownBlock = some W.heap.size) := by
  obtain ⟨i, hi, hz0, hz1, hz2⟩ := infoR
  have hzz : (Value.agg (vs .u8 32 fun _ => 0)).cells.size = 32 := by simp [Value.cells, vs_size]
  have hown : W.ownsRow base 33 32 (.slice (some ⟨e1, 0, none⟩) 0 0) 0 [] := ⟨rfl, .inr ⟨e1, 0, #[], rfl, hb1, h1, Nat.le_refl _, Nat.zero_le _, rfl, rfl⟩⟩
  rcases hv.2 with ⟨rfl, rfl⟩ | ⟨g, cap, cur, rfl, _⟩
  · have h := run_append_owned_none (P := Tryd.prog) (w := W) base 26 ty 33 i 32 Tryd.underlying26 hi _ 0 [] hown
    exact ⟨_, _, h, hown, ⟨rfl, rfl, rfl, Nat.le_refl _, fun _ _ _ => rfl⟩, .inl rfl⟩
  · obtain ⟨v', w', hrun, ho, hg, _, hat⟩ := run_append_own_at (P := Tryd.prog) W base 26 ty 33 i _ 32 32 Tryd.underlying26 hi hz0 hz1 hz2 hzz (by decide) _ 0 [] hown ⟨g, 0, none⟩ len cap (bl f (32 * len)) (by rw [bl_len]; omega)
      (fun j u hj => by
        obtain ⟨h2, rfl⟩ := bl_get f (32 * len) j u hj
        rw [addr_add, Nat.zero_add, hv.cellAt j (by omega), bl_at _ _ _ h2]) (bl_one f _) (by unfold maxLen; omega) (by omega) hbase
    rw [Nat.zero_add, List.nil_append] at ho
    exact ⟨v', w', hrun, ho, hg, hat⟩
/-- One root more behind a row, wherever it lies. -/
theorem app1_own (W : World) (base e8 : Nat) (c : Nat → Int) (h8 : W.heap[e8]? = some (.cells (vs .u8 32 c) 33)) (v : Value) (n : Nat) (f : Nat → Int) (hv : W.ownsRow base 33 32 v n (bl f (32 * n))) (hl : 32 * (n + 1) ≤ 140737488355328) (hbase : base ≤ W.heap.size) (ty : TypeId) :
    ∃ v' W', (apT ty v (.slice (some ⟨e8, 0, none⟩) 1 1)).run Tryd.prog W = .ok v' W' ∧ W'.ownsRow base 33 32 v' (n + 1) (bl (upr f n c) (32 * (n + 1))) ∧ W.grownBy W' v.ownBlock ∧ (v'.ownBlock = v.ownBlock ∨ v'.ownBlock = some W.heap.size) := by
  obtain ⟨i, hi, hz0, hz1, hz2⟩ := infoR
  have hzz : (Value.agg (vs .u8 32 fun _ => 0)).cells.size = 32 := by simp [Value.cells, vs_size]
  obtain ⟨v', w', hrun, ho, hg, _, hat⟩ := run_append_own_at (P := Tryd.prog) W base 26 ty 33 i _ 32 32 Tryd.underlying26 hi hz0 hz1 hz2 hzz (by decide) v n _ hv ⟨e8, 0, none⟩ 1 1 (bl c 32) (by rw [bl_len])
    (fun j u hj => by
      obtain ⟨h1, rfl⟩ := bl_get c 32 j u hj
      rw [addr_add, Nat.zero_add]
      exact row_int h8 j h1) (bl_one c _) (by unfold maxLen; omega) (by omega) hbase
  rw [bl_upr] at ho
  exact ⟨v', w', hrun, ho, hg, hat⟩
theorem grown_below {B : Nat} {w0 w w' : World} {row : Option Nat} (hb : Below B w0 w) (hB : B ≤ w.heap.size) (hg : w.grownBy w' row) (hr : ∀ b, row = some b → B ≤ b) : Below B w0 w' :=
  ⟨hg.os.trans hb.os, hg.tape.trans hb.tape, hg.output.trans hb.output, Nat.le_trans hb.size hg.size, fun k hk => (hg.block k (by omega) (fun e => by have := hr k e.symm; omega)).trans (hb.block k hk)⟩

theorem alloc_size (W : World) (o : Obj) : (W.alloc o).heap.size = W.heap.size + 1 := by simp
/-- The reference's tree in memory, and what a call leaves of it. -/
def rtA (n : Int) (v : Value) : Array Value := #[.int .i64 n, v]
def RUp (W w' : World) (q : Nat) (n : Int) (v : Value) (L : Nat) (f : Nat → Int) : Prop := W.grownBy w' (some q) ∧ ∃ v', w'.heap[q]? = some (.cells (rtA n v') 28) ∧ w'.ownsRow 0 33 32 v' L (bl f (32 * L)) ∧ (v' = v ∨ ∀ b, v'.ownBlock = some b → W.heap.size ≤ b)

theorem wpList_appendT_is {P : Program} {w : World} {ops : Array Oper} {rest : List Oper} {o : Oper} {a : Act} {Q : Exit → Act → World → Prop} (hgd : o.guard = none) (s x : Operand)
    (ho : o.op = .call { callee := .builtin .append, args := #[s, x], argTypes := #[26, 26] }) (ws wx v : Value) (w' : World) (hs : a.eval s = ws) (hx : a.eval x = wx)
    (hrun : (apT o.type ws wx).run P w = .ok v w') (h : wpList P ops Q rest (a.put o.dst v) w') : wpList P ops Q (o :: rest) a w := by
  refine wpList_plain hgd fun K hK => ?_
  exact wp_appendT_is s x ho ws wx v w' hs hx hrun (hK _ _ h)

attribute [local go_sem ↓] sv24_eq lv24_eq ix22_eq slr_eq bd27_eq bs22_eq eqo_eq

set_option maxRecDepth 20000 in
set_option maxHeartbeats 1000000 in
theorem must_any (a : Option Addr) (len cap : Nat) (f : Nat → Int) (n : Int) (w : World) (hC : Rc w) (hr : Rts w a len cap f) (hlc : len ≤ cap) (hf : ByB f (32 * len)) (h0 : -9223372036854775808 ≤ n) (h1 : n ≤ 9223372036854775807) (hln : len ≤ 9223372036854775807) :
    Calls Tryd.prog 32 #[.slice a len cap, .int .i64 n] w fun e w' => e = .returned (.agg (vs .u8 32 (treeV f len n))) ∧ Below w.heap.size w w' := by
  have z := zero_root
  have hB0 : Below w.heap.size w (w.alloc (.cells (vs .u8 32 fun _ => 0) 33)) := (Below.refl _ _).alloc (Nat.le_refl _) _
  have r0 : (w.alloc (.cells (vs .u8 32 fun _ => 0) 33)).heap[w.heap.size]? = some (.cells (vs .u8 32 fun _ => 0) 33) := heap_new rfl
  have z0 : (w.alloc (.cells (vs .u8 32 fun _ => 0) 33)).heap.size = w.heap.size + 1 := by simp
  obtain ⟨W0, hW0⟩ : ∃ W, w.alloc (.cells (vs .u8 32 fun _ => 0) 33) = W := ⟨_, rfl⟩
  rw [hW0] at hB0 r0 z0
  have ht := rtreeT_any a len cap f n W0 (hC.below hB0) (hr.below hB0) hlc hf h0 h1 hln
  obtain ⟨C, eC⟩ : ∃ C, treeV f len n = C := ⟨_, rfl⟩
  obtain ⟨E, eE⟩ : ∃ E, treeE len n = E := ⟨_, rfl⟩
  rw [eC, eE] at ht
  rw [eC]
  have sv := fun W => sv24_newv W (fun _ => 0) C
  have HT := hid ht
  have R0 := hid r0
  have HB0 := hid hB0
  clear ht r0 hB0 hC hr hf eC eE
  go_enter Tryd.func32, Tryd.ntmps32
  go_upto_region 2 with (go_at_call 45; refine HT.out.mono ?_; rintro e w1 ⟨rfl, hb1⟩)
  obtain ⟨W2, hW2⟩ : ∃ W, w1.alloc (.cells (vs .u8 32 C) 33) = W := ⟨_, rfl⟩
  rw [hW2]
  have hz1 := hb1.size
  have r1 : W2.heap[w1.heap.size]? = some (.cells (vs .u8 32 C) 33) := by rw [← hW2]; exact heap_new rfl
  have r0' : W2.heap[w.heap.size]? = some (.cells (vs .u8 32 fun _ => 0) 33) := by rw [← hW2]; exact (heap_old (by omega)).trans ((hb1.block _ (by omega)).trans R0.out)
  have hB2 : Below w.heap.size w W2 := by rw [← hW2]; exact (HB0.out.trans (hb1.mono (by omega))).alloc (by omega) _
  have l1 := lv24_run r1
  have s1 := sv24_run r0' C
  have HR0 := hid r0'
  have HB2 := hid hB2
  clear r1 r0' hB2 hW2 hb1 sv HT
  go_wp2
  refine ret24 4 w.heap.size _ 33 rfl rfl rfl (setRow_at HR0.out) ⟨rfl, ?_⟩
  exact below_row HB2.out (Nat.le_refl _) _

set_option maxRecDepth 20000 in
set_option maxHeartbeats 1000000 in
theorem rroot6 (a : Option Addr) (len cap : Nat) (f : Nat → Int) (n : Int) (w : World) (hC : Rc w) (hr : Rts w a len cap f) (hlc : len ≤ cap) (hf : ByB f (32 * len)) (h0 : -9223372036854775808 ≤ n) (h1 : n ≤ 9223372036854775807) (hln : len ≤ 9223372036854775807) :
    Calls Tryd.prog 18 #[.agg (rtA n (.slice a len cap))] w fun e w' => e = .returned (.agg (vs .u8 32 (treeV f len n))) ∧ Below w.heap.size w w' := by
  have z := zero_root
  obtain ⟨W0, hW0⟩ : ∃ W, (w.alloc (.cells (rtA n (.slice a len cap)) 28)).alloc (.cells (vs .u8 32 fun _ => 0) 33) = W := ⟨_, rfl⟩
  have hB0 : Below w.heap.size w W0 := by rw [← hW0]; go_grown
  have rb : W0.heap[w.heap.size]? = some (.cells (rtA n (.slice a len cap)) 28) := by rw [← hW0]; exact (heap_old (by simp)).trans (heap_new rfl)
  have ry : W0.heap[w.heap.size + 1]? = some (.cells (vs .u8 32 fun _ => 0) 33) := by rw [← hW0]; exact heap_new (by simp)
  have z0 : w.heap.size + 1 < W0.heap.size := by rw [← hW0]; simp
  have hm := must_any a len cap f n W0 (hC.below hB0) (hr.below hB0) hlc hf h0 h1 hln
  obtain ⟨C, eC⟩ : ∃ C, treeV f len n = C := ⟨_, rfl⟩
  rw [eC] at hm ⊢
  have HM := hid hm
  have HB0 := hid hB0
  have HRY := hid ry
  have c0 := row_cell rb 0
  have c1 := row_cell rb 1
  rw [show (rtA n (.slice a len cap))[0]? = some (.int .i64 n) from rfl] at c0
  rw [show (rtA n (.slice a len cap))[1]? = some (.slice a len cap) from rfl] at c1
  clear hm hB0 ry rb hC hr hf eC
  unfold rtA at hW0 ⊢
  go_enter Tryd.func18, Tryd.ntmps18
  go_upto_region 1 with fail
  clear hW0
  go_wp2_with (go_at_call 32; refine HM.out.mono ?_; rintro e w1 ⟨rfl, hb1⟩; have s1 := sv24_run ((hb1.block _ z0).trans HRY.out) C)
  refine ret24 2 (w.heap.size + 1) _ 33 rfl rfl rfl (setRow_at ((hb1.block _ z0).trans HRY.out)) ⟨rfl, ?_⟩
  exact below_row (HB0.out.trans (hb1.mono (by omega))) (by omega) _

set_option maxRecDepth 20000 in
set_option maxHeartbeats 1000000 in
theorem rnew6 (n : Int) (w : World) (h0 : -9223372036854775808 ≤ n) (h1 : n ≤ 9223372036854775807) :
    Calls Tryd.prog 10 #[.int .i64 n] w fun e w' => e = .returned (.tuple #[.agg (rtA n (.slice none 0 0)), .bool (decide (1 ≤ n ∧ n ≤ 1073741824))]) ∧ Below w.heap.size w w' := by
  unfold rtA
  by_cases hn : 1 ≤ n
  · by_cases hm : n ≤ 1073741824
    · rw [decide_eq_true (⟨hn, hm⟩ : 1 ≤ n ∧ n ≤ 1073741824)]
      have d1 : decide (1 ≤ n) = true := by simp; omega
      have d2 : decide (n ≤ 1073741824) = true := by simp; omega
      go_enter Tryd.func10, Tryd.ntmps10
      go_wp2
      exact bodyPost_ret (v := .tuple #[.agg #[.int .i64 n, .slice none 0 0], .bool true]) (by simp [results, Tryd.results10, go_sem]) rfl ⟨rfl, by go_grown⟩
    · rw [decide_eq_false (fun h => hm h.2)]
      have d1 : decide (1 ≤ n) = true := by simp; omega
      have d2 : decide (n ≤ 1073741824) = false := by simp; omega
      go_enter Tryd.func10, Tryd.ntmps10
      go_wp2
      exact bodyPost_ret (v := .tuple #[.agg #[.int .i64 n, .slice none 0 0], .bool false]) (by simp [results, Tryd.results10, go_sem]) rfl ⟨rfl, by go_grown⟩
  · rw [decide_eq_false (fun h => hn h.1)]
    have d1 : decide (1 ≤ n) = false := by simp; omega
    go_enter Tryd.func10, Tryd.ntmps10
    go_wp2
    exact bodyPost_ret (v := .tuple #[.agg #[.int .i64 n, .slice none 0 0], .bool false]) (by simp [results, Tryd.results10, go_sem]) rfl ⟨rfl, by go_grown⟩

/-- The most hashes behind k changes. -/
def mostV (n L k : Nat) : Nat := if k = 0 then 0 else if L + dpt n < k * dpt n then L + dpt n else k * dpt n

set_option maxRecDepth 20000 in
set_option maxHeartbeats 1000000 in
theorem rmost6 (a : Option Addr) (len cap n k : Nat) (w : World) (hn : n ≤ 1073741824) (hk : k ≤ 1000) (hl : len ≤ 1073741824) :
    Calls Tryd.prog 21 #[.agg (rtA n (.slice a len cap)), .int .i64 k] w fun e w' => e = .returned (.int .i64 (mostV n len k : Nat)) ∧ Below w.heap.size w w' := by
  obtain ⟨W0, hW0⟩ : ∃ W, w.alloc (.cells (rtA n (.slice a len cap)) 28) = W := ⟨_, rfl⟩
  have hB0 : Below w.heap.size w W0 := by rw [← hW0]; go_grown
  have rb : W0.heap[w.heap.size]? = some (.cells (rtA n (.slice a len cap)) 28) := by rw [← hW0]; exact heap_new rfl
  have hd := rdepth_any n W0 (by omega)
  have hdl := dpt_le n (by omega)
  obtain ⟨d, ed⟩ : ∃ d, dpt n = d := ⟨_, rfl⟩
  have em : mostV n len k = if k = 0 then 0 else if len + d < k * d then len + d else k * d := by unfold mostV; rw [ed]
  rw [ed] at hd hdl
  have HD := hid hd
  have HB0 := hid hB0
  have c0 := row_cell rb 0
  have c1 := row_cell rb 1
  rw [show (rtA n (.slice a len cap))[0]? = some (.int .i64 n) from rfl] at c0
  rw [show (rtA n (.slice a len cap))[1]? = some (.slice a len cap) from rfl] at c1
  have hkd : k * d ≤ 1000 * 40 := Nat.mul_le_mul hk hdl
  obtain ⟨P, eP⟩ : ∃ P, k * d = P := ⟨_, rfl⟩
  have ePi : (k : Int) * (d : Int) = (P : Int) := by rw [← eP]; simp
  rw [eP] at hkd em
  rw [em]
  clear hd hB0 rb ed em eP
  unfold rtA at hW0 ⊢
  by_cases hk0 : k = 0
  · subst hk0
    rw [if_pos rfl]
    go_enter Tryd.func21, Tryd.ntmps21
    go_upto_region 1 with fail
    clear hW0
    go_wp2_with (go_at_call 33; refine HD.out.mono ?_; rintro e w1 ⟨rfl, hw1⟩; obtain rfl := hw1.symm)
    go_ret
    exact ⟨rfl, HB0.out⟩
  · rw [if_neg hk0]
    have e1 : ((k : Int) == 0) = false := by simp; omega
    have e2 : decide ((k : Int) = 0) = false := by simp; omega
    have e3 : (k == 0) = false := by simp; omega
    by_cases hg : len + d < P
    · rw [if_pos hg]
      have g1 : decide (len + d < P) = true := by simp; omega
      have g2 : decide ((len : Int) + (d : Int) < (P : Int)) = true := by simp; omega
      go_enter Tryd.func21, Tryd.ntmps21
      go_upto_region 1 with fail
      clear hW0
      go_wp2_with (go_at_call 33; refine HD.out.mono ?_; rintro e w1 ⟨rfl, hw1⟩; obtain rfl := hw1.symm)
      go_ret
      exact ⟨rfl, HB0.out⟩
    · rw [if_neg hg]
      have g1 : decide (len + d < P) = false := by simp; omega
      have g2 : decide ((len : Int) + (d : Int) < (P : Int)) = false := by simp; omega
      go_enter Tryd.func21, Tryd.ntmps21
      go_upto_region 1 with fail
      clear hW0
      go_wp2_with (go_at_call 33; refine HD.out.mono ?_; rintro e w1 ⟨rfl, hw1⟩; obtain rfl := hw1.symm)
      go_ret
      exact ⟨rfl, HB0.out⟩

set_option maxRecDepth 20000 in
set_option maxHeartbeats 2000000 in
theorem rset6 (W : World) (q : Nat) (n : Int) (v : Value) (L : Nat) (f : Nat → Int) (hq : W.heap[q]? = some (.cells (rtA n v) 28)) (hv : W.ownsRow 0 33 32 v L (bl f (32 * L))) (hl : 32 * L ≤ 140737488355328) (i : Int) (c : Nat → Int) (h0 : -9223372036854775808 ≤ i) (h1 : i ≤ 9223372036854775807) :
    Calls Tryd.prog 17 #[.pointer (some ⟨q, 0, none⟩), .int .i64 i, .agg (vs .u8 32 c)] W fun e w' => e = .returned (.int .i64 (getE L i)) ∧ RUp W w' q n v L (setV f L i c) := by
  obtain ⟨a, cap, rfl⟩ := row_form hv
  have hql := (Array.getElem?_eq_some_iff.1 hq).1
  obtain ⟨W1, hW1⟩ : ∃ X, W.alloc (.cells (vs .u8 32 c) 33) = X := ⟨_, rfl⟩
  have z1 : W1.heap.size = W.heap.size + 1 := by rw [← hW1]; simp
  have hB1 : Below W.heap.size W W1 := by rw [← hW1]; exact (Below.refl _ _).alloc (Nat.le_refl _) _
  have rc1 : W1.heap[W.heap.size]? = some (.cells (vs .u8 32 c) 33) := by rw [← hW1]; exact heap_new rfl
  have rq1 := (hB1.block q hql).trans hq
  have cq := row_cell rq1 1
  rw [show (rtA n (.slice a L cap))[1]? = some (.slice a L cap) from rfl] at cq
  by_cases hi : 0 ≤ i ∧ i < (L : Int)
  · obtain ⟨I, rfl⟩ : ∃ I : Nat, i = (I : Int) := ⟨i.toNat, by omega⟩
    have hI : I < L := by omega
    rw [show getE L (I : Int) = 0 from if_pos hi, show setV f L (I : Int) c = over f c (32 * I) 32 from by unfold setV; rw [if_pos hi, Int.toNat_natCast]]
    have d0 : decide ((I : Int) < 0) = false := by simp
    have d1 : decide ((L : Int) ≤ (I : Int)) = false := by simp; omega
    have d2 : decide (L ≤ I) = false := by simp; omega
    obtain ⟨W2, hW2⟩ : ∃ X, W1.alloc (.cells #[] 33) = X := ⟨_, rfl⟩
    have z2 : W2.heap.size = W1.heap.size + 1 := by rw [← hW2]; simp
    have hB2 : Below W1.heap.size W1 W2 := by rw [← hW2]; exact (Below.refl _ _).alloc (Nat.le_refl _) _
    have re : W2.heap[W1.heap.size]? = some (.cells #[] 33) := by rw [← hW2]; exact heap_new rfl
    have g12 : W.grownBy W2 none := ⟨(hB2.os.trans hB1.os), hB2.tape.trans hB1.tape, hB2.output.trans hB1.output, by omega, fun k hk _ => (hB2.block k (by omega)).trans (hB1.block k hk)⟩
    have hv2 := own_keep hv g12 (fun b _ e => by cases e)
    have hap := fun ty => cpy_own W2 W1.heap.size W1.heap.size re (Nat.le_refl _) (.slice a L cap) L f hv2 hl (by omega) ty
    obtain ⟨v3, W3, hrun, ho3, hg3, hat3⟩ := hap 26
    have hB3 : Below W1.heap.size W1 W3 := grown_below hB2 (by omega) hg3 (fun b e => by cases e; exact Nat.le_refl _)
    have rq3 := (hB3.block q (by omega)).trans rq1
    have cq3 := row_cell rq3 1
    rw [show (rtA n (.slice a L cap))[1]? = some (.slice a L cap) from rfl] at cq3
    have fq3 := row_frozen rq3 1
    obtain ⟨g3, cap3, rfl⟩ := owns_pos ho3 (by omega)
    obtain ⟨W4, hW4⟩ : ∃ X, W3.setCell ⟨q, 1, none⟩ (.slice (some ⟨g3, 0, none⟩) L cap3) = X := ⟨_, rfl⟩
    obtain ⟨hg3a, hg3b⟩ : W1.heap.size ≤ g3 ∧ g3 < W3.heap.size := ho3.lt g3 rfl
    have g34 := grown_set W3 q 1 (.slice (some ⟨g3, 0, none⟩) L cap3)
    have ho4 := own_keep (ho3.mono (Nat.zero_le _)) g34 (fun b hb e => by cases e; have := (ho3.lt q hb).1; omega)
    have rq4 : (W3.setCell ⟨q, 1, none⟩ (.slice (some ⟨g3, 0, none⟩) L cap3)).heap[q]? = some (.cells (rtA n (.slice (some ⟨g3, 0, none⟩) L cap3)) 28) := row_set rq3 1 _
    have rc4 : (W3.setCell ⟨q, 1, none⟩ (.slice (some ⟨g3, 0, none⟩) L cap3)).heap[W.heap.size]? = some (.cells (vs .u8 32 c) 33) := (heap_set_other (by omega)).trans ((hB3.block _ (by omega)).trans rc1)
    rw [hW4] at g34 ho4 rq4 rc4
    obtain ⟨p1, p2, p3⟩ := own_put (w := W4.drew) (c := c) ho4 hI
    have l4 := lv24_run (w := W4.drew) rc4
    have c4 := row_cell (w := W4.drew) rq4 1
    rw [show (rtA n (.slice (some ⟨g3, 0, none⟩) L cap3))[1]? = some (.slice (some ⟨g3, 0, none⟩) L cap3) from rfl] at c4
    have ixf := fun X => ix22_run X g3 0 L cap3 I hI
    simp only [Nat.zero_add] at ixf
    have bs := bs22_0 W1
    have cq2 := row_cell ((hB2.block q (by omega)).trans rq1) 1
    rw [show (rtA n (.slice a L cap))[1]? = some (.slice a L cap) from rfl] at cq2
    rw [hW2, z1] at bs
    rw [z1] at hrun
    have FIN : Hid (RUp W (W4.drew.setCells g3 (32 * I) (bl c 32)) q n (.slice a L cap) L (over f c (32 * I) 32)) := by
      refine ⟨⟨p3.os.trans (g34.os.trans (hB3.os.trans hB1.os)), p3.tape.trans (g34.tape.trans (hB3.tape.trans hB1.tape)), p3.output.trans (g34.output.trans (hB3.output.trans hB1.output)), ?_, fun k hk hne => ?_⟩, .slice (some ⟨g3, 0, none⟩) L cap3, ?_, p2, .inr (fun b hb => by have := (ho3.lt b hb).1; omega)⟩
      · have e1 := p3.size
        have e2 := g34.size
        have e3 := hB3.size
        have e4 : W4.drew.heap.size = W4.heap.size := rfl
        omega
      · have e2 := g34.size
        have e3 := hB3.size
        have e4 : W4.drew.heap.size = W4.heap.size := rfl
        exact (p3.block k (by omega) (fun e => by cases e; omega)).trans ((g34.block k (by omega) hne).trans ((hB3.block k (by omega)).trans (hB1.block k hk)))
      · have e2 := g34.size
        have e3 := hB3.size
        have e4 : W4.drew.heap.size = W4.heap.size := rfl
        exact (p3.block q (by omega) (fun e => by cases e; omega)).trans rq4
    have HK : Hid ((W4.drew.setCells g3 (32 * I) (bl c 32)).cell? ⟨q, 1, none⟩ = some (.slice (some ⟨g3, 0, none⟩) L cap3) ∧ (lv24 ⟨W.heap.size, 0, none⟩).run Tryd.prog (W4.drew.setCells g3 (32 * I) (bl c 32)) = .ok (.agg (vs .u8 32 c)) (W4.drew.setCells g3 (32 * I) (bl c 32))) := by
      have e2 := g34.size
      have e3 := hB3.size
      have e4 : W4.drew.heap.size = W4.heap.size := rfl
      refine ⟨(World.cell?_of_block (a := ⟨q, 1, none⟩) (p3.block q (by omega) (fun e => by cases e; omega))).trans c4, lv24_run ((p3.block W.heap.size (by omega) (fun e => by cases e; omega)).trans rc4)⟩
    have HL4 := hid l4
    have HC4 := hid c4
    have HP1 := hid p1
    clear hap ho3 hg3 hat3 hB3 rq3 g34 ho4 rq4 rc4 p2 p3 l4 c4 hB2 re g12 hv2 hv hq hB1 rq1 p1 rc1
    go_enter Tryd.func17, Tryd.ntmps17
    go_upto_region 4 with (at_builtin; go_loud (refine wpList_appendT_is rfl _ _ rfl _ _ _ _ rfl rfl hrun ?_))
    clear hW1 hW2 hW4 cq cq2 cq3 fq3 bs hrun d0 d1 d2
    refine wp_region_noPanic ?_
    refine wp_region_held_drew (S := fun X => X.cell? ⟨q, 1, none⟩ = some (.slice (some ⟨g3, 0, none⟩) L cap3) ∧ (lv24 ⟨W.heap.size, 0, none⟩).run Tryd.prog X = .ok (.agg (vs .u8 32 c)) X) (by kernel_rfl) (⟨HC4.out, HL4.out⟩) (fun hHeld => ?_)
    refine wpAnyH_take (i := 0) (v := ?v1) rfl (by kernel_rfl) (by kernel_rfl) (by kernel_rfl) (fun _ _ _ h => h) (Or.inl ⟨by rfl, ?hy1⟩) hHeld ?rest1
    case hy1 =>
      intro w hSw
      go_simp
      try with_reducible rfl
    try simp only [Act.put, List.setIfInBounds_toArray, List.set_cons_zero, List.set_cons_succ, Array.toArray_toList, List.getElem_toArray, List.getElem_cons_zero, List.getElem_cons_succ]
    refine wpAnyH_take (i := 1) (v := ?v2) rfl (by kernel_rfl) (by kernel_rfl) (by kernel_rfl) (fun _ _ _ h => h) (Or.inl ⟨by rfl, ?hy2⟩) hHeld ?rest2
    case hy2 =>
      intro w hSw
      go_simp
      try with_reducible rfl
    try simp only [Act.put, List.setIfInBounds_toArray, List.set_cons_zero, List.set_cons_succ, Array.toArray_toList, List.getElem_toArray, List.getElem_cons_zero, List.getElem_cons_succ]
    refine wpAnyH_take (i := 2) (v := ?v3) rfl (by kernel_rfl) (by kernel_rfl) (by kernel_rfl) (fun _ _ _ h => h) (Or.inl ⟨by rfl, ?hy3⟩) hHeld ?rest3
    case hy3 =>
      intro w hSw
      go_simp
      try with_reducible rfl
    try simp only [Act.put, List.setIfInBounds_toArray, List.set_cons_zero, List.set_cons_succ, Array.toArray_toList, List.getElem_toArray, List.getElem_cons_zero, List.getElem_cons_succ]
    refine wpAnyH_take (i := 3) (v := ?v4) rfl (by kernel_rfl) (by kernel_rfl) (by kernel_rfl) (fun _ _ _ h => h) (Or.inl ⟨by rfl, ?hy4⟩) hHeld ?rest4
    case hy4 =>
      intro w hSw
      have ld := hSw.1
      go_simp
      try with_reducible rfl
    try simp only [Act.put, List.setIfInBounds_toArray, List.set_cons_zero, List.set_cons_succ, Array.toArray_toList, List.getElem_toArray, List.getElem_cons_zero, List.getElem_cons_succ]
    refine wpAnyH_take (i := 4) (v := ?v5) rfl (by kernel_rfl) (by kernel_rfl) (by kernel_rfl) (fun _ _ _ h => h) (Or.inl ⟨by rfl, ?hy5⟩) hHeld ?rest5
    case hy5 =>
      intro w hSw
      go_simp
      try with_reducible rfl
    try simp only [Act.put, List.setIfInBounds_toArray, List.set_cons_zero, List.set_cons_succ, Array.toArray_toList, List.getElem_toArray, List.getElem_cons_zero, List.getElem_cons_succ]
    refine wpAnyH_take (i := 5) (v := ?v6) rfl (by kernel_rfl) (by kernel_rfl) (by kernel_rfl) (fun _ _ _ h => h) (Or.inl ⟨by rfl, ?hy6⟩) hHeld ?rest6
    case hy6 =>
      intro w hSw
      have ld := hSw.2
      go_simp
      try with_reducible rfl
    try simp only [Act.put, List.setIfInBounds_toArray, List.set_cons_zero, List.set_cons_succ, Array.toArray_toList, List.getElem_toArray, List.getElem_cons_zero, List.getElem_cons_succ]
    refine wpAnyH_take (i := 6) (v := ?v7) rfl (by kernel_rfl) (by kernel_rfl) (by kernel_rfl) (fun _ _ _ h => h) (Or.inl ⟨by rfl, ?hy7⟩) hHeld ?rest7
    case hy7 =>
      intro w hSw
      go_simp
      try with_reducible rfl
    try simp only [Act.put, List.setIfInBounds_toArray, List.set_cons_zero, List.set_cons_succ, Array.toArray_toList, List.getElem_toArray, List.getElem_cons_zero, List.getElem_cons_succ]
    refine wpAnyH_ready (rs := [7]) (by kernel_rfl) (by simp) ?_
    refine AllReadyH.cons rfl (fun K hK => ?_) AllReadyH.nil
    have sp := HP1.out
    go_simp
    refine hK.out _ _ (HK.out) (fun hHeld => ?_)
    clear hK K
    clear sp
    try simp only [Act.put, List.setIfInBounds_toArray, List.set_cons_zero, List.set_cons_succ, Array.toArray_toList, List.getElem_toArray, List.getElem_cons_zero, List.getElem_cons_succ]
    refine wpAnyH_done (by kernel_rfl) ?_ _
    refine NoPanic.normal ?_
    go_wp2
    go_ret
    exact ⟨rfl, FIN.out⟩
  · rw [show getE L i = 1 from if_neg hi, show setV f L i c = f from if_neg hi]
    have FIN : Hid (RUp W W1 q n (.slice a L cap) L f) := ⟨⟨hB1.os, hB1.tape, hB1.output, hB1.size, fun k hk _ => hB1.block k hk⟩, _, rq1, own_keep hv (row := none) ⟨hB1.os, hB1.tape, hB1.output, hB1.size, fun k hk _ => hB1.block k hk⟩ (fun b _ e => by cases e), .inl rfl⟩
    clear hv hq rq1 hB1 rc1
    by_cases hneg : i < 0
    · have d0 : decide (i < 0) = true := by simp; omega
      clear hi
      go_enter Tryd.func17, Tryd.ntmps17
      go_wp2
      go_ret
      exact ⟨rfl, FIN.out⟩
    · have d0 : decide (i < 0) = false := by simp; omega
      have d1 : decide ((L : Int) ≤ i) = true := by
        have : ¬ i < (L : Int) := fun h => hi ⟨by omega, h⟩
        simp; omega
      clear hi
      go_enter Tryd.func17, Tryd.ntmps17
      go_wp2
      go_ret
      exact ⟨rfl, FIN.out⟩

end Go.Proofs.YtjimdkpppgjokaaDoor
