/-
  What mark leaves.
  What Set answers and leaves.
  What Append answers and leaves.
  What Append leaves where there is room.
  Trees that there are not; Hashes.
-/
import Derived.Test.YtjimdkpppgjokaaDoorTsA
import Derived.Test.YtjimdkpppgjokaaDoorMkP
namespace Go.Proofs.YtjimdkpppgjokaaDoor
open Go.RowKit
set_option linter.unusedVariables false
set_option linter.unusedSimpArgs false

theorem info64 : (Tryd.prog.info? 3).map (fun i => (i.zero, i.size, i.bytes)) = some (some (.int .i64 0), 1, 8) := by kernel_rfl
theorem il_get (c : Nat → Int) (n j : Nat) (h : j < n) : (il c n)[j]? = some (.int .i64 (c j)) := by
  unfold il
  rw [List.getElem?_map, List.getElem?_range h]
  rfl
theorem bol_get (c : Nat → Bool) (n j : Nat) (h : j < n) : (bol c n)[j]? = some (.bool (c j)) := by
  unfold bol
  rw [List.getElem?_map, List.getElem?_range h]
  rfl
theorem bol_set (c : Nat → Bool) (n j : Nat) (b : Bool) : (bol c n).set j (.bool b) = bol (fun k => if k = j then b else c k) n := by
  apply List.ext_getElem?
  intro k
  by_cases hk : k < n
  · rw [bol_get _ _ _ hk, List.getElem?_set]
    by_cases h : j = k
    · subst h
      rw [if_pos rfl, if_pos (by simpa [bol] using hk), if_pos rfl]
    · rw [if_neg h, bol_get _ _ _ hk, if_neg (fun e => h e.symm)]
  · rw [List.getElem?_eq_none (by simp [bol]; omega), List.getElem?_eq_none (by simp [bol]; omega)]
/-- Numbers with one more behind. -/
def upc (c : Nat → Int) (n : Nat) (z : Int) (j : Nat) : Int := if j = n then z else c j
theorem il_snoc (c : Nat → Int) (n : Nat) (z : Int) : il c n ++ [.int .i64 z] = il (upc c n z) (n + 1) := by
  unfold il
  rw [List.range_succ, List.map_append]
  have e1 : List.map (fun i => Value.int .i64 (c i)) (List.range n) = List.map (fun i => Value.int .i64 (upc c n z i)) (List.range n) := List.map_congr_left fun i hi => by
    have := List.mem_range.1 hi
    unfold upc
    rw [if_neg (by omega)]
  rw [e1]
  have e2 : List.map (fun i => Value.int .i64 (upc c n z i)) [n] = [.int .i64 z] := by
    show [Value.int .i64 (upc c n z n)] = _
    unfold upc
    rw [if_pos rfl]
  rw [e2]
/-- append of one number. -/
theorem wpList_append_int (w : World) {ops : Array Oper} {rest : List Oper} {o : Oper} {a : Act} {Q : Exit → Act → World → Prop} (hgd : o.guard = none) (s x : Operand)
    (ho : o.op = .call { callee := .builtin .append, args := #[s, x], argTypes := #[48, 48] })
    (base : Nat) (v : Value) (n : Nat) (c : Nat → Int) (z : Int) (hs : a.eval s = v) (hown : w.ownsRow base 3 1 v n (il c n))
    (hx : a.eval x = .slice (some ⟨w.heap.size, 0, none⟩) 1 1) (hbd : (n + 1) * 8 ≤ 140737488355328) (hbase : base ≤ w.heap.size)
    (h : ∀ v' w', w'.ownsRow base 3 1 v' (n + 1) (il (upc c n z) (n + 1)) → (w.alloc (.cells #[.int .i64 z] 3)).grownBy w' v.ownBlock → (v'.ownBlock = v.ownBlock ∨ v'.ownBlock = some (w.heap.size + 1)) → wpList Tryd.prog ops Q rest (a.put o.dst v') w') :
    wpList Tryd.prog ops Q (o :: rest) a (w.alloc (.cells #[.int .i64 z] 3)) := by
  obtain ⟨i, hi, hz0, hz1, hz2⟩ := info_parts info64
  refine wpList_append_own_at _ hgd s x 48 ho base 3 i (.int .i64 0) 1 8 Tryd.underlying48 hi hz0 hz1 hz2 rfl (by decide) v n (il c n) hs (hown.alloc _) ⟨w.heap.size, 0, none⟩ 1 1 [.int .i64 z] hx rfl (cell_one_new _ _ _)
    (fun u hu => by simp at hu; subst hu; rfl) (by unfold maxLen; omega) (by omega) (by simp; omega) (fun v' w' h1 h2 _ h3 => ?_)
  rw [il_snoc] at h1
  refine h v' w' h1 h2 ?_
  simpa using h3
/-- A flag's address, whole. -/
def ix51 (x i : Value) : Sem Value := Instr.indexAt 51 x i
theorem ix51_eq (x i : Value) : Instr.indexAt 51 x i = ix51 x i := rfl
theorem size_bool (w : World) : (sizeOf 4).run Tryd.prog w = .ok 1 w := by
  have hi : (Tryd.prog.info? 4).map (·.size) = some 1 := by kernel_rfl
  cases hq : Tryd.prog.info? 4 with
  | none => simp [hq] at hi
  | some i => simp [hq] at hi; simp [sizeOf, typeInfo, hq, hi]
theorem ix51_run (w : World) (b len cap i : Nat) (h : i < len) : (ix51 (.slice (some ⟨b, 0, none⟩) len cap) (.int .i64 i)).run Tryd.prog w = .ok (.pointer (some ⟨b, i, none⟩)) w := by
  unfold ix51 Instr.indexAt
  have h1 : (0 : Int) ≤ (i : Int) ∧ (i : Int) < (len : Int) := by omega
  simp only [asIntOf, Sem.run_bind, Sem.run_pure, Result.andThen_ok, run_underlying Tryd.underlying51, if_pos h1, size_bool, Addr.add_mid, Int.toNat_natCast, Nat.mul_one, Nat.zero_add]

attribute [local go_sem ↓] sv24_eq lv24_eq ix22_eq slr_eq bd27_eq bs22_eq bd58_eq mk55_eq ix56_eq ix55_eq ix51_eq

set_option maxRecDepth 20000 in
set_option maxHeartbeats 1000000 in
theorem tmark_old {w : World} {LB : Nat → Nat} {t n D R : Nat} {rv : Nat → Value} {ln : Nat → Nat} {rf : Nat → Nat → Int} {cv : Value} {cn : Nat} {cs : Nat → Int} {iv : Value} {ib : Nat → Bool} {hs : Int} (h : Tre w LB t n D R rv ln rf cv cn cs iv ib hs) (i : Nat) (hi : i < ln 0) (hb : ib i = true) :
    Calls Tryd.prog 31 #[.pointer (some ⟨t, 0, none⟩), .int .i64 i] w fun e w' => e = .returned (.tuple #[]) ∧ w' = w := by
  obtain ⟨g, cap, hv⟩ := owns_pos h.isc.1 (by omega)
  have hio := h.isc.1
  rw [hv] at hio
  have c1 := row_cell h.blk 995
  rw [trA_995, hv] at c1
  have c2 := hio.cellAt i (by omega)
  rw [bol_get _ _ _ hi, hb] at c2
  have ixf := fun W => ix51_run W g (ln 0) cap i hi
  clear h hv hio
  generalize ln 0 = L at c1 ixf
  go_enter Tryd.func31, Tryd.ntmps31
  go_wp2
  refine bodyPost_end (results_none rfl _ _ _) rfl ?_
  exact ⟨rfl, rfl⟩

/-- Where a changed leaf stands. -/
def upb (c : Nat → Bool) (j : Nat) (b : Bool) (k : Nat) : Bool := if k = j then b else c k

set_option maxRecDepth 20000 in
set_option maxHeartbeats 1000000 in
theorem tmark_new {w : World} {LB : Nat → Nat} {t n D R : Nat} {rv : Nat → Value} {ln : Nat → Nat} {rf : Nat → Nat → Int} {cv : Value} {cn : Nat} {cs : Nat → Int} {iv : Value} {ib : Nat → Bool} {hs : Int} (h : Tre w LB t n D R rv ln rf cv cn cs iv ib hs) (i : Nat) (hi : i < ln 0) (hb : ib i = false) (hcn : cn ≤ 1099511627776) :
    Calls Tryd.prog 31 #[.pointer (some ⟨t, 0, none⟩), .int .i64 i] w fun e w' => e = .returned (.tuple #[]) ∧ ∃ cv', Tou LB w w' ∧ Tre w' (lab' w LB 3) t n D R rv ln rf cv' (cn + 1) (upc cs cn i) iv (upb ib i true) hs := by
  obtain ⟨g, cap, hv⟩ := owns_pos h.isc.1 (by omega)
  have hio := h.isc.1
  rw [hv] at hio
  have hlg : LB g = 4 := h.isc.2 g (by rw [hv]; rfl)
  have hgl := (hio.lt g rfl).2
  have htl := (Array.getElem?_eq_some_iff.1 h.blk).1
  have hRl := (Array.getElem?_eq_some_iff.1 h.rws).1
  have c1 := row_cell h.blk 995
  rw [trA_995, hv] at c1
  have c2 := hio.cellAt i (by omega)
  rw [bol_get _ _ _ hi, hb] at c2
  have f2 := hio.frozenAt i
  have ixf := fun W => ix51_run W g (ln 0) cap i hi
  have hst := hio.stored i (.bool true)
  rw [bol_set] at hst
  -- the world with the flag set
  obtain ⟨W1, hW1⟩ : ∃ W, w.setCell ⟨g, i, none⟩ (.bool true) = W := ⟨_, rfl⟩
  rw [hW1] at hst
  have sz1 : W1.heap.size = w.heap.size := by rw [← hW1]; simp [World.setCell]
  obtain ⟨k1, k2, k3, k4, _⟩ := h.step hst.2 (l := 4) (fun b e => by cases e; exact hlg)
  have blk1 := (k1 (by decide)).trans h.blk
  have rws1 := (k2 (by decide)).trans h.rws
  have row1 := fun d hd => k3 d hd (by omega)
  have chg1 := k4 (by decide)
  have c3 := row_cell blk1 994
  rw [trA_994] at c3
  have H := hid h
  have HST := hid hst
  have B1 := hid (And.intro blk1 (And.intro rws1 (And.intro row1 chg1)))
  have HHV := hid hv
  have SZ := hid sz1
  clear sz1 h hv hio hst k1 k2 k3 k4 blk1 rws1 row1 chg1
  generalize hL : ln 0 = L at c1 ixf
  clear hL
  go_enter Tryd.func31, Tryd.ntmps31
  go_upto_region 2 with fail
  clear hW1 c1 c2 f2 ixf
  go_wp2_with (at_builtin; go_loud (refine wpList_append_int W1 rfl _ _ rfl 0 cv cn cs (i : Int) rfl B1.out.2.2.2.1 rfl (by omega) (Nat.zero_le _) ?_); intro v3 w3 ho3 hg3 hat3; obtain ⟨a3, cap3, rfl⟩ := row_form ho3; have HO3 := hid ho3; have HG3 := hid hg3; have HAT := hid hat3; have blk3 := (hg3.block t (by have := SZ.out; simp; omega) (fun e => by have := B1.out.2.2.2.2 t e.symm; have := H.out.lt; omega)).trans ((heap_old (by have := SZ.out; omega)).trans B1.out.1); have c4 := row_cell blk3 994; rw [trA_994] at c4; have f4 := row_frozen blk3 994; have B3 := hid blk3; clear ho3 hg3 hat3 blk3)
  have sz1 := SZ.out
  refine bodyPost_end (results_none rfl _ _ _) rfl ?_
  refine ⟨rfl, .slice a3 (cn + 1) cap3, ?_, ?_⟩
  · have g1 := HST.out.2
    have g3 := HG3.out
    refine ⟨g3.os.trans g1.os, g3.tape.trans g1.tape, g3.output.trans g1.output, ?_, fun k hk hl => ?_⟩
    · have := g3.size
      simp at this
      rw [size_s]
      omega
    · refine (heap_set_other (fun e => ?_)).trans ((g3.block k (by simp; omega) (fun e => ?_)).trans ((heap_old (by omega)).trans (g1.block k hk (fun e => ?_))))
      · have := H.out.lt
        rw [← e, hl] at this
        omega
      · have := H.out.chg.2 k e.symm
        omega
      · cases e
        omega
  · have lt := H.out.lt
    have lR := H.out.lR
    have g4 := grown_set w3 t 994 (.slice a3 (cn + 1) cap3)
    have tne : ∀ (v : Value) (m : Nat), Lab LB m v → m ≠ 1 → ∀ b, v.ownBlock = some b → (some t : Option Nat) ≠ some b := fun v m hv hm b hb e => by
      cases e
      have := hv t hb
      omega
    have cne : ∀ (v : Value) (m : Nat), Lab LB m v → m ≠ 3 → ∀ b, v.ownBlock = some b → cv.ownBlock ≠ some b := fun v m hv hm b hb e => by
      have h1 := hv b hb
      have h2 := H.out.chg.2 b e
      omega
    have keep : ∀ {s : Nat} {e : TypeId} {v : Value} {m k : Nat} {xs : List Value}, W1.ownsRow 0 e s v m xs → Lab LB k v → k ≠ 1 → k ≠ 3 → (w3.setCell ⟨t, 994, none⟩ (.slice a3 (cn + 1) cap3)).ownsRow 0 e s v m xs := fun ho hl h1 h3 => own_keep (own_keep (ho.alloc _) HG3.out (cne _ _ hl h3)) g4 (tne _ _ hl h1)
    refine ⟨(lab'_old _ _ _ _ htl).trans lt, (lab'_old _ _ _ _ hRl).trans lR, H.out.dep, ?_, ?_, fun d hd => ?_, ?_, ?_⟩
    · exact (row_set B3.out 994 _).trans (congrArg (fun c => some (Obj.cells c 58)) (trA_set994 _ _ _ _ _ _ _))
    · refine (heap_set_other (fun e => ?_)).trans ((HG3.out.block R (by simp; omega) (fun e => ?_)).trans ((heap_old (by omega)).trans B1.out.2.1))
      · rw [← e, lR] at lt
        omega
      · have := H.out.chg.2 R e.symm
        omega
    · exact ⟨keep (B1.out.2.2.1 d hd).1 (B1.out.2.2.1 d hd).2 (by omega) (by omega), Lab.more (H.out.row d hd).1 (H.out.row d hd).2 3⟩
    · refine ⟨own_keep HO3.out g4 (fun b hb e => ?_), fun b hb => ?_⟩
      · cases e
        rcases HAT.out with h1 | h1
        · rw [h1] at hb
          have := H.out.chg.2 t hb
          omega
        · rw [h1] at hb
          cases hb
          omega
      · rcases HAT.out with h1 | h1
        · rw [h1] at hb
          exact (lab'_old _ _ _ _ (H.out.chg.1.lt b hb).2).trans (H.out.chg.2 b hb)
        · rw [h1] at hb
          cases hb
          exact lab'_new _ _ _ _ (by omega)
    · have hl4 : Lab LB 4 iv := H.out.isc.2
      have ho4 := HST.out.1
      rw [← HHV.out] at ho4
      exact ⟨keep ho4 hl4 (by omega) (by omega), Lab.more H.out.isc.1 hl4 3⟩

end Go.Proofs.YtjimdkpppgjokaaDoor

namespace Go.Proofs.YtjimdkpppgjokaaDoor
open Go.RowKit
set_option linter.unusedVariables false
set_option linter.unusedSimpArgs false

theorem eqR_true {c d : Nat → Int} (h : eqR c d = true) (j : Nat) (hj : j < 32) : c j = d j := by
  unfold eqR at h
  rw [List.all_eq_true] at h
  exact eq_of_beq (h j (List.mem_range.2 hj))

/-- A root stored in a row of the tree's own. -/
theorem own_put {w : World} {g n cap i : Nat} {f c : Nat → Int} (h : w.ownsRow 0 33 32 (.slice (some ⟨g, 0, none⟩) n cap) n (bl f (32 * n))) (hi : i < n) :
    (sv24 ⟨g, 32 * i, none⟩ (.agg (vs .u8 32 c))).run Tryd.prog w = .ok () (w.setCells g (32 * i) (bl c 32)) ∧ (w.setCells g (32 * i) (bl c 32)).ownsRow 0 33 32 (.slice (some ⟨g, 0, none⟩) n cap) n (bl (over f c (32 * i) 32) (32 * n)) ∧ w.grownBy (w.setCells g (32 * i) (bl c 32)) (some g) := by
  rcases h.2 with ⟨h1, _⟩ | ⟨g', cap', cur, h1, hb, hg, hnc, hcm, hcs, htake⟩
  · cases h1
  · cases h1
    have hk := setCells_kept (bl c 32) (32 * i) (Kept.refl g w)
    refine ⟨sv24_mid hg (32 * i) c (by omega), ⟨by rw [bl_len]; omega, .inr ⟨g, cap, putL cur (32 * i) (bl c 32), rfl, hb, setCells_row (bl c 32) (32 * i) hg, hnc, hcm, by rw [putL_size]; exact hcs, ?_⟩⟩, ⟨hk.os, hk.tape, hk.output, hk.size, fun k hk1 hk2 => hk.block k hk1 (fun e => hk2 (by rw [e]))⟩⟩
    apply List.ext_getElem?
    intro q
    by_cases hq : q < n * 32
    · rw [List.getElem?_take_of_lt hq, Array.getElem?_toList, putL_get _ _ _ _ (by rw [bl_len]; omega), bl_len, bl_at (over f c (32 * i) 32) (32 * n) q (by omega)]
      unfold over
      by_cases h2 : 32 * i ≤ q ∧ q < 32 * i + 32
      · rw [if_pos h2, if_pos h2, bl_at _ _ _ (by omega)]
      · rw [if_neg h2, if_neg h2]
        have h3 : (cur.toList.take (n * 32))[q]? = (bl f (32 * n))[q]? := by rw [htake]
        rw [List.getElem?_take_of_lt hq, Array.getElem?_toList, bl_at _ _ _ (by omega)] at h3
        exact h3
    · rw [List.getElem?_eq_none (by rw [List.length_take]; omega), List.getElem?_eq_none (by rw [bl_len]; omega)]
/-- The rows with a leaf set. -/
def setF (rf : Nat → Nat → Int) (i : Nat) (c : Nat → Int) (d : Nat) : Nat → Int := if d = 0 then over (rf 0) c (32 * i) 32 else rf d
theorem setF_same {rf : Nat → Nat → Int} {i : Nat} {c : Nat → Int} (h : eqR (rt32 (rf 0) i) c = true) : setF rf i c = rf := by
  funext d q
  unfold setF
  by_cases hd : d = 0
  · subst hd
    rw [if_pos rfl]
    unfold over
    by_cases h2 : 32 * i ≤ q ∧ q < 32 * i + 32
    · rw [if_pos h2, ← eqR_true h (q - 32 * i) (by omega)]
      unfold rt32
      rw [show 32 * i + (q - 32 * i) = q by omega]
    · rw [if_neg h2]
  · rw [if_neg hd]

attribute [local go_sem ↓] sv24_eq lv24_eq ix22_eq slr_eq bd27_eq bs22_eq bd58_eq mk55_eq ix56_eq ix55_eq ix51_eq

set_option maxRecDepth 20000 in
set_option maxHeartbeats 1000000 in
/-- A place where no leaf is. -/
theorem tset_none {w : World} {LB : Nat → Nat} {t n D R : Nat} {rv : Nat → Value} {ln : Nat → Nat} {rf : Nat → Nat → Int} {cv : Value} {cn : Nat} {cs : Nat → Int} {iv : Value} {ib : Nat → Bool} {hs : Int} (h : Tre w LB t n D R rv ln rf cv cn cs iv ib hs) (i : Int) (c : Nat → Int) (hi : ¬ (0 ≤ i ∧ i < (ln 0 : Int))) (h0 : -9223372036854775808 ≤ i) (h1 : i ≤ 9223372036854775807) :
    Calls Tryd.prog 14 #[.pointer (some ⟨t, 0, none⟩), .int .i64 i, .agg (vs .u8 32 c)] w fun e w' => e = .returned (.int .i64 1) ∧ Below w.heap.size w w' := by
  have hB : Below w.heap.size w (w.alloc (.cells (vs .u8 32 c) 33)) := (Below.refl _ _).alloc (Nat.le_refl _) _
  have hlen := tlen_any (h.below hB)
  have HLEN := hid hlen
  clear h hlen hB
  by_cases hneg : i < 0
  · have d0 : decide (i < 0) = true := by simp; omega
    clear hi
    go_enter Tryd.func14, Tryd.ntmps14
    go_wp2
    go_ret
    exact ⟨rfl, by go_grown⟩
  · have d0 : decide (i < 0) = false := by simp; omega
    have d1 : decide ((ln 0 : Int) ≤ i) = true := by
      have : ¬ i < (ln 0 : Int) := fun h => hi ⟨by omega, h⟩
      simp; omega
    clear hi
    generalize ln 0 = L at HLEN d1
    go_enter Tryd.func14, Tryd.ntmps14
    go_wp2_with (go_at_call 11; refine HLEN.out.mono ?_; rintro e w1 ⟨rfl, hw1⟩; obtain rfl := hw1.symm)
    go_ret
    exact ⟨rfl, by go_grown⟩

set_option maxRecDepth 20000 in
set_option maxHeartbeats 2000000 in
/-- A leaf set to what it is. -/
theorem tset_same {w : World} {LB : Nat → Nat} {t n D R : Nat} {rv : Nat → Value} {ln : Nat → Nat} {rf : Nat → Nat → Int} {cv : Value} {cn : Nat} {cs : Nat → Int} {iv : Value} {ib : Nat → Bool} {hs : Int} (h : Tre w LB t n D R rv ln rf cv cn cs iv ib hs) (I : Nat) (c : Nat → Int) (hI : I < ln 0) (hIb : I ≤ 4611686018427387904) (heq : eqR (rt32 (rf 0) I) c = true) :
    Calls Tryd.prog 14 #[.pointer (some ⟨t, 0, none⟩), .int .i64 I, .agg (vs .u8 32 c)] w fun e w' => e = .returned (.int .i64 0) ∧ Below w.heap.size w w' := by
  have d0 : decide ((I : Int) < 0) = false := by simp
  have d1 : decide ((ln 0 : Int) ≤ (I : Int)) = false := by simp; omega
  have d2 : decide (ln 0 ≤ I) = false := by simp; omega
  have EQ := hid heq
  clear heq
  have hB0 : Below w.heap.size w (w.alloc (.cells (vs .u8 32 c) 33)) := (Below.refl _ _).alloc (Nat.le_refl _) _
  have hlf : (w.alloc (.cells (vs .u8 32 c) 33)).heap[w.heap.size]? = some (.cells (vs .u8 32 c) 33) := heap_new rfl
  have hzw : w.heap.size < (w.alloc (.cells (vs .u8 32 c) 33)).heap.size := by simp
  obtain ⟨W0, hW0⟩ : ∃ W, w.alloc (.cells (vs .u8 32 c) 33) = W := ⟨_, rfl⟩
  rw [hW0] at hB0 hlf hzw
  have h' := h.below hB0
  have hlen := tlen_any h'
  obtain ⟨a, cap, hv, hrow⟩ := RowR.ofOwns (h'.row 0 (by omega)).1
  obtain ⟨b, o, hb, hx, hc⟩ := hrow.rts.at I hI
  have ht := (Array.getElem?_eq_some_iff.1 h'.blk).1
  have hR := (Array.getElem?_eq_some_iff.1 h'.rws).1
  have c1 := row_cell h'.blk 1
  rw [trA_1] at c1
  have c2 := row_cell h'.rws 0
  rw [rA_get _ _ _ (by omega), hv] at c2
  have hl1 : ∀ W, Below W0.heap.size W0 W → W.cell? ⟨t, 1, none⟩ = some (.slice (some ⟨R, 0, none⟩) (D + 1) (D + 1)) := fun W hw => (below_cell hw ht).trans c1
  have hl2 : ∀ W, Below W0.heap.size W0 W → W.cell? ⟨R, 0, none⟩ = some (.slice a (ln 0) cap) := fun W hw => (below_cell hw hR).trans c2
  have hl3 : ∀ W, Below W0.heap.size W0 W → (lv24 ⟨b, o, none⟩).run Tryd.prog W = .ok (.agg (vs .u8 32 (rt32 (rf 0) I))) W := fun W hw => lv24_mid (fun j hj => (below_cell hw hb).trans (hc j hj))
  have hl4 : ∀ W, Below W0.heap.size W0 W → (lv24 ⟨w.heap.size, 0, none⟩).run Tryd.prog W = .ok (.agg (vs .u8 32 c)) W := fun W hw => lv24_run ((hw.block _ hzw).trans hlf)
  have ixf := fun W => ix55_run W R (D + 1) (D + 1) 0 (by omega)
  rw [show ((0 : Nat) : Int) = 0 from rfl] at ixf
  have HLEN := hid hlen
  have HB0 := hid hB0
  have L1 := hid hl1
  have L2 := hid hl2
  have L3 := hid hl3
  have L4 := hid hl4
  have HH := hid h'
  have HDR := hid ((Below.refl W0.heap.size W0).drew)
  have HLF := hid hlf
  clear h h' hlen hB0 hl1 hl2 hl3 hl4 hlf hrow hc c1 c2 hv
  generalize hL : ln 0 = L at HLEN L2 hx d1 d2
  have HL := hid hL
  clear hL
  go_enter Tryd.func14, Tryd.ntmps14
  go_upto_region 3 with (go_at_call 11; refine HLEN.out.mono ?_; rintro e w1 ⟨rfl, hw1⟩; obtain rfl := hw1.symm)
  clear hW0
  refine wp_region_noPanic ?_
  refine wp_region_held_drew (S := fun W => Below W0.heap.size W0 W) (by kernel_rfl) (HDR.out) (fun hHeld => ?_)
  refine wpAnyH_take (i := 0) (v := ?v1) rfl (by kernel_rfl) (by kernel_rfl) (by kernel_rfl) (fun _ _ _ h => h) (Or.inl ⟨by rfl, ?hy1⟩) hHeld ?rest1
  case hy1 =>
    intro w hSw
    go_simp
    try with_reducible rfl
  try simp only [Act.put, List.setIfInBounds_toArray, List.set_cons_zero, List.set_cons_succ, Array.toArray_toList, List.getElem_toArray, List.getElem_cons_zero, List.getElem_cons_succ]
  refine wpAnyH_take (i := 1) (v := ?v2) rfl (by kernel_rfl) (by kernel_rfl) (by kernel_rfl) (fun _ _ _ h => h) (Or.inl ⟨by rfl, ?hy2⟩) hHeld ?rest2
  case hy2 =>
    intro w hSw
    go_simp
    try with_reducible rfl
  try simp only [Act.put, List.setIfInBounds_toArray, List.set_cons_zero, List.set_cons_succ, Array.toArray_toList, List.getElem_toArray, List.getElem_cons_zero, List.getElem_cons_succ]
  refine wpAnyH_take (i := 2) (v := ?v3) rfl (by kernel_rfl) (by kernel_rfl) (by kernel_rfl) (fun _ _ _ h => h) (Or.inl ⟨by rfl, ?hy3⟩) hHeld ?rest3
  case hy3 =>
    intro w hSw
    go_simp
    try with_reducible rfl
  try simp only [Act.put, List.setIfInBounds_toArray, List.set_cons_zero, List.set_cons_succ, Array.toArray_toList, List.getElem_toArray, List.getElem_cons_zero, List.getElem_cons_succ]
  refine wpAnyH_take (i := 3) (v := ?v4) rfl (by kernel_rfl) (by kernel_rfl) (by kernel_rfl) (fun _ _ _ h => h) (Or.inl ⟨by rfl, ?hy4⟩) hHeld ?rest4
  case hy4 =>
    intro w hSw
    have ld := L1.out _ hSw
    go_simp
    try with_reducible rfl
  try simp only [Act.put, List.setIfInBounds_toArray, List.set_cons_zero, List.set_cons_succ, Array.toArray_toList, List.getElem_toArray, List.getElem_cons_zero, List.getElem_cons_succ]
  refine wpAnyH_take (i := 4) (v := ?v5) rfl (by kernel_rfl) (by kernel_rfl) (by kernel_rfl) (fun _ _ _ h => h) (Or.inl ⟨by rfl, ?hy5⟩) hHeld ?rest5
  case hy5 =>
    intro w hSw
    go_simp
    try with_reducible rfl
  try simp only [Act.put, List.setIfInBounds_toArray, List.set_cons_zero, List.set_cons_succ, Array.toArray_toList, List.getElem_toArray, List.getElem_cons_zero, List.getElem_cons_succ]
  refine wpAnyH_take (i := 5) (v := ?v6) rfl (by kernel_rfl) (by kernel_rfl) (by kernel_rfl) (fun _ _ _ h => h) (Or.inl ⟨by rfl, ?hy6⟩) hHeld ?rest6
  case hy6 =>
    intro w hSw
    have ld := L2.out _ hSw
    go_simp
    try with_reducible rfl
  try simp only [Act.put, List.setIfInBounds_toArray, List.set_cons_zero, List.set_cons_succ, Array.toArray_toList, List.getElem_toArray, List.getElem_cons_zero, List.getElem_cons_succ]
  refine wpAnyH_take (i := 6) (v := ?v7) rfl (by kernel_rfl) (by kernel_rfl) (by kernel_rfl) (fun _ _ _ h => h) (Or.inl ⟨by rfl, ?hy7⟩) hHeld ?rest7
  case hy7 =>
    intro w hSw
    go_simp
    try with_reducible rfl
  try simp only [Act.put, List.setIfInBounds_toArray, List.set_cons_zero, List.set_cons_succ, Array.toArray_toList, List.getElem_toArray, List.getElem_cons_zero, List.getElem_cons_succ]
  refine wpAnyH_take (i := 7) (v := ?v8) rfl (by kernel_rfl) (by kernel_rfl) (by kernel_rfl) (fun _ _ _ h => h) (Or.inl ⟨by rfl, ?hy8⟩) hHeld ?rest8
  case hy8 =>
    intro w hSw
    go_simp
    try with_reducible rfl
  try simp only [Act.put, List.setIfInBounds_toArray, List.set_cons_zero, List.set_cons_succ, Array.toArray_toList, List.getElem_toArray, List.getElem_cons_zero, List.getElem_cons_succ]
  refine wpAnyH_take (i := 8) (v := ?v9) rfl (by kernel_rfl) (by kernel_rfl) (by kernel_rfl) (fun _ _ _ h => h) (Or.inl ⟨by rfl, ?hy9⟩) hHeld ?rest9
  case hy9 =>
    intro w hSw
    have ld := L3.out _ hSw
    go_simp
    try with_reducible rfl
  try simp only [Act.put, List.setIfInBounds_toArray, List.set_cons_zero, List.set_cons_succ, Array.toArray_toList, List.getElem_toArray, List.getElem_cons_zero, List.getElem_cons_succ]
  refine wpAnyH_take (i := 9) (v := ?v10) rfl (by kernel_rfl) (by kernel_rfl) (by kernel_rfl) (fun _ _ _ h => h) (Or.inl ⟨by rfl, ?hy10⟩) hHeld ?rest10
  case hy10 =>
    intro w hSw
    have ld := L4.out _ hSw
    go_simp
    try with_reducible rfl
  try simp only [Act.put, List.setIfInBounds_toArray, List.set_cons_zero, List.set_cons_succ, Array.toArray_toList, List.getElem_toArray, List.getElem_cons_zero, List.getElem_cons_succ]
  refine wpAnyH_take (i := 10) rfl (by kernel_rfl) (by kernel_rfl) (by kernel_rfl) (fun _ _ _ h => h) (yields_neo (by rfl) _ _ _ rfl (rt32 (rf 0) I) c rfl rfl) hHeld ?_
  rw [EQ.out, Bool.not_true]
  try simp only [Act.put, List.setIfInBounds_toArray, List.set_cons_zero, List.set_cons_succ, Array.toArray_toList, List.getElem_toArray, List.getElem_cons_zero, List.getElem_cons_succ]
  refine wpAnyH_done (by kernel_rfl) ?_ _
  refine NoPanic.normal ?_
  go_wp2
  go_ret
  exact ⟨rfl, HB0.out.trans (HDR.out.mono HB0.out.size)⟩

/-- What region 4 of Set keeps. -/
def SS (t R lf D L cap : Nat) (a : Option Addr) (c : Nat → Int) (W : World) : Prop :=
  W.cell? ⟨t, 1, none⟩ = some (.slice (some ⟨R, 0, none⟩) (D + 1) (D + 1)) ∧ W.cell? ⟨R, 0, none⟩ = some (.slice a L cap) ∧ (lv24 ⟨lf, 0, none⟩).run Tryd.prog W = .ok (.agg (vs .u8 32 c)) W

set_option maxRecDepth 20000 in
set_option maxHeartbeats 2000000 in
/-- A leaf set to another: mark is called behind the store. -/
theorem tset_new {w : World} {LB : Nat → Nat} {t n D R : Nat} {rv : Nat → Value} {ln : Nat → Nat} {rf : Nat → Nat → Int} {cv : Value} {cn : Nat} {cs : Nat → Int} {iv : Value} {ib : Nat → Bool} {hs : Int} (h : Tre w LB t n D R rv ln rf cv cn cs iv ib hs) (I : Nat) (c : Nat → Int) (hI : I < ln 0) (hIb : I ≤ 4611686018427387904) (heq : eqR (rt32 (rf 0) I) c = false) (Q : World → Prop)
    (hmk : ∀ W, Tou LB w W → Tre W LB t n D R rv ln (setF rf I c) cv cn cs iv ib hs → Calls Tryd.prog 31 #[.pointer (some ⟨t, 0, none⟩), .int .i64 I] W fun e w' => e = .returned (.tuple #[]) ∧ Q w') :
    Calls Tryd.prog 14 #[.pointer (some ⟨t, 0, none⟩), .int .i64 I, .agg (vs .u8 32 c)] w fun e w' => e = .returned (.int .i64 0) ∧ Q w' := by
  have d0 : decide ((I : Int) < 0) = false := by simp
  have d1 : decide ((ln 0 : Int) ≤ (I : Int)) = false := by simp; omega
  have d2 : decide (ln 0 ≤ I) = false := by simp; omega
  have EQ := hid heq
  clear heq
  have hB0 : Below w.heap.size w (w.alloc (.cells (vs .u8 32 c) 33)) := (Below.refl _ _).alloc (Nat.le_refl _) _
  have hlf : (w.alloc (.cells (vs .u8 32 c) 33)).heap[w.heap.size]? = some (.cells (vs .u8 32 c) 33) := heap_new rfl
  have hzw : w.heap.size < (w.alloc (.cells (vs .u8 32 c) 33)).heap.size := by simp
  obtain ⟨W0, hW0⟩ : ∃ W, w.alloc (.cells (vs .u8 32 c) 33) = W := ⟨_, rfl⟩
  rw [hW0] at hB0 hlf hzw
  have h' := h.below hB0
  have hlen := tlen_any h'
  obtain ⟨a, cap, hv, hrow⟩ := RowR.ofOwns (h'.row 0 (by omega)).1
  obtain ⟨b, o, hb, hx, hc⟩ := hrow.rts.at I hI
  have ht := (Array.getElem?_eq_some_iff.1 h'.blk).1
  have hR := (Array.getElem?_eq_some_iff.1 h'.rws).1
  have c1 := row_cell h'.blk 1
  rw [trA_1] at c1
  have c2 := row_cell h'.rws 0
  rw [rA_get _ _ _ (by omega), hv] at c2
  have hl1 : ∀ W, Below W0.heap.size W0 W → W.cell? ⟨t, 1, none⟩ = some (.slice (some ⟨R, 0, none⟩) (D + 1) (D + 1)) := fun W hw => (below_cell hw ht).trans c1
  have hl2 : ∀ W, Below W0.heap.size W0 W → W.cell? ⟨R, 0, none⟩ = some (.slice a (ln 0) cap) := fun W hw => (below_cell hw hR).trans c2
  have hl3 : ∀ W, Below W0.heap.size W0 W → (lv24 ⟨b, o, none⟩).run Tryd.prog W = .ok (.agg (vs .u8 32 (rt32 (rf 0) I))) W := fun W hw => lv24_mid (fun j hj => (below_cell hw hb).trans (hc j hj))
  have hl4 : ∀ W, Below W0.heap.size W0 W → (lv24 ⟨w.heap.size, 0, none⟩).run Tryd.prog W = .ok (.agg (vs .u8 32 c)) W := fun W hw => lv24_run ((hw.block _ hzw).trans hlf)
  have ixf := fun W => ix55_run W R (D + 1) (D + 1) 0 (by omega)
  rw [show ((0 : Nat) : Int) = 0 from rfl] at ixf
  have hst : SS t R w.heap.size D (ln 0) cap a c W0.drew.drew ∧ ∃ w4, SS t R w.heap.size D (ln 0) cap a c w4 ∧ (sv24 ⟨b, o, none⟩ (.agg (vs .u8 32 c))).run Tryd.prog W0.drew.drew = .ok () w4 ∧ Calls Tryd.prog 31 #[.pointer (some ⟨t, 0, none⟩), .int .i64 I] w4 fun e w' => e = .returned (.tuple #[]) ∧ Q w' := by
    have hd : Below W0.heap.size W0 W0.drew.drew := ((Below.refl _ _).drew).drew
    have hT := h'.below hd
    obtain ⟨g, cap2, hv2⟩ := owns_pos (h'.row 0 (by omega)).1 (by omega)
    rw [hv] at hv2
    cases hv2
    have hx1 := hx W0
    rw [ix22_run W0 g 0 (ln 0) cap I hI, Nat.zero_add] at hx1
    injection hx1 with hx2
    injection hx2 with hx3
    injection hx3 with hx4
    injection hx4 with hx5 hx6
    subst hx5
    subst hx6
    have hro := (hT.row 0 (by omega)).1
    rw [hv] at hro
    have hlg : LB g = 5 := (h'.row 0 (by omega)).2 g (by rw [hv]; rfl)
    have hgw : g < w.heap.size := ((h.row 0 (by omega)).1.lt g (by rw [hv]; rfl)).2
    obtain ⟨p1, p2, p3⟩ := own_put (c := c) hro hI
    obtain ⟨w4, hw4⟩ : ∃ x, W0.drew.drew.setCells g (32 * I) (bl c 32) = x := ⟨_, rfl⟩
    rw [hw4] at p1 p2 p3
    have lt := hT.lt
    have lR := hT.lR
    obtain ⟨k1, k2, k3, k4, k5⟩ := hT.step p3 (l := 5) (fun b e => by cases e; exact hlg)
    have hT4 : Tre w4 LB t n D R rv ln (setF rf I c) cv cn cs iv ib hs := by
      refine ⟨lt, lR, hT.dep, (k1 (by decide)).trans hT.blk, (k2 (by decide)).trans hT.rws, fun d hd => ?_, k4 (by decide), k5 (by decide)⟩
      by_cases hd0 : d = 0
      · subst hd0
        refine ⟨?_, (hT.row 0 hd).2⟩
        rw [hv]
        exact p2
      · have := k3 d hd (by omega)
        unfold setF
        rw [if_neg hd0]
        exact this
    have hne : ∀ k, k ≠ g → k < W0.heap.size → w4.heap[k]? = W0.heap[k]? := fun k hk hl => p3.block k hl (fun e => hk (by cases e; rfl))
    have hrt : t ≠ g := fun e => by rw [e] at lt; omega
    have hrR : R ≠ g := fun e => by rw [e] at lR; omega
    refine ⟨⟨c1, c2, hl4 _ hd⟩, w4, ⟨?_, ?_, lv24_run ((hne _ (by omega) hzw).trans hlf)⟩, p1, hmk w4 ?_ hT4⟩
    · exact (World.cell?_of_block (a := ⟨t, 1, none⟩) (hne t hrt ht)).trans c1
    · exact (World.cell?_of_block (a := ⟨R, 0, none⟩) (hne R hrR hR)).trans c2
    · have hs0 := hB0.size
      refine ⟨p3.os.trans hB0.os, p3.tape.trans hB0.tape, p3.output.trans hB0.output, Nat.le_trans hs0 p3.size, fun k hk hl => ?_⟩
      refine (hne k (fun e => ?_) (by omega)).trans (hB0.block k hk)
      rw [e] at hl
      omega
  have HST := hid hst
  clear hst hmk
  have HLEN := hid hlen
  have HB0 := hid hB0
  have L1 := hid hl1
  have L2 := hid hl2
  have L3 := hid hl3
  have L4 := hid hl4
  have HH := hid h'
  have HDR := hid ((Below.refl W0.heap.size W0).drew)
  have HLF := hid hlf
  clear h h' hlen hB0 hl1 hl2 hl3 hl4 hlf hrow hc c1 c2 hv
  generalize hL : ln 0 = L at HLEN L2 hx d1 d2 HST
  have HL := hid hL
  clear hL
  go_enter Tryd.func14, Tryd.ntmps14
  go_upto_region 3 with (go_at_call 11; refine HLEN.out.mono ?_; rintro e w1 ⟨rfl, hw1⟩; obtain rfl := hw1.symm)
  clear hW0
  refine wp_region_noPanic ?_
  refine wp_region_held_drew (S := fun W => Below W0.heap.size W0 W) (by kernel_rfl) (HDR.out) (fun hHeld => ?_)
  refine wpAnyH_take (i := 0) (v := ?v11) rfl (by kernel_rfl) (by kernel_rfl) (by kernel_rfl) (fun _ _ _ h => h) (Or.inl ⟨by rfl, ?hy11⟩) hHeld ?rest11
  case hy11 =>
    intro w hSw
    go_simp
    try with_reducible rfl
  try simp only [Act.put, List.setIfInBounds_toArray, List.set_cons_zero, List.set_cons_succ, Array.toArray_toList, List.getElem_toArray, List.getElem_cons_zero, List.getElem_cons_succ]
  refine wpAnyH_take (i := 1) (v := ?v12) rfl (by kernel_rfl) (by kernel_rfl) (by kernel_rfl) (fun _ _ _ h => h) (Or.inl ⟨by rfl, ?hy12⟩) hHeld ?rest12
  case hy12 =>
    intro w hSw
    go_simp
    try with_reducible rfl
  try simp only [Act.put, List.setIfInBounds_toArray, List.set_cons_zero, List.set_cons_succ, Array.toArray_toList, List.getElem_toArray, List.getElem_cons_zero, List.getElem_cons_succ]
  refine wpAnyH_take (i := 2) (v := ?v13) rfl (by kernel_rfl) (by kernel_rfl) (by kernel_rfl) (fun _ _ _ h => h) (Or.inl ⟨by rfl, ?hy13⟩) hHeld ?rest13
  case hy13 =>
    intro w hSw
    go_simp
    try with_reducible rfl
  try simp only [Act.put, List.setIfInBounds_toArray, List.set_cons_zero, List.set_cons_succ, Array.toArray_toList, List.getElem_toArray, List.getElem_cons_zero, List.getElem_cons_succ]
  refine wpAnyH_take (i := 3) (v := ?v14) rfl (by kernel_rfl) (by kernel_rfl) (by kernel_rfl) (fun _ _ _ h => h) (Or.inl ⟨by rfl, ?hy14⟩) hHeld ?rest14
  case hy14 =>
    intro w hSw
    have ld := L1.out _ hSw
    go_simp
    try with_reducible rfl
  try simp only [Act.put, List.setIfInBounds_toArray, List.set_cons_zero, List.set_cons_succ, Array.toArray_toList, List.getElem_toArray, List.getElem_cons_zero, List.getElem_cons_succ]
  refine wpAnyH_take (i := 4) (v := ?v15) rfl (by kernel_rfl) (by kernel_rfl) (by kernel_rfl) (fun _ _ _ h => h) (Or.inl ⟨by rfl, ?hy15⟩) hHeld ?rest15
  case hy15 =>
    intro w hSw
    go_simp
    try with_reducible rfl
  try simp only [Act.put, List.setIfInBounds_toArray, List.set_cons_zero, List.set_cons_succ, Array.toArray_toList, List.getElem_toArray, List.getElem_cons_zero, List.getElem_cons_succ]
  refine wpAnyH_take (i := 5) (v := ?v16) rfl (by kernel_rfl) (by kernel_rfl) (by kernel_rfl) (fun _ _ _ h => h) (Or.inl ⟨by rfl, ?hy16⟩) hHeld ?rest16
  case hy16 =>
    intro w hSw
    have ld := L2.out _ hSw
    go_simp
    try with_reducible rfl
  try simp only [Act.put, List.setIfInBounds_toArray, List.set_cons_zero, List.set_cons_succ, Array.toArray_toList, List.getElem_toArray, List.getElem_cons_zero, List.getElem_cons_succ]
  refine wpAnyH_take (i := 6) (v := ?v17) rfl (by kernel_rfl) (by kernel_rfl) (by kernel_rfl) (fun _ _ _ h => h) (Or.inl ⟨by rfl, ?hy17⟩) hHeld ?rest17
  case hy17 =>
    intro w hSw
    go_simp
    try with_reducible rfl
  try simp only [Act.put, List.setIfInBounds_toArray, List.set_cons_zero, List.set_cons_succ, Array.toArray_toList, List.getElem_toArray, List.getElem_cons_zero, List.getElem_cons_succ]
  refine wpAnyH_take (i := 7) (v := ?v18) rfl (by kernel_rfl) (by kernel_rfl) (by kernel_rfl) (fun _ _ _ h => h) (Or.inl ⟨by rfl, ?hy18⟩) hHeld ?rest18
  case hy18 =>
    intro w hSw
    go_simp
    try with_reducible rfl
  try simp only [Act.put, List.setIfInBounds_toArray, List.set_cons_zero, List.set_cons_succ, Array.toArray_toList, List.getElem_toArray, List.getElem_cons_zero, List.getElem_cons_succ]
  refine wpAnyH_take (i := 8) (v := ?v19) rfl (by kernel_rfl) (by kernel_rfl) (by kernel_rfl) (fun _ _ _ h => h) (Or.inl ⟨by rfl, ?hy19⟩) hHeld ?rest19
  case hy19 =>
    intro w hSw
    have ld := L3.out _ hSw
    go_simp
    try with_reducible rfl
  try simp only [Act.put, List.setIfInBounds_toArray, List.set_cons_zero, List.set_cons_succ, Array.toArray_toList, List.getElem_toArray, List.getElem_cons_zero, List.getElem_cons_succ]
  refine wpAnyH_take (i := 9) (v := ?v20) rfl (by kernel_rfl) (by kernel_rfl) (by kernel_rfl) (fun _ _ _ h => h) (Or.inl ⟨by rfl, ?hy20⟩) hHeld ?rest20
  case hy20 =>
    intro w hSw
    have ld := L4.out _ hSw
    go_simp
    try with_reducible rfl
  try simp only [Act.put, List.setIfInBounds_toArray, List.set_cons_zero, List.set_cons_succ, Array.toArray_toList, List.getElem_toArray, List.getElem_cons_zero, List.getElem_cons_succ]
  refine wpAnyH_take (i := 10) rfl (by kernel_rfl) (by kernel_rfl) (by kernel_rfl) (fun _ _ _ h => h) (yields_neo (by rfl) _ _ _ rfl (rt32 (rf 0) I) c rfl rfl) hHeld ?_
  rw [EQ.out, Bool.not_false]
  try simp only [Act.put, List.setIfInBounds_toArray, List.set_cons_zero, List.set_cons_succ, Array.toArray_toList, List.getElem_toArray, List.getElem_cons_zero, List.getElem_cons_succ]
  refine wpAnyH_done (by kernel_rfl) ?_ _
  refine NoPanic.normal ?_
  clear hHeld
  obtain ⟨hs1, w4, hs2, sv9, hmc⟩ := HST.out
  have HSS := hid hs1
  have HSS2 := hid hs2
  have HMC := hid hmc
  clear hs1 hs2 hmc
  have M1 : Hid (∀ W, SS t R w.heap.size D L cap a c W → W.cell? ⟨t, 1, none⟩ = some (.slice (some ⟨R, 0, none⟩) (D + 1) (D + 1))) := fun W hw => hw.1
  have M2 : Hid (∀ W, SS t R w.heap.size D L cap a c W → W.cell? ⟨R, 0, none⟩ = some (.slice a L cap)) := fun W hw => hw.2.1
  have M4 : Hid (∀ W, SS t R w.heap.size D L cap a c W → (lv24 ⟨w.heap.size, 0, none⟩).run Tryd.prog W = .ok (.agg (vs .u8 32 c)) W) := fun W hw => hw.2.2
  go_upto_region 4 with fail
  refine wp_region_noPanic ?_
  refine wp_region_held_drew (S := SS t R w.heap.size D L cap a c) (by kernel_rfl) (HSS.out) (fun hHeld => ?_)
  refine wpAnyH_take (i := 0) (v := ?v21) rfl (by kernel_rfl) (by kernel_rfl) (by kernel_rfl) (fun _ _ _ h => h) (Or.inl ⟨by rfl, ?hy21⟩) hHeld ?rest21
  case hy21 =>
    intro w hSw
    go_simp
    try with_reducible rfl
  try simp only [Act.put, List.setIfInBounds_toArray, List.set_cons_zero, List.set_cons_succ, Array.toArray_toList, List.getElem_toArray, List.getElem_cons_zero, List.getElem_cons_succ]
  refine wpAnyH_take (i := 1) (v := ?v22) rfl (by kernel_rfl) (by kernel_rfl) (by kernel_rfl) (fun _ _ _ h => h) (Or.inl ⟨by rfl, ?hy22⟩) hHeld ?rest22
  case hy22 =>
    intro w hSw
    go_simp
    try with_reducible rfl
  try simp only [Act.put, List.setIfInBounds_toArray, List.set_cons_zero, List.set_cons_succ, Array.toArray_toList, List.getElem_toArray, List.getElem_cons_zero, List.getElem_cons_succ]
  refine wpAnyH_take (i := 2) (v := ?v23) rfl (by kernel_rfl) (by kernel_rfl) (by kernel_rfl) (fun _ _ _ h => h) (Or.inl ⟨by rfl, ?hy23⟩) hHeld ?rest23
  case hy23 =>
    intro w hSw
    go_simp
    try with_reducible rfl
  try simp only [Act.put, List.setIfInBounds_toArray, List.set_cons_zero, List.set_cons_succ, Array.toArray_toList, List.getElem_toArray, List.getElem_cons_zero, List.getElem_cons_succ]
  refine wpAnyH_take (i := 3) (v := ?v24) rfl (by kernel_rfl) (by kernel_rfl) (by kernel_rfl) (fun _ _ _ h => h) (Or.inl ⟨by rfl, ?hy24⟩) hHeld ?rest24
  case hy24 =>
    intro w hSw
    have ld := M1.out _ hSw
    go_simp
    try with_reducible rfl
  try simp only [Act.put, List.setIfInBounds_toArray, List.set_cons_zero, List.set_cons_succ, Array.toArray_toList, List.getElem_toArray, List.getElem_cons_zero, List.getElem_cons_succ]
  refine wpAnyH_take (i := 4) (v := ?v25) rfl (by kernel_rfl) (by kernel_rfl) (by kernel_rfl) (fun _ _ _ h => h) (Or.inl ⟨by rfl, ?hy25⟩) hHeld ?rest25
  case hy25 =>
    intro w hSw
    go_simp
    try with_reducible rfl
  try simp only [Act.put, List.setIfInBounds_toArray, List.set_cons_zero, List.set_cons_succ, Array.toArray_toList, List.getElem_toArray, List.getElem_cons_zero, List.getElem_cons_succ]
  refine wpAnyH_take (i := 5) (v := ?v26) rfl (by kernel_rfl) (by kernel_rfl) (by kernel_rfl) (fun _ _ _ h => h) (Or.inl ⟨by rfl, ?hy26⟩) hHeld ?rest26
  case hy26 =>
    intro w hSw
    have ld := M2.out _ hSw
    go_simp
    try with_reducible rfl
  try simp only [Act.put, List.setIfInBounds_toArray, List.set_cons_zero, List.set_cons_succ, Array.toArray_toList, List.getElem_toArray, List.getElem_cons_zero, List.getElem_cons_succ]
  refine wpAnyH_take (i := 6) (v := ?v27) rfl (by kernel_rfl) (by kernel_rfl) (by kernel_rfl) (fun _ _ _ h => h) (Or.inl ⟨by rfl, ?hy27⟩) hHeld ?rest27
  case hy27 =>
    intro w hSw
    go_simp
    try with_reducible rfl
  try simp only [Act.put, List.setIfInBounds_toArray, List.set_cons_zero, List.set_cons_succ, Array.toArray_toList, List.getElem_toArray, List.getElem_cons_zero, List.getElem_cons_succ]
  refine wpAnyH_take (i := 7) (v := ?v28) rfl (by kernel_rfl) (by kernel_rfl) (by kernel_rfl) (fun _ _ _ h => h) (Or.inl ⟨by rfl, ?hy28⟩) hHeld ?rest28
  case hy28 =>
    intro w hSw
    have ld := M4.out _ hSw
    go_simp
    try with_reducible rfl
  try simp only [Act.put, List.setIfInBounds_toArray, List.set_cons_zero, List.set_cons_succ, Array.toArray_toList, List.getElem_toArray, List.getElem_cons_zero, List.getElem_cons_succ]
  refine wpAnyH_take (i := 8) (v := ?v29) rfl (by kernel_rfl) (by kernel_rfl) (by kernel_rfl) (fun _ _ _ h => h) (Or.inl ⟨by rfl, ?hy29⟩) hHeld ?rest29
  case hy29 =>
    intro w hSw
    go_simp
    try with_reducible rfl
  try simp only [Act.put, List.setIfInBounds_toArray, List.set_cons_zero, List.set_cons_succ, Array.toArray_toList, List.getElem_toArray, List.getElem_cons_zero, List.getElem_cons_succ]
  refine wpAnyH_ready (rs := [9]) (by kernel_rfl) (by simp) ?_
  refine AllReadyH.cons rfl (fun K hK => ?_) AllReadyH.nil
  go_simp
  refine hK.out _ _ HSS2.out (fun hHeld => ?_)
  clear hK K
  try simp only [Act.put, List.setIfInBounds_toArray, List.set_cons_zero, List.set_cons_succ, Array.toArray_toList, List.getElem_toArray, List.getElem_cons_zero, List.getElem_cons_succ]
  refine wpAnyH_done (by kernel_rfl) ?_ _
  refine NoPanic.normal ?_
  go_wp2_with (go_at_call 31; refine HMC.out.mono ?_; rintro e w5 ⟨rfl, hq⟩)
  go_ret
  exact ⟨rfl, hq⟩

end Go.Proofs.YtjimdkpppgjokaaDoor

namespace Go.Proofs.YtjimdkpppgjokaaDoor
open Go.RowKit
set_option linter.unusedVariables false
set_option linter.unusedSimpArgs false

/-- append of roots, whole. -/
def apT (ty : TypeId) (x y : Value) : Sem Value := Builtin.append_ #[26, 26] ty #[x, y]
theorem wp_appendT_is {P : Program} {o : Oper} {a : Act} {w : World} {K : Act → World → Prop} {Q : Exit → Act → World → Prop} (s x : Operand)
    (ho : o.op = .call { callee := .builtin .append, args := #[s, x], argTypes := #[26, 26] }) (ws wx v : Value) (w' : World) (hs : a.eval s = ws) (hx : a.eval x = wx)
    (hrun : (apT o.type ws wx).run P w = .ok v w') (h : K (a.put o.dst v) w') : Oper.wp P o a w K Q := by
  unfold apT at hrun
  unfold Oper.wp execOp
  simp only [ho, resolve, invoke, builtin, Sem.run_bind, Sem.run_pure, Result.andThen_ok, List.map_toArray, List.map_cons, List.map_nil, hs, hx, hrun]
  exact h
/-- A row of roots with one more behind. -/
def upr (f : Nat → Int) (n : Nat) (c : Nat → Int) (q : Nat) : Int := if q < 32 * n then f q else c (q - 32 * n)
set_option maxRecDepth 20000 in
theorem bl_upr (f c : Nat → Int) (n : Nat) : bl f (32 * n) ++ bl c 32 = bl (upr f n c) (32 * (n + 1)) := by
  have e : 32 * (n + 1) = 32 * n + 32 := by omega
  rw [e]
  unfold bl
  rw [List.range_add, List.map_append, List.map_map]
  have e1 : List.map (fun i => Value.int .u8 (f i)) (List.range (32 * n)) = List.map (fun i => Value.int .u8 (upr f n c i)) (List.range (32 * n)) := List.map_congr_left fun j hj => by
    unfold upr
    rw [if_pos (List.mem_range.1 hj)]
  have e2 : List.map (fun i => Value.int .u8 (c i)) (List.range 32) = List.map ((fun i => Value.int .u8 (upr f n c i)) ∘ fun x => 32 * n + x) (List.range 32) := List.map_congr_left fun j hj => by
    show Value.int .u8 (c j) = Value.int .u8 (upr f n c (32 * n + j))
    unfold upr
    rw [if_neg (by omega), Nat.add_sub_cancel_left]
  rw [e1, e2]
theorem apT_one (w : World) (base : Nat) (v : Value) (n : Nat) (f c : Nat → Int) (hown : w.ownsRow base 33 32 v n (bl f (32 * n))) (hbd : (n + 1) * 32 ≤ 140737488355328) (hbase : base ≤ w.heap.size) (ty : TypeId) :
    ∃ v' w', (apT ty v (.slice (some ⟨w.heap.size, 0, none⟩) 1 1)).run Tryd.prog (w.alloc (.cells (vs .u8 32 c) 33)) = .ok v' w' ∧ w'.ownsRow base 33 32 v' (n + 1) (bl (upr f n c) (32 * (n + 1))) ∧ (w.alloc (.cells (vs .u8 32 c) 33)).grownBy w' v.ownBlock ∧ (v'.ownBlock = v.ownBlock ∨ v'.ownBlock = some (w.heap.size + 1)) := by
  obtain ⟨i, hi, hz0, hz1, hz2⟩ := infoR
  have hzz : (Value.agg (vs .u8 32 fun _ => 0)).cells.size = 32 := by simp [Value.cells, vs_size]
  have hr := heap_new (w := w) (o := .cells (vs .u8 32 c) 33) rfl
  obtain ⟨v', w', hrun, ho, hg, _, hat⟩ := run_append_own_at (P := Tryd.prog) (w.alloc (.cells (vs .u8 32 c) 33)) base 26 ty 33 i _ 32 32 Tryd.underlying26 hi hz0 hz1 hz2 hzz (by decide) v n _ (hown.alloc _) ⟨w.heap.size, 0, none⟩ 1 1 (bl c 32) (by rw [bl_len])
    (fun j u hj => by
      obtain ⟨h1, rfl⟩ := bl_get c 32 j u hj
      rw [addr_add, Nat.zero_add]
      exact row_int hr j h1) (bl_one c _) (by unfold maxLen; omega) (by omega) (by simp; omega)
  rw [bl_upr] at ho
  refine ⟨v', w', hrun, ho, hg, ?_⟩
  simpa using hat

/-- Functions with the lowest row's value anew. -/
def up0 {α : Type} (g : Nat → α) (x : α) (d : Nat) : α := if d = 0 then x else g d

/-- A row with a leaf more: what is there behind the append and the store of the row. -/
theorem row_grow {w : World} {LB : Nat → Nat} {t n D R : Nat} {rv : Nat → Value} {ln : Nat → Nat} {rf : Nat → Nat → Int} {cv : Value} {cn : Nat} {cs : Nat → Int} {iv : Value} {ib : Nat → Bool} {hs : Int} (h : Tre w LB t n D R rv ln rf cv cn cs iv ib hs) (c : Nat → Int) (hl : ln 0 ≤ 1099511627776) (ty : TypeId) :
    ∃ v' w5, (apT ty (rv 0) (.slice (some ⟨w.heap.size, 0, none⟩) 1 1)).run Tryd.prog (w.alloc (.cells (vs .u8 32 c) 33)) = .ok v' w5 ∧ (∃ a cap, v' = .slice a (ln 0 + 1) cap) ∧ w5.heap[R]? = w.heap[R]? ∧ w5.heap[t]? = w.heap[t]? ∧ (∀ k, k < w.heap.size → (rv 0).ownBlock ≠ some k → w5.heap[k]? = w.heap[k]?) ∧ w.heap.size + 1 ≤ w5.heap.size ∧
      Tou LB w (w5.setCell ⟨R, 0, none⟩ v') ∧ (w5.setCell ⟨R, 0, none⟩ v').heap[t]? = w.heap[t]? ∧ (w5.setCell ⟨R, 0, none⟩ v').heap[R]? = some (.cells (rA (D + 1) (up0 rv v')) 26) ∧ (∀ d, d ≤ D → RowL (w5.setCell ⟨R, 0, none⟩ v') (lab' w LB 5) (5 + d) (up0 rv v' d) (up0 ln (ln 0 + 1) d) (up0 rf (upr (rf 0) (ln 0) c) d)) ∧ IntL (w5.setCell ⟨R, 0, none⟩ v') (lab' w LB 5) 3 cv cn cs ∧ BooL (w5.setCell ⟨R, 0, none⟩ v') (lab' w LB 5) 4 iv (ln 0) ib := by
  have h0 := h.row 0 (by omega)
  obtain ⟨v', w5, hrun, ho, hg, hat⟩ := apT_one w 0 (rv 0) (ln 0) (rf 0) c h0.1 (by omega) (Nat.zero_le _) ty
  have ht := (Array.getElem?_eq_some_iff.1 h.blk).1
  have hR := (Array.getElem?_eq_some_iff.1 h.rws).1
  have lt := h.lt
  have lR := h.lR
  have rne : ∀ k, LB k ≠ 5 → (rv 0).ownBlock ≠ some k := fun k hk e => hk (h0.2 k e)
  have b5 : ∀ k, k < w.heap.size → LB k ≠ 5 → w5.heap[k]? = w.heap[k]? := fun k hk hl => (hg.block k (by simp; omega) (fun e => rne k hl e.symm)).trans (heap_old hk)
  have g6 := grown_set w5 R 0 v'
  have hs5 := hg.size
  have keep : ∀ {s : Nat} {e : TypeId} {v : Value} {m k : Nat} {xs : List Value}, w.ownsRow 0 e s v m xs → Lab LB k v → k ≠ 5 → k ≠ 2 → (w5.setCell ⟨R, 0, none⟩ v').ownsRow 0 e s v m xs := fun ho hl h5 h2 => own_keep (own_keep (ho.alloc _) hg (fun b hb e => h5 ((hl b hb).symm.trans (h0.2 b e)))) g6 (fun b hb e => by
    cases e
    exact h2 ((hl R hb).symm.trans lR))
  refine ⟨v', w5, hrun, row_form ho, b5 R hR (by omega), b5 t ht (by omega), fun k hk hne => (hg.block k (by simp; omega) (fun e => hne e.symm)).trans (heap_old hk), by simp at hs5; omega, ?_, ?_, ?_, ?_, ?_, ?_⟩
  · refine ⟨hg.os, hg.tape, hg.output, ?_, fun k hk hl => ?_⟩
    · rw [size_s]
      simp at hs5
      omega
    · exact (heap_set_other (fun e => by rw [← e, hl] at lR; omega)).trans (b5 k hk (by omega))
  · exact (heap_set_other (fun e => by rw [← e, lt] at lR; omega)).trans (b5 t ht (by omega))
  · refine (row_set ((b5 R hR (by omega)).trans h.rws) 0 _).trans ?_
    rw [rA_set]
    rfl
  · intro d hd
    by_cases hd0 : d = 0
    · subst hd0
      refine ⟨own_keep ho g6 (fun b hb e => ?_), fun b hb => ?_⟩
      · cases e
        have hb : v'.ownBlock = some R := hb
        rcases hat with h1 | h1
        · rw [h1] at hb
          have := h0.2 R hb
          omega
        · rw [h1] at hb
          cases hb
          omega
      · rcases hat with h1 | h1
        · have hb2 : (rv 0).ownBlock = some b := by rw [← h1]; exact hb
          exact (lab'_old _ _ _ _ (h0.1.lt b hb2).2).trans (h0.2 b hb2)
        · have hb2 : some (w.heap.size + 1) = some b := by rw [← h1]; exact hb
          cases hb2
          exact lab'_new _ _ _ _ (by omega)
    · have hr := h.row d hd
      unfold up0
      rw [if_neg hd0, if_neg hd0, if_neg hd0]
      exact ⟨keep hr.1 hr.2 (by omega) (by omega), Lab.more hr.1 hr.2 5⟩
  · exact ⟨keep h.chg.1 h.chg.2 (by omega) (by omega), Lab.more h.chg.1 h.chg.2 5⟩
  · exact ⟨keep h.isc.1 h.isc.2 (by omega) (by omega), Lab.more h.isc.1 h.isc.2 5⟩

theorem infoB : (Tryd.prog.info? 4).map (fun i => (i.zero, i.size, i.bytes)) = some (some (.bool false), 1, 1) := by kernel_rfl
theorem bol_snoc (c : Nat → Bool) (n : Nat) (z : Bool) : bol c n ++ [.bool z] = bol (upb c n z) (n + 1) := by
  unfold bol
  rw [List.range_succ, List.map_append]
  have e1 : List.map (fun i => Value.bool (c i)) (List.range n) = List.map (fun i => Value.bool (upb c n z i)) (List.range n) := List.map_congr_left fun i hi => by
    have := List.mem_range.1 hi
    unfold upb
    rw [if_neg (by omega)]
  rw [e1]
  have e2 : List.map (fun i => Value.bool (upb c n z i)) [n] = [.bool z] := by
    show [Value.bool (upb c n z n)] = _
    unfold upb
    rw [if_pos rfl]
  rw [e2]
/-- append of one flag. -/
theorem wpList_append_bool (w : World) {ops : Array Oper} {rest : List Oper} {o : Oper} {a : Act} {Q : Exit → Act → World → Prop} (hgd : o.guard = none) (s x : Operand)
    (ho : o.op = .call { callee := .builtin .append, args := #[s, x], argTypes := #[51, 51] })
    (base : Nat) (v : Value) (n : Nat) (c : Nat → Bool) (z : Bool) (hs : a.eval s = v) (hown : w.ownsRow base 4 1 v n (bol c n))
    (hx : a.eval x = .slice (some ⟨w.heap.size, 0, none⟩) 1 1) (hbd : n + 1 ≤ 140737488355328) (hbase : base ≤ w.heap.size)
    (h : ∀ v' w', w'.ownsRow base 4 1 v' (n + 1) (bol (upb c n z) (n + 1)) → (w.alloc (.cells #[.bool z] 4)).grownBy w' v.ownBlock → (v'.ownBlock = v.ownBlock ∨ v'.ownBlock = some (w.heap.size + 1)) → wpList Tryd.prog ops Q rest (a.put o.dst v') w') :
    wpList Tryd.prog ops Q (o :: rest) a (w.alloc (.cells #[.bool z] 4)) := by
  obtain ⟨i, hi, hz0, hz1, hz2⟩ := info_parts infoB
  refine wpList_append_own_at _ hgd s x 51 ho base 4 i (.bool false) 1 1 Tryd.underlying51 hi hz0 hz1 hz2 rfl (by decide) v n (bol c n) hs (hown.alloc _) ⟨w.heap.size, 0, none⟩ 1 1 [.bool z] hx rfl (cell_one_new _ _ _)
    (fun u hu => by simp at hu; subst hu; rfl) (by unfold maxLen; omega) (by omega) (by simp; omega) (fun v' w' h1 h2 _ h3 => ?_)
  rw [bol_snoc] at h1
  refine h v' w' h1 h2 ?_
  simpa using h3

/-- What region 5 of Append keeps. -/
def S5 (t R lf D : Nat) (c : Nat → Int) (W : World) : Prop :=
  W.cell? ⟨t, 1, none⟩ = some (.slice (some ⟨R, 0, none⟩) (D + 1) (D + 1)) ∧ (lv24 ⟨lf, 0, none⟩).run Tryd.prog W = .ok (.agg (vs .u8 32 c)) W

attribute [local go_sem ↓] sv24_eq lv24_eq ix22_eq slr_eq bd27_eq bs22_eq bd58_eq mk55_eq ix56_eq ix55_eq ix51_eq

set_option maxRecDepth 20000 in
set_option maxHeartbeats 1000000 in
/-- A full tree. -/
theorem tapp_full {w : World} {LB : Nat → Nat} {t n D R : Nat} {rv : Nat → Value} {ln : Nat → Nat} {rf : Nat → Nat → Int} {cv : Value} {cn : Nat} {cs : Nat → Int} {iv : Value} {ib : Nat → Bool} {hs : Int} (h : Tre w LB t n D R rv ln rf cv cn cs iv ib hs) (c : Nat → Int) (hf : ln 0 = n) :
    Calls Tryd.prog 15 #[.pointer (some ⟨t, 0, none⟩), .agg (vs .u8 32 c)] w fun e w' => e = .returned (.int .i64 6) ∧ Below w.heap.size w w' := by
  have hB0 : Below w.heap.size w (w.alloc (.cells (vs .u8 32 c) 33)) := (Below.refl _ _).alloc (Nat.le_refl _) _
  obtain ⟨W0, hW0⟩ : ∃ W, w.alloc (.cells (vs .u8 32 c) 33) = W := ⟨_, rfl⟩
  rw [hW0] at hB0
  have h' := h.below hB0
  have hd : Below W0.heap.size W0 W0.drew := (Below.refl _ _).drew
  have hlen := tlen_any (h'.below hd)
  have c0 := row_cell h'.blk 0
  rw [trA_0] at c0
  rw [hf] at hlen
  have e1 : ((n : Int) == (n : Int)) = true := by simp
  have HLEN := hid hlen
  have HS3 : Hid (W0.drew.cell? ⟨t, 0, none⟩ = some (.int .i64 n)) := c0
  have HB0 := hid hB0
  clear h h' hlen hd c0 hB0
  go_enter Tryd.func15, Tryd.ntmps15
  go_upto_region 3 with fail
  refine wp_region_noPanic ?_
  refine wp_region_held_drew (S := fun W => W.cell? ⟨t, 0, none⟩ = some (.int .i64 n)) (by kernel_rfl) (HS3.out) (fun hHeld => ?_)
  refine wpAnyH_take (i := 0) (v := ?v1) rfl (by kernel_rfl) (by kernel_rfl) (by kernel_rfl) (fun _ _ _ h => h) (Or.inl ⟨by rfl, ?hy1⟩) hHeld ?rest1
  case hy1 =>
    intro w hSw
    go_simp
    try with_reducible rfl
  try simp only [Act.put, List.setIfInBounds_toArray, List.set_cons_zero, List.set_cons_succ, Array.toArray_toList, List.getElem_toArray, List.getElem_cons_zero, List.getElem_cons_succ]
  refine wpAnyH_take (i := 2) (v := ?v2) rfl (by kernel_rfl) (by kernel_rfl) (by kernel_rfl) (fun _ _ _ h => h) (Or.inl ⟨by rfl, ?hy2⟩) hHeld ?rest2
  case hy2 =>
    intro w hSw
    go_simp
    try with_reducible rfl
  try simp only [Act.put, List.setIfInBounds_toArray, List.set_cons_zero, List.set_cons_succ, Array.toArray_toList, List.getElem_toArray, List.getElem_cons_zero, List.getElem_cons_succ]
  refine wpAnyH_take (i := 3) (v := ?v3) rfl (by kernel_rfl) (by kernel_rfl) (by kernel_rfl) (fun _ _ _ h => h) (Or.inl ⟨by rfl, ?hy3⟩) hHeld ?rest3
  case hy3 =>
    intro w hSw
    go_simp
    try with_reducible rfl
  try simp only [Act.put, List.setIfInBounds_toArray, List.set_cons_zero, List.set_cons_succ, Array.toArray_toList, List.getElem_toArray, List.getElem_cons_zero, List.getElem_cons_succ]
  refine wpAnyH_take (i := 4) (v := ?v4) rfl (by kernel_rfl) (by kernel_rfl) (by kernel_rfl) (fun _ _ _ h => h) (Or.inl ⟨by rfl, ?hy4⟩) hHeld ?rest4
  case hy4 =>
    intro w hSw
    go_simp
    try with_reducible rfl
  try simp only [Act.put, List.setIfInBounds_toArray, List.set_cons_zero, List.set_cons_succ, Array.toArray_toList, List.getElem_toArray, List.getElem_cons_zero, List.getElem_cons_succ]
  refine wpAnyH_take (i := 5) (v := ?v5) rfl (by kernel_rfl) (by kernel_rfl) (by kernel_rfl) (fun _ _ _ h => h) (Or.inl ⟨by rfl, ?hy5⟩) hHeld ?rest5
  case hy5 =>
    intro w hSw
    have ld := hSw
    go_simp
    try with_reducible rfl
  try simp only [Act.put, List.setIfInBounds_toArray, List.set_cons_zero, List.set_cons_succ, Array.toArray_toList, List.getElem_toArray, List.getElem_cons_zero, List.getElem_cons_succ]
  refine wpAnyH_ready (rs := [1]) (by kernel_rfl) (by simp) ?_
  refine AllReadyH.cons rfl (fun K hK => ?_) AllReadyH.nil
  go_simp
  refine (HLEN.out).mono ?_
  rintro e w1 ⟨rfl, hw1⟩
  dsimp only
  obtain rfl := hw1.symm
  refine hK.out _ _ (HS3.out) (fun hHeld => ?_)
  clear hK K
  try simp only [Act.put, List.setIfInBounds_toArray, List.set_cons_zero, List.set_cons_succ, Array.toArray_toList, List.getElem_toArray, List.getElem_cons_zero, List.getElem_cons_succ]
  refine wpAnyH_take (i := 6) (v := ?v6) rfl (by kernel_rfl) (by kernel_rfl) (by kernel_rfl) (fun _ _ _ h => h) (Or.inl ⟨by rfl, ?hy6⟩) hHeld ?rest6
  case hy6 =>
    intro w hSw
    go_simp
    try with_reducible rfl
  try simp only [Act.put, List.setIfInBounds_toArray, List.set_cons_zero, List.set_cons_succ, Array.toArray_toList, List.getElem_toArray, List.getElem_cons_zero, List.getElem_cons_succ]
  refine wpAnyH_done (by kernel_rfl) ?_ _
  refine NoPanic.normal ?_
  go_wp2
  go_ret
  exact ⟨rfl, HB0.out.drew⟩

end Go.Proofs.YtjimdkpppgjokaaDoor

namespace Go.Proofs.YtjimdkpppgjokaaDoor
open Go.RowKit
set_option linter.unusedVariables false
set_option linter.unusedSimpArgs false

/-- The flags with one more: the tree behind the append and the store of the flags. -/
theorem flag_grow {w6 w7 : World} {LB : Nat → Nat} {t n D R : Nat} {rv : Nat → Value} {ln : Nat → Nat} {rf : Nat → Nat → Int} {cv : Value} {cn : Nat} {cs : Nat → Int} {iv v7 : Value} {ib : Nat → Bool} {hs : Int} {L : Nat} (lt : LB t = 1) (lR : LB R = 2) (hD : D ≤ 30)
    (blk : w6.heap[t]? = some (.cells (trA n (.slice (some ⟨R, 0, none⟩) (D + 1) (D + 1)) (zk D) cv iv hs) 58)) (rws : w6.heap[R]? = some (.cells (rA (D + 1) rv) 26)) (row : ∀ d, d ≤ D → RowL w6 LB (5 + d) (rv d) (ln d) (rf d)) (chg : IntL w6 LB 3 cv cn cs) (isc : BooL w6 LB 4 iv L ib) (hL : ln 0 = L + 1)
    (ho : w7.ownsRow 0 4 1 v7 (L + 1) (bol (upb ib L false) (L + 1))) (hg : (w6.alloc (.cells #[.bool false] 4)).grownBy w7 iv.ownBlock) (hat : v7.ownBlock = iv.ownBlock ∨ v7.ownBlock = some (w6.heap.size + 1)) :
    Tou LB w6 (w7.setCell ⟨t, 995, none⟩ v7) ∧ Tre (w7.setCell ⟨t, 995, none⟩ v7) (lab' w6 LB 4) t n D R rv ln rf cv cn cs v7 (upb ib L false) hs := by
  have htl := (Array.getElem?_eq_some_iff.1 blk).1
  have hRl := (Array.getElem?_eq_some_iff.1 rws).1
  have b7 : ∀ k, k < w6.heap.size → LB k ≠ 4 → w7.heap[k]? = w6.heap[k]? := fun k hk hl => (hg.block k (by simp; omega) (fun e => hl (isc.2 k e.symm))).trans (heap_old hk)
  have g8 := grown_set w7 t 995 v7
  have hs7 := hg.size
  have keep : ∀ {s : Nat} {e : TypeId} {v : Value} {m k : Nat} {xs : List Value}, w6.ownsRow 0 e s v m xs → Lab LB k v → k ≠ 4 → k ≠ 1 → (w7.setCell ⟨t, 995, none⟩ v7).ownsRow 0 e s v m xs := fun ho hl h4 h1 => own_keep (own_keep (ho.alloc _) hg (fun b hb e => h4 ((hl b hb).symm.trans (isc.2 b e)))) g8 (fun b hb e => by
    cases e
    exact h1 ((hl t hb).symm.trans lt))
  refine ⟨⟨hg.os, hg.tape, hg.output, ?_, fun k hk hl => ?_⟩, (lab'_old _ _ _ _ htl).trans lt, (lab'_old _ _ _ _ hRl).trans lR, hD, ?_, ?_, fun d hd => ?_, ?_, ?_⟩
  · rw [size_s]
    simp at hs7
    omega
  · exact (heap_set_other (fun e => by rw [← e, hl] at lt; omega)).trans (b7 k hk (by omega))
  · exact (row_set ((b7 t htl (by omega)).trans blk) 995 _).trans (congrArg (fun c => some (Obj.cells c 58)) (trA_set995 _ _ _ _ _ _ _))
  · exact (heap_set_other (fun e => by rw [← e, lR] at lt; omega)).trans ((b7 R hRl (by omega)).trans rws)
  · exact ⟨keep (row d hd).1 (row d hd).2 (by omega) (by omega), Lab.more (row d hd).1 (row d hd).2 4⟩
  · exact ⟨keep chg.1 chg.2 (by omega) (by omega), Lab.more chg.1 chg.2 4⟩
  · rw [hL]
    refine ⟨own_keep ho g8 (fun b hb e => ?_), fun b hb => ?_⟩
    · cases e
      rcases hat with h1 | h1
      · rw [h1] at hb
        have := isc.2 t hb
        omega
      · rw [h1] at hb
        cases hb
        omega
    · rcases hat with h1 | h1
      · have hb2 : iv.ownBlock = some b := by rw [← h1]; exact hb
        exact (lab'_old _ _ _ _ (isc.1.lt b hb2).2).trans (isc.2 b hb2)
      · have hb2 : some (w6.heap.size + 1) = some b := by rw [← h1]; exact hb
        cases hb2
        exact lab'_new _ _ _ _ (by omega)

attribute [local go_sem ↓] sv24_eq lv24_eq ix22_eq slr_eq bd27_eq bs22_eq bd58_eq mk55_eq ix56_eq ix55_eq ix51_eq

set_option maxRecDepth 20000 in
set_option maxHeartbeats 4000000 in
theorem tapp_new {w : World} {LB : Nat → Nat} {t n D R : Nat} {rv : Nat → Value} {ln : Nat → Nat} {rf : Nat → Nat → Int} {cv : Value} {cn : Nat} {cs : Nat → Int} {iv : Value} {ib : Nat → Bool} {hs : Int} (h : Tre w LB t n D R rv ln rf cv cn cs iv ib hs) (c : Nat → Int) (hf : ln 0 < n) (hn : n ≤ 1073741824) (Q : World → Prop)
    (hmk : ∀ W LB' rv' iv', Tou LB w W → (∀ k, k < w.heap.size → LB' k = LB k) → Tre W LB' t n D R rv' (up0 ln (ln 0 + 1)) (up0 rf (upr (rf 0) (ln 0) c)) cv cn cs iv' (upb ib (ln 0) false) hs → Calls Tryd.prog 31 #[.pointer (some ⟨t, 0, none⟩), .int .i64 (ln 0)] W fun e w' => e = .returned (.tuple #[]) ∧ Q w') :
    Calls Tryd.prog 15 #[.pointer (some ⟨t, 0, none⟩), .agg (vs .u8 32 c)] w fun e w' => e = .returned (.int .i64 0) ∧ Q w' := by
  have hB0 : Below w.heap.size w (w.alloc (.cells (vs .u8 32 c) 33)) := (Below.refl _ _).alloc (Nat.le_refl _) _
  have hlf : (w.alloc (.cells (vs .u8 32 c) 33)).heap[w.heap.size]? = some (.cells (vs .u8 32 c) 33) := heap_new rfl
  have hzw : (w.alloc (.cells (vs .u8 32 c) 33)).heap.size = w.heap.size + 1 := by simp
  obtain ⟨W0, hW0⟩ : ∃ W, w.alloc (.cells (vs .u8 32 c) 33) = W := ⟨_, rfl⟩
  rw [hW0] at hB0 hlf hzw
  have h' := h.below hB0
  have hd : Below W0.heap.size W0 W0.drew := (Below.refl _ _).drew
  have hlen := tlen_any (h'.below hd)
  have c0 := row_cell h'.blk 0
  rw [trA_0] at c0
  have e1 : ((ln 0 : Int) == (n : Int)) = false := by simp; omega
  have e1' : (ln 0 == n) = false := by simp; omega
  have hdd : Below W0.heap.size W0 W0.drew.drew := hd.drew
  have hX := h'.below hdd
  have ht := (Array.getElem?_eq_some_iff.1 hX.blk).1
  have hR := (Array.getElem?_eq_some_iff.1 hX.rws).1
  have lt := hX.lt
  have lR := hX.lR
  obtain ⟨X, eX⟩ : ∃ X, W0.drew.drew = X := ⟨_, rfl⟩
  rw [eX] at hdd hX ht hR
  have hzX : X.heap.size = w.heap.size + 1 := by rw [← eX]; exact hzw
  have hlX : X.heap[w.heap.size]? = some (.cells (vs .u8 32 c) 33) := by rw [← eX]; exact hlf
  obtain ⟨a0, cap0, hv0⟩ := row_form (hX.row 0 (by omega)).1
  -- the labels without the leaf's own block
  have hrg := row_grow hX c (by omega) 26
  rw [hv0] at hrg
  obtain ⟨v5, w5, hrun, ⟨a5, cap5, rfl⟩, hR5, ht5, hk5, hs5, tou6, blk6, rws6, row6, chg6, isc6⟩ := hrg
  have cX1 := row_cell hX.blk 1
  rw [trA_1] at cX1
  have cX2 := row_cell hX.rws 0
  rw [rA_get _ _ _ (by omega), hv0] at cX2
  have hRt : t ≠ R := fun e => by rw [e] at lt; omega
  have lfT : ∀ W : World, W.heap[w.heap.size]? = X.heap[w.heap.size]? → (lv24 ⟨w.heap.size, 0, none⟩).run Tryd.prog W = .ok (.agg (vs .u8 32 c)) W := fun W e => lv24_run (e.trans hlX)
  have sX : S5 t R w.heap.size D c X := ⟨cX1, lfT X rfl⟩
  have sA : S5 t R w.heap.size D c (X.alloc (.cells (vs .u8 32 c) 33)) := ⟨(World.cell?_of_block (a := ⟨t, 1, none⟩) (heap_old ht)).trans cX1, lfT _ (heap_old (by omega))⟩
  have cA2 : (X.alloc (.cells (vs .u8 32 c) 33)).cell? ⟨R, 0, none⟩ = some (.slice a0 (ln 0) cap0) := (World.cell?_of_block (a := ⟨R, 0, none⟩) (heap_old hR)).trans cX2
  have hlne : (rv 0).ownBlock ≠ some w.heap.size := fun e => by
    have := ((h.row 0 (by omega)).1.lt _ e).2
    omega
  rw [hv0] at hlne
  have s5 : S5 t R w.heap.size D c w5 := ⟨(World.cell?_of_block (a := ⟨t, 1, none⟩) ht5).trans cX1, lfT w5 (hk5 _ (by omega) hlne)⟩
  have hRl : R ≠ w.heap.size := fun e => by
    have := (Array.getElem?_eq_some_iff.1 h.rws).1
    omega
  have s6 : S5 t R w.heap.size D c (w5.setCell ⟨R, 0, none⟩ (.slice a5 (ln 0 + 1) cap5)) := ⟨(World.cell?_of_block (a := ⟨t, 1, none⟩) blk6).trans cX1, lfT _ ((heap_set_other (fun e => hRl e.symm)).trans (hk5 _ (by omega) hlne))⟩
  have c5 : w5.cell? ⟨R, 0, none⟩ = some (.slice a0 (ln 0) cap0) := (World.cell?_of_block (a := ⟨R, 0, none⟩) hR5).trans cX2
  have f5 : w5.frozen? ⟨R, 0, none⟩ = false := row_frozen (hR5.trans hX.rws) 0
  have blk6' := blk6.trans hX.blk
  have c6 := row_cell blk6' 995
  rw [trA_995] at c6
  have hz6 : w.heap.size + 2 ≤ (w5.setCell ⟨R, 0, none⟩ (.slice a5 (ln 0 + 1) cap5)).heap.size := by rw [size_s]; omega
  obtain ⟨w6, ew6⟩ : ∃ x, w5.setCell ⟨R, 0, none⟩ (.slice a5 (ln 0 + 1) cap5) = x := ⟨_, rfl⟩
  rw [ew6] at tou6 blk6' rws6 row6 chg6 isc6 s6 c6 hz6
  have hlt : t < X.heap.size := ht
  have lt1 : lab' X LB 5 t = 1 := (lab'_old _ _ _ _ ht).trans lt
  have lR1 : lab' X LB 5 R = 2 := (lab'_old _ _ _ _ hR).trans lR
  have hfg : ∀ v7 w7, w7.ownsRow 0 4 1 v7 (ln 0 + 1) (bol (upb ib (ln 0) false) (ln 0 + 1)) → (w6.alloc (.cells #[.bool false] 4)).grownBy w7 iv.ownBlock → (v7.ownBlock = iv.ownBlock ∨ v7.ownBlock = some (w6.heap.size + 1)) → Tou LB w (w7.setCell ⟨t, 995, none⟩ v7) ∧ Tre (w7.setCell ⟨t, 995, none⟩ v7) (lab' w6 (lab' X LB 5) 4) t n D R (up0 rv (.slice a5 (ln 0 + 1) cap5)) (up0 ln (ln 0 + 1)) (up0 rf (upr (rf 0) (ln 0) c)) cv cn cs v7 (upb ib (ln 0) false) hs := by
    intro v7 w7 ho hg hat
    have hq := flag_grow lt1 lR1 hX.dep blk6' rws6 row6 chg6 isc6 rfl ho hg hat
    refine ⟨?_, hq.2⟩
    have q1 := hq.1
    refine ⟨q1.os.trans (tou6.os.trans (hdd.os.trans hB0.os)), q1.tape.trans (tou6.tape.trans (hdd.tape.trans hB0.tape)), q1.output.trans (tou6.output.trans (hdd.output.trans hB0.output)), ?_, fun k hk hl => ?_⟩
    · have := q1.size
      omega
    · exact (q1.block k (by omega) ((lab'_old _ _ _ _ (by omega)).trans hl)).trans ((tou6.block k (by omega) hl).trans ((hdd.block k (by omega)).trans (hB0.block k hk)))
  have hft : ∀ w7 : World, (w6.alloc (.cells #[.bool false] 4)).grownBy w7 iv.ownBlock → w7.heap[t]? = some (.cells (trA n (.slice (some ⟨R, 0, none⟩) (D + 1) (D + 1)) (zk D) cv iv hs) 58) := fun w7 hg => (hg.block t (by simp; omega) (fun e => by
    have := isc6.2 t e.symm
    omega)).trans ((heap_old (by omega)).trans blk6')
  have hlab : ∀ k, k < w.heap.size → lab' w6 (lab' X LB 5) 4 k = LB k := fun k hk => (lab'_old _ _ _ _ (by omega)).trans (lab'_old _ _ _ _ (by omega))
  have wl : IntKind.i64.wrap ((ln 0 : Int) + 1) = (ln 0 : Int) + 1 := i64_of _ (by omega) (by omega)
  have hlb : ln 0 ≤ 1073741824 := by omega
  have ixf := fun W => ix55_run W R (D + 1) (D + 1) 0 (by omega)
  rw [show ((0 : Nat) : Int) = 0 from rfl] at ixf
  have bs := fun W => bs22_1 W c
  have HLEN := hid hlen
  have HS3 : Hid (W0.drew.cell? ⟨t, 0, none⟩ = some (.int .i64 n)) := c0
  have HSX := hid sX
  have HSA := hid sA
  have HS5 := hid s5
  have HS6 := hid s6
  have HCX := hid cX2
  have HCA := hid cA2
  have HRUN := hid hrun
  have HC5 := hid (And.intro c5 f5)
  have EW6 := hid ew6
  have HISC := hid isc6.1
  have HFG := hid hfg
  have HFT := hid hft
  have HMK := hid hmk
  have HLAB := hid hlab
  have EX := hid eX
  have M1 : Hid (∀ W, S5 t R w.heap.size D c W → W.cell? ⟨t, 1, none⟩ = some (.slice (some ⟨R, 0, none⟩) (D + 1) (D + 1))) := fun W hw => hw.1
  have M4 : Hid (∀ W, S5 t R w.heap.size D c W → (lv24 ⟨w.heap.size, 0, none⟩).run Tryd.prog W = .ok (.agg (vs .u8 32 c)) W) := fun W hw => hw.2
  clear h h' hX hlen c0 sX sA s5 s6 cX1 cX2 cA2 hrun c5 f5 ew6 isc6 chg6 row6 rws6 blk6 blk6' tou6 hfg hft hmk hlab eX hlX hlf lfT hk5 hR5 ht5 hzX hzw hB0 hd hdd hv0 hlne lt1 lR1
  generalize hL : ln 0 = L at *
  go_enter Tryd.func15, Tryd.ntmps15
  go_upto_region 3 with fail
  refine wp_region_noPanic ?_
  refine wp_region_held_drew (S := fun W => W.cell? ⟨t, 0, none⟩ = some (.int .i64 n)) (by kernel_rfl) (HS3.out) (fun hHeld => ?_)
  refine wpAnyH_take (i := 0) (v := ?v13) rfl (by kernel_rfl) (by kernel_rfl) (by kernel_rfl) (fun _ _ _ h => h) (Or.inl ⟨by rfl, ?hy13⟩) hHeld ?rest13
  case hy13 =>
    intro w hSw
    go_simp
    try with_reducible rfl
  try simp only [Act.put, List.setIfInBounds_toArray, List.set_cons_zero, List.set_cons_succ, Array.toArray_toList, List.getElem_toArray, List.getElem_cons_zero, List.getElem_cons_succ]
  refine wpAnyH_take (i := 2) (v := ?v14) rfl (by kernel_rfl) (by kernel_rfl) (by kernel_rfl) (fun _ _ _ h => h) (Or.inl ⟨by rfl, ?hy14⟩) hHeld ?rest14
  case hy14 =>
    intro w hSw
    go_simp
    try with_reducible rfl
  try simp only [Act.put, List.setIfInBounds_toArray, List.set_cons_zero, List.set_cons_succ, Array.toArray_toList, List.getElem_toArray, List.getElem_cons_zero, List.getElem_cons_succ]
  refine wpAnyH_take (i := 3) (v := ?v15) rfl (by kernel_rfl) (by kernel_rfl) (by kernel_rfl) (fun _ _ _ h => h) (Or.inl ⟨by rfl, ?hy15⟩) hHeld ?rest15
  case hy15 =>
    intro w hSw
    go_simp
    try with_reducible rfl
  try simp only [Act.put, List.setIfInBounds_toArray, List.set_cons_zero, List.set_cons_succ, Array.toArray_toList, List.getElem_toArray, List.getElem_cons_zero, List.getElem_cons_succ]
  refine wpAnyH_take (i := 4) (v := ?v16) rfl (by kernel_rfl) (by kernel_rfl) (by kernel_rfl) (fun _ _ _ h => h) (Or.inl ⟨by rfl, ?hy16⟩) hHeld ?rest16
  case hy16 =>
    intro w hSw
    go_simp
    try with_reducible rfl
  try simp only [Act.put, List.setIfInBounds_toArray, List.set_cons_zero, List.set_cons_succ, Array.toArray_toList, List.getElem_toArray, List.getElem_cons_zero, List.getElem_cons_succ]
  refine wpAnyH_take (i := 5) (v := ?v17) rfl (by kernel_rfl) (by kernel_rfl) (by kernel_rfl) (fun _ _ _ h => h) (Or.inl ⟨by rfl, ?hy17⟩) hHeld ?rest17
  case hy17 =>
    intro w hSw
    have ld := hSw
    go_simp
    try with_reducible rfl
  try simp only [Act.put, List.setIfInBounds_toArray, List.set_cons_zero, List.set_cons_succ, Array.toArray_toList, List.getElem_toArray, List.getElem_cons_zero, List.getElem_cons_succ]
  refine wpAnyH_ready (rs := [1]) (by kernel_rfl) (by simp) ?_
  refine AllReadyH.cons rfl (fun K hK => ?_) AllReadyH.nil
  go_simp
  refine (HLEN.out).mono ?_
  rintro e w1 ⟨rfl, hw1⟩
  dsimp only
  obtain rfl := hw1.symm
  refine hK.out _ _ (HS3.out) (fun hHeld => ?_)
  clear hK K
  try simp only [Act.put, List.setIfInBounds_toArray, List.set_cons_zero, List.set_cons_succ, Array.toArray_toList, List.getElem_toArray, List.getElem_cons_zero, List.getElem_cons_succ]
  refine wpAnyH_take (i := 6) (v := ?v18) rfl (by kernel_rfl) (by kernel_rfl) (by kernel_rfl) (fun _ _ _ h => h) (Or.inl ⟨by rfl, ?hy18⟩) hHeld ?rest18
  case hy18 =>
    intro w hSw
    go_simp
    try with_reducible rfl
  try simp only [Act.put, List.setIfInBounds_toArray, List.set_cons_zero, List.set_cons_succ, Array.toArray_toList, List.getElem_toArray, List.getElem_cons_zero, List.getElem_cons_succ]
  refine wpAnyH_done (by kernel_rfl) ?_ _
  refine NoPanic.normal ?_
  clear hHeld
  go_upto_region 5 with fail
  refine wp_region_noPanic ?_
  refine wp_region_held_drew (S := S5 t R w.heap.size D c) (by kernel_rfl) (by rw [EX.out]; exact HSX.out) (fun hHeld => ?_)
  rw [EX.out] at hHeld ⊢
  refine wpAnyH_take (i := 0) (v := ?v1) rfl (by kernel_rfl) (by kernel_rfl) (by kernel_rfl) (fun _ _ _ h => h) (Or.inl ⟨by rfl, ?hy1⟩) hHeld ?rest1
  case hy1 =>
    intro w hSw
    go_simp
    try with_reducible rfl
  try simp only [Act.put, List.setIfInBounds_toArray, List.set_cons_zero, List.set_cons_succ, Array.toArray_toList, List.getElem_toArray, List.getElem_cons_zero, List.getElem_cons_succ]
  refine wpAnyH_take (i := 1) (v := ?v2) rfl (by kernel_rfl) (by kernel_rfl) (by kernel_rfl) (fun _ _ _ h => h) (Or.inl ⟨by rfl, ?hy2⟩) hHeld ?rest2
  case hy2 =>
    intro w hSw
    go_simp
    try with_reducible rfl
  try simp only [Act.put, List.setIfInBounds_toArray, List.set_cons_zero, List.set_cons_succ, Array.toArray_toList, List.getElem_toArray, List.getElem_cons_zero, List.getElem_cons_succ]
  refine wpAnyH_take (i := 2) (v := ?v3) rfl (by kernel_rfl) (by kernel_rfl) (by kernel_rfl) (fun _ _ _ h => h) (Or.inl ⟨by rfl, ?hy3⟩) hHeld ?rest3
  case hy3 =>
    intro w hSw
    go_simp
    try with_reducible rfl
  try simp only [Act.put, List.setIfInBounds_toArray, List.set_cons_zero, List.set_cons_succ, Array.toArray_toList, List.getElem_toArray, List.getElem_cons_zero, List.getElem_cons_succ]
  refine wpAnyH_take (i := 3) (v := ?v4) rfl (by kernel_rfl) (by kernel_rfl) (by kernel_rfl) (fun _ _ _ h => h) (Or.inl ⟨by rfl, ?hy4⟩) hHeld ?rest4
  case hy4 =>
    intro w hSw
    have ld := M1.out _ hSw
    go_simp
    try with_reducible rfl
  try simp only [Act.put, List.setIfInBounds_toArray, List.set_cons_zero, List.set_cons_succ, Array.toArray_toList, List.getElem_toArray, List.getElem_cons_zero, List.getElem_cons_succ]
  refine wpAnyH_take (i := 4) (v := ?v5) rfl (by kernel_rfl) (by kernel_rfl) (by kernel_rfl) (fun _ _ _ h => h) (Or.inl ⟨by rfl, ?hy5⟩) hHeld ?rest5
  case hy5 =>
    intro w hSw
    go_simp
    try with_reducible rfl
  try simp only [Act.put, List.setIfInBounds_toArray, List.set_cons_zero, List.set_cons_succ, Array.toArray_toList, List.getElem_toArray, List.getElem_cons_zero, List.getElem_cons_succ]
  refine wpAnyH_take (i := 5) (v := ?v6) rfl (by kernel_rfl) (by kernel_rfl) (by kernel_rfl) (fun _ _ _ h => h) (Or.inl ⟨by rfl, ?hy6⟩) hHeld ?rest6
  case hy6 =>
    intro w hSw
    go_simp
    try with_reducible rfl
  try simp only [Act.put, List.setIfInBounds_toArray, List.set_cons_zero, List.set_cons_succ, Array.toArray_toList, List.getElem_toArray, List.getElem_cons_zero, List.getElem_cons_succ]
  refine wpAnyH_take (i := 6) (v := ?v7) rfl (by kernel_rfl) (by kernel_rfl) (by kernel_rfl) (fun _ _ _ h => h) (Or.inl ⟨by rfl, ?hy7⟩) hHeld ?rest7
  case hy7 =>
    intro w hSw
    go_simp
    try with_reducible rfl
  try simp only [Act.put, List.setIfInBounds_toArray, List.set_cons_zero, List.set_cons_succ, Array.toArray_toList, List.getElem_toArray, List.getElem_cons_zero, List.getElem_cons_succ]
  refine wpAnyH_take (i := 7) (v := ?v8) rfl (by kernel_rfl) (by kernel_rfl) (by kernel_rfl) (fun _ _ _ h => h) (Or.inl ⟨by rfl, ?hy8⟩) hHeld ?rest8
  case hy8 =>
    intro w hSw
    have ld := M1.out _ hSw
    go_simp
    try with_reducible rfl
  try simp only [Act.put, List.setIfInBounds_toArray, List.set_cons_zero, List.set_cons_succ, Array.toArray_toList, List.getElem_toArray, List.getElem_cons_zero, List.getElem_cons_succ]
  refine wpAnyH_take (i := 8) (v := ?v9) rfl (by kernel_rfl) (by kernel_rfl) (by kernel_rfl) (fun _ _ _ h => h) (Or.inl ⟨by rfl, ?hy9⟩) hHeld ?rest9
  case hy9 =>
    intro w hSw
    go_simp
    try with_reducible rfl
  try simp only [Act.put, List.setIfInBounds_toArray, List.set_cons_zero, List.set_cons_succ, Array.toArray_toList, List.getElem_toArray, List.getElem_cons_zero, List.getElem_cons_succ]
  refine wpAnyH_take (i := 10) (v := ?v10) rfl (by kernel_rfl) (by kernel_rfl) (by kernel_rfl) (fun _ _ _ h => h) (Or.inl ⟨by rfl, ?hy10⟩) hHeld ?rest10
  case hy10 =>
    intro w hSw
    have ld := M4.out _ hSw
    go_simp
    try with_reducible rfl
  try simp only [Act.put, List.setIfInBounds_toArray, List.set_cons_zero, List.set_cons_succ, Array.toArray_toList, List.getElem_toArray, List.getElem_cons_zero, List.getElem_cons_succ]
  refine wpAnyH_ready (rs := [9, 11]) (by kernel_rfl) (by simp) ?_
  refine AllReadyH.cons rfl (fun K hK => ?_) (AllReadyH.cons rfl (fun K hK => ?_) AllReadyH.nil)
  · have cx := HCX.out
    go_simp
    refine hK.out _ _ HSX.out (fun hHeld => ?_)
    clear hK K cx
    try simp only [Act.put, List.setIfInBounds_toArray, List.set_cons_zero, List.set_cons_succ, Array.toArray_toList, List.getElem_toArray, List.getElem_cons_zero, List.getElem_cons_succ]
    refine wpAnyH_ready (rs := [11]) (by kernel_rfl) (by simp) ?_
    refine AllReadyH.cons rfl (fun K hK => ?_) AllReadyH.nil
    go_simp
    refine hK.out _ _ (HSA.out) (fun hHeld => ?_)
    clear hK K
    try simp only [Act.put, List.setIfInBounds_toArray, List.set_cons_zero, List.set_cons_succ, Array.toArray_toList, List.getElem_toArray, List.getElem_cons_zero, List.getElem_cons_succ]
    refine wpAnyH_ready (rs := [12]) (by kernel_rfl) (by simp) ?_
    refine AllReadyH.cons rfl (fun K hK => ?_) AllReadyH.nil
    rw [if_pos (by rfl)]
    refine wp_appendT_is _ _ rfl _ _ _ _ rfl rfl HRUN.out ?_
    refine hK.out _ _ (HS5.out) (fun hHeld => ?_)
    clear hK K
    try simp only [Act.put, List.setIfInBounds_toArray, List.set_cons_zero, List.set_cons_succ, Array.toArray_toList, List.getElem_toArray, List.getElem_cons_zero, List.getElem_cons_succ]
    refine wpAnyH_take (i := 13) (v := ?v11) rfl (by kernel_rfl) (by kernel_rfl) (by kernel_rfl) (fun _ _ _ h => h) (Or.inl ⟨by rfl, ?hy11⟩) hHeld ?rest11
    case hy11 =>
      intro w hSw
      go_simp
      try with_reducible rfl
    try simp only [Act.put, List.setIfInBounds_toArray, List.set_cons_zero, List.set_cons_succ, Array.toArray_toList, List.getElem_toArray, List.getElem_cons_zero, List.getElem_cons_succ]
    refine wpAnyH_ready (rs := [14]) (by kernel_rfl) (by simp) ?_
    refine AllReadyH.cons rfl (fun K hK => ?_) AllReadyH.nil
    have c5 := HC5.out.1
    have f5 := HC5.out.2
    go_simp
    rw [EW6.out]
    refine hK.out _ _ (HS6.out) (fun hHeld => ?_)
    clear hK K
    try simp only [Act.put, List.setIfInBounds_toArray, List.set_cons_zero, List.set_cons_succ, Array.toArray_toList, List.getElem_toArray, List.getElem_cons_zero, List.getElem_cons_succ]
    refine wpAnyH_done (by kernel_rfl) ?_ _
    refine NoPanic.normal ?_
    go_wp2_with (first
      | (at_builtin; go_loud (refine wpList_append_bool w6 rfl _ _ rfl 0 iv L ib false rfl HISC.out rfl (by omega) (Nat.zero_le _) ?_); intro v7 w7 ho7 hg7 hat7; obtain ⟨a7, cap7, rfl⟩ := row_form ho7; have HQ := hid (HFG.out _ _ ho7 hg7 hat7); have bt := HFT.out _ hg7; have c7 := row_cell bt 995; rw [trA_995] at c7; have f7 := row_frozen bt 995; clear ho7 hg7 hat7 bt)
      | (go_at_call 11; refine (tlen_any HQ.out.2).mono ?_; rintro e w9 ⟨rfl, hw9⟩; obtain rfl := hw9.symm; rw [show ((up0 ln (L + 1) 0 : Nat) : Int) = (L : Int) + 1 from rfl])
      | (go_at_call 31; refine (HMK.out _ _ _ _ HQ.out.1 HLAB.out HQ.out.2).mono ?_; rintro e w10 ⟨rfl, hq10⟩))
    go_ret
    exact ⟨rfl, hq10⟩
  · go_simp
    refine hK.out _ _ HSA.out (fun hHeld => ?_)
    clear hK K
    try simp only [Act.put, List.setIfInBounds_toArray, List.set_cons_zero, List.set_cons_succ, Array.toArray_toList, List.getElem_toArray, List.getElem_cons_zero, List.getElem_cons_succ]
    refine wpAnyH_ready (rs := [9]) (by kernel_rfl) (by simp) ?_
    refine AllReadyH.cons rfl (fun K hK => ?_) AllReadyH.nil
    have cx := HCA.out
    go_simp
    refine hK.out _ _ (HSA.out) (fun hHeld => ?_)
    clear hK K cx
    try simp only [Act.put, List.setIfInBounds_toArray, List.set_cons_zero, List.set_cons_succ, Array.toArray_toList, List.getElem_toArray, List.getElem_cons_zero, List.getElem_cons_succ]
    refine wpAnyH_ready (rs := [12]) (by kernel_rfl) (by simp) ?_
    refine AllReadyH.cons rfl (fun K hK => ?_) AllReadyH.nil
    rw [if_pos (by rfl)]
    refine wp_appendT_is _ _ rfl _ _ _ _ rfl rfl HRUN.out ?_
    refine hK.out _ _ (HS5.out) (fun hHeld => ?_)
    clear hK K
    try simp only [Act.put, List.setIfInBounds_toArray, List.set_cons_zero, List.set_cons_succ, Array.toArray_toList, List.getElem_toArray, List.getElem_cons_zero, List.getElem_cons_succ]
    refine wpAnyH_take (i := 13) (v := ?v12) rfl (by kernel_rfl) (by kernel_rfl) (by kernel_rfl) (fun _ _ _ h => h) (Or.inl ⟨by rfl, ?hy12⟩) hHeld ?rest12
    case hy12 =>
      intro w hSw
      go_simp
      try with_reducible rfl
    try simp only [Act.put, List.setIfInBounds_toArray, List.set_cons_zero, List.set_cons_succ, Array.toArray_toList, List.getElem_toArray, List.getElem_cons_zero, List.getElem_cons_succ]
    refine wpAnyH_ready (rs := [14]) (by kernel_rfl) (by simp) ?_
    refine AllReadyH.cons rfl (fun K hK => ?_) AllReadyH.nil
    have c5 := HC5.out.1
    have f5 := HC5.out.2
    go_simp
    rw [EW6.out]
    refine hK.out _ _ (HS6.out) (fun hHeld => ?_)
    clear hK K
    try simp only [Act.put, List.setIfInBounds_toArray, List.set_cons_zero, List.set_cons_succ, Array.toArray_toList, List.getElem_toArray, List.getElem_cons_zero, List.getElem_cons_succ]
    refine wpAnyH_done (by kernel_rfl) ?_ _
    refine NoPanic.normal ?_
    go_wp2_with (first
      | (at_builtin; go_loud (refine wpList_append_bool w6 rfl _ _ rfl 0 iv L ib false rfl HISC.out rfl (by omega) (Nat.zero_le _) ?_); intro v7 w7 ho7 hg7 hat7; obtain ⟨a7, cap7, rfl⟩ := row_form ho7; have HQ := hid (HFG.out _ _ ho7 hg7 hat7); have bt := HFT.out _ hg7; have c7 := row_cell bt 995; rw [trA_995] at c7; have f7 := row_frozen bt 995; clear ho7 hg7 hat7 bt)
      | (go_at_call 11; refine (tlen_any HQ.out.2).mono ?_; rintro e w9 ⟨rfl, hw9⟩; obtain rfl := hw9.symm; rw [show ((up0 ln (L + 1) 0 : Nat) : Int) = (L : Int) + 1 from rfl])
      | (go_at_call 31; refine (HMK.out _ _ _ _ HQ.out.1 HLAB.out HQ.out.2).mono ?_; rintro e w10 ⟨rfl, hq10⟩))
    go_ret
    exact ⟨rfl, hq10⟩

end Go.Proofs.YtjimdkpppgjokaaDoor

namespace Go.Proofs.YtjimdkpppgjokaaDoor
open Go.RowKit
set_option linter.unusedVariables false
set_option linter.unusedSimpArgs false

attribute [local go_sem ↓] sv24_eq lv24_eq ix22_eq slr_eq bd27_eq bs22_eq bd58_eq mk55_eq ix56_eq ix55_eq ix51_eq

set_option maxRecDepth 20000 in
set_option maxHeartbeats 1000000 in
theorem tnew_none (n : Int) (w : World) (hn : ¬ (1 ≤ n ∧ n ≤ 1073741824)) (h0 : -9223372036854775808 ≤ n) (h1 : n ≤ 9223372036854775807) :
    Calls Tryd.prog 9 #[.int .i64 n] w fun e w' => e = .returned (.pointer none) ∧ w' = w := by
  by_cases hl : n < 1
  · have d1 : decide (n < 1) = true := by simp; omega
    clear hn
    go_enter Tryd.func9, Tryd.ntmps9
    go_wp2
    go_ret
    exact ⟨rfl, rfl⟩
  · have d1 : decide (n < 1) = false := by simp; omega
    have d2 : decide (1073741824 < n) = true := by
      have : ¬ n ≤ 1073741824 := fun h => hn ⟨by omega, h⟩
      simp; omega
    clear hn
    go_enter Tryd.func9, Tryd.ntmps9
    go_wp2
    go_ret
    exact ⟨rfl, rfl⟩

set_option maxRecDepth 20000 in
theorem nlen_any (w : World) : Calls Tryd.prog 11 #[.pointer none] w fun e w' => e = .returned (.int .i64 0) ∧ w' = w := by
  go_enter Tryd.func11, Tryd.ntmps11
  go_wp2
  go_ret
  exact ⟨rfl, rfl⟩

set_option maxRecDepth 20000 in
theorem nhashes_any (w : World) : Calls Tryd.prog 16 #[.pointer none] w fun e w' => e = .returned (.int .i64 0) ∧ w' = w := by
  go_enter Tryd.func16, Tryd.ntmps16
  go_wp2
  go_ret
  exact ⟨rfl, rfl⟩

set_option maxRecDepth 20000 in
theorem ncopy_any (w : World) : Calls Tryd.prog 13 #[.pointer none] w fun e w' => e = .returned (.pointer none) ∧ w' = w := by
  go_enter Tryd.func13, Tryd.ntmps13
  go_wp2
  go_ret
  exact ⟨rfl, rfl⟩

set_option maxRecDepth 20000 in
theorem nroot_any (w : World) : Calls Tryd.prog 12 #[.pointer none] w fun e w' => e = .returned (.agg (vs .u8 32 fun _ => 0)) ∧ Below w.heap.size w w' := by
  have z := zero_root
  have b0 := bd27_0
  have sv := sv24_newv w (fun _ => 0) (fun _ => 0)
  go_enter Tryd.func12, Tryd.ntmps12
  go_wp2
  refine ret24 2 w.heap.size _ 33 rfl rfl rfl (heap_new rfl) ⟨rfl, by go_grown⟩

set_option maxRecDepth 20000 in
theorem nappend_any (c : Nat → Int) (w : World) : Calls Tryd.prog 15 #[.pointer none, .agg (vs .u8 32 c)] w fun e w' => e = .returned (.int .i64 1) ∧ Below w.heap.size w w' := by
  go_enter Tryd.func15, Tryd.ntmps15
  go_wp2
  go_ret
  exact ⟨rfl, by go_grown⟩

set_option maxRecDepth 20000 in
set_option maxHeartbeats 1000000 in
theorem nset_any (i : Int) (c : Nat → Int) (w : World) (h0 : -9223372036854775808 ≤ i) (h1 : i ≤ 9223372036854775807) : Calls Tryd.prog 14 #[.pointer none, .int .i64 i, .agg (vs .u8 32 c)] w fun e w' => e = .returned (.int .i64 1) ∧ Below w.heap.size w w' := by
  have HLEN : Hid (∀ W, Calls Tryd.prog 11 #[.pointer none] W fun e w' => e = .returned (.int .i64 0) ∧ w' = W) := fun W => nlen_any W
  by_cases hl : i < 0
  · have d1 : decide (i < 0) = true := by simp; omega
    go_enter Tryd.func14, Tryd.ntmps14
    go_wp2
    go_ret
    exact ⟨rfl, by go_grown⟩
  · have d1 : decide (i < 0) = false := by simp; omega
    have d2 : decide (0 ≤ i) = true := by simp; omega
    go_enter Tryd.func14, Tryd.ntmps14
    go_wp2_with (go_at_call 11; refine (HLEN.out _).mono ?_; rintro e w1 ⟨rfl, rfl⟩)
    go_ret
    exact ⟨rfl, by go_grown⟩

set_option maxRecDepth 20000 in
theorem thashes_any {w : World} {LB : Nat → Nat} {t n D R : Nat} {rv : Nat → Value} {ln : Nat → Nat} {rf : Nat → Nat → Int} {cv : Value} {cn : Nat} {cs : Nat → Int} {iv : Value} {ib : Nat → Bool} {hs : Int} (h : Tre w LB t n D R rv ln rf cv cn cs iv ib hs) :
    Calls Tryd.prog 16 #[.pointer (some ⟨t, 0, none⟩)] w fun e w' => e = .returned (.int .i64 hs) ∧ w' = w := by
  have c1 := row_cell h.blk 996
  rw [trA_996] at c1
  clear h
  go_enter Tryd.func16, Tryd.ntmps16
  go_wp2
  go_ret
  exact ⟨rfl, rfl⟩

end Go.Proofs.YtjimdkpppgjokaaDoor
