/-
  What Copy answers: a tree of its own.
-/
import Derived.Test.YtjimdkpppgjokaaDoorTsE
import Derived.Deep.Onto
namespace Go.Proofs.YtjimdkpppgjokaaDoor
open Go.RowKit
set_option linter.unusedVariables false
set_option linter.unusedSimpArgs false

/-- A tree's block, loaded and stored whole. -/
def lv58 (a : Addr) : Sem Value := loadVar 58 a
def sv58 (a : Addr) (v : Value) : Sem Unit := storeVar 58 a v
theorem lv58_eq (a : Addr) : loadVar 58 a = lv58 a := rfl
theorem sv58_eq (a : Addr) (v : Value) : storeVar 58 a v = sv58 a v := rfl
theorem lv58_run {w : World} {b : Nat} {n : Int} {r : Value} {z : Nat → Int} {cg ic : Value} {h : Int} {t : TypeId} (hb : w.heap[b]? = some (.cells (trA n r z cg ic h) t)) : (lv58 ⟨b, 0, none⟩).run Tryd.prog w = .ok (.agg (trA n r z cg ic h)) w :=
  loadAt_var (load_row hb 58 _ Tryd.underlying58 rfl (by rw [trA_size]; kernel_rfl))
theorem trA_one (n : Int) (r cg ic : Option Addr × Nat × Nat) (z : Nat → Int) (h : Int) : (trA n (.slice r.1 r.2.1 r.2.2) z (.slice cg.1 cg.2.1 cg.2.2) (.slice ic.1 ic.2.1 ic.2.2) h).all (·.oneCell') = true := by
  unfold trA
  rw [Array.all_append, Array.all_append, vs_one]
  simp [Value.oneCell']
set_option maxRecDepth 100000 in
theorem zero_tree : ∀ w : World, (zeroValue 58).run Tryd.prog w = .ok (.agg (trA 0 (.slice none 0 0) (fun _ => 0) (.slice none 0 0) (.slice none 0 0) 0)) w := (zero_of_info (n := 997) (by kernel_rfl)).1
theorem sv58_new (W : World) (n : Int) (r cg ic : Option Addr × Nat × Nat) (z : Nat → Int) (h : Int) (C : Array Value) (hC : C.size = 997) : (sv58 ⟨W.heap.size, 0, none⟩ (.agg (trA n (.slice r.1 r.2.1 r.2.2) z (.slice cg.1 cg.2.1 cg.2.2) (.slice ic.1 ic.2.1 ic.2.2) h))).run Tryd.prog (W.alloc (.cells C 58)) = .ok () (W.alloc (.cells (trA n (.slice r.1 r.2.1 r.2.2) z (.slice cg.1 cg.2.1 cg.2.2) (.slice ic.1 ic.2.1 ic.2.2) h) 58)) :=
  run_storeVar_new W 58 _ _ (by rw [trA_size]; kernel_rfl) (by rw [trA_size, hC]) (trA_one _ _ _ _ _ _)
theorem trA_set1 (n : Int) (r r' : Value) (z : Nat → Int) (cg ic : Value) (h : Int) : (trA n r z cg ic h).setIfInBounds 1 r' = trA n r' z cg ic h := by
  refine trA_ext _ (by simp [trA_size]) ?_ ?_ (fun j hj => ?_) ?_ ?_ ?_
  · rw [Array.getElem?_setIfInBounds, if_neg (by omega), trA_0]
  · rw [Array.getElem?_setIfInBounds, if_pos rfl, if_pos (by rw [trA_size]; omega)]
  · rw [Array.getElem?_setIfInBounds, if_neg (by omega), trA_z _ _ _ _ _ _ _ hj]
  · rw [Array.getElem?_setIfInBounds, if_neg (by omega), trA_994]
  · rw [Array.getElem?_setIfInBounds, if_neg (by omega), trA_995]
  · rw [Array.getElem?_setIfInBounds, if_neg (by omega), trA_996]

/-- A copy being made: k rows are cloned. -/
structure Cpy (w W : World) (LB : Nat → Nat) (c R n D : Nat) (rv : Nat → Value) (k : Nat) (ln : Nat → Nat) (rf : Nat → Nat → Int) (cv iv : Value) (hs : Int) : Prop where
  bel : Below w.heap.size w W
  old : ∀ j, j < w.heap.size → LB j = 0
  lc : LB c = 1
  lR : LB R = 2
  blk : W.heap[c]? = some (.cells (trA n (.slice (some ⟨R, 0, none⟩) (D + 1) (D + 1)) (zk D) cv iv hs) 58)
  rws : W.heap[R]? = some (.cells (rA (D + 1) rv) 26)
  row : ∀ d, d < k → RowL W LB (5 + d) (rv d) (ln d) (rf d)
theorem Cpy.hi {w W : World} {LB : Nat → Nat} {c R n D : Nat} {rv : Nat → Value} {k : Nat} {ln : Nat → Nat} {rf : Nat → Nat → Int} {cv iv : Value} {hs : Int} (h : Cpy w W LB c R n D rv k ln rf cv iv hs) : w.heap.size ≤ c ∧ w.heap.size ≤ R ∧ c < W.heap.size ∧ R < W.heap.size ∧ c ≠ R := by
  have h1 := h.lc
  have h2 := h.lR
  refine ⟨?_, ?_, (Array.getElem?_eq_some_iff.1 h.blk).1, (Array.getElem?_eq_some_iff.1 h.rws).1, fun e => by rw [e] at h1; omega⟩
  · by_cases h3 : w.heap.size ≤ c
    · exact h3
    · have := h.old c (by omega); omega
  · by_cases h3 : w.heap.size ≤ R
    · exact h3
    · have := h.old R (by omega); omega
theorem Cpy.below {w W W' : World} {LB : Nat → Nat} {c R n D : Nat} {rv : Nat → Value} {k : Nat} {ln : Nat → Nat} {rf : Nat → Nat → Int} {cv iv : Value} {hs : Int} (h : Cpy w W LB c R n D rv k ln rf cv iv hs) (hb : Below W.heap.size W W') (l : Nat) : Cpy w W' (lab' W LB l) c R n D rv k ln rf cv iv hs := by
  obtain ⟨h1, h2, h3, h4, _⟩ := h.hi
  have hz := h.bel.size
  have g : W.grownBy W' none := ⟨hb.os, hb.tape, hb.output, hb.size, fun k hk _ => hb.block k hk⟩
  exact ⟨h.bel.trans (hb.mono hz), fun j hj => (lab'_old _ _ _ _ (by omega)).trans (h.old j hj), (lab'_old _ _ _ _ h3).trans h.lc, (lab'_old _ _ _ _ h4).trans h.lR, (hb.block c h3).trans h.blk, (hb.block R h4).trans h.rws, fun d hd => ⟨own_keep (h.row d hd).1 g (fun b _ e => by cases e), Lab.more (h.row d hd).1 (h.row d hd).2 l⟩⟩
theorem Cpy.cset {w W : World} {LB : Nat → Nat} {c R n D : Nat} {rv : Nat → Value} {k : Nat} {ln : Nat → Nat} {rf : Nat → Nat → Int} {cv iv cv' iv' : Value} {hs hs' : Int} (h : Cpy w W LB c R n D rv k ln rf cv iv hs) (i : Nat) (v : Value) (hA : (trA n (.slice (some ⟨R, 0, none⟩) (D + 1) (D + 1)) (zk D) cv iv hs).setIfInBounds i v = trA n (.slice (some ⟨R, 0, none⟩) (D + 1) (D + 1)) (zk D) cv' iv' hs') :
    Cpy w (W.setCell ⟨c, i, none⟩ v) LB c R n D rv k ln rf cv' iv' hs' := by
  obtain ⟨h1, h2, h3, h4, h5⟩ := h.hi
  refine ⟨h.bel.setCell (by simpa using h1) _, h.old, h.lc, h.lR, ?_, (heap_set_other (fun e => h5 e.symm)).trans h.rws, fun d hd => ⟨own_keep (h.row d hd).1 (grown_set W c i v) (fun b hb e => ?_), (h.row d hd).2⟩⟩
  · exact (row_set h.blk i v).trans (congrArg (fun x => some (Obj.cells x 58)) hA)
  · cases e
    have e1 := (h.row d hd).2 c hb
    have e2 := h.lc
    omega
theorem Cpy.rset {w W W' : World} {LB : Nat → Nat} {c R n D : Nat} {rv : Nat → Value} {k : Nat} {ln : Nat → Nat} {rf : Nat → Nat → Int} {cv iv : Value} {hs : Int} (h : Cpy w W LB c R n D rv k ln rf cv iv hs) (hb : Below W.heap.size W W') (v : Value) (ho : W'.ownsRow W.heap.size 33 32 v (ln k) (bl (rf k) (32 * ln k))) :
    Cpy w (W'.setCell ⟨R, k, none⟩ v) (lab' W LB (5 + k)) c R n D (fun j => if j = k then v else rv j) (k + 1) ln rf cv iv hs := by
  have h' := h.below hb (5 + k)
  obtain ⟨h1, h2, h3, h4, h5⟩ := h.hi
  have e2 := h'.lR
  have g6 := grown_set W' R k v
  refine ⟨h'.bel.setCell (by simpa using h2) _, h'.old, h'.lc, h'.lR, (heap_set_other h5).trans h'.blk, ?_, fun d hd => ?_⟩
  · refine (row_set h'.rws k v).trans ?_
    rw [rA_set]
  · by_cases e : d = k
    · subst e
      rw [if_pos rfl]
      refine ⟨own_keep (ho.mono (Nat.zero_le _)) g6 (fun b hb2 e => ?_), fun b hb2 => lab'_new _ _ _ _ (ho.lt b hb2).1⟩
      cases e
      have := (ho.lt R hb2).1
      omega
    · rw [if_neg e]
      refine ⟨own_keep (h'.row d (by omega)).1 g6 (fun b hb2 e3 => ?_), (h'.row d (by omega)).2⟩
      cases e3
      have := (h'.row d (by omega)).2 R hb2
      omega

set_option maxRecDepth 20000 in
set_option maxHeartbeats 1000000 in
theorem rclone_own (v : Value) (len : Nat) (f : Nat → Int) (w : World) (h : w.ownsRow 0 33 32 v len (bl f (32 * len))) (hl : 32 * len ≤ 140737488355328) :
    Calls Tryd.prog 28 #[v] w fun e w' => ∃ v', e = .returned v' ∧ w'.ownsRow w.heap.size 33 32 v' len (bl f (32 * len)) ∧ Below w.heap.size w w' := by
  obtain ⟨a, cap, rfl, hrow⟩ := RowR.ofOwns h
  have hr := hrow.rts
  cases a with
  | none =>
    have hl0 : len = 0 := by
      rcases h.2 with ⟨_, h2⟩ | ⟨g, cap, cur, h1, _⟩
      · exact h2
      · cases h1
    subst hl0
    have q := eqnilR w none 0 cap
    go_enter Tryd.func28, Tryd.ntmps28
    go_wp2
    go_ret
    exact ⟨_, rfl, World.ownsRow_nil _ _ _ _, Below.refl _ _⟩
  | some x =>
    have HR := hid hr
    have q := eqnilR w (some x) len cap
    clear hr hrow h
    go_enter Tryd.func28, Tryd.ntmps28
    go_wp2_with (at_builtin; refine wpList_append_rts _ rfl _ _ rfl w.heap.size _ 0 f rfl (World.ownsRow_made _ #[] 0 (Nat.le_refl _) (Nat.zero_le _) rfl) (some x) len cap f rfl (HR.out.below ((Below.refl _ _).alloc (Nat.le_refl _) _)) (by omega) (by simp) f (fun q _ => rfl) (fun q _ => by rw [Nat.mul_zero, Nat.zero_add]) ?_; intro v' w' ho hgr)
    obtain ⟨a', cap', rfl⟩ := row_form ho
    go_ret
    refine ⟨_, rfl, by rw [Nat.zero_add] at ho ⊢; exact ho, ?_⟩
    exact below_grownS ((Below.refl _ _).alloc (Nat.le_refl _) _) (World.ownsRow_made (e := 33) (size := 32) _ #[] 0 (Nat.le_refl _) (Nat.zero_le _) rfl) (by simp) hgr

attribute [local go_sem ↓] sv24_eq lv24_eq ix22_eq slr_eq bd27_eq bs22_eq bd58_eq mk55_eq ix56_eq ix55_eq ix51_eq ix48_eq lv58_eq sv58_eq

theorem iclone_own (v : Value) (n : Nat) (c : Nat → Int) (w : World) (h : w.ownsRow 0 3 1 v n (il c n)) (hl : 8 * n ≤ 140737488355328) :
    Calls Tryd.prog 29 #[v] w fun e w' => ∃ v', e = .returned v' ∧ w'.ownsRow w.heap.size 3 1 v' n (il c n) ∧ Below w.heap.size w w' := by
  rcases h.2 with ⟨rfl, rfl⟩ | ⟨g, cap, cur, rfl, _⟩
  · refine (Tryd.slices_Clone_int_nil 0 0 w).mono ?_
    rintro e w' ⟨rfl, rfl⟩
    exact ⟨_, rfl, World.ownsRow_nil _ _ _ _, Below.refl _ _⟩
  · have hz : ((List.range n).map c).length = n := by simp
    have hg : ∀ j, j < n → ((List.range n).map c).getD j 0 = c j := fun j hj => by simp [List.getD_eq_getElem?_getD, List.getElem?_range hj]
    refine (Tryd.slices_Clone_int g 0 n cap ((List.range n).map c) w (by omega) (by omega) (fun j hj => ?_)).mono ?_
    · rw [hz] at hj
      rw [hg j hj, Nat.zero_add, h.cellAt j (by omega), il_get _ _ _ hj]
    · rintro e w' ⟨v', rfl, ho, _, hb⟩
      refine ⟨v', rfl, ?_, hb⟩
      have e : (((List.range n).map c).take n).map (Value.int .i64) = il c n := by
        rw [List.take_of_length_le (by omega), List.map_map]
        rfl
      rw [e] at ho
      exact ho

theorem bclone_own (v : Value) (n : Nat) (c : Nat → Bool) (w : World) (h : w.ownsRow 0 4 1 v n (bol c n)) (hl : n ≤ 140737488355328) :
    Calls Tryd.prog 30 #[v] w fun e w' => ∃ v', e = .returned v' ∧ w'.ownsRow w.heap.size 4 1 v' n (bol c n) ∧ Below w.heap.size w w' := by
  rcases h.2 with ⟨rfl, rfl⟩ | ⟨g, cap, cur, rfl, _⟩
  · refine (Tryd.slices_Clone_nil_f30 0 0 w).mono ?_
    rintro e w' ⟨rfl, rfl⟩
    exact ⟨_, rfl, World.ownsRow_nil _ _ _ _, Below.refl _ _⟩
  · obtain ⟨i, hi, hz0, hz1, hz2⟩ := info_parts infoB
    have hbl : (bol c n).length = n * 1 := by simp [bol]
    refine (Tryd.slices_Clone_f30 i (.bool false) 1 1 hi hz0 hz1 hz2 rfl (by omega) size_bool g 0 n cap (bol c n) w hbl (by unfold maxLen; omega) (by omega) (fun j u hu => ?_) (fun u hu => ?_)).mono ?_
    · have hj : j < n := by
        have := (List.getElem?_eq_some_iff.1 hu).1
        omega
      rw [Nat.zero_add, h.cellAt j (by omega), hu]
    · unfold bol at hu
      obtain ⟨j, _, rfl⟩ := List.mem_map.1 hu
      rfl
    · rintro e w' ⟨v', rfl, ho, _, hb⟩
      exact ⟨v', rfl, ho, hb⟩

set_option maxRecDepth 20000 in
set_option maxHeartbeats 4000000 in
theorem tcopy {w : World} {LB : Nat → Nat} {t n D R : Nat} {rv : Nat → Value} {ln : Nat → Nat} {rf : Nat → Nat → Int} {cv : Value} {cn : Nat} {cs : Nat → Int} {iv : Value} {ib : Nat → Bool} {hs : Int} (h : Tre w LB t n D R rv ln rf cv cn cs iv ib hs) (hln : ∀ d, d ≤ D → ln d ≤ 1073741824) (hcn : cn ≤ 1073741824) :
    Calls Tryd.prog 13 #[.pointer (some ⟨t, 0, none⟩)] w fun e w' => e = .returned (.pointer (some ⟨w.heap.size, 0, none⟩)) ∧ Below w.heap.size w w' ∧ ∃ LB' R' rv' cv' iv', (∀ k, k < w.heap.size → LB' k = 0) ∧ Tre w' LB' w.heap.size n D R' rv' ln rf cv' cn cs iv' ib 0 := by
  obtain ⟨ac, cc, hcv⟩ := row_form h.chg.1
  obtain ⟨ai, ci, hiv⟩ := row_form h.isc.1
  have hdep := h.dep
  have ht := (Array.getElem?_eq_some_iff.1 h.blk).1
  have hR := (Array.getElem?_eq_some_iff.1 h.rws).1
  have hblk := h.blk
  rw [hcv, hiv] at hblk
  have l1 := lv58_run hblk
  have zt := zero_tree
  have s1 := sv58_new w n (some ⟨R, 0, none⟩, D + 1, D + 1) (ac, cn, cc) (ai, ln 0, ci) (zk D) hs (trA 0 (.slice none 0 0) (fun _ => 0) (.slice none 0 0) (.slice none 0 0) 0) (trA_size _ _ _ _ _ _)
  have H := hid h
  have HBLK := hid hblk
  have HLN := hid hln
  have HCV := hid hcv
  have HIV := hid hiv
  clear h hblk hln hcv hiv
  go_enter Tryd.func13, Tryd.ntmps13
  go_upto_region 4 with fail
  obtain ⟨W1, hW1⟩ : ∃ W, w.alloc (.cells (trA n (.slice (some ⟨R, 0, none⟩) (D + 1) (D + 1)) (zk D) (.slice ac cn cc) (.slice ai (ln 0) ci) hs) 58) = W := ⟨_, rfl⟩
  have hB1 : Below w.heap.size w W1 := by rw [← hW1]; exact (Below.refl _ _).alloc (Nat.le_refl _) _
  have rc1 : W1.heap[w.heap.size]? = some (.cells (trA n (.slice (some ⟨R, 0, none⟩) (D + 1) (D + 1)) (zk D) (.slice ac cn cc) (.slice ai (ln 0) ci) hs) 58) := by rw [← hW1]; exact heap_new rfl
  have sz1 : W1.heap.size = w.heap.size + 1 := by rw [← hW1]; simp
  have w1c := row_cell ((hB1.block t ht).trans HBLK.out) 1
  rw [trA_1] at w1c
  have mk := mk55_run W1 (D + 1) (by omega)
  obtain ⟨W2, hW2⟩ : ∃ W, W1.alloc (.cells (nilR (D + 1)) 26) = W := ⟨_, rfl⟩
  rw [hW2, show ((D + 1 : Nat) : Int) = (D : Int) + 1 from rfl, sz1] at mk
  have hB2 : Below w.heap.size w W2 := by rw [← hW2]; exact hB1.alloc (by omega) _
  have rc2 : W2.heap[w.heap.size]? = some (.cells (trA n (.slice (some ⟨R, 0, none⟩) (D + 1) (D + 1)) (zk D) (.slice ac cn cc) (.slice ai (ln 0) ci) hs) 58) := by rw [← hW2]; exact (heap_old (by omega)).trans rc1
  have rr2 : W2.heap[w.heap.size + 1]? = some (.cells (rA (D + 1) (fun _ => .slice none 0 0)) 26) := by rw [← hW2, ← nilR_rA, ← sz1]; exact heap_new rfl
  have f2 := row_frozen rc2 1
  have c2 := row_cell rc2 1
  rw [trA_1] at c2
  have hC0 : Cpy w (W2.setCell ⟨w.heap.size, 1, none⟩ (.slice (some ⟨w.heap.size + 1, 0, none⟩) (D + 1) (D + 1))) (fun k => if k = w.heap.size then 1 else if k = w.heap.size + 1 then 2 else 0) w.heap.size (w.heap.size + 1) n D (fun _ => .slice none 0 0) 0 ln rf (.slice ac cn cc) (.slice ai (ln 0) ci) hs := by
    refine ⟨hB2.setCell (Nat.le_refl _) _, fun j hj => ?_, if_pos rfl, ?_, ?_, (heap_set_other (by omega)).trans rr2, fun d hd => by omega⟩
    · show (if j = w.heap.size then 1 else if j = w.heap.size + 1 then 2 else 0) = 0
      rw [if_neg (by omega), if_neg (by omega)]
    · show (if w.heap.size + 1 = w.heap.size then 1 else if w.heap.size + 1 = w.heap.size + 1 then 2 else 0) = 2
      rw [if_neg (by omega), if_pos rfl]
    · exact (row_set rc2 1 _).trans (congrArg (fun x => some (Obj.cells x 58)) (trA_set1 _ _ _ _ _ _ _))
  obtain ⟨c, ec⟩ : ∃ c, w.heap.size = c := ⟨_, rfl⟩
  obtain ⟨R', eR⟩ : ∃ c, w.heap.size + 1 = c := ⟨_, rfl⟩
  rw [hW1]
  rw [eR] at mk hC0
  have hmC := hC0
  rw [ec] at hmC f2 c2 ⊢
  have HC0 := hid hmC
  have SZ1 := hid sz1
  have HEC := hid ec
  clear hC0 hmC rr2 rc2 hB2 rc1 hB1 hW1 sz1 l1 zt s1 eR ec
  go_upto_region 5 with fail
  clear mk f2 c2 w1c hW2
  obtain ⟨W3, hW3⟩ : ∃ W, W2.setCell ⟨c, 1, none⟩ (.slice (some ⟨R', 0, none⟩) (D + 1) (D + 1)) = W := ⟨_, rfl⟩
  have hC3 := HC0.out
  rw [hW3] at hC3 ⊢
  have w3c := row_cell ((hC3.bel.block t ht).trans HBLK.out) 1
  rw [trA_1] at w3c
  have HC3 := hid hC3
  clear hC3 hW3 HC0
  go_upto_region 6 with fail
  clear w3c
  go_loopw [23] (fun i wr => ∃ k : Nat, k ≤ D + 1 ∧ i = .int .i64 k ∧ ∃ LBk rvk, Cpy w wr LBk c R' n D rvk k ln rf (.slice ac cn cc) (.slice ai (ln 0) ci) hs) (fun i _ => D + 1 - (intOf i).toNat)
  case atStart => exact ⟨0, by omega, rfl, _, _, HC3.out⟩
  case round =>
    clear HC3
    obtain ⟨k, hk, rfl, LBk, rvk, hC⟩ := hrel
    by_cases hlt : k < D + 1
    · have b3 : decide (k < D + 1) = true := by simp; omega
      have b4 : decide ((k : Int) < (D : Int) + 1) = true := by simp; omega
      have ixf := fun W => ix55_run W R (D + 1) (D + 1) k hlt
      have ixg := fun W => ix55_run W R' (D + 1) (D + 1) k hlt
      obtain ⟨ar, cr, hrv⟩ := row_form (H.out.row k (by omega)).1
      have cR := row_cell ((hC.bel.block R hR).trans H.out.rws) k
      rw [rA_get _ _ _ hlt, hrv] at cR
      have hok : wr.drew.ownsRow 0 33 32 (rv k) (ln k) (bl (rf k) (32 * ln k)) := own_keep (row := none) (H.out.row k (by omega)).1 ⟨hC.bel.os, hC.bel.tape, hC.bel.output, hC.bel.size, fun j hj _ => hC.bel.block j hj⟩ (fun b _ e => by cases e)
      have hll := HLN.out k (by omega)
      have hcl := rclone_own (rv k) (ln k) (rf k) wr.drew hok (by omega)
      rw [hrv] at hcl
      have cC := row_cell hC.blk 1
      rw [trA_1] at cC
      have hk1 : ∀ W, Below wr.heap.size wr W → W.cell? ⟨c, 1, none⟩ = some (.slice (some ⟨R', 0, none⟩) (D + 1) (D + 1)) := fun W hb => (below_cell hb hC.hi.2.2.1).trans cC
      have hk2 : ∀ W v, Below wr.heap.size wr W → W.ownsRow wr.heap.size 33 32 v (ln k) (bl (rf k) (32 * ln k)) → (W.frozen? ⟨R', k, none⟩ = false ∧ (∃ u, W.cell? ⟨R', k, none⟩ = some u)) ∧ ∃ LB' rv', Cpy w (W.setCell ⟨R', k, none⟩ v) LB' c R' n D rv' (k + 1) ln rf (.slice ac cn cc) (.slice ai (ln 0) ci) hs := fun W v hb ho => by
        have hrr := (hb.block R' hC.hi.2.2.2.1).trans hC.rws
        have hcu := (row_cell hrr k).trans (rA_get _ _ _ hlt)
        have hfz := row_frozen hrr k
        exact ⟨⟨hfz, _, hcu⟩, _, _, hC.rset hb v ho⟩
      have hk3 : ∀ W v, Below wr.heap.size wr W → (W.setCell ⟨R', k, none⟩ v).cell? ⟨c, 1, none⟩ = some (.slice (some ⟨R', 0, none⟩) (D + 1) (D + 1)) := fun W v hb => by
        have h5 := hC.hi.2.2.2.2
        exact (World.cell?_of_block (a := ⟨c, 1, none⟩) (heap_set_other h5)).trans (hk1 W hb)
      have hdr : Below wr.heap.size wr wr.drew := (Below.refl _ _).drew
      have HCL := hid hcl
      have HK1 := hid hk1
      have HK2 := hid hk2
      have HK3 := hid hk3
      have HDR := hid hdr
      clear hcl hk1 hk2 hk3 hdr hok hC hrv cC
      generalize ln k = L at cR HCL HK2 hll
      generalize rf k = F at HCL HK2
      go_upto_region 8 with fail
      refine wp_region_noPanic ?_
      refine wp_region_held_drew (S := fun W => W.cell? ⟨c, 1, none⟩ = some (.slice (some ⟨R', 0, none⟩) (D + 1) (D + 1))) (by kernel_rfl) (HK1.out _ HDR.out) (fun hHeld => ?_)
      refine wpAnyH_take (i := 0) (v := ?v1) rfl (by kernel_rfl) (by kernel_rfl) (by kernel_rfl) (fun _ _ _ h => h) (Or.inl ⟨by rfl, ?hy1⟩) hHeld ?rest1
      case hy1 =>
        intro w hSw
        go_simp
        try with_reducible rfl
      try simp only [Act.put, List.setIfInBounds_toArray, List.set_cons_zero, List.set_cons_succ, Array.toArray_toList, List.getElem_toArray, List.getElem_cons_zero, List.getElem_cons_succ]
      refine wpAnyH_take (i := 1) (v := ?v2) rfl (by kernel_rfl) (by kernel_rfl) (by kernel_rfl) (fun _ _ _ h => h) (Or.inl ⟨by rfl, ?hy2⟩) hHeld ?rest2
      case hy2 =>
        intro w hSw
        go_simp
        try with_reducible rfl
      try simp only [Act.put, List.setIfInBounds_toArray, List.set_cons_zero, List.set_cons_succ, Array.toArray_toList, List.getElem_toArray, List.getElem_cons_zero, List.getElem_cons_succ]
      refine wpAnyH_take (i := 2) (v := ?v3) rfl (by kernel_rfl) (by kernel_rfl) (by kernel_rfl) (fun _ _ _ h => h) (Or.inl ⟨by rfl, ?hy3⟩) hHeld ?rest3
      case hy3 =>
        intro w hSw
        go_simp
        try with_reducible rfl
      try simp only [Act.put, List.setIfInBounds_toArray, List.set_cons_zero, List.set_cons_succ, Array.toArray_toList, List.getElem_toArray, List.getElem_cons_zero, List.getElem_cons_succ]
      refine wpAnyH_take (i := 3) (v := ?v4) rfl (by kernel_rfl) (by kernel_rfl) (by kernel_rfl) (fun _ _ _ h => h) (Or.inl ⟨by rfl, ?hy4⟩) hHeld ?rest4
      case hy4 =>
        intro w hSw
        go_simp
        try with_reducible rfl
      try simp only [Act.put, List.setIfInBounds_toArray, List.set_cons_zero, List.set_cons_succ, Array.toArray_toList, List.getElem_toArray, List.getElem_cons_zero, List.getElem_cons_succ]
      refine wpAnyH_ready (rs := [4]) (by kernel_rfl) (by simp) ?_
      refine AllReadyH.cons rfl (fun K hK => ?_) AllReadyH.nil
      go_simp
      refine (HCL.out).mono ?_
      rintro e w1 ⟨v', rfl, ho1, hb1⟩
      dsimp only
      obtain ⟨⟨fz, u, cu⟩, hfin⟩ := HK2.out w1 v' (HDR.out.trans hb1) ho1
      have HFIN := hid hfin
      have cK := HK3.out w1 v' (HDR.out.trans hb1)
      obtain ⟨a1, c1, rfl⟩ := row_form ho1
      clear hfin ho1
      refine hK.out _ _ (HK1.out _ (HDR.out.trans hb1)) (fun hHeld => ?_)
      clear hK K
      try simp only [Act.put, List.setIfInBounds_toArray, List.set_cons_zero, List.set_cons_succ, Array.toArray_toList, List.getElem_toArray, List.getElem_cons_zero, List.getElem_cons_succ]
      refine wpAnyH_take (i := 5) (v := ?v5) rfl (by kernel_rfl) (by kernel_rfl) (by kernel_rfl) (fun _ _ _ h => h) (Or.inl ⟨by rfl, ?hy5⟩) hHeld ?rest5
      case hy5 =>
        intro w hSw
        go_simp
        try with_reducible rfl
      try simp only [Act.put, List.setIfInBounds_toArray, List.set_cons_zero, List.set_cons_succ, Array.toArray_toList, List.getElem_toArray, List.getElem_cons_zero, List.getElem_cons_succ]
      refine wpAnyH_ready (rs := [6]) (by kernel_rfl) (by simp) ?_
      refine AllReadyH.cons rfl (fun K hK => ?_) AllReadyH.nil
      go_simp
      refine hK.out _ _ cK (fun hHeld => ?_)
      clear hK K
      try simp only [Act.put, List.setIfInBounds_toArray, List.set_cons_zero, List.set_cons_succ, Array.toArray_toList, List.getElem_toArray, List.getElem_cons_zero, List.getElem_cons_succ]
      refine wpAnyH_done (by kernel_rfl) ?_ _
      refine NoPanic.normal ?_
      go_wp2
      go_roundw
      case rel => exact ⟨k + 1, by omega, by go_num, HFIN.out⟩
      case measure => simp [intOf]; omega
    · obtain rfl : k = D + 1 := by omega
      have b3 : decide (D + 1 < D + 1) = false := by simp
      have b4 : decide ((D : Int) + 1 < (D : Int) + 1) = false := by simp
      have c10 := row_cell ((hC.bel.block t ht).trans HBLK.out) 994
      rw [trA_994] at c10
      have hci := iclone_own (.slice ac cn cc) cn cs wr (by
        have := H.out.chg.1
        rw [HCV.out] at this
        exact own_keep (row := none) this ⟨hC.bel.os, hC.bel.tape, hC.bel.output, hC.bel.size, fun j hj _ => hC.bel.block j hj⟩ (fun b _ e => by cases e)) (by omega)
      have HCI := hid hci
      have HC := hid hC
      clear hci hC
      go_upto_region 11 with (go_at_call 29; refine HCI.out.mono ?_; rintro e w1 ⟨v1, rfl, ho1, hb1⟩; have hC1 := HC.out.below hb1 3; have c11 := row_cell hC1.blk 994; rw [trA_994] at c11; have f11 := row_frozen hC1.blk 994; obtain ⟨a1, p1, rfl⟩ := row_form ho1; have HC1 := hid hC1; have HO1 := hid ho1; clear hC1 ho1)
      clear c10 c11 f11 HCI
      have hC2 := HC1.out.cset 994 (.slice a1 cn p1) (trA_set994 _ _ _ _ _ _ _)
      have hi2 := own_keep (HO1.out.mono (Nat.zero_le _)) (grown_set w1 c 994 (.slice a1 cn p1)) (fun b hb e => by
        cases e
        have e1 := (HO1.out.lt c hb).1
        have e2 := HC.out.hi.2.2.1
        omega)
      have hl2 : Lab (lab' wr LBk 3) 3 (.slice a1 cn p1) := fun b hb => lab'_new _ _ _ _ (HO1.out.lt b hb).1
      obtain ⟨W4, hW4⟩ : ∃ W, w1.setCell ⟨c, 994, none⟩ (.slice a1 cn p1) = W := ⟨_, rfl⟩
      rw [hW4] at hC2 hi2 ⊢
      have c12 := row_cell ((hC2.bel.block t ht).trans HBLK.out) 995
      rw [trA_995] at c12
      have hcb := bclone_own (.slice ai (ln 0) ci) (ln 0) ib W4 (by
        have := H.out.isc.1
        rw [HIV.out] at this
        exact own_keep (row := none) this ⟨hC2.bel.os, hC2.bel.tape, hC2.bel.output, hC2.bel.size, fun j hj _ => hC2.bel.block j hj⟩ (fun b _ e => by cases e)) (by have := HLN.out 0 (Nat.zero_le _); omega)
      have HCB := hid hcb
      have HC2 := hid hC2
      have HI2 := hid (And.intro hi2 hl2)
      clear hcb hC2 hi2 hl2 hW4 HC HC1 HO1
      generalize eL0 : ln 0 = L0 at c12 HCB
      have EL0 := hid eL0
      clear eL0
      go_upto_region 12 with (go_at_call 30; refine HCB.out.mono ?_; rintro e w5 ⟨v5, rfl, ho5, hb5⟩; have hC5 := HC2.out.below hb5 4; have c13 := row_cell hC5.blk 995; rw [trA_995] at c13; have f13 := row_frozen hC5.blk 995; obtain ⟨a5, p5, rfl⟩ := row_form ho5; have HC5 := hid hC5; have HO5 := hid ho5; clear hC5 ho5)
      clear c12 c13 f13 HCB
      have hC6 := HC5.out.cset 995 (.slice a5 L0 p5) (trA_set995 _ _ _ _ _ _ _)
      have hg6 := grown_set w5 c 995 (.slice a5 L0 p5)
      have hb6 := own_keep (HO5.out.mono (Nat.zero_le _)) hg6 (fun b hb e => by
        cases e
        have e1 := (HO5.out.lt c hb).1
        have e2 := HC2.out.hi.2.2.1
        omega)
      have hl6 : Lab (lab' W4 (lab' wr LBk 3) 4) 4 (.slice a5 L0 p5) := fun b hb => lab'_new _ _ _ _ (HO5.out.lt b hb).1
      have hne : ∀ b, (Value.slice a1 cn p1).ownBlock = some b → b ≠ c := fun b hb e => by
        have e1 := HI2.out.2 b hb
        have e2 := HC2.out.lc
        rw [e] at e1
        omega
      have hi6 := own_keep (own_keep (row := none) HI2.out.1 ⟨hb5.os, hb5.tape, hb5.output, hb5.size, fun j hj _ => hb5.block j hj⟩ (fun b _ e => by cases e)) hg6 (fun b hb e => hne b hb (by cases e; rfl))
      have hli6 : Lab (lab' W4 (lab' wr LBk 3) 4) 3 (.slice a1 cn p1) := Lab.more HI2.out.1 HI2.out.2 4
      have hne6 : ∀ b, (Value.slice a5 L0 p5).ownBlock = some b → b ≠ c := fun b hb e => by
        have e1 := hl6 b hb
        have e2 := HC5.out.lc
        rw [e] at e1
        omega
      obtain ⟨W6, hW6⟩ : ∃ W, w5.setCell ⟨c, 995, none⟩ (.slice a5 L0 p5) = W := ⟨_, rfl⟩
      rw [hW6] at hC6 hb6 hi6 ⊢
      have c14 := row_cell hC6.blk 996
      rw [trA_996] at c14
      have f14 := row_frozen hC6.blk 996
      have hC7 := hC6.cset 996 (.int .i64 0) (trA_set996 _ _ _ _ _ _ _)
      have hg7 := grown_set W6 c 996 (.int .i64 0)
      have hi7 := own_keep hi6 hg7 (fun b hb e => hne b hb (by cases e; rfl))
      have hb7 := own_keep hb6 hg7 (fun b hb e => hne6 b hb (by cases e; rfl))
      have H7 := hid (And.intro hC7 (And.intro hi7 (And.intro hb7 (And.intro hli6 hl6))))
      clear hC6 hC7 hi6 hi7 hb6 hb7 hg6 hg7 hli6 hl6 hne hne6 hW6 HC5 HO5 HI2 HC2 hb5
      go_wp2
      go_ret
      obtain ⟨q1, q2, q3, q4, q5⟩ := H7.out
      refine ⟨by rw [HEC.out]; rfl, q1.bel, _, R', rvk, .slice a1 cn p1, .slice a5 L0 p5, q1.old, ?_⟩
      rw [HEC.out]
      have e0 := EL0.out
      subst e0
      exact ⟨q1.lc, q1.lR, hdep, q1.blk, q1.rws, fun d hd => q1.row d (by omega), ⟨q2, q4⟩, ⟨q3, q5⟩⟩

theorem TT.copy {w : World} {LB : Nat → Nat} {B t n L : Nat} {f : Nat → Int} {cn : Nat} {hs : Int} (h : TT w LB B t n L f cn hs) :
    Calls Tryd.prog 13 #[.pointer (some ⟨t, 0, none⟩)] w fun e w' => e = .returned (.pointer (some ⟨w.heap.size, 0, none⟩)) ∧ Below w.heap.size w w' ∧ ∃ LB', (∀ k, k < w.heap.size → LB' k = 0) ∧ TT w' LB' B w.heap.size n L f cn 0 := by
  have hfew := h.few
  have hroom := h.room
  have hlim := h.lim
  obtain ⟨D, R, rv, ln, rf, cv, cs, iv, ib, N, g1, rfl, hf, h4, h5⟩ := h.has
  refine (tcopy h4 (fun d hd => ?_) (by omega)).mono ?_
  · by_cases h0 : d = 0
    · subst h0; omega
    · rw [h5.len d (by omega) hd]
      have := up_le N d
      have := h5.old
      omega
  · rintro e w' ⟨rfl, hb, LB', R', rv', cv', iv', h0, hT⟩
    have hsz := hb.size
    exact ⟨rfl, hb, LB', h0, fun k hk => h0 k (by omega), by omega, h.pos, h.lim, D, R', rv', ln, rf, cv', cs, iv', ib, N, g1, rfl, hf, hT, h5⟩

end Go.Proofs.YtjimdkpppgjokaaDoor
