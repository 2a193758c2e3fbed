/-
  What the reference's Cut answers.
-/
import Derived.Test.YtokbhcgooboocaaGreatDoorZaHp
namespace Go.Proofs.YtokbhcgooboocaaGreatDoor.Z
open Go.RowKit
set_option linter.unusedVariables false
set_option linter.unusedSimpArgs false

theorem infoI : (Tryz.prog.info? 3).map (fun i => (i.zero, i.size, i.bytes)) = some (some (.int .i64 0), 1, 8) := by kernel_rfl
theorem wpList_append_int (w : World) {ops : Array Oper} {rest : List Oper} {o : Oper} {a : Act} {Q : Exit → Act → World → Prop} (hgd : o.guard = none) (s x : Operand)
    (ho : o.op = .call { callee := .builtin .append, args := #[s, x], argTypes := #[61, 61] })
    (base : Nat) (v : Value) (n : Nat) (xs : List Value) (z : Value) (hz : z.oneCell' = true) (hs : a.eval s = v) (hown : w.ownsRow base 3 1 v n xs)
    (hx : a.eval x = .slice (some ⟨w.heap.size, 0, none⟩) 1 1) (hbd : n ≤ 1000000000000) (hbase : base ≤ w.heap.size)
    (h : ∀ v' w', w'.ownsRow base 3 1 v' (n + 1) (xs ++ [z]) → w.grownBy w' v.ownBlock → wpList Tryz.prog ops Q rest (a.put o.dst v') w') :
    wpList Tryz.prog ops Q (o :: rest) a (w.alloc (.cells #[z] 3)) := by
  obtain ⟨i, hi, hz0, hz1, hz2⟩ := info_parts infoI
  refine wpList_append_own _ hgd s x 61 ho base 3 i (.int .i64 0) 1 8 Tryz.underlying61 hi hz0 hz1 hz2 rfl (by decide) v n xs hs (hown.alloc _) ⟨w.heap.size, 0, none⟩ 1 1 [z] hx rfl (cell_one_new _ _ _)
    (fun u hu => by simp at hu; subst hu; exact hz) (by unfold maxLen; omega) (by omega) (by simp; omega) (fun v' w' h1 h2 _ => ?_)
  refine h v' w' h1 ⟨h2.os, h2.tape, h2.output, ?_, fun k hk hne => ?_⟩
  · have := h2.size
    simp at this
    omega
  · exact (h2.block k (by simp; omega) hne).trans (heap_old hk)
theorem owns_ints {w : World} {base : Nat} {v : Value} {n : Nat} {L : List Int} (h : w.ownsRow base 3 1 v n (L.map (Value.int .i64))) : n = L.length ∧ ∃ a C, v = .slice a n C ∧ Nms .i64 w a n (fun j => L.getD j 0) := by
  have hl : n = L.length := by have := h.1; rw [List.length_map] at this; omega
  refine ⟨hl, ?_⟩
  rcases h.2 with ⟨h1, h2⟩ | ⟨g, cap, cur, h1, h2, h3, h4, h5, h6, h7⟩
  · subst h2
    exact ⟨none, 0, h1, .inl rfl⟩
  · subst h1
    refine ⟨_, cap, rfl, .inr ⟨g, 0, rfl, (Array.getElem?_eq_some_iff.1 h3).1, fun j hj => ?_⟩⟩
    have := h.cells (g := g) rfl j (.int .i64 (L.getD j 0)) (by rw [List.getElem?_map, List.getElem?_eq_getElem (by omega), List.getD_eq_getElem?_getD, List.getElem?_eq_getElem (by omega)]; rfl)
    rw [addr_add] at this
    exact this
theorem own_bys {w : World} {B : Nat} {a : Option Addr} {n C : Nat} {m : Nat → Int} (h : w.ownsRow B 5 1 (.slice a n C) n (bl m n)) : Bys w a n C m := by
  rcases h.2 with ⟨h1, h0⟩ | ⟨g, cap, cur, h1, _⟩
  · cases h1
    exact .inl ⟨rfl, rfl, rfl⟩
  · cases h1
    obtain ⟨h2, h3, h4, h5, h6⟩ := own_cells h
    exact .inr (.inr ⟨g, 0, rfl, h4, h5, h3, fun j hj => by rw [Nat.zero_add]; exact h6 j hj⟩)
/-- Parts of the call's own, in a row of its own. -/
def PR (w : World) (B : Nat) (A : Nat → Option Addr) (L C : Nat → Nat) (f : Nat → Nat → Int) (r : Nat) (v : Value) : Prop :=
  w.ownsRow B 34 1 v r ((List.range r).map fun j => Value.slice (A j) (L j) (C j)) ∧ ∀ j, j < r → w.ownsRow B 5 1 (.slice (A j) (L j) (C j)) (L j) (bl (f j) (L j))
theorem PR.below {w w' : World} {B : Nat} {A : Nat → Option Addr} {L C : Nat → Nat} {f : Nat → Nat → Int} {r : Nat} {v : Value} (h : PR w B A L C f r v) (hb : Below w.heap.size w w') : PR w' B A L C f r v :=
  ⟨owns_below h.1 hb, fun j hj => owns_below (h.2 j hj) hb⟩
theorem owns_form {w : World} {B : Nat} {e : TypeId} {v : Value} {n : Nat} {xs : List Value} (h : w.ownsRow B e 1 v n xs) : ∃ a c, v = .slice a n c := by
  rcases h.2 with ⟨h1, h0⟩ | ⟨g, cap, cur, h1, _⟩
  · subst h0
    exact ⟨_, _, h1⟩
  · exact ⟨_, _, h1⟩
theorem owns_other {w w' : World} {B : Nat} {v u : Value} {n m : Nat} {xs ys : List Value} (h : w.ownsRow B 5 1 v n xs) (ho : w.ownsRow B 34 1 u m ys) (hg : w.grownBy w' u.ownBlock) : w'.ownsRow B 5 1 v n xs := by
  refine ownsRow_kept h fun g cur hc => hg.block g (Array.getElem?_eq_some_iff.1 hc).1 fun e => ?_
  rcases ho.2 with ⟨h1, _⟩ | ⟨g', cap, cur', h1, _, h3, _⟩
  · subst h1
    cases e
  · subst h1
    have e' : g = g' := by cases e; rfl
    subst e'
    rw [h3] at hc
    cases hc
theorem PR.step {w w' : World} {B : Nat} {A : Nat → Option Addr} {L C : Nat → Nat} {f : Nat → Nat → Int} {r : Nat} {v v' z : Value} (h : PR w B A L C f r v) (hz : w.ownsRow B 5 1 z (L r) (bl (f r) (L r)))
    (ho : w'.ownsRow B 34 1 v' (r + 1) (((List.range r).map fun j => Value.slice (A j) (L j) (C j)) ++ [z])) (hg : w.grownBy w' v.ownBlock) : ∃ A' C', PR w' B A' L C' f (r + 1) v' := by
  obtain ⟨a, c, rfl⟩ := owns_form hz
  refine ⟨fun j => if j = r then a else A j, fun j => if j = r then c else C j, ?_, fun j hj => ?_⟩
  · have e : ((List.range (r + 1)).map fun j => Value.slice (if j = r then a else A j) (L j) (if j = r then c else C j)) = ((List.range r).map fun j => Value.slice (A j) (L j) (C j)) ++ [.slice a (L r) c] := by
      rw [List.range_succ, List.map_append, List.map_cons, List.map_nil, if_pos rfl, if_pos rfl]
      congr 1
      refine List.map_congr_left fun j hj => ?_
      have := List.mem_range.1 hj
      rw [if_neg (by omega), if_neg (by omega)]
    rw [e]
    exact ho
  · dsimp only
    by_cases e : j = r
    · subst e
      rw [if_pos rfl, if_pos rfl]
      exact owns_other hz h.1 hg
    · rw [if_neg e, if_neg e]
      exact owns_other (h.2 j (by omega)) h.1 hg
theorem at_row {w : World} {B n N : Nat} {v : Value} {L : List Int} {x : Int} (hN : n + 1 = N) (h : w.ownsRow B 3 1 v (n + 1) (L.map (Value.int .i64) ++ [.int .i64 x])) : ∃ b off c, v = .slice (some ⟨b, off, none⟩) N c ∧ b < w.heap.size ∧ ∀ j, j < N → w.cell? ⟨b, off + j, none⟩ = some (.int .i64 ((L ++ [x]).getD j 0)) := by
  subst hN
  have h' : w.ownsRow B 3 1 v (n + 1) ((L ++ [x]).map (Value.int .i64)) := by rw [List.map_append]; exact h
  obtain ⟨_, a, C, hv, hn⟩ := owns_ints h'
  rcases hn with h | ⟨b, off, rfl, h2, h3⟩
  · omega
  · exact ⟨b, off, C, hv, h2, h3⟩
theorem at_loose {zs m : Nat → Int} {k len r : Nat} (hm : ∀ j, j < len → 0 ≤ m j ∧ m j < 256) (hhd : hdL zs k ≤ len) (hr : r < k) (h0 : zs r = 0) :
    (offL zs m k ++ [(len : Int)]).getD (zn zs r) 0 = ((cB zs (offN zs m k) r : Nat) : Int) ∧ (offL zs m k ++ [(len : Int)]).getD (zn zs r + 1) 0 = ((cE zs (offN zs m k) len (zn zs k) r : Nat) : Int) := by
  have hl : (offL zs m k).length = zn zs k := offL_zn zs m k
  have hz := zn_lt zs hr h0
  unfold cB cE endAt
  rw [if_pos h0, if_pos h0, List.getD_eq_getElem?_getD, List.getD_eq_getElem?_getD, List.getElem?_append_left (by omega), (offN_cast zs m len k _ hm hhd hz).1]
  refine ⟨rfl, ?_⟩
  by_cases h1 : zn zs r + 1 < zn zs k
  · rw [if_pos h1, List.getElem?_append_left (by omega), (offN_cast zs m len k _ hm hhd h1).1]
    rfl
  · rw [if_neg h1, List.getElem?_append_right (by omega), show zn zs r + 1 - (offL zs m k).length = 0 by omega]
    rfl
theorem below_new {w w' : World} {x : Obj} (hg : (w.alloc x).grownBy w' (some w.heap.size)) : Below w.heap.size w w' :=
  ⟨hg.os, hg.tape, hg.output, by have := hg.size; simp at this; omega, fun k hk => (hg.block k (by simp; omega) (by simp; omega)).trans (heap_old hk)⟩
theorem wp_append_new (w : World) {o : Oper} {a : Act} {K : Act → World → Prop} {Q : Exit → Act → World → Prop} (s x : Operand)
    (ho : o.op = .call { callee := .builtin .append, args := #[s, x], argTypes := #[34, 34] })
    (base : Nat) (v : Value) (n : Nat) (xs : List Value) (hs : a.eval s = v) (hown : w.ownsRow base 5 1 v n xs)
    (ad : Addr) (len cap : Nat) (m : Nat → Int) (hx : a.eval x = .slice (some ad) len cap) (hb : Bys w (some ad) len cap m) (hbd : n + len ≤ 140737488355328) (hbase : base ≤ w.heap.size)
    (h : ∀ v' w', w'.ownsRow base 5 1 v' (n + len) (xs ++ bl m len) → w.grownBy w' v.ownBlock → K (a.put o.dst v') w') : o.wp Tryz.prog a w K Q := by
  obtain ⟨i, hi, hz0, hz1, hz2⟩ := info_parts info8
  rcases hb with ⟨e, _⟩ | ⟨x0, e, rfl⟩ | ⟨b, off, e, hlc, hcm, hbl, hc⟩
  · cases e
  · exact wp_append_own w s x 34 ho base 5 i (.int .u8 0) 1 1 Tryz.underlying34 hi hz0 hz1 hz2 rfl (by decide) v n xs hs hown ad 0 cap (bl m 0) hx (by rw [bl_len])
      (fun j u hj => by
        have := (bl_get m 0 j u hj).1
        omega) (bl_one m 0) (by unfold maxLen; omega) (by omega) hbase (fun v' w' h1 h2 _ => h v' w' h1 h2)
  · cases e
    exact wp_append_own w s x 34 ho base 5 i (.int .u8 0) 1 1 Tryz.underlying34 hi hz0 hz1 hz2 rfl (by decide) v n xs hs hown ⟨b, off, none⟩ len cap (bl m len) hx (by rw [bl_len]; omega)
      (fun j u hj => by
        obtain ⟨h1, rfl⟩ := bl_get m len j u hj
        rw [addr_add]
        exact hc j h1) (bl_one m len) (by unfold maxLen; omega) (by omega) hbase (fun v' w' h1 h2 _ => h v' w' h1 h2)
theorem wp_append_part (w : World) {o : Oper} {a : Act} {K : Act → World → Prop} {Q : Exit → Act → World → Prop} (s x : Operand)
    (ho : o.op = .call { callee := .builtin .append, args := #[s, x], argTypes := #[60, 60] })
    (base : Nat) (v : Value) (n : Nat) (xs : List Value) (z : Value) (hz : z.oneCell' = true) (hs : a.eval s = v) (hown : w.ownsRow base 34 1 v n xs)
    (hx : a.eval x = .slice (some ⟨w.heap.size, 0, none⟩) 1 1) (hbd : n ≤ 1000000000000) (hbase : base ≤ w.heap.size)
    (h : ∀ v' w', w'.ownsRow base 34 1 v' (n + 1) (xs ++ [z]) → w.grownBy w' v.ownBlock → K (a.put o.dst v') w') : o.wp Tryz.prog a (w.alloc (.cells #[z] 34)) K Q := by
  obtain ⟨i, hi, hz0, hz1, hz2⟩ := info_parts info22'
  refine wp_append_own _ s x 60 ho base 34 i (.slice none 0 0) 1 24 Tryz.underlying60 hi hz0 hz1 hz2 rfl (by decide) v n xs hs (hown.alloc _) ⟨w.heap.size, 0, none⟩ 1 1 [z] hx rfl (cell_one_new _ _ _)
    (fun u hu => by simp at hu; subst hu; exact hz) (by unfold maxLen; omega) (by omega) (by simp; omega) (fun v' w' h1 h2 _ => ?_)
  refine h v' w' h1 ⟨h2.os, h2.tape, h2.output, ?_, fun k hk hne => ?_⟩
  · have := h2.size
    simp at this
    omega
  · exact (h2.block k (by simp; omega) hne).trans (heap_old hk)
/-- Parts that lie behind B. -/
def Fr (B : Nat) (A : Nat → Option Addr) (N : Nat) : Prop := ∀ r, r < N → ∀ b o, A r = some ⟨b, o, none⟩ → B ≤ b
theorem fr_owns {w : World} {B n : Nat} {a : Option Addr} {c : Nat} {xs : List Value} (h : w.ownsRow B 5 1 (.slice a n c) n xs) (b o : Nat) (e : a = some ⟨b, o, none⟩) : B ≤ b := by
  subst e
  rcases h.2 with ⟨h1, _⟩ | ⟨g, cap, cur, h1, h2, _⟩
  · cases h1
  · cases h1
    exact h2
/-- The same, and the parts are new. -/
def RAnsF (zs m : Nat → Int) (n len : Nat) (w : World) (e : Ending) (w' : World) : Prop :=
  ∃ a' N' c' A' C', e = .returned (.tuple #[.slice a' N' c', .int .i64 (cutE zs m n len)]) ∧ N' = (if cutE zs m n len = 0 then n else 0) ∧ Parts w' a' N' A' (cLn zs m n len) C' (cFn zs m n) ∧ Below w.heap.size w w' ∧ Fr w.heap.size A' N'
theorem rans_none {zs m : Nat → Int} {n len : Nat} {w w' : World} {E : Int} (hE : cutE zs m n len = E) (h0 : E ≠ 0) (hb : Below w.heap.size w w') : RAnsF zs m n len w (.returned (.tuple #[.slice none 0 0, .int .i64 E])) w' :=
  ⟨none, 0, 0, fun _ => none, fun _ => 0, by rw [hE], by rw [hE, if_neg h0], .inl rfl, hb, fun r hr => absurd hr (by omega)⟩
theorem ris_ord {os : Nat → Nat} {hd len nz : Nat} (hz : 0 < nz) : risB (fun i => (os i : Int)) hd len nz = true ↔ (os 0 = hd ∧ ordB (fun i => (os i : Int)) len nz = true) := by
  constructor
  · intro h
    have h' := risB_out h
    have h0 := h' 0 hz
    unfold risAt at h0
    rw [if_pos rfl] at h0
    dsimp only at h0
    refine ⟨by omega, ordB_true fun i hi => ?_⟩
    have hi' := h' i hi
    unfold risAt at hi'
    unfold ordAt
    dsimp only at hi' ⊢
    by_cases e : i = 0
    · rw [if_pos e]
      omega
    · rw [if_neg e] at hi' ⊢
      exact hi'
  · rintro ⟨h1, h2⟩
    refine risB_true fun i hi => ?_
    have h' := ordB_out h2 i hi
    unfold ordAt at h'
    unfold risAt
    dsimp only at h' ⊢
    by_cases e : i = 0
    · rw [if_pos e]
      subst e
      omega
    · rw [if_neg e] at h' ⊢
      exact h'

set_option maxRecDepth 20000 in
set_option maxHeartbeats 1000000 in
theorem rcut_arg (zs m : Nat → Int) (ao : Option Addr) (len cap : Nat) (sa : Option Addr) (n sc : Nat) (w : World) (hn : Nms .i64 w sa n zs) (hnb : n ≤ 9223372036854775807) (hsz : szB zs n = false) :
    Calls Tryz.prog 40 #[.slice ao len cap, .slice sa n sc] w (RAnsF zs m n len w) := by
  have hsi := rsizes_any zs sa n sc w hn hnb
  rw [hsz] at hsi
  have HSI := hid hsi
  have HE : Hid (cutE zs m n len = 1) := by show cutE zs m n len = 1; unfold cutE; rw [if_pos hsz]
  clear hsi hn hsz
  go_enter Tryz.func40, Tryz.ntmps40
  go_wp2_with (go_at_call 68; refine HSI.out.mono ?_; rintro e w1 ⟨rfl, rfl⟩)
  go_ret2
  exact rans_none HE.out (by decide) (Below.refl _ _)
set_option maxRecDepth 20000 in
set_option maxHeartbeats 1000000 in
theorem rcut_short (zs m : Nat → Int) (ao : Option Addr) (len cap : Nat) (sa : Option Addr) (n sc : Nat) (w : World) (hn : Nms .i64 w sa n zs) (hsz : szB zs n = true) (hhd : len < hdL zs n) :
    Calls Tryz.prog 40 #[.slice ao len cap, .slice sa n sc] w (RAnsF zs m n len w) := by
  obtain ⟨hn1, hnb, hok⟩ := szB_out hsz
  have hsi := rsizes_any zs sa n sc w hn (by omega)
  have hhl := rhead_any zs sa n sc w hn hn1 hnb hok
  rw [hsz] at hsi
  have HSI := hid hsi
  have HE : Hid (cutE zs m n len = 4) := by show cutE zs m n len = 4; unfold cutE; rw [if_neg (by rw [hsz]; simp), if_pos hhd]
  obtain ⟨S, eS⟩ : ∃ S, hdL zs n = S := ⟨_, rfl⟩
  rw [eS] at hhl hhd
  have HHL := hid hhl
  have s1 : (len : Int) < (S : Int) := by omega
  clear hsi hn hsz hhl hok eS hhd
  go_enter Tryz.func40, Tryz.ntmps40
  go_wp2_with (first
    | (go_at_call 68; refine HSI.out.mono ?_; rintro e w1 ⟨rfl, hw1⟩; obtain rfl := hw1.symm)
    | (go_at_call 69; refine HHL.out.mono ?_; rintro e w2 ⟨rfl, hw2⟩; obtain rfl := hw2.symm))
  go_ret2
  exact rans_none HE.out (by decide) (Below.refl _ _)

attribute [local go_sem ↓] sl22_eq

set_option maxRecDepth 20000 in
set_option maxHeartbeats 2000000 in
theorem rcut_main (zs m : Nat → Int) (ao : Option Addr) (len cap : Nat) (sa : Option Addr) (n sc : Nat) (w : World) (hb : Bys w ao len cap m) (hm : ∀ j, 0 ≤ m j ∧ m j < 256) (hlen : len ≤ 140737488351232) (hlc : len ≤ cap) (hcap : cap ≤ 9223372036854775807) (hn : Nms .i64 w sa n zs) (hsz : szB zs n = true) (hhd : hdL zs n ≤ len) :
    Calls Tryz.prog 40 #[.slice ao len cap, .slice sa n sc] w (RAnsF zs m n len w) := by
  obtain ⟨hn1, hnb, hok⟩ := szB_out hsz
  have hsi := rsizes_any zs sa n sc w hn (by omega)
  have hhl := rhead_any zs sa n sc w hn hn1 hnb hok
  rw [hsz] at hsi
  have HSI := hid hsi
  have h1len : 1 ≤ len := by
    have h1 := hdL_mono zs (i := 1) (j := n) hn1
    have h2 := inH_bd (hok 0 (by omega))
    have h3 : hdL zs 1 = 0 + inH (zs 0) := rfl
    omega
  obtain ⟨b0, off0, rfl, _, _, hb0, hcell⟩ := bys_pos hb (by omega)
  have HCE := hid hcell
  have HBY : Hid (∀ W, Below w.heap.size w W → Bys W (some ⟨b0, off0, none⟩) len cap m) := fun W hW => hb.below hW
  have HN : Hid (∀ W, Below w.heap.size w W → ∀ k, k < n → ∃ b off, sa = some ⟨b, off, none⟩ ∧ W.cell? ⟨b, off + k, none⟩ = some (.int .i64 (zs k))) := by
    intro W hW k hk
    rcases hn.below hW with h | ⟨b, off, h1, h2, h3⟩
    · omega
    · exact ⟨b, off, h1, h3 k hk⟩
  obtain ⟨S, eS⟩ : ∃ S, hdL zs n = S := ⟨_, rfl⟩
  rw [eS] at hhl hhd
  have HHL := hid hhl
  have s1 : ¬ (len : Int) < (S : Int) := by omega
  have s3 : decide (len < S) = false := decide_eq_false (by omega)
  have s4 : decide ((len : Int) < (S : Int)) = false := decide_eq_false s1
  have s2 : (len : Int) ≤ 140737488351232 := by omega
  have ES := hid eS
  have HM := hid hm
  have HOK := hid hok
  have HSZ := hid hsz
  have H0 := hid hn
  have HB0 := hid hb0
  clear hsi hn hsz hhl hok eS hb hcell hm hb0
  go_enter Tryz.func40, Tryz.ntmps40
  go_wp2_with (first
    | (go_at_call 68; refine HSI.out.mono ?_; rintro e w1 ⟨rfl, hw1⟩; obtain rfl := hw1.symm)
    | (go_at_call 69; refine HHL.out.mono ?_; rintro e w2 ⟨rfl, hw2⟩; obtain rfl := hw2.symm))
  go_loopw [7, 8, 9] (fun v o i wr => ∃ k : Nat, k ≤ n ∧ i = .int .i64 k ∧ o = .int .i64 ((hdL zs k : Nat) : Int) ∧ wr.ownsRow w.heap.size 3 1 v (zn zs k) ((offL zs m k).map (Value.int .i64)) ∧ Below w.heap.size w wr) (fun _ _ i _ => n - (intOf i).toNat)
  case atStart => exact ⟨0, by omega, rfl, rfl, World.ownsRow_nil _ _ _ _, Below.refl _ _⟩
  case round =>
    obtain ⟨k, hk, rfl, rfl, hown, hb⟩ := hrel
    by_cases hkn : k < n
    · obtain ⟨b2, o2, rfl, c2⟩ := HN.out _ hb k hkn
      have hz := hb.size
      have hokk := HOK.out k hkn
      have hi1 := inH_bd hokk
      unfold okS at hokk
      obtain ⟨hx1, hx2⟩ := hokk
      have hmo := hdL_mono zs (i := k + 1) (j := n) (by omega)
      have hsucc : hdL zs (k + 1) = hdL zs k + inH (zs k) := rfl
      have hS := ES.out
      have hznk := zn_le zs k
      have hol : offL zs m (k + 1) = offL zs m k ++ (if zs k = 0 then [o4 m (hdL zs k)] else []) := rfl
      obtain ⟨z, ez⟩ : ∃ z, zs k = z := ⟨_, rfl⟩
      obtain ⟨K, eK⟩ : ∃ K, hdL zs k = K := ⟨_, rfl⟩
      rw [ez] at c2 hx1 hx2 hsucc hi1 hol
      rw [eK] at hsucc hol ⊢
      have k1 : (k : Int) < (n : Int) := by omega
      have k2 : (0 : Int) ≤ (k : Int) := by omega
      have HB := hid hb
      have HO := hid hown
      have EZ := hid ez
      by_cases h0 : z = 0
      · subst h0
        rw [if_pos rfl] at hol
        have e4 : inH 0 = 4 := rfl
        rw [e4] at hsucc
        have q1 : (K : Int) + 4 ≤ (len : Int) := by omega
        have q2 : (0 : Int) ≤ (K : Int) := by omega
        have q3 : (K : Int) ≤ 140737488351232 := by omega
        have sl := fun W => sl22_run W (some ⟨b0, off0, none⟩) len cap K (K + 4) (some (.int .i64 K)) (some (.int .i64 ((K + 4 : Nat) : Int))) (.inl rfl) (.inl rfl) (by omega) (by omega) hlc
        rw [if_neg (by omega), Option.map_some, addr_add, show K + 4 - K = 4 by omega, show ((K + 4 : Nat) : Int) = (K : Int) + 4 by omega] at sl
        have ro := roff_any (fun j => m (K + j)) b0 (off0 + K) 4 (cap - K) wr (fun j hj => by rw [Nat.add_assoc]; exact (below_cell hb HB0.out).trans (HCE.out _ (by omega))) (fun j _ => HM.out _) (by omega)
        have eo : o4 (fun j => m (K + j)) 0 = o4 m K := by unfold o4; simp only [Nat.zero_add, Nat.add_zero, Nat.add_assoc]
        rw [eo] at ro
        obtain ⟨X, eX⟩ : ∃ X, o4 m K = X := ⟨_, rfl⟩
        rw [eX] at ro hol
        have HRO := hid ro
        have E : Hid (zn zs (k + 1) = zn zs k + 1 ∧ offL zs m (k + 1) = offL zs m k ++ [X] ∧ hdL zs (k + 1) = K + 4) := ⟨(zn_succ zs k).1 ez, hol, hsucc⟩
        clear hsucc hmo hS hol e4 ro eo eX eK ez hown hb hi1 hx1 hx2
        go_wp2_with (first
          | (go_at_call 83; refine HRO.out.mono ?_; rintro e w3 ⟨rfl, hb3⟩; have HB3 := hid (HB.out.trans (hb3.mono hz)); have HO3 := hid (owns_below HO.out hb3); have hz3 := HB3.out.size; clear hb3)
          | (at_builtin; refine wpList_append_int w3 rfl _ _ rfl w.heap.size u7 (zn zs k) _ (.int .i64 X) rfl rfl HO3.out rfl (by omega) hz3 ?_; intro v5 w5 ho5 hg5; have HB5 := hid (below_grown HB3.out HO3.out hz3 hg5); have HO5 := hid ho5; obtain ⟨b2', o2', e2', c5⟩ := HN.out _ HB5.out k hkn; cases e2'; rw [EZ.out] at c5; clear ho5 hg5))
        go_roundw
        case rel =>
          obtain ⟨e1, e2, e3⟩ := E.out
          refine ⟨k + 1, by omega, by go_num, by rw [e3]; go_num, ?_, HB5.out⟩
          rw [e1, e2, List.map_append]
          exact HO5.out
        case measure => simp [intOf]; omega
      · rw [if_neg h0] at hol
        have ei : inH z = z.toNat := by unfold inH; rw [if_neg h0]
        rw [ei] at hsucc
        have q2 : (0 : Int) ≤ (K : Int) := by omega
        have q3 : (K : Int) ≤ 140737488351232 := by omega
        obtain ⟨K2, eK2⟩ : ∃ K2, K + z.toNat = K2 := ⟨_, rfl⟩
        have q4 : (K : Int) + z = (K2 : Int) := by omega
        have q5 : (z == 0) = false := by rw [beq_eq_false_iff_ne]; exact h0
        have E : Hid (zn zs (k + 1) = zn zs k ∧ offL zs m (k + 1) = offL zs m k ∧ hdL zs (k + 1) = K2) := ⟨(zn_succ zs k).2 (by rw [ez]; exact h0), by rw [hol, List.append_nil], by rw [hsucc]; exact eK2⟩
        clear hsucc hmo hS hol ei eK eK2 ez hown hb hi1 h0
        go_wp2
        go_roundw
        case rel =>
          obtain ⟨e1, e2, e3⟩ := E.out
          refine ⟨k + 1, by omega, by go_num, by rw [e3], ?_, HB.out⟩
          rw [e1, e2]
          exact HO.out
        case measure => simp [intOf]; omega
    · have ek : k = n := by omega
      subst ek
      obtain ⟨hl, va, vc, hv, hnm⟩ := owns_ints hown
      subst hv
      have hm' : ∀ j, j < len → 0 ≤ m j ∧ m j < 256 := fun j _ => HM.out j
      have hcast := fun i hi => offN_cast zs m len k i hm' (by rw [ES.out]; exact hhd) hi
      have hos : ∀ i, i < zn zs k → (offL zs m k).getD i 0 = ((offN zs m k i : Nat) : Int) := fun i hi => by rw [List.getD_eq_getElem?_getD, (hcast i hi).1]; rfl
      have hnm' : Nms .i64 wr va (zn zs k) (fun i => ((offN zs m k i : Nat) : Int)) := by
        rcases hnm with h | ⟨b, off, h1, h2, h3⟩
        · exact .inl h
        · exact .inr ⟨b, off, h1, h2, fun j hj => by show wr.cell? _ = some (Value.int IntKind.i64 ((offN zs m k j : Nat) : Int)); rw [← hos j hj]; exact h3 j hj⟩
      have hznk := zn_le zs k
      have hri := rises_any (fun i => ((offN zs m k i : Nat) : Int)) va (zn zs k) vc S len wr hnm' (by omega)
      have hS := ES.out
      by_cases h3 : zn zs k = 0 ∧ S < len
      · have HE : Hid (cutE zs m k len = 4) := by show cutE zs m k len = 4; unfold cutE; rw [if_neg (by rw [HSZ.out]; simp), if_neg (by omega), if_pos (by rw [hS]; exact h3)]
        obtain ⟨g1, g2⟩ := h3
        rw [g1]
        have g3 : ((len : Int) != (S : Int)) = true := by rw [bne_iff_ne]; omega
        have HB := hid hb
        clear hl hnm hm' hcast hos hnm' hznk hri hS g1 g2 hown hb
        generalize hdL zs k = K
        go_wp2
        go_ret2
        exact rans_none HE.out (by decide) HB.out
      · by_cases h4 : risB (fun i => ((offN zs m k i : Nat) : Int)) S len (zn zs k) = true
        · have HE : Hid (cutE zs m k len = 0) := by
            show cutE zs m k len = 0
            unfold cutE
            rw [if_neg (by rw [HSZ.out]; simp), if_neg (by omega), if_neg (by rw [hS]; exact h3)]
            rcases Nat.eq_zero_or_pos (zn zs k) with e | e
            · rw [if_neg (by omega), e]
              rfl
            · obtain ⟨g1, g2⟩ := (ris_ord e).1 h4
              rw [if_neg (by rintro ⟨_, h⟩; exact h (g1.trans hS.symm)), if_neg (by rw [g2]; simp)]
          have hbd := fun r hr => cut_bounds (cutE_ok HE.out) r hr
          have HBD := hid hbd
          have hat := fun r (hr : r < k) (h0 : zs r = 0) => at_loose (m := m) (len := len) hm' (by rw [hS]; exact hhd) hr h0
          have HAT := hid hat
          rw [h4] at hri
          obtain ⟨Z, eZ⟩ : ∃ Z, zn zs k = Z := ⟨_, rfl⟩
          rw [eZ] at hri hown h3 hznk ⊢
          have EZK := hid eZ
          have hz := hb.size
          have HB := hid hb
          clear hl hnm hm' hcast hos hnm' hS hb h4 eZ hbd hat
          generalize hdL zs k = K
          by_cases hZ : Z = 0
          · subst hZ
            have z0 : ((len : Int) != (S : Int)) = false := by rw [bne_eq_false_iff_eq]; omega
            have HRI := hid hri
            have HO := hid hown
            clear hri hown h3
            obtain ⟨Z1, eZ1⟩ : ∃ Z1, 0 + 1 = Z1 := ⟨_, rfl⟩
            have E1 := hid eZ1
            clear eZ1
            go_wp2_with (first
              | (go_at_call 84; refine HRI.out.mono ?_; rintro e w3 ⟨rfl, hb3⟩; have HB3 := hid (HB.out.trans (hb3.mono hz)); have HO3 := hid (owns_below HO.out hb3); have hz3 := HB3.out.size; clear hb3)
              | (at_builtin; refine wpList_append_int w3 rfl _ _ rfl w.heap.size (.slice va 0 vc) 0 _ (.int .i64 len) rfl rfl HO3.out rfl (by omega) hz3 ?_; intro v5 w5 ho5 hg5; have HB5 := hid (below_grown HB3.out HO3.out hz3 hg5); obtain ⟨b5, o5, c5, rfl, hb5, hc5⟩ := at_row E1.out ho5; have HC5 := hid hc5; have HL5 := hid hb5; clear ho5 hg5 hc5 hb5))
            have hz5 := HB5.out.size
            go_loopw [8, 10, 11, 12] (fun o out v i wr => ∃ r : Nat, r ≤ k ∧ i = .int .i64 r ∧ o = .int .i64 ((hdL zs r : Nat) : Int) ∧ v = .int .i64 ((zn zs r : Nat) : Int) ∧ (∃ A C, PR wr w5.heap.size A (cLn zs m k len) C (cFn zs m k) r out) ∧ Below w5.heap.size w5 wr) (fun _ _ _ i _ => k - (intOf i).toNat)
            case atStart => exact ⟨0, by omega, rfl, rfl, rfl, ⟨fun _ => none, fun _ => 0, World.ownsRow_nil _ _ _ _, fun j hj => absurd hj (by omega)⟩, Below.refl _ _⟩
            case round =>
              obtain ⟨r, hr, rfl, rfl, rfl, ⟨A, C, hpr⟩, hbr⟩ := hrel
              have hzr := hbr.size
              have hbw := HB5.out.trans (hbr.mono hz5)
              by_cases hrk : r < k
              · obtain ⟨b2, o2, rfl, c2⟩ := HN.out _ hbw r hrk
                have hokk := HOK.out r hrk
                have hi1 := inH_bd hokk
                unfold okS at hokk
                obtain ⟨hx1, hx2⟩ := hokk
                have hmo := hdL_mono zs (i := r + 1) (j := k) (by omega)
                have hsucc : hdL zs (r + 1) = hdL zs r + inH (zs r) := rfl
                have hS := ES.out
                obtain ⟨hd1, hd2⟩ := HBD.out r hrk
                have hcl : cLn zs m k len r = cE zs (offN zs m k) len (zn zs k) r - cB zs (offN zs m k) r := rfl
                have hcf : cFn zs m k r = fun j => m (cB zs (offN zs m k) r + j) := rfl
                obtain ⟨P, eP⟩ : ∃ P, cB zs (offN zs m k) r = P := ⟨_, rfl⟩
                obtain ⟨Q, eQ⟩ : ∃ Q, cE zs (offN zs m k) len (zn zs k) r = Q := ⟨_, rfl⟩
                rw [eP] at hd1 hcl hcf
                rw [eQ] at hd1 hd2 hcl
                obtain ⟨l, el⟩ : ∃ l, Q - P = l := ⟨_, rfl⟩
                obtain ⟨c1, ec⟩ : ∃ c1, cap - P = c1 := ⟨_, rfl⟩
                obtain ⟨ad, had⟩ : ∃ ad, (if cap = P then some (⟨b0, off0, none⟩ : Addr) else Option.map (fun x : Addr => x.add P) (some ⟨b0, off0, none⟩)) = some ad := by
                  by_cases h : cap = P
                  · exact ⟨_, if_pos h⟩
                  · exact ⟨_, if_neg h⟩
                have sl := fun W => sl22_run W (some ⟨b0, off0, none⟩) len cap P Q (some (.int .i64 P)) (some (.int .i64 Q)) (.inl rfl) (.inl rfl) hd1 hd2 hlc
                have bp := bys_part (HBY.out _ hbw) P Q hd1 hd2
                rw [had, el, ec] at bp
                rw [had, el, ec] at sl
                rw [el] at hcl
                have HL := hid hcl
                have HF := hid hcf
                have hl1 : l ≤ 140737488351232 := by omega
                have HBP := hid bp
                have HPR := hid hpr
                have HBR := hid hbr
                by_cases h0 : zs r = 0
                · have hzl := zn_lt zs hrk h0
                  rw [EZK.out] at hzl
                  exact absurd hzl (by omega)
                · have eP' : cB zs (offN zs m k) r = hdL zs r := by unfold cB; rw [if_neg h0]
                  have eQ' : cE zs (offN zs m k) len (zn zs k) r = hdL zs r + (zs r).toNat := by unfold cE; rw [if_neg h0]
                  have E3 : Hid (hdL zs (r + 1) = Q ∧ zn zs (r + 1) = zn zs r) := ⟨by rw [hsucc, ← eQ, eQ']; unfold inH; rw [if_neg h0], (zn_succ zs r).2 h0⟩
                  rw [eP] at eP'
                  rw [eQ] at eQ'
                  obtain ⟨z, ez⟩ : ∃ z, zs r = z := ⟨_, rfl⟩
                  have EZ := hid ez
                  rw [ez] at c2 hx1 hx2 h0 eQ'
                  rw [← eP'] at eQ' ⊢
                  have q1 : (P : Int) + z = (Q : Int) := by omega
                  have q2 : (0 : Int) ≤ (P : Int) := by omega
                  have q3 : (Q : Int) ≤ 140737488351232 := by omega
                  have q5 : (z == 0) = false := by rw [beq_eq_false_iff_ne]; exact h0
                  have q6 : (P : Int) ≤ (Q : Int) := by omega
                  have q7 : (Q : Int) ≤ (len : Int) := by omega
                  have k1 : (r : Int) < (k : Int) := by omega
                  have k2 : (0 : Int) ≤ (r : Int) := by omega
                  obtain ⟨b2', o2', e2', c2a⟩ := HN.out _ (hbw.alloc (by omega) (.cells #[] 5)) r hrk
                  cases e2'
                  rw [EZ.out] at c2a
                  have HNEW := hid (World.ownsRow_lit (base := w5.heap.size) (e := 5) (size := 1) wr #[] 0 hzr (by decide) rfl)
                  have HBA := hid (bp.below ((Below.refl wr.heap.size wr).alloc (Nat.le_refl _) (.cells #[] 5)))
                  clear hi1 hmo hsucc hS hcl hcf eP eQ el ec had bp hpr hbr hbw eP' eQ' ez h0 hd1 hd2
                  generalize zn zs r = V at E3 ⊢
                  go_wp2_with (first
                    | (at_builtin; refine wpList_append_part w3 rfl _ _ rfl w5.heap.size u10 r _ (.slice a3 l c3) rfl rfl HPR3.out.1 rfl (by omega) hz3 ?_; intro v6 w6 ho6 hg6; have HB6 := hid (below_grown (HBR.out.trans (HB3.out.mono hzr)) HPR3.out.1 hz3 hg6); obtain ⟨A', C', hpr6⟩ := PR.step HPR3.out HZ3.out ho6 hg6; have HPR6 := hid hpr6; obtain ⟨b2', o2', e2', c6⟩ := HN.out _ (HB5.out.trans (HB6.out.mono hz5)) r hrk; cases e2'; rw [EZ.out] at c6; clear ho6 hg6 hpr6)
                    | (at_builtin; refine wpList_append_bys _ rfl _ _ rfl w5.heap.size (.slice (some ⟨wr.heap.size, 0, none⟩) 0 0) 0 [] rfl HNEW.out (some ad) l c1 (fun j => m (P + j)) rfl HBA.out (by omega) (by simp; omega) ?_; intro v3 w3 ho3 hg3; have HB3 := hid (below_new hg3); rw [Nat.zero_add, List.nil_append] at ho3; obtain ⟨a3, c3, rfl⟩ := owns_form ho3; have HZ3 : Hid (w3.ownsRow w5.heap.size 5 1 (.slice a3 l c3) (cLn zs m k len r) (bl (cFn zs m k r) (cLn zs m k len r))) := (by rw [HL.out, HF.out]; exact ho3); have HPR3 := hid (HPR.out.below HB3.out); have hz3 := Nat.le_trans hzr HB3.out.size; clear ho3 hg3))
                  go_roundw
                  case rel =>
                    obtain ⟨e1, e2⟩ := E3.out
                    exact ⟨r + 1, by omega, by go_num, by rw [e1], by rw [e2], ⟨A', C', HPR6.out⟩, HB6.out⟩
                  case measure => simp [intOf]; omega
              · have er : r = k := by omega
                subst er
                obtain ⟨a', c', hv, hP, _⟩ := owns_parts hpr.1 (fun j hj => own_bys (hpr.2 j hj))
                subst hv
                have HP := hid hP
                have HBF := hid hbw
                have HFR : Hid (Fr w.heap.size A r) := fun j hj b o e => Nat.le_trans hz5 (fr_owns (hpr.2 j hj) b o e)
                clear hP hpr hbr hbw
                generalize hdL zs r = P
                generalize zn zs r = V
                go_wp2
                go_ret2
                exact ⟨a', r, c', A, C, by rw [HE.out]; rfl, by rw [HE.out, if_pos rfl], HP.out, HBF.out, HFR.out⟩
          · have z0 : ((Z : Int) == 0) = false := by rw [beq_eq_false_iff_ne]; omega
            have z1 : (Z == 0) = false := by rw [beq_eq_false_iff_ne]; omega
            have HRI := hid hri
            have HO := hid hown
            clear hri hown h3
            obtain ⟨Z1, eZ1⟩ : ∃ Z1, Z + 1 = Z1 := ⟨_, rfl⟩
            have E1 := hid eZ1
            clear eZ1
            go_wp2_with (first
              | (go_at_call 84; refine HRI.out.mono ?_; rintro e w3 ⟨rfl, hb3⟩; have HB3 := hid (HB.out.trans (hb3.mono hz)); have HO3 := hid (owns_below HO.out hb3); have hz3 := HB3.out.size; clear hb3)
              | (at_builtin; refine wpList_append_int w3 rfl _ _ rfl w.heap.size (.slice va Z vc) Z _ (.int .i64 len) rfl rfl HO3.out rfl (by omega) hz3 ?_; intro v5 w5 ho5 hg5; have HB5 := hid (below_grown HB3.out HO3.out hz3 hg5); obtain ⟨b5, o5, c5, rfl, hb5, hc5⟩ := at_row E1.out ho5; have HC5 := hid hc5; have HL5 := hid hb5; clear ho5 hg5 hc5 hb5))
            have hz5 := HB5.out.size
            go_loopw [8, 10, 11, 12] (fun o out v i wr => ∃ r : Nat, r ≤ k ∧ i = .int .i64 r ∧ o = .int .i64 ((hdL zs r : Nat) : Int) ∧ v = .int .i64 ((zn zs r : Nat) : Int) ∧ (∃ A C, PR wr w5.heap.size A (cLn zs m k len) C (cFn zs m k) r out) ∧ Below w5.heap.size w5 wr) (fun _ _ _ i _ => k - (intOf i).toNat)
            case atStart => exact ⟨0, by omega, rfl, rfl, rfl, ⟨fun _ => none, fun _ => 0, World.ownsRow_nil _ _ _ _, fun j hj => absurd hj (by omega)⟩, Below.refl _ _⟩
            case round =>
              obtain ⟨r, hr, rfl, rfl, rfl, ⟨A, C, hpr⟩, hbr⟩ := hrel
              have hzr := hbr.size
              have hbw := HB5.out.trans (hbr.mono hz5)
              by_cases hrk : r < k
              · obtain ⟨b2, o2, rfl, c2⟩ := HN.out _ hbw r hrk
                have hokk := HOK.out r hrk
                have hi1 := inH_bd hokk
                unfold okS at hokk
                obtain ⟨hx1, hx2⟩ := hokk
                have hmo := hdL_mono zs (i := r + 1) (j := k) (by omega)
                have hsucc : hdL zs (r + 1) = hdL zs r + inH (zs r) := rfl
                have hS := ES.out
                obtain ⟨hd1, hd2⟩ := HBD.out r hrk
                have hcl : cLn zs m k len r = cE zs (offN zs m k) len (zn zs k) r - cB zs (offN zs m k) r := rfl
                have hcf : cFn zs m k r = fun j => m (cB zs (offN zs m k) r + j) := rfl
                obtain ⟨P, eP⟩ : ∃ P, cB zs (offN zs m k) r = P := ⟨_, rfl⟩
                obtain ⟨Q, eQ⟩ : ∃ Q, cE zs (offN zs m k) len (zn zs k) r = Q := ⟨_, rfl⟩
                rw [eP] at hd1 hcl hcf
                rw [eQ] at hd1 hd2 hcl
                obtain ⟨l, el⟩ : ∃ l, Q - P = l := ⟨_, rfl⟩
                obtain ⟨c1, ec⟩ : ∃ c1, cap - P = c1 := ⟨_, rfl⟩
                obtain ⟨ad, had⟩ : ∃ ad, (if cap = P then some (⟨b0, off0, none⟩ : Addr) else Option.map (fun x : Addr => x.add P) (some ⟨b0, off0, none⟩)) = some ad := by
                  by_cases h : cap = P
                  · exact ⟨_, if_pos h⟩
                  · exact ⟨_, if_neg h⟩
                have sl := fun W => sl22_run W (some ⟨b0, off0, none⟩) len cap P Q (some (.int .i64 P)) (some (.int .i64 Q)) (.inl rfl) (.inl rfl) hd1 hd2 hlc
                have bp := bys_part (HBY.out _ hbw) P Q hd1 hd2
                rw [had, el, ec] at bp
                rw [had, el, ec] at sl
                rw [el] at hcl
                have HL := hid hcl
                have HF := hid hcf
                have hl1 : l ≤ 140737488351232 := by omega
                have HBP := hid bp
                have HPR := hid hpr
                have HBR := hid hbr
                by_cases h0 : zs r = 0
                · have hat := HAT.out r hrk h0
                  rw [eP, eQ] at hat
                  have hzl := zn_lt zs hrk h0
                  rw [EZK.out] at hzl
                  have hE1 := E1.out
                  have E3 : Hid (hdL zs (r + 1) = hdL zs r + 4 ∧ zn zs (r + 1) = zn zs r + 1) := ⟨by rw [hsucc, h0]; rfl, (zn_succ zs r).1 h0⟩
                  have hK4 : hdL zs r + 4 ≤ len := by
                    have e4 : inH (zs r) = 4 := by rw [h0]; rfl
                    omega
                  rw [h0] at c2
                  obtain ⟨V, eV⟩ : ∃ V, zn zs r = V := ⟨_, rfl⟩
                  obtain ⟨K2, eK2⟩ : ∃ K2, hdL zs r = K2 := ⟨_, rfl⟩
                  obtain ⟨V2, eV2⟩ : ∃ V2, V + 1 = V2 := ⟨_, rfl⟩
                  rw [eV] at hat hzl
                  rw [eV2] at hat
                  have HLD : Hid (∀ W, Below w5.heap.size w5 W → W.cell? ⟨b5, o5 + V, none⟩ = some (.int .i64 (P : Int)) ∧ W.cell? ⟨b5, o5 + V2, none⟩ = some (.int .i64 (Q : Int))) := by
                    intro W hW
                    refine ⟨(below_cell hW HL5.out).trans ?_, (below_cell hW HL5.out).trans ?_⟩
                    · rw [HC5.out V (by omega), hat.1]
                    · rw [HC5.out V2 (by omega), hat.2]
                  rw [eV, eK2] at E3
                  rw [eK2] at hK4
                  have q1 : (V : Int) + 1 = (V2 : Int) := by omega
                  have q2 : (0 : Int) ≤ (P : Int) := by omega
                  have q3 : (Q : Int) ≤ 140737488351232 := by omega
                  have q6 : (P : Int) ≤ (Q : Int) := by omega
                  have q7 : (Q : Int) ≤ (len : Int) := by omega
                  have k1 : (r : Int) < (k : Int) := by omega
                  have k2 : (0 : Int) ≤ (r : Int) := by omega
                  have v1 : (V : Int) < (Z1 : Int) := by omega
                  have v2 : (V2 : Int) < (Z1 : Int) := by omega
                  have v3 : (0 : Int) ≤ (V : Int) := by omega
                  have v4 : (0 : Int) ≤ (V2 : Int) := by omega
                  have v5 : IntKind.i64.wrap ((V : Int) + 1) = (V2 : Int) := by rw [q1]; exact i64_of _ (by omega) (by omega)
                  have v6 : IntKind.i64.wrap (V2 : Int) = (V2 : Int) := i64_of _ (by omega) (by omega)
                  have HNEW := hid (World.ownsRow_lit (base := w5.heap.size) (e := 5) (size := 1) wr.drew #[] 0 hzr (by decide) rfl)
                  have HBA := hid (bp.below ((Below.refl wr.heap.size wr).drew.alloc (Nat.le_refl _) (.cells #[] 5)))
                  have EV2 := hid eV2
                  have hV : V ≤ 64 := by omega
                  have hK5 : (K2 : Int) + 4 ≤ 140737488351232 := by omega
                  have hK6 : (0 : Int) ≤ (K2 : Int) := by omega
                  rw [eV, eK2]
                  clear hi1 hmo hsucc hS hcl hcf eP eQ el ec had bp hpr hbr hbw h0 hd1 hd2 hat hzl hE1 eV eK2 eV2
                  go_upto_region 27 with fail
                  refine wp_region_noPanic ?_
                  refine wp_region_held_drew (S := fun w' => Below w5.heap.size w5 w') (by kernel_rfl) (HBR.out.drew) (fun hHeld => ?_)
                  refine wpAnyH_take (i := 0) (v := ?v1) rfl (by kernel_rfl) (by kernel_rfl) (by kernel_rfl) (fun _ _ _ h => h) (Or.inl ⟨by rfl, ?hy1⟩) hHeld ?rest1
                  case hy1 =>
                    intro w hSw
                    go_simp
                    try with_reducible rfl
                  try simp only [Act.put, List.setIfInBounds_toArray, List.set_cons_zero, List.set_cons_succ, Array.toArray_toList, List.getElem_toArray, List.getElem_cons_zero, List.getElem_cons_succ]
                  refine wpAnyH_take (i := 2) (v := ?v2) rfl (by kernel_rfl) (by kernel_rfl) (by kernel_rfl) (fun _ _ _ h => h) (Or.inl ⟨by rfl, ?hy2⟩) hHeld ?rest2
                  case hy2 =>
                    intro w hSw
                    go_simp
                    try with_reducible rfl
                  try simp only [Act.put, List.setIfInBounds_toArray, List.set_cons_zero, List.set_cons_succ, Array.toArray_toList, List.getElem_toArray, List.getElem_cons_zero, List.getElem_cons_succ]
                  refine wpAnyH_take (i := 3) (v := ?v3) rfl (by kernel_rfl) (by kernel_rfl) (by kernel_rfl) (fun _ _ _ h => h) (Or.inl ⟨by rfl, ?hy3⟩) hHeld ?rest3
                  case hy3 =>
                    intro w hSw
                    go_simp
                    try with_reducible rfl
                  try simp only [Act.put, List.setIfInBounds_toArray, List.set_cons_zero, List.set_cons_succ, Array.toArray_toList, List.getElem_toArray, List.getElem_cons_zero, List.getElem_cons_succ]
                  refine wpAnyH_take (i := 4) (v := ?v4) rfl (by kernel_rfl) (by kernel_rfl) (by kernel_rfl) (fun _ _ _ h => h) (Or.inl ⟨by rfl, ?hy4⟩) hHeld ?rest4
                  case hy4 =>
                    intro w hSw
                    go_simp
                    try with_reducible rfl
                  try simp only [Act.put, List.setIfInBounds_toArray, List.set_cons_zero, List.set_cons_succ, Array.toArray_toList, List.getElem_toArray, List.getElem_cons_zero, List.getElem_cons_succ]
                  refine wpAnyH_take (i := 5) (v := ?v5) rfl (by kernel_rfl) (by kernel_rfl) (by kernel_rfl) (fun _ _ _ h => h) (Or.inl ⟨by rfl, ?hy5⟩) hHeld ?rest5
                  case hy5 =>
                    intro w hSw
                    go_simp
                    try with_reducible rfl
                  try simp only [Act.put, List.setIfInBounds_toArray, List.set_cons_zero, List.set_cons_succ, Array.toArray_toList, List.getElem_toArray, List.getElem_cons_zero, List.getElem_cons_succ]
                  refine wpAnyH_take (i := 6) (v := ?v6) rfl (by kernel_rfl) (by kernel_rfl) (by kernel_rfl) (fun _ _ _ h => h) (Or.inl ⟨by rfl, ?hy6⟩) hHeld ?rest6
                  case hy6 =>
                    intro w hSw
                    obtain ⟨l1, l2⟩ := HLD.out _ hSw
                    go_simp
                    try with_reducible rfl
                  try simp only [Act.put, List.setIfInBounds_toArray, List.set_cons_zero, List.set_cons_succ, Array.toArray_toList, List.getElem_toArray, List.getElem_cons_zero, List.getElem_cons_succ]
                  refine wpAnyH_take (i := 7) (v := ?v7) rfl (by kernel_rfl) (by kernel_rfl) (by kernel_rfl) (fun _ _ _ h => h) (Or.inl ⟨by rfl, ?hy7⟩) hHeld ?rest7
                  case hy7 =>
                    intro w hSw
                    go_simp
                    try with_reducible rfl
                  try simp only [Act.put, List.setIfInBounds_toArray, List.set_cons_zero, List.set_cons_succ, Array.toArray_toList, List.getElem_toArray, List.getElem_cons_zero, List.getElem_cons_succ]
                  refine wpAnyH_take (i := 8) (v := ?v8) rfl (by kernel_rfl) (by kernel_rfl) (by kernel_rfl) (fun _ _ _ h => h) (Or.inl ⟨by rfl, ?hy8⟩) hHeld ?rest8
                  case hy8 =>
                    intro w hSw
                    go_simp
                    try with_reducible rfl
                  try simp only [Act.put, List.setIfInBounds_toArray, List.set_cons_zero, List.set_cons_succ, Array.toArray_toList, List.getElem_toArray, List.getElem_cons_zero, List.getElem_cons_succ]
                  refine wpAnyH_take (i := 9) (v := ?v9) rfl (by kernel_rfl) (by kernel_rfl) (by kernel_rfl) (fun _ _ _ h => h) (Or.inl ⟨by rfl, ?hy9⟩) hHeld ?rest9
                  case hy9 =>
                    intro w hSw
                    go_simp
                    try with_reducible rfl
                  try simp only [Act.put, List.setIfInBounds_toArray, List.set_cons_zero, List.set_cons_succ, Array.toArray_toList, List.getElem_toArray, List.getElem_cons_zero, List.getElem_cons_succ]
                  refine wpAnyH_take (i := 10) (v := ?v10) rfl (by kernel_rfl) (by kernel_rfl) (by kernel_rfl) (fun _ _ _ h => h) (Or.inl ⟨by rfl, ?hy10⟩) hHeld ?rest10
                  case hy10 =>
                    intro w hSw
                    go_simp
                    try with_reducible rfl
                  try simp only [Act.put, List.setIfInBounds_toArray, List.set_cons_zero, List.set_cons_succ, Array.toArray_toList, List.getElem_toArray, List.getElem_cons_zero, List.getElem_cons_succ]
                  refine wpAnyH_take (i := 11) (v := ?v11) rfl (by kernel_rfl) (by kernel_rfl) (by kernel_rfl) (fun _ _ _ h => h) (Or.inl ⟨by rfl, ?hy11⟩) hHeld ?rest11
                  case hy11 =>
                    intro w hSw
                    obtain ⟨l1, l2⟩ := HLD.out _ hSw
                    go_simp
                    try with_reducible rfl
                  try simp only [Act.put, List.setIfInBounds_toArray, List.set_cons_zero, List.set_cons_succ, Array.toArray_toList, List.getElem_toArray, List.getElem_cons_zero, List.getElem_cons_succ]
                  refine wpAnyH_take (i := 12) (v := ?v12) rfl (by kernel_rfl) (by kernel_rfl) (by kernel_rfl) (fun _ _ _ h => h) (Or.inl ⟨by rfl, ?hy12⟩) hHeld ?rest12
                  case hy12 =>
                    intro w hSw
                    go_simp
                    try with_reducible rfl
                  try simp only [Act.put, List.setIfInBounds_toArray, List.set_cons_zero, List.set_cons_succ, Array.toArray_toList, List.getElem_toArray, List.getElem_cons_zero, List.getElem_cons_succ]
                  refine wpAnyH_ready (rs := [1]) (by kernel_rfl) (by simp) ?_
                  refine AllReadyH.cons rfl (fun K hK => ?_) AllReadyH.nil
                  go_simp
                  refine hK.out _ _ (HBR.out.drew.alloc hzr _) (fun hHeld => ?_)
                  clear hK K
                  try simp only [Act.put, List.setIfInBounds_toArray, List.set_cons_zero, List.set_cons_succ, Array.toArray_toList, List.getElem_toArray, List.getElem_cons_zero, List.getElem_cons_succ]
                  refine wpAnyH_ready (rs := [13]) (by kernel_rfl) (by simp) ?_
                  refine AllReadyH.cons rfl (fun K hK => ?_) AllReadyH.nil
                  rw [if_pos (by rfl)]
                  refine wp_append_new _ _ _ rfl w5.heap.size _ 0 [] rfl HNEW.out ad l c1 (fun j => m (P + j)) rfl HBA.out (by omega) (by simp; omega) ?_
                  intro v3 w3 ho3 hg3
                  have hg3b : (wr.drew.alloc (.cells #[] 5)).grownBy w3 (some wr.drew.heap.size) := hg3
                  have HB3 : Hid (Below wr.heap.size wr w3) := (Below.refl _ _).drew.trans (below_new hg3b)
                  rw [Nat.zero_add, List.nil_append] at ho3
                  obtain ⟨a3, c3, rfl⟩ := owns_form ho3
                  have HZ3 : Hid (w3.ownsRow w5.heap.size 5 1 (.slice a3 l c3) (cLn zs m k len r) (bl (cFn zs m k r) (cLn zs m k len r))) := by rw [HL.out, HF.out]; exact ho3
                  have HPR3 := hid (HPR.out.below HB3.out)
                  have hz3 := Nat.le_trans hzr HB3.out.size
                  clear ho3 hg3 hg3b
                  refine hK.out _ _ (HBR.out.trans (HB3.out.mono hzr)) (fun hHeld => ?_)
                  clear hK K
                  try simp only [Act.put, List.setIfInBounds_toArray, List.set_cons_zero, List.set_cons_succ, Array.toArray_toList, List.getElem_toArray, List.getElem_cons_zero, List.getElem_cons_succ]
                  refine wpAnyH_ready (rs := [14]) (by kernel_rfl) (by simp) ?_
                  refine AllReadyH.cons rfl (fun K hK => ?_) AllReadyH.nil
                  go_simp
                  refine hK.out _ _ ((HBR.out.trans (HB3.out.mono hzr)).alloc hz3 _) (fun hHeld => ?_)
                  clear hK K
                  try simp only [Act.put, List.setIfInBounds_toArray, List.set_cons_zero, List.set_cons_succ, Array.toArray_toList, List.getElem_toArray, List.getElem_cons_zero, List.getElem_cons_succ]
                  refine wpAnyH_ready (rs := [15]) (by kernel_rfl) (by simp) ?_
                  refine AllReadyH.cons rfl (fun K hK => ?_) AllReadyH.nil
                  rw [if_pos (by rfl)]
                  refine wp_append_part w3 (.tmp 81) (.tmp 95) rfl w5.heap.size u10 r _ (.slice a3 l c3) rfl rfl HPR3.out.1 rfl (by omega) hz3 ?_
                  intro v6 w6 ho6 hg6
                  have HB6 := hid (below_grown (HBR.out.trans (HB3.out.mono hzr)) HPR3.out.1 hz3 hg6)
                  obtain ⟨A', C', hpr6⟩ := PR.step HPR3.out HZ3.out ho6 hg6
                  have HPR6 := hid hpr6
                  clear ho6 hg6 hpr6
                  refine hK.out _ _ (HB6.out) (fun hHeld => ?_)
                  clear hK K
                  try simp only [Act.put, List.setIfInBounds_toArray, List.set_cons_zero, List.set_cons_succ, Array.toArray_toList, List.getElem_toArray, List.getElem_cons_zero, List.getElem_cons_succ]
                  refine wpAnyH_take (i := 16) (v := ?v13) rfl (by kernel_rfl) (by kernel_rfl) (by kernel_rfl) (fun _ _ _ h => h) (Or.inl ⟨by rfl, ?hy13⟩) hHeld ?rest13
                  case hy13 =>
                    intro w hSw
                    go_simp
                    try with_reducible rfl
                  try simp only [Act.put, List.setIfInBounds_toArray, List.set_cons_zero, List.set_cons_succ, Array.toArray_toList, List.getElem_toArray, List.getElem_cons_zero, List.getElem_cons_succ]
                  refine wpAnyH_done (by kernel_rfl) ?_ _
                  refine NoPanic.normal ?_
                  go_wp2
                  go_roundw
                  case rel =>
                    obtain ⟨e1, e2⟩ := E3.out
                    exact ⟨r + 1, by omega, by go_num, by rw [e1]; go_num, by rw [e2, EV2.out], ⟨A', C', HPR6.out⟩, HB6.out⟩
                  case measure => simp [intOf]; omega
                · have eP' : cB zs (offN zs m k) r = hdL zs r := by unfold cB; rw [if_neg h0]
                  have eQ' : cE zs (offN zs m k) len (zn zs k) r = hdL zs r + (zs r).toNat := by unfold cE; rw [if_neg h0]
                  have E3 : Hid (hdL zs (r + 1) = Q ∧ zn zs (r + 1) = zn zs r) := ⟨by rw [hsucc, ← eQ, eQ']; unfold inH; rw [if_neg h0], (zn_succ zs r).2 h0⟩
                  rw [eP] at eP'
                  rw [eQ] at eQ'
                  obtain ⟨z, ez⟩ : ∃ z, zs r = z := ⟨_, rfl⟩
                  have EZ := hid ez
                  rw [ez] at c2 hx1 hx2 h0 eQ'
                  rw [← eP'] at eQ' ⊢
                  have q1 : (P : Int) + z = (Q : Int) := by omega
                  have q2 : (0 : Int) ≤ (P : Int) := by omega
                  have q3 : (Q : Int) ≤ 140737488351232 := by omega
                  have q5 : (z == 0) = false := by rw [beq_eq_false_iff_ne]; exact h0
                  have q6 : (P : Int) ≤ (Q : Int) := by omega
                  have q7 : (Q : Int) ≤ (len : Int) := by omega
                  have k1 : (r : Int) < (k : Int) := by omega
                  have k2 : (0 : Int) ≤ (r : Int) := by omega
                  obtain ⟨b2', o2', e2', c2a⟩ := HN.out _ (hbw.alloc (by omega) (.cells #[] 5)) r hrk
                  cases e2'
                  rw [EZ.out] at c2a
                  have HNEW := hid (World.ownsRow_lit (base := w5.heap.size) (e := 5) (size := 1) wr #[] 0 hzr (by decide) rfl)
                  have HBA := hid (bp.below ((Below.refl wr.heap.size wr).alloc (Nat.le_refl _) (.cells #[] 5)))
                  clear hi1 hmo hsucc hS hcl hcf eP eQ el ec had bp hpr hbr hbw eP' eQ' ez h0 hd1 hd2
                  generalize zn zs r = V at E3 ⊢
                  go_wp2_with (first
                    | (at_builtin; refine wpList_append_part w3 rfl _ _ rfl w5.heap.size u10 r _ (.slice a3 l c3) rfl rfl HPR3.out.1 rfl (by omega) hz3 ?_; intro v6 w6 ho6 hg6; have HB6 := hid (below_grown (HBR.out.trans (HB3.out.mono hzr)) HPR3.out.1 hz3 hg6); obtain ⟨A', C', hpr6⟩ := PR.step HPR3.out HZ3.out ho6 hg6; have HPR6 := hid hpr6; obtain ⟨b2', o2', e2', c6⟩ := HN.out _ (HB5.out.trans (HB6.out.mono hz5)) r hrk; cases e2'; rw [EZ.out] at c6; clear ho6 hg6 hpr6)
                    | (at_builtin; refine wpList_append_bys _ rfl _ _ rfl w5.heap.size (.slice (some ⟨wr.heap.size, 0, none⟩) 0 0) 0 [] rfl HNEW.out (some ad) l c1 (fun j => m (P + j)) rfl HBA.out (by omega) (by simp; omega) ?_; intro v3 w3 ho3 hg3; have HB3 := hid (below_new hg3); rw [Nat.zero_add, List.nil_append] at ho3; obtain ⟨a3, c3, rfl⟩ := owns_form ho3; have HZ3 : Hid (w3.ownsRow w5.heap.size 5 1 (.slice a3 l c3) (cLn zs m k len r) (bl (cFn zs m k r) (cLn zs m k len r))) := (by rw [HL.out, HF.out]; exact ho3); have HPR3 := hid (HPR.out.below HB3.out); have hz3 := Nat.le_trans hzr HB3.out.size; clear ho3 hg3))
                  go_roundw
                  case rel =>
                    obtain ⟨e1, e2⟩ := E3.out
                    exact ⟨r + 1, by omega, by go_num, by rw [e1], by rw [e2], ⟨A', C', HPR6.out⟩, HB6.out⟩
                  case measure => simp [intOf]; omega
              · have er : r = k := by omega
                subst er
                obtain ⟨a', c', hv, hP, _⟩ := owns_parts hpr.1 (fun j hj => own_bys (hpr.2 j hj))
                subst hv
                have HP := hid hP
                have HBF := hid hbw
                have HFR : Hid (Fr w.heap.size A r) := fun j hj b o e => Nat.le_trans hz5 (fr_owns (hpr.2 j hj) b o e)
                clear hP hpr hbr hbw
                generalize hdL zs r = P
                generalize zn zs r = V
                go_wp2
                go_ret2
                exact ⟨a', r, c', A, C, by rw [HE.out]; rfl, by rw [HE.out, if_pos rfl], HP.out, HBF.out, HFR.out⟩
        · have hzp : 0 < zn zs k := by
            rcases Nat.eq_zero_or_pos (zn zs k) with e | e
            · rw [e] at h4
              exact absurd rfl h4
            · exact e
          have HE : Hid (cutE zs m k len = 5) := by
            show cutE zs m k len = 5
            unfold cutE
            rw [if_neg (by rw [HSZ.out]; simp), if_neg (by omega), if_neg (by rw [hS]; exact h3)]
            by_cases h5 : 0 < zn zs k ∧ ¬ offN zs m k 0 = hdL zs k
            · rw [if_pos h5]
            · rw [if_neg h5, if_pos ?_]
              cases ho : ordB (fun i => ((offN zs m k i : Nat) : Int)) len (zn zs k) with
              | false => rfl
              | true => exact absurd ((ris_ord hzp).2 ⟨by omega, ho⟩) h4
          rw [Bool.not_eq_true] at h4
          rw [h4] at hri
          obtain ⟨Z, eZ⟩ : ∃ Z, zn zs k = Z := ⟨_, rfl⟩
          rw [eZ] at hri hzp ⊢
          have z0 : ((Z : Int) == 0) = false := by rw [beq_eq_false_iff_ne]; omega
          have z1 : (Z == 0) = false := by rw [beq_eq_false_iff_ne]; omega
          have HRI := hid hri
          have hz := hb.size
          have HB := hid hb
          clear hl hnm hm' hcast hos hnm' hznk hri hS hown hb h3 h4 eZ hzp
          generalize hdL zs k = K
          go_wp2_with (go_at_call 84; refine HRI.out.mono ?_; rintro e w3 ⟨rfl, hb3⟩; have HB3 := hid (HB.out.trans (hb3.mono hz)); clear hb3)
          go_ret2
          exact rans_none HE.out (by decide) HB3.out

/-- The reference's Cut, whole. -/
theorem rcutF_wide (zs m : Nat → Int) (ao : Option Addr) (len cap : Nat) (sa : Option Addr) (n sc : Nat) (w : World) (hb : Bys w ao len cap m) (hm : ∀ j, 0 ≤ m j ∧ m j < 256) (hlen : len ≤ 140737488351232) (hlc : len ≤ cap) (hcap : cap ≤ 9223372036854775807) (hn : Nms .i64 w sa n zs) (hnb : n ≤ 9223372036854775807) :
    Calls Tryz.prog 40 #[.slice ao len cap, .slice sa n sc] w (RAnsF zs m n len w) := by
  cases hsz : szB zs n with
  | false => exact rcut_arg zs m ao len cap sa n sc w hn hnb hsz
  | true =>
    by_cases hhd : len < hdL zs n
    · exact rcut_short zs m ao len cap sa n sc w hn hsz hhd
    · exact rcut_main zs m ao len cap sa n sc w hb hm hlen hlc hcap hn hsz (by omega)
theorem rcutF_any (zs m : Nat → Int) (ao : Option Addr) (len cap : Nat) (sa : Option Addr) (n sc : Nat) (w : World) (hb : Bys w ao len cap m) (hm : ∀ j, 0 ≤ m j ∧ m j < 256) (hlen : len ≤ 1048576) (hlc : len ≤ cap) (hcap : cap ≤ 9223372036854775807) (hn : Nms .i64 w sa n zs) (hnb : n ≤ 9223372036854775807) :
    Calls Tryz.prog 40 #[.slice ao len cap, .slice sa n sc] w (RAnsF zs m n len w) :=
  rcutF_wide zs m ao len cap sa n sc w hb hm (by omega) hlc hcap hn hnb
end Go.Proofs.YtokbhcgooboocaaGreatDoor.Z
