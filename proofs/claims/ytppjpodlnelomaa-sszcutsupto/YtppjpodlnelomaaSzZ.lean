/-
  What ssz.Lay answers.
-/
import Derived.Test.YtppjpodlnelomaaSzY
import Derived.ScopeJumps
namespace Go.Proofs.Ytppjpodlnelomaa
open Go.RowKit
set_option linter.unusedVariables false
set_option linter.unusedSimpArgs false

/-- Which part is the loose one number j. -/
def ixz (zs : Nat → Int) : Nat → Nat → Nat
  | 0, _ => 0
  | n + 1, j => if zs n = 0 ∧ zn zs n = j then n else ixz zs n j
theorem ixz_at (zs : Nat → Int) {k n : Nat} (hk : k < n) (h0 : zs k = 0) : ixz zs n (zn zs k) = k := by
  induction n with
  | zero => omega
  | succ n ih =>
    unfold ixz
    by_cases e : k = n
    · subst e
      rw [if_pos ⟨h0, rfl⟩]
    · have h := zn_lt zs (k := k) (n := n) (by omega) h0
      rw [if_neg (by omega), ih (by omega)]
theorem zn_succ (zs : Nat → Int) (k : Nat) : (zs k = 0 → zn zs (k + 1) = zn zs k + 1) ∧ (¬ zs k = 0 → zn zs (k + 1) = zn zs k) := by
  refine ⟨fun h => ?_, fun h => ?_⟩
  · show zn zs k + (if zs k = 0 then 1 else 0) = _
    rw [if_pos h]
  · show zn zs k + (if zs k = 0 then 1 else 0) = _
    rw [if_neg h, Nat.add_zero]
theorem loose_sum (zs : Nat → Int) (L : Nat → Nat) (n k : Nat) (hk : k ≤ n) : sumL (fun j => L (ixz zs n j)) (zn zs k) = loL zs L k := by
  induction k with
  | zero => rfl
  | succ k ih =>
    have h1 := ih (by omega)
    show _ = loL zs L k + (if zs k = 0 then L k else 0)
    by_cases h : zs k = 0
    · rw [(zn_succ zs k).1 h, if_pos h, ← h1]
      show sumL _ (zn zs k) + L (ixz zs n (zn zs k)) = _
      rw [ixz_at zs (by omega) h]
    · rw [(zn_succ zs k).2 h, if_neg h, h1]
      rfl
theorem loose_cats (zs : Nat → Int) (f : Nat → Nat → Int) (L : Nat → Nat) (n k : Nat) (hk : k ≤ n) : cats (fun j => f (ixz zs n j)) (fun j => L (ixz zs n j)) (zn zs k) = loB zs f L k := by
  induction k with
  | zero => rfl
  | succ k ih =>
    have h1 := ih (by omega)
    show _ = loB zs f L k ++ (if zs k = 0 then prt f L k else [])
    by_cases h : zs k = 0
    · rw [(zn_succ zs k).1 h, if_pos h, ← h1]
      show cats _ _ (zn zs k) ++ (List.range (L (ixz zs n (zn zs k)))).map (f (ixz zs n (zn zs k))) = _
      rw [ixz_at zs (by omega) h]
      rfl
    · rw [(zn_succ zs k).2 h, if_neg h, h1, List.append_nil]
/-- The loose parts among the first k, as values. -/
def lvs (zs : Nat → Int) (P : Nat → Value) (n k : Nat) : List Value := (List.range (zn zs k)).map fun j => P (ixz zs n j)
theorem lvs_succ (zs : Nat → Int) (P : Nat → Value) (n k : Nat) (hk : k < n) (h : zs k = 0) : lvs zs P n (k + 1) = lvs zs P n k ++ [P k] := by
  unfold lvs
  rw [(zn_succ zs k).1 h, List.range_succ, List.map_append]
  simp [ixz_at zs hk h]
theorem lvs_skip (zs : Nat → Int) (P : Nat → Value) (n k : Nat) (h : ¬ zs k = 0) : lvs zs P n (k + 1) = lvs zs P n k := by
  unfold lvs
  rw [(zn_succ zs k).2 h]
theorem info22' : (Try.prog.info? 22).map (fun i => (i.zero, i.size, i.bytes)) = some (some (.slice none 0 0), 1, 24) := by kernel_rfl
/-- append of one part. -/
theorem wpList_append_part (w : World) {ops : Array Oper} {rest : List Oper} {o : Oper} {a : Act} {Q : Exit → Act → World → Prop} (hgd : o.guard = none) (s x : Operand)
    (ho : o.op = .call { callee := .builtin .append, args := #[s, x], argTypes := #[25, 25] })
    (base : Nat) (v : Value) (n : Nat) (xs : List Value) (z : Value) (hz : z.oneCell' = true) (hs : a.eval s = v) (hown : w.ownsRow base 22 1 v n xs)
    (hx : a.eval x = .slice (some ⟨w.heap.size, 0, none⟩) 1 1) (hbd : n ≤ 1000000000000) (hbase : base ≤ w.heap.size)
    (h : ∀ v' w', w'.ownsRow base 22 1 v' (n + 1) (xs ++ [z]) → w.grownBy w' v.ownBlock → wpList Try.prog ops Q rest (a.put o.dst v') w') :
    wpList Try.prog ops Q (o :: rest) a (w.alloc (.cells #[z] 22)) := by
  obtain ⟨i, hi, hz0, hz1, hz2⟩ := info_parts info22'
  refine wpList_append_own _ hgd s x 25 ho base 22 i (.slice none 0 0) 1 24 Try.underlying25 hi hz0 hz1 hz2 rfl (by decide) v n xs hs (hown.alloc _) ⟨w.heap.size, 0, none⟩ 1 1 [z] hx rfl (cell_one_new _ _ _)
    (fun u hu => by simp at hu; subst hu; exact hz) (by unfold maxLen; omega) (by omega) (by simp; omega) (fun v' w' h1 h2 _ => ?_)
  refine h v' w' h1 ⟨h2.os, h2.tape, h2.output, ?_, fun k hk hne => ?_⟩
  · have := h2.size
    simp at this
    omega
  · exact (h2.block k (by simp; omega) hne).trans (heap_old hk)
/-- Parts that lie in a row of the call's own. -/
theorem owns_parts {w : World} {B : Nat} {v : Value} {n : Nat} {A : Nat → Option Addr} {L C : Nat → Nat} {f : Nat → Nat → Int} (h : w.ownsRow B 22 1 v n ((List.range n).map fun j => Value.slice (A j) (L j) (C j))) (hb : ∀ j, j < n → Bys w (A j) (L j) (C j) (f j)) : ∃ a c, v = .slice a n c ∧ Parts w a n A L C f ∧ ∀ x, a = some x → B ≤ x.block := by
  rcases h.2 with ⟨h1, h0⟩ | ⟨g, cap, cur, h1, h2, h3, h4, h5, h6, h7⟩
  · subst h0
    exact ⟨none, 0, h1, .inl rfl, fun x hx => by cases hx⟩
  · subst h1
    refine ⟨_, cap, rfl, .inr ⟨g, 0, rfl, (Array.getElem?_eq_some_iff.1 h3).1, fun r hr => ⟨?_, hb r hr⟩⟩, fun x hx => by cases hx; exact h2⟩
    have := h.cells (g := g) rfl r (.slice (A r) (L r) (C r)) (by rw [List.getElem?_map, List.getElem?_range hr]; rfl)
    rw [addr_add] at this
    exact this

/-- The frame with which Lay's one end is reached. -/
def RefL (v0 v1 : Value) (err : Int) (a' : Act) : Prop := ∃ u6 u7 u9 u10 u11 u12 u13 u14 u15 u16 u17 u18 u19 u20 u21 u22 u23 u24 u25 u26 u27 u28 u29 u30 u31 u32 u33 u34 u35 u36 u37 u38 u39 u40 u41 u42 u43 u44 u45 u46 u47 u48 u49 u50 u51 u52 u53 u54 u55 u56 u57 u58 u59, a' = { tmps := #[v0, v1, undef, undef, .slice none 0 0, .int .i64 0, u6, u7, .int .i64 err, u9, u10, u11, u12, u13, u14, u15, u16, u17, u18, u19, u20, u21, u22, u23, u24, u25, u26, u27, u28, u29, u30, u31, u32, u33, u34, u35, u36, u37, u38, u39, u40, u41, u42, u43, u44, u45, u46, u47, u48, u49, u50, u51, u52, u53, u54, u55, u56, u57, u58, u59], defers := [] }
theorem ixz_lt (zs : Nat → Int) {n j : Nat} (hj : j < zn zs n) : ixz zs n j < n := by
  induction n with
  | zero => simp [zn] at hj
  | succ n ih =>
    unfold ixz
    by_cases h : zs n = 0 ∧ zn zs n = j
    · rw [if_pos h]; omega
    · rw [if_neg h]
      have : j < zn zs n := by
        by_cases h0 : zs n = 0
        · have h1 := (zn_succ zs n).1 h0
          have h2 : ¬ zn zs n = j := fun e => h ⟨h0, e⟩
          omega
        · have h1 := (zn_succ zs n).2 h0
          omega
      have := ih this
      omega
theorem loose_bys {w : World} {a : Option Addr} {n : Nat} {A : Nat → Option Addr} {L C : Nat → Nat} {f : Nat → Nat → Int} {zs : Nat → Int} (h : Parts w a n A L C f) {j : Nat} (hj : j < zn zs n) : Bys w (A (ixz zs n j)) (L (ixz zs n j)) (C (ixz zs n j)) (f (ixz zs n j)) := by
  obtain ⟨_, _, _, _, _, h5⟩ := parts_at h (ixz zs n j) (ixz_lt zs hj)
  exact h5
theorem owns_base {w : World} {B B' : Nat} {e : TypeId} {v : Value} {n : Nat} {xs : List Value} (h : w.ownsRow B e 1 v n xs) (hB : B' ≤ B) : w.ownsRow B' e 1 v n xs := by
  refine ⟨h.1, ?_⟩
  rcases h.2 with h1 | ⟨g, cap, cur, h1, h2, h3⟩
  · exact .inl h1
  · exact .inr ⟨g, cap, cur, h1, by omega, h3⟩

set_option maxRecDepth 20000 in
set_option maxHeartbeats 1000000 in
theorem lay_arg (zs : Nat → Int) (a : Option Addr) (n c : Nat) (A : Nat → Option Addr) (L C : Nat → Nat) (f : Nat → Nat → Int) (sa : Option Addr) (m sc : Nat) (w : World) (hn : Nms .i64 w sa m zs) (hmb : m ≤ 9223372036854775807) (hsz : szB zs m = false) :
    Calls Try.prog 13 #[.slice a n c, .slice sa m sc] w fun e w' => e = .returned (.tuple #[.slice none 0 0, .int .i64 1]) ∧ Below w.heap.size w w' := by
  have hsi := sizes_any zs sa m sc w hn hmb
  rw [hsz] at hsi
  have HSI := hid hsi
  clear hsi hn hsz
  go_enter Try.func13, Try.ntmps13
  go_wp2
  refine wp_scope_jumps 0 (fun a' w' => RefL (.slice a n c) (.slice sa m sc) 1 a' ∧ Below w.heap.size w w') (fun _ _ => 0) rfl ?_ ?_
  · go_wp2_with (go_at_call 24; refine HSI.out.mono ?_; rintro e w1 ⟨rfl, rfl⟩)
    go_step3
    exact ⟨rfl, ⟨_, _, _, _, _, _, _, _, _, _, _, _, _, _, _, _, _, _, _, _, _, _, _, _, _, _, _, _, _, _, _, _, _, _, _, _, _, _, _, _, _, _, _, _, _, _, _, _, _, _, _, _, _, rfl⟩, Below.refl _ _⟩
  · rintro a' w' ⟨⟨u6, u7, u9, u10, u11, u12, u13, u14, u15, u16, u17, u18, u19, u20, u21, u22, u23, u24, u25, u26, u27, u28, u29, u30, u31, u32, u33, u34, u35, u36, u37, u38, u39, u40, u41, u42, u43, u44, u45, u46, u47, u48, u49, u50, u51, u52, u53, u54, u55, u56, u57, u58, u59, rfl⟩, hbe⟩
    have HBE := hid hbe
    clear hbe
    go_wp2
    simp only [Exit.jump]
    go_ret2
    exact ⟨rfl, HBE.out⟩

set_option maxRecDepth 20000 in
set_option maxHeartbeats 1000000 in
theorem lay_count (zs : Nat → Int) (a : Option Addr) (n c : Nat) (A : Nat → Option Addr) (L C : Nat → Nat) (f : Nat → Nat → Int) (sa : Option Addr) (m sc : Nat) (w : World) (hn : Nms .i64 w sa m zs) (hmb : m ≤ 9223372036854775807) (hsz : szB zs m = true) (hne : ¬ n = m) :
    Calls Try.prog 13 #[.slice a n c, .slice sa m sc] w fun e w' => e = .returned (.tuple #[.slice none 0 0, .int .i64 1]) ∧ Below w.heap.size w w' := by
  have hsi := sizes_any zs sa m sc w hn hmb
  rw [hsz] at hsi
  have HSI := hid hsi
  have hne' : ((n : Int) != (m : Int)) = true := by rw [bne_iff_ne]; omega
  clear hsi hn hsz
  go_enter Try.func13, Try.ntmps13
  go_wp2
  refine wp_scope_jumps 0 (fun a' w' => RefL (.slice a n c) (.slice sa m sc) 1 a' ∧ Below w.heap.size w w') (fun _ _ => 0) rfl ?_ ?_
  · go_wp2_with (go_at_call 24; refine HSI.out.mono ?_; rintro e w1 ⟨rfl, rfl⟩)
    go_step3
    exact ⟨rfl, ⟨_, _, _, _, _, _, _, _, _, _, _, _, _, _, _, _, _, _, _, _, _, _, _, _, _, _, _, _, _, _, _, _, _, _, _, _, _, _, _, _, _, _, _, _, _, _, _, _, _, _, _, _, _, rfl⟩, Below.refl _ _⟩
  · rintro a' w' ⟨⟨u6, u7, u9, u10, u11, u12, u13, u14, u15, u16, u17, u18, u19, u20, u21, u22, u23, u24, u25, u26, u27, u28, u29, u30, u31, u32, u33, u34, u35, u36, u37, u38, u39, u40, u41, u42, u43, u44, u45, u46, u47, u48, u49, u50, u51, u52, u53, u54, u55, u56, u57, u58, u59, rfl⟩, hbe⟩
    have HBE := hid hbe
    clear hbe
    go_wp2
    simp only [Exit.jump]
    go_ret2
    exact ⟨rfl, HBE.out⟩

set_option maxRecDepth 20000 in
set_option maxHeartbeats 1000000 in
theorem lay_ok (zs : Nat → Int) (a : Option Addr) (n c : Nat) (A : Nat → Option Addr) (L C : Nat → Nat) (f : Nat → Nat → Int) (sa : Option Addr) (sc : Nat) (w : World) (h : Parts w a n A L C f) (hn : Nms .i64 w sa n zs) (hsz : szB zs n = true) (hLb : ∀ r, r < n → L r ≤ 9223372036854775807) (hfit : Fits zs L n) (ht : hdL zs n + loL zs L n < 4294967296) :
    Calls Try.prog 13 #[.slice a n c, .slice sa n sc] w fun e w' => ∃ v, e = .returned (.tuple #[v, .int .i64 0]) ∧ w'.ownsRow w.heap.size 5 1 v (hdL zs n + loL zs L n) (iv (layC zs f L n)) ∧ Below w.heap.size w w' := by
  obtain ⟨hn1, hnb, hok⟩ := szB_out hsz
  have hH := hdL_bd n hok
  have hsi := sizes_any zs sa n sc w hn (by omega)
  rw [hsz] at hsi
  have HSI := hid hsi
  have HP : Hid (∀ W, Below w.heap.size w W → Parts W a n A L C f) := fun W hW => h.below hW
  have HHL : Hid (∀ W, Below w.heap.size w W → Calls Try.prog 25 #[.slice sa n sc] W fun e w' => e = .returned (.int .u64 (hdL zs n)) ∧ w' = W) := fun W hW => headlen_any zs sa n sc W (hn.below hW) hn1 hnb hok
  have HNN : Hid (∀ W, Below w.heap.size w W → Nms .i64 W sa n zs) := fun W hW => hn.below hW
  have HN : Hid (∀ W, Below w.heap.size w W → ∀ k, k < n → ∃ b off, sa = some ⟨b, off, none⟩ ∧ W.cell? ⟨b, off + k, none⟩ = some (.int .i64 (zs k))) := by
    intro W hW k hk
    rcases hn.below hW with h | ⟨b, off, h1, h2, h3⟩
    · omega
    · exact ⟨b, off, h1, h3 k hk⟩
  have HLB := hid hLb
  have HFIT := hid hfit
  have HOK := hid hok
  clear hsi h hn hsz hLb hfit hok
  go_enter Try.func13, Try.ntmps13
  go_wp2
  refine wp_scope_jumps 0 (fun _ _ => False) (fun _ _ => 0) rfl ?_ (fun _ _ h => h.elim)
  go_wp2_with (go_at_call 24; refine HSI.out.mono ?_; rintro e w1 ⟨rfl, hw1⟩; obtain rfl := hw1.symm)
  go_loopw [6, 23] (fun v i wr => ∃ k : Nat, k ≤ n ∧ i = .int .i64 k ∧ wr.ownsRow w.heap.size 22 1 v (zn zs k) (lvs zs (fun r => .slice (A r) (L r) (C r)) n k) ∧ Below w.heap.size w wr ∧ Fits zs L k) (fun _ i _ => n - (intOf i).toNat)
  case atStart => exact ⟨0, by omega, rfl, World.ownsRow_nil _ _ _ _, Below.refl _ _, fun r hr => by omega⟩
  case round =>
    obtain ⟨k, hk, rfl, hown, hb, hfk⟩ := hrel
    by_cases hkn : k < n
    · obtain ⟨b1, o1, rfl, hb1, c1, y1⟩ := parts_at (HP.out _ hb) k hkn
      obtain ⟨b2, o2, rfl, c2⟩ := HN.out _ hb k hkn
      have hz := hb.size
      have hx := HOK.out k hkn
      unfold okS at hx
      obtain ⟨hx1, hx2⟩ := hx
      obtain ⟨z, ez⟩ : ∃ z, zs k = z := ⟨_, rfl⟩
      rw [ez] at c2 hx1 hx2
      have hlk := HLB.out k hkn
      have hznk := zn_le zs k
      have k1 : (k : Int) < (n : Int) := by omega
      have k2 : (0 : Int) ≤ (k : Int) := by omega
      have HO := hid hown
      have HB := hid hb
      have HFK := hid hfk
      have EZ := hid ez
      clear hown hb hfk ez y1
      by_cases h0 : z = 0
      · subst h0
        go_wp2_with (at_builtin; refine wpList_append_part wr rfl _ _ rfl w.heap.size u6 (zn zs k) _ (.slice (A k) (L k) (C k)) rfl rfl HO.out rfl (by omega) hz ?_; intro v3 w3 ho3 hg3; have HB3 := hid (below_grown HB.out HO.out hz hg3); have HO3 := hid ho3; clear ho3 hg3)
        go_roundw
        case rel =>
          refine ⟨k + 1, by omega, by go_num, ?_, HB3.out, fun r hr hne => ?_⟩
          · rw [(zn_succ zs k).1 EZ.out, lvs_succ zs _ n k hkn EZ.out]
            exact HO3.out
          · by_cases e : r = k
            · subst e; exact absurd EZ.out hne
            · exact HFK.out r (by omega) hne
        case measure => simp [intOf]; omega
      · have h0' : (z == 0) = false := by simpa using h0
        obtain ⟨l, el⟩ : ∃ l, L k = l := ⟨_, rfl⟩
        rw [el] at c1 hlk
        have EL := hid el
        have H0 := hid h0
        clear el
        by_cases hlz : (l : Int) = z
        · have hlz' : ((l : Int) != z) = false := by rw [bne_eq_false_iff_eq]; exact hlz
          have HLZ := hid hlz
          clear hlz h0
          go_wp2
          go_roundw
          case rel =>
            refine ⟨k + 1, by omega, by go_num, ?_, HB.out, fun r hr hne => ?_⟩
            · rw [(zn_succ zs k).2 (by rw [EZ.out]; exact H0.out), lvs_skip zs _ n k (by rw [EZ.out]; exact H0.out)]
              exact HO.out
            · by_cases e : r = k
              · subst e; rw [EL.out, EZ.out]; exact HLZ.out
              · exact HFK.out r (by omega) hne
          case measure => simp [intOf]; omega
        · exact absurd (by have := HFIT.out k hkn (by rw [EZ.out]; exact h0); rw [EL.out, EZ.out] at this; exact this) hlz
    · have ek : k = n := by omega
      subst ek
      obtain ⟨la, lc, hv, hlp, _⟩ := owns_parts (A := fun j => A (ixz zs k j)) (L := fun j => L (ixz zs k j)) (C := fun j => C (ixz zs k j)) (f := fun j => f (ixz zs k j)) hown (fun j hj => loose_bys (HP.out _ hb) hj)
      subst hv
      have hznk := zn_le zs k
      have hsum := loose_sum zs L k k (Nat.le_refl _)
      have hcat := loose_cats zs f L k k (Nat.le_refl _)
      have htot := total_any (hdL zs k) la (zn zs k) lc _ _ _ _ wr hlp (by omega) (by omega) (fun j hj => HLB.out _ (ixz_lt zs hj))
      rw [hsum] at htot
      rw [totR_ok ht] at htot
      have hlay := layc_any zs a k c A L C f sa sc la (zn zs k) lc _ _ _ _ wr (HP.out _ hb) (HNN.out _ hb) hn1 hnb HOK.out HFIT.out hlp (by omega) hcat hsum ht
      obtain ⟨T, eT⟩ : ∃ T, hdL zs k + loL zs L k = T := ⟨_, rfl⟩
      obtain ⟨S, eS⟩ : ∃ S, hdL zs k = S := ⟨_, rfl⟩
      obtain ⟨Z, eZ⟩ : ∃ Z, zn zs k = Z := ⟨_, rfl⟩
      have hh := HHL.out wr hb
      rw [eT] at htot hlay
      rw [eS, eZ] at htot
      have ET := hid eT
      rw [eS] at hh
      rw [eZ] at hlay ⊢
      have HTOT := hid htot
      have HLAY := hid hlay
      have HH := hid hh
      have HB := hid hb
      clear hown hb hfk hlp hsum hcat htot hlay hh ht eT eS eZ hH
      go_wp2_with (first
        | (go_at_call 25; refine HH.out.mono ?_; rintro e w4 ⟨rfl, hw4⟩; obtain rfl := hw4.symm)
        | (go_at_call 33; refine HTOT.out.mono ?_; rintro e w5 ⟨rfl, hw5⟩; obtain rfl := hw5.symm)
        | (go_at_call 34; refine HLAY.out.mono ?_; rintro e w6 ⟨v6, rfl, ho6, hb6⟩))
      simp only [Exit.jump]
      go_ret2
      refine ⟨_, rfl, ?_, HB.out.trans (hb6.mono HB.out.size)⟩
      rw [ET.out]
      exact owns_base ho6 HB.out.size

set_option maxRecDepth 20000 in
set_option maxHeartbeats 1000000 in
theorem lay_size (zs : Nat → Int) (a : Option Addr) (n c : Nat) (A : Nat → Option Addr) (L C : Nat → Nat) (f : Nat → Nat → Int) (sa : Option Addr) (sc : Nat) (w : World) (h : Parts w a n A L C f) (hn : Nms .i64 w sa n zs) (hsz : szB zs n = true) (hLb : ∀ r, r < n → L r ≤ 9223372036854775807) (hfit : ¬ Fits zs L n) :
    Calls Try.prog 13 #[.slice a n c, .slice sa n sc] w fun e w' => e = .returned (.tuple #[.slice none 0 0, .int .i64 4]) ∧ Below w.heap.size w w' := by
  obtain ⟨hn1, hnb, hok⟩ := szB_out hsz
  have hH := hdL_bd n hok
  have hsi := sizes_any zs sa n sc w hn (by omega)
  rw [hsz] at hsi
  have HSI := hid hsi
  have HP : Hid (∀ W, Below w.heap.size w W → Parts W a n A L C f) := fun W hW => h.below hW
  have HHL : Hid (∀ W, Below w.heap.size w W → Calls Try.prog 25 #[.slice sa n sc] W fun e w' => e = .returned (.int .u64 (hdL zs n)) ∧ w' = W) := fun W hW => headlen_any zs sa n sc W (hn.below hW) hn1 hnb hok
  have HNN : Hid (∀ W, Below w.heap.size w W → Nms .i64 W sa n zs) := fun W hW => hn.below hW
  have HN : Hid (∀ W, Below w.heap.size w W → ∀ k, k < n → ∃ b off, sa = some ⟨b, off, none⟩ ∧ W.cell? ⟨b, off + k, none⟩ = some (.int .i64 (zs k))) := by
    intro W hW k hk
    rcases hn.below hW with h | ⟨b, off, h1, h2, h3⟩
    · omega
    · exact ⟨b, off, h1, h3 k hk⟩
  have HLB := hid hLb
  have HFIT := hid hfit
  have HOK := hid hok
  clear hsi h hn hsz hLb hfit hok
  go_enter Try.func13, Try.ntmps13
  go_wp2
  refine wp_scope_jumps 0 (fun a' w' => RefL (.slice a n c) (.slice sa n sc) 4 a' ∧ Below w.heap.size w w') (fun _ _ => 0) rfl ?_ ?_
  · go_wp2_with (go_at_call 24; refine HSI.out.mono ?_; rintro e w1 ⟨rfl, hw1⟩; obtain rfl := hw1.symm)
    go_loopw [6, 23] (fun v i wr => ∃ k : Nat, k ≤ n ∧ i = .int .i64 k ∧ wr.ownsRow w.heap.size 22 1 v (zn zs k) (lvs zs (fun r => .slice (A r) (L r) (C r)) n k) ∧ Below w.heap.size w wr ∧ Fits zs L k) (fun _ i _ => n - (intOf i).toNat)
    case atStart => exact ⟨0, by omega, rfl, World.ownsRow_nil _ _ _ _, Below.refl _ _, fun r hr => by omega⟩
    case round =>
      obtain ⟨k, hk, rfl, hown, hb, hfk⟩ := hrel
      by_cases hkn : k < n
      · obtain ⟨b1, o1, rfl, hb1, c1, y1⟩ := parts_at (HP.out _ hb) k hkn
        obtain ⟨b2, o2, rfl, c2⟩ := HN.out _ hb k hkn
        have hz := hb.size
        have hx := HOK.out k hkn
        unfold okS at hx
        obtain ⟨hx1, hx2⟩ := hx
        obtain ⟨z, ez⟩ : ∃ z, zs k = z := ⟨_, rfl⟩
        rw [ez] at c2 hx1 hx2
        have hlk := HLB.out k hkn
        have hznk := zn_le zs k
        have k1 : (k : Int) < (n : Int) := by omega
        have k2 : (0 : Int) ≤ (k : Int) := by omega
        have HO := hid hown
        have HB := hid hb
        have HFK := hid hfk
        have EZ := hid ez
        clear hown hb hfk ez y1
        by_cases h0 : z = 0
        · subst h0
          go_wp2_with (at_builtin; refine wpList_append_part wr rfl _ _ rfl w.heap.size u6 (zn zs k) _ (.slice (A k) (L k) (C k)) rfl rfl HO.out rfl (by omega) hz ?_; intro v3 w3 ho3 hg3; have HB3 := hid (below_grown HB.out HO.out hz hg3); have HO3 := hid ho3; clear ho3 hg3)
          go_roundw
          case rel =>
            refine ⟨k + 1, by omega, by go_num, ?_, HB3.out, fun r hr hne => ?_⟩
            · rw [(zn_succ zs k).1 EZ.out, lvs_succ zs _ n k hkn EZ.out]
              exact HO3.out
            · by_cases e : r = k
              · subst e; exact absurd EZ.out hne
              · exact HFK.out r (by omega) hne
          case measure => simp [intOf]; omega
        · have h0' : (z == 0) = false := by simpa using h0
          obtain ⟨l, el⟩ : ∃ l, L k = l := ⟨_, rfl⟩
          rw [el] at c1 hlk
          have EL := hid el
          have H0 := hid h0
          clear el
          by_cases hlz : (l : Int) = z
          · have hlz' : ((l : Int) != z) = false := by rw [bne_eq_false_iff_eq]; exact hlz
            have HLZ := hid hlz
            clear hlz h0
            go_wp2
            go_roundw
            case rel =>
              refine ⟨k + 1, by omega, by go_num, ?_, HB.out, fun r hr hne => ?_⟩
              · rw [(zn_succ zs k).2 (by rw [EZ.out]; exact H0.out), lvs_skip zs _ n k (by rw [EZ.out]; exact H0.out)]
                exact HO.out
              · by_cases e : r = k
                · subst e; rw [EL.out, EZ.out]; exact HLZ.out
                · exact HFK.out r (by omega) hne
            case measure => simp [intOf]; omega
          · have hlz' : ((l : Int) != z) = true := by rw [bne_iff_ne]; exact hlz
            clear hlz h0
            go_wp2
            go_step3
            exact ⟨rfl, ⟨_, _, _, _, _, _, _, _, _, _, _, _, _, _, _, _, _, _, _, _, _, _, _, _, _, _, _, _, _, _, _, _, _, _, _, _, _, _, _, _, _, _, _, _, _, _, _, _, _, _, _, _, _, rfl⟩, HB.out⟩
      · have ek : k = n := by omega
        subst ek
        exact absurd hfk HFIT.out
  · rintro a' w' ⟨⟨u6, u7, u9, u10, u11, u12, u13, u14, u15, u16, u17, u18, u19, u20, u21, u22, u23, u24, u25, u26, u27, u28, u29, u30, u31, u32, u33, u34, u35, u36, u37, u38, u39, u40, u41, u42, u43, u44, u45, u46, u47, u48, u49, u50, u51, u52, u53, u54, u55, u56, u57, u58, u59, rfl⟩, hbe⟩
    have HBE := hid hbe
    clear hbe
    go_wp2
    simp only [Exit.jump]
    go_ret2
    exact ⟨rfl, HBE.out⟩

set_option maxRecDepth 20000 in
set_option maxHeartbeats 1000000 in
theorem lay_big (zs : Nat → Int) (a : Option Addr) (n c : Nat) (A : Nat → Option Addr) (L C : Nat → Nat) (f : Nat → Nat → Int) (sa : Option Addr) (sc : Nat) (w : World) (h : Parts w a n A L C f) (hn : Nms .i64 w sa n zs) (hsz : szB zs n = true) (hLb : ∀ r, r < n → L r ≤ 9223372036854775807) (hfit : Fits zs L n) (ht : ¬ hdL zs n + loL zs L n < 4294967296) :
    Calls Try.prog 13 #[.slice a n c, .slice sa n sc] w fun e w' => e = .returned (.tuple #[.slice none 0 0, .int .i64 1]) ∧ Below w.heap.size w w' := by
  obtain ⟨hn1, hnb, hok⟩ := szB_out hsz
  have hH := hdL_bd n hok
  have hsi := sizes_any zs sa n sc w hn (by omega)
  rw [hsz] at hsi
  have HSI := hid hsi
  have HP : Hid (∀ W, Below w.heap.size w W → Parts W a n A L C f) := fun W hW => h.below hW
  have HHL : Hid (∀ W, Below w.heap.size w W → Calls Try.prog 25 #[.slice sa n sc] W fun e w' => e = .returned (.int .u64 (hdL zs n)) ∧ w' = W) := fun W hW => headlen_any zs sa n sc W (hn.below hW) hn1 hnb hok
  have HNN : Hid (∀ W, Below w.heap.size w W → Nms .i64 W sa n zs) := fun W hW => hn.below hW
  have HN : Hid (∀ W, Below w.heap.size w W → ∀ k, k < n → ∃ b off, sa = some ⟨b, off, none⟩ ∧ W.cell? ⟨b, off + k, none⟩ = some (.int .i64 (zs k))) := by
    intro W hW k hk
    rcases hn.below hW with h | ⟨b, off, h1, h2, h3⟩
    · omega
    · exact ⟨b, off, h1, h3 k hk⟩
  have HLB := hid hLb
  have HFIT := hid hfit
  have HOK := hid hok
  clear hsi h hn hsz hLb hfit hok
  go_enter Try.func13, Try.ntmps13
  go_wp2
  refine wp_scope_jumps 0 (fun a' w' => RefL (.slice a n c) (.slice sa n sc) 1 a' ∧ Below w.heap.size w w') (fun _ _ => 0) rfl ?_ ?_
  · go_wp2_with (go_at_call 24; refine HSI.out.mono ?_; rintro e w1 ⟨rfl, hw1⟩; obtain rfl := hw1.symm)
    go_loopw [6, 23] (fun v i wr => ∃ k : Nat, k ≤ n ∧ i = .int .i64 k ∧ wr.ownsRow w.heap.size 22 1 v (zn zs k) (lvs zs (fun r => .slice (A r) (L r) (C r)) n k) ∧ Below w.heap.size w wr ∧ Fits zs L k) (fun _ i _ => n - (intOf i).toNat)
    case atStart => exact ⟨0, by omega, rfl, World.ownsRow_nil _ _ _ _, Below.refl _ _, fun r hr => by omega⟩
    case round =>
      obtain ⟨k, hk, rfl, hown, hb, hfk⟩ := hrel
      by_cases hkn : k < n
      · obtain ⟨b1, o1, rfl, hb1, c1, y1⟩ := parts_at (HP.out _ hb) k hkn
        obtain ⟨b2, o2, rfl, c2⟩ := HN.out _ hb k hkn
        have hz := hb.size
        have hx := HOK.out k hkn
        unfold okS at hx
        obtain ⟨hx1, hx2⟩ := hx
        obtain ⟨z, ez⟩ : ∃ z, zs k = z := ⟨_, rfl⟩
        rw [ez] at c2 hx1 hx2
        have hlk := HLB.out k hkn
        have hznk := zn_le zs k
        have k1 : (k : Int) < (n : Int) := by omega
        have k2 : (0 : Int) ≤ (k : Int) := by omega
        have HO := hid hown
        have HB := hid hb
        have HFK := hid hfk
        have EZ := hid ez
        clear hown hb hfk ez y1
        by_cases h0 : z = 0
        · subst h0
          go_wp2_with (at_builtin; refine wpList_append_part wr rfl _ _ rfl w.heap.size u6 (zn zs k) _ (.slice (A k) (L k) (C k)) rfl rfl HO.out rfl (by omega) hz ?_; intro v3 w3 ho3 hg3; have HB3 := hid (below_grown HB.out HO.out hz hg3); have HO3 := hid ho3; clear ho3 hg3)
          go_roundw
          case rel =>
            refine ⟨k + 1, by omega, by go_num, ?_, HB3.out, fun r hr hne => ?_⟩
            · rw [(zn_succ zs k).1 EZ.out, lvs_succ zs _ n k hkn EZ.out]
              exact HO3.out
            · by_cases e : r = k
              · subst e; exact absurd EZ.out hne
              · exact HFK.out r (by omega) hne
          case measure => simp [intOf]; omega
        · have h0' : (z == 0) = false := by simpa using h0
          obtain ⟨l, el⟩ : ∃ l, L k = l := ⟨_, rfl⟩
          rw [el] at c1 hlk
          have EL := hid el
          have H0 := hid h0
          clear el
          by_cases hlz : (l : Int) = z
          · have hlz' : ((l : Int) != z) = false := by rw [bne_eq_false_iff_eq]; exact hlz
            have HLZ := hid hlz
            clear hlz h0
            go_wp2
            go_roundw
            case rel =>
              refine ⟨k + 1, by omega, by go_num, ?_, HB.out, fun r hr hne => ?_⟩
              · rw [(zn_succ zs k).2 (by rw [EZ.out]; exact H0.out), lvs_skip zs _ n k (by rw [EZ.out]; exact H0.out)]
                exact HO.out
              · by_cases e : r = k
                · subst e; rw [EL.out, EZ.out]; exact HLZ.out
                · exact HFK.out r (by omega) hne
            case measure => simp [intOf]; omega
          · exact absurd (by have := HFIT.out k hkn (by rw [EZ.out]; exact h0); rw [EL.out, EZ.out] at this; exact this) hlz
      · have ek : k = n := by omega
        subst ek
        obtain ⟨la, lc, hv, hlp, _⟩ := owns_parts (A := fun j => A (ixz zs k j)) (L := fun j => L (ixz zs k j)) (C := fun j => C (ixz zs k j)) (f := fun j => f (ixz zs k j)) hown (fun j hj => loose_bys (HP.out _ hb) hj)
        subst hv
        have hznk := zn_le zs k
        have hsum := loose_sum zs L k k (Nat.le_refl _)
        have hcat := loose_cats zs f L k k (Nat.le_refl _)
        have htot := total_any (hdL zs k) la (zn zs k) lc _ _ _ _ wr hlp (by omega) (by omega) (fun j hj => HLB.out _ (ixz_lt zs hj))
        rw [hsum] at htot
        rw [totR_big ht] at htot
        obtain ⟨S, eS⟩ : ∃ S, hdL zs k = S := ⟨_, rfl⟩
        obtain ⟨Z, eZ⟩ : ∃ Z, zn zs k = Z := ⟨_, rfl⟩
        have hh := HHL.out wr hb
        rw [eS, eZ] at htot
        rw [eS] at hh
        rw [eZ]
        have HTOT := hid htot
        have HH := hid hh
        have HB := hid hb
        clear hown hb hfk hlp hsum hcat htot hh ht eS eZ hH
        go_wp2_with (first
          | (go_at_call 25; refine HH.out.mono ?_; rintro e w4 ⟨rfl, hw4⟩; obtain rfl := hw4.symm)
          | (go_at_call 33; refine HTOT.out.mono ?_; rintro e w5 ⟨rfl, hw5⟩; obtain rfl := hw5.symm))
        go_step3
        exact ⟨rfl, ⟨_, _, _, _, _, _, _, _, _, _, _, _, _, _, _, _, _, _, _, _, _, _, _, _, _, _, _, _, _, _, _, _, _, _, _, _, _, _, _, _, _, _, _, _, _, _, _, _, _, _, _, _, _, rfl⟩, HB.out⟩
  · rintro a' w' ⟨⟨u6, u7, u9, u10, u11, u12, u13, u14, u15, u16, u17, u18, u19, u20, u21, u22, u23, u24, u25, u26, u27, u28, u29, u30, u31, u32, u33, u34, u35, u36, u37, u38, u39, u40, u41, u42, u43, u44, u45, u46, u47, u48, u49, u50, u51, u52, u53, u54, u55, u56, u57, u58, u59, rfl⟩, hbe⟩
    have HBE := hid hbe
    clear hbe
    go_wp2
    simp only [Exit.jump]
    go_ret2
    exact ⟨rfl, HBE.out⟩

end Go.Proofs.Ytppjpodlnelomaa
