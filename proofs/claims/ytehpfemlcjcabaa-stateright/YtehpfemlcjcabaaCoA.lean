/-
  What the containers of layer 7 share.
-/

import Derived.Test.YtehpfemlcjcabaaMaE
import Derived.Test.YtehpfemlcjcabaaZaF
import Derived.Test.YtehpfemlcjcabaaZaH
import Derived.Deep.Onto

namespace Go.Proofs.Ytehpfemlcjcabaa

open Go.RowKit

set_option linter.unusedVariables false

set_option linter.unusedSimpArgs false

theorem bt_nmB (n : Int) : (#[.int .u8 (Z.bt n 0), .int .u8 (Z.bt n 1), .int .u8 (Z.bt n 2), .int .u8 (Z.bt n 3), .int .u8 (Z.bt n 4), .int .u8 (Z.bt n 5), .int .u8 (Z.bt n 6), .int .u8 (Z.bt n 7)] : Array Value) = vs .u8 8 (nmB n) := by
  have e : vs .u8 8 (nmB n) = #[.int .u8 (nmB n 0), .int .u8 (nmB n 1), .int .u8 (nmB n 2), .int .u8 (nmB n 3), .int .u8 (nmB n 4), .int .u8 (nmB n 5), .int .u8 (nmB n 6), .int .u8 (nmB n 7)] := rfl
  rw [e]
  have h0 : nmB n 0 = Z.bt n 0 := by show n / 1 % 256 = n % 256; omega
  have h1 : nmB n 1 = Z.bt n 1 := rfl
  have h2 : nmB n 2 = Z.bt n 2 := rfl
  have h3 : nmB n 3 = Z.bt n 3 := rfl
  have h4 : nmB n 4 = Z.bt n 4 := rfl
  have h5 : nmB n 5 = Z.bt n 5 := rfl
  have h6 : nmB n 6 = Z.bt n 6 := rfl
  have h7 : nmB n 7 = Z.bt n 7 := rfl
  rw [h0, h1, h2, h3, h4, h5, h6, h7]

theorem nmB_bd (n : Int) (j : Nat) : 0 ≤ nmB n j ∧ nmB n j < 256 := by
  unfold nmB
  exact ⟨Int.emod_nonneg _ (by decide), Int.emod_lt_of_pos _ (by decide)⟩

/-- Eight bytes in an array, kept whole. -/
def sv8 (a : Addr) (v : Value) : Sem Unit := storeVar 110 a v

theorem sv8_eq (a : Addr) (v : Value) : storeVar 110 a v = sv8 a v := rfl

theorem sv8_newv (W : World) (o c : Nat → Int) : (sv8 ⟨W.heap.size, 0, none⟩ (.agg (vs .u8 8 c))).run Try.prog (W.alloc (.cells (vs .u8 8 o) 110)) = .ok () (W.alloc (.cells (vs .u8 8 c) 110)) :=
  run_storeVar_new W 110 _ _ (by rw [vs_size]; kernel_rfl) (by rw [vs_size, vs_size]) (vs_one _ _ _)

theorem zero_8 : ∀ w : World, (zeroValue 110).run Try.prog w = .ok (.agg (vs .u8 8 fun _ => 0)) w := (zero_of_info (n := 8) (by kernel_rfl)).1

theorem bys_new {w : World} {t : TypeId} {g n : Nat} {f : Nat → Int} (h : w.heap[g]? = some (.cells (vs .u8 n f) t)) (hn : n ≤ 9223372036854775807) : Bys w (some ⟨g, 0, none⟩) n n f :=
  .inr (.inr ⟨g, 0, rfl, Nat.le_refl _, hn, (Array.getElem?_eq_some_iff.1 h).1, fun j hj => by rw [Nat.zero_add]; exact row_int h j hj⟩)

end Go.Proofs.Ytehpfemlcjcabaa

namespace Go.Proofs.Ytehpfemlcjcabaa

open Go.RowKit

set_option linter.unusedVariables false

set_option linter.unusedSimpArgs false

attribute [local go_sem ↓] sv24_eq lv24_eq ix22_eq slr_eq bd27_eq bs22_eq sv8_eq

set_option maxRecDepth 20000 in
set_option maxHeartbeats 1000000 in
theorem nbytes_any (n : Int) (w : World) (h0 : 0 ≤ n) (h1 : n < 18446744073709551616) :
    Calls Try.prog 62 #[.int .u64 n] w fun e w' => ∃ g, e = .returned (.slice (some ⟨g, 0, none⟩) 8 8) ∧ Below w.heap.size w w' ∧ w.heap.size ≤ g ∧ w'.heap[g]? = some (.cells (vs .u8 8 (nmB n)) 110) := by
  have hb := Z.bytes_any n w h0 h1
  rw [bt_nmB] at hb
  have HB := hid hb
  have sv := fun W => sv8_newv W (fun _ => 0) (nmB n)
  have z := zero_8
  clear hb
  go_enter Try.func62, Try.ntmps62
  go_wp2_with (go_at_call 60; refine HB.out.mono ?_; rintro e w1 ⟨rfl, hb1⟩)
  go_ret
  exact ⟨w1.heap.size, rfl, hb1.alloc hb1.size _, hb1.size, heap_new rfl⟩

end Go.Proofs.Ytehpfemlcjcabaa

namespace Go.Proofs.Ytehpfemlcjcabaa

open Go.RowKit

set_option linter.unusedVariables false

set_option linter.unusedSimpArgs false

/-- Bytes of parts, one behind the other. -/
def ct7 : List (Nat × (Nat → Int)) → Nat → Int
  | [], _ => 0
  | p :: r, q => if q < p.1 then p.2 q else ct7 r (q - p.1)

def ln7 : List (Nat × (Nat → Int)) → Nat
  | [] => 0
  | p :: r => p.1 + ln7 r

def cl7 : List (Nat × (Nat → Int)) → List Int
  | [] => []
  | p :: r => (List.range p.1).map p.2 ++ cl7 r

theorem cl7_len : ∀ qs, (cl7 qs).length = ln7 qs
  | [] => rfl
  | p :: r => by
    show ((List.range p.1).map p.2 ++ cl7 r).length = p.1 + ln7 r
    rw [List.length_append, List.length_map, List.length_range, cl7_len r]

theorem cl7_app : ∀ qs p, cl7 (qs ++ [p]) = cl7 qs ++ (List.range p.1).map p.2
  | [], p => by show (List.range p.1).map p.2 ++ [] = [] ++ _; rw [List.append_nil, List.nil_append]
  | x :: r, p => by
    show (List.range x.1).map x.2 ++ cl7 (r ++ [p]) = ((List.range x.1).map x.2 ++ cl7 r) ++ _
    rw [cl7_app r p, List.append_assoc]

theorem ct7_cl7 : ∀ qs q, q < ln7 qs → (cl7 qs)[q]? = some (ct7 qs q)
  | [], q, h => absurd h (Nat.not_lt_zero _)
  | p :: r, q, h => by
    have h' : q < p.1 + ln7 r := h
    show ((List.range p.1).map p.2 ++ cl7 r)[q]? = some (if q < p.1 then p.2 q else ct7 r (q - p.1))
    by_cases hq : q < p.1
    · rw [if_pos hq, List.getElem?_append_left (by simpa using hq), List.getElem?_map, List.getElem?_range hq]
      rfl
    · rw [if_neg hq, List.getElem?_append_right (by simpa using hq)]
      rw [List.length_map, List.length_range]
      exact ct7_cl7 r (q - p.1) (by omega)

theorem bl_ct7 (qs : List (Nat × (Nat → Int))) : bl (ct7 qs) (ln7 qs) = Z.iv (cl7 qs) := by
  apply List.ext_getElem?
  intro q
  unfold Z.iv
  rw [List.getElem?_map]
  by_cases hq : q < ln7 qs
  · rw [bl_at _ _ _ hq, ct7_cl7 qs q hq]
    rfl
  · rw [List.getElem?_eq_none (by rw [bl_len]; omega), List.getElem?_eq_none (by rw [cl7_len]; omega)]
    rfl

theorem ln7_app : ∀ qs p, ln7 (qs ++ [p]) = ln7 qs + p.1
  | [], p => by show p.1 + 0 = 0 + p.1; omega
  | x :: r, p => by
    show x.1 + ln7 (r ++ [p]) = x.1 + ln7 r + p.1
    rw [ln7_app r p]; omega

/-- A part: where it lies, its length, its room, its bytes. -/
abbrev Pt := Option Addr × Nat × Nat × (Nat → Int)

def nilP : Pt := (none, 0, 0, fun _ => 0)

def ptv (p : Pt) : Value := .slice p.1 p.2.1 p.2.2.1

def ptb (p : Pt) : Nat × (Nat → Int) := (p.2.1, p.2.2.2)

theorem pt_cell {w : World} {g : Nat} {ps : List Pt} {t : TypeId} (hg : w.heap[g]? = some (.cells (ps.map ptv).toArray t)) (r : Nat) (hr : r < ps.length) : w.cell? ⟨g, r, none⟩ = some (ptv (ps.getD r nilP)) := by
  rw [row_cell hg, List.getElem?_toArray, List.getElem?_map, List.getD_eq_getElem?_getD, List.getElem?_eq_getElem hr]
  rfl

theorem lay_head (ps : List Pt) (zs : Nat → Int) (H : Nat) (hz : ∀ r, r < ps.length → zs r ≠ 0) : ∀ n, n ≤ ps.length → Z.hdB zs (fun r => (ps.getD r nilP).2.2.2) (fun r => (ps.getD r nilP).2.1) H n = cl7 ((ps.take n).map ptb)
  | 0, _ => rfl
  | n + 1, h => by
    have ih := lay_head ps zs H hz n (by omega)
    show Z.hdB _ _ _ H n ++ (if zs n = 0 then _ else Z.prt _ _ n) = _
    rw [if_neg (hz n (by omega)), ih, List.take_succ_eq_append_getElem (by omega), List.map_append, List.map_cons, List.map_nil, cl7_app]
    congr 1
    have e : ps.getD n nilP = ps[n] := by rw [List.getD_eq_getElem?_getD, List.getElem?_eq_getElem (by omega)]; rfl
    unfold Z.prt ptb
    simp only [e]

theorem lay_hdL (ps : List Pt) (zs : Nat → Int) (hz : ∀ r, r < ps.length → zs r = ((ps.getD r nilP).2.1 : Int) ∧ 1 ≤ (ps.getD r nilP).2.1) : ∀ n, n ≤ ps.length → Z.hdL zs n = ln7 ((ps.take n).map ptb)
  | 0, _ => rfl
  | n + 1, h => by
    have ih := lay_hdL ps zs hz n (by omega)
    have h1 := hz n (by omega)
    have e : ps.getD n nilP = ps[n] := by rw [List.getD_eq_getElem?_getD, List.getElem?_eq_getElem (by omega)]; rfl
    show Z.hdL zs n + Z.inH (zs n) = _
    rw [ih, List.take_succ_eq_append_getElem (by omega), List.map_append, List.map_cons, List.map_nil, ln7_app]
    congr 1
    rw [e] at h1
    unfold Z.inH ptb
    rw [if_neg (by omega), h1.1]
    omega

theorem lay_lo (zs : Nat → Int) (F : Nat → Nat → Int) (L : Nat → Nat) (n : Nat) (hz : ∀ r, r < n → zs r ≠ 0) : Z.loL zs L n = 0 ∧ Z.loB zs F L n = [] := by
  induction n with
  | zero => exact ⟨rfl, rfl⟩
  | succ n ih =>
    have h := ih (fun r hr => hz r (by omega))
    show Z.loL zs L n + (if zs n = 0 then L n else 0) = 0 ∧ Z.loB zs F L n ++ (if zs n = 0 then Z.prt F L n else []) = []
    rw [if_neg (hz n (by omega)), if_neg (hz n (by omega)), h.1, h.2]
    exact ⟨rfl, rfl⟩

/-- Numbers in a slice made and indexed, whole. -/
def mkI (x y : Value) : Sem Value := Instr.makeSlice 81 x y

theorem mkI_eq (x y : Value) : Instr.makeSlice 81 x y = mkI x y := rfl

theorem infoI : ∃ i, Try.prog.info? 3 = some i ∧ i.zero = some (.int .i64 0) ∧ i.size = 1 ∧ i.bytes = 8 := by
  have h : (Try.prog.info? 3).map (fun i => (i.zero, i.size, i.bytes)) = some (some (.int .i64 0), 1, 8) := by kernel_rfl
  cases hq : Try.prog.info? 3 with
  | none => simp [hq] at h
  | some i => simp [hq] at h; exact ⟨i, rfl, h.1, h.2.1, h.2.2⟩

theorem made_vs (n : Nat) : madeCells (Value.int .i64 0).cells (n * 1) = vs .i64 n (fun _ => 0) := by
  apply Array.ext_getElem?
  intro i
  have e : (Value.int .i64 0).cells = #[.int .i64 0] := rfl
  rw [e]
  by_cases hi : i < n
  · rw [vs_get _ _ _ _ hi]
    simp [madeCells, hi, Nat.mod_one]
  · rw [Array.getElem?_eq_none (by rw [size_madeCells]; omega), Array.getElem?_eq_none (by rw [vs_size]; omega)]

theorem mkI_run (W : World) (n : Nat) (hn : n ≤ 1000) : (mkI (.int .i64 n) (.int .i64 n)).run Try.prog W = .ok (.slice (some ⟨W.heap.size, 0, none⟩) n n) (W.alloc (.cells (vs .i64 n fun _ => 0) 3)) := by
  obtain ⟨i, hi, hz0, hz1, hz2⟩ := infoI
  have h := run_make (P := Try.prog) W 81 3 i _ Try.underlying81 hi hz0 .i64 .i64 n n (by omega) (Int.le_refl _) (by rw [hz2]; omega) (by omega)
  rw [hz1, Int.toNat_natCast, made_vs] at h
  unfold mkI
  rw [h]

def ixI (x i : Value) : Sem Value := Instr.indexAt 81 x i

theorem ixI_eq (x i : Value) : Instr.indexAt 81 x i = ixI x i := rfl

theorem size_i64 (w : World) : (sizeOf 3).run Try.prog w = .ok 1 w := by
  have hi : (Try.prog.info? 3).map (·.size) = some 1 := by kernel_rfl
  cases hq : Try.prog.info? 3 with
  | none => simp [hq] at hi
  | some i => simp [hq] at hi; simp [sizeOf, typeInfo, hq, hi]

theorem ixI_run (w : World) (b len cap i : Nat) (h : i < len) : (ixI (.slice (some ⟨b, 0, none⟩) len cap) (.int .i64 i)).run Try.prog w = .ok (.pointer (some ⟨b, i, none⟩)) w := by
  unfold ixI Instr.indexAt
  have h1 : (0 : Int) ≤ (i : Int) ∧ (i : Int) < (len : Int) := by omega
  simp only [asIntOf, Sem.run_bind, Sem.run_pure, Result.andThen_ok, run_underlying Try.underlying81, if_pos h1, size_i64, Addr.add_mid, Int.toNat_natCast, Nat.mul_one, Nat.zero_add]

/-- A part's address, whole. -/
def ixP (x i : Value) : Sem Value := Instr.indexAt 80 x i

theorem ixP_eq (x i : Value) : Instr.indexAt 80 x i = ixP x i := rfl

theorem size_bs (w : World) : (sizeOf 39).run Try.prog w = .ok 1 w := by
  have hi : (Try.prog.info? 39).map (·.size) = some 1 := by kernel_rfl
  cases hq : Try.prog.info? 39 with
  | none => simp [hq] at hi
  | some i => simp [hq] at hi; simp [sizeOf, typeInfo, hq, hi]

theorem ixP_run (w : World) (b off len cap i : Nat) (h : i < len) : (ixP (.slice (some ⟨b, off, none⟩) len cap) (.int .i64 i)).run Try.prog w = .ok (.pointer (some ⟨b, off + i, none⟩)) w := by
  unfold ixP Instr.indexAt
  have h1 : (0 : Int) ≤ (i : Int) ∧ (i : Int) < (len : Int) := by omega
  simp only [asIntOf, Sem.run_bind, Sem.run_pure, Result.andThen_ok, run_underlying Try.underlying80, if_pos h1, size_bs, Addr.add_mid, Int.toNat_natCast, Nat.mul_one]

end Go.Proofs.Ytehpfemlcjcabaa

namespace Go.Proofs.Ytehpfemlcjcabaa

open Go.RowKit

set_option linter.unusedVariables false

set_option linter.unusedSimpArgs false

attribute [local go_sem ↓] sv24_eq lv24_eq ix22_eq slr_eq bd27_eq bs22_eq sv8_eq mkI_eq ixI_eq ixP_eq

set_option maxRecDepth 20000 in
set_option maxHeartbeats 1000000 in
theorem lay7 (ps : List Pt) (g : Nat) (w : World) (hg : w.heap[g]? = some (.cells (ps.map ptv).toArray 39)) (hb : ∀ r, r < ps.length → Bys w (ps.getD r nilP).1 (ps.getD r nilP).2.1 (ps.getD r nilP).2.2.1 (ps.getD r nilP).2.2.2) (hl : ∀ r, r < ps.length → 1 ≤ (ps.getD r nilP).2.1 ∧ (ps.getD r nilP).2.1 ≤ 65536) (h1 : 1 ≤ ps.length) (h2 : ps.length ≤ 64) :
    Calls Try.prog 61 #[.slice (some ⟨g, 0, none⟩) ps.length ps.length] w fun e w' => ∃ v, e = .returned v ∧ w'.ownsRow w.heap.size 5 1 v (ln7 (ps.map ptb)) (bl (ct7 (ps.map ptb)) (ln7 (ps.map ptb))) ∧ Below w.heap.size w w' := by
  obtain ⟨n, en⟩ : ∃ n, ps.length = n := ⟨_, rfl⟩
  obtain ⟨L, eL⟩ : ∃ L : Nat → Nat, (fun r => (ps.getD r nilP).2.1) = L := ⟨_, rfl⟩
  have hL : ∀ r, (ps.getD r nilP).2.1 = L r := fun r => congrFun eL r
  have hcell : ∀ r, r < n → ∃ a c, w.cell? ⟨g, r, none⟩ = some (.slice a (L r) c) := fun r hr => by
    refine ⟨(ps.getD r nilP).1, (ps.getD r nilP).2.2.1, ?_⟩
    rw [pt_cell hg r (by omega), ← hL r]
    rfl
  have hgl := (Array.getElem?_eq_some_iff.1 hg).1
  have hlay : ∀ (W : World) sa, Below w.heap.size w W → W.heap[sa]? = some (.cells (vs .i64 n fun r => (L r : Int)) 3) → Calls Try.prog 22 #[.slice (some ⟨g, 0, none⟩) n n, .slice (some ⟨sa, 0, none⟩) n n] W fun e w' => ∃ v, e = .returned (.tuple #[v, .int .i64 0]) ∧ w'.ownsRow W.heap.size 5 1 v (ln7 (ps.map ptb)) (bl (ct7 (ps.map ptb)) (ln7 (ps.map ptb))) ∧ Below W.heap.size W w' := fun W sa hW hs => by
    have hz : ∀ r, r < ps.length → ((L r : Int)) = ((ps.getD r nilP).2.1 : Int) ∧ 1 ≤ (ps.getD r nilP).2.1 := fun r hr => ⟨by rw [hL r], (hl r hr).1⟩
    have hz0 : ∀ r, r < ps.length → ((L r : Int)) ≠ 0 := fun r hr => by have := hz r hr; omega
    have eh := lay_hdL ps (fun r => (L r : Int)) hz ps.length (Nat.le_refl _)
    rw [List.take_of_length_le (Nat.le_refl _), en] at eh
    have el := lay_lo (fun r => (L r : Int)) (fun r => (ps.getD r nilP).2.2.2) L n (fun r hr => hz0 r (by omega))
    have ec := lay_head ps (fun r => (L r : Int)) (Z.hdL (fun r => (L r : Int)) n) hz0 ps.length (Nat.le_refl _)
    rw [List.take_of_length_le (Nat.le_refl _), en, eL] at ec
    have hsum : ln7 (ps.map ptb) ≤ 64 * 65536 := by
      have key : ∀ l : List Pt, (∀ p, p ∈ l → p.2.1 ≤ 65536) → ln7 (l.map ptb) ≤ l.length * 65536 := by
        intro l
        induction l with
        | nil => intro _; exact Nat.zero_le _
        | cons x r ih =>
          intro hh
          have a1 := ih (fun p hp => hh p (by simp [hp]))
          have a2 := hh x (by simp)
          show x.2.1 + ln7 (r.map ptb) ≤ (r.length + 1) * 65536
          omega
      have := key ps (fun p hp => by
        obtain ⟨r, hr, rfl⟩ := List.mem_iff_getElem.1 hp
        have := (hl r hr).2
        rw [List.getD_eq_getElem?_getD, List.getElem?_eq_getElem hr] at this
        exact this)
      exact Nat.le_trans this (Nat.mul_le_mul_right _ h2)
    have hpar : Z.Parts W (some ⟨g, 0, none⟩) n (fun r => (ps.getD r nilP).1) L (fun r => (ps.getD r nilP).2.2.1) (fun r => (ps.getD r nilP).2.2.2) := by
      refine .inr ⟨g, 0, rfl, Nat.lt_of_lt_of_le hgl hW.size, fun r hr => ⟨?_, ?_⟩⟩
      · rw [Nat.zero_add, below_cell hW hgl, pt_cell hg r (by omega), ← hL r]
        rfl
      · have := (hb r (by omega)).below hW
        rw [hL r] at this
        exact this
    have hnm : Z.Nms .i64 W (some ⟨sa, 0, none⟩) n (fun r => (L r : Int)) := .inr ⟨sa, 0, rfl, (Array.getElem?_eq_some_iff.1 hs).1, fun j hj => by rw [Nat.zero_add]; exact row_int hs j hj⟩
    have := Z.lay_ok (fun r => (L r : Int)) (some ⟨g, 0, none⟩) n n _ L _ _ (some ⟨sa, 0, none⟩) n W hpar hnm (Z.szB_true (by omega) (by omega) (fun i hi => ⟨by omega, by have := (hl i (by omega)).2; rw [hL i] at this; omega⟩)) (fun r hr => by have := (hl r (by omega)).2; rw [hL r] at this; omega) (fun r hr _ => rfl) (by rw [eh, el.1]; omega)
    refine this.mono ?_
    rintro e w' ⟨v, rfl, ho, hbw⟩
    refine ⟨v, rfl, ?_, hbw⟩
    rw [el.1, Nat.add_zero, eh] at ho
    have e3 : Z.layC (fun r => (L r : Int)) (fun r => (ps.getD r nilP).2.2.2) L n = cl7 (ps.map ptb) := by
      unfold Z.layC
      rw [el.2, List.append_nil]
      exact ec
    rw [e3, ← bl_ct7] at ho
    exact ho
  have hLb : ∀ r, r < n → L r ≤ 65536 := fun r hr => by have := (hl r (by omega)).2; rw [hL r] at this; exact this
  have mk := mkI_run w n (by omega)
  have HCELL := hid hcell
  have HLAY := hid hlay
  have HLB := hid hLb
  rw [en]
  generalize ln7 (ps.map ptb) = T at HLAY ⊢
  generalize ct7 (ps.map ptb) = V at HLAY ⊢
  have hn64 : n ≤ 64 := by omega
  have hn1 : 1 ≤ n := by omega
  clear hcell hlay hb hl h1 h2 hg eL hL en hLb
  go_enter Try.func61, Try.ntmps61
  go_upto_region 3 with fail
  obtain ⟨W0, hW0⟩ : ∃ W, w.alloc (.cells (vs .i64 n fun _ => 0) 3) = W := ⟨_, rfl⟩
  have hB0 : Below w.heap.size w W0 := by rw [← hW0]; exact (Below.refl _ _).alloc (Nat.le_refl _) _
  have r0 : W0.heap[w.heap.size]? = some (.cells (vs .i64 n fun j => if j < 0 then (L j : Int) else 0) 3) := by
    rw [← hW0]
    exact (heap_new rfl).trans (congrArg (fun c => some (Obj.cells c 3)) (vs_congr fun j _ => (if_neg (Nat.not_lt_zero j)).symm))
  have z0 : W0.heap.size = w.heap.size + 1 := by rw [← hW0]; simp
  rw [hW0]
  obtain ⟨sa, esa⟩ : ∃ s, w.heap.size = s := ⟨_, rfl⟩
  rw [esa] at r0 z0 ⊢
  have ESA := hid esa
  have H0 := hid (And.intro hB0 r0)
  clear hB0 r0 hW0 mk esa z0
  go_loopw [13] (fun i wr => ∃ k : Nat, k ≤ n ∧ i = .int .i64 k ∧ Below w.heap.size w wr ∧ wr.heap[sa]? = some (.cells (vs .i64 n fun j => if j < k then (L j : Int) else 0) 3)) (fun i _ => n - (intOf i).toNat)
  case atStart => exact ⟨0, by omega, rfl, H0.out⟩
  case round =>
    clear H0
    obtain ⟨k, hk, rfl, hB, hr⟩ := hrel
    by_cases hlt : k < n
    · have b1 : decide (k < n) = true := by simp; omega
      have b2 : decide ((k : Int) < (n : Int)) = true := by simp; omega
      obtain ⟨ak, ck, hck⟩ := HCELL.out k hlt
      have c1 := (below_cell hB hgl).trans hck
      have ixp := fun W => ixP_run W g 0 n n k hlt
      simp only [Nat.zero_add] at ixp
      have ixi := fun W => ixI_run W sa n n k hlt
      have c2 := row_cell hr k
      rw [vs_get _ _ _ _ hlt] at c2
      have f2 := row_frozen hr k
      have FIN : Hid (Below w.heap.size w (wr.setCell ⟨sa, k, none⟩ (.int .i64 (L k : Int))) ∧ (wr.setCell ⟨sa, k, none⟩ (.int .i64 (L k : Int))).heap[sa]? = some (.cells (vs .i64 n fun j => if j < k + 1 then (L j : Int) else 0) 3)) := by
        refine ⟨hB.setCell (by rw [ESA.out]; exact Nat.le_refl _) _, (row_set hr k _).trans (congrArg (fun c => some (Obj.cells c 3)) ?_)⟩
        rw [vs_set]
        refine vs_congr fun j hj => ?_
        by_cases e : j = k
        · subst e
          rw [if_pos rfl, if_pos (by omega)]
        · rw [if_neg e]
          by_cases e2 : j < k
          · rw [if_pos e2, if_pos (by omega)]
          · rw [if_neg e2, if_neg (by omega)]
      have hLk := HLB.out k hlt
      clear hB hr hck
      generalize L k = Lk at c1 FIN hLk
      go_wp2
      go_roundw
      case rel => exact ⟨k + 1, by omega, by go_num, FIN.out⟩
      case measure => simp [intOf]; omega
    · obtain rfl : n = k := by omega
      have b1 : decide (n < n) = false := by simp
      have b2 : decide ((n : Int) < (n : Int)) = false := by simp
      have hr' : wr.heap[sa]? = some (.cells (vs .i64 n fun r => (L r : Int)) 3) := hr.trans (congrArg (fun c => some (Obj.cells c 3)) (vs_congr fun j hj => if_pos hj))
      have hla := HLAY.out wr sa hB hr'
      have HLA := hid hla
      have HB := hid hB
      clear hla hB hr hr'
      go_wp2_with (go_at_call 22; refine HLA.out.mono ?_; rintro e w2 ⟨v, rfl, ho, hb2⟩)
      go_ret
      exact ⟨v, rfl, ho.mono HB.out.size, HB.out.trans (hb2.mono HB.out.size)⟩

end Go.Proofs.Ytehpfemlcjcabaa

namespace Go.Proofs.Ytehpfemlcjcabaa

open Go.RowKit

set_option linter.unusedVariables false

set_option linter.unusedSimpArgs false

/-- A field in memory. -/
inductive Seg where
  | by (n : Nat) (f : Nat → Int)
  | nu (e : Int)
  | bo (b : Bool)
  | sl (a : Option Addr) (n c : Nat)

def Seg.len : Seg → Nat
  | .by n _ => n
  | .nu _ => 1
  | .bo _ => 1
  | .sl _ _ _ => 1

def Seg.get : Seg → Nat → Value
  | .by _ f, j => .int .u8 (f j)
  | .nu e, _ => .int .u64 e
  | .bo b, _ => .bool b
  | .sl a n c, _ => .slice a n c

def celL : List Seg → List Value
  | [] => []
  | s :: r => (List.range s.len).map s.get ++ celL r

def cel (l : List Seg) : Array Value := (celL l).toArray

/-- Where a field begins. -/
def sof : List Seg → Nat → Nat
  | [], _ => 0
  | _ :: _, 0 => 0
  | s :: r, i + 1 => s.len + sof r i

def slen : List Seg → Nat
  | [] => 0
  | s :: r => s.len + slen r

theorem celL_len : ∀ l, (celL l).length = slen l
  | [] => rfl
  | s :: r => by
    show ((List.range s.len).map s.get ++ celL r).length = s.len + slen r
    rw [List.length_append, List.length_map, List.length_range, celL_len r]

theorem cel_size (l : List Seg) : (cel l).size = slen l := by
  unfold cel
  rw [List.size_toArray, celL_len]

theorem celL_at : ∀ (l : List Seg) (i j : Nat) (s : Seg), l[i]? = some s → j < s.len → (celL l)[sof l i + j]? = some (s.get j)
  | [], i, j, s, h, _ => by simp at h
  | x :: r, 0, j, s, h, hj => by
    have e : x = s := by simpa using h
    subst e
    show ((List.range x.len).map x.get ++ celL r)[0 + j]? = _
    rw [Nat.zero_add, List.getElem?_append_left (by simpa using hj), List.getElem?_map, List.getElem?_range hj]
    rfl
  | x :: r, i + 1, j, s, h, hj => by
    have h' : r[i]? = some s := by simpa using h
    show ((List.range x.len).map x.get ++ celL r)[x.len + sof r i + j]? = _
    rw [List.getElem?_append_right (by simp; omega), List.length_map, List.length_range, show x.len + sof r i + j - x.len = sof r i + j by omega]
    exact celL_at r i j s h' hj

theorem cel_at (l : List Seg) (i j : Nat) (s : Seg) (h : l[i]? = some s) (hj : j < s.len) : (cel l)[sof l i + j]? = some (s.get j) := by
  unfold cel
  rw [List.getElem?_toArray]
  exact celL_at l i j s h hj

theorem celL_one : ∀ l, ∀ u ∈ celL l, u.oneCell' = true
  | [], u, h => by cases h
  | s :: r, u, h => by
    have h' : u ∈ (List.range s.len).map s.get ++ celL r := h
    rw [List.mem_append] at h'
    rcases h' with h' | h'
    · obtain ⟨j, _, rfl⟩ := List.mem_map.1 h'
      cases s <;> rfl
    · exact celL_one r u h'

theorem cel_one (l : List Seg) : (cel l).all (·.oneCell') = true := by
  rw [Array.all_eq_true']
  intro u hu
  exact celL_one l u (by simpa [cel] using hu)

/-- The bytes, a number, a bool of a field in memory. -/
theorem seg_bys {w : World} {g : Nat} {t : TypeId} {l : List Seg} (h : w.heap[g]? = some (.cells (cel l) t)) (i n : Nat) (f : Nat → Int) (hi : l[i]? = some (.by n f)) (o : Nat) (ho : sof l i = o) (hn : n ≤ 9223372036854775807) : Bys w (some ⟨g, o, none⟩) n n f :=
  .inr (.inr ⟨g, o, rfl, Nat.le_refl _, hn, (Array.getElem?_eq_some_iff.1 h).1, fun j hj => by
    rw [row_cell h, ← ho]
    exact cel_at l i j _ hi hj⟩)

theorem seg_nu {w : World} {g : Nat} {t : TypeId} {l : List Seg} (h : w.heap[g]? = some (.cells (cel l) t)) (i : Nat) (e : Int) (hi : l[i]? = some (.nu e)) (o : Nat) (ho : sof l i = o) : w.cell? ⟨g, o, none⟩ = some (.int .u64 e) := by
  rw [row_cell h, ← ho]
  exact cel_at l i 0 _ hi (by show 0 < 1; omega)

theorem seg_bo {w : World} {g : Nat} {t : TypeId} {l : List Seg} (h : w.heap[g]? = some (.cells (cel l) t)) (i : Nat) (b : Bool) (hi : l[i]? = some (.bo b)) (o : Nat) (ho : sof l i = o) : w.cell? ⟨g, o, none⟩ = some (.bool b) := by
  rw [row_cell h, ← ho]
  exact cel_at l i 0 _ hi (by show 0 < 1; omega)

theorem seg_sl {w : World} {g : Nat} {t : TypeId} {l : List Seg} (h : w.heap[g]? = some (.cells (cel l) t)) (i : Nat) (a : Option Addr) (n c : Nat) (hi : l[i]? = some (.sl a n c)) (o : Nat) (ho : sof l i = o) : w.cell? ⟨g, o, none⟩ = some (.slice a n c) := by
  rw [row_cell h, ← ho]
  exact cel_at l i 0 _ hi (by show 0 < 1; omega)

/-- A slice of parts built, whole. -/
def bsP (n : Nat) (ps : Array (Nat × Value)) : Sem Value := Instr.buildSlice 80 n ps

theorem bsP_eq (n : Nat) (ps : Array (Nat × Value)) : Instr.buildSlice 80 n ps = bsP n ps := rfl

theorem bsP_2 (W : World) (a b : Pt) : (bsP 2 #[(0, ptv a), (1, ptv b)]).run Try.prog W = .ok (.slice (some ⟨W.heap.size, 0, none⟩) 2 2) (W.alloc (.cells ([a, b].map ptv).toArray 39)) := by kernel_rfl

theorem bsP_3 (W : World) (a b c : Pt) : (bsP 3 #[(0, ptv a), (1, ptv b), (2, ptv c)]).run Try.prog W = .ok (.slice (some ⟨W.heap.size, 0, none⟩) 3 3) (W.alloc (.cells ([a, b, c].map ptv).toArray 39)) := by kernel_rfl

theorem bsP_5 (W : World) (a b c d e : Pt) : (bsP 5 #[(0, ptv a), (1, ptv b), (2, ptv c), (3, ptv d), (4, ptv e)]).run Try.prog W = .ok (.slice (some ⟨W.heap.size, 0, none⟩) 5 5) (W.alloc (.cells ([a, b, c, d, e].map ptv).toArray 39)) := by kernel_rfl

theorem bsP_8 (W : World) (a b c d e f g h : Pt) : (bsP 8 #[(0, ptv a), (1, ptv b), (2, ptv c), (3, ptv d), (4, ptv e), (5, ptv f), (6, ptv g), (7, ptv h)]).run Try.prog W = .ok (.slice (some ⟨W.heap.size, 0, none⟩) 8 8) (W.alloc (.cells ([a, b, c, d, e, f, g, h].map ptv).toArray 39)) := by kernel_rfl

theorem own_at {w : World} {B : Nat} {v : Value} {n : Nat} {f : Nat → Int} (h : w.ownsRow B 5 1 v n (bl f n)) : ∃ a cap, v = .slice a n cap ∧ Bys w a n cap f := by
  obtain ⟨a, cap, e, hb, _⟩ := own_bys h
  exact ⟨a, cap, e, hb⟩

end Go.Proofs.Ytehpfemlcjcabaa

namespace Go.Proofs.Ytehpfemlcjcabaa

open Go.RowKit

set_option linter.unusedVariables false

set_option linter.unusedSimpArgs false

/-- A bool's byte. -/
def bbB (b : Bool) (_ : Nat) : Int := if b then 1 else 0

/-- A value of the type Fork: as it lies in memory, its bytes. -/
structure VFork where
  f0 : Nat → Int
  f1 : Nat → Int
  f2 : Int

def sFork (x : VFork) : List Seg := [.by 4 x.f0, .by 4 x.f1, .nu x.f2]

def OkFork (x : VFork) : Prop := (∀ j, j < 4 → 0 ≤ x.f0 j ∧ x.f0 j < 256) ∧ (∀ j, j < 4 → 0 ≤ x.f1 j ∧ x.f1 j < 256) ∧ (0 ≤ x.f2 ∧ x.f2 < 18446744073709551616)

def eFork (x : VFork) : List (Nat × (Nat → Int)) := [(4, x.f0), (4, x.f1), (8, nmB x.f2)]

/-- A value of the type Checkpoint: as it lies in memory, its bytes. -/
structure VCheckpoint where
  f0 : Int
  f1 : Nat → Int

def sCheckpoint (x : VCheckpoint) : List Seg := [.nu x.f0, .by 32 x.f1]

def OkCheckpoint (x : VCheckpoint) : Prop := (0 ≤ x.f0 ∧ x.f0 < 18446744073709551616) ∧ (∀ j, j < 32 → 0 ≤ x.f1 j ∧ x.f1 j < 256)

def eCheckpoint (x : VCheckpoint) : List (Nat × (Nat → Int)) := [(8, nmB x.f0), (32, x.f1)]

/-- A value of the type Validator: as it lies in memory, its bytes. -/
structure VValidator where
  f0 : Nat → Int
  f1 : Nat → Int
  f2 : Int
  f3 : Bool
  f4 : Int
  f5 : Int
  f6 : Int
  f7 : Int

def sValidator (x : VValidator) : List Seg := [.by 48 x.f0, .by 32 x.f1, .nu x.f2, .bo x.f3, .nu x.f4, .nu x.f5, .nu x.f6, .nu x.f7]

def OkValidator (x : VValidator) : Prop := (∀ j, j < 48 → 0 ≤ x.f0 j ∧ x.f0 j < 256) ∧ (∀ j, j < 32 → 0 ≤ x.f1 j ∧ x.f1 j < 256) ∧ (0 ≤ x.f2 ∧ x.f2 < 18446744073709551616) ∧ True ∧ (0 ≤ x.f4 ∧ x.f4 < 18446744073709551616) ∧ (0 ≤ x.f5 ∧ x.f5 < 18446744073709551616) ∧ (0 ≤ x.f6 ∧ x.f6 < 18446744073709551616) ∧ (0 ≤ x.f7 ∧ x.f7 < 18446744073709551616)

def eValidator (x : VValidator) : List (Nat × (Nat → Int)) := [(48, x.f0), (32, x.f1), (8, nmB x.f2), (1, bbB x.f3), (8, nmB x.f4), (8, nmB x.f5), (8, nmB x.f6), (8, nmB x.f7)]

/-- A value of the type Eth1: as it lies in memory, its bytes. -/
structure VEth1 where
  f0 : Nat → Int
  f1 : Int
  f2 : Nat → Int

def sEth1 (x : VEth1) : List Seg := [.by 32 x.f0, .nu x.f1, .by 32 x.f2]

def OkEth1 (x : VEth1) : Prop := (∀ j, j < 32 → 0 ≤ x.f0 j ∧ x.f0 j < 256) ∧ (0 ≤ x.f1 ∧ x.f1 < 18446744073709551616) ∧ (∀ j, j < 32 → 0 ≤ x.f2 j ∧ x.f2 j < 256)

def eEth1 (x : VEth1) : List (Nat × (Nat → Int)) := [(32, x.f0), (8, nmB x.f1), (32, x.f2)]

/-- A value of the type Header: as it lies in memory, its bytes. -/
structure VHeader where
  f0 : Int
  f1 : Int
  f2 : Nat → Int
  f3 : Nat → Int
  f4 : Nat → Int

def sHeader (x : VHeader) : List Seg := [.nu x.f0, .nu x.f1, .by 32 x.f2, .by 32 x.f3, .by 32 x.f4]

def OkHeader (x : VHeader) : Prop := (0 ≤ x.f0 ∧ x.f0 < 18446744073709551616) ∧ (0 ≤ x.f1 ∧ x.f1 < 18446744073709551616) ∧ (∀ j, j < 32 → 0 ≤ x.f2 j ∧ x.f2 j < 256) ∧ (∀ j, j < 32 → 0 ≤ x.f3 j ∧ x.f3 j < 256) ∧ (∀ j, j < 32 → 0 ≤ x.f4 j ∧ x.f4 j < 256)

def eHeader (x : VHeader) : List (Nat × (Nat → Int)) := [(8, nmB x.f0), (8, nmB x.f1), (32, x.f2), (32, x.f3), (32, x.f4)]

end Go.Proofs.Ytehpfemlcjcabaa
