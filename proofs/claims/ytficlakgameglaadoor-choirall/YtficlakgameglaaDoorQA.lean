/-
  What the reference's Sum answers.
  What the reference's Two answers; bytes as a string.
  What the reference's recursion answers.
  append onto a row of roots in a region that draws its order; what the reference's zeros answers.
  What the reference's Tree, Bytes and Mix answer.
  What the reference's Pack answers.
  What SszLays answers.
  What was cut, laid again, is the bytes; ssz.Cut whole.
  A container's bytes, cut again: the parts themselves.
  What the reference's rises answers.
  Strings told apart; which bytes have which parts.
  What the containers of layer 7 share.
  What the reference's Cut answers.
-/
import Derived.Test.YtficlakgameglaaDoorHaE
import Derived.Test.YtficlakgameglaaDoorHaB
import Derived.Test.YtficlakgameglaaDoorHaD
import Derived.Test.YtficlakgameglaaDoorMaC
import Derived.Test.YtficlakgameglaaDoorMaA
import Derived.Test.YtficlakgameglaaDoorZaG
import Derived.Test.YtficlakgameglaaDoorQC
import Derived.Deep.RegionWith
import Derived.Laws.BytesString
import Derived.Deep.Onto

namespace Go.Proofs.YtficlakgameglaaDoor

open Go.RowKit

set_option linter.unusedVariables false

def sv40 (a : Addr) (v : Value) : Sem Unit := storeVar 136 a v

theorem sv40_eq (a : Addr) (v : Value) : storeVar 136 a v = sv40 a v := rfl

attribute [local go_sem ↓] sv24_eq lv24_eq sv40_eq lv40_eq

end Go.Proofs.YtficlakgameglaaDoor

namespace Go.Proofs.YtficlakgameglaaDoor

open Go.RowKit

set_option linter.unusedVariables false

set_option linter.unusedSimpArgs false

attribute [local go_sem ↓] sv24_eq lv24_eq

/-- The string of the first len bytes. -/
def strF (m : Nat → Int) (len : Nat) : ByteArray := ((List.range len).map m).foldl (fun r n => r.push (UInt8.ofNat n.toNat)) ByteArray.empty

theorem conv_bys (w : World) (a : Option Addr) (len cap : Nat) (m : Nat → Int) (h : Bys w a len cap m) :
    (convert 39 9 (.slice a len cap)).run Tryd.prog w = .ok (.string (strF m len)) w := by
  rw [run_convert_bytes_string w _ _ _ _ _ _ Tryd.underlying39 Tryd.underlying5 Tryd.underlying9]
  have hs : ∀ (x : Addr), a = some x → (∀ j, j < len → w.cell? (x.add j) = some (.int .u8 (m j))) → (Conv.bytesToString (.slice a len cap)).run Tryd.prog w = .ok (.string (strF m len)) w := by
    rintro x rfl hc
    refine run_bytesToString w x len cap ((List.range len).map m) ?_
    have hh := run_loadCells_list (P := Tryd.prog) w x (((List.range len).map m).map (Value.int .u8)) (by
      intro j v hj
      rw [List.map_map] at hj
      have hlt := (List.getElem?_eq_some_iff.1 hj).1
      rw [List.length_map, List.length_range] at hlt
      rw [hc j hlt]
      rw [List.getElem?_map, List.getElem?_range hlt] at hj
      simpa using hj)
    rw [List.length_map, List.length_map, List.length_range] at hh
    exact hh
  rcases h with ⟨rfl, rfl, rfl⟩ | ⟨x, rfl, rfl⟩ | ⟨b, off, rfl, h2, h3, h4, h5⟩
  · simp [Conv.bytesToString, strF]
  · exact hs x rfl (fun j hj => by omega)
  · exact hs _ rfl (fun j hj => by rw [addr_add]; exact h5 j hj)

end Go.Proofs.YtficlakgameglaaDoor

namespace Go.Proofs.YtficlakgameglaaDoor

open Go.RowKit

set_option linter.unusedVariables false

set_option linter.unusedSimpArgs false

attribute [local go_sem ↓] sv24_eq lv24_eq ix22_eq slr_eq lv48_eq sv48_eq bd48_eq bd27_eq bs22_eq sl22_eq mk22_eq eqo_eq

theorem Rts.cut {w : World} {a : Option Addr} {len cap n : Nat} {f : Nat → Int} (h : Rts w a len cap f) (hn : n ≤ len) : Rts w a n cap f := by
  rcases h with ⟨h1, h2, h3⟩ | ⟨x, h1, h2⟩ | ⟨b, off, h1, h2, h3, h4⟩
  · exact .inl ⟨h1, by omega, h3⟩
  · exact .inr (.inl ⟨x, h1, by omega⟩)
  · exact .inr (.inr ⟨b, off, h1, by omega, h3, fun j hj => h4 j (by omega)⟩)

end Go.Proofs.YtficlakgameglaaDoor

namespace Go.Proofs.YtficlakgameglaaDoor

open Go.RowKit

set_option linter.unusedVariables false

set_option linter.unusedSimpArgs false

theorem ownsRow_below {w w' : World} {B : Nat} {v : Value} {n s : Nat} {xs : List Value} {e : TypeId} (h : w.ownsRow B e s v n xs) (hb : Below w.heap.size w w') : w'.ownsRow B e s v n xs :=
  h.kept (row := none) ⟨hb.os, hb.tape, hb.output, hb.size, fun k hk _ => hb.block k hk⟩ (by cases v.ownBlock <;> simp)

attribute [local go_sem ↓] sv24_eq lv24_eq ix22_eq slr_eq lv48_eq sv48_eq bd48_eq bd27_eq bs22_eq sl22_eq mk22_eq eqo_eq

end Go.Proofs.YtficlakgameglaaDoor

namespace Go.Proofs.YtficlakgameglaaDoor

open Go.RowKit

set_option linter.unusedVariables false

set_option linter.unusedSimpArgs false

attribute [local go_sem ↓] sv24_eq lv24_eq ix22_eq slr_eq lv48_eq sv48_eq bd48_eq bd27_eq bs22_eq sl22_eq mk22_eq eqo_eq

set_option maxHeartbeats 1000000 in
theorem rbytes_any (n : Int) (w : World) (h0 : 0 ≤ n) (h1 : n ≤ 18446744073709551615) :
    Calls Tryd.prog 74 #[.int .u64 n] w fun e w' => e = .returned (.agg (vs .u8 8 (nmB n))) ∧ Below w.heap.size w w' := by
  have e0 : vs .u8 8 (nmB n) = #[.int .u8 (n % 256), .int .u8 (n / 256 % 256), .int .u8 (n / 65536 % 256), .int .u8 (n / 16777216 % 256), .int .u8 (n / 4294967296 % 256), .int .u8 (n / 1099511627776 % 256), .int .u8 (n / 281474976710656 % 256), .int .u8 (n / 72057594037927936)] := by
    have e7 : n / 72057594037927936 = n / 72057594037927936 % 256 := by omega
    have e1 : n % 256 = n / 1 % 256 := by omega
    rw [e7, e1]
    rfl
  rw [e0]
  clear e0
  go_enter Tryd.func74, Tryd.ntmps74
  go_wp2
  go_rounds 9
  go_returns
  exact ⟨rfl, by go_grown⟩

/-- Eight bytes stored, whole. -/
def sv53 (a : Addr) (v : Value) : Sem Unit := storeVar 128 a v

theorem sv53_eq (a : Addr) (v : Value) : storeVar 128 a v = sv53 a v := rfl

attribute [local go_sem ↓] sv53_eq

end Go.Proofs.YtficlakgameglaaDoor

namespace Go.Proofs.YtficlakgameglaaDoor

open Go.RowKit

set_option linter.unusedVariables false

set_option linter.unusedSimpArgs false

attribute [local go_sem ↓] sv24_eq lv24_eq ix22_eq slr_eq lv48_eq sv48_eq bd48_eq bd27_eq bs22_eq mk22_eq eqo_eq

end Go.Proofs.YtficlakgameglaaDoor

namespace Go.Proofs.YtficlakgameglaaDoor.Z

open Go.RowKit

set_option linter.unusedVariables false

set_option linter.unusedSimpArgs false

end Go.Proofs.YtficlakgameglaaDoor.Z

namespace Go.Proofs.YtficlakgameglaaDoor.Z

open Go.RowKit

set_option linter.unusedVariables false

set_option linter.unusedSimpArgs false

end Go.Proofs.YtficlakgameglaaDoor.Z

namespace Go.Proofs.YtficlakgameglaaDoor.Z

open Go.RowKit

set_option linter.unusedVariables false

set_option linter.unusedSimpArgs false

end Go.Proofs.YtficlakgameglaaDoor.Z

namespace Go.Proofs.YtficlakgameglaaDoor.Z

open Go.RowKit

set_option linter.unusedVariables false

set_option linter.unusedSimpArgs false

/-- Do the offsets rise, from the first on, none above n? -/
def risAt (os : Nat → Int) (first n : Int) (i : Nat) : Prop := (if i = 0 then os 0 = first else os (i - 1) ≤ os i) ∧ os i ≤ n

instance (os : Nat → Int) (first n : Int) (i : Nat) : Decidable (risAt os first n i) := by unfold risAt; infer_instance

end Go.Proofs.YtficlakgameglaaDoor.Z

namespace Go.Proofs.YtficlakgameglaaDoor.Z

open Go.RowKit

set_option linter.unusedVariables false

set_option linter.unusedSimpArgs false

end Go.Proofs.YtficlakgameglaaDoor.Z

namespace Go.Proofs.YtficlakgameglaaDoor

open Go.RowKit

set_option linter.unusedVariables false

set_option linter.unusedSimpArgs false

theorem nmB_bd (n : Int) (j : Nat) : 0 ≤ nmB n j ∧ nmB n j < 256 := by
  unfold nmB
  exact ⟨Int.emod_nonneg _ (by decide), Int.emod_lt_of_pos _ (by decide)⟩

/-- Eight bytes in an array, kept whole. -/
def sv8 (a : Addr) (v : Value) : Sem Unit := storeVar 128 a v

theorem sv8_eq (a : Addr) (v : Value) : storeVar 128 a v = sv8 a v := rfl

theorem sv8_newv (W : World) (o c : Nat → Int) : (sv8 ⟨W.heap.size, 0, none⟩ (.agg (vs .u8 8 c))).run Tryd.prog (W.alloc (.cells (vs .u8 8 o) 128)) = .ok () (W.alloc (.cells (vs .u8 8 c) 128)) :=
  run_storeVar_new W 128 _ _ (by rw [vs_size]; kernel_rfl) (by rw [vs_size, vs_size]) (vs_one _ _ _)

theorem zero_8 : ∀ w : World, (zeroValue 128).run Tryd.prog w = .ok (.agg (vs .u8 8 fun _ => 0)) w := (zero_of_info (n := 8) (by kernel_rfl)).1

theorem bys_new {w : World} {t : TypeId} {g n : Nat} {f : Nat → Int} (h : w.heap[g]? = some (.cells (vs .u8 n f) t)) (hn : n ≤ 9223372036854775807) : Bys w (some ⟨g, 0, none⟩) n n f :=
  .inr (.inr ⟨g, 0, rfl, Nat.le_refl _, hn, (Array.getElem?_eq_some_iff.1 h).1, fun j hj => by rw [Nat.zero_add]; exact row_int h j hj⟩)

end Go.Proofs.YtficlakgameglaaDoor

namespace Go.Proofs.YtficlakgameglaaDoor

open Go.RowKit

set_option linter.unusedVariables false

set_option linter.unusedSimpArgs false

attribute [local go_sem ↓] sv24_eq lv24_eq ix22_eq slr_eq bd27_eq bs22_eq sv8_eq

/-- The root of bytes. -/
def cks (len : Nat) : Nat := (len + 31) / 32

def bR (f : Nat → Int) (len : Nat) : Nat → Int := treeV (pk f len) (cks len) (cks len : Nat)

end Go.Proofs.YtficlakgameglaaDoor

namespace Go.Proofs.YtficlakgameglaaDoor

open Go.RowKit

set_option linter.unusedVariables false

set_option linter.unusedSimpArgs false

/-- Bytes of parts, one behind the other. -/
def ct7 : List (Nat × (Nat → Int)) → Nat → Int
  | [], _ => 0
  | p :: r, q => if q < p.1 then p.2 q else ct7 r (q - p.1)

def ln7 : List (Nat × (Nat → Int)) → Nat
  | [] => 0
  | p :: r => p.1 + ln7 r

def cl7 : List (Nat × (Nat → Int)) → List Int
  | [] => []
  | p :: r => (List.range p.1).map p.2 ++ cl7 r

theorem cl7_len : ∀ qs, (cl7 qs).length = ln7 qs
  | [] => rfl
  | p :: r => by
    show ((List.range p.1).map p.2 ++ cl7 r).length = p.1 + ln7 r
    rw [List.length_append, List.length_map, List.length_range, cl7_len r]

theorem cl7_app : ∀ qs p, cl7 (qs ++ [p]) = cl7 qs ++ (List.range p.1).map p.2
  | [], p => by show (List.range p.1).map p.2 ++ [] = [] ++ _; rw [List.append_nil, List.nil_append]
  | x :: r, p => by
    show (List.range x.1).map x.2 ++ cl7 (r ++ [p]) = ((List.range x.1).map x.2 ++ cl7 r) ++ _
    rw [cl7_app r p, List.append_assoc]

theorem ct7_cl7 : ∀ qs q, q < ln7 qs → (cl7 qs)[q]? = some (ct7 qs q)
  | [], q, h => absurd h (Nat.not_lt_zero _)
  | p :: r, q, h => by
    have h' : q < p.1 + ln7 r := h
    show ((List.range p.1).map p.2 ++ cl7 r)[q]? = some (if q < p.1 then p.2 q else ct7 r (q - p.1))
    by_cases hq : q < p.1
    · rw [if_pos hq, List.getElem?_append_left (by simpa using hq), List.getElem?_map, List.getElem?_range hq]
      rfl
    · rw [if_neg hq, List.getElem?_append_right (by simpa using hq)]
      rw [List.length_map, List.length_range]
      exact ct7_cl7 r (q - p.1) (by omega)

theorem bl_ct7 (qs : List (Nat × (Nat → Int))) : bl (ct7 qs) (ln7 qs) = Z.iv (cl7 qs) := by
  apply List.ext_getElem?
  intro q
  unfold Z.iv
  rw [List.getElem?_map]
  by_cases hq : q < ln7 qs
  · rw [bl_at _ _ _ hq, ct7_cl7 qs q hq]
    rfl
  · rw [List.getElem?_eq_none (by rw [bl_len]; omega), List.getElem?_eq_none (by rw [cl7_len]; omega)]
    rfl

theorem ln7_app : ∀ qs p, ln7 (qs ++ [p]) = ln7 qs + p.1
  | [], p => by show p.1 + 0 = 0 + p.1; omega
  | x :: r, p => by
    show x.1 + ln7 (r ++ [p]) = x.1 + ln7 r + p.1
    rw [ln7_app r p]; omega

/-- A part: where it lies, its length, its room, its bytes. -/
abbrev Pt := Option Addr × Nat × Nat × (Nat → Int)

def nilP : Pt := (none, 0, 0, fun _ => 0)

def ptv (p : Pt) : Value := .slice p.1 p.2.1 p.2.2.1

def ptb (p : Pt) : Nat × (Nat → Int) := (p.2.1, p.2.2.2)

theorem pt_cell {w : World} {g : Nat} {ps : List Pt} {t : TypeId} (hg : w.heap[g]? = some (.cells (ps.map ptv).toArray t)) (r : Nat) (hr : r < ps.length) : w.cell? ⟨g, r, none⟩ = some (ptv (ps.getD r nilP)) := by
  rw [row_cell hg, List.getElem?_toArray, List.getElem?_map, List.getD_eq_getElem?_getD, List.getElem?_eq_getElem hr]
  rfl

theorem lay_head (ps : List Pt) (zs : Nat → Int) (H : Nat) (hz : ∀ r, r < ps.length → zs r ≠ 0) : ∀ n, n ≤ ps.length → Z.hdB zs (fun r => (ps.getD r nilP).2.2.2) (fun r => (ps.getD r nilP).2.1) H n = cl7 ((ps.take n).map ptb)
  | 0, _ => rfl
  | n + 1, h => by
    have ih := lay_head ps zs H hz n (by omega)
    show Z.hdB _ _ _ H n ++ (if zs n = 0 then _ else Z.prt _ _ n) = _
    rw [if_neg (hz n (by omega)), ih, List.take_succ_eq_append_getElem (by omega), List.map_append, List.map_cons, List.map_nil, cl7_app]
    congr 1
    have e : ps.getD n nilP = ps[n] := by rw [List.getD_eq_getElem?_getD, List.getElem?_eq_getElem (by omega)]; rfl
    unfold Z.prt ptb
    simp only [e]

theorem lay_hdL (ps : List Pt) (zs : Nat → Int) (hz : ∀ r, r < ps.length → zs r = ((ps.getD r nilP).2.1 : Int) ∧ 1 ≤ (ps.getD r nilP).2.1) : ∀ n, n ≤ ps.length → Z.hdL zs n = ln7 ((ps.take n).map ptb)
  | 0, _ => rfl
  | n + 1, h => by
    have ih := lay_hdL ps zs hz n (by omega)
    have h1 := hz n (by omega)
    have e : ps.getD n nilP = ps[n] := by rw [List.getD_eq_getElem?_getD, List.getElem?_eq_getElem (by omega)]; rfl
    show Z.hdL zs n + Z.inH (zs n) = _
    rw [ih, List.take_succ_eq_append_getElem (by omega), List.map_append, List.map_cons, List.map_nil, ln7_app]
    congr 1
    rw [e] at h1
    unfold Z.inH ptb
    rw [if_neg (by omega), h1.1]
    omega

theorem lay_lo (zs : Nat → Int) (F : Nat → Nat → Int) (L : Nat → Nat) (n : Nat) (hz : ∀ r, r < n → zs r ≠ 0) : Z.loL zs L n = 0 ∧ Z.loB zs F L n = [] := by
  induction n with
  | zero => exact ⟨rfl, rfl⟩
  | succ n ih =>
    have h := ih (fun r hr => hz r (by omega))
    show Z.loL zs L n + (if zs n = 0 then L n else 0) = 0 ∧ Z.loB zs F L n ++ (if zs n = 0 then Z.prt F L n else []) = []
    rw [if_neg (hz n (by omega)), if_neg (hz n (by omega)), h.1, h.2]
    exact ⟨rfl, rfl⟩

/-- Numbers in a slice made and indexed, whole. -/
def mkI (x y : Value) : Sem Value := Instr.makeSlice 108 x y

theorem mkI_eq (x y : Value) : Instr.makeSlice 108 x y = mkI x y := rfl

theorem made_vs (n : Nat) : madeCells (Value.int .i64 0).cells (n * 1) = vs .i64 n (fun _ => 0) := by
  apply Array.ext_getElem?
  intro i
  have e : (Value.int .i64 0).cells = #[.int .i64 0] := rfl
  rw [e]
  by_cases hi : i < n
  · rw [vs_get _ _ _ _ hi]
    simp [madeCells, hi, Nat.mod_one]
  · rw [Array.getElem?_eq_none (by rw [size_madeCells]; omega), Array.getElem?_eq_none (by rw [vs_size]; omega)]

def ixI (x i : Value) : Sem Value := Instr.indexAt 108 x i

theorem ixI_eq (x i : Value) : Instr.indexAt 108 x i = ixI x i := rfl

/-- A part's address, whole. -/
def ixP (x i : Value) : Sem Value := Instr.indexAt 107 x i

theorem ixP_eq (x i : Value) : Instr.indexAt 107 x i = ixP x i := rfl

end Go.Proofs.YtficlakgameglaaDoor

namespace Go.Proofs.YtficlakgameglaaDoor

open Go.RowKit

set_option linter.unusedVariables false

set_option linter.unusedSimpArgs false

attribute [local go_sem ↓] sv24_eq lv24_eq ix22_eq slr_eq bd27_eq bs22_eq sv8_eq mkI_eq ixI_eq ixP_eq

end Go.Proofs.YtficlakgameglaaDoor

namespace Go.Proofs.YtficlakgameglaaDoor

open Go.RowKit

set_option linter.unusedVariables false

set_option linter.unusedSimpArgs false

/-- A field in memory. -/
inductive Seg where
  | by (n : Nat) (f : Nat → Int)
  | nu (e : Int)
  | bo (b : Bool)
  | sl (a : Option Addr) (n c : Nat)

def Seg.len : Seg → Nat
  | .by n _ => n
  | .nu _ => 1
  | .bo _ => 1
  | .sl _ _ _ => 1

def Seg.get : Seg → Nat → Value
  | .by _ f, j => .int .u8 (f j)
  | .nu e, _ => .int .u64 e
  | .bo b, _ => .bool b
  | .sl a n c, _ => .slice a n c

def celL : List Seg → List Value
  | [] => []
  | s :: r => (List.range s.len).map s.get ++ celL r

def cel (l : List Seg) : Array Value := (celL l).toArray

/-- Where a field begins. -/
def sof : List Seg → Nat → Nat
  | [], _ => 0
  | _ :: _, 0 => 0
  | s :: r, i + 1 => s.len + sof r i

def slen : List Seg → Nat
  | [] => 0
  | s :: r => s.len + slen r

theorem celL_len : ∀ l, (celL l).length = slen l
  | [] => rfl
  | s :: r => by
    show ((List.range s.len).map s.get ++ celL r).length = s.len + slen r
    rw [List.length_append, List.length_map, List.length_range, celL_len r]

theorem cel_size (l : List Seg) : (cel l).size = slen l := by
  unfold cel
  rw [List.size_toArray, celL_len]

theorem celL_at : ∀ (l : List Seg) (i j : Nat) (s : Seg), l[i]? = some s → j < s.len → (celL l)[sof l i + j]? = some (s.get j)
  | [], i, j, s, h, _ => by simp at h
  | x :: r, 0, j, s, h, hj => by
    have e : x = s := by simpa using h
    subst e
    show ((List.range x.len).map x.get ++ celL r)[0 + j]? = _
    rw [Nat.zero_add, List.getElem?_append_left (by simpa using hj), List.getElem?_map, List.getElem?_range hj]
    rfl
  | x :: r, i + 1, j, s, h, hj => by
    have h' : r[i]? = some s := by simpa using h
    show ((List.range x.len).map x.get ++ celL r)[x.len + sof r i + j]? = _
    rw [List.getElem?_append_right (by simp; omega), List.length_map, List.length_range, show x.len + sof r i + j - x.len = sof r i + j by omega]
    exact celL_at r i j s h' hj

theorem cel_at (l : List Seg) (i j : Nat) (s : Seg) (h : l[i]? = some s) (hj : j < s.len) : (cel l)[sof l i + j]? = some (s.get j) := by
  unfold cel
  rw [List.getElem?_toArray]
  exact celL_at l i j s h hj

theorem celL_one : ∀ l, ∀ u ∈ celL l, u.oneCell' = true
  | [], u, h => by cases h
  | s :: r, u, h => by
    have h' : u ∈ (List.range s.len).map s.get ++ celL r := h
    rw [List.mem_append] at h'
    rcases h' with h' | h'
    · obtain ⟨j, _, rfl⟩ := List.mem_map.1 h'
      cases s <;> rfl
    · exact celL_one r u h'

theorem cel_one (l : List Seg) : (cel l).all (·.oneCell') = true := by
  rw [Array.all_eq_true']
  intro u hu
  exact celL_one l u (by simpa [cel] using hu)

/-- The bytes, a number, a bool of a field in memory. -/
theorem seg_bys {w : World} {g : Nat} {t : TypeId} {l : List Seg} (h : w.heap[g]? = some (.cells (cel l) t)) (i n : Nat) (f : Nat → Int) (hi : l[i]? = some (.by n f)) (o : Nat) (ho : sof l i = o) (hn : n ≤ 9223372036854775807) : Bys w (some ⟨g, o, none⟩) n n f :=
  .inr (.inr ⟨g, o, rfl, Nat.le_refl _, hn, (Array.getElem?_eq_some_iff.1 h).1, fun j hj => by
    rw [row_cell h, ← ho]
    exact cel_at l i j _ hi hj⟩)

theorem seg_nu {w : World} {g : Nat} {t : TypeId} {l : List Seg} (h : w.heap[g]? = some (.cells (cel l) t)) (i : Nat) (e : Int) (hi : l[i]? = some (.nu e)) (o : Nat) (ho : sof l i = o) : w.cell? ⟨g, o, none⟩ = some (.int .u64 e) := by
  rw [row_cell h, ← ho]
  exact cel_at l i 0 _ hi (by show 0 < 1; omega)

theorem seg_bo {w : World} {g : Nat} {t : TypeId} {l : List Seg} (h : w.heap[g]? = some (.cells (cel l) t)) (i : Nat) (b : Bool) (hi : l[i]? = some (.bo b)) (o : Nat) (ho : sof l i = o) : w.cell? ⟨g, o, none⟩ = some (.bool b) := by
  rw [row_cell h, ← ho]
  exact cel_at l i 0 _ hi (by show 0 < 1; omega)

theorem seg_sl {w : World} {g : Nat} {t : TypeId} {l : List Seg} (h : w.heap[g]? = some (.cells (cel l) t)) (i : Nat) (a : Option Addr) (n c : Nat) (hi : l[i]? = some (.sl a n c)) (o : Nat) (ho : sof l i = o) : w.cell? ⟨g, o, none⟩ = some (.slice a n c) := by
  rw [row_cell h, ← ho]
  exact cel_at l i 0 _ hi (by show 0 < 1; omega)

/-- A slice of parts built, whole. -/
def bsP (n : Nat) (ps : Array (Nat × Value)) : Sem Value := Instr.buildSlice 107 n ps

theorem bsP_eq (n : Nat) (ps : Array (Nat × Value)) : Instr.buildSlice 107 n ps = bsP n ps := rfl

theorem bsP_2 (W : World) (a b : Pt) : (bsP 2 #[(0, ptv a), (1, ptv b)]).run Tryd.prog W = .ok (.slice (some ⟨W.heap.size, 0, none⟩) 2 2) (W.alloc (.cells ([a, b].map ptv).toArray 39)) := by kernel_rfl

theorem bsP_3 (W : World) (a b c : Pt) : (bsP 3 #[(0, ptv a), (1, ptv b), (2, ptv c)]).run Tryd.prog W = .ok (.slice (some ⟨W.heap.size, 0, none⟩) 3 3) (W.alloc (.cells ([a, b, c].map ptv).toArray 39)) := by kernel_rfl

theorem bsP_5 (W : World) (a b c d e : Pt) : (bsP 5 #[(0, ptv a), (1, ptv b), (2, ptv c), (3, ptv d), (4, ptv e)]).run Tryd.prog W = .ok (.slice (some ⟨W.heap.size, 0, none⟩) 5 5) (W.alloc (.cells ([a, b, c, d, e].map ptv).toArray 39)) := by kernel_rfl

theorem bsP_8 (W : World) (a b c d e f g h : Pt) : (bsP 8 #[(0, ptv a), (1, ptv b), (2, ptv c), (3, ptv d), (4, ptv e), (5, ptv f), (6, ptv g), (7, ptv h)]).run Tryd.prog W = .ok (.slice (some ⟨W.heap.size, 0, none⟩) 8 8) (W.alloc (.cells ([a, b, c, d, e, f, g, h].map ptv).toArray 39)) := by kernel_rfl

theorem own_at {w : World} {B : Nat} {v : Value} {n : Nat} {f : Nat → Int} (h : w.ownsRow B 5 1 v n (bl f n)) : ∃ a cap, v = .slice a n cap ∧ Bys w a n cap f := by
  obtain ⟨a, cap, e, hb, _⟩ := own_bys h
  exact ⟨a, cap, e, hb⟩

end Go.Proofs.YtficlakgameglaaDoor

namespace Go.Proofs.YtficlakgameglaaDoor

open Go.RowKit

set_option linter.unusedVariables false

set_option linter.unusedSimpArgs false

/-- A bool's byte. -/
def bbB (b : Bool) (_ : Nat) : Int := if b then 1 else 0

/-- A value of the type Fork: as it lies in memory, its bytes. -/
structure VFork where
  f0 : Nat → Int
  f1 : Nat → Int
  f2 : Int

def sFork (x : VFork) : List Seg := [.by 4 x.f0, .by 4 x.f1, .nu x.f2]

def OkFork (x : VFork) : Prop := (∀ j, j < 4 → 0 ≤ x.f0 j ∧ x.f0 j < 256) ∧ (∀ j, j < 4 → 0 ≤ x.f1 j ∧ x.f1 j < 256) ∧ (0 ≤ x.f2 ∧ x.f2 < 18446744073709551616)

def eFork (x : VFork) : List (Nat × (Nat → Int)) := [(4, x.f0), (4, x.f1), (8, nmB x.f2)]

/-- A value of the type Checkpoint: as it lies in memory, its bytes. -/
structure VCheckpoint where
  f0 : Int
  f1 : Nat → Int

def sCheckpoint (x : VCheckpoint) : List Seg := [.nu x.f0, .by 32 x.f1]

def OkCheckpoint (x : VCheckpoint) : Prop := (0 ≤ x.f0 ∧ x.f0 < 18446744073709551616) ∧ (∀ j, j < 32 → 0 ≤ x.f1 j ∧ x.f1 j < 256)

def eCheckpoint (x : VCheckpoint) : List (Nat × (Nat → Int)) := [(8, nmB x.f0), (32, x.f1)]

/-- A value of the type Validator: as it lies in memory, its bytes. -/
structure VValidator where
  f0 : Nat → Int
  f1 : Nat → Int
  f2 : Int
  f3 : Bool
  f4 : Int
  f5 : Int
  f6 : Int
  f7 : Int

def sValidator (x : VValidator) : List Seg := [.by 48 x.f0, .by 32 x.f1, .nu x.f2, .bo x.f3, .nu x.f4, .nu x.f5, .nu x.f6, .nu x.f7]

def OkValidator (x : VValidator) : Prop := (∀ j, j < 48 → 0 ≤ x.f0 j ∧ x.f0 j < 256) ∧ (∀ j, j < 32 → 0 ≤ x.f1 j ∧ x.f1 j < 256) ∧ (0 ≤ x.f2 ∧ x.f2 < 18446744073709551616) ∧ True ∧ (0 ≤ x.f4 ∧ x.f4 < 18446744073709551616) ∧ (0 ≤ x.f5 ∧ x.f5 < 18446744073709551616) ∧ (0 ≤ x.f6 ∧ x.f6 < 18446744073709551616) ∧ (0 ≤ x.f7 ∧ x.f7 < 18446744073709551616)

def eValidator (x : VValidator) : List (Nat × (Nat → Int)) := [(48, x.f0), (32, x.f1), (8, nmB x.f2), (1, bbB x.f3), (8, nmB x.f4), (8, nmB x.f5), (8, nmB x.f6), (8, nmB x.f7)]

/-- A value of the type Eth1: as it lies in memory, its bytes. -/
structure VEth1 where
  f0 : Nat → Int
  f1 : Int
  f2 : Nat → Int

def sEth1 (x : VEth1) : List Seg := [.by 32 x.f0, .nu x.f1, .by 32 x.f2]

def OkEth1 (x : VEth1) : Prop := (∀ j, j < 32 → 0 ≤ x.f0 j ∧ x.f0 j < 256) ∧ (0 ≤ x.f1 ∧ x.f1 < 18446744073709551616) ∧ (∀ j, j < 32 → 0 ≤ x.f2 j ∧ x.f2 j < 256)

def eEth1 (x : VEth1) : List (Nat × (Nat → Int)) := [(32, x.f0), (8, nmB x.f1), (32, x.f2)]

/-- A value of the type Header: as it lies in memory, its bytes. -/
structure VHeader where
  f0 : Int
  f1 : Int
  f2 : Nat → Int
  f3 : Nat → Int
  f4 : Nat → Int

def sHeader (x : VHeader) : List Seg := [.nu x.f0, .nu x.f1, .by 32 x.f2, .by 32 x.f3, .by 32 x.f4]

def OkHeader (x : VHeader) : Prop := (0 ≤ x.f0 ∧ x.f0 < 18446744073709551616) ∧ (0 ≤ x.f1 ∧ x.f1 < 18446744073709551616) ∧ (∀ j, j < 32 → 0 ≤ x.f2 j ∧ x.f2 j < 256) ∧ (∀ j, j < 32 → 0 ≤ x.f3 j ∧ x.f3 j < 256) ∧ (∀ j, j < 32 → 0 ≤ x.f4 j ∧ x.f4 j < 256)

def eHeader (x : VHeader) : List (Nat × (Nat → Int)) := [(8, nmB x.f0), (8, nmB x.f1), (32, x.f2), (32, x.f3), (32, x.f4)]

end Go.Proofs.YtficlakgameglaaDoor

namespace Go.Proofs.YtficlakgameglaaDoor.Z

open Go.RowKit

set_option linter.unusedVariables false

set_option linter.unusedSimpArgs false

theorem own_bys {w : World} {B : Nat} {a : Option Addr} {n C : Nat} {m : Nat → Int} (h : w.ownsRow B 5 1 (.slice a n C) n (bl m n)) : Bys w a n C m := by
  rcases h.2 with ⟨h1, h0⟩ | ⟨g, cap, cur, h1, _⟩
  · cases h1
    exact .inl ⟨rfl, rfl, rfl⟩
  · cases h1
    obtain ⟨h2, h3, h4, h5, h6⟩ := own_cells h
    exact .inr (.inr ⟨g, 0, rfl, h4, h5, h3, fun j hj => by rw [Nat.zero_add]; exact h6 j hj⟩)

theorem owns_form {w : World} {B : Nat} {e : TypeId} {v : Value} {n : Nat} {xs : List Value} (h : w.ownsRow B e 1 v n xs) : ∃ a c, v = .slice a n c := by
  rcases h.2 with ⟨h1, h0⟩ | ⟨g, cap, cur, h1, _⟩
  · subst h0
    exact ⟨_, _, h1⟩
  · exact ⟨_, _, h1⟩

attribute [local go_sem ↓] sl22_eq

end Go.Proofs.YtficlakgameglaaDoor.Z
