/-
  Numbers appended; List whole; the document's List and Same.
-/
import Derived.Test.YtpnlkedbhllhjaaDoorUfF
import Derived.Test.YtpnlkedbhllhjaaDoorUfH
namespace Go.Proofs.YtpnlkedbhllhjaaDoor
open Go.RowKit
set_option linter.unusedVariables false
set_option linter.unusedSimpArgs false

/-- The numbers of a slice, whatever it is, with its room. -/
def L64 (w : World) (a : Option Addr) (len cap : Nat) (f : Nat → Int) : Prop :=
  (a = none ∧ len = 0 ∧ cap = 0) ∨ (∃ x, a = some x ∧ len = 0) ∨ ∃ b off, a = some ⟨b, off, none⟩ ∧ b < w.heap.size ∧ ∀ j, j < len → w.cell? ⟨b, off + j, none⟩ = some (.int .u64 (f j))
theorem L64.n64 {w : World} {a : Option Addr} {len cap : Nat} {f : Nat → Int} (h : L64 w a len cap f) : N64 w a len f := by
  rcases h with ⟨_, h, _⟩ | ⟨_, _, h⟩ | h
  · exact .inl h
  · exact .inl h
  · exact .inr h
theorem L64.below {w w' : World} {a : Option Addr} {len cap : Nat} {f : Nat → Int} (h : L64 w a len cap f) (hb : Below w.heap.size w w') : L64 w' a len cap f := by
  rcases h with h | h | ⟨b, off, h1, h2, h3⟩
  · exact .inl h
  · exact .inr (.inl h)
  · exact .inr (.inr ⟨b, off, h1, Nat.lt_of_lt_of_le h2 hb.size, fun j hj => (below_cell hb h2).trans (h3 j hj)⟩)
theorem N64.congr {w : World} {a : Option Addr} {n : Nat} {f g : Nat → Int} (h : N64 w a n f) (hf : ∀ j, j < n → f j = g j) : N64 w a n g := by
  rcases h with h | ⟨b, off, h1, h2, h3⟩
  · exact .inl h
  · exact .inr ⟨b, off, h1, h2, fun j hj => by rw [h3 j hj, hf j hj]⟩
theorem ul_snoc (f : Nat → Int) (n : Nat) (v : Int) (hv : v = f n) : ul f n ++ [.int .u64 v] = ul f (n + 1) := by
  unfold ul
  rw [List.range_succ, List.map_append, hv]
  rfl
/-- append of numbers onto a slice of the call's own. -/
theorem wpList_append_l64 (w : World) {ops : Array Oper} {rest : List Oper} {o : Oper} {a : Act} {Q : Exit → Act → World → Prop} (hgd : o.guard = none) (s x : Operand)
    (ho : o.op = .call { callee := .builtin .append, args := #[s, x], argTypes := #[30, 30] })
    (base : Nat) (v : Value) (n : Nat) (xs : List Value) (hs : a.eval s = v) (hown : w.ownsRow base 22 1 v n xs)
    (ao : Option Addr) (len cap : Nat) (m : Nat → Int) (hx : a.eval x = .slice ao len cap) (hb : L64 w ao len cap m) (hbd : n + len ≤ 17592186044416) (hbase : base ≤ w.heap.size)
    (h : ∀ v' w', w'.ownsRow base 22 1 v' (n + len) (xs ++ ul m len) → w.grownBy w' v.ownBlock → wpList Tryd.prog ops Q rest (a.put o.dst v') w') :
    wpList Tryd.prog ops Q (o :: rest) a w := by
  obtain ⟨i, hi, hz0, hz1, hz2⟩ := info_parts info64
  rcases hb with ⟨rfl, rfl, rfl⟩ | ⟨x0, rfl, rfl⟩ | ⟨b, off, rfl, hbl, hc⟩
  · refine wpList_append_own_none hgd s x 30 ho base 22 i 1 Tryd.underlying30 hi v n xs hs hown hx (h v w ?_ ⟨rfl, rfl, rfl, Nat.le_refl _, fun _ _ _ => rfl⟩)
    simpa [ul] using hown
  · exact wpList_append_own w hgd s x 30 ho base 22 i (.int .u64 0) 1 8 Tryd.underlying30 hi hz0 hz1 hz2 rfl (by decide) v n xs hs hown x0 0 cap (ul m 0) hx (by rw [ul_len])
      (fun j u hj => by
        have := (ul_get m 0 j u hj).1
        omega) (ul_one m 0) (by unfold maxLen; omega) (by omega) hbase (fun v' w' h1 h2 _ => h v' w' h1 h2)
  · exact wpList_append_own w hgd s x 30 ho base 22 i (.int .u64 0) 1 8 Tryd.underlying30 hi hz0 hz1 hz2 rfl (by decide) v n xs hs hown ⟨b, off, none⟩ len cap (ul m len) hx (by rw [ul_len]; omega)
      (fun j u hj => by
        obtain ⟨h1, rfl⟩ := ul_get m len j u hj
        rw [addr_add]
        exact hc j h1) (ul_one m len) (by unfold maxLen; omega) (by omega) hbase (fun v' w' h1 h2 _ => h v' w' h1 h2)
/-- append of one number. -/
theorem wpList_append_n64 (w : World) {ops : Array Oper} {rest : List Oper} {o : Oper} {a : Act} {Q : Exit → Act → World → Prop} (hgd : o.guard = none) (s x : Operand)
    (ho : o.op = .call { callee := .builtin .append, args := #[s, x], argTypes := #[30, 30] })
    (base : Nat) (v : Value) (n : Nat) (m : Nat → Int) (z : Int) (hs : a.eval s = v) (hown : w.ownsRow base 22 1 v n (ul m n))
    (hx : a.eval x = .slice (some ⟨w.heap.size, 0, none⟩) 1 1) (hz : z = m n) (hbd : n + 1 ≤ 17592186044416) (hbase : base ≤ w.heap.size)
    (h : ∀ g C w', w'.ownsRow base 22 1 (.slice (some ⟨g, 0, none⟩) (n + 1) C) (n + 1) (ul m (n + 1)) → w.grownBy w' v.ownBlock → wpList Tryd.prog ops Q rest (a.put o.dst (.slice (some ⟨g, 0, none⟩) (n + 1) C)) w') :
    wpList Tryd.prog ops Q (o :: rest) a (w.alloc (.cells #[.int .u64 z] 22)) := by
  obtain ⟨i, hi, hz0, hz1, hz2⟩ := info_parts info64
  refine wpList_append_own _ hgd s x 30 ho base 22 i (.int .u64 0) 1 8 Tryd.underlying30 hi hz0 hz1 hz2 rfl (by decide) v n (ul m n) hs (hown.alloc _) ⟨w.heap.size, 0, none⟩ 1 1 [.int .u64 z] hx rfl (cell_one_new _ _ _)
    (fun u hu => by simp at hu; subst hu; rfl) (by unfold maxLen; omega) (by omega) (by simp; omega) (fun v' w' h1 h2 _ => ?_)
  rw [ul_snoc m n z hz] at h1
  obtain ⟨g, C, rfl⟩ := owns_pos h1 (by omega)
  refine h g C w' h1 ⟨h2.os, h2.tape, h2.output, ?_, fun k hk hne => ?_⟩
  · have := h2.size
    simp at this
    omega
  · exact (h2.block k (by simp; omega) hne).trans (heap_old hk)
theorem own_n64 {w : World} {B : Nat} {v : Value} {n : Nat} {f : Nat → Int} (h : w.ownsRow B 22 1 v n (ul f n)) : ∃ a C, v = .slice a n C ∧ n ≤ C ∧ C ≤ 9223372036854775807 ∧ N64 w a n f := by
  rcases h.2 with ⟨h1, h2⟩ | ⟨g, cap, cur, h1, _, _, h2, h3, _⟩
  · subst h1
    subst h2
    exact ⟨none, 0, rfl, Nat.le_refl _, by omega, .inl rfl⟩
  · subst h1
    unfold maxLen at h3
    refine ⟨some ⟨g, 0, none⟩, cap, rfl, h2, by omega, .inr ⟨g, 0, rfl, (h.lt g rfl).2, fun j hj => ?_⟩⟩
    have := h.cells (g := g) rfl j _ (ul_at f n j hj)
    rw [addr_add] at this
    exact this

/-- List, of up to 2^16 elements. -/
theorem list_any (s : Nat → Int) (a : Option Addr) (n cap : Nat) (f : Nat → Int) (w : World) (hs : ∀ j, j < 32 → 0 ≤ s j ∧ s j < 256) (ha : N64 w a n f) (h1 : n ≤ 65536) (hS : Sh w) :
    Calls Tryd.prog 13 #[.slice a n cap, .agg (vs .u8 32 s)] w fun e w' => ∃ a' c', e = .returned (.tuple #[.slice a' n c', .int .i64 0]) ∧ Below w.heap.size w w' ∧ N64 w' a' n fun j => f (plV s n 6 j).toNat := by
  by_cases h0 : n = 0
  · subst h0
    refine (list_zero s a cap w).mono ?_
    rintro e w' ⟨rfl, hb⟩
    exact ⟨none, 0, rfl, hb, .inl rfl⟩
  · refine (list_ok s a n cap f w hs ha (by omega) h1 hS).mono ?_
    rintro e w' ⟨g, rfl, hb, _, hr⟩
    exact ⟨_, _, rfl, hb, n64_row hr⟩

attribute [local go_sem ↓] sv24_eq lv24_eq sv8_eq bd27_eq

set_option maxRecDepth 20000 in
set_option maxHeartbeats 1000000 in
theorem rlist_any (s : Nat → Int) (a : Option Addr) (n cap : Nat) (f : Nat → Int) (w : World) (hs : ∀ j, j < 32 → 0 ≤ s j ∧ s j < 256) (ha : N64 w a n f) (h1 : n ≤ 65536) (hC : Tab w 0 64 KW) :
    Calls Tryd.prog 14 #[.slice a n cap, .agg (vs .u8 32 s)] w fun e w' => ∃ a' c', e = .returned (.tuple #[.slice a' n c', .int .i64 0]) ∧ Below w.heap.size w w' ∧ N64 w' a' n fun j => f (plV s n 6 j).toNat := by
  obtain ⟨W0, hW0⟩ : ∃ W, w.alloc (.cells (vs .u8 32 s) 24) = W := ⟨_, rfl⟩
  have r0 : W0.heap[w.heap.size]? = some (.cells (vs .u8 32 s) 24) := by rw [← hW0]; exact heap_new rfl
  have hB0 : Below w.heap.size w W0 := by rw [← hW0]; exact (Below.refl _ _).alloc (Nat.le_refl _) _
  have z0 : w.heap.size < W0.heap.size := (Array.getElem?_eq_some_iff.1 r0).1
  have hC0 := hC.below hB0
  have ha0 := ha.below hB0
  have hl : ∀ W : World, Below W0.heap.size W0 W → (lv24 ⟨w.heap.size, 0, none⟩).run Tryd.prog W = .ok (.agg (vs .u8 32 s)) W := fun W h => lv24_run ((h.block _ z0).trans r0)
  have hp : ∀ (k : Nat) (W : World), k < n → Below W0.heap.size W0 W → Calls Tryd.prog 10 #[.int .u64 (k : Int), .int .u64 (n : Int), .agg (vs .u8 32 s)] W fun e w' => e = .returned (.tuple #[.int .u64 (plV s n 6 k), .int .i64 0]) ∧ Below W.heap.size W w' := fun k W hk hW => rplace_ok s k n W hs (by omega) (by omega) (by omega) (hC0.below hW)
  obtain ⟨F, hF⟩ : ∃ F : Nat → Int, F = fun j : Nat => f (plV s n 6 (j : Int)).toNat := ⟨_, rfl⟩
  rw [← hF]
  have hFa : ∀ k, k < n → ∃ q : Nat, plV s n 6 k = (q : Int) ∧ q < n ∧ f q = F k := fun k hk => by
    obtain ⟨b0, b1⟩ := plV_bd s (i := (k : Int)) (n := (n : Int)) (by omega) (by omega) 6
    exact ⟨(plV s n 6 k).toNat, by omega, by omega, by rw [hF]⟩
  have n1 : ¬ (65536 : Int) < (n : Int) := by omega
  have nw : IntKind.u64.wrap (n : Int) = (n : Int) := by rw [IntKind.wrap_u64]; omega
  have HL := hid hl
  have HP := hid hp
  have HF := hid hFa
  have HA := hid ha0
  have HB0 := hid hB0
  have HW0 := hid hW0
  clear hl hp hFa ha0 ha hB0 hW0 r0 hs hC hC0 hF
  go_enter Tryd.func14, Tryd.ntmps14
  go_upto_region 1 with fail
  rw [HW0.out]
  clear HW0
  go_wp2
  go_loopw [6, 7] (fun v c wr => ∃ (k : Nat) (v' : Value), k ≤ n ∧ v = v' ∧ c = .int .i64 k ∧ wr.ownsRow W0.heap.size 22 1 v' k (ul F k) ∧ Below W0.heap.size W0 wr) (fun _ c _ => n - (intOf c).toNat)
  case atStart => exact ⟨0, _, by omega, rfl, rfl, World.ownsRow_nil _ _ _ _, Below.refl _ _⟩
  case round =>
    obtain ⟨k, v, hk, ev, rfl, ho, hw⟩ := hrel
    obtain rfl := ev.symm
    clear ev
    by_cases hkn : k < n
    · obtain ⟨q, eq1, hq, hfq⟩ := HF.out k hkn
      have hp := HP.out k wr hkn hw
      rw [eq1] at hp
      have k1 : (k : Int) < (n : Int) := by omega
      have k2 : (0 : Int) ≤ (k : Int) := by omega
      have kw : IntKind.u64.wrap (k : Int) = (k : Int) := by rw [IntKind.wrap_u64]; omega
      have q1 : (q : Int) < (n : Int) := by omega
      have q2 : (0 : Int) ≤ (q : Int) := by omega
      rcases HA.out with h0 | ⟨b, off, ea, hb, hc⟩
      · omega
      subst ea
      have l0 := HL.out wr hw
      have HP1 := hid hp
      have HO := hid ho
      have HW := hid hw
      have HFQ := hid hfq
      have HCC := hid (And.intro hb hc)
      clear hp ho hw hfq hb hc eq1
      go_upto_region 8 with (go_at_call 10; refine HP1.out.mono ?_; rintro e w1 ⟨rfl, hb1⟩)
      have hB1 := HW.out.trans (hb1.mono HW.out.size)
      have c1 : w1.cell? ⟨b, off + q, none⟩ = some (.int .u64 (f q)) := (below_cell hB1 HCC.out.1).trans (HCC.out.2 q hq)
      have ho1 : w1.ownsRow W0.heap.size 22 1 v k (ul F k) := by
        refine ⟨HO.out.1, ?_⟩
        rcases HO.out.2 with h | ⟨g, cap, cur, e1, e2, e3, e4⟩
        · exact .inl h
        · exact .inr ⟨g, cap, cur, e1, e2, (hb1.block _ (Array.getElem?_eq_some_iff.1 e3).1).trans e3, e4⟩
      have HO1 := hid ho1
      have HB1 := hid hB1
      clear ho1 hB1 hb1 HO HCC l0
      go_wp2_with (at_builtin; (refine wpList_append_n64 w1 rfl _ _ rfl W0.heap.size v k F (f q) rfl HO1.out rfl HFQ.out (by omega) HB1.out.size ?_); intro g2 C2 w2 ho2 hg2)
      have hb2 := below_grown HB1.out HO1.out HB1.out.size hg2
      go_roundw
      case rel => exact ⟨k + 1, _, by omega, rfl, by go_num, ho2, hb2⟩
      case measure => simp [intOf]; omega
    · obtain rfl : k = n := by omega
      have HW := hid hw
      have HO := hid ho
      clear hw ho
      go_wp2
      obtain ⟨a', C', rfl, _, _, hn⟩ := own_n64 HO.out
      go_ret2
      exact ⟨a', C', rfl, HB0.out.trans (HW.out.mono (by omega)), hn⟩

set_option maxRecDepth 20000 in
set_option maxHeartbeats 1000000 in
theorem same_true (a b : Option Addr) (n c d : Nat) (f : Nat → Int) (w : World) (h1 : N64 w a n f) (h2 : N64 w b n f) (hn : n ≤ 9223372036854775807) :
    Calls Tryd.prog 15 #[.slice a n c, .slice b n d] w fun e w' => e = .returned (.bool true) ∧ Below w.heap.size w w' := by
  have H1 := hid h1
  have H2 := hid h2
  clear h1 h2
  go_enter Tryd.func15, Tryd.ntmps15
  go_wp2
  go_loopw [5] (fun c wr => ∃ k : Nat, k ≤ n ∧ c = .int .i64 k ∧ Below w.heap.size w wr) (fun c _ => n - (intOf c).toNat)
  case atStart => exact ⟨0, by omega, rfl, Below.refl _ _⟩
  case round =>
    obtain ⟨k, hk, rfl, hw⟩ := hrel
    by_cases hkn : k < n
    · rcases H1.out.below hw with h0 | ⟨b1, o1, ea, hb1, hc1⟩
      · omega
      rcases H2.out.below hw with h0 | ⟨b2, o2, eb, hb2, hc2⟩
      · omega
      subst ea
      subst eb
      have k1 : (k : Int) < (n : Int) := by omega
      have k2 : (0 : Int) ≤ (k : Int) := by omega
      have c1 := hc1 k hkn
      have c2 := hc2 k hkn
      have HW := hid hw
      clear hw hb1 hb2 hc1 hc2
      go_wp2
      go_quiet (fail)
      go_wp2
      go_roundw
      case rel => exact ⟨k + 1, by omega, by go_num, below_drewN HW.out _⟩
      case measure => simp [intOf]; omega
    · have HW := hid hw
      clear hw
      go_wp2
      go_ret
      exact ⟨rfl, HW.out⟩

end Go.Proofs.YtpnlkedbhllhjaaDoor
