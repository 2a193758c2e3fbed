/-
  Lists of a state, read.
-/

import Derived.Test.YtehpfemlcjcabaaStL
import Derived.Test.YtehpfemlcjcabaaStJ
import Derived.Test.YtehpfemlcjcabaaThValidator
namespace Go.Proofs.Ytehpfemlcjcabaa

open Go.RowKit

set_option linter.unusedVariables false

set_option linter.unusedSimpArgs false

set_option maxRecDepth 20000

theorem put_take {cur : Array Value} {k s n : Nat} {E : Nat → List Value} (hs : cur.size = n * s) (hk : k < n) (he : ∀ i, (E i).length = s) (ht : cur.toList.take (k * s) = flat E k) : (putL cur (k * s) (E k)).size = n * s ∧ (putL cur (k * s) (E k)).toList.take ((k + 1) * s) = flat E (k + 1) := by
  have h1 : (k + 1) * s ≤ n * s := Nat.mul_le_mul_right s hk
  have h2 : (k + 1) * s = k * s + s := Nat.succ_mul k s
  have hl : k * s + (E k).length ≤ cur.size := by rw [he, hs]; omega
  refine ⟨by rw [putL_size, hs], ?_⟩
  rw [putL_eq _ _ _ hl, List.toList_toArray, ht, List.append_assoc, h2]
  rw [show k * s + s = (flat E k).length + s by rw [flat_len he], List.take_length_add_append, List.take_append_of_le_length (by rw [he]; omega), List.take_of_length_le (by rw [he]; omega)]
  rfl

theorem set_take {cur : Array Value} {k n : Nat} {E : Nat → List Value} (v : Value) (hs : cur.size = n * 1) (hk : k < n) (he : E k = [v]) (ht : cur.toList.take (k * 1) = flat E k) : (cur.setIfInBounds k v).size = n * 1 ∧ (cur.setIfInBounds k v).toList.take ((k + 1) * 1) = flat E (k + 1) := by
  refine ⟨by simpa using hs, ?_⟩
  have hlen : cur.toList.length = cur.size := Array.length_toList
  show _ = flat E k ++ E k
  rw [he, ← ht, Nat.mul_one, Nat.mul_one, Array.toList_setIfInBounds, List.take_add_one, List.take_set_of_le (by omega), List.getElem?_set_self (by omega)]
  rfl

theorem flat_bl (m : Nat → Int) : ∀ n, flat (fun i => bl (fun q => m (i * 32 + q)) 32) n = bl m (32 * n)
  | 0 => rfl
  | n + 1 => by
    show flat _ n ++ bl _ 32 = _
    rw [flat_bl m n, Nat.mul_comm n 32, bl_join, Nat.mul_succ]

theorem flat_nl (z : Nat → Int) : ∀ n, flat (fun i => [.int .u64 (z i)]) n = nl z n
  | 0 => rfl
  | n + 1 => by
    show flat _ n ++ [_] = _
    rw [flat_nl z n]
    unfold nl
    rw [List.range_succ, List.map_append]
    rfl

/-- The numbers that bytes are. -/
def rNs (m : Nat → Int) (j : Nat) : Int := rdN (fun q => m (j * 8 + q))

theorem retRt {fn : Func} {R : Ending → World → Prop} {a : Act} {w' : World} (t s : Tmp) (b : Nat) (c : Nat → Int) (ty : TypeId) (v : Value) (h : fn.results = #[.cell t 24, .tmp s]) (hd : a.defers = []) (ht : a.tmps.getD t undef = .pointer (some ⟨b, 0, none⟩)) (hs : a.tmps.getD s undef = v) (hr : w'.heap[b]? = some (.cells (vs .u8 32 c) ty))
    (hR : R (.returned (.tuple #[.agg (vs .u8 32 c), v])) w') : bodyPost Try.prog fn R .ret a w' := by
  refine bodyPost_ret ?_ hd hR
  have hl := loadAt_var (load_row (P := Try.prog) hr 24 _ Try.underlying24 rfl (by rw [vs_size]; kernel_rfl))
  rw [Array.getD_eq_getD_getElem?] at ht hs
  simp [results, h, ht, hs, hl, asAddr]

theorem zeroR (W : World) : (zeroValue 24).run Try.prog W = .ok (.agg (vs .u8 32 fun _ => 0)) W := by kernel_rfl

theorem one_by (n : Nat) (f : Nat → Int) : cel ([] ++ [.by n f] ++ []) = vs .u8 n f := by
  apply Array.ext'
  rw [vs_list]
  show (List.range n).map _ ++ [] = _
  rw [List.append_nil]
  rfl

attribute [local go_sem ↓] sv24_eq lv24_eq

set_option maxHeartbeats 1000000 in
theorem rdRoot (f : Nat → Int) (b off cap : Nat) (w : World) (hb : Bys w (some ⟨b, off, none⟩) 32 cap f) :
    Calls Try.prog 71 #[.slice (some ⟨b, off, none⟩) 32 cap] w fun e w' => e = .returned (.tuple #[.agg (vs .u8 32 f), .int .i64 0]) ∧ Below w.heap.size w w' := by
  obtain ⟨_, _, e9, hl9, _, hc9⟩ := bys_at hb (by omega)
  cases e9
  have z := zeroR
  obtain ⟨W1, hW1⟩ : ∃ W, w.alloc (.cells (vs .u8 32 fun _ => 0) 24) = W := ⟨_, rfl⟩
  obtain ⟨W2, hW2⟩ : ∃ W, W1.alloc (.cells (vs .u8 32 fun _ => 0) 24) = W := ⟨_, rfl⟩
  have z1 : W1.heap.size = w.heap.size + 1 := by rw [← hW1]; simp
  obtain ⟨y, ey⟩ : ∃ y, w.heap.size = y := ⟨_, rfl⟩
  obtain ⟨r, er⟩ : ∃ r, W1.heap.size = r := ⟨_, rfl⟩
  have r1 : W2.heap[y]? = some (.cells (vs .u8 32 fun _ => 0) 24) := by
    rw [← hW2, ← ey]
    refine (heap_old (by omega)).trans ?_
    rw [← hW1]
    exact heap_new rfl
  have r2 : W2.heap[r]? = some (.cells (vs .u8 32 fun _ => 0) 24) := by
    rw [← hW2, ← er]
    exact heap_new rfl
  have hB : Below w.heap.size w W2 := by
    rw [← hW2, ← hW1]
    exact ((Below.refl _ _).alloc (Nat.le_refl _) _).alloc (by simp) _
  have hcopy := copy_in W2 r 0 32 [] [] 32 (fun _ => 0) f ⟨b, off, none⟩ 32 cap 32 0 24 (by rw [one_by]; exact r2) rfl (by omega) (by omega) (fun j hj => by
    rw [addr_add]
    exact (below_cell hB hl9).trans (hc9 j hj))
  rw [one_by, show vs .u8 32 (fun j => if 0 ≤ j ∧ j < 0 + 32 then f (j - 0) else 0) = vs .u8 32 f from vs_congr fun j hj => if_pos ⟨Nat.zero_le _, by omega⟩] at hcopy
  obtain ⟨W3, hW3⟩ : ∃ W, W2.setRow r (vs .u8 32 f) = W := ⟨_, rfl⟩
  have hk := (Kept.refl r W2).setRow (vs .u8 32 f)
  rw [hW3] at hcopy hk
  have r3 : W3.heap[r]? = some (.cells (vs .u8 32 f) 24) := by rw [← hW3]; exact setRow_at r2
  have r4 : W3.heap[y]? = some (.cells (vs .u8 32 fun _ => 0) 24) := (hk.block y (some_lt r1) (by omega)).trans r1
  have lv := lv24_mid (o := 0) (c := f) (fun j hj => by rw [Nat.zero_add]; exact row_int r3 j hj)
  have sv : (sv24 ⟨y, 0, none⟩ (.agg (vs .u8 32 f))).run Try.prog W3 = .ok () (W3.setRow y (vs .u8 32 f)) := run_storeVar_row W3 y 24 24 _ _ r4 (by rw [vs_size]; kernel_rfl) (by rw [vs_size, vs_size]) (vs_one _ _ _)
  have cp := hcopy 3
  have HB3 : Hid (Below w.heap.size w W3) := hB.trans (hk.below (by omega) hB.size)
  have HR4 := hid r4
  have HY := hid (show w.heap.size ≤ y by omega)
  clear hb hl9 hc9 hcopy hW3 hk r1 r2 r3 r4 hB z1
  go_enter Try.func71, Try.ntmps71
  go_upto_region 2 with fail
  clear hW1 hW2 er ey z
  go_upto_region 3 with fail
  go_wp2
  refine retRt _ _ y f 24 _ rfl rfl rfl rfl (setRow_at HR4.out) ⟨rfl, ?_⟩
  exact below_row HB3.out HY.out _

set_option maxHeartbeats 1000000 in
theorem rflN (m : Nat → Int) (a : Option Addr) (n c : Nat) (w : World) (hb : Bys w a n c m) (hn : n ≤ 65536) :
    Calls Try.prog 76 #[.slice a n c] w fun e w' => ∃ b d, e = .returned (.tuple #[.slice b n d, .int .i64 0]) ∧ w'.ownsRow w.heap.size 5 1 (.slice b n d) n (bl m n) ∧ Below w.heap.size w w' := by
  have hc := Z.clone_any m a n c w hb (by omega)
  have n1 : (n : Int) ≤ 65536 := by omega
  have HC := hid hc
  clear hc hb
  go_enter Try.func76, Try.ntmps76
  go_wp2_with (go_at_call 89; refine HC.out.mono ?_; rintro e w1 ⟨v, rfl, ho, hb1⟩; have HO := hid ho; obtain ⟨b, d, rfl, hy⟩ := own_at ho; clear ho hy)
  go_ret2
  exact ⟨b, d, rfl, HO.out, hb1⟩

attribute [local go_sem ↓] ixEth1_eq ixP_eq svEth1_eq

set_option maxHeartbeats 1000000 in
theorem reEth1 (m : Nat → Int) (a : Option Addr) (len c n : Nat) (w : World) (hb : Bys w a len c m) (hm : ∀ j, 0 ≤ m j ∧ m j < 256) (hn : len = n * 72) (hnm : n ≤ 8) :
    Calls Try.prog 72 #[.slice a len c, .int .i64 72, .int .i64 8, (.func (.func 42) #[] #[])] w fun e w' => ∃ g, e = .returned (.tuple #[.slice (some ⟨g, 0, none⟩) n n, .int .i64 0]) ∧ w'.ownsRow w.heap.size 34 65 (.slice (some ⟨g, 0, none⟩) n n) n (flat (fun i => celL (sEth1 (pEth1 (fun q => m (i * 72 + q))))) n) ∧ Below w.heap.size w w' := by
  have he := Z.each_ok m a len c 72 n 8 w hb (by omega) (by omega) (by omega) hn (by omega) (by omega) (by omega)
  have HE : Hid (Calls Try.prog 92 #[.slice a len c, .int .i64 72, .int .i64 8] w fun e w' => ∃ gp A, e = .returned (.tuple #[.slice (some ⟨gp, 0, none⟩) n n, .int .i64 0]) ∧ Below w.heap.size w w' ∧ gp < w'.heap.size ∧ (n = 0 ∨ Z.Parts w' (some ⟨gp, 0, none⟩) n A (fun _ => 72) (fun _ => 72) (fun i q => m (i * 72 + q)))) := by
    refine he.mono ?_
    rintro e w' ⟨ga, gp, rfl, x1, x2, x3, x4⟩
    have hgp := (Array.getElem?_eq_some_iff.1 x3).1
    by_cases h0 : n = 0
    · exact ⟨gp, fun _ => none, rfl, x4, hgp, .inl h0⟩
    · obtain ⟨g, rfl, y1, y2, y3, y4⟩ := x2 (by omega)
      obtain ⟨A, hA⟩ := Z.parts_of (L := fun _ => 72) (f := fun i q => m (i * 72 + q)) x3 (fun r hr => by
        have h := Z.pc_bys y2 y4 (r * 72) ((r + 1) * 72) (by omega) (by omega) (by omega)
        rw [show (r + 1) * 72 - r * 72 = 72 by omega] at h
        exact h)
      exact ⟨gp, A, rfl, x4, hgp, .inr hA⟩
  have HM := hid hm
  have n1 : (n : Int) ≤ 8 := by omega
  have n0 : (0 : Int) ≤ (n : Int) := by omega
  have HN := hid hnm
  obtain ⟨E, eE⟩ : ∃ E : Nat → List Value, (fun i => celL (sEth1 (pEth1 (fun q => m (i * 72 + q))))) = E := ⟨_, rfl⟩
  have HEL : Hid (∀ i, (E i).length = 65) := fun i => by rw [← eE]; rw [celL_len]; rfl
  obtain ⟨ii, hi, hz0, hz1, hz2⟩ := info_out (P := Try.prog) (t := 34) (z := .agg (cel (sEth1 oEth1))) (s := 65) (b := 72) (by kernel_rfl)
  have II := hid (And.intro hi (And.intro hz0 (And.intro hz1 hz2)))
  clear he hb hm hn hi hz0 hz1 hz2 hnm
  suffices hsuf : Calls Try.prog 72 #[.slice a len c, .int .i64 72, .int .i64 8, (.func (.func 42) #[] #[])] w fun e w' => ∃ g, e = .returned (.tuple #[.slice (some ⟨g, 0, none⟩) n n, .int .i64 0]) ∧ w'.ownsRow w.heap.size 34 65 (.slice (some ⟨g, 0, none⟩) n n) n (flat E n) ∧ Below w.heap.size w w' by
    rw [← eE] at hsuf
    exact hsuf
  have EE := hid eE
  clear eE
  go_enter Try.func72, Try.ntmps72
  go_upto_region 6 with (first
    | (go_at_call 92; refine HE.out.mono ?_; rintro e w1 ⟨gp, A, rfl, hb1, hgp, hp1⟩; have HB1 := hid hb1; have HP1 := hid hp1; have HGP := hid hgp; clear hb1 hp1 hgp)
    | (at_make; refine wpList_make_full _ rfl _ _ 35 rfl w1.heap.size 34 ii (.agg (cel (sEth1 oEth1))) 65 Try.underlying35 II.out.1 II.out.2.1 II.out.2.2.1 _ _ _ _ n rfl rfl rfl rfl (by rw [II.out.2.2.2]; have := HN.out; omega) (by unfold maxLen; have := HN.out; omega) (Nat.le_refl _) ?_; intro w2 ho2 hg2; have HB2 : Hid (Below w1.heap.size w1 w2) := below_of_grown hg2; have HO2 := hid ho2; clear ho2 hg2))
  obtain ⟨sa, esa⟩ : ∃ g, w1.heap.size = g := ⟨_, rfl⟩
  have H0 : Hid (∃ cur, w2.heap[sa]? = some (.cells cur 34) ∧ cur.size = n * 65 ∧ cur.toList.take (0 * 65) = flat E 0) := by
    rcases HO2.out.2 with ⟨h0, _⟩ | ⟨g, cap, cur, hv, hB, hg, h1, h2, hs, ht⟩
    · cases h0
    · cases hv
      rw [← esa]
      exact ⟨cur, hg, hs, by rw [Nat.zero_mul]; rfl⟩
  have ESA := hid esa
  rw [esa]
  clear HE HO2 II esa
  go_loopw [30] (fun i wr => ∃ k : Nat, k ≤ n ∧ i = .int .i64 k ∧ Below w1.heap.size w1 wr ∧ ∃ cur, wr.heap[sa]? = some (.cells cur 34) ∧ cur.size = n * 65 ∧ cur.toList.take (k * 65) = flat E k) (fun i _ => n - (intOf i).toNat)
  case atStart => exact ⟨0, by omega, rfl, HB2.out, H0.out⟩
  case round =>
    clear H0 HB2
    obtain ⟨k, hk, rfl, hB, cur, hr, hs, ht⟩ := hrel
    by_cases hlt : k < n
    · have b1 : decide (k < n) = true := by simp; omega
      have b2 : decide ((k : Int) < (n : Int)) = true := by simp; omega
      rcases HP1.out with h | hpp
      · omega
      obtain ⟨b9, o9, e9, hb9, c9, y9⟩ := Z.parts_at (hpp.below hB) k hlt
      cases e9
      rw [Nat.zero_add] at c9
      have hrd := readEth1_ok (fun q => m (k * 72 + q)) (A k) 72 wr y9 (fun j => HM.out _) (by omega) (by omega)
      have ek : E k = celL (sEth1 (pEth1 (fun q => m (k * 72 + q)))) := by rw [← EE.out]
      obtain ⟨v, ev⟩ : ∃ v, pEth1 (fun q => m (k * 72 + q)) = v := ⟨_, rfl⟩
      rw [ev] at hrd ek
      have HRD := hid hrd
      have ixp := fun W => ixP_run W gp 0 n n k hlt
      simp only [Nat.zero_add] at ixp
      have ixi := fun W => ixEth1_run W sa 0 n n k hlt
      simp only [Nat.zero_add] at ixi
      obtain ⟨P, eP⟩ : ∃ P, 65 * k = P := ⟨_, rfl⟩
      simp only [eP] at ixi
      have HPn := hid (show P + 65 ≤ cur.size by rw [hs]; have : (k + 1) * 65 ≤ n * 65 := Nat.mul_le_mul_right _ hlt; omega)
      have eP2 : k * 65 = P := by omega
      have EP := hid eP2
      have HSV : Hid (∀ X, X.heap[sa]? = some (.cells cur 34) → (svEth1 ⟨sa, P, none⟩ (.agg (cel (sEth1 v)))).run Try.prog X = .ok () (X.setCells sa P (celL (sEth1 v)))) := fun X h =>
        run_storeVar_mid (P := Try.prog) X sa P 34 (cel (sEth1 v)) (by rw [cel_size, show slen (sEth1 v) = 65 from rfl]; exact there_row h P 65 HPn.out) (by rw [cel_size, show slen (sEth1 v) = 65 from rfl]; kernel_rfl) (cel_one _)
      have HPT := hid (put_take hs hlt HEL.out ht)
      have EK := hid ek
      have HBK := hid hB
      have HRK := hid hr
      clear hB hr hpp y9 hb9 hrd ev ek eP eP2 hs ht
      generalize A k = ak at c9 HRD
      go_wp2_with (go_at_call 42; refine HRD.out.mono ?_; rintro e w3 ⟨rfl, hb3⟩; have hr3 := (hb3.block sa (some_lt HRK.out)).trans HRK.out; have svv := HSV.out w3 hr3; have HB3 := hid (HBK.out.trans (hb3.mono HBK.out.size)); have HR3 := hid hr3; clear hb3 hr3)
      go_roundw
      case rel =>
        refine ⟨k + 1, by omega, by go_num, HB3.out.trans ((setCells_kept _ _ (Kept.refl sa w3)).below (by rw [ESA.out]; exact Nat.le_refl _) HB3.out.size), _, setCells_row _ _ HR3.out, ?_⟩
        have := HPT.out
        rw [EK.out, EP.out] at this
        exact this
      case measure => simp [intOf]; omega
    · obtain rfl : n = k := by omega
      have b1 : decide (n < n) = false := by simp
      have b2 : decide ((n : Int) < (n : Int)) = false := by simp
      have HB := hid hB
      have HR := hid (And.intro hr (And.intro hs ht))
      clear hB hr hs ht
      go_wp2
      go_ret2
      have q1 := HB1.out.size
      have q2 := ESA.out
      exact ⟨sa, rfl, ⟨flat_len HEL.out n, .inr ⟨sa, n, cur, rfl, by omega, HR.out.1, Nat.le_refl _, by unfold maxLen; have := HN.out; omega, HR.out.2.1, HR.out.2.2⟩⟩, HB1.out.trans (HB.out.mono HB1.out.size)⟩

attribute [local go_sem ↓] ixValidator_eq ixP_eq svValidator_eq

set_option maxHeartbeats 1000000 in
theorem reValidator (m : Nat → Int) (a : Option Addr) (len c n : Nat) (w : World) (hb : Bys w a len c m) (hm : ∀ j, 0 ≤ m j ∧ m j < 256) (hn : len = n * 121) (hnm : n ≤ 65536) (hfl : ∀ i, i < n → ¬ 1 < m (i * 121 + 88)) :
    Calls Try.prog 73 #[.slice a len c, .int .i64 121, .int .i64 65536, (.func (.func 74) #[] #[])] w fun e w' => ∃ g, e = .returned (.tuple #[.slice (some ⟨g, 0, none⟩) n n, .int .i64 0]) ∧ w'.ownsRow w.heap.size 64 86 (.slice (some ⟨g, 0, none⟩) n n) n (flat (fun i => celL (sValidator (pValidator (fun q => m (i * 121 + q))))) n) ∧ Below w.heap.size w w' := by
  have he := Z.each_ok m a len c 121 n 65536 w hb (by omega) (by omega) (by omega) hn (by omega) (by omega) (by omega)
  have HE : Hid (Calls Try.prog 92 #[.slice a len c, .int .i64 121, .int .i64 65536] w fun e w' => ∃ gp A, e = .returned (.tuple #[.slice (some ⟨gp, 0, none⟩) n n, .int .i64 0]) ∧ Below w.heap.size w w' ∧ gp < w'.heap.size ∧ (n = 0 ∨ Z.Parts w' (some ⟨gp, 0, none⟩) n A (fun _ => 121) (fun _ => 121) (fun i q => m (i * 121 + q)))) := by
    refine he.mono ?_
    rintro e w' ⟨ga, gp, rfl, x1, x2, x3, x4⟩
    have hgp := (Array.getElem?_eq_some_iff.1 x3).1
    by_cases h0 : n = 0
    · exact ⟨gp, fun _ => none, rfl, x4, hgp, .inl h0⟩
    · obtain ⟨g, rfl, y1, y2, y3, y4⟩ := x2 (by omega)
      obtain ⟨A, hA⟩ := Z.parts_of (L := fun _ => 121) (f := fun i q => m (i * 121 + q)) x3 (fun r hr => by
        have h := Z.pc_bys y2 y4 (r * 121) ((r + 1) * 121) (by omega) (by omega) (by omega)
        rw [show (r + 1) * 121 - r * 121 = 121 by omega] at h
        exact h)
      exact ⟨gp, A, rfl, x4, hgp, .inr hA⟩
  have HM := hid hm
  have HFL := hid hfl
  clear hfl
  have n1 : (n : Int) ≤ 65536 := by omega
  have n0 : (0 : Int) ≤ (n : Int) := by omega
  have HN := hid hnm
  obtain ⟨E, eE⟩ : ∃ E : Nat → List Value, (fun i => celL (sValidator (pValidator (fun q => m (i * 121 + q))))) = E := ⟨_, rfl⟩
  have HEL : Hid (∀ i, (E i).length = 86) := fun i => by rw [← eE]; rw [celL_len]; rfl
  obtain ⟨ii, hi, hz0, hz1, hz2⟩ := info_out (P := Try.prog) (t := 64) (z := .agg (cel (sValidator oValidator))) (s := 86) (b := 128) (by kernel_rfl)
  have II := hid (And.intro hi (And.intro hz0 (And.intro hz1 hz2)))
  clear he hb hm hn hi hz0 hz1 hz2 hnm
  suffices hsuf : Calls Try.prog 73 #[.slice a len c, .int .i64 121, .int .i64 65536, (.func (.func 74) #[] #[])] w fun e w' => ∃ g, e = .returned (.tuple #[.slice (some ⟨g, 0, none⟩) n n, .int .i64 0]) ∧ w'.ownsRow w.heap.size 64 86 (.slice (some ⟨g, 0, none⟩) n n) n (flat E n) ∧ Below w.heap.size w w' by
    rw [← eE] at hsuf
    exact hsuf
  have EE := hid eE
  clear eE
  go_enter Try.func73, Try.ntmps73
  go_upto_region 6 with (first
    | (go_at_call 92; refine HE.out.mono ?_; rintro e w1 ⟨gp, A, rfl, hb1, hgp, hp1⟩; have HB1 := hid hb1; have HP1 := hid hp1; have HGP := hid hgp; clear hb1 hp1 hgp)
    | (at_make; refine wpList_make_full _ rfl _ _ 36 rfl w1.heap.size 64 ii (.agg (cel (sValidator oValidator))) 86 Try.underlying36 II.out.1 II.out.2.1 II.out.2.2.1 _ _ _ _ n rfl rfl rfl rfl (by rw [II.out.2.2.2]; have := HN.out; omega) (by unfold maxLen; have := HN.out; omega) (Nat.le_refl _) ?_; intro w2 ho2 hg2; have HB2 : Hid (Below w1.heap.size w1 w2) := below_of_grown hg2; have HO2 := hid ho2; clear ho2 hg2))
  obtain ⟨sa, esa⟩ : ∃ g, w1.heap.size = g := ⟨_, rfl⟩
  have H0 : Hid (∃ cur, w2.heap[sa]? = some (.cells cur 64) ∧ cur.size = n * 86 ∧ cur.toList.take (0 * 86) = flat E 0) := by
    rcases HO2.out.2 with ⟨h0, _⟩ | ⟨g, cap, cur, hv, hB, hg, h1, h2, hs, ht⟩
    · cases h0
    · cases hv
      rw [← esa]
      exact ⟨cur, hg, hs, by rw [Nat.zero_mul]; rfl⟩
  have ESA := hid esa
  rw [esa]
  clear HE HO2 II esa
  go_loopw [30] (fun i wr => ∃ k : Nat, k ≤ n ∧ i = .int .i64 k ∧ Below w1.heap.size w1 wr ∧ ∃ cur, wr.heap[sa]? = some (.cells cur 64) ∧ cur.size = n * 86 ∧ cur.toList.take (k * 86) = flat E k) (fun i _ => n - (intOf i).toNat)
  case atStart => exact ⟨0, by omega, rfl, HB2.out, H0.out⟩
  case round =>
    clear H0 HB2
    obtain ⟨k, hk, rfl, hB, cur, hr, hs, ht⟩ := hrel
    by_cases hlt : k < n
    · have b1 : decide (k < n) = true := by simp; omega
      have b2 : decide ((k : Int) < (n : Int)) = true := by simp; omega
      rcases HP1.out with h | hpp
      · omega
      obtain ⟨b9, o9, e9, hb9, c9, y9⟩ := Z.parts_at (hpp.below hB) k hlt
      cases e9
      rw [Nat.zero_add] at c9
      have hrd := readValidator_ok (fun q => m (k * 121 + q)) (A k) 121 wr y9 (fun j => HM.out _) (by omega) (by omega) (by have := HFL.out k hlt; omega)
      have ek : E k = celL (sValidator (pValidator (fun q => m (k * 121 + q)))) := by rw [← EE.out]
      obtain ⟨v, ev⟩ : ∃ v, pValidator (fun q => m (k * 121 + q)) = v := ⟨_, rfl⟩
      rw [ev] at hrd ek
      have HRD := hid hrd
      have ixp := fun W => ixP_run W gp 0 n n k hlt
      simp only [Nat.zero_add] at ixp
      have ixi := fun W => ixValidator_run W sa 0 n n k hlt
      simp only [Nat.zero_add] at ixi
      obtain ⟨P, eP⟩ : ∃ P, 86 * k = P := ⟨_, rfl⟩
      simp only [eP] at ixi
      have HPn := hid (show P + 86 ≤ cur.size by rw [hs]; have : (k + 1) * 86 ≤ n * 86 := Nat.mul_le_mul_right _ hlt; omega)
      have eP2 : k * 86 = P := by omega
      have EP := hid eP2
      have HSV : Hid (∀ X, X.heap[sa]? = some (.cells cur 64) → (svValidator ⟨sa, P, none⟩ (.agg (cel (sValidator v)))).run Try.prog X = .ok () (X.setCells sa P (celL (sValidator v)))) := fun X h =>
        run_storeVar_mid (P := Try.prog) X sa P 64 (cel (sValidator v)) (by rw [cel_size, show slen (sValidator v) = 86 from rfl]; exact there_row h P 86 HPn.out) (by rw [cel_size, show slen (sValidator v) = 86 from rfl]; kernel_rfl) (cel_one _)
      have HPT := hid (put_take hs hlt HEL.out ht)
      have EK := hid ek
      have HBK := hid hB
      have HRK := hid hr
      clear hB hr hpp y9 hb9 hrd ev ek eP eP2 hs ht
      generalize A k = ak at c9 HRD
      go_wp2_with (go_at_call 74; refine HRD.out.mono ?_; rintro e w3 ⟨rfl, hb3⟩; have hr3 := (hb3.block sa (some_lt HRK.out)).trans HRK.out; have svv := HSV.out w3 hr3; have HB3 := hid (HBK.out.trans (hb3.mono HBK.out.size)); have HR3 := hid hr3; clear hb3 hr3)
      go_roundw
      case rel =>
        refine ⟨k + 1, by omega, by go_num, HB3.out.trans ((setCells_kept _ _ (Kept.refl sa w3)).below (by rw [ESA.out]; exact Nat.le_refl _) HB3.out.size), _, setCells_row _ _ HR3.out, ?_⟩
        have := HPT.out
        rw [EK.out, EP.out] at this
        exact this
      case measure => simp [intOf]; omega
    · obtain rfl : n = k := by omega
      have b1 : decide (n < n) = false := by simp
      have b2 : decide ((n : Int) < (n : Int)) = false := by simp
      have HB := hid hB
      have HR := hid (And.intro hr (And.intro hs ht))
      clear hB hr hs ht
      go_wp2
      go_ret2
      have q1 := HB1.out.size
      have q2 := ESA.out
      exact ⟨sa, rfl, ⟨flat_len HEL.out n, .inr ⟨sa, n, cur, rfl, by omega, HR.out.1, Nat.le_refl _, by unfold maxLen; have := HN.out; omega, HR.out.2.1, HR.out.2.2⟩⟩, HB1.out.trans (HB.out.mono HB1.out.size)⟩

attribute [local go_sem ↓] ix22_eq ixP_eq sv24_eq

set_option maxHeartbeats 1000000 in
theorem reRoot (m : Nat → Int) (a : Option Addr) (len c n : Nat) (w : World) (hb : Bys w a len c m) (hm : ∀ j, 0 ≤ m j ∧ m j < 256) (hn : len = n * 32) (hnm : n ≤ 1024) :
    Calls Try.prog 70 #[.slice a len c, .int .i64 32, .int .i64 1024, (.func (.func 71) #[] #[])] w fun e w' => ∃ g, e = .returned (.tuple #[.slice (some ⟨g, 0, none⟩) n n, .int .i64 0]) ∧ w'.ownsRow w.heap.size 24 32 (.slice (some ⟨g, 0, none⟩) n n) n (bl m (32 * n)) ∧ Below w.heap.size w w' := by
  have he := Z.each_ok m a len c 32 n 1024 w hb (by omega) (by omega) (by omega) hn (by omega) (by omega) (by omega)
  have HE : Hid (Calls Try.prog 92 #[.slice a len c, .int .i64 32, .int .i64 1024] w fun e w' => ∃ gp A, e = .returned (.tuple #[.slice (some ⟨gp, 0, none⟩) n n, .int .i64 0]) ∧ Below w.heap.size w w' ∧ gp < w'.heap.size ∧ (n = 0 ∨ Z.Parts w' (some ⟨gp, 0, none⟩) n A (fun _ => 32) (fun _ => 32) (fun i q => m (i * 32 + q)))) := by
    refine he.mono ?_
    rintro e w' ⟨ga, gp, rfl, x1, x2, x3, x4⟩
    have hgp := (Array.getElem?_eq_some_iff.1 x3).1
    by_cases h0 : n = 0
    · exact ⟨gp, fun _ => none, rfl, x4, hgp, .inl h0⟩
    · obtain ⟨g, rfl, y1, y2, y3, y4⟩ := x2 (by omega)
      obtain ⟨A, hA⟩ := Z.parts_of (L := fun _ => 32) (f := fun i q => m (i * 32 + q)) x3 (fun r hr => by
        have h := Z.pc_bys y2 y4 (r * 32) ((r + 1) * 32) (by omega) (by omega) (by omega)
        rw [show (r + 1) * 32 - r * 32 = 32 by omega] at h
        exact h)
      exact ⟨gp, A, rfl, x4, hgp, .inr hA⟩
  have HM := hid hm
  have n1 : (n : Int) ≤ 1024 := by omega
  have n0 : (0 : Int) ≤ (n : Int) := by omega
  have HN := hid hnm
  obtain ⟨E, eE⟩ : ∃ E : Nat → List Value, (fun i => bl (fun q => m (i * 32 + q)) 32) = E := ⟨_, rfl⟩
  have HEL : Hid (∀ i, (E i).length = 32) := fun i => by rw [← eE]; exact bl_len _ _
  obtain ⟨ii, hi, hz0, hz1, hz2⟩ := info_out (P := Try.prog) (t := 24) (z := .agg (vs .u8 32 fun _ => 0)) (s := 32) (b := 32) (by kernel_rfl)
  have II := hid (And.intro hi (And.intro hz0 (And.intro hz1 hz2)))
  clear he hb hm hn hi hz0 hz1 hz2 hnm
  suffices hsuf : Calls Try.prog 70 #[.slice a len c, .int .i64 32, .int .i64 1024, (.func (.func 71) #[] #[])] w fun e w' => ∃ g, e = .returned (.tuple #[.slice (some ⟨g, 0, none⟩) n n, .int .i64 0]) ∧ w'.ownsRow w.heap.size 24 32 (.slice (some ⟨g, 0, none⟩) n n) n (flat E n) ∧ Below w.heap.size w w' by
    rw [← eE] at hsuf
    rw [flat_bl] at hsuf
    exact hsuf
  have EE := hid eE
  clear eE
  go_enter Try.func70, Try.ntmps70
  go_upto_region 6 with (first
    | (go_at_call 92; refine HE.out.mono ?_; rintro e w1 ⟨gp, A, rfl, hb1, hgp, hp1⟩; have HB1 := hid hb1; have HP1 := hid hp1; have HGP := hid hgp; clear hb1 hp1 hgp)
    | (at_make; refine wpList_make_full _ rfl _ _ 32 rfl w1.heap.size 24 ii (.agg (vs .u8 32 fun _ => 0)) 32 Try.underlying32 II.out.1 II.out.2.1 II.out.2.2.1 _ _ _ _ n rfl rfl rfl rfl (by rw [II.out.2.2.2]; have := HN.out; omega) (by unfold maxLen; have := HN.out; omega) (Nat.le_refl _) ?_; intro w2 ho2 hg2; have HB2 : Hid (Below w1.heap.size w1 w2) := below_of_grown hg2; have HO2 := hid ho2; clear ho2 hg2))
  obtain ⟨sa, esa⟩ : ∃ g, w1.heap.size = g := ⟨_, rfl⟩
  have H0 : Hid (∃ cur, w2.heap[sa]? = some (.cells cur 24) ∧ cur.size = n * 32 ∧ cur.toList.take (0 * 32) = flat E 0) := by
    rcases HO2.out.2 with ⟨h0, _⟩ | ⟨g, cap, cur, hv, hB, hg, h1, h2, hs, ht⟩
    · cases h0
    · cases hv
      rw [← esa]
      exact ⟨cur, hg, hs, by rw [Nat.zero_mul]; rfl⟩
  have ESA := hid esa
  rw [esa]
  clear HE HO2 II esa
  go_loopw [30] (fun i wr => ∃ k : Nat, k ≤ n ∧ i = .int .i64 k ∧ Below w1.heap.size w1 wr ∧ ∃ cur, wr.heap[sa]? = some (.cells cur 24) ∧ cur.size = n * 32 ∧ cur.toList.take (k * 32) = flat E k) (fun i _ => n - (intOf i).toNat)
  case atStart => exact ⟨0, by omega, rfl, HB2.out, H0.out⟩
  case round =>
    clear H0 HB2
    obtain ⟨k, hk, rfl, hB, cur, hr, hs, ht⟩ := hrel
    by_cases hlt : k < n
    · have b1 : decide (k < n) = true := by simp; omega
      have b2 : decide ((k : Int) < (n : Int)) = true := by simp; omega
      rcases HP1.out with h | hpp
      · omega
      obtain ⟨b9, o9, e9, hb9, c9, y9⟩ := Z.parts_at (hpp.below hB) k hlt
      cases e9
      rw [Nat.zero_add] at c9
      obtain ⟨b8, o8, e8, hb8, hcp8, hc8⟩ := bys_at y9 (by omega)
      rw [e8] at c9 y9
      have hrd := rdRoot (fun q => m (k * 32 + q)) b8 o8 32 wr y9
      have ek : E k = bl (fun q => m (k * 32 + q)) 32 := by rw [← EE.out]
      obtain ⟨v, ev⟩ : ∃ v, (fun q => m (k * 32 + q)) = v := ⟨_, rfl⟩
      rw [ev] at hrd ek
      have HRD := hid hrd
      clear hb8 hcp8 hc8 e8
      have ixp := fun W => ixP_run W gp 0 n n k hlt
      simp only [Nat.zero_add] at ixp
      have ixi := fun W => ix22_run W sa 0 n n k hlt
      simp only [Nat.zero_add] at ixi
      obtain ⟨P, eP⟩ : ∃ P, 32 * k = P := ⟨_, rfl⟩
      simp only [eP] at ixi
      have HPn := hid (show P + 32 ≤ cur.size by rw [hs]; have : (k + 1) * 32 ≤ n * 32 := Nat.mul_le_mul_right _ hlt; omega)
      have eP2 : k * 32 = P := by omega
      have EP := hid eP2
      have HSV : Hid (∀ X, X.heap[sa]? = some (.cells cur 24) → (sv24 ⟨sa, P, none⟩ (.agg (vs .u8 32 v))).run Try.prog X = .ok () (X.setCells sa P (bl v 32))) := fun X h => by
        have := run_storeVar_mid (P := Try.prog) X sa P 24 (vs .u8 32 v) (by rw [vs_size]; exact there_row h P 32 HPn.out) (by rw [vs_size]; kernel_rfl) (vs_one _ _ _)
        rw [vs_list] at this
        exact this
      have HPT := hid (put_take hs hlt HEL.out ht)
      have EK := hid ek
      have HBK := hid hB
      have HRK := hid hr
      clear hB hr hpp y9 hb9 hrd ev ek eP eP2 hs ht
      go_wp2_with (go_at_call 71; refine HRD.out.mono ?_; rintro e w3 ⟨rfl, hb3⟩; have hr3 := (hb3.block sa (some_lt HRK.out)).trans HRK.out; have svv := HSV.out w3 hr3; have HB3 := hid (HBK.out.trans (hb3.mono HBK.out.size)); have HR3 := hid hr3; clear hb3 hr3)
      go_roundw
      case rel =>
        refine ⟨k + 1, by omega, by go_num, HB3.out.trans ((setCells_kept _ _ (Kept.refl sa w3)).below (by rw [ESA.out]; exact Nat.le_refl _) HB3.out.size), _, setCells_row _ _ HR3.out, ?_⟩
        have := HPT.out
        rw [EK.out, EP.out] at this
        exact this
      case measure => simp [intOf]; omega
    · obtain rfl : n = k := by omega
      have b1 : decide (n < n) = false := by simp
      have b2 : decide ((n : Int) < (n : Int)) = false := by simp
      have HB := hid hB
      have HR := hid (And.intro hr (And.intro hs ht))
      clear hB hr hs ht
      go_wp2
      go_ret2
      have q1 := HB1.out.size
      have q2 := ESA.out
      exact ⟨sa, rfl, ⟨flat_len HEL.out n, .inr ⟨sa, n, cur, rfl, by omega, HR.out.1, Nat.le_refl _, by unfold maxLen; have := HN.out; omega, HR.out.2.1, HR.out.2.2⟩⟩, HB1.out.trans (HB.out.mono HB1.out.size)⟩

attribute [local go_sem ↓] ixU_eq ixP_eq

set_option maxHeartbeats 1000000 in
theorem reU64 (m : Nat → Int) (a : Option Addr) (len c n : Nat) (w : World) (hb : Bys w a len c m) (hm : ∀ j, 0 ≤ m j ∧ m j < 256) (hn : len = n * 8) (hnm : n ≤ 65536) :
    Calls Try.prog 75 #[.slice a len c, .int .i64 8, .int .i64 65536, (.func (.func 38) #[] #[])] w fun e w' => ∃ g, e = .returned (.tuple #[.slice (some ⟨g, 0, none⟩) n n, .int .i64 0]) ∧ w'.ownsRow w.heap.size 22 1 (.slice (some ⟨g, 0, none⟩) n n) n (nl (rNs m) n) ∧ Below w.heap.size w w' := by
  have he := Z.each_ok m a len c 8 n 65536 w hb (by omega) (by omega) (by omega) hn (by omega) (by omega) (by omega)
  have HE : Hid (Calls Try.prog 92 #[.slice a len c, .int .i64 8, .int .i64 65536] w fun e w' => ∃ gp A, e = .returned (.tuple #[.slice (some ⟨gp, 0, none⟩) n n, .int .i64 0]) ∧ Below w.heap.size w w' ∧ gp < w'.heap.size ∧ (n = 0 ∨ Z.Parts w' (some ⟨gp, 0, none⟩) n A (fun _ => 8) (fun _ => 8) (fun i q => m (i * 8 + q)))) := by
    refine he.mono ?_
    rintro e w' ⟨ga, gp, rfl, x1, x2, x3, x4⟩
    have hgp := (Array.getElem?_eq_some_iff.1 x3).1
    by_cases h0 : n = 0
    · exact ⟨gp, fun _ => none, rfl, x4, hgp, .inl h0⟩
    · obtain ⟨g, rfl, y1, y2, y3, y4⟩ := x2 (by omega)
      obtain ⟨A, hA⟩ := Z.parts_of (L := fun _ => 8) (f := fun i q => m (i * 8 + q)) x3 (fun r hr => by
        have h := Z.pc_bys y2 y4 (r * 8) ((r + 1) * 8) (by omega) (by omega) (by omega)
        rw [show (r + 1) * 8 - r * 8 = 8 by omega] at h
        exact h)
      exact ⟨gp, A, rfl, x4, hgp, .inr hA⟩
  have HM := hid hm
  have n1 : (n : Int) ≤ 65536 := by omega
  have n0 : (0 : Int) ≤ (n : Int) := by omega
  have HN := hid hnm
  obtain ⟨E, eE⟩ : ∃ E : Nat → List Value, (fun i => [Value.int .u64 (rNs m i)]) = E := ⟨_, rfl⟩
  have HEL : Hid (∀ i, (E i).length = 1) := fun i => by rw [← eE]; rfl
  obtain ⟨ii, hi, hz0, hz1, hz2⟩ := info_out (P := Try.prog) (t := 22) (z := .int .u64 0) (s := 1) (b := 8) (by kernel_rfl)
  have II := hid (And.intro hi (And.intro hz0 (And.intro hz1 hz2)))
  clear he hb hm hn hi hz0 hz1 hz2 hnm
  suffices hsuf : Calls Try.prog 75 #[.slice a len c, .int .i64 8, .int .i64 65536, (.func (.func 38) #[] #[])] w fun e w' => ∃ g, e = .returned (.tuple #[.slice (some ⟨g, 0, none⟩) n n, .int .i64 0]) ∧ w'.ownsRow w.heap.size 22 1 (.slice (some ⟨g, 0, none⟩) n n) n (flat E n) ∧ Below w.heap.size w w' by
    rw [← eE] at hsuf
    rw [flat_nl] at hsuf
    exact hsuf
  have EE := hid eE
  clear eE
  go_enter Try.func75, Try.ntmps75
  go_upto_region 6 with (first
    | (go_at_call 92; refine HE.out.mono ?_; rintro e w1 ⟨gp, A, rfl, hb1, hgp, hp1⟩; have HB1 := hid hb1; have HP1 := hid hp1; have HGP := hid hgp; clear hb1 hp1 hgp)
    | (at_make; refine wpList_make_full _ rfl _ _ 37 rfl w1.heap.size 22 ii (.int .u64 0) 1 Try.underlying37 II.out.1 II.out.2.1 II.out.2.2.1 _ _ _ _ n rfl rfl rfl rfl (by rw [II.out.2.2.2]; have := HN.out; omega) (by unfold maxLen; have := HN.out; omega) (Nat.le_refl _) ?_; intro w2 ho2 hg2; have HB2 : Hid (Below w1.heap.size w1 w2) := below_of_grown hg2; have HO2 := hid ho2; clear ho2 hg2))
  obtain ⟨sa, esa⟩ : ∃ g, w1.heap.size = g := ⟨_, rfl⟩
  have H0 : Hid (∃ cur, w2.heap[sa]? = some (.cells cur 22) ∧ cur.size = n * 1 ∧ cur.toList.take (0 * 1) = flat E 0) := by
    rcases HO2.out.2 with ⟨h0, _⟩ | ⟨g, cap, cur, hv, hB, hg, h1, h2, hs, ht⟩
    · cases h0
    · cases hv
      rw [← esa]
      exact ⟨cur, hg, hs, by rw [Nat.zero_mul]; rfl⟩
  have ESA := hid esa
  rw [esa]
  clear HE HO2 II esa
  go_loopw [30] (fun i wr => ∃ k : Nat, k ≤ n ∧ i = .int .i64 k ∧ Below w1.heap.size w1 wr ∧ ∃ cur, wr.heap[sa]? = some (.cells cur 22) ∧ cur.size = n * 1 ∧ cur.toList.take (k * 1) = flat E k) (fun i _ => n - (intOf i).toNat)
  case atStart => exact ⟨0, by omega, rfl, HB2.out, H0.out⟩
  case round =>
    clear H0 HB2
    obtain ⟨k, hk, rfl, hB, cur, hr, hs, ht⟩ := hrel
    by_cases hlt : k < n
    · have b1 : decide (k < n) = true := by simp; omega
      have b2 : decide ((k : Int) < (n : Int)) = true := by simp; omega
      rcases HP1.out with h | hpp
      · omega
      obtain ⟨b9, o9, e9, hb9, c9, y9⟩ := Z.parts_at (hpp.below hB) k hlt
      cases e9
      rw [Nat.zero_add] at c9
      have hrd : Calls Try.prog 38 #[.slice (A k) 8 8] wr fun e w' => e = .returned (.tuple #[.int .u64 (rNs m k), .int .i64 0]) ∧ w' = wr := wread8 (A k) 8 (fun q => m (k * 8 + q)) wr y9 (fun j hj => HM.out (k * 8 + j))
      have ek : E k = [.int .u64 (rNs m k)] := by rw [← EE.out]
      obtain ⟨v, ev⟩ : ∃ v, rNs m k = v := ⟨_, rfl⟩
      rw [ev] at hrd ek
      have HRD := hid hrd
      have ixp := fun W => ixP_run W gp 0 n n k hlt
      simp only [Nat.zero_add] at ixp
      have ixi := fun W => ixU_run W sa 0 n n k hlt
      simp only [Nat.zero_add] at ixi
      have c2 : ∃ u, wr.cell? ⟨sa, k, none⟩ = some u := ⟨_, (row_cell hr k).trans (Array.getElem?_eq_getElem (by rw [hs]; omega))⟩
      obtain ⟨u2, c2⟩ := c2
      have f2 := row_frozen hr k
      have HPT := hid (set_take (.int .u64 v) hs hlt ek ht)
      have HBK := hid hB
      have HRK := hid hr
      clear hB hr hpp y9 hb9 hrd ev ek hs ht
      generalize A k = ak at c9 HRD
      go_wp2_with (go_at_call 38; refine HRD.out.mono ?_; rintro e w3 ⟨rfl, hw⟩; obtain rfl := hw.symm)
      go_roundw
      case rel => exact ⟨k + 1, by omega, by go_num, HBK.out.setCell (by rw [ESA.out]; exact Nat.le_refl _) _, _, row_set HRK.out k _, HPT.out⟩
      case measure => simp [intOf]; omega
    · obtain rfl : n = k := by omega
      have b1 : decide (n < n) = false := by simp
      have b2 : decide ((n : Int) < (n : Int)) = false := by simp
      have HB := hid hB
      have HR := hid (And.intro hr (And.intro hs ht))
      clear hB hr hs ht
      go_wp2
      go_ret2
      have q1 := HB1.out.size
      have q2 := ESA.out
      exact ⟨sa, rfl, ⟨flat_len HEL.out n, .inr ⟨sa, n, cur, rfl, by omega, HR.out.1, Nat.le_refl _, by unfold maxLen; have := HN.out; omega, HR.out.2.1, HR.out.2.2⟩⟩, HB1.out.trans (HB.out.mono HB1.out.size)⟩

end Go.Proofs.Ytehpfemlcjcabaa
