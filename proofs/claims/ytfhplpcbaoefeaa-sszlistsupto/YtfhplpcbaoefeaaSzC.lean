/-
  What areSizes, inHead, headLength, inOrder answer.
-/
import Derived.Test.YtfhplpcbaoefeaaSzB
namespace Go.Proofs.Ytfhplpcbaoefeaa
open Go.RowKit
set_option linter.unusedVariables false
set_option linter.unusedSimpArgs false

/-- The numbers of a slice, whatever it is. -/
def Nms (k : IntKind) (w : World) (a : Option Addr) (n : Nat) (zs : Nat → Int) : Prop :=
  n = 0 ∨ ∃ b off, a = some ⟨b, off, none⟩ ∧ b < w.heap.size ∧ ∀ j, j < n → w.cell? ⟨b, off + j, none⟩ = some (.int k (zs j))
theorem Nms.below {k : IntKind} {w w' : World} {a : Option Addr} {n : Nat} {zs : Nat → Int} (h : Nms k w a n zs) (hb : Below w.heap.size w w') : Nms k w' a n zs := by
  rcases h with h | ⟨b, off, h1, h2, h3⟩
  · exact .inl h
  · exact .inr ⟨b, off, h1, Nat.lt_of_lt_of_le h2 hb.size, fun j hj => (below_cell hb h2).trans (h3 j hj)⟩

/-- Are they sizes? -/
def okS (z : Int) : Prop := 0 ≤ z ∧ z ≤ 65536
instance (z : Int) : Decidable (okS z) := by unfold okS; infer_instance
def szB (zs : Nat → Int) (n : Nat) : Bool := decide (1 ≤ n) && (decide (n ≤ 64) && (List.range n).all fun i => decide (okS (zs i)))
theorem szB_true {zs : Nat → Int} {n : Nat} (h1 : 1 ≤ n) (h2 : n ≤ 64) (h : ∀ i, i < n → okS (zs i)) : szB zs n = true := by
  unfold szB
  simp only [Bool.and_eq_true, decide_eq_true_eq, List.all_eq_true, List.mem_range]
  exact ⟨h1, h2, h⟩
theorem szB_false {zs : Nat → Int} {n : Nat} (h : n = 0 ∨ 64 < n ∨ ∃ i, i < n ∧ ¬ okS (zs i)) : szB zs n = false := by
  cases hb : szB zs n
  · rfl
  · exfalso
    unfold szB at hb
    simp only [Bool.and_eq_true, decide_eq_true_eq, List.all_eq_true, List.mem_range] at hb
    rcases h with h | h | ⟨i, h1, h2⟩
    · omega
    · omega
    · exact h2 (hb.2.2 i h1)
theorem szB_out {zs : Nat → Int} {n : Nat} (h : szB zs n = true) : 1 ≤ n ∧ n ≤ 64 ∧ ∀ i, i < n → okS (zs i) := by
  unfold szB at h
  simpa only [Bool.and_eq_true, decide_eq_true_eq, List.all_eq_true, List.mem_range] using h

set_option maxHeartbeats 400000 in
theorem sizes_any (zs : Nat → Int) (a : Option Addr) (n cap : Nat) (w : World) (hn : Nms .i64 w a n zs) (hnb : n ≤ 9223372036854775807) :
    Calls Try.prog 23 #[.slice a n cap] w fun e w' => e = .returned (.bool (szB zs n)) ∧ w' = w := by
  by_cases h1 : n < 1
  · have e := szB_false (zs := zs) (n := n) (.inl (by omega))
    have h1' : (n : Int) < 1 := by omega
    have E := hid e
    clear e hn
    go_enter Try.func23, Try.ntmps23
    go_wp2
    go_ret
    exact ⟨E.out ▸ rfl, rfl⟩
  · by_cases h2 : 64 < n
    · have e := szB_false (zs := zs) (n := n) (.inr (.inl h2))
      have h1' : ¬ (n : Int) < 1 := by omega
      have h2' : (64 : Int) < (n : Int) := by omega
      have E := hid e
      clear e hn
      go_enter Try.func23, Try.ntmps23
      go_wp2
      go_ret
      exact ⟨E.out ▸ rfl, rfl⟩
    · have h1' : ¬ (n : Int) < 1 := by omega
      have h2' : ¬ (64 : Int) < (n : Int) := by omega
      rcases hn with h | ⟨b, off, rfl, hb, hc⟩
      · omega
      have HC := hid hc
      clear hc
      go_enter Try.func23, Try.ntmps23
      go_wp2
      go_loopw [15] (fun v wr => ∃ k : Nat, k ≤ n ∧ v = .int .i64 k ∧ wr = w ∧ ∀ i, i < k → okS (zs i)) (fun v _ => n - (intOf v).toNat)
      case atStart => exact ⟨0, by omega, rfl, rfl, fun i hi => by omega⟩
      case round =>
        obtain ⟨k, hk, rfl, rfl, hok⟩ := hrel
        by_cases hkn : k < n
        · have ck := HC.out k hkn
          obtain ⟨z, hz⟩ : ∃ z, zs k = z := ⟨_, rfl⟩
          rw [hz] at ck
          have k1 : (k : Int) < (n : Int) := by omega
          have k2 : (0 : Int) ≤ (k : Int) := by omega
          have HOK := hid hok
          have HZ := hid hz
          clear hok hz
          by_cases hlo : z < 0
          · have e := szB_false (zs := zs) (n := n) (.inr (.inr ⟨k, hkn, by rw [HZ.out]; unfold okS; omega⟩))
            have E := hid e
            clear e
            go_wp2
            go_ret
            exact ⟨E.out ▸ rfl, rfl⟩
          · by_cases hhi : 65536 < z
            · have e := szB_false (zs := zs) (n := n) (.inr (.inr ⟨k, hkn, by rw [HZ.out]; unfold okS; omega⟩))
              have E := hid e
              clear e
              go_wp2
              go_ret
              exact ⟨E.out ▸ rfl, rfl⟩
            · have hlo' : 0 ≤ z := by omega
              have hhi' : z ≤ 65536 := by omega
              go_wp2
              go_roundw
              case rel =>
                refine ⟨k + 1, by omega, by go_num, trivial, fun i hi => ?_⟩
                by_cases hik : i = k
                · subst hik; rw [HZ.out]; exact ⟨hlo', hhi'⟩
                · exact HOK.out i (by omega)
              case measure => simp [intOf]; omega
        · have ek : k = n := by omega
          subst ek
          have e := szB_true (zs := zs) (n := k) (by omega) (by omega) hok
          have E := hid e
          clear e hok
          go_wp2
          go_ret
          exact ⟨E.out ▸ rfl, rfl⟩

/-- How many bytes a part has in the head, and where the part number i begins there. -/
def inH (z : Int) : Nat := if z = 0 then 4 else z.toNat
def hdL (zs : Nat → Int) : Nat → Nat
  | 0 => 0
  | i + 1 => hdL zs i + inH (zs i)
theorem inH_bd {z : Int} (h : okS z) : 1 ≤ inH z ∧ inH z ≤ 65536 := by
  unfold okS at h
  unfold inH
  by_cases h0 : z = 0
  · rw [if_pos h0]; omega
  · rw [if_neg h0]; omega
theorem hdL_bd {zs : Nat → Int} (n : Nat) (h : ∀ i, i < n → okS (zs i)) : hdL zs n ≤ 65536 * n := by
  induction n with
  | zero => exact Nat.le_refl _
  | succ n ih =>
    have h1 := ih fun i hi => h i (by omega)
    have h2 := inH_bd (h n (by omega))
    show hdL zs n + inH (zs n) ≤ _
    omega
theorem hdL_mono (zs : Nat → Int) {i j : Nat} (h : i ≤ j) : hdL zs i ≤ hdL zs j := by
  induction j with
  | zero => have : i = 0 := by omega
            subst this
            exact Nat.le_refl _
  | succ j ih =>
    by_cases hj : i ≤ j
    · have := ih hj
      show hdL zs i ≤ hdL zs j + inH (zs j)
      omega
    · have : i = j + 1 := by omega
      subst this
      exact Nat.le_refl _
theorem inhead_any (z : Int) (w : World) (h : okS z) :
    Calls Try.prog 30 #[.int .i64 z] w fun e w' => e = .returned (.int .i64 (inH z)) ∧ w' = w := by
  unfold okS at h
  obtain ⟨h1, h2⟩ := h
  by_cases h0 : z = 0
  · subst h0
    go_enter Try.func30, Try.ntmps30
    go_wp2
    go_ret
    exact ⟨rfl, rfl⟩
  · have e : (inH z : Int) = z := by unfold inH; rw [if_neg h0]; omega
    have E := hid e
    clear e
    go_enter Try.func30, Try.ntmps30
    go_wp2
    go_ret
    exact ⟨congrArg (fun x => Ending.returned (.int .i64 x)) E.out.symm, rfl⟩

set_option maxHeartbeats 400000 in
theorem headlen_any (zs : Nat → Int) (a : Option Addr) (n cap : Nat) (w : World) (hn : Nms .i64 w a n zs) (hn1 : 1 ≤ n) (hnb : n ≤ 64) (hok : ∀ i, i < n → okS (zs i)) :
    Calls Try.prog 24 #[.slice a n cap] w fun e w' => e = .returned (.int .u64 (hdL zs n)) ∧ w' = w := by
  rcases hn with h | ⟨b, off, rfl, hb, hc⟩
  · omega
  have HC := hid hc
  have HOK := hid hok
  clear hc hok
  go_enter Try.func24, Try.ntmps24
  go_wp2
  go_loopw [3, 8] (fun s v wr => ∃ k : Nat, k ≤ n ∧ v = .int .i64 k ∧ wr = w ∧ s = .int .u64 (hdL zs k)) (fun _ v _ => n - (intOf v).toNat)
  case atStart => exact ⟨0, by omega, rfl, rfl, rfl⟩
  case round =>
    obtain ⟨k, hk, rfl, rfl, rfl⟩ := hrel
    by_cases hkn : k < n
    · have ck := HC.out k hkn
      have hbd := hdL_bd (zs := zs) k (fun i hi => HOK.out i (by omega))
      have hz1 := inH_bd (HOK.out k hkn)
      have hz := hid (HOK.out k hkn)
      obtain ⟨z, ez⟩ : ∃ z, zs k = z := ⟨_, rfl⟩
      obtain ⟨S, eS⟩ : ∃ S, hdL zs k = S := ⟨_, rfl⟩
      obtain ⟨I, eI⟩ : ∃ I, inH z = I := ⟨_, rfl⟩
      rw [ez] at ck hz hz1
      rw [eI] at hz1
      rw [eS] at hbd ⊢
      have k1 : (k : Int) < (n : Int) := by omega
      have k2 : (0 : Int) ≤ (k : Int) := by omega
      have s1 : (S : Int) ≤ 4194304 := by omega
      have s2 : (I : Int) ≤ 65536 := by omega
      have hin := inhead_any z wr hz.out
      rw [eI] at hin
      have HIN := hid hin
      have HE := hid (And.intro ez (And.intro eS eI))
      clear hin ez eS eI hbd hz1
      go_wp2_with (go_at_call 30; refine HIN.out.mono ?_; rintro e w1 ⟨rfl, rfl⟩)
      go_roundw
      case rel =>
        refine ⟨k + 1, by omega, by go_num, trivial, ?_⟩
        obtain ⟨ez, eS, eI⟩ := HE.out
        show Value.int .u64 _ = Value.int .u64 ((hdL zs k + inH (zs k) : Nat) : Int)
        rw [ez, eI, eS]
        congr 1
      case measure => simp [intOf]; omega
    · have ek : k = n := by omega
      subst ek
      go_wp2
      go_ret
      exact ⟨rfl, rfl⟩

end Go.Proofs.Ytfhplpcbaoefeaa
