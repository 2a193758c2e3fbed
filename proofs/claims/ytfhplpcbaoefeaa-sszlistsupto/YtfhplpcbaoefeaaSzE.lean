/-
  What inOrder, bytes.Clone and piece answer.
-/
import Derived.Test.YtfhplpcbaoefeaaSzD
import Derived.Laws.Cover3
namespace Go.Proofs.Ytfhplpcbaoefeaa
open Go.RowKit
set_option linter.unusedVariables false
set_option linter.unusedSimpArgs false

/-- None below the one ahead of it, none above L. -/
def ordAt (os : Nat → Int) (L : Int) (i : Nat) : Prop := (if i = 0 then 0 else os (i - 1)) ≤ os i ∧ os i ≤ L
instance (os : Nat → Int) (L : Int) (i : Nat) : Decidable (ordAt os L i) := by unfold ordAt; infer_instance
def ordB (os : Nat → Int) (L : Int) (n : Nat) : Bool := (List.range n).all fun i => decide (ordAt os L i)
theorem ordB_true {os : Nat → Int} {L : Int} {n : Nat} (h : ∀ i, i < n → ordAt os L i) : ordB os L n = true := by
  unfold ordB
  simp only [List.all_eq_true, List.mem_range, decide_eq_true_eq]
  exact h
theorem ordB_out {os : Nat → Int} {L : Int} {n : Nat} (h : ordB os L n = true) : ∀ i, i < n → ordAt os L i := by
  unfold ordB at h
  simpa only [List.all_eq_true, List.mem_range, decide_eq_true_eq] using h
theorem ordB_false {os : Nat → Int} {L : Int} {n i : Nat} (hi : i < n) (h : ¬ ordAt os L i) : ordB os L n = false := by
  cases hb : ordB os L n
  · rfl
  · exact absurd (ordB_out hb i hi) h

set_option maxHeartbeats 400000 in
theorem inorder_any (os : Nat → Int) (a : Option Addr) (n cap L : Nat) (w : World) (hn : Nms .u64 w a n os) (hnb : n ≤ 9223372036854775807) (hos : ∀ i, i < n → 0 ≤ os i ∧ os i < 18446744073709551616) (hL : L ≤ 9223372036854775807) :
    Calls Try.prog 16 #[.slice a n cap, .int .i64 L] w fun e w' => e = .returned (.bool (ordB os L n)) ∧ w' = w := by
  have HC : Hid (∀ k, k < n → ∃ b off, a = some ⟨b, off, none⟩ ∧ w.cell? ⟨b, off + k, none⟩ = some (.int .u64 (os k))) := by
    intro k hk
    rcases hn with h | ⟨b, off, h1, h2, h3⟩
    · omega
    · exact ⟨b, off, h1, h3 k hk⟩
  have HOS := hid hos
  have l1 : (L : Int) ≤ 9223372036854775807 := by omega
  clear hn hos
  go_enter Try.func16, Try.ntmps16
  go_wp2
  go_loopw [5, 10] (fun v i wr => ∃ k : Nat, k ≤ n ∧ i = .int .i64 k ∧ v = .int .u64 (if k = 0 then 0 else os (k - 1)) ∧ wr = w ∧ ∀ i, i < k → ordAt os L i) (fun _ i _ => n - (intOf i).toNat)
  case atStart => exact ⟨0, by omega, rfl, rfl, rfl, fun i hi => by omega⟩
  case round =>
    obtain ⟨k, hk, rfl, rfl, rfl, hord⟩ := hrel
    by_cases hkn : k < n
    · obtain ⟨b, off, rfl, ck⟩ := HC.out k hkn
      have ho := HOS.out k hkn
      have hpv : 0 ≤ (if k = 0 then 0 else os (k - 1)) ∧ (if k = 0 then 0 else os (k - 1)) < 18446744073709551616 := by
        by_cases h0 : k = 0
        · rw [if_pos h0]; omega
        · rw [if_neg h0]; exact HOS.out (k - 1) (by omega)
      obtain ⟨p, ep⟩ : ∃ p, (if k = 0 then 0 else os (k - 1)) = p := ⟨_, rfl⟩
      obtain ⟨x, ex⟩ : ∃ x, os k = x := ⟨_, rfl⟩
      rw [ep] at hpv ⊢
      rw [ex] at ck ho
      obtain ⟨p1, p2⟩ := hpv
      obtain ⟨o1, o2⟩ := ho
      have k1 : (k : Int) < (n : Int) := by omega
      have k2 : (0 : Int) ≤ (k : Int) := by omega
      have HE := hid (And.intro ep ex)
      have HORD := hid hord
      clear hord ep ex
      by_cases h1 : x < p
      · have e := hid (ordB_false (os := os) (L := L) hkn (by unfold ordAt; rw [HE.out.1, HE.out.2]; omega))
        go_wp2
        go_ret
        exact ⟨e.out ▸ rfl, rfl⟩
      · by_cases h2 : (L : Int) < x
        · have e := hid (ordB_false (os := os) (L := L) hkn (by unfold ordAt; rw [HE.out.1, HE.out.2]; omega))
          go_wp2
          go_ret
          exact ⟨e.out ▸ rfl, rfl⟩
        · go_wp2
          go_roundw
          case rel =>
            refine ⟨k + 1, by omega, by go_num, ?_, trivial, fun i hi => ?_⟩
            · rw [if_neg (by omega), Nat.add_sub_cancel, HE.out.2]
            · by_cases hik : i = k
              · subst hik; unfold ordAt; rw [HE.out.1, HE.out.2]; omega
              · exact HORD.out i (by omega)
          case measure => simp [intOf]; omega
    · have ek : k = n := by omega
      subst ek
      have e := hid (ordB_true hord)
      clear hord
      generalize (if k = 0 then 0 else os (k - 1)) = p
      go_wp2
      go_ret
      exact ⟨e.out ▸ rfl, rfl⟩

theorem eqnil (w : World) (a : Option Addr) (l c : Nat) : (binOp .eql 22 (.slice a l c) (.slice none 0 0)).run Try.prog w = .ok (.bool a.isNone) w := by
  simp only [binOp]
  simp [run_equal_slice_nil w 22 5 a l c Try.underlying22]
/-- A clone owns its bytes. -/
theorem clone_any (m : Nat → Int) (ao : Option Addr) (len cap : Nat) (w : World) (hb : Bys w ao len cap m) (hlen : len ≤ 140737488351232) :
    Calls Try.prog 18 #[.slice ao len cap] w fun e w' => ∃ v, e = .returned v ∧ w'.ownsRow w.heap.size 5 1 v len (bl m len) ∧ Below w.heap.size w w' := by
  have HBY := hid hb
  cases ao with
  | none =>
    have h0 : len = 0 ∧ cap = 0 := by
      rcases hb with ⟨_, h1, h2⟩ | ⟨x, h, _⟩ | ⟨b, off, h, _⟩
      · exact ⟨h1, h2⟩
      · cases h
      · cases h
    obtain ⟨rfl, rfl⟩ := h0
    have q := eqnil w none 0 0
    clear hb
    go_enter Try.func18, Try.ntmps18
    go_wp2
    go_ret
    exact ⟨_, rfl, World.ownsRow_nil _ _ _ _, Below.refl _ _⟩
  | some x =>
    have m3 : 0 + len ≤ 140737488355328 := by omega
    have q := eqnil w (some x) len cap
    clear hb
    go_enter Try.func18, Try.ntmps18
    go_wp2_with (at_builtin; refine wpList_append_bys _ rfl _ _ rfl w.heap.size _ 0 [] rfl (World.ownsRow_made _ #[] 0 (Nat.le_refl _) (Nat.zero_le _) rfl) (some x) len cap m rfl (HBY.out.below (by go_grown)) m3 (by simp) ?_; intro v2 w2 ho2 hg2; rw [Nat.zero_add, List.nil_append] at ho2)
    go_ret
    exact ⟨_, rfl, ho2, below_grown ((Below.refl _ _).alloc (Nat.le_refl _) _) (World.ownsRow_made _ #[] 0 (Nat.le_refl _) (Nat.zero_le _) rfl) (by simp) hg2⟩

/-- A piece without spare room. -/
def pc (ga : Option Addr) (lo hi : Nat) : Value := .slice (if hi = lo then ga else ga.map (·.add lo)) (hi - lo) (hi - lo)
def sm22 (x : Value) (lo hi mx : Option Value) : Sem Value := Instr.sliceAt 22 x lo hi mx
theorem sm22_eq (x : Value) (lo hi mx : Value) : Instr.sliceAt 22 x (some lo) (some hi) (some mx) = sm22 x (some lo) (some hi) (some mx) := rfl
theorem sm22_run (W : World) (ga : Option Addr) (len cap lo hi : Nat) (h1 : lo ≤ hi) (h3 : hi ≤ cap) :
    (sm22 (.slice ga len cap) (some (.int .i64 lo)) (some (.int .i64 hi)) (some (.int .i64 hi))).run Try.prog W = .ok (pc ga lo hi) W := by
  obtain ⟨i, hi8, _, hz, _⟩ := info_parts info8
  have b1 : ∀ (k n : Nat) (c : BoundsCode), k ≤ n → (Instr.sliceBound (.int .i64 (k : Int)) n c).run Try.prog W = .ok k W := by
    intro k n c hk
    have h0 : (k : Int) ≤ (n : Int) := by omega
    simp [Instr.sliceBound, asIntOf, h0]
  have c1 := fun c => b1 lo hi c h1
  have c2 := fun c => b1 hi cap c h3
  have c3 := fun c => b1 hi hi c (Nat.le_refl _)
  unfold sm22 Instr.sliceAt pc
  simp [run_underlying Try.underlying22, Instr.slice, Instr.sliceBounds, c1, c2, c3, sizeOf, typeInfo, hi8, hz]

attribute [local go_sem ↓] sm22_eq

theorem piece_any (ga : Option Addr) (len cap lo hi : Nat) (w : World) (h1 : lo ≤ hi) (h3 : hi ≤ cap) :
    Calls Try.prog 27 #[.slice ga len cap, .int .i64 lo, .int .i64 hi] w fun e w' => e = .returned (pc ga lo hi) ∧ w' = w := by
  have hr := fun W => sm22_run W ga len cap lo hi h1 h3
  clear h1 h3
  go_enter Try.func27, Try.ntmps27
  go_wp2
  go_ret
  exact ⟨rfl, rfl⟩

end Go.Proofs.Ytfhplpcbaoefeaa
