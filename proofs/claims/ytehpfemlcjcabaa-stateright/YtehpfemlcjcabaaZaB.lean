/-
  What inOrder, bytes.Clone and piece answer.
  What looseParts answers.
  What containerParts answers.
  What ssz.Cut answers where it cuts.
-/
import Derived.Test.YtehpfemlcjcabaaZaA
import Derived.Laws.Cover3
import Derived.ScopeJumps
namespace Go.Proofs.Ytehpfemlcjcabaa.Z

open Go.RowKit

set_option linter.unusedVariables false

set_option linter.unusedSimpArgs false

/-- None below the one ahead of it, none above L. -/
def ordAt (os : Nat → Int) (L : Int) (i : Nat) : Prop := (if i = 0 then 0 else os (i - 1)) ≤ os i ∧ os i ≤ L

instance (os : Nat → Int) (L : Int) (i : Nat) : Decidable (ordAt os L i) := by unfold ordAt; infer_instance

def ordB (os : Nat → Int) (L : Int) (n : Nat) : Bool := (List.range n).all fun i => decide (ordAt os L i)

theorem ordB_true {os : Nat → Int} {L : Int} {n : Nat} (h : ∀ i, i < n → ordAt os L i) : ordB os L n = true := by
  unfold ordB
  simp only [List.all_eq_true, List.mem_range, decide_eq_true_eq]
  exact h

theorem ordB_out {os : Nat → Int} {L : Int} {n : Nat} (h : ordB os L n = true) : ∀ i, i < n → ordAt os L i := by
  unfold ordB at h
  simpa only [List.all_eq_true, List.mem_range, decide_eq_true_eq] using h

theorem ordB_false {os : Nat → Int} {L : Int} {n i : Nat} (hi : i < n) (h : ¬ ordAt os L i) : ordB os L n = false := by
  cases hb : ordB os L n
  · rfl
  · exact absurd (ordB_out hb i hi) h

set_option maxHeartbeats 400000 in
theorem inorder_any (os : Nat → Int) (a : Option Addr) (n cap L : Nat) (w : World) (hn : Nms .u64 w a n os) (hnb : n ≤ 9223372036854775807) (hos : ∀ i, i < n → 0 ≤ os i ∧ os i < 18446744073709551616) (hL : L ≤ 9223372036854775807) :
    Calls Try.prog 68 #[.slice a n cap, .int .i64 L] w fun e w' => e = .returned (.bool (ordB os L n)) ∧ w' = w := by
  have HC : Hid (∀ k, k < n → ∃ b off, a = some ⟨b, off, none⟩ ∧ w.cell? ⟨b, off + k, none⟩ = some (.int .u64 (os k))) := by
    intro k hk
    rcases hn with h | ⟨b, off, h1, h2, h3⟩
    · omega
    · exact ⟨b, off, h1, h3 k hk⟩
  have HOS := hid hos
  have l1 : (L : Int) ≤ 9223372036854775807 := by omega
  clear hn hos
  go_enter Try.func68, Try.ntmps68
  go_wp2
  go_loopw [5, 10] (fun v i wr => ∃ k : Nat, k ≤ n ∧ i = .int .i64 k ∧ v = .int .u64 (if k = 0 then 0 else os (k - 1)) ∧ wr = w ∧ ∀ i, i < k → ordAt os L i) (fun _ i _ => n - (intOf i).toNat)
  case atStart => exact ⟨0, by omega, rfl, rfl, rfl, fun i hi => by omega⟩
  case round =>
    obtain ⟨k, hk, rfl, rfl, rfl, hord⟩ := hrel
    by_cases hkn : k < n
    · obtain ⟨b, off, rfl, ck⟩ := HC.out k hkn
      have ho := HOS.out k hkn
      have hpv : 0 ≤ (if k = 0 then 0 else os (k - 1)) ∧ (if k = 0 then 0 else os (k - 1)) < 18446744073709551616 := by
        by_cases h0 : k = 0
        · rw [if_pos h0]; omega
        · rw [if_neg h0]; exact HOS.out (k - 1) (by omega)
      obtain ⟨p, ep⟩ : ∃ p, (if k = 0 then 0 else os (k - 1)) = p := ⟨_, rfl⟩
      obtain ⟨x, ex⟩ : ∃ x, os k = x := ⟨_, rfl⟩
      rw [ep] at hpv ⊢
      rw [ex] at ck ho
      obtain ⟨p1, p2⟩ := hpv
      obtain ⟨o1, o2⟩ := ho
      have k1 : (k : Int) < (n : Int) := by omega
      have k2 : (0 : Int) ≤ (k : Int) := by omega
      have HE := hid (And.intro ep ex)
      have HORD := hid hord
      clear hord ep ex
      by_cases h1 : x < p
      · have e := hid (ordB_false (os := os) (L := L) hkn (by unfold ordAt; rw [HE.out.1, HE.out.2]; omega))
        go_wp2
        go_ret
        exact ⟨e.out ▸ rfl, rfl⟩
      · by_cases h2 : (L : Int) < x
        · have e := hid (ordB_false (os := os) (L := L) hkn (by unfold ordAt; rw [HE.out.1, HE.out.2]; omega))
          go_wp2
          go_ret
          exact ⟨e.out ▸ rfl, rfl⟩
        · go_wp2
          go_roundw
          case rel =>
            refine ⟨k + 1, by omega, by go_num, ?_, trivial, fun i hi => ?_⟩
            · rw [if_neg (by omega), Nat.add_sub_cancel, HE.out.2]
            · by_cases hik : i = k
              · subst hik; unfold ordAt; rw [HE.out.1, HE.out.2]; omega
              · exact HORD.out i (by omega)
          case measure => simp [intOf]; omega
    · have ek : k = n := by omega
      subst ek
      have e := hid (ordB_true hord)
      clear hord
      generalize (if k = 0 then 0 else os (k - 1)) = p
      go_wp2
      go_ret
      exact ⟨e.out ▸ rfl, rfl⟩

theorem eqnil (w : World) (a : Option Addr) (l c : Nat) : (binOp .eql 39 (.slice a l c) (.slice none 0 0)).run Try.prog w = .ok (.bool a.isNone) w := by
  simp only [binOp]
  simp [run_equal_slice_nil w 39 5 a l c Try.underlying39]

/-- A clone owns its bytes. -/
theorem clone_any (m : Nat → Int) (ao : Option Addr) (len cap : Nat) (w : World) (hb : Bys w ao len cap m) (hlen : len ≤ 140737488351232) :
    Calls Try.prog 89 #[.slice ao len cap] w fun e w' => ∃ v, e = .returned v ∧ w'.ownsRow w.heap.size 5 1 v len (bl m len) ∧ Below w.heap.size w w' := by
  have HBY := hid hb
  cases ao with
  | none =>
    have h0 : len = 0 ∧ cap = 0 := by
      rcases hb with ⟨_, h1, h2⟩ | ⟨x, h, _⟩ | ⟨b, off, h, _⟩
      · exact ⟨h1, h2⟩
      · cases h
      · cases h
    obtain ⟨rfl, rfl⟩ := h0
    have q := eqnil w none 0 0
    clear hb
    go_enter Try.func89, Try.ntmps89
    go_wp2
    go_ret
    exact ⟨_, rfl, World.ownsRow_nil _ _ _ _, Below.refl _ _⟩
  | some x =>
    have m3 : 0 + len ≤ 140737488355328 := by omega
    have q := eqnil w (some x) len cap
    clear hb
    go_enter Try.func89, Try.ntmps89
    go_wp2_with (at_builtin; refine wpList_append_bys _ rfl _ _ rfl w.heap.size _ 0 [] rfl (World.ownsRow_made _ #[] 0 (Nat.le_refl _) (Nat.zero_le _) rfl) (some x) len cap m rfl (HBY.out.below (by go_grown)) m3 (by simp) ?_; intro v2 w2 ho2 hg2; rw [Nat.zero_add, List.nil_append] at ho2)
    go_ret
    exact ⟨_, rfl, ho2, below_grown ((Below.refl _ _).alloc (Nat.le_refl _) _) (World.ownsRow_made _ #[] 0 (Nat.le_refl _) (Nat.zero_le _) rfl) (by simp) hg2⟩

/-- A piece without spare room. -/
def pc (ga : Option Addr) (lo hi : Nat) : Value := .slice (if hi = lo then ga else ga.map (·.add lo)) (hi - lo) (hi - lo)

def sm22 (x : Value) (lo hi mx : Option Value) : Sem Value := Instr.sliceAt 39 x lo hi mx

theorem sm22_eq (x : Value) (lo hi mx : Value) : Instr.sliceAt 39 x (some lo) (some hi) (some mx) = sm22 x (some lo) (some hi) (some mx) := rfl

theorem sm22_run (W : World) (ga : Option Addr) (len cap lo hi : Nat) (h1 : lo ≤ hi) (h3 : hi ≤ cap) :
    (sm22 (.slice ga len cap) (some (.int .i64 lo)) (some (.int .i64 hi)) (some (.int .i64 hi))).run Try.prog W = .ok (pc ga lo hi) W := by
  obtain ⟨i, hi8, _, hz, _⟩ := info_parts info8
  have b1 : ∀ (k n : Nat) (c : BoundsCode), k ≤ n → (Instr.sliceBound (.int .i64 (k : Int)) n c).run Try.prog W = .ok k W := by
    intro k n c hk
    have h0 : (k : Int) ≤ (n : Int) := by omega
    simp [Instr.sliceBound, asIntOf, h0]
  have c1 := fun c => b1 lo hi c h1
  have c2 := fun c => b1 hi cap c h3
  have c3 := fun c => b1 hi hi c (Nat.le_refl _)
  unfold sm22 Instr.sliceAt pc
  simp [run_underlying Try.underlying39, Instr.slice, Instr.sliceBounds, c1, c2, c3, sizeOf, typeInfo, hi8, hz]

attribute [local go_sem ↓] sm22_eq

theorem piece_any (ga : Option Addr) (len cap lo hi : Nat) (w : World) (h1 : lo ≤ hi) (h3 : hi ≤ cap) :
    Calls Try.prog 91 #[.slice ga len cap, .int .i64 lo, .int .i64 hi] w fun e w' => e = .returned (pc ga lo hi) ∧ w' = w := by
  have hr := fun W => sm22_run W ga len cap lo hi h1 h3
  clear h1 h3
  go_enter Try.func91, Try.ntmps91
  go_wp2
  go_ret
  exact ⟨rfl, rfl⟩

end Go.Proofs.Ytehpfemlcjcabaa.Z

namespace Go.Proofs.Ytehpfemlcjcabaa.Z

open Go.RowKit

set_option linter.unusedVariables false

set_option linter.unusedSimpArgs false

/-- n values. -/
def vals (n : Nat) (f : Nat → Value) : Array Value := ((List.range n).map f).toArray

theorem vals_size (n : Nat) (f : Nat → Value) : (vals n f).size = n := by simp [vals]

theorem vals_get (n : Nat) (f : Nat → Value) (i : Nat) (h : i < n) : (vals n f)[i]? = some (f i) := by simp [vals, h]

theorem vals_congr {n : Nat} {f g : Nat → Value} (h : ∀ i, i < n → f i = g i) : vals n f = vals n g := by
  unfold vals
  congr 1
  exact List.map_congr_left fun i hi => h i (List.mem_range.1 hi)

theorem vals_set (n : Nat) (f : Nat → Value) (i : Nat) (v : Value) : (vals n f).setIfInBounds i v = vals n (fun j => if j = i then v else f j) := by
  apply Array.ext_getElem?
  intro j
  by_cases hj : j < n
  · rw [vals_get _ _ _ hj, Array.getElem?_setIfInBounds]
    by_cases hi : i = j
    · subst hi
      rw [if_pos rfl, if_pos (by rw [vals_size]; exact hj), if_pos rfl]
    · rw [if_neg hi, vals_get _ _ _ hj, if_neg (by omega)]
  · rw [Array.getElem?_eq_none (by rw [Array.size_setIfInBounds, vals_size]; omega), Array.getElem?_eq_none (by rw [vals_size]; omega)]

theorem vals_of (c : Array Value) : c = vals c.size (fun i => c[i]?.getD undef) := by
  apply Array.ext_getElem?
  intro j
  by_cases hj : j < c.size
  · rw [vals_get _ _ _ hj, Array.getElem?_eq_getElem hj]
    rfl
  · rw [Array.getElem?_eq_none (by omega), Array.getElem?_eq_none (by rw [vals_size]; omega)]

theorem vals_cell {w : World} {b n : Nat} {f : Nat → Value} {t : TypeId} (h : w.heap[b]? = some (.cells (vals n f) t)) (i : Nat) (hi : i < n) : w.cell? ⟨b, i, none⟩ = some (f i) := by
  rw [row_cell h, vals_get _ _ _ hi]

theorem info22 : (Try.prog.info? 39).map (fun i => (i.zero, i.size, i.bytes)) = some (some (.slice none 0 0), 1, 24) := by kernel_rfl

/-- make of slices of bytes. -/
theorem wpList_make_parts (w : World) {ops : Array Oper} {rest : List Oper} {o : Oper} {a : Act} {Q : Exit → Act → World → Prop} (hg : o.guard = none) (l c : Operand) (hop : o.op = Op.makeSlice 80 l c)
    (n : Nat) (hl : a.eval l = .int .i64 n) (hc : a.eval c = .int .i64 n) (hn : n ≤ 1000000000000)
    (hK : ∀ f w', w'.heap[w.heap.size]? = some (.cells (vals n f) 39) → Below w.heap.size w w' → w.heap.size < w'.heap.size → wpList Try.prog ops Q rest (a.put o.dst (.slice (some ⟨w.heap.size, 0, none⟩) n n)) w') :
    wpList Try.prog ops Q (o :: rest) a w := by
  obtain ⟨i, hi, hz0, hz1, hz2⟩ := info_parts info22
  refine wpList_make_full w hg l c 80 hop w.heap.size 39 i _ 1 Try.underlying80 hi hz0 hz1 .i64 .i64 _ _ n hl hc rfl rfl (by rw [hz2]; omega) (by unfold maxLen; omega) (Nat.le_refl _) (fun w' h1 h2 => ?_)
  rcases h1.2 with ⟨h3, _⟩ | ⟨g, cap, cur, h3, h4, h5, h6, h7, h8, _⟩
  · cases h3
  · cases h3
    have hs : cur.size = n := by omega
    refine hK (fun i => cur[i]?.getD undef) w' ?_ ⟨h2.os, h2.tape, h2.output, h2.size, fun k hk => h2.block k hk (by intro h; cases h)⟩ (Array.getElem?_eq_some_iff.1 h5).1
    rw [h5]
    have := vals_of cur
    rw [hs] at this
    rw [← this]

theorem size_set (w : World) (a : Addr) (v : Value) : (w.setCell a v).heap.size = w.heap.size := by simp [World.setCell]

/-- Where the part number i ends. -/
def endAt (os : Nat → Nat) (wl n i : Nat) : Nat := if i + 1 < n then os (i + 1) else wl

def prts (ga : Option Addr) (os : Nat → Nat) (wl n : Nat) (i : Nat) : Value := pc ga (os i) (endAt os wl n i)

set_option maxHeartbeats 1000000 in
theorem loose_any (ga : Option Addr) (wl wc : Nat) (os : Nat → Nat) (a : Option Addr) (n cap : Nat) (w : World) (hn : Nms .u64 w a n (fun i => (os i : Int))) (hnb : n ≤ 1000000000000) (hwl : wl ≤ wc) (hwb : wl ≤ 4611686018427387904)
    (hle : ∀ i, i < n → os i ≤ wl) (hmo : ∀ i, i + 1 < n → os i ≤ os (i + 1)) :
    Calls Try.prog 90 #[.slice ga wl wc, .slice a n cap] w fun e w' => e = .returned (.slice (some ⟨w.heap.size, 0, none⟩) n n) ∧ w'.heap[w.heap.size]? = some (.cells (vals n (prts ga os wl n)) 39) ∧ Below w.heap.size w w' := by
  have HC : Hid (∀ k, k < n → ∃ b off, a = some ⟨b, off, none⟩ ∧ b < w.heap.size ∧ w.cell? ⟨b, off + k, none⟩ = some (.int .u64 (os k))) := by
    intro k hk
    rcases hn with h | ⟨b, off, h1, h2, h3⟩
    · omega
    · exact ⟨b, off, h1, h2, h3 k hk⟩
  have HLE := hid hle
  have HMO := hid hmo
  clear hn hle hmo
  go_enter Try.func90, Try.ntmps90
  go_wp2_with (at_make; refine wpList_make_parts _ rfl _ _ rfl n rfl rfl hnb ?_; intro f0 w1 hr1 hb1 hz1)
  have HR1 := hid hr1
  have HB1 := hid hb1
  have HZ1 := hid hz1
  clear hr1 hb1 hz1
  go_loopw [6, 7] (fun e i wr => ∃ k : Nat, k ≤ n ∧ i = .int .i64 ((n : Int) - (k : Int) - 1) ∧ e = .int .i64 ((if k = 0 then wl else os (n - k) : Nat) : Int) ∧ wr.heap[w.heap.size]? = some (.cells (vals n fun i => if n - k ≤ i then prts ga os wl n i else f0 i) 39) ∧ Below w.heap.size w wr ∧ w.heap.size < wr.heap.size) (fun _ i _ => (intOf i + 1).toNat)
  case atStart =>
    refine ⟨0, by omega, by simp, rfl, ?_, HB1.out, HZ1.out⟩
    rw [HR1.out]
    refine congrArg (fun c => some (Obj.cells c 39)) (vals_congr fun i hi => ?_)
    rw [if_neg (by omega)]
  case round =>
    obtain ⟨k, hk, rfl, rfl, hr, hb, hz⟩ := hrel
    clear HR1 HB1 HZ1
    by_cases hkn : k < n
    · obtain ⟨j, ej⟩ : ∃ j, j = n - k - 1 := ⟨_, rfl⟩
      obtain ⟨b, off, rfl, hbb, hcj⟩ := HC.out j (by omega)
      have cj := (below_cell hb hbb).trans hcj
      obtain ⟨E, eE⟩ : ∃ E, (if k = 0 then wl else os (n - k)) = E := ⟨_, rfl⟩
      have hE : endAt os wl n j = E := by
        unfold endAt
        by_cases h0 : k = 0
        · rw [if_pos h0] at eE
          rw [if_neg (by omega)]
          exact eE
        · rw [if_neg h0] at eE
          rw [if_pos (by omega), show j + 1 = n - k by omega]
          exact eE
      have hEl : E ≤ wl := by
        rw [← eE]
        by_cases h0 : k = 0
        · rw [if_pos h0]; exact Nat.le_refl _
        · rw [if_neg h0]; exact HLE.out _ (by omega)
      have hoE : os j ≤ E := by
        rw [← eE]
        by_cases h0 : k = 0
        · rw [if_pos h0]; exact HLE.out _ (by omega)
        · rw [if_neg h0]
          have := HMO.out j (by omega)
          rw [show j + 1 = n - k by omega] at this
          exact this
      obtain ⟨O, eO⟩ : ∃ O, os j = O := ⟨_, rfl⟩
      rw [eO] at cj hoE
      have hpc := piece_any ga wl wc O E
      have HPC := hid (fun w => hpc w hoE (by omega))
      rw [eE, show (n : Int) - (k : Int) - 1 = (j : Int) by omega]
      have cw := vals_cell hr j (by omega)
      have fw := row_frozen hr j
      obtain ⟨u, eu⟩ : ∃ u, (if n - k ≤ j then prts ga os wl n j else f0 j) = u := ⟨_, rfl⟩
      rw [eu] at cw
      have HR := hid hr
      have HB := hid hb
      have HZ := hid hz
      have HJ : Hid (j = n - k - 1 ∧ endAt os wl n j = E ∧ os j = O) := ⟨ej, hE, eO⟩
      have k1 : (j : Int) < (n : Int) := by omega
      have k2 : (0 : Int) ≤ (j : Int) := by omega
      have k3 : (O : Int) ≤ 4611686018427387904 := by omega
      have k4 : (0 : Int) ≤ (O : Int) := by omega
      obtain ⟨PA, ePA⟩ : ∃ PA, (if E = O then ga else ga.map (·.add O)) = PA := ⟨_, rfl⟩
      have eP : pc ga O E = .slice PA (E - O) (E - O) := by unfold pc; rw [ePA]
      rw [eP] at HPC
      have HPP := hid eP
      clear hr hb hz hcj hbb eE hE hEl hoE eO hpc eu ej eP ePA
      go_wp2_with (go_at_call 91; refine (HPC.out _).mono ?_; rintro e w2 ⟨rfl, rfl⟩)
      go_roundw
      case rel =>
        obtain ⟨ej, hE, eO⟩ := HJ.out
        refine ⟨k + 1, by omega, ?_, ?_, ?_, HB.out.setCell (by simp) _, by rw [size_set]; exact HZ.out⟩
        · congr 1; omega
        · rw [if_neg (by omega), show n - (k + 1) = j by omega, eO]
        · refine (row_set HR.out j _).trans ?_
          rw [vals_set]
          refine congrArg (fun c => some (Obj.cells c 39)) (vals_congr fun i hi => ?_)
          by_cases hij : i = j
          · subst hij
            rw [if_pos rfl, if_pos (by omega)]
            unfold prts
            rw [hE, eO, HPP.out]
          · rw [if_neg hij]
            by_cases h2 : n - k ≤ i
            · rw [if_pos h2, if_pos (by omega)]
            · rw [if_neg h2, if_neg (by omega)]
      case measure => simp [intOf]
    · have ek : k = n := by omega
      subst ek
      have hr' : wr.heap[w.heap.size]? = some (.cells (vals k (prts ga os wl k)) 39) := by
        rw [hr]
        exact congrArg (fun c => some (Obj.cells c 39)) (vals_congr fun i hi => by rw [if_pos (by omega)])
      have HR := hid hr'
      have HB := hid hb
      rw [show (k : Int) - (k : Int) - 1 = -1 by omega]
      generalize (if k = 0 then wl else os (k - k)) = E
      clear hr hr' hb
      go_wp2
      go_ret
      exact ⟨rfl, HR.out, HB.out⟩

end Go.Proofs.Ytehpfemlcjcabaa.Z

namespace Go.Proofs.Ytehpfemlcjcabaa.Z

open Go.RowKit

set_option linter.unusedVariables false

set_option linter.unusedSimpArgs false

/-- How many of the first k parts are of any size. -/
def zn (zs : Nat → Int) : Nat → Nat
  | 0 => 0
  | k + 1 => zn zs k + (if zs k = 0 then 1 else 0)

theorem zn_mono (zs : Nat → Int) {i j : Nat} (h : i ≤ j) : zn zs i ≤ zn zs j := by
  induction j with
  | zero => have : i = 0 := by omega
            subst this
            exact Nat.le_refl _
  | succ j ih =>
    by_cases hj : i ≤ j
    · have := ih hj
      show zn zs i ≤ zn zs j + _
      omega
    · have : i = j + 1 := by omega
      subst this
      exact Nat.le_refl _

theorem zn_le (zs : Nat → Int) (k : Nat) : zn zs k ≤ k := by
  induction k with
  | zero => exact Nat.le_refl _
  | succ k ih =>
    show zn zs k + (if zs k = 0 then 1 else 0) ≤ k + 1
    by_cases h : zs k = 0
    · rw [if_pos h]; omega
    · rw [if_neg h]; omega

theorem zn_lt (zs : Nat → Int) {k n : Nat} (hk : k < n) (h0 : zs k = 0) : zn zs k < zn zs n := by
  have h := zn_mono zs (i := k + 1) (j := n) (by omega)
  have e : zn zs (k + 1) = zn zs k + 1 := by show zn zs k + (if zs k = 0 then 1 else 0) = _; rw [if_pos h0]
  omega

/-- The part number i of a container. -/
def cpart (ga : Option Addr) (zs : Nat → Int) (os : Nat → Nat) (len nz : Nat) (i : Nat) : Value :=
  if zs i = 0 then prts ga os len nz (zn zs i) else pc ga (hdL zs i) (hdL zs i + (zs i).toNat)

set_option maxRecDepth 20000 in
set_option maxHeartbeats 1000000 in
theorem cparts_any (zs m : Nat → Int) (os : Nat → Nat) (ao : Option Addr) (len cap : Nat) (sa : Option Addr) (n sc : Nat) (oa : Option Addr) (oc : Nat) (w : World) (hb : Bys w ao len cap m) (hlen : len ≤ 140737488351232)
    (hn : Nms .i64 w sa n zs) (hn1 : 1 ≤ n) (hnb : n ≤ 64) (hok : ∀ i, i < n → okS (zs i)) (hhd : hdL zs n ≤ len)
    (ho : Nms .u64 w oa (zn zs n) (fun i => (os i : Int))) (hle : ∀ i, i < zn zs n → os i ≤ len) (hmo : ∀ i, i + 1 < zn zs n → os i ≤ os (i + 1)) :
    Calls Try.prog 69 #[.slice ao len cap, .slice sa n sc, .slice oa (zn zs n) oc] w fun e w' => ∃ g C gp, e = .returned (.slice (some ⟨gp, 0, none⟩) n n) ∧ w.heap.size ≤ g ∧ w.heap.size ≤ gp ∧ (∀ j, j < len → w'.cell? ⟨g, j, none⟩ = some (.int .u8 (m j))) ∧ g < w'.heap.size ∧ len ≤ C ∧ w'.heap[gp]? = some (.cells (vals n (cpart (some ⟨g, 0, none⟩) zs os len (zn zs n))) 39) ∧ g ≠ gp ∧ Below w.heap.size w w' := by
  have HC : Hid (∀ k, k < n → ∃ b off, sa = some ⟨b, off, none⟩ ∧ b < w.heap.size ∧ w.cell? ⟨b, off + k, none⟩ = some (.int .i64 (zs k))) := by
    intro k hk
    rcases hn with h | ⟨b, off, h1, h2, h3⟩
    · omega
    · exact ⟨b, off, h1, h2, h3 k hk⟩
  have h0l : 0 < len := by
    have h1 := hdL_mono zs (i := 1) (j := n) hn1
    have h2 := inH_bd (hok 0 (by omega))
    have h3 : hdL zs 1 = 0 + inH (zs 0) := rfl
    omega
  have hcl := clone_any m ao len cap w hb hlen
  have HCL := hid hcl
  have HOK := hid hok
  have HO := hid ho
  have HLE := hid hle
  have HMO := hid hmo
  clear hcl hok ho hle hmo hn hb
  go_enter Try.func69, Try.ntmps69
  go_upto_region 2 with (go_at_call 89; refine HCL.out.mono ?_; rintro e w1 ⟨v, rfl, ho1, hb1⟩)
  obtain ⟨g, C, hv⟩ := owns_pos ho1 h0l
  subst hv
  obtain ⟨c1, c2, c3, c4, c5⟩ := own_cells ho1
  have hzn := zn_le zs n
  have hlo := loose_any (some ⟨g, 0, none⟩) len C os oa (zn zs n) oc w1 (HO.out.below hb1) (by omega) c3 (by omega) HLE.out HMO.out
  have HLO := hid hlo
  have H1 : Hid (w.heap.size ≤ g ∧ g < w1.heap.size ∧ len ≤ C ∧ (∀ j, j < len → w1.cell? ⟨g, j, none⟩ = some (.int .u8 (m j))) ∧ Below w.heap.size w w1) := ⟨c1, c2, c3, c5, hb1⟩
  obtain ⟨gl, egl⟩ : ∃ x, w1.heap.size = x := ⟨_, rfl⟩
  rw [egl] at HLO
  have HGL := hid egl
  obtain ⟨nz, enz⟩ : ∃ x, zn zs n = x := ⟨_, rfl⟩
  rw [enz] at HLO ⊢
  have HNZ := hid enz
  clear c1 c2 c3 c4 c5 hb1 ho1 hlo egl enz hzn
  go_upto_region 4 with (first
    | (go_at_call 90; refine HLO.out.mono ?_; rintro e w2 ⟨rfl, hr2, hb2⟩; have HR2 := hid hr2; have HB2 := hid hb2; clear hr2 hb2)
    | (at_make; refine wpList_make_parts _ rfl _ _ rfl n rfl rfl (by omega) ?_; intro f0 w3 hr3 hb3 hz3; have HR3 := hid hr3; have HB3 := hid hb3; have HZ3 := hid hz3; clear hr3 hb3 hz3))
  obtain ⟨a1, a2, a3, a4, a5⟩ := H1.out
  have hgl := HGL.out
  have z2 := HB2.out.size
  have hw2 : gl < w2.heap.size := (Array.getElem?_eq_some_iff.1 HR2.out).1
  obtain ⟨gp, egp⟩ : ∃ x, w2.heap.size = x := ⟨_, rfl⟩
  have r3 := HR3.out
  have b3 := HB3.out
  have z3 := HZ3.out
  have b2 := HB2.out
  rw [egp] at r3 b3 z3 hw2 ⊢
  rw [hgl] at a2
  have hB3 : Below w.heap.size w w3 := (a5.trans (b2.mono (by omega))).trans (b3.mono (by omega))
  have rl3 := (b3.block gl hw2).trans HR2.out
  have gc3 : ∀ j, j < len → w3.cell? ⟨g, j, none⟩ = some (.int .u8 (m j)) := fun j hj => (below_cell b3 (by omega)).trans ((below_cell b2 a2).trans (a4 j hj))
  have H3 : Hid (Below w.heap.size w w3 ∧ w3.heap[gl]? = some (.cells (vals nz (prts (some ⟨g, 0, none⟩) os len nz)) 39) ∧ (∀ j, j < len → w3.cell? ⟨g, j, none⟩ = some (.int .u8 (m j))) ∧ w3.heap[gp]? = some (.cells (vals n f0) 39) ∧ gp < w3.heap.size ∧ g < gl ∧ gl < gp ∧ w.heap.size ≤ g ∧ len ≤ C ∧ zn zs n = nz) := ⟨hB3, rl3, gc3, r3, z3, a2, hw2, a1, a3, HNZ.out⟩
  clear a1 a2 a3 a4 a5 hgl z2 hw2 egp r3 b3 z3 b2 hB3 rl3 gc3 HR2 HB2 HR3 HB3 HZ3 HLO HCL H1 HGL HNZ
  go_wp2
  go_loopw [8, 10, 23] (fun x at' i wr => ∃ (k : Nat) (AL : Option Addr), k ≤ n ∧ i = .int .i64 k ∧ at' = .int .i64 ((hdL zs k : Nat) : Int) ∧ x = .slice AL (nz - zn zs k) (nz - zn zs k) ∧ (zn zs k < nz → AL = some ⟨gl, zn zs k, none⟩) ∧ wr.heap[gp]? = some (.cells (vals n fun i => if i < k then cpart (some ⟨g, 0, none⟩) zs os len nz i else f0 i) 39) ∧ gp < wr.heap.size ∧ Below gp w3 wr) (fun _ _ i _ => n - (intOf i).toNat)
  case atStart =>
    obtain ⟨b1, b2, b3, b4, b5, b6⟩ := H3.out
    refine ⟨0, some ⟨gl, 0, none⟩, by omega, rfl, rfl, rfl, fun _ => rfl, ?_, b5, Below.refl _ _⟩
    rw [b4]
    exact congrArg (fun c => some (Obj.cells c 39)) (vals_congr fun i hi => by rw [if_neg (by omega)])
  case round =>
    obtain ⟨k, AL, hk, rfl, rfl, rfl, hAL, hr, hzr, hb⟩ := hrel
    by_cases hkn : k < n
    · obtain ⟨b1, b2, b3, b4, b5, b6, b7, b8, b9, b10⟩ := H3.out
      obtain ⟨sb, so, rfl, hsb, hsc⟩ := HC.out k hkn
      have ck := (below_cell hb (show sb < gp by omega)).trans ((below_cell b1 hsb).trans hsc)
      have hokk := HOK.out k hkn
      have hi1 := inH_bd hokk
      have hmono := hdL_mono zs (i := k + 1) (j := n) (by omega)
      have hsucc : hdL zs (k + 1) = hdL zs k + inH (zs k) := rfl
      have hzs : zn zs (k + 1) = zn zs k + (if zs k = 0 then 1 else 0) := rfl
      have hzle := zn_mono zs (i := k) (j := n) (by omega)
      have cw := vals_cell hr k hkn
      have fw := row_frozen hr k
      obtain ⟨u, eu⟩ : ∃ u, (if k < k then cpart (some ⟨g, 0, none⟩) zs os len nz k else f0 k) = u := ⟨_, rfl⟩
      rw [eu] at cw
      have ecp : cpart (some ⟨g, 0, none⟩) zs os len nz k = if zs k = 0 then prts (some ⟨g, 0, none⟩) os len nz (zn zs k) else pc (some ⟨g, 0, none⟩) (hdL zs k) (hdL zs k + (zs k).toNat) := rfl
      have hltz : zs k = 0 → zn zs k < nz := fun h => by rw [← b10]; exact zn_lt zs hkn h
      obtain ⟨S, eS⟩ : ∃ S, hdL zs k = S := ⟨_, rfl⟩
      obtain ⟨z, ez⟩ : ∃ z, zs k = z := ⟨_, rfl⟩
      obtain ⟨I, eI⟩ : ∃ I, inH z = I := ⟨_, rfl⟩
      obtain ⟨Z, eZ⟩ : ∃ Z, zn zs k = Z := ⟨_, rfl⟩
      rw [ez] at ck hokk hi1 hsucc hzs ecp hltz
      rw [eI] at hi1 hsucc
      rw [eS] at hsucc ecp ⊢
      rw [eZ] at hzs hzle ecp hltz hAL ⊢
      obtain ⟨D, eD⟩ : ∃ D, nz - Z = D := ⟨_, rfl⟩
      rw [eD]
      have hin := inhead_any z
      rw [eI] at hin
      have HIN := hid (fun w => hin w hokk)
      have k1 : (k : Int) < (n : Int) := by omega
      have k2 : (0 : Int) ≤ (k : Int) := by omega
      obtain ⟨S2, eS2⟩ : ∃ S2, S + I = S2 := ⟨_, rfl⟩
      have s1 : (S : Int) + (I : Int) = (S2 : Int) := by omega
      have s3 : (S2 : Int) ≤ 140737488351232 := by omega
      have HS2 := hid eS2
      have HR := hid hr
      have HB := hid hb
      have HZR := hid hzr
      have HE : Hid (hdL zs k = S ∧ zs k = z ∧ zn zs k = Z ∧ nz - Z = D ∧ hdL zs (k + 1) = S + I ∧ zn zs (k + 1) = Z + (if z = 0 then 1 else 0) ∧ cpart (some ⟨g, 0, none⟩) zs os len nz k = if z = 0 then prts (some ⟨g, 0, none⟩) os len nz Z else pc (some ⟨g, 0, none⟩) S (S + z.toNat)) := ⟨eS, ez, eZ, eD, hsucc, hzs, ecp⟩
      -- what the relation wants, behind the store of the part
      have fin : ∀ (w' : World) (P : Value), w'.heap[gp]? = some (.cells ((vals n fun i => if i < k then cpart (some ⟨g, 0, none⟩) zs os len nz i else f0 i).setIfInBounds k P) 39) → P = cpart (some ⟨g, 0, none⟩) zs os len nz k → w'.heap[gp]? = some (.cells (vals n fun i => if i < k + 1 then cpart (some ⟨g, 0, none⟩) zs os len nz i else f0 i) 39) := by
        intro w' P h hP
        rw [h, vals_set]
        refine congrArg (fun c => some (Obj.cells c 39)) (vals_congr fun i hi => ?_)
        by_cases hik : i = k
        · subst hik; rw [if_pos rfl, if_pos (by omega), hP]
        · rw [if_neg hik]
          by_cases h2 : i < k
          · rw [if_pos h2, if_pos (by omega)]
          · rw [if_neg h2, if_neg (by omega)]
      have HFIN := hid fin
      by_cases h0 : z = 0
      · have hZn := hltz h0
        have hAL' := hAL hZn
        have cl := (below_cell (i := Z) hb b7).trans (vals_cell b2 Z hZn)
        obtain ⟨PA, PL, eP⟩ : ∃ PA PL, prts (some ⟨g, 0, none⟩) os len nz Z = .slice PA PL PL := ⟨_, _, rfl⟩
        rw [eP] at cl
        have HP := hid eP
        subst hAL'
        subst h0
        have d1 : (0 : Int) < (D : Int) := by omega
        have d2 : (1 : Int) ≤ (D : Int) := by omega
        have d3 : 0 < D := by omega
        have d4 : 1 ≤ D := by omega
        clear b1 b2 b3 b4 b5 b6 b7 b8 b9 b10 hsb hsc hokk hi1 hmono hsucc hzs hzle eu ecp hltz eS ez eI eZ eD hin fin hAL hr hb hzr hZn eP eS2
        go_wp2
        go_region_with fail
        obtain ⟨A2, hA2, hA3⟩ : ∃ A2 : Option Addr, (if D = 1 then (some ⟨gl, Z, none⟩ : Option Addr) else some ⟨gl, Z + 1, none⟩) = A2 ∧ (Z + 1 < nz → A2 = some ⟨gl, Z + 1, none⟩) := by
          by_cases hD : D = 1
          · rw [if_pos hD]; exact ⟨_, rfl, fun h => by have := HE.out.2.2.2.1; omega⟩
          · rw [if_neg hD]; exact ⟨_, rfl, fun _ => rfl⟩
        rw [hA2]
        have HA3 := hid hA3
        have r4 := row_set HR.out k (.slice PA PL PL)
        have b4 : Below gp w3 (wr.setCell ⟨gp, k, none⟩ (.slice PA PL PL)).drew := by
          have this : Below gp w3 (wr.setCell ⟨gp, k, none⟩ (.slice PA PL PL)) := HB.out.setCell (by simp) _
          exact ⟨this.os, this.tape, this.output, this.size, this.block⟩
        have z4 : gp < (wr.setCell ⟨gp, k, none⟩ (.slice PA PL PL)).drew.heap.size := by
          show gp < (wr.setCell ⟨gp, k, none⟩ (.slice PA PL PL)).heap.size
          rw [size_set]
          exact HZR.out
        have R4 := hid r4
        have B4 := hid b4
        have Z4 := hid z4
        clear hA2 hA3 r4 b4 z4 cl cw
        obtain ⟨W4, hW4⟩ : ∃ W, (wr.setCell ⟨gp, k, none⟩ (.slice PA PL PL)).drew = W := ⟨_, rfl⟩
        have R5 : Hid (W4.heap[gp]? = some (.cells ((vals n fun i => if i < k then cpart (some ⟨g, 0, none⟩) zs os len nz i else f0 i).setIfInBounds k (.slice PA PL PL)) 39)) := by rw [← hW4]; exact R4.out
        rw [hW4] at B4 Z4 ⊢
        clear hW4 R4
        go_wp2_with (go_at_call 86; refine (HIN.out _).mono ?_; rintro e w5 ⟨rfl, rfl⟩)
        obtain ⟨eS, ez, eZ, eD, hsucc, hzs, ecp⟩ := HE.out
        rw [if_pos trivial] at hzs ecp
        refine ⟨⟨k + 1, A2, by omega, by go_num, ?_, ?_, ?_, HFIN.out _ _ R5.out (by rw [ecp]; exact HP.out.symm), Z4.out, B4.out⟩, ?_⟩
        · rw [hsucc, HS2.out]
        · rw [hzs, show nz - (Z + 1) = D - 1 by omega]
        · rw [hzs]; exact HA3.out
        · simp [intOf]; omega
      · have hz0 : ¬ z = 0 := h0
        obtain ⟨T, eT⟩ : ∃ T, S + z.toNat = T := ⟨_, rfl⟩
        have hzn : (z.toNat : Int) = z := by have := hokk.1; omega
        have hIz : inH z = z.toNat := by unfold inH; rw [if_neg h0]
        have s2 : (S : Int) + z = (T : Int) := by omega
        have hpc := piece_any (some ⟨g, 0, none⟩) len C S T
        have HPC := hid (fun w => hpc w (by omega) (by omega))
        obtain ⟨PA, PL, eP⟩ : ∃ PA PL, pc (some ⟨g, 0, none⟩) S T = .slice PA PL PL := ⟨_, _, rfl⟩
        rw [eP] at HPC
        have HP := hid eP
        have HT := hid eT
        have t1 : (T : Int) ≤ 140737488351232 := by omega
        have t2 : (S : Int) ≤ 140737488351232 := by omega
        have HALL := hid hAL
        clear b1 b2 b3 b4 b5 b6 b7 b8 b9 b10 hsb hsc hokk hi1 hmono hsucc hzs hzle eu ecp hltz eS ez eI eZ eD hin fin hAL hr hb hzr eP eT hpc hzn hIz eS2
        go_wp2_with (first
          | (go_at_call 91; refine (HPC.out _).mono ?_; rintro e w4 ⟨rfl, rfl⟩)
          | (go_at_call 86; refine (HIN.out _).mono ?_; rintro e w5 ⟨rfl, rfl⟩))
        obtain ⟨eS, ez, eZ, eD, hsucc, hzs, ecp⟩ := HE.out
        rw [if_neg hz0] at hzs ecp
        refine ⟨⟨k + 1, AL, by omega, by go_num, by rw [hsucc, HS2.out], by rw [hzs, Nat.add_zero, eD], by rw [hzs, Nat.add_zero]; exact HALL.out, HFIN.out _ _ (row_set HR.out k _) (by rw [ecp, HT.out]; exact HP.out.symm), by rw [size_set]; exact HZR.out, HB.out.setCell (by simp) _⟩, ?_⟩
        simp [intOf]
        omega
    · have ek : k = n := by omega
      subst ek
      obtain ⟨b1, b2, b3, b4, b5, b6, b7, b8, b9, b10⟩ := H3.out
      have hr' : wr.heap[gp]? = some (.cells (vals k (cpart (some ⟨g, 0, none⟩) zs os len nz)) 39) := by
        rw [hr]
        exact congrArg (fun c => some (Obj.cells c 39)) (vals_congr fun i hi => by rw [if_pos hi])
      have HX : Hid (∃ C', w.heap.size ≤ g ∧ w.heap.size ≤ gp ∧ (∀ j, j < len → wr.cell? ⟨g, j, none⟩ = some (.int .u8 (m j))) ∧ g < wr.heap.size ∧ len ≤ C' ∧ wr.heap[gp]? = some (.cells (vals k (cpart (some ⟨g, 0, none⟩) zs os len nz)) 39) ∧ g ≠ gp ∧ Below w.heap.size w wr) := ⟨C, b8, by omega, fun j hj => (below_cell hb (by omega)).trans (b3 j hj), by omega, b9, hr', by omega, b1.trans (hb.mono (by omega))⟩
      clear b1 b2 b3 b4 b5 b6 b7 b8 b9 hr hr' hb hzr hAL
      have B10 := hid b10
      clear b10
      go_wp2
      go_ret
      obtain ⟨C', x⟩ := HX.out
      refine ⟨g, C', gp, rfl, ?_⟩
      rw [B10.out]
      exact x

end Go.Proofs.Ytehpfemlcjcabaa.Z

namespace Go.Proofs.Ytehpfemlcjcabaa.Z

open Go.RowKit

set_option linter.unusedVariables false

set_option linter.unusedSimpArgs false

theorem offL_zn (zs m : Nat → Int) (k : Nat) : (offL zs m k).length = zn zs k := by
  induction k with
  | zero => rfl
  | succ k ih =>
    show (offL zs m k ++ (if zs k = 0 then [o4 m (hdL zs k)] else [])).length = zn zs k + (if zs k = 0 then 1 else 0)
    rw [List.length_append, ih]
    by_cases h : zs k = 0
    · rw [if_pos h, if_pos h]; rfl
    · rw [if_neg h, if_neg h]; rfl

theorem offL_bd (zs m : Nat → Int) (len k : Nat) (hm : ∀ j, j < len → 0 ≤ m j ∧ m j < 256) (hk : hdL zs k ≤ len) : ∀ x ∈ offL zs m k, 0 ≤ x ∧ x < 4294967296 := by
  induction k with
  | zero => intro x hx; cases hx
  | succ k ih =>
    have h1 : hdL zs (k + 1) = hdL zs k + inH (zs k) := rfl
    intro x hx
    rw [show offL zs m (k + 1) = offL zs m k ++ (if zs k = 0 then [o4 m (hdL zs k)] else []) from rfl, List.mem_append] at hx
    rcases hx with hx | hx
    · exact ih (by omega) x hx
    · by_cases h : zs k = 0
      · rw [if_pos h, List.mem_singleton] at hx
        subst hx
        have h4 : inH (zs k) = 4 := by unfold inH; rw [if_pos h]
        exact o4_bd m _ fun j h1 h2 => hm j (by omega)
      · rw [if_neg h] at hx; cases hx

/-- The offset number i, as it is read. -/
def offN (zs m : Nat → Int) (n i : Nat) : Nat := ((offL zs m n).getD i 0).toNat

theorem offN_cast (zs m : Nat → Int) (len n i : Nat) (hm : ∀ j, j < len → 0 ≤ m j ∧ m j < 256) (hk : hdL zs n ≤ len) (hi : i < zn zs n) : (offL zs m n)[i]? = some ((offN zs m n i : Nat) : Int) ∧ offN zs m n i < 4294967296 := by
  have hl : i < (offL zs m n).length := by rw [offL_zn]; exact hi
  have hb := offL_bd zs m len n hm hk _ (List.getElem_mem hl)
  have e : (offL zs m n).getD i 0 = (offL zs m n)[i] := by rw [List.getD_eq_getElem?_getD, List.getElem?_eq_getElem hl]; rfl
  unfold offN
  rw [List.getElem?_eq_getElem hl, e]
  refine ⟨congrArg some ?_, ?_⟩
  · omega
  · omega

theorem owns_nms {w : World} {base : Nat} {v : Value} {n : Nat} {L : List Int} (h : w.ownsRow base 22 1 v n (L.map (Value.int .u64))) (os : Nat → Int) (hos : ∀ i, i < n → L[i]? = some (os i)) : ∃ a C, v = .slice a n C ∧ Nms .u64 w a n os := by
  rcases h.2 with ⟨h1, h2⟩ | ⟨g, cap, cur, h1, h2, h3, h4, h5, h6, h7⟩
  · subst h2
    exact ⟨none, 0, h1, .inl rfl⟩
  · subst h1
    refine ⟨_, cap, rfl, .inr ⟨g, 0, rfl, (Array.getElem?_eq_some_iff.1 h3).1, fun j hj => ?_⟩⟩
    have := h.cells (g := g) rfl j (.int .u64 (os j)) (by rw [List.getElem?_map, hos j hj]; rfl)
    rw [addr_add] at this
    exact this

set_option maxRecDepth 20000 in
set_option maxHeartbeats 1000000 in
theorem cut_ok (zs m : Nat → Int) (ao : Option Addr) (len cap : Nat) (sa : Option Addr) (n sc : Nat) (w : World) (hb : Bys w ao len cap m) (hm : ∀ j, j < len → 0 ≤ m j ∧ m j < 256) (hlen : len ≤ 140737488351232) (hlc : len ≤ cap) (hcap : cap ≤ 9223372036854775807)
    (hn : Nms .i64 w sa n zs) (hsz : szB zs n = true) (hhd : hdL zs n ≤ len) (hno : zn zs n = 0 → len = hdL zs n) (hfi : 0 < zn zs n → offN zs m n 0 = hdL zs n)
    (hle : ∀ i, i < zn zs n → offN zs m n i ≤ len) (hmo : ∀ i, i + 1 < zn zs n → offN zs m n i ≤ offN zs m n (i + 1)) :
    Calls Try.prog 36 #[.slice ao len cap, .slice sa n sc] w fun e w' => ∃ g C gp, e = .returned (.tuple #[.slice (some ⟨gp, 0, none⟩) n n, .int .i64 0]) ∧ w.heap.size ≤ g ∧ w.heap.size ≤ gp ∧ (∀ j, j < len → w'.cell? ⟨g, j, none⟩ = some (.int .u8 (m j))) ∧ g < w'.heap.size ∧ len ≤ C ∧ w'.heap[gp]? = some (.cells (vals n (cpart (some ⟨g, 0, none⟩) zs (offN zs m n) len (zn zs n))) 39) ∧ g ≠ gp ∧ Below w.heap.size w w' := by
  obtain ⟨hn1, hnb, hok⟩ := szB_out hsz
  have h64 := hdL_bd (zs := zs) n hok
  have hsi := sizes_any zs sa n sc w hn (by omega)
  rw [hsz] at hsi
  have hhl := headlen_any zs sa n sc w hn hn1 hnb hok
  have hho := headoffs_any zs m ao len cap sa n sc w hb hm hlc hcap hn hn1 hnb hok hhd
  obtain ⟨S, eS⟩ : ∃ S, hdL zs n = S := ⟨_, rfl⟩
  rw [eS] at hhl
  have s1 : ¬ (len : Int) < (S : Int) := by omega
  have s2 : (S : Int) ≤ 4194304 := by omega
  have s3 : (len : Int) ≤ 140737488351232 := by omega
  have HSI := hid hsi
  have HHL := hid hhl
  have HHO := hid hho
  have HA : Hid (Bys w ao len cap m ∧ (∀ j, j < len → 0 ≤ m j ∧ m j < 256) ∧ Nms .i64 w sa n zs ∧ 1 ≤ n ∧ n ≤ 64 ∧ (∀ i, i < n → okS (zs i)) ∧ hdL zs n ≤ len ∧ (zn zs n = 0 → len = hdL zs n) ∧ (0 < zn zs n → offN zs m n 0 = hdL zs n)) := ⟨hb, hm, hn, hn1, hnb, hok, hhd, hno, hfi⟩
  have HLE := hid hle
  have HMO := hid hmo
  have HS := hid eS
  clear hsi hhl hho hb hm hn hok hhd hno hfi hle hmo eS hsz h64
  go_enter Try.func36, Try.ntmps36
  go_wp2
  refine wp_scope_jumps 0 (fun _ _ => False) (fun _ _ => 0) rfl ?_ (fun _ _ h => h.elim)
  go_upto_region 9 with (first
    | (go_at_call 56; refine HSI.out.mono ?_; rintro e w1 ⟨rfl, rfl⟩)
    | (go_at_call 58; refine HHL.out.mono ?_; rintro e w2 ⟨rfl, rfl⟩)
    | (go_at_call 67; refine HHO.out.mono ?_; rintro e w3 ⟨v, rfl, ho3, hb3⟩))
  obtain ⟨hb, hm, hn, _, _, hok, hhd, hno, hfi⟩ := HA.out
  have hoff := fun i hi => offN_cast zs m len n i hm hhd hi
  rw [offL_zn] at ho3
  obtain ⟨oa, OC, hv, hnm⟩ := owns_nms ho3 (fun i => (offN zs m n i : Int)) (fun i hi => (hoff i hi).1)
  subst hv
  have hznb := zn_le zs n
  have hord := ordB_true (os := fun i => (offN zs m n i : Int)) (L := (len : Int)) (n := zn zs n) (fun i hi => by
    unfold ordAt
    dsimp only
    have h1 := HLE.out i hi
    by_cases h0 : i = 0
    · rw [if_pos h0]; omega
    · rw [if_neg h0]
      have h2 := HMO.out (i - 1) (by omega)
      rw [show i - 1 + 1 = i by omega] at h2
      omega)
  have hio := inorder_any (fun i => (offN zs m n i : Int)) oa (zn zs n) OC len w3 hnm (by omega) (fun i hi => by have := (hoff i hi).2; omega) (by omega)
  rw [hord] at hio
  have hcp := cparts_any zs m (offN zs m n) ao len cap sa n sc oa OC w3 (hb.below hb3) hlen (hn.below hb3) hn1 hnb hok hhd hnm HLE.out HMO.out
  have HIO := hid hio
  have HCP := hid hcp
  have HB3 := hid hb3
  have eS := HS.out
  by_cases h0 : zn zs n = 0
  · have hle := hno h0
    rw [h0]
    rw [h0] at HIO HCP
    have t1 : ¬ (S : Int) < (len : Int) := by omega
    have HZ := hid h0
    clear hb hm hn hok hhd hno hfi hoff ho3 hnm hznb hord hio hcp hb3 eS hle h0
    go_wp2_with (first
      | (go_at_call 68; refine HIO.out.mono ?_; rintro e w4 ⟨rfl, rfl⟩)
      | (go_at_call 69; refine HCP.out.mono ?_; rintro e w5 ⟨g, C, gp, rfl, x1, x2, x3, x4, x5, x6, x7, x8⟩))
    simp only [Exit.jump]
    go_ret2
    rw [HZ.out]
    exact ⟨g, C, gp, rfl, Nat.le_trans HB3.out.size x1, Nat.le_trans HB3.out.size x2, x3, x4, x5, x6, x7, HB3.out.trans (x8.mono HB3.out.size)⟩
  · have hz : 0 < zn zs n := by omega
    have hfo := hfi hz
    rcases hnm with h | ⟨ob, oo, rfl, hob, hoc⟩
    · omega
    have c0 := hoc 0 hz
    simp only [Nat.add_zero] at c0
    rw [hfo, eS] at c0
    obtain ⟨nz, enz⟩ : ∃ x, zn zs n = x := ⟨_, rfl⟩
    rw [enz] at HIO HCP hz ⊢
    have t1 : ¬ (nz : Int) = 0 := by omega
    have t2 : (0 : Int) < (nz : Int) := by omega
    have t3 : 0 < nz := by omega
    have HZ := hid enz
    clear hb hm hn hok hhd hno hfi hoff ho3 hznb hord hio hcp hb3 eS h0 hfo hoc enz hz
    go_wp2_with (first
      | (go_at_call 68; refine HIO.out.mono ?_; rintro e w4 ⟨rfl, rfl⟩)
      | (go_at_call 69; refine HCP.out.mono ?_; rintro e w5 ⟨g, C, gp, rfl, x1, x2, x3, x4, x5, x6, x7, x8⟩))
    simp only [Exit.jump]
    go_ret2
    rw [HZ.out]
    exact ⟨g, C, gp, rfl, Nat.le_trans HB3.out.size x1, Nat.le_trans HB3.out.size x2, x3, x4, x5, x6, x7, HB3.out.trans (x8.mono HB3.out.size)⟩

end Go.Proofs.Ytehpfemlcjcabaa.Z
