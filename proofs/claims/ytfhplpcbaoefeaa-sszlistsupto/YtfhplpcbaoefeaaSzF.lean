/-
  What looseParts answers.
-/
import Derived.Test.YtfhplpcbaoefeaaSzE
namespace Go.Proofs.Ytfhplpcbaoefeaa
open Go.RowKit
set_option linter.unusedVariables false
set_option linter.unusedSimpArgs false

/-- n values. -/
def vals (n : Nat) (f : Nat → Value) : Array Value := ((List.range n).map f).toArray
theorem vals_size (n : Nat) (f : Nat → Value) : (vals n f).size = n := by simp [vals]
theorem vals_get (n : Nat) (f : Nat → Value) (i : Nat) (h : i < n) : (vals n f)[i]? = some (f i) := by simp [vals, h]
theorem vals_congr {n : Nat} {f g : Nat → Value} (h : ∀ i, i < n → f i = g i) : vals n f = vals n g := by
  unfold vals
  congr 1
  exact List.map_congr_left fun i hi => h i (List.mem_range.1 hi)
theorem vals_set (n : Nat) (f : Nat → Value) (i : Nat) (v : Value) : (vals n f).setIfInBounds i v = vals n (fun j => if j = i then v else f j) := by
  apply Array.ext_getElem?
  intro j
  by_cases hj : j < n
  · rw [vals_get _ _ _ hj, Array.getElem?_setIfInBounds]
    by_cases hi : i = j
    · subst hi
      rw [if_pos rfl, if_pos (by rw [vals_size]; exact hj), if_pos rfl]
    · rw [if_neg hi, vals_get _ _ _ hj, if_neg (by omega)]
  · rw [Array.getElem?_eq_none (by rw [Array.size_setIfInBounds, vals_size]; omega), Array.getElem?_eq_none (by rw [vals_size]; omega)]
theorem vals_of (c : Array Value) : c = vals c.size (fun i => c[i]?.getD undef) := by
  apply Array.ext_getElem?
  intro j
  by_cases hj : j < c.size
  · rw [vals_get _ _ _ hj, Array.getElem?_eq_getElem hj]
    rfl
  · rw [Array.getElem?_eq_none (by omega), Array.getElem?_eq_none (by rw [vals_size]; omega)]
theorem vals_cell {w : World} {b n : Nat} {f : Nat → Value} {t : TypeId} (h : w.heap[b]? = some (.cells (vals n f) t)) (i : Nat) (hi : i < n) : w.cell? ⟨b, i, none⟩ = some (f i) := by
  rw [row_cell h, vals_get _ _ _ hi]

theorem info22 : (Try.prog.info? 22).map (fun i => (i.zero, i.size, i.bytes)) = some (some (.slice none 0 0), 1, 24) := by kernel_rfl
/-- make of slices of bytes. -/
theorem wpList_make_parts (w : World) {ops : Array Oper} {rest : List Oper} {o : Oper} {a : Act} {Q : Exit → Act → World → Prop} (hg : o.guard = none) (l c : Operand) (hop : o.op = Op.makeSlice 24 l c)
    (n : Nat) (hl : a.eval l = .int .i64 n) (hc : a.eval c = .int .i64 n) (hn : n ≤ 1000000000000)
    (hK : ∀ f w', w'.heap[w.heap.size]? = some (.cells (vals n f) 22) → Below w.heap.size w w' → w.heap.size < w'.heap.size → wpList Try.prog ops Q rest (a.put o.dst (.slice (some ⟨w.heap.size, 0, none⟩) n n)) w') :
    wpList Try.prog ops Q (o :: rest) a w := by
  obtain ⟨i, hi, hz0, hz1, hz2⟩ := info_parts info22
  refine wpList_make_full w hg l c 24 hop w.heap.size 22 i _ 1 Try.underlying24 hi hz0 hz1 .i64 .i64 _ _ n hl hc rfl rfl (by rw [hz2]; omega) (by unfold maxLen; omega) (Nat.le_refl _) (fun w' h1 h2 => ?_)
  rcases h1.2 with ⟨h3, _⟩ | ⟨g, cap, cur, h3, h4, h5, h6, h7, h8, _⟩
  · cases h3
  · cases h3
    have hs : cur.size = n := by omega
    refine hK (fun i => cur[i]?.getD undef) w' ?_ ⟨h2.os, h2.tape, h2.output, h2.size, fun k hk => h2.block k hk (by intro h; cases h)⟩ (Array.getElem?_eq_some_iff.1 h5).1
    rw [h5]
    have := vals_of cur
    rw [hs] at this
    rw [← this]

theorem size_set (w : World) (a : Addr) (v : Value) : (w.setCell a v).heap.size = w.heap.size := by simp [World.setCell]
/-- Where the part number i ends. -/
def endAt (os : Nat → Nat) (wl n i : Nat) : Nat := if i + 1 < n then os (i + 1) else wl
def prts (ga : Option Addr) (os : Nat → Nat) (wl n : Nat) (i : Nat) : Value := pc ga (os i) (endAt os wl n i)

set_option maxHeartbeats 1000000 in
theorem loose_any (ga : Option Addr) (wl wc : Nat) (os : Nat → Nat) (a : Option Addr) (n cap : Nat) (w : World) (hn : Nms .u64 w a n (fun i => (os i : Int))) (hnb : n ≤ 1000000000000) (hwl : wl ≤ wc) (hwb : wl ≤ 4611686018427387904)
    (hle : ∀ i, i < n → os i ≤ wl) (hmo : ∀ i, i + 1 < n → os i ≤ os (i + 1)) :
    Calls Try.prog 17 #[.slice ga wl wc, .slice a n cap] w fun e w' => e = .returned (.slice (some ⟨w.heap.size, 0, none⟩) n n) ∧ w'.heap[w.heap.size]? = some (.cells (vals n (prts ga os wl n)) 22) ∧ Below w.heap.size w w' := by
  have HC : Hid (∀ k, k < n → ∃ b off, a = some ⟨b, off, none⟩ ∧ b < w.heap.size ∧ w.cell? ⟨b, off + k, none⟩ = some (.int .u64 (os k))) := by
    intro k hk
    rcases hn with h | ⟨b, off, h1, h2, h3⟩
    · omega
    · exact ⟨b, off, h1, h2, h3 k hk⟩
  have HLE := hid hle
  have HMO := hid hmo
  clear hn hle hmo
  go_enter Try.func17, Try.ntmps17
  go_wp2_with (at_make; refine wpList_make_parts _ rfl _ _ rfl n rfl rfl hnb ?_; intro f0 w1 hr1 hb1 hz1)
  have HR1 := hid hr1
  have HB1 := hid hb1
  have HZ1 := hid hz1
  clear hr1 hb1 hz1
  go_loopw [6, 7] (fun e i wr => ∃ k : Nat, k ≤ n ∧ i = .int .i64 ((n : Int) - (k : Int) - 1) ∧ e = .int .i64 ((if k = 0 then wl else os (n - k) : Nat) : Int) ∧ wr.heap[w.heap.size]? = some (.cells (vals n fun i => if n - k ≤ i then prts ga os wl n i else f0 i) 22) ∧ Below w.heap.size w wr ∧ w.heap.size < wr.heap.size) (fun _ i _ => (intOf i + 1).toNat)
  case atStart =>
    refine ⟨0, by omega, by simp, rfl, ?_, HB1.out, HZ1.out⟩
    rw [HR1.out]
    refine congrArg (fun c => some (Obj.cells c 22)) (vals_congr fun i hi => ?_)
    rw [if_neg (by omega)]
  case round =>
    obtain ⟨k, hk, rfl, rfl, hr, hb, hz⟩ := hrel
    clear HR1 HB1 HZ1
    by_cases hkn : k < n
    · obtain ⟨j, ej⟩ : ∃ j, j = n - k - 1 := ⟨_, rfl⟩
      obtain ⟨b, off, rfl, hbb, hcj⟩ := HC.out j (by omega)
      have cj := (below_cell hb hbb).trans hcj
      obtain ⟨E, eE⟩ : ∃ E, (if k = 0 then wl else os (n - k)) = E := ⟨_, rfl⟩
      have hE : endAt os wl n j = E := by
        unfold endAt
        by_cases h0 : k = 0
        · rw [if_pos h0] at eE
          rw [if_neg (by omega)]
          exact eE
        · rw [if_neg h0] at eE
          rw [if_pos (by omega), show j + 1 = n - k by omega]
          exact eE
      have hEl : E ≤ wl := by
        rw [← eE]
        by_cases h0 : k = 0
        · rw [if_pos h0]; exact Nat.le_refl _
        · rw [if_neg h0]; exact HLE.out _ (by omega)
      have hoE : os j ≤ E := by
        rw [← eE]
        by_cases h0 : k = 0
        · rw [if_pos h0]; exact HLE.out _ (by omega)
        · rw [if_neg h0]
          have := HMO.out j (by omega)
          rw [show j + 1 = n - k by omega] at this
          exact this
      obtain ⟨O, eO⟩ : ∃ O, os j = O := ⟨_, rfl⟩
      rw [eO] at cj hoE
      have hpc := piece_any ga wl wc O E
      have HPC := hid (fun w => hpc w hoE (by omega))
      rw [eE, show (n : Int) - (k : Int) - 1 = (j : Int) by omega]
      have cw := vals_cell hr j (by omega)
      have fw := row_frozen hr j
      obtain ⟨u, eu⟩ : ∃ u, (if n - k ≤ j then prts ga os wl n j else f0 j) = u := ⟨_, rfl⟩
      rw [eu] at cw
      have HR := hid hr
      have HB := hid hb
      have HZ := hid hz
      have HJ : Hid (j = n - k - 1 ∧ endAt os wl n j = E ∧ os j = O) := ⟨ej, hE, eO⟩
      have k1 : (j : Int) < (n : Int) := by omega
      have k2 : (0 : Int) ≤ (j : Int) := by omega
      have k3 : (O : Int) ≤ 4611686018427387904 := by omega
      have k4 : (0 : Int) ≤ (O : Int) := by omega
      obtain ⟨PA, ePA⟩ : ∃ PA, (if E = O then ga else ga.map (·.add O)) = PA := ⟨_, rfl⟩
      have eP : pc ga O E = .slice PA (E - O) (E - O) := by unfold pc; rw [ePA]
      rw [eP] at HPC
      have HPP := hid eP
      clear hr hb hz hcj hbb eE hE hEl hoE eO hpc eu ej eP ePA
      go_wp2_with (go_at_call 27; refine (HPC.out _).mono ?_; rintro e w2 ⟨rfl, rfl⟩)
      go_roundw
      case rel =>
        obtain ⟨ej, hE, eO⟩ := HJ.out
        refine ⟨k + 1, by omega, ?_, ?_, ?_, HB.out.setCell (by simp) _, by rw [size_set]; exact HZ.out⟩
        · congr 1; omega
        · rw [if_neg (by omega), show n - (k + 1) = j by omega, eO]
        · refine (row_set HR.out j _).trans ?_
          rw [vals_set]
          refine congrArg (fun c => some (Obj.cells c 22)) (vals_congr fun i hi => ?_)
          by_cases hij : i = j
          · subst hij
            rw [if_pos rfl, if_pos (by omega)]
            unfold prts
            rw [hE, eO, HPP.out]
          · rw [if_neg hij]
            by_cases h2 : n - k ≤ i
            · rw [if_pos h2, if_pos (by omega)]
            · rw [if_neg h2, if_neg (by omega)]
      case measure => simp [intOf]
    · have ek : k = n := by omega
      subst ek
      have hr' : wr.heap[w.heap.size]? = some (.cells (vals k (prts ga os wl k)) 22) := by
        rw [hr]
        exact congrArg (fun c => some (Obj.cells c 22)) (vals_congr fun i hi => by rw [if_pos (by omega)])
      have HR := hid hr'
      have HB := hid hb
      rw [show (k : Int) - (k : Int) - 1 = -1 by omega]
      generalize (if k = 0 then wl else os (k - k)) = E
      clear hr hr' hb
      go_wp2
      go_ret
      exact ⟨rfl, HR.out, HB.out⟩

end Go.Proofs.Ytfhplpcbaoefeaa
