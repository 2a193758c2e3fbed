/-
  What changes of a copied state do; who proposes in states that differ where it does not matter.
-/

import Derived.Test.YtpabbglbaimadaaDoorPkL
import Derived.Test.YtpabbglbaimadaaDoorPkH
import Derived.Test.YtpabbglbaimadaaDoorStJ
import Derived.Test.YtpabbglbaimadaaDoorLkG
namespace Go.Proofs.YtpabbglbaimadaaDoor

open Go.RowKit

set_option linter.unusedVariables false

set_option linter.unusedSimpArgs false

set_option maxRecDepth 20000

theorem put_seg (l1 m m' l2 : List Seg) (hm : slen m' = slen m) : putL (cel (l1 ++ m ++ l2)) (slen l1) (celL m') = cel (l1 ++ m' ++ l2) := by
  have hs : slen (l1 ++ m ++ l2) = slen l1 + slen m + slen l2 := by
    rw [← celL_len, celL_app, celL_app, List.length_append, List.length_append, celL_len, celL_len, celL_len]
  rw [putL_eq _ _ _ (by rw [cel_size, celL_len, hm, hs]; omega), celL_len, hm, cel_put]

theorem celL_by (N : Nat) (u : Nat → Int) : celL [.by N u] = bl u N := by
  show (List.range N).map _ ++ [] = _
  rw [List.append_nil]
  rfl

theorem byte_at {w : World} {g : Nat} {t : TypeId} (l1 l2 : List Seg) (N : Nat) (f : Nat → Int) (h : w.heap[g]? = some (.cells (cel (l1 ++ [.by N f] ++ l2)) t)) (p : Nat) (hp : p < N) : w.cell? ⟨g, slen l1 + p, none⟩ = some (.int .u8 (f p)) := by
  rw [row_cell h]
  show (celL (l1 ++ [.by N f] ++ l2)).toArray[slen l1 + p]? = _
  rw [List.getElem?_toArray, celL_app, celL_app, List.append_assoc, List.getElem?_append_right (by rw [celL_len]; omega), celL_len, Nat.add_sub_cancel_left, celL_by, List.getElem?_append_left (by rw [bl_len]; exact hp)]
  unfold bl
  rw [List.getElem?_map, List.getElem?_range hp]
  rfl

theorem splitKA (x : VState) (u : Nat → Int) : sState { x with f1 := u } = (sState x).take 1 ++ [.by 32 u] ++ (sState x).drop 2 := by kernel_rfl

theorem splitKE (x : VState) (u : Nat → Int) : sState { x with f5 := u } = (sState x).take 11 ++ [.by 256 u] ++ (sState x).drop 12 := by kernel_rfl

def bodS (x : VState) (u : Nat → Int) : VState := { x with f4 := { x.f4 with f4 := u } }

theorem splitb (x : VState) (u : Nat → Int) : sState (bodS x u) = (sState x).take 10 ++ [.by 32 u] ++ (sState x).drop 11 := by kernel_rfl

theorem len1 (x : VState) : slen ((sState x).take 1) = 1 := by kernel_rfl

theorem len5 (x : VState) : slen ((sState x).take 11) = 141 := by kernel_rfl

theorem lenb (x : VState) : slen ((sState x).take 10) = 109 := by kernel_rfl

theorem put1 (x : VState) (u : Nat → Int) : putL (cel (sState x)) 1 (bl u 32) = cel (sState { x with f1 := u }) := by
  have h := put_seg ((sState x).take 1) [.by 32 x.f1] [.by 32 u] ((sState x).drop 2) rfl
  rw [← splitKA, ← splitKA, len1, celL_by] at h
  exact h

theorem put5 (x : VState) (u : Nat → Int) : putL (cel (sState x)) 141 (bl u 256) = cel (sState { x with f5 := u }) := by
  have h := put_seg ((sState x).take 11) [.by 256 x.f5] [.by 256 u] ((sState x).drop 12) rfl
  rw [← splitKE, ← splitKE, len5, celL_by] at h
  exact h

theorem putb (x : VState) (u : Nat → Int) : putL (cel (sState x)) 109 (bl u 32) = cel (sState (bodS x u)) := by
  have h := put_seg ((sState x).take 10) [.by 32 x.f4.f4] [.by 32 u] ((sState x).drop 11) rfl
  rw [← splitb, ← splitb, lenb, celL_by] at h
  exact h

theorem at1 {w : World} {g : Nat} {x : VState} {t : TypeId} (h : w.heap[g]? = some (.cells (cel (sState x)) t)) (p : Nat) (hp : p < 32) : w.cell? ⟨g, 1 + p, none⟩ = some (.int .u8 (x.f1 p)) := by
  have := byte_at ((sState x).take 1) ((sState x).drop 2) 32 x.f1 (t := t) (by rw [← splitKA]; exact h) p hp
  rw [len1] at this
  exact this

theorem at5 {w : World} {g : Nat} {x : VState} {t : TypeId} (h : w.heap[g]? = some (.cells (cel (sState x)) t)) (p : Nat) (hp : p < 256) : w.cell? ⟨g, 141 + p, none⟩ = some (.int .u8 (x.f5 p)) := by
  have := byte_at ((sState x).take 11) ((sState x).drop 12) 256 x.f5 (t := t) (by rw [← splitKE]; exact h) p hp
  rw [len5] at this
  exact this

theorem atb {w : World} {g : Nat} {x : VState} {t : TypeId} (h : w.heap[g]? = some (.cells (cel (sState x)) t)) (p : Nat) (hp : p < 32) : w.cell? ⟨g, 109 + p, none⟩ = some (.int .u8 (x.f4.f4 p)) := by
  have := byte_at ((sState x).take 10) ((sState x).drop 11) 32 x.f4.f4 (t := t) (by rw [← splitb]; exact h) p hp
  rw [lenb] at this
  exact this

/-- Eight roots, loaded and stored. -/
def lvR8 (a : Addr) : Sem Value := loadVar 31 a

theorem lvR8_eq (a : Addr) : loadVar 31 a = lvR8 a := rfl

def svR8 (a : Addr) (v : Value) : Sem Unit := storeVar 31 a v

theorem svR8_eq (a : Addr) (v : Value) : storeVar 31 a v = svR8 a v := rfl

theorem lvR8_mid {w : World} {b o : Nat} {c : Nat → Int} (h : ∀ j, j < 256 → w.cell? ⟨b, o + j, none⟩ = some (.int .u8 (c j))) : (lvR8 ⟨b, o, none⟩).run Tryd.prog w = .ok (.agg (vs .u8 256 c)) w := by
  have hr : w.rangeAt b o ((List.range 256).map fun i => Value.int .u8 (c i)) := by
    intro j v hj
    have hlt : j < 256 := by
      have := (List.getElem?_eq_some_iff.1 hj).1
      simpa using this
    rw [h j hlt]
    simp [hlt] at hj
    rw [hj]
  exact loadAt_var (run_loadAt_mid w b o 31 _ _ hr Tryd.underlying31 rfl (by rw [List.length_map, List.length_range]; kernel_rfl))

theorem svR8_mid {w : World} {b : Nat} {C : Array Value} {t : TypeId} (h : w.heap[b]? = some (.cells C t)) (o : Nat) (c : Nat → Int) (hn : o + 256 ≤ C.size) :
    (svR8 ⟨b, o, none⟩ (.agg (vs .u8 256 c))).run Tryd.prog w = .ok () (w.setCells b o (bl c 256)) := by
  have h1 := run_storeVar_mid (P := Tryd.prog) w b o 31 (vs .u8 256 c) (by rw [vs_size]; exact there_row h o 256 hn) (by rw [vs_size]; kernel_rfl) (vs_one _ _ _)
  rw [vs_list] at h1
  exact h1

/-- Who is drawn hangs on the balances alone. -/
theorem drL_congr {z z' : Nat → VValidator} (h : ∀ j, (z j).f2 = (z' j).f2) (L : List Int) (s : Nat → Int) : ∀ i, drL z L s i = drL z' L s i
  | 0 => rfl
  | i + 1 => by
    have e : tkB z L s i = tkB z' L s i := by unfold tkB; rw [h]
    show (if tkB z L s i = true then drL z L s i ++ _ else drL z L s i) = (if tkB z' L s i = true then drL z' L s i ++ _ else drL z' L s i)
    rw [e, drL_congr h L s i]

theorem dw_congr {z z' : Nat → VValidator} (h : ∀ j, (z j).f2 = (z' j).f2) (L : List Int) (s : Nat → Int) (want : Nat) : dwL z L s want = dwL z' L s want ∧ dwE z L s want = dwE z' L s want := by
  unfold dwL dwE dwO
  rw [drL_congr h L s 256]
  exact ⟨rfl, rfl⟩

theorem acL_congr {z z' : Nat → VValidator} (h : ∀ j, (z j).f5 = (z' j).f5 ∧ (z j).f6 = (z' j).f6) (e : Int) : ∀ n, acL z e n = acL z' e n
  | 0 => rfl
  | n + 1 => by
    have e1 : actB (z n) e = actB (z' n) e := by unfold actB; rw [(h n).1, (h n).2]
    show (if actB (z n) e = true then acL z e n ++ _ else acL z e n) = (if actB (z' n) e = true then acL z' e n ++ _ else acL z' e n)
    rw [e1, acL_congr h e n]

theorem pr_congr {Y Z : VState} (h2 : Z.f2 = Y.f2) (h13 : Z.f13 = Y.f13) (hn : Z.f11.n = Y.f11.n) (hz : ∀ j, (Z.f11.z j).f2 = (Y.f11.z j).f2 ∧ (Z.f11.z j).f5 = (Y.f11.z j).f5 ∧ (Z.f11.z j).f6 = (Y.f11.z j).f6) : prV Z = prV Y ∧ prE Z = prE Y := by
  have hs : ∀ e k, seedV Z e k = seedV Y e k := fun e k => by unfold seedV mixV; rw [h13]
  have hp : prS Z = prS Y := by unfold prS; rw [hs, h2]
  have ha : ∀ e, acE Z e = acE Y e := fun e => by unfold acE; rw [hn]; exact acL_congr (fun j => (hz j).2) e _
  have hd := dw_congr (fun j => (hz j).1) (acE Y (Y.f2 / 4)) (prS Y) 1
  unfold prV prL prE
  rw [h2, ha, hp]
  rw [hd.1, hd.2]
  exact ⟨rfl, rfl⟩

/-- A state whose actives all have the greatest balance. -/
theorem pr_rich {X : VState} (e : Int) (he : (ricS X X.f11.n).f2 / 4 = e) : (acE (ricS X X.f11.n) e = [] ∧ prE (ricS X X.f11.n) = 7) ∨ (acE (ricS X X.f11.n) e ≠ [] ∧ prE (ricS X X.f11.n) = 0 ∧ ∃ V : Nat, prV (ricS X X.f11.n) = (V : Int) ∧ V < X.f11.n) := by
  subst he
  by_cases h : acE (ricS X X.f11.n) ((ricS X X.f11.n).f2 / 4) = []
  · refine .inl ⟨h, ?_⟩
    unfold prE
    rw [h]
    exact (dw_none (.inl rfl)).2
  · have hr : ∀ v ∈ acE (ricS X X.f11.n) ((ricS X X.f11.n).f2 / 4), ((ricS X X.f11.n).f11.z v.toNat).f2 = 32000000000 := fun v hv => by
      obtain ⟨q0, q1, _⟩ := (acL_mem _ _ _ _).1 hv
      have q2 : v.toNat < X.f11.n := by
        have : v < (X.f11.n : Int) := q1
        omega
      show (chg ric X.f11.z X.f11.n v.toNat).f2 = 32000000000
      unfold chg
      rw [if_pos q2]
      rfl
    obtain ⟨h1, h2⟩ := dw_rich (s := prS (ricS X X.f11.n)) (want := 1) h hr (by omega)
    refine .inr ⟨h, h1, ?_⟩
    have h3 := drL_mem (ricS X X.f11.n).f11.z (acE (ricS X X.f11.n) ((ricS X X.f11.n).f2 / 4)) (prS (ricS X X.f11.n)) h 1
    have h4 := drL_full (s := prS (ricS X X.f11.n)) h hr 1
    have h5 : prL (ricS X X.f11.n) = drL (ricS X X.f11.n).f11.z (acE (ricS X X.f11.n) ((ricS X X.f11.n).f2 / 4)) (prS (ricS X X.f11.n)) 1 := h2
    have h6 := h3 _ (getD_mem _ 0 (by rw [h4]; omega))
    obtain ⟨q0, q1, _⟩ := (acL_mem _ _ _ _).1 h6
    refine ⟨(prV (ricS X X.f11.n)).toNat, ?_, ?_⟩
    · unfold prV
      rw [h5]
      omega
    · unfold prV
      rw [h5]
      have : (drL (ricS X X.f11.n).f11.z (acE (ricS X X.f11.n) ((ricS X X.f11.n).f2 / 4)) (prS (ricS X X.f11.n)) 1).getD 0 0 < (X.f11.n : Int) := q1
      omega

end Go.Proofs.YtpabbglbaimadaaDoor
