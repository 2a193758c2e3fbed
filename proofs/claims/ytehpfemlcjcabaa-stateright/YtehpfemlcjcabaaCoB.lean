/-
  What the containers of layer 7 share.
-/

import Derived.Test.YtehpfemlcjcabaaCoA
import Derived.Deep.Onto

namespace Go.Proofs.Ytehpfemlcjcabaa

open Go.RowKit

set_option linter.unusedVariables false

set_option linter.unusedSimpArgs false

theorem sub_range {w : World} {g o : Nat} {C : Array Value} {t : TypeId} {l : List Value} (h : w.heap[g]? = some (.cells C t)) (hl : (C.toList.drop o).take l.length = l) : w.rangeAt g o l := by
  intro j v hj
  have hlt := (List.getElem?_eq_some_iff.1 hj).1
  rw [row_cell h, ← hj]
  have e : ((C.toList.drop o).take l.length)[j]? = l[j]? := by rw [hl]
  rw [List.getElem?_take_of_lt hlt, List.getElem?_drop, Array.getElem?_toList] at e
  exact e

def lvFork (a : Addr) : Sem Value := loadVar 28 a

theorem lvFork_eq (a : Addr) : loadVar 28 a = lvFork a := rfl

theorem lvFork_mid {w : World} {g : Nat} {C : Array Value} {t : TypeId} {x : VFork} (h : w.heap[g]? = some (.cells C t)) (o : Nat) (hl : (C.toList.drop o).take (celL (sFork x)).length = celL (sFork x)) (hs : slen (sFork x) = 9) : (lvFork ⟨g, o, none⟩).run Try.prog w = .ok (.agg (cel (sFork x))) w :=
  loadAt_var (run_loadAt_mid w g o 28 _ _ (sub_range h hl) Try.underlying28 rfl (by rw [celL_len, hs]; kernel_rfl))

def lvCheckpoint (a : Addr) : Sem Value := loadVar 42 a

theorem lvCheckpoint_eq (a : Addr) : loadVar 42 a = lvCheckpoint a := rfl

theorem lvCheckpoint_mid {w : World} {g : Nat} {C : Array Value} {t : TypeId} {x : VCheckpoint} (h : w.heap[g]? = some (.cells C t)) (o : Nat) (hl : (C.toList.drop o).take (celL (sCheckpoint x)).length = celL (sCheckpoint x)) (hs : slen (sCheckpoint x) = 33) : (lvCheckpoint ⟨g, o, none⟩).run Try.prog w = .ok (.agg (cel (sCheckpoint x))) w :=
  loadAt_var (run_loadAt_mid w g o 42 _ _ (sub_range h hl) Try.underlying42 rfl (by rw [celL_len, hs]; kernel_rfl))

def lvValidator (a : Addr) : Sem Value := loadVar 64 a

theorem lvValidator_eq (a : Addr) : loadVar 64 a = lvValidator a := rfl

theorem lvValidator_mid {w : World} {g : Nat} {C : Array Value} {t : TypeId} {x : VValidator} (h : w.heap[g]? = some (.cells C t)) (o : Nat) (hl : (C.toList.drop o).take (celL (sValidator x)).length = celL (sValidator x)) (hs : slen (sValidator x) = 86) : (lvValidator ⟨g, o, none⟩).run Try.prog w = .ok (.agg (cel (sValidator x))) w :=
  loadAt_var (run_loadAt_mid w g o 64 _ _ (sub_range h hl) Try.underlying64 rfl (by rw [celL_len, hs]; kernel_rfl))

def lvEth1 (a : Addr) : Sem Value := loadVar 34 a

theorem lvEth1_eq (a : Addr) : loadVar 34 a = lvEth1 a := rfl

theorem lvEth1_mid {w : World} {g : Nat} {C : Array Value} {t : TypeId} {x : VEth1} (h : w.heap[g]? = some (.cells C t)) (o : Nat) (hl : (C.toList.drop o).take (celL (sEth1 x)).length = celL (sEth1 x)) (hs : slen (sEth1 x) = 65) : (lvEth1 ⟨g, o, none⟩).run Try.prog w = .ok (.agg (cel (sEth1 x))) w :=
  loadAt_var (run_loadAt_mid w g o 34 _ _ (sub_range h hl) Try.underlying34 rfl (by rw [celL_len, hs]; kernel_rfl))

def lvHeader (a : Addr) : Sem Value := loadVar 30 a

theorem lvHeader_eq (a : Addr) : loadVar 30 a = lvHeader a := rfl

theorem lvHeader_mid {w : World} {g : Nat} {C : Array Value} {t : TypeId} {x : VHeader} (h : w.heap[g]? = some (.cells C t)) (o : Nat) (hl : (C.toList.drop o).take (celL (sHeader x)).length = celL (sHeader x)) (hs : slen (sHeader x) = 98) : (lvHeader ⟨g, o, none⟩).run Try.prog w = .ok (.agg (cel (sHeader x))) w :=
  loadAt_var (run_loadAt_mid w g o 30 _ _ (sub_range h hl) Try.underlying30 rfl (by rw [celL_len, hs]; kernel_rfl))

end Go.Proofs.Ytehpfemlcjcabaa

namespace Go.Proofs.Ytehpfemlcjcabaa

open Go.RowKit

set_option linter.unusedVariables false

set_option linter.unusedSimpArgs false

attribute [local go_sem ↓] sv24_eq lv24_eq ix22_eq slr_eq bd27_eq bs22_eq sv8_eq mkI_eq ixI_eq ixP_eq bsP_eq lvCheckpoint_eq lvHeader_eq

theorem bbytes_any (b : Bool) (w : World) : Calls Try.prog 63 #[.bool b] w fun e w' => ∃ g, e = .returned (.slice (some ⟨g, 0, none⟩) 1 1) ∧ Below w.heap.size w w' ∧ Bys w' (some ⟨g, 0, none⟩) 1 1 (bbB b) := by
  cases b with
  | true =>
    go_enter Try.func63, Try.ntmps63
    go_wp2
    go_ret
    exact ⟨w.heap.size, rfl, (Below.refl _ _).alloc (Nat.le_refl _) _, .inr (.inr ⟨w.heap.size, 0, rfl, Nat.le_refl _, by omega, by simp, fun j hj => by
      obtain rfl : j = 0 := by omega
      exact row_cell (heap_new rfl) 0⟩)⟩
  | false =>
    go_enter Try.func63, Try.ntmps63
    go_wp2
    go_ret
    exact ⟨w.heap.size, rfl, (Below.refl _ _).alloc (Nat.le_refl _) _, .inr (.inr ⟨w.heap.size, 0, rfl, Nat.le_refl _, by omega, by simp, fun j hj => by
      obtain rfl : j = 0 := by omega
      exact row_cell (heap_new rfl) 0⟩)⟩

end Go.Proofs.Ytehpfemlcjcabaa

namespace Go.Proofs.Ytehpfemlcjcabaa

open Go.RowKit

set_option linter.unusedVariables false

set_option linter.unusedSimpArgs false

end Go.Proofs.Ytehpfemlcjcabaa

namespace Go.Proofs.Ytehpfemlcjcabaa

open Go.RowKit

set_option linter.unusedVariables false

set_option linter.unusedSimpArgs false

/-- The number that eight bytes are. -/
def rdN (f : Nat → Int) : Int := Z.num8 (f 0) (f 1) (f 2) (f 3) (f 4) (f 5) (f 6) (f 7)

theorem bys_at {w : World} {a : Option Addr} {n cap : Nat} {f : Nat → Int} (h : Bys w a n cap f) (hn : 0 < n) : ∃ b off, a = some ⟨b, off, none⟩ ∧ b < w.heap.size ∧ n ≤ cap ∧ ∀ j, j < n → w.cell? ⟨b, off + j, none⟩ = some (.int .u8 (f j)) := by
  rcases h with ⟨_, h, _⟩ | ⟨_, _, h⟩ | ⟨b, off, h1, h2, h3, h4, h5⟩
  · omega
  · omega
  · exact ⟨b, off, h1, h4, h2, h5⟩

end Go.Proofs.Ytehpfemlcjcabaa

namespace Go.Proofs.Ytehpfemlcjcabaa

open Go.RowKit

set_option linter.unusedVariables false

set_option linter.unusedSimpArgs false

attribute [local go_sem ↓] sv24_eq lv24_eq ix22_eq slr_eq bd27_eq bs22_eq sv8_eq mkI_eq ixI_eq ixP_eq bsP_eq

set_option maxHeartbeats 1000000 in
theorem rnum7 (a : Option Addr) (cap : Nat) (f : Nat → Int) (w : World) (hb : Bys w a 8 cap f) (hf : ∀ j, j < 8 → 0 ≤ f j ∧ f j < 256) :
    Calls Try.prog 78 #[.slice a 8 cap] w fun e w' => e = .returned (.int .u64 (rdN f)) ∧ w' = w := by
  obtain ⟨b, off, rfl, _, _, hc⟩ := bys_at hb (by omega)
  have h0 := hf 0 (by omega)
  have h1 := hf 1 (by omega)
  have h2 := hf 2 (by omega)
  have h3 := hf 3 (by omega)
  have h4 := hf 4 (by omega)
  have h5 := hf 5 (by omega)
  have h6 := hf 6 (by omega)
  have h7 := hf 7 (by omega)
  have hr := Z.read8 b off cap (f 0) (f 1) (f 2) (f 3) (f 4) (f 5) (f 6) (f 7) w (hc 0 (by omega)) h0.1 (by omega) (hc 1 (by omega)) h1.1 (by omega) (hc 2 (by omega)) h2.1 (by omega) (hc 3 (by omega)) h3.1 (by omega) (hc 4 (by omega)) h4.1 (by omega) (hc 5 (by omega)) h5.1 (by omega) (hc 6 (by omega)) h6.1 (by omega) (hc 7 (by omega)) h7.1 (by omega)
  have e : Z.num8 (f 0) (f 1) (f 2) (f 3) (f 4) (f 5) (f 6) (f 7) = rdN f := rfl
  rw [e] at hr
  obtain ⟨D, eD⟩ : ∃ D, rdN f = D := ⟨_, rfl⟩
  rw [eD] at hr ⊢
  have HR := hid hr
  clear hr h0 h1 h2 h3 h4 h5 h6 h7 hc hf hb e eD
  go_enter Try.func78, Try.ntmps78
  go_wp2_with (go_at_call 38; refine HR.out.mono ?_; rintro e w' ⟨rfl, hw⟩; obtain rfl := hw.symm)
  go_ret
  exact ⟨rfl, rfl⟩

/-- Sizes of which none is open, and their sum. -/
structure FixS (zs : Nat → Int) (n N : Nat) : Prop where
  sz : Z.szB zs n = true
  zn : Z.zn zs n = 0
  hd : Z.hdL zs n = N
  nz : ∀ r, r < n → ¬ zs r = 0

theorem cutE_fix {zs : Nat → Int} {n N : Nat} (h : FixS zs n N) (m : Nat → Int) (len : Nat) : Z.cutE zs m n len = if len = N then 0 else 4 := by
  unfold Z.cutE
  rw [h.sz, h.zn, h.hd, if_neg (by simp)]
  by_cases h1 : len < N
  · rw [if_pos h1, if_neg (by omega)]
  · rw [if_neg h1]
    by_cases h2 : N < len
    · rw [if_pos ⟨rfl, h2⟩, if_neg (by omega)]
    · rw [if_neg (fun x => h2 x.2), if_neg (fun x => Nat.lt_irrefl 0 x.1), if_neg (by rw [Z.ordB_true (fun i hi => absurd hi (by omega))]; simp), if_pos (by omega)]

/-- The parts of a cut: a row of slices, and where their bytes lie. -/
def Cuts (zs m : Nat → Int) (n gp o : Nat) (w : World) : Prop :=
  ∀ r, r < n → ∃ b off c, w.cell? ⟨gp, o + r, none⟩ = some (.slice (some ⟨b, off, none⟩) (zs r).toNat c) ∧ Bys w (some ⟨b, off, none⟩) (zs r).toNat c (fun q => m (Z.hdL zs r + q))

theorem cut7_ok {zs : Nat → Int} {n N : Nat} (h : FixS zs n N) (m : Nat → Int) (ao : Option Addr) (cap g : Nat) (w : World) (hb : Bys w ao N cap m) (hm : ∀ j, 0 ≤ m j ∧ m j < 256) (hlen : N ≤ 140737488351232) (hlc : N ≤ cap) (hcap : cap ≤ 9223372036854775807) (hg : w.heap[g]? = some (.cells (vs .i64 n zs) 3)) (hn : n ≤ 64) (hz : ∀ r, r < n → 0 < zs r) (h0 : 0 < n) :
    Calls Try.prog 36 #[.slice ao N cap, .slice (some ⟨g, 0, none⟩) n n] w fun e w' => ∃ gp o, e = .returned (.tuple #[.slice (some ⟨gp, o, none⟩) n n, .int .i64 0]) ∧ gp < w'.heap.size ∧ Cuts zs m n gp o w' ∧ Below w.heap.size w w' := by
  refine (Z.cut_any zs m ao N cap (some ⟨g, 0, none⟩) n n w hb hm hlen hlc hcap (.inr ⟨g, 0, rfl, (Array.getElem?_eq_some_iff.1 hg).1, fun j hj => by rw [Nat.zero_add]; exact row_int hg j hj⟩) (by omega)).mono ?_
  rintro e w' ⟨a', N', A', rfl, h1, h2, h3⟩
  rw [cutE_fix h, if_pos rfl] at h1 ⊢
  rw [if_pos rfl] at h1
  subst h1
  rcases h2 with h2 | ⟨b, off, rfl, h4, h5⟩
  · omega
  refine ⟨b, off, rfl, h4, fun r hr => ?_, h3⟩
  obtain ⟨h6, h7⟩ := h5 r hr
  have hr0 := h.nz r hr
  have hzr := hz r hr
  have e1 : Z.cLn zs m N' N r = (zs r).toNat := by
    unfold Z.cLn Z.cE Z.cB
    rw [if_neg hr0, if_neg hr0]
    omega
  have e2 : Z.cFn zs m N' r = fun q => m (Z.hdL zs r + q) := by
    funext q
    unfold Z.cFn Z.cB
    rw [if_neg hr0]
  rw [e1] at h6 h7
  rw [e2] at h7
  obtain ⟨b1, o1, e3, _, _, _⟩ := bys_at (show Bys w' (A' r) (zs r).toNat (zs r).toNat (fun q => m (Z.hdL zs r + q)) from h7) (by omega)
  rw [e3] at h6 h7
  exact ⟨b1, o1, _, h6, h7⟩

theorem Cuts.below {zs m : Nat → Int} {n gp o : Nat} {w w' : World} (h : Cuts zs m n gp o w) (hg : gp < w.heap.size) (hb : Below w.heap.size w w') : Cuts zs m n gp o w' := fun r hr => by
  obtain ⟨b, off, c, h1, h2⟩ := h r hr
  exact ⟨b, off, c, (below_cell hb hg).trans h1, h2.below hb⟩

/-- Bytes copied into a field. -/
theorem copy_seg (W : World) (g o n : Nat) (l l' : List Seg) (z : Nat → Int) (x : Addr) (cap dcap : Nat) (t : TypeId) (hg : W.heap[g]? = some (.cells (cel l) t)) (hp : o + n ≤ slen l) (hx : ∀ j, j < n → W.cell? (x.add j) = some (.int .u8 (z j)))
    (he : ((cel l).toList.take o ++ bl z n ++ (cel l).toList.drop (o + n)).toArray = cel l') :
    ∀ ty, (Builtin.copy_ #[39, 39] ty #[.slice (some ⟨g, o, none⟩) n dcap, .slice (some x) n cap]).run Try.prog W = .ok (.int .i64 n) (W.setRow g (cel l')) := by
  intro ty
  have hrun := run_copy_row (P := Try.prog) W 39 39 ty 5 g o n dcap x n cap (cel l) t (bl z n) Try.underlying39 (by kernel_rfl) hg (by rw [bl_len]; exact (Nat.min_self n).symm)
    (fun j v hj => by
      obtain ⟨h1, rfl⟩ := bl_get z n j v hj
      exact hx j h1) (by rw [bl_len, cel_size]; exact hp) (bl_one z n)
  rw [hrun, bl_len, he]
  rfl

def bsI (n : Nat) (ps : Array (Nat × Value)) : Sem Value := Instr.buildSlice 81 n ps

theorem bsI_eq (n : Nat) (ps : Array (Nat × Value)) : Instr.buildSlice 81 n ps = bsI n ps := rfl

end Go.Proofs.Ytehpfemlcjcabaa

namespace Go.Proofs.Ytehpfemlcjcabaa

open Go.RowKit

set_option linter.unusedVariables false

set_option linter.unusedSimpArgs false

/-- Sizes, one behind the other. -/
def zl7 (l : List Int) (i : Nat) : Int := l.getD i 0

theorem take_all (l : List Seg) : ((cel l).toList.drop 0).take (celL l).length = celL l := by simp [cel]

/-- The value of nothing but zeros; the value that bytes are. -/
def oFork : VFork := ⟨fun _ => 0, fun _ => 0, 0⟩

def pFork (m : Nat → Int) : VFork := ⟨fun q => m (0 + q), fun q => m (4 + q), rdN (fun q => m (8 + q))⟩

def zFork : Nat → Int := zl7 [4, 4, 8]

theorem fixFork : FixS zFork 3 16 := ⟨by kernel_rfl, by kernel_rfl, by kernel_rfl, fun r hr => by
  rcases (by omega : r = 0 ∨ r = 1 ∨ r = 2) with rfl | rfl | rfl
  all_goals (intro h; exact absurd h (by decide))⟩

theorem zposFork (r : Nat) (hr : r < 3) : 0 < zFork r := by
  rcases (by omega : r = 0 ∨ r = 1 ∨ r = 2) with rfl | rfl | rfl
  all_goals decide

theorem bsI_Fork (W : World) : (bsI 3 #[(0, .int .i64 4), (1, .int .i64 4), (2, .int .i64 8)]).run Try.prog W = .ok (.slice (some ⟨W.heap.size, 0, none⟩) 3 3) (W.alloc (.cells (vs .i64 3 zFork) 3)) := by kernel_rfl

def svFork (a : Addr) (v : Value) : Sem Unit := storeVar 28 a v

theorem svFork_eq (a : Addr) (v : Value) : storeVar 28 a v = svFork a v := rfl

def bdFork (ps : Array (Nat × Value)) : Sem Value := Instr.build 28 ps

theorem bdFork_eq (ps : Array (Nat × Value)) : Instr.build 28 ps = bdFork ps := rfl

theorem zeroFork (W : World) : (zeroValue 28).run Try.prog W = .ok (.agg (cel (sFork oFork))) W := by kernel_rfl

theorem slFork (x : VFork) : slen (sFork x) = 9 := rfl

theorem svFork_run {w : World} {b : Nat} {o : VFork} {t : TypeId} (h : w.heap[b]? = some (.cells (cel (sFork o)) t)) (c : VFork) : (svFork ⟨b, 0, none⟩ (.agg (cel (sFork c)))).run Try.prog w = .ok () (w.setRow b (cel (sFork c))) :=
  run_storeVar_row w b t 28 _ _ h (by rw [cel_size, slFork]; kernel_rfl) (by rw [cel_size, cel_size, slFork, slFork]) (cel_one _)

theorem svFork_newv (W : World) (o c : VFork) : (svFork ⟨W.heap.size, 0, none⟩ (.agg (cel (sFork c)))).run Try.prog (W.alloc (.cells (cel (sFork o)) 28)) = .ok () (W.alloc (.cells (cel (sFork c)) 28)) :=
  run_storeVar_new W 28 _ _ (by rw [cel_size, slFork]; kernel_rfl) (by rw [cel_size, cel_size, slFork, slFork]) (cel_one _)

theorem retFork {fn : Func} {R : Ending → World → Prop} {a : Act} {w' : World} (t s : Tmp) (b : Nat) (c : VFork) (ty : TypeId) (v : Value) (h : fn.results = #[.cell t 28, .tmp s]) (hd : a.defers = []) (ht : a.tmps.getD t undef = .pointer (some ⟨b, 0, none⟩)) (hs : a.tmps.getD s undef = v) (hr : w'.heap[b]? = some (.cells (cel (sFork c)) ty))
    (hR : R (.returned (.tuple #[.agg (cel (sFork c)), v])) w') : bodyPost Try.prog fn R .ret a w' := by
  refine bodyPost_ret ?_ hd hR
  have hl := loadAt_var (load_row (P := Try.prog) hr 28 _ Try.underlying28 rfl (by rw [cel_size, slFork]; kernel_rfl))
  rw [Array.getD_eq_getD_getElem?] at ht hs
  simp [results, h, ht, hs, hl, asAddr]

/-- The value of nothing but zeros; the value that bytes are. -/
def oCheckpoint : VCheckpoint := ⟨0, fun _ => 0⟩

def pCheckpoint (m : Nat → Int) : VCheckpoint := ⟨rdN (fun q => m (0 + q)), fun q => m (8 + q)⟩

def zCheckpoint : Nat → Int := zl7 [8, 32]

theorem fixCheckpoint : FixS zCheckpoint 2 40 := ⟨by kernel_rfl, by kernel_rfl, by kernel_rfl, fun r hr => by
  rcases (by omega : r = 0 ∨ r = 1) with rfl | rfl
  all_goals (intro h; exact absurd h (by decide))⟩

theorem zposCheckpoint (r : Nat) (hr : r < 2) : 0 < zCheckpoint r := by
  rcases (by omega : r = 0 ∨ r = 1) with rfl | rfl
  all_goals decide

theorem bsI_Checkpoint (W : World) : (bsI 2 #[(0, .int .i64 8), (1, .int .i64 32)]).run Try.prog W = .ok (.slice (some ⟨W.heap.size, 0, none⟩) 2 2) (W.alloc (.cells (vs .i64 2 zCheckpoint) 3)) := by kernel_rfl

def svCheckpoint (a : Addr) (v : Value) : Sem Unit := storeVar 42 a v

theorem svCheckpoint_eq (a : Addr) (v : Value) : storeVar 42 a v = svCheckpoint a v := rfl

def bdCheckpoint (ps : Array (Nat × Value)) : Sem Value := Instr.build 42 ps

theorem bdCheckpoint_eq (ps : Array (Nat × Value)) : Instr.build 42 ps = bdCheckpoint ps := rfl

theorem zeroCheckpoint (W : World) : (zeroValue 42).run Try.prog W = .ok (.agg (cel (sCheckpoint oCheckpoint))) W := by kernel_rfl

theorem slCheckpoint (x : VCheckpoint) : slen (sCheckpoint x) = 33 := rfl

theorem svCheckpoint_run {w : World} {b : Nat} {o : VCheckpoint} {t : TypeId} (h : w.heap[b]? = some (.cells (cel (sCheckpoint o)) t)) (c : VCheckpoint) : (svCheckpoint ⟨b, 0, none⟩ (.agg (cel (sCheckpoint c)))).run Try.prog w = .ok () (w.setRow b (cel (sCheckpoint c))) :=
  run_storeVar_row w b t 42 _ _ h (by rw [cel_size, slCheckpoint]; kernel_rfl) (by rw [cel_size, cel_size, slCheckpoint, slCheckpoint]) (cel_one _)

theorem svCheckpoint_newv (W : World) (o c : VCheckpoint) : (svCheckpoint ⟨W.heap.size, 0, none⟩ (.agg (cel (sCheckpoint c)))).run Try.prog (W.alloc (.cells (cel (sCheckpoint o)) 42)) = .ok () (W.alloc (.cells (cel (sCheckpoint c)) 42)) :=
  run_storeVar_new W 42 _ _ (by rw [cel_size, slCheckpoint]; kernel_rfl) (by rw [cel_size, cel_size, slCheckpoint, slCheckpoint]) (cel_one _)

theorem retCheckpoint {fn : Func} {R : Ending → World → Prop} {a : Act} {w' : World} (t s : Tmp) (b : Nat) (c : VCheckpoint) (ty : TypeId) (v : Value) (h : fn.results = #[.cell t 42, .tmp s]) (hd : a.defers = []) (ht : a.tmps.getD t undef = .pointer (some ⟨b, 0, none⟩)) (hs : a.tmps.getD s undef = v) (hr : w'.heap[b]? = some (.cells (cel (sCheckpoint c)) ty))
    (hR : R (.returned (.tuple #[.agg (cel (sCheckpoint c)), v])) w') : bodyPost Try.prog fn R .ret a w' := by
  refine bodyPost_ret ?_ hd hR
  have hl := loadAt_var (load_row (P := Try.prog) hr 42 _ Try.underlying42 rfl (by rw [cel_size, slCheckpoint]; kernel_rfl))
  rw [Array.getD_eq_getD_getElem?] at ht hs
  simp [results, h, ht, hs, hl, asAddr]

/-- The value of nothing but zeros; the value that bytes are. -/
def oValidator : VValidator := ⟨fun _ => 0, fun _ => 0, 0, false, 0, 0, 0, 0⟩

def zValidator : Nat → Int := zl7 [48, 32, 8, 1, 8, 8, 8, 8]

theorem bsI_Validator (W : World) : (bsI 8 #[(0, .int .i64 48), (1, .int .i64 32), (2, .int .i64 8), (3, .int .i64 1), (4, .int .i64 8), (5, .int .i64 8), (6, .int .i64 8), (7, .int .i64 8)]).run Try.prog W = .ok (.slice (some ⟨W.heap.size, 0, none⟩) 8 8) (W.alloc (.cells (vs .i64 8 zValidator) 3)) := by kernel_rfl

def svValidator (a : Addr) (v : Value) : Sem Unit := storeVar 64 a v

theorem svValidator_eq (a : Addr) (v : Value) : storeVar 64 a v = svValidator a v := rfl

def bdValidator (ps : Array (Nat × Value)) : Sem Value := Instr.build 64 ps

theorem bdValidator_eq (ps : Array (Nat × Value)) : Instr.build 64 ps = bdValidator ps := rfl

theorem zeroValidator (W : World) : (zeroValue 64).run Try.prog W = .ok (.agg (cel (sValidator oValidator))) W := by kernel_rfl

theorem slValidator (x : VValidator) : slen (sValidator x) = 86 := rfl

theorem svValidator_newv (W : World) (o c : VValidator) : (svValidator ⟨W.heap.size, 0, none⟩ (.agg (cel (sValidator c)))).run Try.prog (W.alloc (.cells (cel (sValidator o)) 64)) = .ok () (W.alloc (.cells (cel (sValidator c)) 64)) :=
  run_storeVar_new W 64 _ _ (by rw [cel_size, slValidator]; kernel_rfl) (by rw [cel_size, cel_size, slValidator, slValidator]) (cel_one _)

/-- The value of nothing but zeros; the value that bytes are. -/
def oEth1 : VEth1 := ⟨fun _ => 0, 0, fun _ => 0⟩

def pEth1 (m : Nat → Int) : VEth1 := ⟨fun q => m (0 + q), rdN (fun q => m (32 + q)), fun q => m (40 + q)⟩

def zEth1 : Nat → Int := zl7 [32, 8, 32]

theorem fixEth1 : FixS zEth1 3 72 := ⟨by kernel_rfl, by kernel_rfl, by kernel_rfl, fun r hr => by
  rcases (by omega : r = 0 ∨ r = 1 ∨ r = 2) with rfl | rfl | rfl
  all_goals (intro h; exact absurd h (by decide))⟩

theorem zposEth1 (r : Nat) (hr : r < 3) : 0 < zEth1 r := by
  rcases (by omega : r = 0 ∨ r = 1 ∨ r = 2) with rfl | rfl | rfl
  all_goals decide

theorem bsI_Eth1 (W : World) : (bsI 3 #[(0, .int .i64 32), (1, .int .i64 8), (2, .int .i64 32)]).run Try.prog W = .ok (.slice (some ⟨W.heap.size, 0, none⟩) 3 3) (W.alloc (.cells (vs .i64 3 zEth1) 3)) := by kernel_rfl

def svEth1 (a : Addr) (v : Value) : Sem Unit := storeVar 34 a v

theorem svEth1_eq (a : Addr) (v : Value) : storeVar 34 a v = svEth1 a v := rfl

def bdEth1 (ps : Array (Nat × Value)) : Sem Value := Instr.build 34 ps

theorem bdEth1_eq (ps : Array (Nat × Value)) : Instr.build 34 ps = bdEth1 ps := rfl

theorem zeroEth1 (W : World) : (zeroValue 34).run Try.prog W = .ok (.agg (cel (sEth1 oEth1))) W := by kernel_rfl

theorem slEth1 (x : VEth1) : slen (sEth1 x) = 65 := rfl

theorem svEth1_run {w : World} {b : Nat} {o : VEth1} {t : TypeId} (h : w.heap[b]? = some (.cells (cel (sEth1 o)) t)) (c : VEth1) : (svEth1 ⟨b, 0, none⟩ (.agg (cel (sEth1 c)))).run Try.prog w = .ok () (w.setRow b (cel (sEth1 c))) :=
  run_storeVar_row w b t 34 _ _ h (by rw [cel_size, slEth1]; kernel_rfl) (by rw [cel_size, cel_size, slEth1, slEth1]) (cel_one _)

theorem svEth1_newv (W : World) (o c : VEth1) : (svEth1 ⟨W.heap.size, 0, none⟩ (.agg (cel (sEth1 c)))).run Try.prog (W.alloc (.cells (cel (sEth1 o)) 34)) = .ok () (W.alloc (.cells (cel (sEth1 c)) 34)) :=
  run_storeVar_new W 34 _ _ (by rw [cel_size, slEth1]; kernel_rfl) (by rw [cel_size, cel_size, slEth1, slEth1]) (cel_one _)

theorem retEth1 {fn : Func} {R : Ending → World → Prop} {a : Act} {w' : World} (t s : Tmp) (b : Nat) (c : VEth1) (ty : TypeId) (v : Value) (h : fn.results = #[.cell t 34, .tmp s]) (hd : a.defers = []) (ht : a.tmps.getD t undef = .pointer (some ⟨b, 0, none⟩)) (hs : a.tmps.getD s undef = v) (hr : w'.heap[b]? = some (.cells (cel (sEth1 c)) ty))
    (hR : R (.returned (.tuple #[.agg (cel (sEth1 c)), v])) w') : bodyPost Try.prog fn R .ret a w' := by
  refine bodyPost_ret ?_ hd hR
  have hl := loadAt_var (load_row (P := Try.prog) hr 34 _ Try.underlying34 rfl (by rw [cel_size, slEth1]; kernel_rfl))
  rw [Array.getD_eq_getD_getElem?] at ht hs
  simp [results, h, ht, hs, hl, asAddr]

/-- The value of nothing but zeros; the value that bytes are. -/
def oHeader : VHeader := ⟨0, 0, fun _ => 0, fun _ => 0, fun _ => 0⟩

def pHeader (m : Nat → Int) : VHeader := ⟨rdN (fun q => m (0 + q)), rdN (fun q => m (8 + q)), fun q => m (16 + q), fun q => m (48 + q), fun q => m (80 + q)⟩

def zHeader : Nat → Int := zl7 [8, 8, 32, 32, 32]

theorem fixHeader : FixS zHeader 5 112 := ⟨by kernel_rfl, by kernel_rfl, by kernel_rfl, fun r hr => by
  rcases (by omega : r = 0 ∨ r = 1 ∨ r = 2 ∨ r = 3 ∨ r = 4) with rfl | rfl | rfl | rfl | rfl
  all_goals (intro h; exact absurd h (by decide))⟩

theorem zposHeader (r : Nat) (hr : r < 5) : 0 < zHeader r := by
  rcases (by omega : r = 0 ∨ r = 1 ∨ r = 2 ∨ r = 3 ∨ r = 4) with rfl | rfl | rfl | rfl | rfl
  all_goals decide

theorem bsI_Header (W : World) : (bsI 5 #[(0, .int .i64 8), (1, .int .i64 8), (2, .int .i64 32), (3, .int .i64 32), (4, .int .i64 32)]).run Try.prog W = .ok (.slice (some ⟨W.heap.size, 0, none⟩) 5 5) (W.alloc (.cells (vs .i64 5 zHeader) 3)) := by kernel_rfl

def svHeader (a : Addr) (v : Value) : Sem Unit := storeVar 30 a v

theorem svHeader_eq (a : Addr) (v : Value) : storeVar 30 a v = svHeader a v := rfl

def bdHeader (ps : Array (Nat × Value)) : Sem Value := Instr.build 30 ps

theorem bdHeader_eq (ps : Array (Nat × Value)) : Instr.build 30 ps = bdHeader ps := rfl

theorem zeroHeader (W : World) : (zeroValue 30).run Try.prog W = .ok (.agg (cel (sHeader oHeader))) W := by kernel_rfl

theorem slHeader (x : VHeader) : slen (sHeader x) = 98 := rfl

theorem svHeader_run {w : World} {b : Nat} {o : VHeader} {t : TypeId} (h : w.heap[b]? = some (.cells (cel (sHeader o)) t)) (c : VHeader) : (svHeader ⟨b, 0, none⟩ (.agg (cel (sHeader c)))).run Try.prog w = .ok () (w.setRow b (cel (sHeader c))) :=
  run_storeVar_row w b t 30 _ _ h (by rw [cel_size, slHeader]; kernel_rfl) (by rw [cel_size, cel_size, slHeader, slHeader]) (cel_one _)

theorem svHeader_newv (W : World) (o c : VHeader) : (svHeader ⟨W.heap.size, 0, none⟩ (.agg (cel (sHeader c)))).run Try.prog (W.alloc (.cells (cel (sHeader o)) 30)) = .ok () (W.alloc (.cells (cel (sHeader c)) 30)) :=
  run_storeVar_new W 30 _ _ (by rw [cel_size, slHeader]; kernel_rfl) (by rw [cel_size, cel_size, slHeader, slHeader]) (cel_one _)

theorem retHeader {fn : Func} {R : Ending → World → Prop} {a : Act} {w' : World} (t s : Tmp) (b : Nat) (c : VHeader) (ty : TypeId) (v : Value) (h : fn.results = #[.cell t 30, .tmp s]) (hd : a.defers = []) (ht : a.tmps.getD t undef = .pointer (some ⟨b, 0, none⟩)) (hs : a.tmps.getD s undef = v) (hr : w'.heap[b]? = some (.cells (cel (sHeader c)) ty))
    (hR : R (.returned (.tuple #[.agg (cel (sHeader c)), v])) w') : bodyPost Try.prog fn R .ret a w' := by
  refine bodyPost_ret ?_ hd hR
  have hl := loadAt_var (load_row (P := Try.prog) hr 30 _ Try.underlying30 rfl (by rw [cel_size, slHeader]; kernel_rfl))
  rw [Array.getD_eq_getD_getElem?] at ht hs
  simp [results, h, ht, hs, hl, asAddr]

end Go.Proofs.Ytehpfemlcjcabaa
