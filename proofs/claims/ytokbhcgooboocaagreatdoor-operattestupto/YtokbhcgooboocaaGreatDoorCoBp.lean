/-
  What the containers of layer 7 share.
-/
import Derived.Test.YtokbhcgooboocaaGreatDoorCoAp
import Derived.Deep.Onto
namespace Go.Proofs.YtokbhcgooboocaaGreatDoor
open Go.RowKit
set_option linter.unusedVariables false
set_option linter.unusedSimpArgs false

theorem sub_range {w : World} {g o : Nat} {C : Array Value} {t : TypeId} {l : List Value} (h : w.heap[g]? = some (.cells C t)) (hl : (C.toList.drop o).take l.length = l) : w.rangeAt g o l := by
  intro j v hj
  have hlt := (List.getElem?_eq_some_iff.1 hj).1
  rw [row_cell h, ← hj]
  have e : ((C.toList.drop o).take l.length)[j]? = l[j]? := by rw [hl]
  rw [List.getElem?_take_of_lt hlt, List.getElem?_drop, Array.getElem?_toList] at e
  exact e

def lvCheckpoint (a : Addr) : Sem Value := loadVar 27 a

theorem lvCheckpoint_eq (a : Addr) : loadVar 27 a = lvCheckpoint a := rfl

theorem lvCheckpoint_mid {w : World} {g : Nat} {C : Array Value} {t : TypeId} {x : VCheckpoint} (h : w.heap[g]? = some (.cells C t)) (o : Nat) (hl : (C.toList.drop o).take (celL (sCheckpoint x)).length = celL (sCheckpoint x)) (hs : slen (sCheckpoint x) = 33) : (lvCheckpoint ⟨g, o, none⟩).run Tryz.prog w = .ok (.agg (cel (sCheckpoint x))) w :=
  loadAt_var (run_loadAt_mid w g o 27 _ _ (sub_range h hl) Tryz.underlying27 rfl (by rw [celL_len, hs]; kernel_rfl))

def lvData (a : Addr) : Sem Value := loadVar 29 a

theorem lvData_eq (a : Addr) : loadVar 29 a = lvData a := rfl

theorem lvData_mid {w : World} {g : Nat} {C : Array Value} {t : TypeId} {x : VData} (h : w.heap[g]? = some (.cells C t)) (o : Nat) (hl : (C.toList.drop o).take (celL (sData x)).length = celL (sData x)) (hs : slen (sData x) = 100) : (lvData ⟨g, o, none⟩).run Tryz.prog w = .ok (.agg (cel (sData x))) w :=
  loadAt_var (run_loadAt_mid w g o 29 _ _ (sub_range h hl) Tryz.underlying29 rfl (by rw [celL_len, hs]; kernel_rfl))

end Go.Proofs.YtokbhcgooboocaaGreatDoor
namespace Go.Proofs.YtokbhcgooboocaaGreatDoor
open Go.RowKit
set_option linter.unusedVariables false
set_option linter.unusedSimpArgs false

attribute [local go_sem ↓] sv24_eq lv24_eq ix22_eq slr_eq bd27_eq bs22_eq sv8_eq mkI_eq ixI_eq ixP_eq bsP_eq lvCheckpoint_eq

end Go.Proofs.YtokbhcgooboocaaGreatDoor
namespace Go.Proofs.YtokbhcgooboocaaGreatDoor
open Go.RowKit
set_option linter.unusedVariables false
set_option linter.unusedSimpArgs false

/-- Roots one behind the other. -/
def fl7 (rs : List (Nat → Int)) (q : Nat) : Int := (rs.getD (q / 32) (fun _ => 0)) (q % 32)

theorem fl7_bd {rs : List (Nat → Int)} (h : ∀ c ∈ rs, ∀ j, j < 32 → 0 ≤ c j ∧ c j < 256) (n : Nat) : ByB (fl7 rs) n := fun q _ => by
  unfold fl7
  rw [List.getD_eq_getElem?_getD]
  cases e : rs[q / 32]? with
  | none => exact ⟨Int.le_refl _, by show (0 : Int) < 256; decide⟩
  | some c => exact h c (List.mem_of_getElem? e) _ (Nat.mod_lt _ (by decide))

theorem bs22_2 (W : World) (a b : Nat → Int) : (bs22 2 #[(0, .agg (vs .u8 32 a)), (1, .agg (vs .u8 32 b))]).run Tryz.prog W = .ok (.slice (some ⟨W.heap.size, 0, none⟩) 2 2) (W.alloc (.cells (vs .u8 64 (fl7 [a, b])) 25)) := by kernel_rfl

theorem bs22_3 (W : World) (a b c : Nat → Int) : (bs22 3 #[(0, .agg (vs .u8 32 a)), (1, .agg (vs .u8 32 b)), (2, .agg (vs .u8 32 c))]).run Tryz.prog W = .ok (.slice (some ⟨W.heap.size, 0, none⟩) 3 3) (W.alloc (.cells (vs .u8 96 (fl7 [a, b, c])) 25)) := by kernel_rfl

theorem bs22_5 (W : World) (a b c d e : Nat → Int) : (bs22 5 #[(0, .agg (vs .u8 32 a)), (1, .agg (vs .u8 32 b)), (2, .agg (vs .u8 32 c)), (3, .agg (vs .u8 32 d)), (4, .agg (vs .u8 32 e))]).run Tryz.prog W = .ok (.slice (some ⟨W.heap.size, 0, none⟩) 5 5) (W.alloc (.cells (vs .u8 160 (fl7 [a, b, c, d, e])) 25)) := by kernel_rfl

/-- The root of a value. -/
def hCheckpoint (x : VCheckpoint) : Nat → Int := treeV (fl7 [bR (nmB x.f0) 8, bR x.f1 32]) 2 (2 : Nat)

theorem hCheckpoint_bd {x : VCheckpoint} (hx : OkCheckpoint x) (j : Nat) (hj : j < 32) : 0 ≤ hCheckpoint x j ∧ hCheckpoint x j < 256 := by
  refine treeV_bd (fl7_bd (fun c hc => ?_) _) _ j hj
  simp only [List.mem_cons, List.not_mem_nil, or_false] at hc
  rcases hc with rfl | rfl
  · exact fun j hj => treeV_bd (pk_bd (fun j _ => nmB_bd _ j) _) _ j hj
  · exact fun j hj => treeV_bd (pk_bd hx.2 _) _ j hj

/-- The root of a value. -/
def hData (x : VData) : Nat → Int := treeV (fl7 [bR (nmB x.f0) 8, bR (nmB x.f1) 8, bR x.f2 32, hCheckpoint x.f3, hCheckpoint x.f4]) 5 (5 : Nat)

theorem hData_bd {x : VData} (hx : OkData x) (j : Nat) (hj : j < 32) : 0 ≤ hData x j ∧ hData x j < 256 := by
  refine treeV_bd (fl7_bd (fun c hc => ?_) _) _ j hj
  simp only [List.mem_cons, List.not_mem_nil, or_false] at hc
  rcases hc with rfl | rfl | rfl | rfl | rfl
  · exact fun j hj => treeV_bd (pk_bd (fun j _ => nmB_bd _ j) _) _ j hj
  · exact fun j hj => treeV_bd (pk_bd (fun j _ => nmB_bd _ j) _) _ j hj
  · exact fun j hj => treeV_bd (pk_bd hx.2.2.1 _) _ j hj
  · exact fun j hj => hCheckpoint_bd hx.2.2.2.1 j hj
  · exact fun j hj => hCheckpoint_bd hx.2.2.2.2 j hj

end Go.Proofs.YtokbhcgooboocaaGreatDoor
namespace Go.Proofs.YtokbhcgooboocaaGreatDoor
open Go.RowKit
set_option linter.unusedVariables false
set_option linter.unusedSimpArgs false

/-- The number that eight bytes are. -/
def rdN (f : Nat → Int) : Int := Z.num8 (f 0) (f 1) (f 2) (f 3) (f 4) (f 5) (f 6) (f 7)

theorem rdN_bd {f : Nat → Int} (hf : ∀ j, j < 8 → 0 ≤ f j ∧ f j < 256) : 0 ≤ rdN f ∧ rdN f < 18446744073709551616 := by
  have h0 := hf 0 (by omega)
  have h1 := hf 1 (by omega)
  have h2 := hf 2 (by omega)
  have h3 := hf 3 (by omega)
  have h4 := hf 4 (by omega)
  have h5 := hf 5 (by omega)
  have h6 := hf 6 (by omega)
  have h7 := hf 7 (by omega)
  unfold rdN Z.num8
  omega

theorem bys_at {w : World} {a : Option Addr} {n cap : Nat} {f : Nat → Int} (h : Bys w a n cap f) (hn : 0 < n) : ∃ b off, a = some ⟨b, off, none⟩ ∧ b < w.heap.size ∧ n ≤ cap ∧ ∀ j, j < n → w.cell? ⟨b, off + j, none⟩ = some (.int .u8 (f j)) := by
  rcases h with ⟨_, h, _⟩ | ⟨_, _, h⟩ | ⟨b, off, h1, h2, h3, h4, h5⟩
  · omega
  · omega
  · exact ⟨b, off, h1, h4, h2, h5⟩

end Go.Proofs.YtokbhcgooboocaaGreatDoor
namespace Go.Proofs.YtokbhcgooboocaaGreatDoor
open Go.RowKit
set_option linter.unusedVariables false
set_option linter.unusedSimpArgs false

attribute [local go_sem ↓] sv24_eq lv24_eq ix22_eq slr_eq bd27_eq bs22_eq sv8_eq mkI_eq ixI_eq ixP_eq bsP_eq

set_option maxHeartbeats 1000000 in
theorem rnum7 (a : Option Addr) (cap : Nat) (f : Nat → Int) (w : World) (hb : Bys w a 8 cap f) (hf : ∀ j, j < 8 → 0 ≤ f j ∧ f j < 256) :
    Calls Tryz.prog 81 #[.slice a 8 cap] w fun e w' => e = .returned (.int .u64 (rdN f)) ∧ w' = w := by
  obtain ⟨b, off, rfl, _, _, hc⟩ := bys_at hb (by omega)
  have h0 := hf 0 (by omega)
  have h1 := hf 1 (by omega)
  have h2 := hf 2 (by omega)
  have h3 := hf 3 (by omega)
  have h4 := hf 4 (by omega)
  have h5 := hf 5 (by omega)
  have h6 := hf 6 (by omega)
  have h7 := hf 7 (by omega)
  have hr := Z.read8 b off cap (f 0) (f 1) (f 2) (f 3) (f 4) (f 5) (f 6) (f 7) w (hc 0 (by omega)) h0.1 (by omega) (hc 1 (by omega)) h1.1 (by omega) (hc 2 (by omega)) h2.1 (by omega) (hc 3 (by omega)) h3.1 (by omega) (hc 4 (by omega)) h4.1 (by omega) (hc 5 (by omega)) h5.1 (by omega) (hc 6 (by omega)) h6.1 (by omega) (hc 7 (by omega)) h7.1 (by omega)
  have e : Z.num8 (f 0) (f 1) (f 2) (f 3) (f 4) (f 5) (f 6) (f 7) = rdN f := rfl
  rw [e] at hr
  obtain ⟨D, eD⟩ : ∃ D, rdN f = D := ⟨_, rfl⟩
  rw [eD] at hr ⊢
  have HR := hid hr
  clear hr h0 h1 h2 h3 h4 h5 h6 h7 hc hf hb e eD
  go_enter Tryz.func81, Tryz.ntmps81
  go_wp2_with (go_at_call 92; refine HR.out.mono ?_; rintro e w' ⟨rfl, hw⟩; obtain rfl := hw.symm)
  go_ret
  exact ⟨rfl, rfl⟩

/-- Sizes of which none is open, and their sum. -/
structure FixS (zs : Nat → Int) (n N : Nat) : Prop where
  sz : Z.szB zs n = true
  zn : Z.zn zs n = 0
  hd : Z.hdL zs n = N
  nz : ∀ r, r < n → ¬ zs r = 0

theorem cutE_fix {zs : Nat → Int} {n N : Nat} (h : FixS zs n N) (m : Nat → Int) (len : Nat) : Z.cutE zs m n len = if len = N then 0 else 4 := by
  unfold Z.cutE
  rw [h.sz, h.zn, h.hd, if_neg (by simp)]
  by_cases h1 : len < N
  · rw [if_pos h1, if_neg (by omega)]
  · rw [if_neg h1]
    by_cases h2 : N < len
    · rw [if_pos ⟨rfl, h2⟩, if_neg (by omega)]
    · rw [if_neg (fun x => h2 x.2), if_neg (fun x => Nat.lt_irrefl 0 x.1), if_neg (by rw [Z.ordB_true (fun i hi => absurd hi (by omega))]; simp), if_pos (by omega)]

/-- The parts of a cut: a row of slices, and where their bytes lie. -/
def Cuts (zs m : Nat → Int) (n gp o : Nat) (w : World) : Prop :=
  ∀ r, r < n → ∃ b off c, w.cell? ⟨gp, o + r, none⟩ = some (.slice (some ⟨b, off, none⟩) (zs r).toNat c) ∧ Bys w (some ⟨b, off, none⟩) (zs r).toNat c (fun q => m (Z.hdL zs r + q))

theorem cut7_ok {zs : Nat → Int} {n N : Nat} (h : FixS zs n N) (m : Nat → Int) (ao : Option Addr) (cap g : Nat) (w : World) (hb : Bys w ao N cap m) (hm : ∀ j, 0 ≤ m j ∧ m j < 256) (hlen : N ≤ 140737488351232) (hlc : N ≤ cap) (hcap : cap ≤ 9223372036854775807) (hg : w.heap[g]? = some (.cells (vs .i64 n zs) 3)) (hn : n ≤ 64) (hz : ∀ r, r < n → 0 < zs r) (h0 : 0 < n) :
    Calls Tryz.prog 37 #[.slice ao N cap, .slice (some ⟨g, 0, none⟩) n n] w fun e w' => ∃ gp o, e = .returned (.tuple #[.slice (some ⟨gp, o, none⟩) n n, .int .i64 0]) ∧ gp < w'.heap.size ∧ Cuts zs m n gp o w' ∧ Below w.heap.size w w' := by
  refine (Z.cut_any zs m ao N cap (some ⟨g, 0, none⟩) n n w hb hm hlen hlc hcap (.inr ⟨g, 0, rfl, (Array.getElem?_eq_some_iff.1 hg).1, fun j hj => by rw [Nat.zero_add]; exact row_int hg j hj⟩) (by omega)).mono ?_
  rintro e w' ⟨a', N', A', rfl, h1, h2, h3⟩
  rw [cutE_fix h, if_pos rfl] at h1 ⊢
  rw [if_pos rfl] at h1
  subst h1
  rcases h2 with h2 | ⟨b, off, rfl, h4, h5⟩
  · omega
  refine ⟨b, off, rfl, h4, fun r hr => ?_, h3⟩
  obtain ⟨h6, h7⟩ := h5 r hr
  have hr0 := h.nz r hr
  have hzr := hz r hr
  have e1 : Z.cLn zs m N' N r = (zs r).toNat := by
    unfold Z.cLn Z.cE Z.cB
    rw [if_neg hr0, if_neg hr0]
    omega
  have e2 : Z.cFn zs m N' r = fun q => m (Z.hdL zs r + q) := by
    funext q
    unfold Z.cFn Z.cB
    rw [if_neg hr0]
  rw [e1] at h6 h7
  rw [e2] at h7
  obtain ⟨b1, o1, e3, _, _, _⟩ := bys_at (show Bys w' (A' r) (zs r).toNat (zs r).toNat (fun q => m (Z.hdL zs r + q)) from h7) (by omega)
  rw [e3] at h6 h7
  exact ⟨b1, o1, _, h6, h7⟩

theorem Cuts.below {zs m : Nat → Int} {n gp o : Nat} {w w' : World} (h : Cuts zs m n gp o w) (hg : gp < w.heap.size) (hb : Below w.heap.size w w') : Cuts zs m n gp o w' := fun r hr => by
  obtain ⟨b, off, c, h1, h2⟩ := h r hr
  exact ⟨b, off, c, (below_cell hb hg).trans h1, h2.below hb⟩

/-- Bytes copied into a field. -/
theorem copy_seg (W : World) (g o n : Nat) (l l' : List Seg) (z : Nat → Int) (x : Addr) (cap dcap : Nat) (t : TypeId) (hg : W.heap[g]? = some (.cells (cel l) t)) (hp : o + n ≤ slen l) (hx : ∀ j, j < n → W.cell? (x.add j) = some (.int .u8 (z j)))
    (he : ((cel l).toList.take o ++ bl z n ++ (cel l).toList.drop (o + n)).toArray = cel l') :
    ∀ ty, (Builtin.copy_ #[34, 34] ty #[.slice (some ⟨g, o, none⟩) n dcap, .slice (some x) n cap]).run Tryz.prog W = .ok (.int .i64 n) (W.setRow g (cel l')) := by
  intro ty
  have hrun := run_copy_row (P := Tryz.prog) W 34 34 ty 5 g o n dcap x n cap (cel l) t (bl z n) Tryz.underlying34 (by kernel_rfl) hg (by rw [bl_len]; exact (Nat.min_self n).symm)
    (fun j v hj => by
      obtain ⟨h1, rfl⟩ := bl_get z n j v hj
      exact hx j h1) (by rw [bl_len, cel_size]; exact hp) (bl_one z n)
  rw [hrun, bl_len, he]
  rfl

def bsI (n : Nat) (ps : Array (Nat × Value)) : Sem Value := Instr.buildSlice 61 n ps

theorem bsI_eq (n : Nat) (ps : Array (Nat × Value)) : Instr.buildSlice 61 n ps = bsI n ps := rfl

end Go.Proofs.YtokbhcgooboocaaGreatDoor
namespace Go.Proofs.YtokbhcgooboocaaGreatDoor
open Go.RowKit
set_option linter.unusedVariables false
set_option linter.unusedSimpArgs false

/-- Sizes, one behind the other. -/
def zl7 (l : List Int) (i : Nat) : Int := l.getD i 0

theorem take_all (l : List Seg) : ((cel l).toList.drop 0).take (celL l).length = celL l := by simp [cel]

/-- The value of nothing but zeros; the value that bytes are. -/
def oCheckpoint : VCheckpoint := ⟨0, fun _ => 0⟩

def pCheckpoint (m : Nat → Int) : VCheckpoint := ⟨rdN (fun q => m (0 + q)), fun q => m (8 + q)⟩

def zCheckpoint : Nat → Int := zl7 [8, 32]

theorem fixCheckpoint : FixS zCheckpoint 2 40 := ⟨by kernel_rfl, by kernel_rfl, by kernel_rfl, fun r hr => by
  rcases (by omega : r = 0 ∨ r = 1) with rfl | rfl
  all_goals (intro h; exact absurd h (by decide))⟩

theorem zposCheckpoint (r : Nat) (hr : r < 2) : 0 < zCheckpoint r := by
  rcases (by omega : r = 0 ∨ r = 1) with rfl | rfl
  all_goals decide

theorem bsI_Checkpoint (W : World) : (bsI 2 #[(0, .int .i64 8), (1, .int .i64 32)]).run Tryz.prog W = .ok (.slice (some ⟨W.heap.size, 0, none⟩) 2 2) (W.alloc (.cells (vs .i64 2 zCheckpoint) 3)) := by kernel_rfl

def svCheckpoint (a : Addr) (v : Value) : Sem Unit := storeVar 27 a v

theorem svCheckpoint_eq (a : Addr) (v : Value) : storeVar 27 a v = svCheckpoint a v := rfl

def bdCheckpoint (ps : Array (Nat × Value)) : Sem Value := Instr.build 27 ps

theorem bdCheckpoint_eq (ps : Array (Nat × Value)) : Instr.build 27 ps = bdCheckpoint ps := rfl

theorem zeroCheckpoint (W : World) : (zeroValue 27).run Tryz.prog W = .ok (.agg (cel (sCheckpoint oCheckpoint))) W := by kernel_rfl

theorem slCheckpoint (x : VCheckpoint) : slen (sCheckpoint x) = 33 := rfl

theorem svCheckpoint_run {w : World} {b : Nat} {o : VCheckpoint} {t : TypeId} (h : w.heap[b]? = some (.cells (cel (sCheckpoint o)) t)) (c : VCheckpoint) : (svCheckpoint ⟨b, 0, none⟩ (.agg (cel (sCheckpoint c)))).run Tryz.prog w = .ok () (w.setRow b (cel (sCheckpoint c))) :=
  run_storeVar_row w b t 27 _ _ h (by rw [cel_size, slCheckpoint]; kernel_rfl) (by rw [cel_size, cel_size, slCheckpoint, slCheckpoint]) (cel_one _)

theorem svCheckpoint_newv (W : World) (o c : VCheckpoint) : (svCheckpoint ⟨W.heap.size, 0, none⟩ (.agg (cel (sCheckpoint c)))).run Tryz.prog (W.alloc (.cells (cel (sCheckpoint o)) 27)) = .ok () (W.alloc (.cells (cel (sCheckpoint c)) 27)) :=
  run_storeVar_new W 27 _ _ (by rw [cel_size, slCheckpoint]; kernel_rfl) (by rw [cel_size, cel_size, slCheckpoint, slCheckpoint]) (cel_one _)

theorem retCheckpoint {fn : Func} {R : Ending → World → Prop} {a : Act} {w' : World} (t s : Tmp) (b : Nat) (c : VCheckpoint) (ty : TypeId) (v : Value) (h : fn.results = #[.cell t 27, .tmp s]) (hd : a.defers = []) (ht : a.tmps.getD t undef = .pointer (some ⟨b, 0, none⟩)) (hs : a.tmps.getD s undef = v) (hr : w'.heap[b]? = some (.cells (cel (sCheckpoint c)) ty))
    (hR : R (.returned (.tuple #[.agg (cel (sCheckpoint c)), v])) w') : bodyPost Tryz.prog fn R .ret a w' := by
  refine bodyPost_ret ?_ hd hR
  have hl := loadAt_var (load_row (P := Tryz.prog) hr 27 _ Tryz.underlying27 rfl (by rw [cel_size, slCheckpoint]; kernel_rfl))
  rw [Array.getD_eq_getD_getElem?] at ht hs
  simp [results, h, ht, hs, hl, asAddr]

/-- The value of nothing but zeros; the value that bytes are. -/
def oData : VData := ⟨0, 0, fun _ => 0, oCheckpoint, oCheckpoint⟩

def pData (m : Nat → Int) : VData := ⟨rdN (fun q => m (0 + q)), rdN (fun q => m (8 + q)), fun q => m (16 + q), pCheckpoint (fun q => m (48 + q)), pCheckpoint (fun q => m (88 + q))⟩

def zData : Nat → Int := zl7 [8, 8, 32, 40, 40]

theorem fixData : FixS zData 5 128 := ⟨by kernel_rfl, by kernel_rfl, by kernel_rfl, fun r hr => by
  rcases (by omega : r = 0 ∨ r = 1 ∨ r = 2 ∨ r = 3 ∨ r = 4) with rfl | rfl | rfl | rfl | rfl
  all_goals (intro h; exact absurd h (by decide))⟩

theorem zposData (r : Nat) (hr : r < 5) : 0 < zData r := by
  rcases (by omega : r = 0 ∨ r = 1 ∨ r = 2 ∨ r = 3 ∨ r = 4) with rfl | rfl | rfl | rfl | rfl
  all_goals decide

theorem bsI_Data (W : World) : (bsI 5 #[(0, .int .i64 8), (1, .int .i64 8), (2, .int .i64 32), (3, .int .i64 40), (4, .int .i64 40)]).run Tryz.prog W = .ok (.slice (some ⟨W.heap.size, 0, none⟩) 5 5) (W.alloc (.cells (vs .i64 5 zData) 3)) := by kernel_rfl

def svData (a : Addr) (v : Value) : Sem Unit := storeVar 29 a v

theorem svData_eq (a : Addr) (v : Value) : storeVar 29 a v = svData a v := rfl

def bdData (ps : Array (Nat × Value)) : Sem Value := Instr.build 29 ps

theorem bdData_eq (ps : Array (Nat × Value)) : Instr.build 29 ps = bdData ps := rfl

theorem zeroData (W : World) : (zeroValue 29).run Tryz.prog W = .ok (.agg (cel (sData oData))) W := by kernel_rfl

theorem slData (x : VData) : slen (sData x) = 100 := rfl

theorem svData_run {w : World} {b : Nat} {o : VData} {t : TypeId} (h : w.heap[b]? = some (.cells (cel (sData o)) t)) (c : VData) : (svData ⟨b, 0, none⟩ (.agg (cel (sData c)))).run Tryz.prog w = .ok () (w.setRow b (cel (sData c))) :=
  run_storeVar_row w b t 29 _ _ h (by rw [cel_size, slData]; kernel_rfl) (by rw [cel_size, cel_size, slData, slData]) (cel_one _)

theorem svData_newv (W : World) (o c : VData) : (svData ⟨W.heap.size, 0, none⟩ (.agg (cel (sData c)))).run Tryz.prog (W.alloc (.cells (cel (sData o)) 29)) = .ok () (W.alloc (.cells (cel (sData c)) 29)) :=
  run_storeVar_new W 29 _ _ (by rw [cel_size, slData]; kernel_rfl) (by rw [cel_size, cel_size, slData, slData]) (cel_one _)

theorem retData {fn : Func} {R : Ending → World → Prop} {a : Act} {w' : World} (t s : Tmp) (b : Nat) (c : VData) (ty : TypeId) (v : Value) (h : fn.results = #[.cell t 29, .tmp s]) (hd : a.defers = []) (ht : a.tmps.getD t undef = .pointer (some ⟨b, 0, none⟩)) (hs : a.tmps.getD s undef = v) (hr : w'.heap[b]? = some (.cells (cel (sData c)) ty))
    (hR : R (.returned (.tuple #[.agg (cel (sData c)), v])) w') : bodyPost Tryz.prog fn R .ret a w' := by
  refine bodyPost_ret ?_ hd hR
  have hl := loadAt_var (load_row (P := Tryz.prog) hr 29 _ Tryz.underlying29 rfl (by rw [cel_size, slData]; kernel_rfl))
  rw [Array.getD_eq_getD_getElem?] at ht hs
  simp [results, h, ht, hs, hl, asAddr]

end Go.Proofs.YtokbhcgooboocaaGreatDoor
