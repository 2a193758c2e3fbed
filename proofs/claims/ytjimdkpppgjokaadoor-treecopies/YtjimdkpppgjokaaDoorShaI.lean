/-
  What a digest's Sum and Copy answer; what is left alone by a nil digest, and by writing nothing.
-/
import Derived.Test.YtjimdkpppgjokaaDoorShaH
import Derived.Test.YtjimdkpppgjokaaDoorShaE
namespace Go.Proofs.YtjimdkpppgjokaaDoor
open Go.RowKit
set_option linter.unusedVariables false

/-- The sum of the first L bytes of m. -/
def shaV (K H m : Nat → Int) (L : Nat) : Nat → Int := rbt (hsh K H (padM m L) (padL L / 64))
theorem shaV_bd (K H m : Nat → Int) (L j : Nat) : 0 ≤ shaV K H m L j ∧ shaV K H m L j < 256 := rbt_bd _ _
theorem padM_congr {m m' : Nat → Int} {L : Nat} (h : ∀ i, i < L → m i = m' i) (i : Nat) : padM m L i = padM m' L i := by
  unfold padM
  by_cases hi : i < L
  · rw [if_pos hi, if_pos hi, h i hi]
  · rw [if_neg hi, if_neg hi]
theorem shaV_congr {K H m m' : Nat → Int} {L : Nat} (h : ∀ i, i < L → m i = m' i) (j : Nat) (hj : j < 32) : shaV K H m L j = shaV K H m' L j := by
  unfold shaV rbt
  rw [hsh_congr (padL L / 64) (fun i _ => padM_congr h i) (j / 4) (by omega)]
theorem dg_one (s f : Nat → Int) (n : Int) : (dg s f n).all (·.oneCell') = true := by
  unfold dg
  rw [Array.all_append, Array.all_append, vs_one, vs_one]
  simp
  rfl
theorem store_at_new {P : Program} (W : World) (b : Nat) (t : TypeId) (c c' : Array Value) (hb : b = W.heap.size) (hi : (P.info? t).map (·.size) = some c'.size) (ho : c.size = c'.size) (h1 : c'.all (·.oneCell') = true) :
    (Instr.storeAt t (.pointer (some ⟨b, 0, none⟩)) (.agg c')).run P (W.alloc (.cells c t)) = .ok () (W.alloc (.cells c' t)) := by
  subst hb
  exact run_storeAt_new W t c c' hi ho h1
theorem dig_sum {K H m : Nat → Int} {L : Nat} {s f : Nat → Int} (h : Dig K H (padM m L) (padL L) s f) : vs .u8 32 (rbt s) = vs .u8 32 (shaV K H m L) :=
  vs_congr fun j hj => by
    unfold shaV rbt
    rw [h.words (j / 4) (by omega)]

def lv47 (a : Addr) : Sem Value := loadVar 83 a
def sv47 (a : Addr) (v : Value) : Sem Unit := storeVar 83 a v
theorem lv47_eq (a : Addr) : loadVar 83 a = lv47 a := rfl
theorem sv47_eq (a : Addr) (v : Value) : storeVar 83 a v = sv47 a v := rfl
theorem lv47_run {w : World} {g : Nat} {s f : Nat → Int} {n : Int} {t : TypeId} (h : w.heap[g]? = some (.cells (dg s f n) t)) : (lv47 ⟨g, 0, none⟩).run Tryd.prog w = .ok (.agg (dg s f n)) w :=
  loadAt_var (load_row h 83 _ Tryd.underlying83 rfl (by rw [dg_size]; kernel_rfl))
theorem sv47_run (W : World) (s f s' f' : Nat → Int) (n n' : Int) : (sv47 ⟨W.heap.size, 0, none⟩ (.agg (dg s f n))).run Tryd.prog (W.alloc (.cells (dg s' f' n') 83)) = .ok () (W.alloc (.cells (dg s f n) 83)) :=
  run_storeVar_new W 83 _ _ (by rw [dg_size]; kernel_rfl) (by rw [dg_size, dg_size]) (dg_one _ _ _)

def sv24 (a : Addr) (v : Value) : Sem Unit := storeVar 33 a v
theorem sv24_eq (a : Addr) (v : Value) : storeVar 33 a v = sv24 a v := rfl
def lv24 (a : Addr) : Sem Value := loadVar 33 a
theorem lv24_eq (a : Addr) : loadVar 33 a = lv24 a := rfl
theorem sv24_run {w : World} {b : Nat} {o : Nat → Int} {t : TypeId} (h : w.heap[b]? = some (.cells (vs .u8 32 o) t)) (c : Nat → Int) : (sv24 ⟨b, 0, none⟩ (.agg (vs .u8 32 c))).run Tryd.prog w = .ok () (w.setRow b (vs .u8 32 c)) :=
  run_storeVar_row w b t 33 _ _ h (by rw [vs_size]; kernel_rfl) (by rw [vs_size, vs_size]) (vs_one _ _ _)
theorem lv24_run {w : World} {b : Nat} {c : Nat → Int} {t : TypeId} (h : w.heap[b]? = some (.cells (vs .u8 32 c) t)) : (lv24 ⟨b, 0, none⟩).run Tryd.prog w = .ok (.agg (vs .u8 32 c)) w :=
  loadAt_var (load_row h 33 _ Tryd.underlying33 rfl (by rw [vs_size]; kernel_rfl))
theorem ret24 {fn : Func} {R : Ending → World → Prop} {a : Act} {w' : World} (t : Tmp) (b : Nat) (c : Nat → Int) (ty : TypeId) (h : fn.results = #[.cell t 33]) (hd : a.defers = []) (ht : a.tmps.getD t undef = .pointer (some ⟨b, 0, none⟩)) (hr : w'.heap[b]? = some (.cells (vs .u8 32 c) ty))
    (hR : R (.returned (.agg (vs .u8 32 c))) w') : bodyPost Tryd.prog fn R .ret a w' :=
  bodyPost_ret (results_cell h a.tmps _ b _ ht (load_row hr 33 _ Tryd.underlying33 rfl (by rw [vs_size]; kernel_rfl))) hd hR

attribute [local go_sem ↓] lv47_eq sv47_eq lv40_eq sv24_eq lv24_eq

set_option maxRecDepth 20000 in
set_option maxHeartbeats 400000 in
theorem dsum_any (K H m : Nat → Int) (g : Nat) (s f : Nat → Int) (L : Nat) (w : World) (hd : Dig K H m L s f) (hg : w.heap[g]? = some (.cells (dg s f L) 83)) (hK : Tab w 1 64 K) (hL : L < 1152921504606846976) :
    Calls Tryd.prog 41 #[.pointer (some ⟨g, 0, none⟩)] w fun e w' => e = .returned (.agg (vs .u8 32 (shaV K H m L))) ∧ Below w.heap.size w w' := by
  have hgl : g < w.heap.size := (Array.getElem?_eq_some_iff.1 hg).1
  have h2 : 1 < w.heap.size := hK.1
  have HD := hid hd
  have HG := hid hg
  have HK := hid hK
  have zv := zero_dg
  have HDL := hid hL
  clear hd hg hK
  go_enter Tryd.func41, Tryd.ntmps41
  go_upto_region 3 with fail
  change Code.wp _ _ _ _ (w.alloc (.cells (vs .u8 32 fun _ => 0) 33))
  obtain ⟨W0, hW0⟩ : ∃ W, w.alloc (.cells (vs .u8 32 fun _ => 0) 33) = W := ⟨_, rfl⟩
  rw [hW0]
  have s0 : W0.heap.size = w.heap.size + 1 := by rw [← hW0]; simp
  have hB0 : Below w.heap.size w W0 := by rw [← hW0]; go_grown
  have r0 : W0.heap[w.heap.size]? = some (.cells (vs .u8 32 fun _ => 0) 33) := by rw [← hW0]; exact heap_new rfl
  have l47 := lv47_run ((hB0.block g hgl).trans HG.out)
  have v47 := sv47_run W0 s f (fun _ => 0) (fun _ => 0) L 0
  have HS0 := hid s0
  have HR0 := hid r0
  have HB0 := hid hB0
  clear hW0 s0 r0 hB0
  go_upto_region 4 with fail
  obtain ⟨W1, hW1⟩ : ∃ W, W0.alloc (.cells (dg s f L) 83) = W := ⟨_, rfl⟩
  rw [hW1]
  have g1 : W1.heap[W0.heap.size]? = some (.cells (dg s f L) 83) := by rw [← hW1]; exact heap_new rfl
  have hB1 : Below W0.heap.size W0 W1 := by rw [← hW1]; exact (Below.refl _ _).alloc (Nat.le_refl _) _
  have k1 : Tab W1 1 64 K := (HK.out.below HB0.out).below hB1
  obtain ⟨q, hq⟩ : ∃ q, W0.heap.size = q := ⟨_, rfl⟩
  have sq : q = w.heap.size + 1 := by rw [← hq]; exact HS0.out
  have r1 : W1.heap[w.heap.size]? = some (.cells (vs .u8 32 fun _ => 0) 33) := (hB1.block _ (by rw [HS0.out]; omega)).trans HR0.out
  have z1 : w.heap.size + 1 < W1.heap.size := by rw [← hW1]; simp [hq]; omega
  have HBW : Hid (Below w.heap.size w W1) := HB0.out.trans (hB1.mono (by rw [HS0.out]; omega))
  have hp := pad_any K H m q s f L W1 HD.out (by rw [← hq]; exact g1) k1 (by omega) hL
  rw [hq]
  have HP := hid hp
  have HR1 := hid r1
  have SQ := hid sq
  clear sq hW1 g1 hB1 k1 hq r1 hp l47 v47
  go_upto_region 5 with (go_at_call 47; refine HP.out.mono ?_; rintro e w2 ⟨rfl, hkp, s', f', hd2, hg2⟩)
  have l40 := lv40_run hg2
  have z2 : w.heap.size + 1 < w2.heap.size := Nat.lt_of_lt_of_le z1 hkp.size
  have r2 : w2.heap[w.heap.size]? = some (.cells (vs .u8 32 fun _ => 0) 33) := (hkp.block _ (by omega) (by have := SQ.out; omega)).trans HR1.out
  have HR2 := hid r2
  have HKP := hid hkp
  have HD2 := hid hd2
  clear hg2 r2 hkp hd2
  go_wp2_with (go_at_call 48; refine (rootOf_any s' _ HD2.out.bd).mono ?_; rintro e w3 ⟨rfl, hb3⟩; have v24 := sv24_run ((hb3.block _ (by omega)).trans HR2.out) (rbt s'))
  have r3 := (hb3.block w.heap.size (by omega)).trans HR2.out
  refine ret24 2 w.heap.size (rbt s') 33 rfl rfl rfl (setRow_at r3) ⟨by rw [dig_sum HD2.out], ?_⟩
  have hq := SQ.out
  exact below_row ((HBW.out.trans (HKP.out.below (by omega) (by omega))).trans (hb3.mono (by omega))) (Nat.le_refl _) _

theorem dig_new (K H m : Nat → Int) (hH : ∀ i, i < 8 → 0 ≤ H i ∧ H i < 4294967296) : Dig K H m 0 H (fun _ => 0) :=
  ⟨fun _ _ => rfl, fun j hj => absurd hj (by omega), fun _ _ => by omega, hH⟩

set_option maxRecDepth 20000 in
set_option maxHeartbeats 400000 in
theorem dsum_nil (K H m : Nat → Int) (w : World) (hH : Tab w 0 8 H) (hK : Tab w 1 64 K) (hB : ∀ i, i < 8 → 0 ≤ H i ∧ H i < 4294967296) :
    Calls Tryd.prog 41 #[.pointer none] w fun e w' => e = .returned (.agg (vs .u8 32 (shaV K H m 0))) ∧ Below w.heap.size w w' := by
  have HHH := hid hH
  have HK := hid hK
  have HBD := hid hB
  clear hH hK hB
  go_enter Tryd.func41, Tryd.ntmps41
  go_upto_region 2 with fail
  change Code.wp _ _ _ _ (w.alloc (.cells (vs .u8 32 fun _ => 0) 33))
  obtain ⟨W0, hW0⟩ : ∃ W, w.alloc (.cells (vs .u8 32 fun _ => 0) 33) = W := ⟨_, rfl⟩
  rw [hW0]
  have s0 : W0.heap.size = w.heap.size + 1 := by rw [← hW0]; simp
  have hB0 : Below w.heap.size w W0 := by rw [← hW0]; go_grown
  have r0 : W0.heap[w.heap.size]? = some (.cells (vs .u8 32 fun _ => 0) 33) := by rw [← hW0]; exact heap_new rfl
  obtain ⟨W1, hW1⟩ : ∃ W, W0.alloc (.cells (dg H (fun _ => 0) 0) 83) = W := ⟨_, rfl⟩
  have g1 : W1.heap[W0.heap.size]? = some (.cells (dg H (fun _ => 0) ((0 : Nat) : Int)) 83) := by rw [← hW1]; exact heap_new rfl
  have hB1 : Below W0.heap.size W0 W1 := by rw [← hW1]; exact (Below.refl _ _).alloc (Nat.le_refl _) _
  have hn := new_any H W0 (HHH.out.below hB0)
  rw [hW1] at hn
  have hs := dsum_any K H m W0.heap.size H (fun _ => 0) 0 W1 (dig_new K H m HBD.out) g1 ((HK.out.below hB0).below hB1) (by omega)
  have z1 : W0.heap.size < W1.heap.size := by rw [← hW1]; simp
  have r1 := (hB1.block w.heap.size (by omega)).trans r0
  have HN := hid hn
  have HS := hid hs
  have HR1 := hid r1
  have HB1 : Hid (Below w.heap.size w W1) := hB0.trans (hB1.mono (by omega))
  have HZ : Hid (w.heap.size < W1.heap.size) := by show w.heap.size < W1.heap.size; omega
  clear hW0 s0 hB0 r0 hW1 g1 hB1 hn hs r1 z1
  go_wp2_with (first
    | (go_at_call 39; refine HN.out.mono ?_; rintro e w1 ⟨rfl, rfl⟩)
    | (go_at_call 41; refine HS.out.mono ?_; rintro e w3 ⟨rfl, hb3⟩; have v24 := sv24_run ((hb3.block _ HZ.out).trans HR1.out) (shaV K H m 0)))
  refine ret24 2 w.heap.size _ 33 rfl rfl rfl (setRow_at ((hb3.block _ HZ.out).trans HR1.out)) ⟨rfl, ?_⟩
  exact below_row (HB1.out.trans (hb3.mono (Nat.le_of_lt HZ.out))) (Nat.le_refl _) _

theorem write_nil (a : Option Addr) (len cap : Nat) (w : World) :
    Calls Tryd.prog 40 #[.pointer none, .slice a len cap] w fun e w' => e = .returned (.tuple #[]) ∧ w' = w := by
  go_enter Tryd.func40, Tryd.ntmps40
  go_wp2
  go_returns
  exact ⟨rfl, rfl⟩

theorem write_zero (g : Nat) (a : Option Addr) (cap : Nat) (w : World) :
    Calls Tryd.prog 40 #[.pointer (some ⟨g, 0, none⟩), .slice a 0 cap] w fun e w' => e = .returned (.tuple #[]) ∧ w' = w := by
  go_enter Tryd.func40, Tryd.ntmps40
  go_wp2
  go_rounds 1
  go_returns
  exact ⟨rfl, rfl⟩

end Go.Proofs.YtjimdkpppgjokaaDoor
