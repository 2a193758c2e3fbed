/- A part. -/
import Derived.Test.YtopnhpllidegnaaGreatDoorHdB
import Derived.Test.YtopnhpllidegnaaGreatDoorQQ
import Derived.Test.YtopnhpllidegnaaGreatDoorQL
import Derived.Test.YtopnhpllidegnaaGreatDoorQO
import Derived.Test.YtopnhpllidegnaaGreatDoorQI
import Derived.Test.YtopnhpllidegnaaGreatDoorQM
import Derived.BigRegion
namespace Go.Proofs.YtopnhpllidegnaaGreatDoor
open Go.RowKit
set_option linter.unusedVariables false
set_option linter.unusedSimpArgs false
set_option maxRecDepth 20000
def bsK (n : Nat) (ps : Array (Nat × Value)) : Sem Value := Instr.buildSlice 88 n ps
theorem bsK_eq (n : Nat) (ps : Array (Nat × Value)) : Instr.buildSlice 88 n ps = bsK n ps := rfl
theorem bsK_1 (W : World) (c : Nat → Int) : (bsK 1 #[(0, .agg (vs .u8 48 c))]).run Tryz.prog W = .ok (.slice (some ⟨W.heap.size, 0, none⟩) 1 1) (W.alloc (.cells (vs .u8 48 c) 44)) := by kernel_rfl
theorem pr_one (x : VState) : (prE x = 0 ∧ ∃ V : Nat, prV x = (V : Int) ∧ V < x.f11.n) ∨ prE x = 7 := by
 rcases dw_one x.f11.z (acE x (x.f2 / 4)) (prS x) 1 with ⟨h1, h2, h3⟩ | h
 ·refine .inl ⟨h1, ?_⟩
  have h4 := h3 _ (getD_mem (prL x) 0 (by show 0 < (dwL x.f11.z (acE x (x.f2 / 4)) (prS x) 1).length; omega))
  obtain ⟨q0, q1, _⟩ := (acL_mem _ _ _ _).1 h4
  exact ⟨((prL x).getD 0 0).toNat, by show (prL x).getD 0 0 = _; omega, by omega⟩
 ·exact .inr h.1
theorem retState3 {fn : Func} {R : Ending → World → Prop} {a : Act} {w' : World} (t s s2 : Tmp) (b : Nat) (c : VState) (ty : TypeId) (v v2 : Value) (h : fn.results = #[.cell t 49, .tmp s, .tmp s2]) (hd : a.defers = []) (ht : a.tmps.getD t undef = .pointer (some ⟨b, 0, none⟩)) (hs : a.tmps.getD s undef = v) (hs2 : a.tmps.getD s2 undef = v2) (hr : w'.heap[b]? = some (.cells (cel (sState c)) ty))
    (hR : R (.returned (.tuple #[.agg (cel (sState c)), v, v2])) w') : bodyPost Tryz.prog fn R .ret a w' := by
 refine bodyPost_ret ?_ hd hR
 have hl := loadAt_var (load_row (P := Tryz.prog) hr 49 _ Tryz.underlying49 rfl (by rw [cel_size, slState]; kernel_rfl))
 rw [Array.getD_eq_getD_getElem?] at ht hs hs2
 simp [results, h, ht, hs, hs2, hl, asAddr]
theorem rows_ne {w : World} {a b : Nat} {C D : Array Value} {t u : TypeId} (h : w.heap[a]? = some (.cells C t)) (k : w.heap[b]? = some (.cells D u)) (hne : t ≠ u) : a ≠ b := fun e => by
 subst e
 rw [h] at k
 exact hne (Obj.cells.inj (Option.some.inj k)).2.1
def nuR (n : Int) : Nat → Int := pk (nmB n) 8
def rdQ (x : VState) (s : Nat → Int) : Nat → Int := qsV (x.f11.z (prV x).toNat).f0 1 (tw (nuR (x.f2 / 4)) (domV x 2 (x.f2 / 4))) s
def xrB (a b : Int) : Int := bits .xor .u8 a b
def mxV (f h : Nat → Int) (E k j : Nat) : Int := if 32 * E ≤ j ∧ j < 32 * E + k then xrB (f j) (h (j - 32 * E)) else f j
def rdY (x : VState) (s : Nat → Int) : VState := { x with f13 := mxV x.f13 (shaV KW HW s 96) (x.f2 / 4 % 8).toNat 32 }
def rdE (x : VState) (s : Nat → Int) (f : Nat → Int) (n : Nat) : Int := if rightB x = true then (if prE x = 0 then (if gdB (rdQ x s) f n = true then 0 else 25) else prE x) else 1
def rdK (x : VState) : Nat := if rightB x = true ∧ prE x = 0 then 1 else 0
def rdS (x : VState) (s : Nat → Int) (f : Nat → Int) (n : Nat) : VState := if rdE x s f n = 0 then rdY x s else oState
theorem mx_zero (f h : Nat → Int) (E : Nat) : mxV f h E 0 = f := funext fun j => by unfold mxV; rw [if_neg (by omega)]
theorem xrB_bd (a b : Int) : 0 ≤ xrB a b ∧ xrB a b < 256 := by
 have h := bits_within .xor .u8 a b
 have e : IntKind.u8.min = 0 ∧ IntKind.u8.max = 255 := by decide
 unfold xrB
 omega
theorem twB (a b : Nat → Int) (j : Nat) : 0 ≤ tw a b j ∧ tw a b j < 256 := shaV_bd ..
theorem domB (x : VState) (k e : Int) (j : Nat) : 0 ≤ domV x k e j ∧ domV x k e j < 256 := by
 unfold domV dmV
 split
 ·unfold kdB nmB; omega
 ·exact twB ..
theorem lvSgR {w : World} {b : Nat} {c : Nat → Int} {t : TypeId} (h : w.heap[b]? = some (.cells (vs .u8 96 c) t)) : (lvSg ⟨b, 0, none⟩).run Tryz.prog w = .ok (.agg (vs .u8 96 c)) w :=
 loadAt_var (load_row h 51 _ Tryz.underlying51 rfl (by rw [vs_size]; kernel_rfl))
theorem mx_step (f h : Nat → Int) (E i : Nat) : (fun j => if j = 32 * E + i then xrB (f (32 * E + i)) (h i) else mxV f h E i j) = mxV f h E (i + 1) := funext fun j => by
 unfold mxV
 by_cases h1 : j = 32 * E + i
 ·subst h1
  rw [if_pos rfl, if_pos (by omega), show 32 * E + i - 32 * E = i by omega]
 ·rw [if_neg h1]
  by_cases h2 : 32 * E ≤ j ∧ j < 32 * E + i
  ·rw [if_pos h2, if_pos (by omega)]
  ·rw [if_neg h2, if_neg (by omega)]
theorem mx_at (f h : Nat → Int) (E i : Nat) : mxV f h E i (32 * E + i) = f (32 * E + i) := by unfold mxV; rw [if_neg (by omega)]
attribute [local go_sem ↓] lvState_eq svState_eq bdState_eq sv24_eq lv24_eq sv8_eq ix22_eq bs22_eq bsK_eq lvSg_eq lvKy_eq ixValidator_eq
set_option maxHeartbeats 1000000 in
theorem rnumber_any (n : Int) (w : World) (h0 : 0 ≤ n) (h1 : n < 18446744073709551616) (hC : Tab w 0 64 KW) :
    Calls Tryz.prog 27 #[.int .u64 n] w fun e' w' => e' = .returned (.agg (vs .u8 32 (nuR n))) ∧ Below w.heap.size w w' := by
 obtain ⟨W0, hW0⟩ : ∃ W, w.alloc (.cells (vs .u8 32 fun _ => 0) 24) = W := ⟨_, rfl⟩
 have r0 : W0.heap[w.heap.size]? = some (.cells (vs .u8 32 fun _ => 0) 24) := by rw [← hW0]; exact heap_new rfl
 have hB0 : Below w.heap.size w W0 := by rw [← hW0]; exact (Below.refl _ _).alloc (Nat.le_refl _) _
 have z0 : w.heap.size < W0.heap.size := some_ltK r0
 have hby := rbytes_any n W0 h0 (by omega)
 have hpn : ∀ (W : World) y, W.heap[y]? = some (.cells (vs .u8 8 (nmB n)) 114) → Calls Tryz.prog 63 #[.slice (some ⟨y, 0, none⟩) 8 8] W fun e w' => ∃ a' cap', e = .returned (.slice a' 1 cap') ∧ Below W.heap.size W w' ∧ Rts w' a' 1 cap' (nuR n) := fun W y hy => rpack_any (some ⟨y, 0, none⟩) 8 8 (nmB n) W (.inr (.inr ⟨y, 0, rfl, by omega, by omega, some_ltK hy, fun j hj => by rw [Nat.zero_add]; exact row_int hy j hj⟩)) (by omega)
 have v8 := fun W => sv8_newv W (fun _ => 0) (nmB n)
 have z8 := zero_8
 have zr := zero_root
 generalize nuR n = NR at hpn ⊢
 have HB := hid hB0
 have HW := hid hW0
 have HR := hid r0
 have HBY := hid hby
 have HPN := hid hpn
 clear hB0 hW0 r0 hby hpn hC
 go_enter Tryz.func27, Tryz.ntmps27
 go_upto_region 1 with fail
 rw [HW.out]
 clear HW zr
 go_upto_region 2 with (go_at_call 59; refine HBY.out.mono ?_; rintro e' w1 ⟨rfl, hb1⟩)
 obtain ⟨W2, hW2⟩ : ∃ W, w1.alloc (.cells (vs .u8 8 (nmB n)) 114) = W := ⟨_, rfl⟩
 rw [hW2]
 have rk : W2.heap[w1.heap.size]? = some (.cells (vs .u8 8 (nmB n)) 114) := by rw [← hW2]; exact heap_new rfl
 have hE2 : Below W0.heap.size W0 W2 := by rw [← hW2]; exact hb1.alloc hb1.size _
 obtain ⟨y3, e3⟩ : ∃ y, w1.heap.size = y := ⟨_, rfl⟩
 rw [e3] at rk ⊢
 have HP := hid (HPN.out W2 y3 rk)
 have HE2 := hid hE2
 clear rk hE2 hW2 e3 hb1 z8 v8 HBY HPN
 go_wp2_with (go_at_call 63; refine HP.out.mono ?_; rintro e' w5 ⟨a5, c5, rfl, hd5, hr5⟩; obtain ⟨b5, o5, hb5, hx0, hl5⟩ := hr5.at 0 (by omega); rw [rt32_0] at hl5; have hx5 : ∀ W : World, (ix22 (.slice a5 1 c5) (.int .i64 0)).run Tryz.prog W = .ok (.pointer (some ⟨b5, o5, none⟩)) W := hx0; clear hx0; have ld : (lv24 ⟨b5, o5, none⟩).run Tryz.prog w5 = .ok (.agg (vs .u8 32 NR)) w5 := lv24_mid hl5; have hc5 := HE2.out.trans (hd5.mono HE2.out.size); have r2 := (hc5.block _ z0).trans HR.out; have v3 := sv24_run r2 NR; have HC5 := hid hc5; clear hc5 hd5 hr5 hl5 hb5)
 exact ret24 2 w.heap.size NR 24 rfl rfl rfl (setRow_at r2) ⟨rfl, below_row (HB.out.trans (HC5.out.mono HB.out.size)) (Nat.le_refl _) _⟩
def RdA (x : VState) (s f : Nat → Int) (n : Nat) (w : World) (e' : Ending) (w' : World) : Prop :=
 ∃ X a c, e' = .returned (.tuple #[.agg (cel (sState X)), .slice a (rdK x) c, .int .i64 (rdE x s f n)]) ∧ Res w.heap.size w' (rdS x s f n) X ∧ Rts w' a (rdK x) c (rdQ x s) ∧ NwL w.heap.size a (rdK x) ∧ Below w.heap.size w w'
theorem val_key {w : World} {b o : Nat} {v : VValidator} (h : w.rangeAt b o (celL (sValidator v))) (j : Nat) (hj : j < 48) : w.cell? ⟨b, o + j, none⟩ = some (.int .u8 (v.f0 j)) := by
 refine h j _ ?_
 show ((List.range 48).map (Seg.get (.by 48 v.f0)) ++ celL _)[j]? = _
 rw [List.getElem?_append_left (by simp; exact hj), List.getElem?_map, List.getElem?_range hj]
 rfl
set_option maxHeartbeats 16000000 in
theorem rrandao_any (x : VState) (s : Nat → Int) (a : Option Addr) (n cap : Nat) (f : Nat → Int) (w : World) (hx : OkState x) (hw : InW w x) (hn : NilW x) (hs : ∀ j, j < 96 → 0 ≤ s j ∧ s j < 256) (hr : Rts w a n cap f) (hnn : n ≤ 9223372036854775807) (hC : Tab w 0 64 KW) :
    Calls Tryz.prog 9 #[.agg (cel (sState x)), .agg (vs .u8 96 s), .slice a n cap] w (RdA x s f n w) := by
 obtain ⟨W0, hW0⟩ : ∃ W, ((w.alloc (.cells (cel (sState x)) 49)).alloc (.cells (vs .u8 96 s) 51)).alloc (.cells (cel (sState oState)) 49) = W := ⟨_, rfl⟩
 have r0 : W0.heap[w.heap.size]? = some (.cells (cel (sState x)) 49) := by rw [← hW0]; exact (heap_old (by simp <;> omega)).trans ((heap_old (by simp)).trans (heap_new rfl))
 have r1 : W0.heap[w.heap.size + 1]? = some (.cells (vs .u8 96 s) 51) := by rw [← hW0]; exact (heap_old (by simp)).trans (heap_new (by simp))
 have r2 : W0.heap[w.heap.size + 2]? = some (.cells (cel (sState oState)) 49) := by rw [← hW0]; exact heap_new (by simp)
 have hB0 : Below w.heap.size w W0 := by rw [← hW0]; exact (((Below.refl _ _).alloc (Nat.le_refl _) _).alloc (by simp) _).alloc (by simp <;> omega) _
 have z2 : w.heap.size + 2 < W0.heap.size := some_lt r2
 have hri := rright_any x W0 hx.r' (hw.below hB0).r' ⟨hx.o10.1, hx.o4.1.1, hx.o18.1.1, hx.o19.1.1, hx.o20.1.1⟩
 have lx := lvState_run r0
 have z := zeroState
 have bz := bdState_0
 have HB := hid hB0
 have HWo := hid hW0
 have R2 := hid r2
 unfold RdA
 cases hR : rightB x
 ·rw [hR] at hri
  have HRI := hid hri
  have eE : rdE x s f n = 1 := by unfold rdE; rw [hR]; rfl
  have eS : rdS x s f n = oState := by unfold rdS; rw [eE]; rfl
  have eN : rdK x = 0 := by unfold rdK; rw [hR]; rfl
  rw [eE, eS, eN]
  generalize rdQ x s = QQ
  clear hri hB0 hW0 r0 r1 r2 hx hw hn hs hr hC
  go_enter Tryz.func9, Tryz.ntmps9
  go_upto_region 1 with fail
  rw [HWo.out]
  clear HWo z
  go_wp2_with (go_at_call 22; refine HRI.out.mono ?_; rintro e' w1 ⟨rfl, hb1⟩; have s1 := svState_run ((hb1.block _ z2).trans R2.out) oState)
  exact retState3 6 7 8 (w.heap.size + 2) oState 49 (.slice none 0 0) (.int .i64 1) rfl rfl rfl rfl rfl (setRow_at ((hb1.block _ z2).trans R2.out)) ⟨oState, none, 0, rfl, resO _ _, .inl ⟨rfl, rfl, rfl⟩, .inl rfl, below_row (HB.out.trans (hb1.mono HB.out.size)) (by omega) _⟩
 ·rw [hR] at hri
  have HRI := hid hri
  have hlk : ∀ W, Below w.heap.size w W → Lk W x := fun W h => (rightB_out hR).lk hx (hw.below h)
  have hpr := fun (W : World) (h : Below w.heap.size w W) => rprop_any x W hx (hlk W h) (hC.below h)
  have R0 := hid r0
  rcases pr_one x with ⟨h0, V, eV, hV⟩ | h7
  ·have eE : rdE x s f n = if gdB (rdQ x s) f n = true then 0 else 25 := by unfold rdE; rw [hR, if_pos rfl, if_pos h0]
   have eN : rdK x = 1 := by unfold rdK; rw [hR, h0]; rfl
   have eQ : rdQ x s = qsV (x.f11.z V).f0 1 (tw (nuR (x.f2 / 4)) (domV x 2 (x.f2 / 4))) s := by unfold rdQ; rw [eV]; rfl
   rw [eN]
   have ht := (rightB_out hR)
   have f20 := hx.o2.1
   have f2b : x.f2 < 1099511627776 := ht.c7
   have hep := fun (W : World) => repoch_any x W f20 f2b
   have hnu := fun (W : World) (h : Below w.heap.size w W) => rnumber_any (x.f2 / 4) W (by omega) (by omega) (hC.below h)
   have hdo := fun (W : World) (h : Below w.heap.size w W) => rDomain_any x 2 (x.f2 / 4) W hx (hC.below h)
   have nub : ∀ j, j < 32 → 0 ≤ nuR (x.f2 / 4) j ∧ nuR (x.f2 / 4) j < 256 := fun j _ => pk_in (fun j _ => by unfold nmB; omega) j
   have hro := fun (W : World) (h : Below w.heap.size w W) => rRoot_any (nuR (x.f2 / 4)) (domV x 2 (x.f2 / 4)) W nub (fun j _ => domB ..) (hC.below h)
   have hqu : ∀ (W : World) y, Below w.heap.size w W → W.heap[y]? = some (.cells (vs .u8 48 (x.f11.z V).f0) 44) → Calls Tryz.prog 25 #[.slice (some ⟨y, 0, none⟩) 1 1, .agg (vs .u8 32 (tw (nuR (x.f2 / 4)) (domV x 2 (x.f2 / 4)))), .agg (vs .u8 96 s)] W fun e' w' => e' = .returned (.agg (vs .u8 32 (rdQ x s))) ∧ Below W.heap.size W w' := fun W y h hy => by
    rw [eQ]
    exact rQuestion_any (some ⟨y, 0, none⟩) 1 1 (x.f11.z V).f0 _ s W (.inr (.inr ⟨y, 0, rfl, by omega, some_ltK hy, fun j hj => by rw [Nat.zero_add]; exact row_int hy j (by omega)⟩)) (fun j hj => (hx.o11 V hV).1 j (by omega)) (fun j _ => twB ..) hs (by omega) (hC.below h)
   have hgo := fun (W : World) (h : Below w.heap.size w W) => rGood_any (rdQ x s) f a n cap W (hr.below h) hnn
   rcases hw.i11 with h' | ⟨b, off, ea, hbl, hrr⟩
   ·omega
   have hc11 : ∀ W, Up W0 W → W.cell? ⟨w.heap.size, 721, none⟩ = some (.slice (some ⟨b, off, none⟩) x.f11.n x.f11.c) := fun W h => by
    have := cS11 (upR h r0)
    rw [ea] at this
    exact this
   have hix := fun W => ixValidator_u W b off x.f11.n x.f11.c V hV
   have hlk2 : ∀ W, Up W0 W → (lvKy ⟨b, off + 86 * V, none⟩).run Tryz.prog W = .ok (.agg (vs .u8 48 (x.f11.z V).f0)) W := fun W h => lvKy_mid fun j hj => (below_cell (upT hB0 h) hbl).trans (val_key (hrr V hV) j hj)
   have hlx : ∀ W, Up W0 W → (lvState ⟨w.heap.size, 0, none⟩).run Tryz.prog W = .ok (.agg (cel (sState x))) W := fun W h => lvState_run (upR h r0)
   have hls : ∀ W, Up W0 W → (lvSg ⟨w.heap.size + 1, 0, none⟩).run Tryz.prog W = .ok (.agg (vs .u8 96 s)) W := fun W h => lvSgR (upR h r1)
   have hcp : ∀ W : World, Below w.heap.size w W → Calls Tryz.prog 7 #[.agg (cel (sState x))] W fun e w' => ∃ X : VState, e = .returned (.agg (cel (sState X))) ∧ SimF x X ∧ CpdF W.heap.size w' X ∧ Below W.heap.size W w' := fun W h => copy_full x W (hw.below h) hn (small_rch hR)
   have hsu : ∀ W : World, Up W0 W → Calls Tryz.prog 30 #[.slice (some ⟨w.heap.size + 1, 0, none⟩) 96 96] W fun e w' => e = .returned (.agg (vs .u8 32 (shaV KW HW s 96))) ∧ Below W.heap.size W w' := fun W h => refsum_wide KW s (some ⟨w.heap.size + 1, 0, none⟩) 96 96 W (hC.below (upT hB0 h)) (.inr (.inr ⟨w.heap.size + 1, 0, rfl, by omega, by omega, by have := h.size; omega, fun j hj => by rw [Nat.zero_add]; exact row_int (upR h r1) j hj⟩)) hs (by omega)
   have hpr2 := hpr W0 hB0
   rw [eV, h0] at hpr2
   have HPR := hid (fun W (h : Up W0 W) => hpr W (upT hB0 h))
   have hgf : ∀ X, SimF x X → gdB (rdQ x s) f n = true → SimF (rdS x s f n) { X with f13 := mxV X.f13 (shaV KW HW s 96) (x.f2 / 4 % 8).toNat 32 } := fun X h hg => by
    have : rdS x s f n = rdY x s := by unfold rdS; rw [eE, if_pos hg]; rfl
    rw [this]
    exact ⟨h.e0, h.e1, h.e2, h.e3, h.e4, h.e5, h.e6, h.l7, h.z7, h.e8, h.l9, h.z9, h.e10, h.l11, h.z11, h.l12, h.z12, by show mxV X.f13 _ _ 32 = mxV x.f13 _ _ 32; rw [h.e13], h.e14, h.l15, h.z15, h.l16, h.z16, h.e17, h.e18, h.e19, h.e20, h.l21, h.z21, h.e22, h.e23⟩
   have hgz : gdB (rdQ x s) f n = false → rdS x s f n = oState := fun hg => by unfold rdS; rw [eE, hg]; rfl
   generalize rdS x s f n = RS at hgf hgz ⊢
   rw [eE]
   generalize gdB (rdQ x s) f n = GB at hgo hgf hgz ⊢
   generalize rdQ x s = QV at hqu hgo ⊢
   generalize tw (nuR (x.f2 / 4)) (domV x 2 (x.f2 / 4)) = RT at hro hqu
   generalize domV x 2 (x.f2 / 4) = DM at hdo hro
   generalize nuR (x.f2 / 4) = NR at hnu hro
   obtain ⟨E, eE8⟩ : ∃ E : Nat, x.f2 / 4 % 8 = (E : Int) := ⟨(x.f2 / 4 % 8).toNat, by omega⟩
   have hE8 : E < 8 := by omega
   rw [eE8, Int.toNat_natCast] at hgf
   obtain ⟨EP, eEP⟩ : ∃ EP, x.f2 / 4 = EP := ⟨_, rfl⟩
   rw [eEP] at hep hnu hdo eE8
   have hEP0 : 0 ≤ EP := by omega
   generalize (x.f11.z V).f0 = KF at hqu hlk2
   generalize shaV KW HW s 96 = SH at hsu hgf
   generalize x.f11.c = C11 at hc11 hix
   generalize x.f11.n = N11 at hc11 hix
   have PRO := hid (fun W (h : Up W0 W) => by have q := hpr W (upT hB0 h); rw [eV, h0] at q; exact q)
   have HEP := hid hep
   have HNU0 := hid (fun W (h : Up W0 W) => hnu W (upT hB0 h))
   have HDO0 := hid (fun W (h : Up W0 W) => hdo W (upT hB0 h))
   have HRO0 := hid (fun W (h : Up W0 W) => hro W (upT hB0 h))
   have HQU0 := hid (fun W y (h : Up W0 W) => hqu W y (upT hB0 h))
   have HGO0 := hid (fun W (h : Up W0 W) => hgo W (upT hB0 h))
   have HC110 := hid hc11
   have HIX := hid hix
   have HLK0 := hid hlk2
   have HLX0 := hid hlx
   have HLS0 := hid hls
   have HCP0 := hid (fun W (h : Up W0 W) => hcp W (upT hB0 h))
   have HSU0 := hid hsu
   have HGX := hid hgf
   have HGZ := hid hgz
   clear hri hB0 hW0 r0 r1 r2 hx hw hn hs hr hC hlk hpr hpr2 hep hnu hdo hro hqu hgo hc11 hix hlk2 hlx hls hcp hsu hgf hgz nub eQ eN eE ht hrr ea hbl h0 eV hV HPR hR eEP f20 f2b
   go_enter Tryz.func9, Tryz.ntmps9
   go_upto_region 1 with fail
   rw [HWo.out]
   clear HWo
   go_upto_region 3 with (go_at_call 22; refine HRI.out.mono ?_; rintro e' w1 ⟨rfl, hb1⟩)
   have hp1 := PRO.out w1 hb1
   replace lx := HLX0.out w1 hb1
   have HP1 := hid hp1
   have HB1 := hid hb1
   clear hp1 hb1 HRI PRO
   go_upto_region 6 with (go_at_call 23; refine HP1.out.mono ?_; rintro e' w2 ⟨rfl, hb2⟩)
   have hu2 := upT HB1.out hb2
   replace lx := HLX0.out w2 hu2
   have HU2 := hid hu2
   clear hu2 hb2 HP1 HB1
   go_upto_region 7 with (go_at_call 24; refine (HEP.out w2).mono ?_; rintro e' W4 ⟨rfl, hb4⟩)
   have hu4 := upT HU2.out hb4
   have HU4 := hid hu4
   clear lx hb4 HU2 HEP
   have HNU := hid (fun W (h : Up W4 W) => HNU0.out W (upT HU4.out h))
   have HDO := hid (fun W (h : Up W4 W) => HDO0.out W (upT HU4.out h))
   have HRO := hid (fun W (h : Up W4 W) => HRO0.out W (upT HU4.out h))
   have HQU := hid (fun W y (h : Up W4 W) hy => HQU0.out W y (upT HU4.out h) hy)
   have HC11 := hid (fun W (h : Up W4 W) => HC110.out W (upT HU4.out h))
   have HLK := hid (fun W (h : Up W4 W) => HLK0.out W (upT HU4.out h))
   have HLX := hid (fun W (h : Up W4 W) => HLX0.out W (upT HU4.out h))
   have HLS := hid (fun W (h : Up W4 W) => HLS0.out W (upT HU4.out h))
   clear hu4 HNU0 HDO0 HRO0 HQU0 HC110 HLK0 HLS0 z
   go_cut [12] from 16 (fun u wx => ∃ y, u = .pointer (some ⟨y, 0, none⟩) ∧ wx.heap[y]? = some (.cells (vs .u8 32 QV) 24) ∧ Up W4 wx)
   case first =>
    refine wp_region_noPanic ?_
    refine wp_region_held_drew (S := fun W => Up W4 W) (by kernel_rfl) ((Below.refl _ _).drew) (fun hHeld => ?_)
    generalize W4.drew = wd at hHeld ⊢
    refine tk 0 (v := ?v801) ?y801 hHeld ?r801
    case y801 => intro w hSw; go_simp; try with_reducible rfl
    refine tk 1 (v := ?v802) ?y802 hHeld ?r802
    case y802 => intro w hSw; have ld0 := HC11.out w hSw; go_simp; try with_reducible rfl
    refine tk 2 (v := ?v803) ?y803 hHeld ?r803
    case y803 => intro w hSw; go_simp; try with_reducible rfl
    refine tk 3 (v := ?v804) ?y804 hHeld ?r804
    case y804 => intro w hSw; have ld0 := HIX.out w; go_simp; try with_reducible rfl
    refine tk 4 (v := ?v805) ?y805 hHeld ?r805
    case y805 => intro w hSw; go_simp; try with_reducible rfl
    refine tk 5 (v := ?v806) ?y806 hHeld ?r806
    case y806 => intro w hSw; have ld0 := HLK.out w hSw; go_simp; try with_reducible rfl
    refine tk 7 (v := ?v807) ?y807 hHeld ?r807
    case y807 => intro w hSw; go_simp; try with_reducible rfl
    refine tk 9 (v := ?v808) ?y808 hHeld ?r808
    case y808 => intro w hSw; have ld0 := HLX.out w hSw; go_simp; try with_reducible rfl
    refine tk 10 (v := ?v809) ?y809 hHeld ?r809
    case y809 => intro w hSw; go_simp; try with_reducible rfl
    refine tk 13 (v := ?v810) ?y810 hHeld ?r810
    case y810 => intro w hSw; have ld0 := HLS.out w hSw; go_simp; try with_reducible rfl
    try simp only [Act.put, z_1, z_2, z_3, z_4, z_5, z_6, z_7]
    refine sh2 (fuel' := ?f110) (listed' := ?l110) (act := ?a110) (fun (y6 : Nat) (y15 : Nat) V => Up W4 V ∧ V.heap[y6]? = some (.cells (vs .u8 48 KF) 44) ∧ W4.heap.size ≤ y6 ∧ V.heap[y15]? = some (.cells (vs .u8 32 fun _ => 0) 24) ∧ W4.heap.size ≤ y15) (fun K110 => ?m110) ?t110
    case' m110 => skip
    refine sh2 (fuel' := ?f109) (listed' := ?l109) (act := ?a109) (fun (y6 : Nat) (y15 : Nat) V => Up W4 V ∧ V.heap[y6]? = some (.cells (vs .u8 48 KF) 44) ∧ W4.heap.size ≤ y6 ∧ V.heap[y15]? = some (.cells (vs .u8 32 fun _ => 0) 24) ∧ W4.heap.size ≤ y15) (fun K109 => ?m109) ?t109
    case' m109 => skip
    refine sh1 (fuel' := ?f108) (listed' := ?l108) (act := ?a108) (fun (y6 : Nat) V => Up W4 V ∧ V.heap[y6]? = some (.cells (vs .u8 48 KF) 44) ∧ W4.heap.size ≤ y6) (fun K108 => ?m108) ?t108
    case' m108 => skip
    refine sh1 (fuel' := ?f107) (listed' := ?l107) (act := ?a107) (fun (y15 : Nat) V => Up W4 V ∧ V.heap[y15]? = some (.cells (vs .u8 32 fun _ => 0) 24) ∧ W4.heap.size ≤ y15) (fun K107 => ?m107) ?t107
    case' m107 => skip
    refine sh2 (fuel' := ?f106) (listed' := ?l106) (act := ?a106) (fun (y6 : Nat) (y15 : Nat) V => Up W4 V ∧ V.heap[y6]? = some (.cells (vs .u8 48 KF) 44) ∧ W4.heap.size ≤ y6 ∧ V.heap[y15]? = some (.cells (vs .u8 32 fun _ => 0) 24) ∧ W4.heap.size ≤ y15) (fun K106 => ?m106) ?t106
    case' m106 => skip
    refine sh1 (fuel' := ?f105) (listed' := ?l105) (act := ?a105) (fun (y6 : Nat) V => Up W4 V ∧ V.heap[y6]? = some (.cells (vs .u8 48 KF) 44) ∧ W4.heap.size ≤ y6) (fun K105 => ?m105) ?t105
    case' m105 => skip
    refine sh2 (fuel' := ?f104) (listed' := ?l104) (act := ?a104) (fun (y6 : Nat) (y15 : Nat) V => Up W4 V ∧ V.heap[y6]? = some (.cells (vs .u8 48 KF) 44) ∧ W4.heap.size ≤ y6 ∧ V.heap[y15]? = some (.cells (vs .u8 32 fun _ => 0) 24) ∧ W4.heap.size ≤ y15) (fun K104 => ?m104) ?t104
    case' m104 => skip
    refine sh1 (fuel' := ?f103) (listed' := ?l103) (act := ?a103) (fun (y15 : Nat) V => Up W4 V ∧ V.heap[y15]? = some (.cells (vs .u8 32 fun _ => 0) 24) ∧ W4.heap.size ≤ y15) (fun K103 => ?m103) ?t103
    case' m103 => skip
    refine sh1 (fuel' := ?f102) (listed' := ?l102) (act := ?a102) (fun (y6 : Nat) V => Up W4 V ∧ V.heap[y6]? = some (.cells (vs .u8 48 KF) 44) ∧ W4.heap.size ≤ y6) (fun K102 => ?m102) ?t102
    case' m102 => skip
    refine sh1 (fuel' := ?f101) (listed' := ?l101) (act := ?a101) (fun (y15 : Nat) V => Up W4 V ∧ V.heap[y15]? = some (.cells (vs .u8 32 fun _ => 0) 24) ∧ W4.heap.size ≤ y15) (fun K101 => ?m101) ?t101
    case' m101 => skip
    refine sh2 (fuel' := ?f100) (listed' := ?l100) (act := ?a100) (fun (y6 : Nat) (y15 : Nat) V => Up W4 V ∧ V.heap[y6]? = some (.cells (vs .u8 48 KF) 44) ∧ W4.heap.size ≤ y6 ∧ V.heap[y15]? = some (.cells (vs .u8 32 fun _ => 0) 24) ∧ W4.heap.size ≤ y15) (fun K100 => ?m100) ?t100
    case' m100 => skip
    refine rd3 6 8 15 (fun K hK => ?_) (fun K hK => ?_) (fun K hK => ?_)
    ·have zr := bsK_1 wd KF
     go_simp
     obtain ⟨x1, y6, hx, ey, r6, hd1, b6⟩ := upN2 hHeld (.cells (vs .u8 48 KF) 44)
     rw [hx, ey]
     have l1 := Nat.le_of_eq ey
     clear hx ey zr
     have hc1 := upT hHeld hd1
     refine hK.out _ _ hc1 (fun hHeld => ?_)
     clear hK K
     try simp only [Act.put, z_1, z_2, z_3, z_4, z_5, z_6, z_7]
     refine rd2 8 15 (fun K hK => ?_) (fun K hK => ?_)
     ·go_simp
      refine (HNU.out _ (hc1)).mono ?_
      rintro e' x2 ⟨rfl, hd2⟩
      dsimp only
      have hc2 := upT hc1 hd2
      replace r6 := upR hd2 r6
      refine hK.out _ _ hc2 (fun hHeld => ?_)
      clear hK K
      try simp only [Act.put, z_1, z_2, z_3, z_4, z_5, z_6, z_7]
      exact K102.out y6 x2 ⟨hc2, r6, b6⟩
     ·have zr := zero_root
      go_simp
      obtain ⟨x3, y15, hx, ey, r15, hd3, b15⟩ := upN2 hc1 (.cells (vs .u8 32 fun _ => 0) 24)
      rw [hx, ey]
      have l3 := Nat.le_of_eq ey
      clear hx ey zr
      have hc3 := upT hc1 hd3
      replace r6 := upR hd3 r6
      refine hK.out _ _ hc3 (fun hHeld => ?_)
      clear hK K
      try simp only [Act.put, z_1, z_2, z_3, z_4, z_5, z_6, z_7]
      exact K100.out y6 y15 x3 ⟨hc3, r6, b6, r15, b15⟩
    ·go_simp
     refine (HNU.out _ (hHeld)).mono ?_
     rintro e' x4 ⟨rfl, hd4⟩
     dsimp only
     have hc4 := upT hHeld hd4
     refine hK.out _ _ hc4 (fun hHeld => ?_)
     clear hK K
     try simp only [Act.put, z_1, z_2, z_3, z_4, z_5, z_6, z_7]
     refine rd3 6 11 15 (fun K hK => ?_) (fun K hK => ?_) (fun K hK => ?_)
     ·have zr := bsK_1 x4 KF
      go_simp
      obtain ⟨x5, y6, hx, ey, r6, hd5, b6⟩ := upN2 hc4 (.cells (vs .u8 48 KF) 44)
      rw [hx, ey]
      have l5 := Nat.le_of_eq ey
      clear hx ey zr
      have hc5 := upT hc4 hd5
      refine hK.out _ _ hc5 (fun hHeld => ?_)
      clear hK K
      try simp only [Act.put, z_1, z_2, z_3, z_4, z_5, z_6, z_7]
      exact K102.out y6 x5 ⟨hc5, r6, b6⟩
     ·go_simp
      refine (HDO.out _ (hc4)).mono ?_
      rintro e' x6 ⟨rfl, hd6⟩
      dsimp only
      have hc6 := upT hc4 hd6
      refine hK.out _ _ hc6 (fun hHeld => ?_)
      clear hK K
      try simp only [Act.put, z_1, z_2, z_3, z_4, z_5, z_6, z_7]
      refine rd3 6 12 15 (fun K hK => ?_) (fun K hK => ?_) (fun K hK => ?_)
      ·have zr := bsK_1 x6 KF
       go_simp
       obtain ⟨x7, y6, hx, ey, r6, hd7, b6⟩ := upN2 hc6 (.cells (vs .u8 48 KF) 44)
       rw [hx, ey]
       have l7 := Nat.le_of_eq ey
       clear hx ey zr
       have hc7 := upT hc6 hd7
       refine hK.out _ _ hc7 (fun hHeld => ?_)
       clear hK K
       try simp only [Act.put, z_1, z_2, z_3, z_4, z_5, z_6, z_7]
       exact K105.out y6 x7 ⟨hc7, r6, b6⟩
      ·go_simp
       refine (HRO.out _ (hc6)).mono ?_
       rintro e' x8 ⟨rfl, hd8⟩
       dsimp only
       have hc8 := upT hc6 hd8
       refine hK.out _ _ hc8 (fun hHeld => ?_)
       clear hK K
       try simp only [Act.put, z_1, z_2, z_3, z_4, z_5, z_6, z_7]
       refine rd2 6 15 (fun K hK => ?_) (fun K hK => ?_)
       ·have zr := bsK_1 x8 KF
        go_simp
        obtain ⟨x9, y6, hx, ey, r6, hd9, b6⟩ := upN2 hc8 (.cells (vs .u8 48 KF) 44)
        rw [hx, ey]
        have l9 := Nat.le_of_eq ey
        clear hx ey zr
        have hc9 := upT hc8 hd9
        refine hK.out _ _ hc9 (fun hHeld => ?_)
        clear hK K
        try simp only [Act.put, z_1, z_2, z_3, z_4, z_5, z_6, z_7]
        exact K108.out y6 x9 ⟨hc9, r6, b6⟩
       ·have zr := zero_root
        go_simp
        obtain ⟨x10, y15, hx, ey, r15, hd10, b15⟩ := upN2 hc8 (.cells (vs .u8 32 fun _ => 0) 24)
        rw [hx, ey]
        have l10 := Nat.le_of_eq ey
        clear hx ey zr
        have hc10 := upT hc8 hd10
        refine hK.out _ _ hc10 (fun hHeld => ?_)
        clear hK K
        try simp only [Act.put, z_1, z_2, z_3, z_4, z_5, z_6, z_7]
        exact K107.out y15 x10 ⟨hc10, r15, b15⟩
      ·have zr := zero_root
       go_simp
       obtain ⟨x11, y15, hx, ey, r15, hd11, b15⟩ := upN2 hc6 (.cells (vs .u8 32 fun _ => 0) 24)
       rw [hx, ey]
       have l11 := Nat.le_of_eq ey
       clear hx ey zr
       have hc11 := upT hc6 hd11
       refine hK.out _ _ hc11 (fun hHeld => ?_)
       clear hK K
       try simp only [Act.put, z_1, z_2, z_3, z_4, z_5, z_6, z_7]
       exact K103.out y15 x11 ⟨hc11, r15, b15⟩
     ·have zr := zero_root
      go_simp
      obtain ⟨x12, y15, hx, ey, r15, hd12, b15⟩ := upN2 hc4 (.cells (vs .u8 32 fun _ => 0) 24)
      rw [hx, ey]
      have l12 := Nat.le_of_eq ey
      clear hx ey zr
      have hc12 := upT hc4 hd12
      refine hK.out _ _ hc12 (fun hHeld => ?_)
      clear hK K
      try simp only [Act.put, z_1, z_2, z_3, z_4, z_5, z_6, z_7]
      exact K101.out y15 x12 ⟨hc12, r15, b15⟩
    ·have zr := zero_root
     go_simp
     obtain ⟨x13, y15, hx, ey, r15, hd13, b15⟩ := upN2 hHeld (.cells (vs .u8 32 fun _ => 0) 24)
     rw [hx, ey]
     have l13 := Nat.le_of_eq ey
     clear hx ey zr
     have hc13 := upT hHeld hd13
     refine hK.out _ _ hc13 (fun hHeld => ?_)
     clear hK K
     try simp only [Act.put, z_1, z_2, z_3, z_4, z_5, z_6, z_7]
     refine rd2 6 8 (fun K hK => ?_) (fun K hK => ?_)
     ·have zr := bsK_1 x13 KF
      go_simp
      obtain ⟨x14, y6, hx, ey, r6, hd14, b6⟩ := upN2 hc13 (.cells (vs .u8 48 KF) 44)
      rw [hx, ey]
      have l14 := Nat.le_of_eq ey
      clear hx ey zr
      have hc14 := upT hc13 hd14
      replace r15 := upR hd14 r15
      refine hK.out _ _ hc14 (fun hHeld => ?_)
      clear hK K
      try simp only [Act.put, z_1, z_2, z_3, z_4, z_5, z_6, z_7]
      exact K100.out y6 y15 x14 ⟨hc14, r6, b6, r15, b15⟩
     ·go_simp
      refine (HNU.out _ (hc13)).mono ?_
      rintro e' x15 ⟨rfl, hd15⟩
      dsimp only
      have hc15 := upT hc13 hd15
      replace r15 := upR hd15 r15
      refine hK.out _ _ hc15 (fun hHeld => ?_)
      clear hK K
      try simp only [Act.put, z_1, z_2, z_3, z_4, z_5, z_6, z_7]
      exact K101.out y15 x15 ⟨hc15, r15, b15⟩
    case t100 =>
     rintro y6 y15 V ⟨hB, r6, b6, r15, b15⟩
     have hHeld := hB
     refine rd1 8 (fun K hK => ?_)
     go_simp
     refine (HNU.out _ (hB)).mono ?_
     rintro e' x16 ⟨rfl, hd16⟩
     dsimp only
     have hc16 := upT hB hd16
     replace r6 := upR hd16 r6
     replace r15 := upR hd16 r15
     refine hK.out _ _ hc16 (fun hHeld => ?_)
     clear hK K
     try simp only [Act.put, z_1, z_2, z_3, z_4, z_5, z_6, z_7]
     exact K104.out y6 y15 x16 ⟨hc16, r6, b6, r15, b15⟩
    case t101 =>
     rintro y15 V ⟨hB, r15, b15⟩
     have hHeld := hB
     refine rd2 6 11 (fun K hK => ?_) (fun K hK => ?_)
     ·have zr := bsK_1 V KF
      go_simp
      obtain ⟨x17, y6, hx, ey, r6, hd17, b6⟩ := upN2 hB (.cells (vs .u8 48 KF) 44)
      rw [hx, ey]
      have l17 := Nat.le_of_eq ey
      clear hx ey zr
      have hc17 := upT hB hd17
      replace r15 := upR hd17 r15
      refine hK.out _ _ hc17 (fun hHeld => ?_)
      clear hK K
      try simp only [Act.put, z_1, z_2, z_3, z_4, z_5, z_6, z_7]
      exact K104.out y6 y15 x17 ⟨hc17, r6, b6, r15, b15⟩
     ·go_simp
      refine (HDO.out _ (hB)).mono ?_
      rintro e' x18 ⟨rfl, hd18⟩
      dsimp only
      have hc18 := upT hB hd18
      replace r15 := upR hd18 r15
      refine hK.out _ _ hc18 (fun hHeld => ?_)
      clear hK K
      try simp only [Act.put, z_1, z_2, z_3, z_4, z_5, z_6, z_7]
      exact K103.out y15 x18 ⟨hc18, r15, b15⟩
    case t102 =>
     rintro y6 V ⟨hB, r6, b6⟩
     have hHeld := hB
     refine rd2 11 15 (fun K hK => ?_) (fun K hK => ?_)
     ·go_simp
      refine (HDO.out _ (hB)).mono ?_
      rintro e' x19 ⟨rfl, hd19⟩
      dsimp only
      have hc19 := upT hB hd19
      replace r6 := upR hd19 r6
      refine hK.out _ _ hc19 (fun hHeld => ?_)
      clear hK K
      try simp only [Act.put, z_1, z_2, z_3, z_4, z_5, z_6, z_7]
      exact K105.out y6 x19 ⟨hc19, r6, b6⟩
     ·have zr := zero_root
      go_simp
      obtain ⟨x20, y15, hx, ey, r15, hd20, b15⟩ := upN2 hB (.cells (vs .u8 32 fun _ => 0) 24)
      rw [hx, ey]
      have l20 := Nat.le_of_eq ey
      clear hx ey zr
      have hc20 := upT hB hd20
      replace r6 := upR hd20 r6
      refine hK.out _ _ hc20 (fun hHeld => ?_)
      clear hK K
      try simp only [Act.put, z_1, z_2, z_3, z_4, z_5, z_6, z_7]
      exact K104.out y6 y15 x20 ⟨hc20, r6, b6, r15, b15⟩
    case t103 =>
     rintro y15 V ⟨hB, r15, b15⟩
     have hHeld := hB
     refine rd2 6 12 (fun K hK => ?_) (fun K hK => ?_)
     ·have zr := bsK_1 V KF
      go_simp
      obtain ⟨x21, y6, hx, ey, r6, hd21, b6⟩ := upN2 hB (.cells (vs .u8 48 KF) 44)
      rw [hx, ey]
      have l21 := Nat.le_of_eq ey
      clear hx ey zr
      have hc21 := upT hB hd21
      replace r15 := upR hd21 r15
      refine hK.out _ _ hc21 (fun hHeld => ?_)
      clear hK K
      try simp only [Act.put, z_1, z_2, z_3, z_4, z_5, z_6, z_7]
      exact K106.out y6 y15 x21 ⟨hc21, r6, b6, r15, b15⟩
     ·go_simp
      refine (HRO.out _ (hB)).mono ?_
      rintro e' x22 ⟨rfl, hd22⟩
      dsimp only
      have hc22 := upT hB hd22
      replace r15 := upR hd22 r15
      refine hK.out _ _ hc22 (fun hHeld => ?_)
      clear hK K
      try simp only [Act.put, z_1, z_2, z_3, z_4, z_5, z_6, z_7]
      exact K107.out y15 x22 ⟨hc22, r15, b15⟩
    case t104 =>
     rintro y6 y15 V ⟨hB, r6, b6, r15, b15⟩
     have hHeld := hB
     refine rd1 11 (fun K hK => ?_)
     go_simp
     refine (HDO.out _ (hB)).mono ?_
     rintro e' x23 ⟨rfl, hd23⟩
     dsimp only
     have hc23 := upT hB hd23
     replace r6 := upR hd23 r6
     replace r15 := upR hd23 r15
     refine hK.out _ _ hc23 (fun hHeld => ?_)
     clear hK K
     try simp only [Act.put, z_1, z_2, z_3, z_4, z_5, z_6, z_7]
     exact K106.out y6 y15 x23 ⟨hc23, r6, b6, r15, b15⟩
    case t105 =>
     rintro y6 V ⟨hB, r6, b6⟩
     have hHeld := hB
     refine rd2 12 15 (fun K hK => ?_) (fun K hK => ?_)
     ·go_simp
      refine (HRO.out _ (hB)).mono ?_
      rintro e' x24 ⟨rfl, hd24⟩
      dsimp only
      have hc24 := upT hB hd24
      replace r6 := upR hd24 r6
      refine hK.out _ _ hc24 (fun hHeld => ?_)
      clear hK K
      try simp only [Act.put, z_1, z_2, z_3, z_4, z_5, z_6, z_7]
      exact K108.out y6 x24 ⟨hc24, r6, b6⟩
     ·have zr := zero_root
      go_simp
      obtain ⟨x25, y15, hx, ey, r15, hd25, b15⟩ := upN2 hB (.cells (vs .u8 32 fun _ => 0) 24)
      rw [hx, ey]
      have l25 := Nat.le_of_eq ey
      clear hx ey zr
      have hc25 := upT hB hd25
      replace r6 := upR hd25 r6
      refine hK.out _ _ hc25 (fun hHeld => ?_)
      clear hK K
      try simp only [Act.put, z_1, z_2, z_3, z_4, z_5, z_6, z_7]
      exact K106.out y6 y15 x25 ⟨hc25, r6, b6, r15, b15⟩
    case t106 =>
     rintro y6 y15 V ⟨hB, r6, b6, r15, b15⟩
     have hHeld := hB
     refine rd1 12 (fun K hK => ?_)
     go_simp
     refine (HRO.out _ (hB)).mono ?_
     rintro e' x26 ⟨rfl, hd26⟩
     dsimp only
     have hc26 := upT hB hd26
     replace r6 := upR hd26 r6
     replace r15 := upR hd26 r15
     refine hK.out _ _ hc26 (fun hHeld => ?_)
     clear hK K
     try simp only [Act.put, z_1, z_2, z_3, z_4, z_5, z_6, z_7]
     exact K109.out y6 y15 x26 ⟨hc26, r6, b6, r15, b15⟩
    case t107 =>
     rintro y15 V ⟨hB, r15, b15⟩
     have hHeld := hB
     refine rd1 6 (fun K hK => ?_)
     have zr := bsK_1 V KF
     go_simp
     obtain ⟨x27, y6, hx, ey, r6, hd27, b6⟩ := upN2 hB (.cells (vs .u8 48 KF) 44)
     rw [hx, ey]
     have l27 := Nat.le_of_eq ey
     clear hx ey zr
     have hc27 := upT hB hd27
     replace r15 := upR hd27 r15
     refine hK.out _ _ hc27 (fun hHeld => ?_)
     clear hK K
     try simp only [Act.put, z_1, z_2, z_3, z_4, z_5, z_6, z_7]
     exact K109.out y6 y15 x27 ⟨hc27, r6, b6, r15, b15⟩
    case t108 =>
     rintro y6 V ⟨hB, r6, b6⟩
     have hHeld := hB
     refine rd2 14 15 (fun K hK => ?_) (fun K hK => ?_)
     ·go_simp
      refine (HQU.out _ y6 (hB) r6).mono ?_
      rintro e' x28 ⟨rfl, hd28⟩
      dsimp only
      have hc28 := upT hB hd28
      replace r6 := upR hd28 r6
      refine hK.out _ _ hc28 (fun hHeld => ?_)
      clear hK K
      try simp only [Act.put, z_1, z_2, z_3, z_4, z_5, z_6, z_7]
      refine rd1 15 (fun K hK => ?_)
      have zr := zero_root
      go_simp
      obtain ⟨x29, y15, hx, ey, r15, hd29, b15⟩ := upN2 hc28 (.cells (vs .u8 32 fun _ => 0) 24)
      rw [hx, ey]
      have l29 := Nat.le_of_eq ey
      clear hx ey zr
      have hc29 := upT hc28 hd29
      replace r6 := upR hd29 r6
      refine hK.out _ _ hc29 (fun hHeld => ?_)
      clear hK K
      try simp only [Act.put, z_1, z_2, z_3, z_4, z_5, z_6, z_7]
      exact K110.out y6 y15 x29 ⟨hc29, r6, b6, r15, b15⟩
     ·have zr := zero_root
      go_simp
      obtain ⟨x30, y15, hx, ey, r15, hd30, b15⟩ := upN2 hB (.cells (vs .u8 32 fun _ => 0) 24)
      rw [hx, ey]
      have l30 := Nat.le_of_eq ey
      clear hx ey zr
      have hc30 := upT hB hd30
      replace r6 := upR hd30 r6
      refine hK.out _ _ hc30 (fun hHeld => ?_)
      clear hK K
      try simp only [Act.put, z_1, z_2, z_3, z_4, z_5, z_6, z_7]
      exact K109.out y6 y15 x30 ⟨hc30, r6, b6, r15, b15⟩
    case t109 =>
     rintro y6 y15 V ⟨hB, r6, b6, r15, b15⟩
     have hHeld := hB
     refine rd1 14 (fun K hK => ?_)
     go_simp
     refine (HQU.out _ y6 (hB) r6).mono ?_
     rintro e' x31 ⟨rfl, hd31⟩
     dsimp only
     have hc31 := upT hB hd31
     replace r6 := upR hd31 r6
     replace r15 := upR hd31 r15
     refine hK.out _ _ hc31 (fun hHeld => ?_)
     clear hK K
     try simp only [Act.put, z_1, z_2, z_3, z_4, z_5, z_6, z_7]
     exact K110.out y6 y15 x31 ⟨hc31, r6, b6, r15, b15⟩
    case t110 =>
     rintro y6 y15 V ⟨hB, r6, b6, r15, b15⟩
     have hHeld := hB
     refine wpAnyH_ready (rs := [16]) (by kernel_rfl) (by simp) ?_
     refine AllReadyH.cons rfl (fun K hK => ?_) AllReadyH.nil
     have v3 := sv24_run r15 QV
     go_simp
     have hce : Up W4 _ := below_row (hB) b15 (vs .u8 32 QV)
     refine hK.out _ _ hce (fun hHeld => ?_)
     clear hK K
     try simp only [Act.put, z_1, z_2, z_3, z_4, z_5, z_6, z_7]
     refine wpAnyH_done (by kernel_rfl) ?_ _
     refine NoPanic.normal ?_
     go_wp2
     go_meet
     exact ⟨_, rfl, setRow_at r15, hce⟩
   case rest =>
    clear HNU HDO HRO HQU HC11 HLK HLX HLS HIX
    obtain ⟨y12, rfl, rq, hcw⟩ := hcut
    have huc := upT HU4.out hcw
    have hgo := HGO0.out wc huc
    have lq := lv24_run rq
    have RQ := hid rq
    have HGO := hid hgo
    have HUC := hid huc
    clear rq hcw huc hgo HGO0 HU4
    cases GB
    ·have eS := HGZ.out rfl
     have HGF : Hid (SimF RS oState) := by rw [eS]; exact SimF.refl _
     clear eS HGX HGZ HCP0 HSU0 HLX0
     go_upto_region 9 with (go_at_call 29; refine HGO.out.mono ?_; rintro e' w5 ⟨rfl, hb5⟩; have RQ5 := hid (upR hb5 RQ.out); have HBX := hid (upT HB.out (upT HUC.out hb5)); have R6X := hid (upR (upT HUC.out hb5) R2.out))
     clear lq RQ HGO HUC hb5
     have RQ := RQ5
     clear RQ5
     have HNE : Hid (y12 ≠ w.heap.size + 2) := rows_ne RQ.out R6X.out (by decide)
     refine wp_region_noPanic ?_
     refine wp_region_held_drew (S := fun W => W.heap[y12]? = some (.cells (vs .u8 32 QV) 24)) (by kernel_rfl) (RQ.out) (fun hHeld => ?_)
     generalize eWD : w5.drew = wd at hHeld ⊢
     have hBd : Up w wd := by rw [← eWD]; exact HBX.out.drew
     have RW0 : Hid (wd.heap[y12]? = some (.cells (vs .u8 32 QV) 24)) := by rw [← eWD]; exact RQ.out
     have R6 : Hid (wd.heap[w.heap.size + 2]? = some (.cells (cel (sState oState)) 49)) := by rw [← eWD]; exact R6X.out
     clear eWD
     refine tk 0 (v := ?v811) ?y811 hHeld ?r811
     case y811 => intro w hSw; have ld0 := bz w; go_simp; try with_reducible rfl
     refine tk 1 (v := ?v812) ?y812 hHeld ?r812
     case y812 => intro w hSw; have ld0 := lv24_run hSw; go_simp; try with_reducible rfl
     try simp only [Act.put, z_1, z_2, z_3, z_4, z_5, z_6, z_7]
     refine rd2 2 3 (fun K hK => ?_) (fun K hK => ?_)
     ·have ld := bs22_1 wd QV
      go_simp
      obtain ⟨x1, yq, hx, ey, rq, hd1, bq⟩ := upN2 hBd (.cells (vs .u8 32 QV) 24)
      have qq : wd.heap.size ≤ yq := Nat.le_of_eq ey
      have r6l := some_ltK R6.out
      rw [hx, ey]
      clear hx ey ld
      refine hK.out _ _ (upR hd1 RW0.out) (fun hHeld => ?_)
      clear hK K
      try simp only [Act.put, z_1, z_2, z_3, z_4, z_5, z_6, z_7]
      refine rd1 3 (fun K hK => ?_)
      have r61 := upR hd1 R6.out
      have sv := svState_run r61 oState
      go_simp
      have q0 : (x1.setRow (w.heap.size + 2) (cel (sState oState))).heap[y12]? = some (.cells (vs .u8 32 QV) 24) := by rw [setRow_other HNE.out]; exact upR hd1 RW0.out
      refine hK.out _ _ q0 (fun hHeld => ?_)
      clear hK K
      try simp only [Act.put, z_1, z_2, z_3, z_4, z_5, z_6, z_7]
      have rq2 : (x1.setRow (w.heap.size + 2) (cel (sState oState))).heap[yq]? = some (.cells (vs .u8 32 QV) 24) := by rw [setRow_other (by omega)]; exact rq
      refine rd1 4 (fun K hK => ?_)
      go_simp
      refine hK.out _ _ q0 (fun hHeld => ?_)
      clear hK K
      try simp only [Act.put, z_1, z_2, z_3, z_4, z_5, z_6, z_7]
      refine rd1 5 (fun K hK => ?_)
      go_simp
      refine hK.out _ _ q0 (fun hHeld => ?_)
      clear hK K
      try simp only [Act.put, z_1, z_2, z_3, z_4, z_5, z_6, z_7]
      refine wpAnyH_done (by kernel_rfl) ?_ _
      refine NoPanic.normal ?_
      go_wp2
      exact retState3 6 7 8 (w.heap.size + 2) oState 49 (.slice (some ⟨yq, 0, none⟩) 1 1) (.int .i64 25) rfl rfl rfl rfl rfl (setRow_at r61) ⟨_, _, _, rfl, (resO w.heap.size (x1.setRow (w.heap.size + 2) (cel (sState oState)))).to (by omega) HGF.out, .inr (.inr ⟨yq, 0, rfl, by omega, some_ltK (rq2), fun j hj => by rw [Nat.zero_add]; exact row_int (rq2) j hj⟩), .inr ⟨_, rfl, bq⟩, below_row (upT hBd hd1) (by omega) _⟩
     ·have sv := svState_run R6.out oState
      go_simp
      obtain ⟨x0, hx0⟩ : ∃ W, wd.setRow (w.heap.size + 2) (cel (sState oState)) = W := ⟨_, rfl⟩
      have r60 : x0.heap[w.heap.size + 2]? = some (.cells (cel (sState oState)) 49) := by rw [← hx0]; exact setRow_at R6.out
      have hB0 : Up w x0 := by rw [← hx0]; exact below_row hBd (by omega) _
      have q0 : x0.heap[y12]? = some (.cells (vs .u8 32 QV) 24) := by rw [← hx0, setRow_other HNE.out]; exact RW0.out
      have hrs := resO w.heap.size (wd.setRow (w.heap.size + 2) (cel (sState oState)))
      rw [hx0] at hrs ⊢
      refine hK.out _ _ q0 (fun hHeld => ?_)
      clear hK K hx0 sv
      try simp only [Act.put, z_1, z_2, z_3, z_4, z_5, z_6, z_7]
      refine rd1 2 (fun K hK => ?_)
      have ld := bs22_1 x0 QV
      go_simp
      obtain ⟨x1, yq, hx, ey, rq, hd1, bq⟩ := upN2 hB0 (.cells (vs .u8 32 QV) 24)
      rw [hx, ey]
      clear hx ey ld
      refine hK.out _ _ (upR hd1 q0) (fun hHeld => ?_)
      clear hK K
      try simp only [Act.put, z_1, z_2, z_3, z_4, z_5, z_6, z_7]
      refine rd1 4 (fun K hK => ?_)
      go_simp
      refine hK.out _ _ (upR hd1 q0) (fun hHeld => ?_)
      clear hK K
      try simp only [Act.put, z_1, z_2, z_3, z_4, z_5, z_6, z_7]
      refine rd1 5 (fun K hK => ?_)
      go_simp
      refine hK.out _ _ (upR hd1 q0) (fun hHeld => ?_)
      clear hK K
      try simp only [Act.put, z_1, z_2, z_3, z_4, z_5, z_6, z_7]
      refine wpAnyH_done (by kernel_rfl) ?_ _
      refine NoPanic.normal ?_
      go_wp2
      exact retState3 6 7 8 (w.heap.size + 2) oState 49 (.slice (some ⟨yq, 0, none⟩) 1 1) (.int .i64 25) rfl rfl rfl rfl rfl (upR hd1 r60) ⟨_, _, _, rfl, (hrs.below hd1).to (by omega) HGF.out, .inr (.inr ⟨yq, 0, rfl, by omega, some_ltK (rq), fun j hj => by rw [Nat.zero_add]; exact row_int (rq) j hj⟩), .inr ⟨_, rfl, bq⟩, upT hB0 hd1⟩
    ·have hgf := HGX.out
     clear HGX HGZ
     go_upto_region 10 with (go_at_call 29; refine HGO.out.mono ?_; rintro e' w5 ⟨rfl, hb5⟩)
     have hu5 := upT HUC.out hb5
     have lx := HLX0.out w5 hu5
     have HCQ := hid (HCP0.out w5 hu5)
     have RQ5 := hid (upR hb5 RQ.out)
     have HU5 := hid hu5
     have HGF0 := hid hgf
     have z := zeroState
     clear hu5 hb5 hgf lq RQ HGO HUC HCP0 HLX0
     go_upto_region 11 with (go_at_call 7; refine HCQ.out.mono ?_; rintro e' w6 ⟨X, rfl, hsim, hcd, hb6⟩; have sv := svState_newv w6 oState X; have HSM := hid hsim; have HCD := hid hcd; have HB6 := hid hb6; clear hsim hcd hb6)
     obtain ⟨V0, hV⟩ : ∃ V, w6.alloc (.cells (cel (sState X)) 49) = V := ⟨_, rfl⟩
     have HBF := hid (BF.make HB6.out HCD.out hV)
     have hy : w5.heap.size ≤ w6.heap.size := HB6.out.size
     rw [hV]
     obtain ⟨y, ey⟩ : ∃ y, w6.heap.size = y := ⟨_, rfl⟩
     rw [ey] at HBF hy ⊢
     have HY := hid hy
     have HSUU := hid (HSU0.out V0 (upT HU5.out HBF.out.bel))
     have v24 := fun W => sv24_newv W (fun _ => 0) SH
     have zr := zero_root
     clear hV ey sv HCD HB6 HCQ lx hy z HSU0
     go_upto_region 12 with (go_at_call 30; refine HSUU.out.mono ?_; rintro e' w8 ⟨rfl, hb8⟩)
     obtain ⟨V1, yh, hV1, eyh, rh, hd8, _⟩ := upN2 hb8 (.cells (vs .u8 32 SH) 24)
     rw [hV1, eyh]
     have HB1 := hid (HBF.out.below (upT hb8 hd8))
     have RH := hid rh
     have HGF := hid (HGF0.out X HSM.out trivial)
     obtain ⟨f13, e13⟩ : ∃ g, X.f13 = g := ⟨_, rfl⟩
     rw [e13] at HGF
     have hne : yh ≠ y := rows_ne rh HB1.out.row (by decide)
     have HHY := hid hne
     have m0 : X = { X with f13 := mxV f13 SH E 0 } := by rw [mx_zero, ← e13]
     have M0 := hid m0
     clear hV1 eyh rh hd8 hb8 HSUU v24 zr HBF HGF0 HSM e13 hne m0
     go_wp2
     go_loopw [15] (fun i wr => ∃ k : Nat, k ≤ 32 ∧ i = .int .i64 k ∧ BF w5 y wr { X with f13 := mxV f13 SH E k } ∧ wr.heap[yh]? = some (.cells (vs .u8 32 SH) 24)) (fun i _ => 32 - (intOf i).toNat)
     case atStart => exact ⟨0, by omega, rfl, by rw [← M0.out]; exact HB1.out, RH.out⟩
     case round =>
      clear HB1 RH M0
      obtain ⟨k, hk, rfl, hbf, rh⟩ := hrel
      by_cases hlt : k < 32
      ·have k1 : (k : Int) < 32 := by omega
       have k2 : IntKind.i64.wrap ((k : Int) + 1) = (k : Int) + 1 := by rw [IntKind.wrap_i64]; omega
       have e8 : EP.tmod 8 = (E : Int) := by rw [Int.tmod_eq_emod_of_nonneg hEP0]; exact eE8
       have E1 : (E : Int) < 8 := by omega
       have c13 := mix_at hbf.row (32 * E + k) (by omega)
       have fz := row_frozen hbf.row (723 + (32 * E + k))
       have ch := row_int rh k hlt
       have hst := mx_step f13 SH E k
       have hset := st_13 { X with f13 := mxV f13 SH E k } (32 * E + k) (by omega)
       have hat := mx_at f13 SH E k
       simp only [] at c13 hset
       rw [hat] at c13
       have ead : 723 + (32 * E + k) = 723 + E * 32 + k := by omega
       rw [ead] at c13 fz hset
       have HBB := hid hbf
       have RHH := hid rh
       have HST := hid hst
       have HSET := hid hset
       clear hbf rh hst hset hat ead
       generalize f13 (32 * E + k) = FJ at c13 HST
       generalize SH k = SK at ch HST
       go_upto_region 15 with fail
       go_region
       obtain ⟨VB, hVB⟩ : ∃ V, (wr.setCell ⟨y, 723 + E * 32 + k, none⟩ (.int .u8 (bits .xor .u8 FJ SK))).drew = V := ⟨_, rfl⟩
       rw [hVB]
       have hbg : BF w5 y VB { X with f13 := mxV f13 SH E (k + 1) } := by
        rw [← hVB, ← HST.out]
        exact (HBB.out.setY HY.out (723 + E * 32 + k) _ (HSET.out _) rfl rfl rfl rfl rfl rfl rfl).drew
       have rhg : VB.heap[yh]? = some (.cells (vs .u8 32 SH) 24) := by
        rw [← hVB]
        exact (heap_set_other HHY.out).trans RHH.out
       have HBG := hid hbg
       have RHG := hid rhg
       clear hVB hbg rhg HBB RHH HST HSET c13 ch fz
       go_wp2
       go_roundw
       case rel => exact ⟨k + 1, by omega, by go_num, HBG.out, RHG.out⟩
       case measure => simp [intOf]; omega
      ·obtain rfl : k = 32 := by omega
       have kN : ¬ ((32 : Nat) : Int) < 32 := by omega
       obtain ⟨Y, eY⟩ : ∃ Y, { X with f13 := mxV f13 SH E 32 } = Y := ⟨_, rfl⟩
       rw [eY] at HGF hbf
       have HBY := hid hbf
       have RQ := hid ((hbf.bel.block _ (some_ltK RQ5.out)).trans RQ5.out)
       have HU6 := upT HU5.out hbf.bel
       have HBX := hid (upT HB.out HU6)
       have R6X := hid (upR HU6 R2.out)
       have RY := hid hbf.row
       have HNE : Hid (y12 ≠ w.heap.size + 2) := rows_ne RQ.out R6X.out (by decide)
       have hw5 : w.heap.size ≤ w5.heap.size := (upT HB.out HU5.out).size
       have HNY : Hid (y ≠ w.heap.size + 2) := by have := HY.out; have := some_ltK (upR HU5.out R2.out); unfold Hid; omega
       clear hbf rh eY HU6 RQ5 HU5 hk
       go_upto_region 16 with fail
       refine wp_region_noPanic ?_
       refine wp_region_held_drew (S := fun W => W.heap[y12]? = some (.cells (vs .u8 32 QV) 24) ∧ W.heap[y]? = some (.cells (cel (sState Y)) 49)) (by kernel_rfl) (⟨RQ.out, RY.out⟩) (fun hHeld => ?_)
       generalize eWD : wr.drew = wd at hHeld ⊢
       have hBd : Up w wd := by rw [← eWD]; exact HBX.out.drew
       have RW0 : Hid (wd.heap[y12]? = some (.cells (vs .u8 32 QV) 24)) := by rw [← eWD]; exact RQ.out
       have RW1 : Hid (wd.heap[y]? = some (.cells (cel (sState Y)) 49)) := by rw [← eWD]; exact RY.out
       have R6 : Hid (wd.heap[w.heap.size + 2]? = some (.cells (cel (sState oState)) 49)) := by rw [← eWD]; exact R6X.out
       have HBG := hid (show BF w5 y wd Y by rw [← eWD]; exact HBY.out.drew)
       clear eWD
       refine tk 0 (v := ?v813) ?y813 hHeld ?r813
       case y813 => intro w hSw; have ld0 := lvState_run hSw.2; go_simp; try with_reducible rfl
       refine tk 1 (v := ?v814) ?y814 hHeld ?r814
       case y814 => intro w hSw; have ld0 := lv24_run hSw.1; go_simp; try with_reducible rfl
       try simp only [Act.put, z_1, z_2, z_3, z_4, z_5, z_6, z_7]
       refine rd2 2 3 (fun K hK => ?_) (fun K hK => ?_)
       ·have ld := bs22_1 wd QV
        go_simp
        obtain ⟨x1, yq, hx, ey, rq, hd1, bq⟩ := upN2 hBd (.cells (vs .u8 32 QV) 24)
        have qq : wd.heap.size ≤ yq := Nat.le_of_eq ey
        have r6l := some_ltK R6.out
        rw [hx, ey]
        clear hx ey ld
        refine hK.out _ _ ⟨(upR hd1 RW0.out), (upR hd1 RW1.out)⟩ (fun hHeld => ?_)
        clear hK K
        try simp only [Act.put, z_1, z_2, z_3, z_4, z_5, z_6, z_7]
        refine rd1 3 (fun K hK => ?_)
        have r61 := upR hd1 R6.out
        have sv := svState_run r61 Y
        go_simp
        have q0 : (x1.setRow (w.heap.size + 2) (cel (sState Y))).heap[y12]? = some (.cells (vs .u8 32 QV) 24) := by rw [setRow_other HNE.out]; exact upR hd1 RW0.out
        have q1 : (x1.setRow (w.heap.size + 2) (cel (sState Y))).heap[y]? = some (.cells (cel (sState Y)) 49) := by rw [setRow_other HNY.out]; exact upR hd1 RW1.out
        refine hK.out _ _ ⟨q0, q1⟩ (fun hHeld => ?_)
        clear hK K
        try simp only [Act.put, z_1, z_2, z_3, z_4, z_5, z_6, z_7]
        have rq2 : (x1.setRow (w.heap.size + 2) (cel (sState Y))).heap[yq]? = some (.cells (vs .u8 32 QV) 24) := by rw [setRow_other (by omega)]; exact rq
        refine rd1 4 (fun K hK => ?_)
        go_simp
        refine hK.out _ _ ⟨q0, q1⟩ (fun hHeld => ?_)
        clear hK K
        try simp only [Act.put, z_1, z_2, z_3, z_4, z_5, z_6, z_7]
        refine rd1 5 (fun K hK => ?_)
        go_simp
        refine hK.out _ _ ⟨q0, q1⟩ (fun hHeld => ?_)
        clear hK K
        try simp only [Act.put, z_1, z_2, z_3, z_4, z_5, z_6, z_7]
        refine wpAnyH_done (by kernel_rfl) ?_ _
        refine NoPanic.normal ?_
        go_wp2
        exact retState3 6 7 8 (w.heap.size + 2) Y 49 (.slice (some ⟨yq, 0, none⟩) 1 1) (.int .i64 0) rfl rfl rfl rfl rfl (setRow_at r61) ⟨_, _, _, rfl, ((HBG.out.below hd1).give r61 (cel (sState Y))).to (by omega) HGF.out, .inr (.inr ⟨yq, 0, rfl, by omega, some_ltK (rq2), fun j hj => by rw [Nat.zero_add]; exact row_int (rq2) j hj⟩), .inr ⟨_, rfl, bq⟩, below_row (upT hBd hd1) (by omega) _⟩
       ·have sv := svState_run R6.out Y
        go_simp
        obtain ⟨x0, hx0⟩ : ∃ W, wd.setRow (w.heap.size + 2) (cel (sState Y)) = W := ⟨_, rfl⟩
        have r60 : x0.heap[w.heap.size + 2]? = some (.cells (cel (sState Y)) 49) := by rw [← hx0]; exact setRow_at R6.out
        have hB0 : Up w x0 := by rw [← hx0]; exact below_row hBd (by omega) _
        have q0 : x0.heap[y12]? = some (.cells (vs .u8 32 QV) 24) := by rw [← hx0, setRow_other HNE.out]; exact RW0.out
        have q1 : x0.heap[y]? = some (.cells (cel (sState Y)) 49) := by rw [← hx0, setRow_other HNY.out]; exact RW1.out
        have hrs := HBG.out.give R6.out (cel (sState Y))
        rw [hx0] at hrs ⊢
        refine hK.out _ _ ⟨q0, q1⟩ (fun hHeld => ?_)
        clear hK K hx0 sv
        try simp only [Act.put, z_1, z_2, z_3, z_4, z_5, z_6, z_7]
        refine rd1 2 (fun K hK => ?_)
        have ld := bs22_1 x0 QV
        go_simp
        obtain ⟨x1, yq, hx, ey, rq, hd1, bq⟩ := upN2 hB0 (.cells (vs .u8 32 QV) 24)
        rw [hx, ey]
        clear hx ey ld
        refine hK.out _ _ ⟨(upR hd1 q0), (upR hd1 q1)⟩ (fun hHeld => ?_)
        clear hK K
        try simp only [Act.put, z_1, z_2, z_3, z_4, z_5, z_6, z_7]
        refine rd1 4 (fun K hK => ?_)
        go_simp
        refine hK.out _ _ ⟨(upR hd1 q0), (upR hd1 q1)⟩ (fun hHeld => ?_)
        clear hK K
        try simp only [Act.put, z_1, z_2, z_3, z_4, z_5, z_6, z_7]
        refine rd1 5 (fun K hK => ?_)
        go_simp
        refine hK.out _ _ ⟨(upR hd1 q0), (upR hd1 q1)⟩ (fun hHeld => ?_)
        clear hK K
        try simp only [Act.put, z_1, z_2, z_3, z_4, z_5, z_6, z_7]
        refine wpAnyH_done (by kernel_rfl) ?_ _
        refine NoPanic.normal ?_
        go_wp2
        exact retState3 6 7 8 (w.heap.size + 2) Y 49 (.slice (some ⟨yq, 0, none⟩) 1 1) (.int .i64 0) rfl rfl rfl rfl rfl (upR hd1 r60) ⟨_, _, _, rfl, (hrs.below hd1).to (by omega) HGF.out, .inr (.inr ⟨yq, 0, rfl, by omega, some_ltK (rq), fun j hj => by rw [Nat.zero_add]; exact row_int (rq) j hj⟩), .inr ⟨_, rfl, bq⟩, upT hB0 hd1⟩
  ·have eE : rdE x s f n = 7 := by unfold rdE; rw [hR, if_pos rfl, h7]; rfl
   have eS : rdS x s f n = oState := by unfold rdS; rw [eE]; rfl
   have eN : rdK x = 0 := by unfold rdK; rw [hR, h7]; rfl
   have hpr1 : ∀ W, Below W0.heap.size W0 W → Calls Tryz.prog 23 #[.agg (cel (sState x))] W fun e' w' => e' = .returned (.tuple #[.int .u64 (prV x), .int .i64 7]) ∧ Below W.heap.size W w' := fun W h => by
    have := hpr W (hB0.trans (h.mono hB0.size))
    rw [h7] at this
    exact this
   rw [eE, eS, eN]
   generalize rdQ x s = QQ
   generalize prV x = PV at hpr1
   have HPR := hid hpr1
   clear hri hB0 hW0 r0 r1 r2 hx hw hn hs hr hC hlk hpr hpr1
   go_enter Tryz.func9, Tryz.ntmps9
   go_upto_region 1 with fail
   rw [HWo.out]
   clear HWo z
   go_upto_region 3 with (go_at_call 22; refine HRI.out.mono ?_; rintro e' w1 ⟨rfl, hb1⟩)
   replace lx := lvState_run ((hb1.block _ (by omega)).trans R0.out)
   have hp1 := HPR.out w1 hb1
   have HP1 := hid hp1
   have HB1 := hid hb1
   clear hp1 hb1 HPR
   go_wp2_with (go_at_call 23; refine HP1.out.mono ?_; rintro e' w2 ⟨rfl, hb2⟩; have r3 := (hb2.block _ (by have := HB1.out.size; omega)).trans ((HB1.out.block _ z2).trans R2.out); have s1 := svState_run r3 oState)
   exact retState3 6 7 8 (w.heap.size + 2) oState 49 (.slice none 0 0) (.int .i64 7) rfl rfl rfl rfl rfl (setRow_at r3) ⟨oState, none, 0, rfl, resO _ _, .inl ⟨rfl, rfl, rfl⟩, .inl rfl, below_row (HB.out.trans ((HB1.out.trans (hb2.mono HB1.out.size)).mono HB.out.size)) (by omega) _⟩
end Go.Proofs.YtopnhpllidegnaaGreatDoor
