/-
  What afterBlock answers: the words behind one more block.
-/
import Derived.Test.YtficlakgameglaaDoorHaA
import Derived.ScopeJumps
import Derived.Deep.Cut
namespace Go.Proofs.YtficlakgameglaaDoor

open Go.RowKit

set_option linter.unusedVariables false

/-- What the memory holds while the rounds go on. -/
structure InMem (f s : Nat → Int) (w : World) (q : Nat) (w' : World) : Prop where
  below : Below w.heap.size w w'
  words : w'.heap[w.heap.size]? = some (.cells (vs .u32 8 s) 136)
  res : w'.heap[w.heap.size + 1 + 1]? = some (.cells (vs .u32 8 fun _ => 0) 136)
  spread : w'.heap[q]? = some (.cells (vs .u32 64 (schW f)) 147)

theorem InMem.drew {f s : Nat → Int} {w : World} {q : Nat} {w' : World} (h : InMem f s w q w') : InMem f s w q w'.drew := ⟨h.below.drew, h.words, h.res, h.spread⟩

theorem set8 (old g : Nat → Int) (v0 v1 v2 v3 v4 v5 v6 v7 : Int) (e0 : v0 = g 0) (e1 : v1 = g 1) (e2 : v2 = g 2) (e3 : v3 = g 3) (e4 : v4 = g 4) (e5 : v5 = g 5) (e6 : v6 = g 6) (e7 : v7 = g 7) :
    ((((((((vs .u32 8 old).setIfInBounds 0 (.int .u32 v0)).setIfInBounds 1 (.int .u32 v1)).setIfInBounds 2 (.int .u32 v2)).setIfInBounds 3 (.int .u32 v3)).setIfInBounds 4 (.int .u32 v4)).setIfInBounds 5 (.int .u32 v5)).setIfInBounds 6 (.int .u32 v6)).setIfInBounds 7 (.int .u32 v7) = vs .u32 8 g := by
  rw [vs_set, vs_set, vs_set, vs_set, vs_set, vs_set, vs_set, vs_set]
  refine vs_congr fun i hi => ?_
  rcases (by omega : i = 0 ∨ i = 1 ∨ i = 2 ∨ i = 3 ∨ i = 4 ∨ i = 5 ∨ i = 6 ∨ i = 7) with h | h | h | h | h | h | h | h
  all_goals
    subst h
    simp [*]

theorem row8 {b : Nat} {w' : World} (old : Nat → Int) (hr : w'.heap[b]? = some (.cells (vs .u32 8 old) 136)) (g : Nat → Int) (v0 v1 v2 v3 v4 v5 v6 v7 : Int) (e0 : v0 = g 0) (e1 : v1 = g 1) (e2 : v2 = g 2) (e3 : v3 = g 3) (e4 : v4 = g 4) (e5 : v5 = g 5) (e6 : v6 = g 6) (e7 : v7 = g 7) :
    ((((((((w'.setCell ⟨b, 0, none⟩ (.int .u32 v0)).setCell ⟨b, 1, none⟩ (.int .u32 v1)).setCell ⟨b, 2, none⟩ (.int .u32 v2)).setCell ⟨b, 3, none⟩ (.int .u32 v3)).setCell ⟨b, 4, none⟩ (.int .u32 v4)).setCell ⟨b, 5, none⟩ (.int .u32 v5)).setCell ⟨b, 6, none⟩ (.int .u32 v6)).setCell ⟨b, 7, none⟩ (.int .u32 v7)).heap[b]? = some (.cells (vs .u32 8 g) 136) := by
  have r0 := row_set hr 0 (.int .u32 v0)
  have r1 := row_set r0 1 (.int .u32 v1)
  have r2 := row_set r1 2 (.int .u32 v2)
  have r3 := row_set r2 3 (.int .u32 v3)
  have r4 := row_set r3 4 (.int .u32 v4)
  have r5 := row_set r4 5 (.int .u32 v5)
  have r6 := row_set r5 6 (.int .u32 v6)
  have r7 := row_set r6 7 (.int .u32 v7)
  rw [set8 old g v0 v1 v2 v3 v4 v5 v6 v7 e0 e1 e2 e3 e4 e5 e6 e7] at r7
  exact r7

theorem ret_row8 {fn : Func} {R : Ending → World → Prop} {a : Act} {w' : World} (t : Tmp) (b : Nat) (old g : Nat → Int) (v0 v1 v2 v3 v4 v5 v6 v7 : Int) (h : fn.results = #[.cell t 136]) (hd : a.defers = []) (ht : a.tmps.getD t undef = .pointer (some ⟨b, 0, none⟩)) (hr : w'.heap[b]? = some (.cells (vs .u32 8 old) 136)) (e0 : v0 = g 0) (e1 : v1 = g 1) (e2 : v2 = g 2) (e3 : v3 = g 3) (e4 : v4 = g 4) (e5 : v5 = g 5) (e6 : v6 = g 6) (e7 : v7 = g 7)
    (hR : R (.returned (.agg (vs .u32 8 g))) ((((((((w'.setCell ⟨b, 0, none⟩ (.int .u32 v0)).setCell ⟨b, 1, none⟩ (.int .u32 v1)).setCell ⟨b, 2, none⟩ (.int .u32 v2)).setCell ⟨b, 3, none⟩ (.int .u32 v3)).setCell ⟨b, 4, none⟩ (.int .u32 v4)).setCell ⟨b, 5, none⟩ (.int .u32 v5)).setCell ⟨b, 6, none⟩ (.int .u32 v6)).setCell ⟨b, 7, none⟩ (.int .u32 v7)).drew) : bodyPost Tryd.prog fn R .ret a ((((((((w'.setCell ⟨b, 0, none⟩ (.int .u32 v0)).setCell ⟨b, 1, none⟩ (.int .u32 v1)).setCell ⟨b, 2, none⟩ (.int .u32 v2)).setCell ⟨b, 3, none⟩ (.int .u32 v3)).setCell ⟨b, 4, none⟩ (.int .u32 v4)).setCell ⟨b, 5, none⟩ (.int .u32 v5)).setCell ⟨b, 6, none⟩ (.int .u32 v6)).setCell ⟨b, 7, none⟩ (.int .u32 v7)).drew :=
  bodyPost_ret (results_cell h a.tmps _ b _ ht (load_row ((heap_drew _ _).trans (row8 old hr g v0 v1 v2 v3 v4 v5 v6 v7 e0 e1 e2 e3 e4 e5 e6 e7)) 136 _ Tryd.underlying136 rfl (by rw [vs_size]; kernel_rfl))) hd hR

/-- What holds where 'round' is jumped to. -/
def Again (K f s : Nat → Int) (w : World) (a' : Act) (w' : World) : Prop :=
  ∃ q, InMem f s w q w' ∧ ∃ (t : Nat) (la lb lc ld le lf lg lh : Int) (u15 u16 u17 u18 u19 u20 u21 u22 u23 u24 u25 u26 u27 u28 u29 u30 u31 u32 u33 u34 u35 u36 u37 u38 u39 u40 u41 u42 u43 u44 u45 u46 u47 u48 u49 u50 u51 u52 u53 u54 u55 u56 u57 u58 u59 u60 u61 u62 u63 u64 u65 u66 u67 u68 u69 u70 u71 u72 u73 u74 u75 u76 u77 u78 u79 u80 u81 u82 u83 u84 u85 u86 u87 u88 u89 u90 u91 u92 u93 u94 u95 u96 u97 u98 u99 u100 u101 : Value), a' = { tmps := #[.agg (vs .u32 8 s), .agg (vs .u8 64 f), .pointer (some ⟨w.heap.size, 0, none⟩), .pointer (some ⟨w.heap.size + 1, 0, none⟩), .pointer (some ⟨w.heap.size + 1 + 1, 0, none⟩), .pointer (some ⟨q, 0, none⟩), .int .u32 la, .int .u32 lb, .int .u32 lc, .int .u32 ld, .int .u32 le, .int .u32 lf, .int .u32 lg, .int .u32 lh, .int .i64 t, u15, u16, u17, u18, u19, u20, u21, u22, u23, u24, u25, u26, u27, u28, u29, u30, u31, u32, u33, u34, u35, u36, u37, u38, u39, u40, u41, u42, u43, u44, u45, u46, u47, u48, u49, u50, u51, u52, u53, u54, u55, u56, u57, u58, u59, u60, u61, u62, u63, u64, u65, u66, u67, u68, u69, u70, u71, u72, u73, u74, u75, u76, u77, u78, u79, u80, u81, u82, u83, u84, u85, u86, u87, u88, u89, u90, u91, u92, u93, u94, u95, u96, u97, u98, u99, u100, u101, undef, undef, undef, undef, undef, undef, undef, undef, undef, undef, undef, undef, undef, undef, undef, undef, undef, undef, undef, undef, undef, undef, undef, undef, undef, undef, undef, undef, undef, undef, undef, undef, undef], defers := [] } ∧ t < 64 ∧ la = rnd K (schW f) s t 0 ∧ lb = rnd K (schW f) s t 1 ∧ lc = rnd K (schW f) s t 2 ∧ ld = rnd K (schW f) s t 3 ∧ le = rnd K (schW f) s t 4 ∧ lf = rnd K (schW f) s t 5 ∧ lg = rnd K (schW f) s t 6 ∧ lh = rnd K (schW f) s t 7

theorem again_mk {K f s : Nat → Int} {w : World} {q : Nat} {w' : World} (hm : InMem f s w q w') (t : Nat) (tv : Value) (la lb lc ld le lf lg lh : Int) (u15 u16 u17 u18 u19 u20 u21 u22 u23 u24 u25 u26 u27 u28 u29 u30 u31 u32 u33 u34 u35 u36 u37 u38 u39 u40 u41 u42 u43 u44 u45 u46 u47 u48 u49 u50 u51 u52 u53 u54 u55 u56 u57 u58 u59 u60 u61 u62 u63 u64 u65 u66 u67 u68 u69 u70 u71 u72 u73 u74 u75 u76 u77 u78 u79 u80 u81 u82 u83 u84 u85 u86 u87 u88 u89 u90 u91 u92 u93 u94 u95 u96 u97 u98 u99 u100 u101 : Value) (ht : t < 64) (hv : tv = .int .i64 t) (e : la = rnd K (schW f) s t 0 ∧ lb = rnd K (schW f) s t 1 ∧ lc = rnd K (schW f) s t 2 ∧ ld = rnd K (schW f) s t 3 ∧ le = rnd K (schW f) s t 4 ∧ lf = rnd K (schW f) s t 5 ∧ lg = rnd K (schW f) s t 6 ∧ lh = rnd K (schW f) s t 7) :
    Again K f s w { tmps := #[.agg (vs .u32 8 s), .agg (vs .u8 64 f), .pointer (some ⟨w.heap.size, 0, none⟩), .pointer (some ⟨w.heap.size + 1, 0, none⟩), .pointer (some ⟨w.heap.size + 1 + 1, 0, none⟩), .pointer (some ⟨q, 0, none⟩), .int .u32 la, .int .u32 lb, .int .u32 lc, .int .u32 ld, .int .u32 le, .int .u32 lf, .int .u32 lg, .int .u32 lh, tv, u15, u16, u17, u18, u19, u20, u21, u22, u23, u24, u25, u26, u27, u28, u29, u30, u31, u32, u33, u34, u35, u36, u37, u38, u39, u40, u41, u42, u43, u44, u45, u46, u47, u48, u49, u50, u51, u52, u53, u54, u55, u56, u57, u58, u59, u60, u61, u62, u63, u64, u65, u66, u67, u68, u69, u70, u71, u72, u73, u74, u75, u76, u77, u78, u79, u80, u81, u82, u83, u84, u85, u86, u87, u88, u89, u90, u91, u92, u93, u94, u95, u96, u97, u98, u99, u100, u101, undef, undef, undef, undef, undef, undef, undef, undef, undef, undef, undef, undef, undef, undef, undef, undef, undef, undef, undef, undef, undef, undef, undef, undef, undef, undef, undef, undef, undef, undef, undef, undef, undef], defers := [] } w' := by
  subst hv
  exact ⟨q, hm, t, la, lb, lc, ld, le, lf, lg, lh, u15, u16, u17, u18, u19, u20, u21, u22, u23, u24, u25, u26, u27, u28, u29, u30, u31, u32, u33, u34, u35, u36, u37, u38, u39, u40, u41, u42, u43, u44, u45, u46, u47, u48, u49, u50, u51, u52, u53, u54, u55, u56, u57, u58, u59, u60, u61, u62, u63, u64, u65, u66, u67, u68, u69, u70, u71, u72, u73, u74, u75, u76, u77, u78, u79, u80, u81, u82, u83, u84, u85, u86, u87, u88, u89, u90, u91, u92, u93, u94, u95, u96, u97, u98, u99, u100, u101, rfl, ht, e⟩

set_option maxRecDepth 20000 in
set_option maxHeartbeats 4000000 in
theorem after_any (K f s : Nat → Int) (w : World) (hf : ∀ i, i < 64 → 0 ≤ f i ∧ f i < 256) (hs : ∀ i, i < 8 → 0 ≤ s i ∧ s i < 4294967296) (hK : Tab w 1 64 K) :
    Calls Tryd.prog 82 #[.agg (vs .u32 8 s), .agg (vs .u8 64 f)] w fun e w' => e = .returned (.agg (vs .u32 8 (comp K f s))) ∧ Below w.heap.size w w' := by
  have HF := hid hf
  have HKK := hid hK
  have HSS := hid hs
  clear hf hK hs
  go_enter Tryd.func82, Tryd.ntmps82
  go_wp2
  refine wp_scope_jumps 0 (Again K f s w) (fun a' _ => 64 - (intOf (a'.tmps.getD 14 undef)).toNat) rfl ?_ ?_
  · go_upto_region 2 with (first
      | (refine wpList_load_is (by rfl) 137 _ (by rfl) _ _ (by rfl) (load_row (b := w.heap.size + 1) (t := 137) ((heap_old (by simp)).trans (heap_new (by simp))) 137 _ Tryd.underlying137 (by rfl) (by rw [vs_size]; kernel_rfl)) ?_)
      | (go_at_call 91; refine (spread_any f _ HF.out).mono ?_; rintro e w1 ⟨rfl, hb⟩)
      | (refine wpList_store_is (by rfl) 147 _ _ (by rfl) _ _ (by rfl) (by rfl) (by rfl) (run_storeAt_new _ 147 _ (vs .u32 64 (schW f)) (by rw [vs_size]; kernel_rfl) (by rw [vs_size]; rfl) (vs_one _ _ _)) ?_))
    obtain ⟨w2, hw2⟩ : ∃ w2, w1.alloc (.cells (vs .u32 64 (schW f)) 147) = w2 := ⟨_, rfl⟩
    have hz : w.heap.size + 3 ≤ w1.heap.size := by have := hb.size; simpa using this
    have hm : InMem f s w w1.heap.size w2 := by
      rw [← hw2]
      refine ⟨?_, ?_, ?_, heap_new rfl⟩
      · refine (Below.trans ?_ (hb.mono (by simp; omega))).alloc (by omega) _
        go_grown
      · exact (heap_old (by omega)).trans ((hb.block _ (by simp; omega)).trans ((heap_old (by simp; omega)).trans ((heap_old (by simp)).trans (heap_new rfl))))
      · exact (heap_old (by omega)).trans ((hb.block _ (by simp)).trans (heap_new (by simp)))
    rw [hw2]
    obtain ⟨q, hq⟩ : ∃ q, w1.heap.size = q := ⟨_, rfl⟩
    rw [hq] at hm hz ⊢
    clear hw2 hb hq
    have ck := (HKK.out.below hm.below).2 0 (by omega)
    have cs := row_int hm.spread 0 (by omega)
    have c0 := row_int hm.words 0 (by omega)
    obtain ⟨b0, b0'⟩ := HSS.out 0 (by omega)
    have c1 := row_int hm.words 1 (by omega)
    obtain ⟨b1, b1'⟩ := HSS.out 1 (by omega)
    have c2 := row_int hm.words 2 (by omega)
    obtain ⟨b2, b2'⟩ := HSS.out 2 (by omega)
    have c3 := row_int hm.words 3 (by omega)
    obtain ⟨b3, b3'⟩ := HSS.out 3 (by omega)
    have c4 := row_int hm.words 4 (by omega)
    obtain ⟨b4, b4'⟩ := HSS.out 4 (by omega)
    have c5 := row_int hm.words 5 (by omega)
    obtain ⟨b5, b5'⟩ := HSS.out 5 (by omega)
    have c6 := row_int hm.words 6 (by omega)
    obtain ⟨b6, b6'⟩ := HSS.out 6 (by omega)
    have c7 := row_int hm.words 7 (by omega)
    obtain ⟨b7, b7'⟩ := HSS.out 7 (by omega)
    have HM := hid hm
    clear hm
    obtain ⟨la, e0⟩ : ∃ x, x = s 0 := ⟨_, rfl⟩
    rw [← e0] at c0 b0 b0'
    obtain ⟨lb, e1⟩ : ∃ x, x = s 1 := ⟨_, rfl⟩
    rw [← e1] at c1 b1 b1'
    obtain ⟨lc, e2⟩ : ∃ x, x = s 2 := ⟨_, rfl⟩
    rw [← e2] at c2 b2 b2'
    obtain ⟨ld, e3⟩ : ∃ x, x = s 3 := ⟨_, rfl⟩
    rw [← e3] at c3 b3 b3'
    obtain ⟨le, e4⟩ : ∃ x, x = s 4 := ⟨_, rfl⟩
    rw [← e4] at c4 b4 b4'
    obtain ⟨lf, e5⟩ : ∃ x, x = s 5 := ⟨_, rfl⟩
    rw [← e5] at c5 b5 b5'
    obtain ⟨lg, e6⟩ : ∃ x, x = s 6 := ⟨_, rfl⟩
    rw [← e6] at c6 b6 b6'
    obtain ⟨lh, e7⟩ : ∃ x, x = s 7 := ⟨_, rfl⟩
    rw [← e7] at c7 b7 b7'
    have EE := hid (And.intro e0 (And.intro e1 (And.intro e2 (And.intro e3 (And.intro e4 (And.intro e5 (And.intro e6 e7)))))))
    clear e0 e1 e2 e3 e4 e5 e6 e7
    obtain ⟨S, eS⟩ : ∃ x, x = schW f 0 := ⟨_, rfl⟩
    rw [← eS] at cs
    obtain ⟨k0, ek⟩ : ∃ x, x = K 0 := ⟨_, rfl⟩
    rw [← ek] at ck
    have ES := hid eS
    have EK := hid ek
    clear eS ek
    go_region_held3 (fun w' => w'.cell? ⟨w.heap.size, 0, none⟩ = some (.int .u32 la) ∧ w'.cell? ⟨w.heap.size, 1, none⟩ = some (.int .u32 lb) ∧ w'.cell? ⟨w.heap.size, 2, none⟩ = some (.int .u32 lc) ∧ w'.cell? ⟨w.heap.size, 3, none⟩ = some (.int .u32 ld)) (exact ⟨c0, c1, c2, c3⟩) (fail)
    go_wp2
    go_region_held3 (fun w' => w'.cell? ⟨w.heap.size, 4, none⟩ = some (.int .u32 le) ∧ w'.cell? ⟨w.heap.size, 5, none⟩ = some (.int .u32 lf) ∧ w'.cell? ⟨w.heap.size, 6, none⟩ = some (.int .u32 lg) ∧ w'.cell? ⟨w.heap.size, 7, none⟩ = some (.int .u32 lh)) (exact ⟨c4, c5, c6, c7⟩) (fail)
    go_wp2
    go_step3
    go_wp2
    generalize hch : bits .xor .u32 (bits .and .u32 le lf) (bits .and .u32 (bits .xor .u32 IntKind.u32.max le) lg) = ch
    generalize hmj : bits .xor .u32 (bits .xor .u32 (bits .and .u32 la lb) (bits .and .u32 la lc)) (bits .and .u32 lb lc) = mj
    have ⟨ch0, ch1⟩ := bits_bd .xor (bits .and .u32 le lf) (bits .and .u32 (bits .xor .u32 IntKind.u32.max le) lg)
    have ⟨mj0, mj1⟩ := bits_bd .xor (bits .xor .u32 (bits .and .u32 la lb) (bits .and .u32 la lc)) (bits .and .u32 lb lc)
    rw [hch] at ch0 ch1
    rw [hmj] at mj0 mj1
    have HCH := hid hch
    have HMJ := hid hmj
    clear hch hmj
    go_region_held3 (fun w' => w'.cell? ⟨1, 0, none⟩ = some (.int .u32 k0) ∧ w'.cell? ⟨q, 0, none⟩ = some (.int .u32 S)) (exact ⟨ck, cs⟩) ((go_at_call 92; refine (turn_any _ _ _ (by omega) (by omega) (by decide)).mono ?_; rintro e w' ⟨rfl, rfl⟩))
    go_upto_region 8 with fail
    generalize hT : IntKind.u32.wrap (IntKind.u32.wrap (IntKind.u32.wrap (IntKind.u32.wrap (lh + bits .xor .u32 (bits .xor .u32 (rt 6 le) (rt 11 le)) (rt 25 le)) + ch) + k0) + S) = T1
    have ET : T1 = one le lf lg lh k0 S := by rw [← hT, ← HCH.out]; simp only [IntKind.wrap_u32']; rfl
    have T10 : 0 ≤ T1 ∧ T1 < 4294967296 := by rw [ET]; unfold one; omega
    have HT := hid ET
    clear hT ET
    obtain ⟨T10, T11⟩ := T10
    go_upto_region 9 with (go_at_call 92; refine (turn_any _ _ _ (by omega) (by omega) (by decide)).mono ?_; rintro e w' ⟨rfl, rfl⟩)
    generalize hU : (bits .xor .u32 (bits .xor .u32 (rt 2 la) (rt 13 la)) (rt 22 la) + mj) % 4294967296 = T2
    have EU : T2 = two la lb lc := by rw [← hU, ← HMJ.out]; rfl
    have T20 : 0 ≤ T2 ∧ T2 < 4294967296 := by rw [EU]; unfold two; omega
    have HU := hid EU
    clear hU EU
    obtain ⟨T20, T21⟩ := T20
    go_wp2
    go_step3
    refine ⟨rfl, ?_⟩
    refine again_mk (HM.out.drew.drew.drew) 1 _ _ _ _ _ _ _ _ _ _ _ _ _ _ _ _ _ _ _ _ _ _ _ _ _ _ _ _ _ _ _ _ _ _ _ _ _ _ _ _ _ _ _ _ _ _ _ _ _ _ _ _ _ _ _ _ _ _ _ _ _ _ _ _ _ _ _ _ _ _ _ _ _ _ _ _ _ _ _ _ _ _ _ _ _ _ _ _ _ _ _ _ _ _ _ _ (by omega) rfl ?_
    obtain ⟨f0, f1, f2, f3, f4, f5, f6, f7⟩ := EE.out
    rw [rnd_0, rnd_1, rnd_2, rnd_3, rnd_4, rnd_5, rnd_6, rnd_7]
    simp only [rnd]
    rw [← f0, ← f1, ← f2, ← f3, ← f4, ← f5, ← f6, ← f7, ← ES.out, ← EK.out, newA, newE, ← HT.out, ← HU.out]
    exact ⟨rfl, rfl, rfl, rfl, rfl, rfl, rfl, rfl⟩
  · intro a' w' hJ
    obtain ⟨q, hJ⟩ := hJ
    obtain ⟨hm, hJ⟩ := hJ
    obtain ⟨t, hJ⟩ := hJ
    obtain ⟨la, hJ⟩ := hJ
    obtain ⟨lb, hJ⟩ := hJ
    obtain ⟨lc, hJ⟩ := hJ
    obtain ⟨ld, hJ⟩ := hJ
    obtain ⟨le, hJ⟩ := hJ
    obtain ⟨lf, hJ⟩ := hJ
    obtain ⟨lg, hJ⟩ := hJ
    obtain ⟨lh, hJ⟩ := hJ
    obtain ⟨u15, hJ⟩ := hJ
    obtain ⟨u16, hJ⟩ := hJ
    obtain ⟨u17, hJ⟩ := hJ
    obtain ⟨u18, hJ⟩ := hJ
    obtain ⟨u19, hJ⟩ := hJ
    obtain ⟨u20, hJ⟩ := hJ
    obtain ⟨u21, hJ⟩ := hJ
    obtain ⟨u22, hJ⟩ := hJ
    obtain ⟨u23, hJ⟩ := hJ
    obtain ⟨u24, hJ⟩ := hJ
    obtain ⟨u25, hJ⟩ := hJ
    obtain ⟨u26, hJ⟩ := hJ
    obtain ⟨u27, hJ⟩ := hJ
    obtain ⟨u28, hJ⟩ := hJ
    obtain ⟨u29, hJ⟩ := hJ
    obtain ⟨u30, hJ⟩ := hJ
    obtain ⟨u31, hJ⟩ := hJ
    obtain ⟨u32, hJ⟩ := hJ
    obtain ⟨u33, hJ⟩ := hJ
    obtain ⟨u34, hJ⟩ := hJ
    obtain ⟨u35, hJ⟩ := hJ
    obtain ⟨u36, hJ⟩ := hJ
    obtain ⟨u37, hJ⟩ := hJ
    obtain ⟨u38, hJ⟩ := hJ
    obtain ⟨u39, hJ⟩ := hJ
    obtain ⟨u40, hJ⟩ := hJ
    obtain ⟨u41, hJ⟩ := hJ
    obtain ⟨u42, hJ⟩ := hJ
    obtain ⟨u43, hJ⟩ := hJ
    obtain ⟨u44, hJ⟩ := hJ
    obtain ⟨u45, hJ⟩ := hJ
    obtain ⟨u46, hJ⟩ := hJ
    obtain ⟨u47, hJ⟩ := hJ
    obtain ⟨u48, hJ⟩ := hJ
    obtain ⟨u49, hJ⟩ := hJ
    obtain ⟨u50, hJ⟩ := hJ
    obtain ⟨u51, hJ⟩ := hJ
    obtain ⟨u52, hJ⟩ := hJ
    obtain ⟨u53, hJ⟩ := hJ
    obtain ⟨u54, hJ⟩ := hJ
    obtain ⟨u55, hJ⟩ := hJ
    obtain ⟨u56, hJ⟩ := hJ
    obtain ⟨u57, hJ⟩ := hJ
    obtain ⟨u58, hJ⟩ := hJ
    obtain ⟨u59, hJ⟩ := hJ
    obtain ⟨u60, hJ⟩ := hJ
    obtain ⟨u61, hJ⟩ := hJ
    obtain ⟨u62, hJ⟩ := hJ
    obtain ⟨u63, hJ⟩ := hJ
    obtain ⟨u64, hJ⟩ := hJ
    obtain ⟨u65, hJ⟩ := hJ
    obtain ⟨u66, hJ⟩ := hJ
    obtain ⟨u67, hJ⟩ := hJ
    obtain ⟨u68, hJ⟩ := hJ
    obtain ⟨u69, hJ⟩ := hJ
    obtain ⟨u70, hJ⟩ := hJ
    obtain ⟨u71, hJ⟩ := hJ
    obtain ⟨u72, hJ⟩ := hJ
    obtain ⟨u73, hJ⟩ := hJ
    obtain ⟨u74, hJ⟩ := hJ
    obtain ⟨u75, hJ⟩ := hJ
    obtain ⟨u76, hJ⟩ := hJ
    obtain ⟨u77, hJ⟩ := hJ
    obtain ⟨u78, hJ⟩ := hJ
    obtain ⟨u79, hJ⟩ := hJ
    obtain ⟨u80, hJ⟩ := hJ
    obtain ⟨u81, hJ⟩ := hJ
    obtain ⟨u82, hJ⟩ := hJ
    obtain ⟨u83, hJ⟩ := hJ
    obtain ⟨u84, hJ⟩ := hJ
    obtain ⟨u85, hJ⟩ := hJ
    obtain ⟨u86, hJ⟩ := hJ
    obtain ⟨u87, hJ⟩ := hJ
    obtain ⟨u88, hJ⟩ := hJ
    obtain ⟨u89, hJ⟩ := hJ
    obtain ⟨u90, hJ⟩ := hJ
    obtain ⟨u91, hJ⟩ := hJ
    obtain ⟨u92, hJ⟩ := hJ
    obtain ⟨u93, hJ⟩ := hJ
    obtain ⟨u94, hJ⟩ := hJ
    obtain ⟨u95, hJ⟩ := hJ
    obtain ⟨u96, hJ⟩ := hJ
    obtain ⟨u97, hJ⟩ := hJ
    obtain ⟨u98, hJ⟩ := hJ
    obtain ⟨u99, hJ⟩ := hJ
    obtain ⟨u100, hJ⟩ := hJ
    obtain ⟨u101, hJ⟩ := hJ
    obtain ⟨rfl, ht, e0, e1, e2, e3, e4, e5, e6, e7⟩ := hJ
    have ck := (HKK.out.below hm.below).2 t ht
    have cs := row_int hm.spread t ht
    obtain ⟨b0, b0'⟩ := rnd_bd K (schW f) s HSS.out t 0 (by omega)
    rw [← e0] at b0 b0'
    obtain ⟨b1, b1'⟩ := rnd_bd K (schW f) s HSS.out t 1 (by omega)
    rw [← e1] at b1 b1'
    obtain ⟨b2, b2'⟩ := rnd_bd K (schW f) s HSS.out t 2 (by omega)
    rw [← e2] at b2 b2'
    obtain ⟨b3, b3'⟩ := rnd_bd K (schW f) s HSS.out t 3 (by omega)
    rw [← e3] at b3 b3'
    obtain ⟨b4, b4'⟩ := rnd_bd K (schW f) s HSS.out t 4 (by omega)
    rw [← e4] at b4 b4'
    obtain ⟨b5, b5'⟩ := rnd_bd K (schW f) s HSS.out t 5 (by omega)
    rw [← e5] at b5 b5'
    obtain ⟨b6, b6'⟩ := rnd_bd K (schW f) s HSS.out t 6 (by omega)
    rw [← e6] at b6 b6'
    obtain ⟨b7, b7'⟩ := rnd_bd K (schW f) s HSS.out t 7 (by omega)
    rw [← e7] at b7 b7'
    have EE := hid (And.intro e0 (And.intro e1 (And.intro e2 (And.intro e3 (And.intro e4 (And.intro e5 (And.intro e6 e7)))))))
    clear e0 e1 e2 e3 e4 e5 e6 e7
    obtain ⟨S, eS⟩ : ∃ x, x = schW f t := ⟨_, rfl⟩
    rw [← eS] at cs
    obtain ⟨k0, ek⟩ : ∃ x, x = K t := ⟨_, rfl⟩
    rw [← ek] at ck
    have ES := hid eS
    have EK := hid ek
    have HM := hid hm
    clear eS ek hm
    have i0 : (0 : Int) ≤ (t : Int) := by omega
    have j0 : (t : Int) < 64 := by omega
    by_cases hl : t + 1 < 64
    · have hl' : (t : Int) + 1 < 64 := by omega
      go_wp2
      generalize hch : bits .xor .u32 (bits .and .u32 le lf) (bits .and .u32 (bits .xor .u32 IntKind.u32.max le) lg) = ch
      generalize hmj : bits .xor .u32 (bits .xor .u32 (bits .and .u32 la lb) (bits .and .u32 la lc)) (bits .and .u32 lb lc) = mj
      have ⟨ch0, ch1⟩ := bits_bd .xor (bits .and .u32 le lf) (bits .and .u32 (bits .xor .u32 IntKind.u32.max le) lg)
      have ⟨mj0, mj1⟩ := bits_bd .xor (bits .xor .u32 (bits .and .u32 la lb) (bits .and .u32 la lc)) (bits .and .u32 lb lc)
      rw [hch] at ch0 ch1
      rw [hmj] at mj0 mj1
      have HCH := hid hch
      have HMJ := hid hmj
      clear hch hmj
      go_region_held3 (fun w' => w'.cell? ⟨1, t, none⟩ = some (.int .u32 k0) ∧ w'.cell? ⟨q, t, none⟩ = some (.int .u32 S)) (exact ⟨ck, cs⟩) ((go_at_call 92; refine (turn_any _ _ _ (by omega) (by omega) (by decide)).mono ?_; rintro e w' ⟨rfl, rfl⟩))
      go_upto_region 8 with fail
      generalize hT : IntKind.u32.wrap (IntKind.u32.wrap (IntKind.u32.wrap (IntKind.u32.wrap (lh + bits .xor .u32 (bits .xor .u32 (rt 6 le) (rt 11 le)) (rt 25 le)) + ch) + k0) + S) = T1
      have ET : T1 = one le lf lg lh k0 S := by rw [← hT, ← HCH.out]; simp only [IntKind.wrap_u32']; rfl
      have T10 : 0 ≤ T1 ∧ T1 < 4294967296 := by rw [ET]; unfold one; omega
      have HT := hid ET
      clear hT ET
      obtain ⟨T10, T11⟩ := T10
      go_upto_region 9 with (go_at_call 92; refine (turn_any _ _ _ (by omega) (by omega) (by decide)).mono ?_; rintro e w' ⟨rfl, rfl⟩)
      generalize hU : (bits .xor .u32 (bits .xor .u32 (rt 2 la) (rt 13 la)) (rt 22 la) + mj) % 4294967296 = T2
      have EU : T2 = two la lb lc := by rw [← hU, ← HMJ.out]; rfl
      have T20 : 0 ≤ T2 ∧ T2 < 4294967296 := by rw [EU]; unfold two; omega
      have HU := hid EU
      clear hU EU
      obtain ⟨T20, T21⟩ := T20
      go_wp2
      go_step3
      refine ⟨rfl, ?_, ?_⟩
      · refine again_mk (HM.out.drew) (t + 1) _ _ _ _ _ _ _ _ _ _ _ _ _ _ _ _ _ _ _ _ _ _ _ _ _ _ _ _ _ _ _ _ _ _ _ _ _ _ _ _ _ _ _ _ _ _ _ _ _ _ _ _ _ _ _ _ _ _ _ _ _ _ _ _ _ _ _ _ _ _ _ _ _ _ _ _ _ _ _ _ _ _ _ _ _ _ _ _ _ _ _ _ _ _ _ _ (by omega) (by go_num) ?_
        obtain ⟨f0, f1, f2, f3, f4, f5, f6, f7⟩ := EE.out
        rw [rnd_0, rnd_1, rnd_2, rnd_3, rnd_4, rnd_5, rnd_6, rnd_7]
        rw [← f0, ← f1, ← f2, ← f3, ← f4, ← f5, ← f6, ← f7, ← ES.out, ← EK.out, newA, newE, ← HT.out, ← HU.out]
        exact ⟨rfl, rfl, rfl, rfl, rfl, rfl, rfl, rfl⟩
      · simp [intOf]
        omega
    · have et : t = 63 := by omega
      subst et
      have c0 := row_int HM.out.words 0 (by omega)
      have x0 := row_int HM.out.res 0 (by omega)
      have y0 := row_frozen HM.out.res 0
      have c1 := row_int HM.out.words 1 (by omega)
      have x1 := row_int HM.out.res 1 (by omega)
      have y1 := row_frozen HM.out.res 1
      have c2 := row_int HM.out.words 2 (by omega)
      have x2 := row_int HM.out.res 2 (by omega)
      have y2 := row_frozen HM.out.res 2
      have c3 := row_int HM.out.words 3 (by omega)
      have x3 := row_int HM.out.res 3 (by omega)
      have y3 := row_frozen HM.out.res 3
      have c4 := row_int HM.out.words 4 (by omega)
      have x4 := row_int HM.out.res 4 (by omega)
      have y4 := row_frozen HM.out.res 4
      have c5 := row_int HM.out.words 5 (by omega)
      have x5 := row_int HM.out.res 5 (by omega)
      have y5 := row_frozen HM.out.res 5
      have c6 := row_int HM.out.words 6 (by omega)
      have x6 := row_int HM.out.res 6 (by omega)
      have y6 := row_frozen HM.out.res 6
      have c7 := row_int HM.out.words 7 (by omega)
      have x7 := row_int HM.out.res 7 (by omega)
      have y7 := row_frozen HM.out.res 7
      obtain ⟨d0, d0'⟩ := HSS.out 0 (by omega)
      obtain ⟨d1, d1'⟩ := HSS.out 1 (by omega)
      obtain ⟨d2, d2'⟩ := HSS.out 2 (by omega)
      obtain ⟨d3, d3'⟩ := HSS.out 3 (by omega)
      obtain ⟨d4, d4'⟩ := HSS.out 4 (by omega)
      obtain ⟨d5, d5'⟩ := HSS.out 5 (by omega)
      obtain ⟨d6, d6'⟩ := HSS.out 6 (by omega)
      obtain ⟨d7, d7'⟩ := HSS.out 7 (by omega)
      generalize g0 : s 0 = s0 at c0 d0 d0'
      generalize g1 : s 1 = s1 at c1 d1 d1'
      generalize g2 : s 2 = s2 at c2 d2 d2'
      generalize g3 : s 3 = s3 at c3 d3 d3'
      generalize g4 : s 4 = s4 at c4 d4 d4'
      generalize g5 : s 5 = s5 at c5 d5 d5'
      generalize g6 : s 6 = s6 at c6 d6 d6'
      generalize g7 : s 7 = s7 at c7 d7 d7'
      have GG := hid (And.intro g0 (And.intro g1 (And.intro g2 (And.intro g3 (And.intro g4 (And.intro g5 (And.intro g6 g7)))))))
      clear g0 g1 g2 g3 g4 g5 g6 g7
      go_wp2
      generalize hch : bits .xor .u32 (bits .and .u32 le lf) (bits .and .u32 (bits .xor .u32 IntKind.u32.max le) lg) = ch
      generalize hmj : bits .xor .u32 (bits .xor .u32 (bits .and .u32 la lb) (bits .and .u32 la lc)) (bits .and .u32 lb lc) = mj
      have ⟨ch0, ch1⟩ := bits_bd .xor (bits .and .u32 le lf) (bits .and .u32 (bits .xor .u32 IntKind.u32.max le) lg)
      have ⟨mj0, mj1⟩ := bits_bd .xor (bits .xor .u32 (bits .and .u32 la lb) (bits .and .u32 la lc)) (bits .and .u32 lb lc)
      rw [hch] at ch0 ch1
      rw [hmj] at mj0 mj1
      have HCH := hid hch
      have HMJ := hid hmj
      clear hch hmj
      go_region_held3 (fun w' => w'.cell? ⟨1, 63, none⟩ = some (.int .u32 k0) ∧ w'.cell? ⟨q, 63, none⟩ = some (.int .u32 S)) (exact ⟨ck, cs⟩) ((go_at_call 92; refine (turn_any _ _ _ (by omega) (by omega) (by decide)).mono ?_; rintro e w' ⟨rfl, rfl⟩))
      go_upto_region 8 with fail
      generalize hT : IntKind.u32.wrap (IntKind.u32.wrap (IntKind.u32.wrap (IntKind.u32.wrap (lh + bits .xor .u32 (bits .xor .u32 (rt 6 le) (rt 11 le)) (rt 25 le)) + ch) + k0) + S) = T1
      have ET : T1 = one le lf lg lh k0 S := by rw [← hT, ← HCH.out]; simp only [IntKind.wrap_u32']; rfl
      have T10 : 0 ≤ T1 ∧ T1 < 4294967296 := by rw [ET]; unfold one; omega
      have HT := hid ET
      clear hT ET
      obtain ⟨T10, T11⟩ := T10
      go_upto_region 9 with (go_at_call 92; refine (turn_any _ _ _ (by omega) (by omega) (by decide)).mono ?_; rintro e w' ⟨rfl, rfl⟩)
      generalize hU : (bits .xor .u32 (bits .xor .u32 (rt 2 la) (rt 13 la)) (rt 22 la) + mj) % 4294967296 = T2
      have EU : T2 = two la lb lc := by rw [← hU, ← HMJ.out]; rfl
      have T20 : 0 ≤ T2 ∧ T2 < 4294967296 := by rw [EU]; unfold two; omega
      have HU := hid EU
      clear hU EU
      obtain ⟨T20, T21⟩ := T20
      go_wp2
      simp only [Exit.jump]
      obtain ⟨f0, f1, f2, f3, f4, f5, f6, f7⟩ := EE.out
      obtain ⟨g0, g1, g2, g3, g4, g5, g6, g7⟩ := GG.out
      show bodyPost Tryd.prog Tryd.f82 _ Exit.ret _ _
      refine ret_row8 4 (w.heap.size + 1 + 1) (fun _ => 0) (comp K f s) _ _ _ _ _ _ _ _ ?_ ?_ ?_ ?_ ?_ ?_ ?_ ?_ ?_ ?_ ?_ ?_ ⟨rfl, ?_⟩
      · kernel_rfl
      · kernel_rfl
      · kernel_rfl
      · exact HM.out.res
      · show _ = (s 0 + rnd K (schW f) s (63 + 1) 0) % 4294967296
        rw [rnd_0, ← f0, ← f1, ← f2, ← f4, ← f5, ← f6, ← f7, ← ES.out, ← EK.out, g0, newA, ← HT.out, ← HU.out]
        omega
      · show _ = (s 1 + rnd K (schW f) s (63 + 1) 1) % 4294967296
        rw [rnd_1, ← f0, g1]
      · show _ = (s 2 + rnd K (schW f) s (63 + 1) 2) % 4294967296
        rw [rnd_2, ← f1, g2]
      · show _ = (s 3 + rnd K (schW f) s (63 + 1) 3) % 4294967296
        rw [rnd_3, ← f2, g3]
      · show _ = (s 4 + rnd K (schW f) s (63 + 1) 4) % 4294967296
        rw [rnd_4, ← f3, ← f4, ← f5, ← f6, ← f7, ← ES.out, ← EK.out, g4, newE, ← HT.out]
        omega
      · show _ = (s 5 + rnd K (schW f) s (63 + 1) 5) % 4294967296
        rw [rnd_5, ← f4, g5]
      · show _ = (s 6 + rnd K (schW f) s (63 + 1) 6) % 4294967296
        rw [rnd_6, ← f5, g6]
      · show _ = (s 7 + rnd K (schW f) s (63 + 1) 7) % 4294967296
        rw [rnd_7, ← f6, g7]
      · have hb := HM.out.below
        have hq : w.heap.size ≤ w.heap.size + 1 + 1 := by omega
        refine Below.drew ?_
        refine Below.setCell (Below.setCell (Below.setCell (Below.setCell (Below.setCell (Below.setCell (Below.setCell (Below.setCell ?_ hq _) hq _) hq _) hq _) hq _) hq _) hq _) hq _
        first | exact hb | exact hb.drew

end Go.Proofs.YtficlakgameglaaDoor
