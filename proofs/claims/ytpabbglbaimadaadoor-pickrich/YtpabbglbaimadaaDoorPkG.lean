/-
  Keys in a row, and what the reference's Sum answers.
-/

import Derived.Test.YtpabbglbaimadaaDoorPkA
import Derived.Test.YtpabbglbaimadaaDoorSkA
import Derived.Test.YtpabbglbaimadaaDoorStS
namespace Go.Proofs.YtpabbglbaimadaaDoor

open Go.RowKit

set_option linter.unusedVariables false

set_option linter.unusedSimpArgs false

set_option maxRecDepth 20000

/-- The keys of a slice, their bytes one behind the other. -/
def Kys (w : World) (a : Option Addr) (len cap : Nat) (f : Nat → Int) : Prop :=
  (a = none ∧ len = 0 ∧ cap = 0) ∨ (∃ x, a = some x ∧ len = 0) ∨ ∃ b off, a = some ⟨b, off, none⟩ ∧ len ≤ cap ∧ b < w.heap.size ∧ ∀ j, j < 48 * len → w.cell? ⟨b, off + j, none⟩ = some (.int .u8 (f j))

theorem Kys.below {w w' : World} {a : Option Addr} {len cap : Nat} {f : Nat → Int} (h : Kys w a len cap f) (hb : Below w.heap.size w w') : Kys w' a len cap f := by
  rcases h with h | h | ⟨b, off, h1, h2, h3, h4⟩
  · exact .inl h
  · exact .inr (.inl h)
  · exact .inr (.inr ⟨b, off, h1, h2, Nat.lt_of_lt_of_le h3 hb.size, fun j hj => (below_cell hb h3).trans (h4 j hj)⟩)

/-- The place of a key in a slice. -/
def ixKy (x i : Value) : Sem Value := Instr.indexAt 63 x i

theorem ixKy_eq (x i : Value) : Instr.indexAt 63 x i = ixKy x i := rfl

theorem sizeKy (w : World) : (sizeOf 44).run Tryd.prog w = .ok 48 w := by
  have hi : (Tryd.prog.info? 44).map (·.size) = some 48 := by kernel_rfl
  cases hq : Tryd.prog.info? 44 with
  | none => simp [hq] at hi
  | some i => simp [hq] at hi; simp [sizeOf, typeInfo, hq, hi]

theorem ixKy_run (w : World) (b off len cap i : Nat) (h : i < len) : (ixKy (.slice (some ⟨b, off, none⟩) len cap) (.int .i64 i)).run Tryd.prog w = .ok (.pointer (some ⟨b, off + 48 * i, none⟩)) w := by
  unfold ixKy Instr.indexAt
  have h1 : (0 : Int) ≤ (i : Int) ∧ (i : Int) < (len : Int) := by omega
  simp only [asIntOf, Sem.run_bind, Sem.run_pure, Result.andThen_ok, run_underlying Tryd.underlying63, if_pos h1, sizeKy, Addr.add_mid, Int.toNat_natCast]
  rw [Nat.mul_comm]

def lvKy (a : Addr) : Sem Value := loadVar 44 a

theorem lvKy_eq (a : Addr) : loadVar 44 a = lvKy a := rfl

theorem lvKy_run {w : World} {b : Nat} {c : Nat → Int} {t : TypeId} (h : w.heap[b]? = some (.cells (vs .u8 48 c) t)) : (lvKy ⟨b, 0, none⟩).run Tryd.prog w = .ok (.agg (vs .u8 48 c)) w :=
  loadAt_var (load_row h 44 _ Tryd.underlying44 rfl (by rw [vs_size]; kernel_rfl))

theorem svKy_run {w : World} {b : Nat} {o : Nat → Int} {t : TypeId} (h : w.heap[b]? = some (.cells (vs .u8 48 o) t)) (c : Nat → Int) : (svKy ⟨b, 0, none⟩ (.agg (vs .u8 48 c))).run Tryd.prog w = .ok () (w.setRow b (vs .u8 48 c)) :=
  run_storeVar_row w b t 44 _ _ h (by rw [vs_size]; kernel_rfl) (by rw [vs_size, vs_size]) (vs_one _ _ _)

theorem retKy {fn : Func} {R : Ending → World → Prop} {a : Act} {w' : World} (t : Tmp) (b : Nat) (c : Nat → Int) (ty : TypeId) (h : fn.results = #[.cell t 44]) (hd : a.defers = []) (ht : a.tmps.getD t undef = .pointer (some ⟨b, 0, none⟩)) (hr : w'.heap[b]? = some (.cells (vs .u8 48 c) ty))
    (hR : R (.returned (.agg (vs .u8 48 c))) w') : bodyPost Tryd.prog fn R .ret a w' :=
  bodyPost_ret (results_cell h a.tmps _ b _ ht (load_row hr 44 _ Tryd.underlying44 rfl (by rw [vs_size]; kernel_rfl))) hd hR

/-- The sum of n keys. -/
def smV (f : Nat → Int) (n j : Nat) : Int := if j < 32 then shaV KW HW f (48 * n) j else shaV KW HW (shaV KW HW f (48 * n)) 32 (j - 32)

theorem smV_bd (f : Nat → Int) (n j : Nat) : 0 ≤ smV f n j ∧ smV f n j < 256 := by
  unfold smV
  split
  · exact shaV_bd ..
  · exact shaV_bd ..

attribute [local go_sem ↓] ixKy_eq lvKy_eq svKy_eq sv24_eq lv24_eq

set_option maxHeartbeats 4000000 in
theorem rsumK_any (a : Option Addr) (n cap : Nat) (f : Nat → Int) (w : World) (hk : Kys w a n cap f) (hf : ∀ j, j < 48 * n → 0 ≤ f j ∧ f j < 256) (hn : 48 * n ≤ 140737488351232) (hC : Tab w 1 64 KW) :
    Calls Tryd.prog 18 #[.slice a n cap] w fun e' w' => e' = .returned (.agg (vs .u8 48 (smV f n))) ∧ Below w.heap.size w w' := by
  obtain ⟨W0, hW0⟩ : ∃ W, w.alloc (.cells (vs .u8 48 fun _ => 0) 44) = W := ⟨_, rfl⟩
  have r0 : W0.heap[w.heap.size]? = some (.cells (vs .u8 48 fun _ => 0) 44) := by rw [← hW0]; exact heap_new rfl
  have hB0 : Below w.heap.size w W0 := by rw [← hW0]; exact (Below.refl _ _).alloc (Nat.le_refl _) _
  have z0 : w.heap.size < W0.heap.size := (Array.getElem?_eq_some_iff.1 r0).1
  have hk0 := hk.below hB0
  have hC0 := hC.below hB0
  have zk := zero_48
  have zr := zero_root
  have hA : ∀ (W : World) a c, Below W0.heap.size W0 W → Bys W a (48 * n) c f → Calls Tryd.prog 31 #[.slice a (48 * n) c] W fun e w' => e = .returned (.agg (vs .u8 32 (shaV KW HW f (48 * n)))) ∧ Below W.heap.size W w' := fun W a c h hb => refsum_any KW f a (48 * n) c W (hC0.below h) hb hf hn
  have hA2 : ∀ (W : World) y, Below W0.heap.size W0 W → W.heap[y]? = some (.cells (vs .u8 32 (shaV KW HW f (48 * n))) 24) → Calls Tryd.prog 31 #[.slice (some ⟨y, 0, none⟩) 32 32] W fun e w' => e = .returned (.agg (vs .u8 32 (shaV KW HW (shaV KW HW f (48 * n)) 32))) ∧ Below W.heap.size W w' := fun W y h hy =>
    refsum_any KW (shaV KW HW f (48 * n)) (some ⟨y, 0, none⟩) 32 32 W (hC0.below h) (.inr (.inr ⟨y, 0, rfl, by omega, by omega, (Array.getElem?_eq_some_iff.1 hy).1, fun j hj => by rw [Nat.zero_add]; exact row_int hy j hj⟩)) (fun j _ => shaV_bd ..) (by omega)
  have hS : ∀ j, smV f n j = if j < 32 then shaV KW HW f (48 * n) j else shaV KW HW (shaV KW HW f (48 * n)) 32 (j - 32) := fun _ => rfl
  generalize smV f n = SM at hS ⊢
  generalize shaV KW HW f (48 * n) = S1 at hA hA2 hS
  generalize shaV KW HW S1 32 = S2 at hA2 hS
  have HB := hid hB0
  have HW := hid hW0
  have HK := hid hk0
  have HA := hid hA
  have HA2 := hid hA2
  have HS := hid hS
  have HR := hid r0
  clear hB0 hW0 hk0 hk hA hA2 hS hC hC0 hf r0
  go_enter Tryd.func18, Tryd.ntmps18
  go_upto_region 1 with fail
  rw [HW.out]
  clear HW
  go_wp2
  go_loopg [3, 4] n (fun k v c wr => ∃ (i : Nat) (v' : Value), v = v' ∧ c = .int .i64 i ∧ i ≤ n ∧ n - i ≤ k ∧ wr.ownsRow W0.heap.size 5 1 v' (48 * i) (bl f (48 * i)) ∧ Below W0.heap.size W0 wr)
  case atStart => exact ⟨0, _, rfl, rfl, by omega, by omega, World.ownsRow_nil _ _ _ _, Below.refl _ _⟩
  case round =>
    obtain ⟨i, v, ev, rfl, hi, hk, ho, hw⟩ := hrel
    obtain rfl := ev.symm
    clear ev
    by_cases hin : i < n
    · have h1 : (i : Int) < (n : Int) := by omega
      rcases HK.out.below hw with ⟨_, h0, _⟩ | ⟨_, _, h0⟩ | ⟨b, off, ea, hlc, hbl, hc⟩
      · omega
      · omega
      subst ea
      have ix := fun W => ixKy_run W b off n cap i hin
      have hby : Bys wr (some ⟨b, off + 48 * i, none⟩) 48 48 (fun j => f (48 * i + j)) := .inr (.inr ⟨b, off + 48 * i, rfl, by omega, by omega, hbl, fun j hj => by rw [Nat.add_assoc]; exact hc (48 * i + j) (by omega)⟩)
      have HO := hid ho
      have HWW := hid hw
      have HBY := hid hby
      clear ho hw hby hc hbl
      obtain ⟨P, eP⟩ : ∃ P, off + 48 * i = P := ⟨_, rfl⟩
      rw [eP] at HBY
      simp only [eP] at ix
      go_wp2_with (at_builtin; (refine wpList_append_bys wr rfl _ _ rfl W0.heap.size v (48 * i) (bl f (48 * i)) rfl HO.out (some ⟨b, P, none⟩) 48 48 _ rfl HBY.out (by omega) HWW.out.size ?_); intro v2 w2 ho2 hg2)
      have hb2 := below_grown HWW.out HO.out HWW.out.size hg2
      rw [bl_add' f _ (48 * i) 48 (fun j _ => rfl)] at ho2
      go_roundg (n - (i + 1))
      case measure => omega
      case rel => exact ⟨i + 1, _, rfl, by simp, by omega, Nat.le_refl _, by rw [show 48 * (i + 1) = 48 * i + 48 by omega]; exact ho2, hb2⟩
    · obtain rfl : i = n := by omega
      obtain ⟨a', c', rfl⟩ := owns_form ho
      have hby := own_byF ho
      have hA := HA.out wr a' c' hw hby
      have v3 := fun W => sv24_newv W (fun _ => 0) S1
      have v4 := fun W => sv24_newv W (fun _ => 0) S2
      have HAA := hid hA
      have HWW := hid hw
      clear hA ho hw hby HA HK hk
      go_upto_region 7 with (go_at_call 31; refine HAA.out.mono ?_; rintro e' w1 ⟨rfl, hb1⟩)
      obtain ⟨W1, hW1⟩ : ∃ W, w1.alloc (.cells (vs .u8 32 S1) 24) = W := ⟨_, rfl⟩
      rw [hW1]
      have r1 : W1.heap[w1.heap.size]? = some (.cells (vs .u8 32 S1) 24) := by rw [← hW1]; exact heap_new rfl
      have hB1 : Below W0.heap.size W0 W1 := by rw [← hW1]; exact (HWW.out.trans (hb1.mono HWW.out.size)).alloc (HWW.out.trans (hb1.mono HWW.out.size)).size _
      obtain ⟨y5, e5⟩ : ∃ y, w1.heap.size = y := ⟨_, rfl⟩
      rw [e5] at r1 ⊢
      have hA2 := HA2.out W1 y5 hB1 r1
      have HAB := hid hA2
      have HB1 := hid hB1
      have R1 := hid r1
      clear hA2 hB1 r1 hW1 e5 hb1 HWW HAA HA2
      go_upto_region 8 with (go_at_call 31; refine HAB.out.mono ?_; rintro e' w2 ⟨rfl, hb2⟩)
      obtain ⟨W2, hW2⟩ : ∃ W, w2.alloc (.cells (vs .u8 32 S2) 24) = W := ⟨_, rfl⟩
      rw [hW2]
      have r2 : W2.heap[w2.heap.size]? = some (.cells (vs .u8 32 S2) 24) := by rw [← hW2]; exact heap_new rfl
      have hG2 : Below W1.heap.size W1 W2 := by rw [← hW2]; exact hb2.alloc hb2.size _
      obtain ⟨y6, e6⟩ : ∃ y, w2.heap.size = y := ⟨_, rfl⟩
      rw [e6] at r2 ⊢
      have r1 := (hG2.block _ (Array.getElem?_eq_some_iff.1 R1.out).1).trans R1.out
      have hB2 := HB1.out.trans (hG2.mono HB1.out.size)
      have r0 := (hB2.block _ z0).trans HR.out
      obtain ⟨W3, hW3⟩ : ∃ W, W2.alloc (.cells (vs .u8 48 fun _ => 0) 44) = W := ⟨_, rfl⟩
      have r7 : W3.heap[W2.heap.size]? = some (.cells (vs .u8 48 fun _ => 0) 44) := by rw [← hW3]; exact heap_new rfl
      have hB3 : Below W2.heap.size W2 W3 := by rw [← hW3]; exact (Below.refl _ _).alloc (Nat.le_refl _) _
      have q1 := (Array.getElem?_eq_some_iff.1 r1).1
      have q2 := (Array.getElem?_eq_some_iff.1 r2).1
      have q0 := (Array.getElem?_eq_some_iff.1 r0).1
      have H0 := hid r0
      have H1 := hid r1
      have H2 := hid r2
      have H7 := hid r7
      have H3 := hid hB3
      have HB2 := hid hB2
      have HW3 := hid hW3
      clear r0 r1 r2 r7 hB3 hB2 hW3 hW2 hG2 hb2 e6 HB1 R1 HAB HR v3 v4 zr
      go_upto_region 9 with fail
      rw [HW3.out]
      obtain ⟨y7, e7⟩ : ∃ y, W2.heap.size = y := ⟨_, rfl⟩
      have E7 := hid e7
      rw [e7] at H7 q0 q1 q2 ⊢
      clear HW3 zk e7
      go_wp2
      go_loopg [8] 33 (fun k c wr => ∃ i : Nat, c = .int .i64 i ∧ i ≤ 32 ∧ 32 - i < k ∧ wr.heap[y7]? = some (.cells (vs .u8 48 fun j => if j < i then S1 j else 0) 44) ∧ Below W2.heap.size W2 wr)
      case atStart => exact ⟨0, rfl, by omega, by omega, H7.out, H3.out⟩
      case round =>
        clear H7 H3
        obtain ⟨i, rfl, hi, hk, hr, hw⟩ := hrel
        by_cases h32 : i < 32
        · have h32z : (i : Int) < 32 := by omega
          have c5 : wr.cell? ⟨y5, i, none⟩ = some (.int .u8 (S1 i)) := row_int ((hw.block _ (by have := E7.out; omega)).trans H1.out) i h32
          have c7 := row_int hr i (by omega)
          have f7 := row_frozen hr i
          have HRR := hid hr
          have HWW := hid hw
          clear hr hw
          go_wp2
          go_roundg (32 - i)
          case measure => omega
          case rel =>
            refine ⟨i + 1, by simp, by omega, by omega, ?_, HWW.out.setCell (by show W2.heap.size ≤ y7; have := E7.out; omega) _⟩
            rw [row_set HRR.out i, vs_set]
            refine congrArg (fun c => some (Obj.cells c 44)) (vs_congr fun j hj => ?_)
            by_cases hj2 : j = i
            · subst hj2
              rw [if_pos rfl, if_pos (by omega)]
            · rw [if_neg hj2]
              by_cases hj3 : j < i
              · rw [if_pos hj3, if_pos (by omega)]
              · rw [if_neg hj3, if_neg (by omega)]
        · obtain rfl : i = 32 := by omega
          have HRR := hid hr
          have HWW := hid hw
          clear hr hw
          go_wp2
          go_loopg [9] 17 (fun k c wr => ∃ i : Nat, c = .int .i64 i ∧ i ≤ 16 ∧ 16 - i < k ∧ wr.heap[y7]? = some (.cells (vs .u8 48 fun j => if j < 32 then S1 j else if j < 32 + i then S2 (j - 32) else 0) 44) ∧ Below W2.heap.size W2 wr)
          case atStart =>
            refine ⟨0, rfl, by omega, by omega, ?_, HWW.out⟩
            rw [HRR.out]
            refine congrArg (fun c => some (Obj.cells c 44)) (vs_congr fun j hj => ?_)
            by_cases h : j < 32
            · rw [if_pos h, if_pos h]
            · rw [if_neg h, if_neg h, if_neg (by omega)]
          case round =>
            clear HRR HWW hk
            obtain ⟨i, rfl, hi, hk, hr, hw⟩ := hrel
            by_cases h16 : i < 16
            · have h16z : (i : Int) < 16 := by omega
              have c6 : wr.cell? ⟨y6, i, none⟩ = some (.int .u8 (S2 i)) := row_int ((hw.block _ (by have := E7.out; omega)).trans H2.out) i (by omega)
              have c7 := row_int hr (32 + i) (by omega)
              have f7 := row_frozen hr (32 + i)
              have HRR := hid hr
              have HWW := hid hw
              clear hr hw
              go_wp2
              go_roundg (16 - i)
              case measure => omega
              case rel =>
                refine ⟨i + 1, by simp, by omega, by omega, ?_, HWW.out.setCell (by show W2.heap.size ≤ y7; have := E7.out; omega) _⟩
                rw [row_set HRR.out (32 + i), vs_set]
                refine congrArg (fun c => some (Obj.cells c 44)) (vs_congr fun j hj => ?_)
                by_cases hj2 : j = 32 + i
                · subst hj2
                  rw [if_pos rfl, if_neg (by omega), if_pos (by omega), show 32 + i - 32 = i by omega]
                · rw [if_neg hj2]
                  by_cases hj4 : j < 32
                  · rw [if_pos hj4, if_pos hj4]
                  · rw [if_neg hj4, if_neg hj4]
                    by_cases hj3 : j < 32 + i
                    · rw [if_pos hj3, if_pos (by omega)]
                    · rw [if_neg hj3, if_neg (by omega)]
            · obtain rfl : i = 16 := by omega
              have hv : vs .u8 48 (fun j => if j < 32 then S1 j else if j < 32 + 16 then S2 (j - 32) else 0) = vs .u8 48 SM := vs_congr fun j hj => by
                rw [HS.out]
                by_cases h : j < 32
                · rw [if_pos h, if_pos h]
                · rw [if_neg h, if_neg h, if_pos (by omega)]
              rw [hv] at hr
              have r0 := (hw.block _ (by have := E7.out; omega)).trans H0.out
              have lk := lvKy_run hr
              have sk := svKy_run r0 SM
              have HR0 := hid r0
              have HWW := hid (HB2.out.trans (hw.mono HB2.out.size))
              clear hr hw hv r0
              go_wp2
              refine retKy 2 w.heap.size SM 44 rfl rfl rfl (setRow_at HR0.out) ⟨rfl, below_row (HB.out.trans (HWW.out.mono HB.out.size)) (Nat.le_refl _) _⟩

end Go.Proofs.YtpabbglbaimadaaDoor
