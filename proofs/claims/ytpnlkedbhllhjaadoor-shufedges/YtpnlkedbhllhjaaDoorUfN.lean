/-
  What ShufEdges answers.
-/
import Derived.Test.YtpnlkedbhllhjaaDoorUfJ
namespace Go.Proofs.YtpnlkedbhllhjaaDoor
open Go.RowKit
set_option linter.unusedVariables false
set_option linter.unusedSimpArgs false

/-- A list of which the first k elements are laid. -/
def e3 (k j : Nat) : Int := if j < k then 3 * (j : Int) else 0

attribute [local go_sem ↓] sv24_eq lv24_eq sv8_eq bd27_eq

set_option maxRecDepth 20000 in
set_option maxHeartbeats 2000000 in
theorem edges_any (more : Bool) (s : Nat → Int) (a : Option Addr) (n cap : Nat) (f : Nat → Int) (w : World) (hs : ∀ j, j < 32 → 0 ≤ s j ∧ s j < 256) (ha : N64 w a n f) (hf : ∀ j, 0 ≤ f j ∧ f j < 18446744073709551616) (hnm : n ≤ 9223372036854775807) (hS : Sh w) (hC : Tab w 0 64 KW) :
    Calls Tryd.prog 6 #[.bool more, .agg (vs .u8 32 s), .slice a n cap] w fun e w' => e = .returned (.bool true) ∧ Below w.heap.size w w' := by
  obtain ⟨W0, hW0⟩ : ∃ W, w.alloc (.cells (vs .u8 32 s) 24) = W := ⟨_, rfl⟩
  have r0 : W0.heap[w.heap.size]? = some (.cells (vs .u8 32 s) 24) := by rw [← hW0]; exact heap_new rfl
  have hB0 : Below w.heap.size w W0 := by rw [← hW0]; exact (Below.refl _ _).alloc (Nat.le_refl _) _
  have z0 : w.heap.size < W0.heap.size := (Array.getElem?_eq_some_iff.1 r0).1
  have hS0 := hS.below hB0
  have hC0 := hC.below hB0
  have ha0 := ha.below hB0
  have hl : ∀ W : World, Below W0.heap.size W0 W → (lv24 ⟨w.heap.size, 0, none⟩).run Tryd.prog W = .ok (.agg (vs .u8 32 s)) W := fun W h => lv24_run ((h.block _ z0).trans r0)
  have haw := fun (W : World) (h : Below W0.heap.size W0 W) => awake_any W (hS0.below h)
  have HL := hid hl
  have HAW := hid haw
  have HB0 := hid hB0
  have HW0 := hid hW0
  clear hl haw hB0 hW0 r0 ha hS hC
  cases more
  · have hlist : ∀ (W : World) (F : Nat → Int) a' c', Below W0.heap.size W0 W → N64 W a' 65536 F → Calls Tryd.prog 13 #[.slice a' 65536 c', .agg (vs .u8 32 s)] W fun e w' => ∃ a2 c2, e = .returned (.tuple #[.slice a2 65536 c2, .int .i64 0]) ∧ Below W.heap.size W w' ∧ N64 w' a2 65536 fun j => F (plV s 65536 6 j).toNat := fun W F a' c' hW hN => list_any s a' 65536 c' F W hs hN (by omega) (hS0.below hW)
    have hpl : ∀ (k : Int) (W : World), 0 ≤ k → k < 65536 → Below W0.heap.size W0 W → Calls Tryd.prog 10 #[.int .u64 k, .int .u64 65536, .agg (vs .u8 32 s)] W fun e w' => e = .returned (.tuple #[.int .u64 (plV s 65536 6 k), .int .i64 0]) ∧ Below W.heap.size W w' := fun k W hk0 hk hW => rplace_ok s k 65536 W hs hk0 hk (by omega) (hC0.below hW)
    have HLI := hid hlist
    have HA := hid ha0
    have HF := hid hf
    clear hlist ha0 hs hS0 hC0 hf
    have HPL := hid hpl
    clear hpl
    go_enter Tryd.func6, Tryd.ntmps6
    go_upto_region 1 with fail
    rw [HW0.out]
    clear HW0
    go_upto_region 6 with (go_at_call 8; refine (HAW.out _ (Below.refl _ _)).mono ?_; rintro e w1 ⟨rfl, hb1⟩)
    have mk := make_64 w1 65536 (by omega)
    have hz1 := hb1.size
    obtain ⟨W2, hW2⟩ : ∃ W, w1.alloc (.cells (vs .u64 65536 (fun _ => 0)) 22) = W := ⟨_, rfl⟩
    have r2 : W2.heap[w1.heap.size]? = some (.cells (vs .u64 65536 (e3 0)) 22) := by
      rw [← hW2, heap_new rfl, vs_congr (f := fun _ => 0) (g := e3 0)]
      intro i _
      unfold e3
      rw [if_neg (by omega)]
    have hB2 : Below W0.heap.size W0 W2 := by rw [← hW2]; exact hb1.alloc hz1 _
    rw [hW2] at mk
    obtain ⟨g, eg⟩ : ∃ g, w1.heap.size = g := ⟨_, rfl⟩
    rw [eg] at mk r2 hz1
    have mk' : (Instr.makeSlice 30 (.int .i64 65536) (.int .i64 65536)).run Tryd.prog w1 = .ok (.slice (some ⟨g, 0, none⟩) 65536 65536) W2 := mk
    have HR2 := hid r2
    have HB2 := hid hB2
    clear mk r2 hB2 hW2 hb1 eg
    go_upto_region 7 with fail
    clear mk'
    go_wp2
    go_loopw [9] (fun c wr => ∃ k : Nat, k ≤ 65536 ∧ c = .int .i64 k ∧ wr.heap[g]? = some (.cells (vs .u64 65536 (e3 k)) 22) ∧ Below W0.heap.size W0 wr) (fun c _ => 65536 - (intOf c).toNat)
    case atStart => exact ⟨0, by omega, rfl, HR2.out, HB2.out⟩
    case round =>
      obtain ⟨k, hk, rfl, hr, hw⟩ := hrel
      by_cases hkn : k < 65536
      · have k1 : (k : Int) < 65536 := by omega
        have k2 : (0 : Int) ≤ (k : Int) := by omega
        have kw : IntKind.u64.wrap (3 * (k : Int)) = 3 * (k : Int) := by rw [IntKind.wrap_u64]; omega
        have c1 := row_int hr k hkn
        have f1 := row_frozen hr k
        have hr' := row_set hr k (.int .u64 (3 * (k : Int)))
        rw [vs_set, vs_congr (f := fun j => if j = k then 3 * (k : Int) else e3 k j) (g := e3 (k + 1)) (fun j _ => by
          unfold e3
          by_cases h1 : j = k
          · subst h1
            rw [if_pos rfl, if_pos (by omega)]
          · rw [if_neg h1]
            by_cases h2 : j < k
            · rw [if_pos h2, if_pos (by omega)]
            · rw [if_neg h2, if_neg (by omega)])] at hr'
        have hw' := hw.setCell (p := ⟨g, k, none⟩) (by show W0.heap.size ≤ g; omega) (.int .u64 (3 * (k : Int)))
        have HR := hid hr'
        have HW := hid hw'
        clear hr hr' hw hw'
        go_wp2
        go_roundw
        case rel => exact ⟨k + 1, by omega, by go_num, HR.out, HW.out⟩
        case measure => simp [intOf]; omega
      · obtain rfl : k = 65536 := by omega
        have l0 := HL.out wr hw
        have HW := hid hw
        have HR := hid hr
        clear hw hr HR2 HB2
        have hn := n64_row HR.out
        have HN := hid hn
        clear hn
        go_upto_region 12 with (go_at_call 13; refine (HLI.out wr _ _ _ HW.out HN.out).mono ?_; rintro e w4 ⟨a4, c4, rfl, hb4, hn4⟩)
        have hB4 := HW.out.trans (hb4.mono HW.out.size)
        have hn4' : N64 w4 a4 65536 fun j => 3 * plV s 65536 6 j := hn4.congr (fun j hj => by
          obtain ⟨b0, b1⟩ := plV_bd s (i := (j : Int)) (n := 65536) (by omega) (by omega) 6
          unfold e3
          rw [if_pos (by omega)]
          omega)
        have HB4 := hid hB4
        have HN4 := hid hn4'
        clear l0 hB4 hb4 hn4 hn4' HN HW HLI HR
        go_wp2
        go_loopw [12] (fun c wr => ∃ q : Nat, q ≤ n ∧ c = .int .i64 q ∧ Below w4.heap.size w4 wr) (fun c _ => n - (intOf c).toNat)
        case atStart => exact ⟨0, by omega, rfl, Below.refl _ _⟩
        case round =>
          obtain ⟨q, hq, rfl, hw⟩ := hrel
          have hbw : Below W0.heap.size W0 wr := HB4.out.trans (hw.mono HB4.out.size)
          by_cases hqn : q < n
          · have k1 : (q : Int) < (n : Int) := by omega
            have k2 : (0 : Int) ≤ (q : Int) := by omega
            by_cases hq20 : q < 20
            · have k3 : (q : Int) < 20 := by omega
              rcases HA.out.below hbw with h0 | ⟨b, off, ea, hbl, hc⟩
              · omega
              subst ea
              have c1 := hc q hqn
              obtain ⟨X, hX⟩ : ∃ X, f q = X := ⟨_, rfl⟩
              have hx := HF.out q
              rw [hX] at c1 hx
              obtain ⟨x0, x1⟩ := hx
              obtain ⟨K, hK⟩ : ∃ K : Nat, X % 65536 = (K : Int) := ⟨(X % 65536).toNat, by omega⟩
              have hKl : K < 65536 := by omega
              have hp := HPL.out K wr (by omega) (by omega) hbw
              obtain ⟨p0, p1⟩ := plV_bd s (i := (K : Int)) (n := 65536) (by omega) (by omega) 6
              rcases HN4.out.below hw with h0 | ⟨b2, o2, eb, hbl2, hc2⟩
              · omega
              subst eb
              have c2 := hc2 K hKl
              dsimp only at c2
              obtain ⟨P, hP⟩ : ∃ P, plV s 65536 6 K = P := ⟨_, rfl⟩
              rw [hP] at hp c2 p0 p1
              have pw : IntKind.u64.wrap (3 * P) = 3 * P := by rw [IntKind.wrap_u64]; omega
              have k4 : (0 : Int) ≤ (K : Int) := by omega
              have k5 : (K : Int) < 65536 := by omega
              have l0 := HL.out wr hbw
              have HP1 := hid hp
              have HW := hid hw
              have HC2 := hid c2
              have HBL := hid hbl2
              clear hp hw c2 hc hc2 hbl hbl2 hP hX hbw
              go_upto_region 21 with (go_at_call 10; refine HP1.out.mono ?_; rintro e w6 ⟨rfl, hb6⟩)
              have c6 := (below_cell hb6 HBL.out (i := o2 + K)).trans HC2.out
              have hw6 := HW.out.trans (hb6.mono HW.out.size)
              have HW6 := hid hw6
              clear hw6 hb6 HW HC2 HBL HP1 l0 c1
              go_wp2
              go_roundw
              case rel => exact ⟨q + 1, by omega, by go_num, HW6.out⟩
              case measure => simp [intOf]; omega
            · have k3 : ¬ (q : Int) < 20 := by omega
              have HW := hid hbw
              clear hbw hw
              go_wp2
              go_ret
              exact ⟨rfl, HB0.out.trans (HW.out.mono (by omega))⟩
          · have HW := hid hbw
            have k1 : decide ((q : Int) < (n : Int)) = false := by simp; omega
            clear hbw hw
            go_wp2
            go_ret
            exact ⟨rfl, HB0.out.trans (HW.out.mono (by omega))⟩
  · have hlist : ∀ (W : World) a' c', Calls Tryd.prog 13 #[.slice a' 65537 c', .agg (vs .u8 32 s)] W fun e w' => e = .returned (.tuple #[.slice none 0 0, .int .i64 1]) ∧ Below W.heap.size W w' := fun W a' c' => list_long s a' 65537 c' W (by omega) (by omega)
    have HLI := hid hlist
    have HA := hid ha0
    have HF := hid hf
    clear hlist ha0 hs hS0 hC0 hf
    go_enter Tryd.func6, Tryd.ntmps6
    go_upto_region 1 with fail
    rw [HW0.out]
    clear HW0
    go_upto_region 6 with (go_at_call 8; refine (HAW.out _ (Below.refl _ _)).mono ?_; rintro e w1 ⟨rfl, hb1⟩)
    have mk := make_64 w1 65537 (by omega)
    have hz1 := hb1.size
    obtain ⟨W2, hW2⟩ : ∃ W, w1.alloc (.cells (vs .u64 65537 (fun _ => 0)) 22) = W := ⟨_, rfl⟩
    have r2 : W2.heap[w1.heap.size]? = some (.cells (vs .u64 65537 (e3 0)) 22) := by
      rw [← hW2, heap_new rfl, vs_congr (f := fun _ => 0) (g := e3 0)]
      intro i _
      unfold e3
      rw [if_neg (by omega)]
    have hB2 : Below W0.heap.size W0 W2 := by rw [← hW2]; exact hb1.alloc hz1 _
    rw [hW2] at mk
    obtain ⟨g, eg⟩ : ∃ g, w1.heap.size = g := ⟨_, rfl⟩
    rw [eg] at mk r2 hz1
    have mk' : (Instr.makeSlice 30 (.int .i64 65537) (.int .i64 65537)).run Tryd.prog w1 = .ok (.slice (some ⟨g, 0, none⟩) 65537 65537) W2 := mk
    have HR2 := hid r2
    have HB2 := hid hB2
    clear mk r2 hB2 hW2 hb1 eg
    go_upto_region 7 with fail
    clear mk'
    go_wp2
    go_loopw [9] (fun c wr => ∃ k : Nat, k ≤ 65537 ∧ c = .int .i64 k ∧ wr.heap[g]? = some (.cells (vs .u64 65537 (e3 k)) 22) ∧ Below W0.heap.size W0 wr) (fun c _ => 65537 - (intOf c).toNat)
    case atStart => exact ⟨0, by omega, rfl, HR2.out, HB2.out⟩
    case round =>
      obtain ⟨k, hk, rfl, hr, hw⟩ := hrel
      by_cases hkn : k < 65537
      · have k1 : (k : Int) < 65537 := by omega
        have k2 : (0 : Int) ≤ (k : Int) := by omega
        have kw : IntKind.u64.wrap (3 * (k : Int)) = 3 * (k : Int) := by rw [IntKind.wrap_u64]; omega
        have c1 := row_int hr k hkn
        have f1 := row_frozen hr k
        have hr' := row_set hr k (.int .u64 (3 * (k : Int)))
        rw [vs_set, vs_congr (f := fun j => if j = k then 3 * (k : Int) else e3 k j) (g := e3 (k + 1)) (fun j _ => by
          unfold e3
          by_cases h1 : j = k
          · subst h1
            rw [if_pos rfl, if_pos (by omega)]
          · rw [if_neg h1]
            by_cases h2 : j < k
            · rw [if_pos h2, if_pos (by omega)]
            · rw [if_neg h2, if_neg (by omega)])] at hr'
        have hw' := hw.setCell (p := ⟨g, k, none⟩) (by show W0.heap.size ≤ g; omega) (.int .u64 (3 * (k : Int)))
        have HR := hid hr'
        have HW := hid hw'
        clear hr hr' hw hw'
        go_wp2
        go_roundw
        case rel => exact ⟨k + 1, by omega, by go_num, HR.out, HW.out⟩
        case measure => simp [intOf]; omega
      · obtain rfl : k = 65537 := by omega
        have l0 := HL.out wr hw
        have HW := hid hw
        have HR := hid hr
        clear hw hr HR2 HB2
        go_wp2_with (go_at_call 13; refine (HLI.out wr _ _).mono ?_; rintro e w4 ⟨rfl, hb4⟩)
        go_ret
        exact ⟨rfl, HB0.out.trans ((HW.out.trans (hb4.mono HW.out.size)).mono (by omega))⟩

end Go.Proofs.YtpnlkedbhllhjaaDoor
