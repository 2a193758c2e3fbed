/-
  What ShufAlike answers.
-/
import Derived.Test.YtpnlkedbhllhjaaDoorUfJ
namespace Go.Proofs.YtpnlkedbhllhjaaDoor
open Go.RowKit
set_option linter.unusedVariables false
set_option linter.unusedSimpArgs false

theorem ownsRow_below {w w' : World} {B : Nat} {e : TypeId} {v : Value} {n : Nat} {xs : List Value} (h : w.ownsRow B e 1 v n xs) (hb : Below w.heap.size w w') : w'.ownsRow B e 1 v n xs := by
  refine ⟨h.1, ?_⟩
  rcases h.2 with h | ⟨g, cap, cur, e1, e2, e3, e4⟩
  · exact .inl h
  · exact .inr ⟨g, cap, cur, e1, e2, (hb.block _ (Array.getElem?_eq_some_iff.1 e3).1).trans e3, e4⟩
/-- Five times a number, and some. -/
def m5 (x : Int) : Int := IntKind.u64.wrap (x * 5)
def a5 (by' x : Int) : Int := IntKind.u64.wrap (m5 x + by')

attribute [local go_sem ↓] sv24_eq lv24_eq sv8_eq bd27_eq

set_option maxRecDepth 20000 in
set_option maxHeartbeats 2000000 in
theorem alike_any (s : Nat → Int) (a : Option Addr) (n cap : Nat) (f : Nat → Int) (y : Int) (w : World) (hs : ∀ j, j < 32 → 0 ≤ s j ∧ s j < 256) (ha : N64 w a n f) (hnm : n ≤ 9223372036854775807) (hS : Sh w) :
    Calls Tryd.prog 7 #[.slice a n cap, .agg (vs .u8 32 s), .int .u64 y] w fun e w' => e = .returned (.bool true) ∧ Below w.heap.size w w' := by
  obtain ⟨W0, hW0⟩ : ∃ W, w.alloc (.cells (vs .u8 32 s) 24) = W := ⟨_, rfl⟩
  have r0 : W0.heap[w.heap.size]? = some (.cells (vs .u8 32 s) 24) := by rw [← hW0]; exact heap_new rfl
  have hB0 : Below w.heap.size w W0 := by rw [← hW0]; exact (Below.refl _ _).alloc (Nat.le_refl _) _
  have z0 : w.heap.size < W0.heap.size := (Array.getElem?_eq_some_iff.1 r0).1
  have hS0 := hS.below hB0
  have ha0 := ha.below hB0
  have hl : ∀ W : World, Below W0.heap.size W0 W → (lv24 ⟨w.heap.size, 0, none⟩).run Tryd.prog W = .ok (.agg (vs .u8 32 s)) W := fun W h => lv24_run ((h.block _ z0).trans r0)
  have haw := fun (W : World) (h : Below W0.heap.size W0 W) => awake_any W (hS0.below h)
  have HL := hid hl
  have HAW := hid haw
  have HB0 := hid hB0
  have HW0 := hid hW0
  clear hl haw hB0 hW0 r0 ha hS
  by_cases hlong : 600 < n
  · have d1 : (600 : Int) < (n : Int) := by omega
    clear ha0 hS0
    go_enter Tryd.func7, Tryd.ntmps7
    go_upto_region 1 with fail
    rw [HW0.out]
    clear HW0
    go_wp2_with (go_at_call 8; refine (HAW.out _ (Below.refl _ _)).mono ?_; rintro e w1 ⟨rfl, hb1⟩)
    go_ret
    exact ⟨rfl, HB0.out.trans (hb1.mono (by omega))⟩
  · have d1 : ¬ (600 : Int) < (n : Int) := by omega
    have hlist : ∀ (W : World) (F : Nat → Int) a' c', Below W0.heap.size W0 W → N64 W a' n F → Calls Tryd.prog 13 #[.slice a' n c', .agg (vs .u8 32 s)] W fun e w' => ∃ a2 c2, e = .returned (.tuple #[.slice a2 n c2, .int .i64 0]) ∧ Below W.heap.size W w' ∧ N64 w' a2 n fun j => F (plV s n 6 j).toNat := fun W F a' c' hW hN => list_any s a' n c' F W hs hN (by omega) (hS0.below hW)
    have HLI := hid hlist
    have HA := hid ha0
    clear hlist ha0 hs hS0
    go_enter Tryd.func7, Tryd.ntmps7
    go_upto_region 1 with fail
    rw [HW0.out]
    clear HW0
    go_wp2_with (go_at_call 8; refine (HAW.out _ (Below.refl _ _)).mono ?_; rintro e w1 ⟨rfl, hb1⟩)
    have hz1 := hb1.size
    have HB1 := hid hb1
    clear hb1
    go_loopw [7, 8] (fun v c wr => ∃ (k : Nat) (v' : Value), k ≤ n ∧ v = v' ∧ c = .int .i64 k ∧ wr.ownsRow W0.heap.size 22 1 v' k (ul (fun j => a5 y (f j)) k) ∧ Below W0.heap.size W0 wr) (fun _ c _ => n - (intOf c).toNat)
    case atStart => exact ⟨0, _, by omega, rfl, rfl, World.ownsRow_nil _ _ _ _, HB1.out⟩
    case round =>
      obtain ⟨k, v, hk, ev, rfl, ho, hw⟩ := hrel
      obtain rfl := ev.symm
      clear ev
      by_cases hkn : k < n
      · rcases HA.out.below hw with h0 | ⟨b, off, ea, hb, hc⟩
        · omega
        subst ea
        have k1 : (k : Int) < (n : Int) := by omega
        have k2 : (0 : Int) ≤ (k : Int) := by omega
        have c1 := hc k hkn
        obtain ⟨M, hM⟩ : ∃ M, m5 (f k) = M := ⟨_, rfl⟩
        obtain ⟨V, hV⟩ : ∃ V, IntKind.u64.wrap (M + y) = V := ⟨_, rfl⟩
        have e1 : IntKind.u64.wrap (f k * 5) = M := hM
        have hv : V = a5 y (f k) := by unfold a5; rw [hM, hV]
        have HO := hid ho
        have HW := hid hw
        have HV := hid hv
        clear ho hw hv hb hc hM
        go_wp2_with (at_builtin; (refine wpList_append_n64 wr rfl _ _ rfl W0.heap.size v k (fun j => a5 y (f j)) V rfl HO.out rfl HV.out (by omega) HW.out.size ?_); intro g2 C2 w2 ho2 hg2)
        have hb2 := below_grown HW.out HO.out HW.out.size hg2
        go_roundw
        case rel => exact ⟨k + 1, _, by omega, rfl, by go_num, ho2, hb2⟩
        case measure => simp [intOf]; omega
      · obtain rfl : k = n := by omega
        clear HB1 hz1
        obtain ⟨a2, C2, rfl, _, _, hn2⟩ := own_n64 ho
        have l0 := HL.out wr hw
        have HW := hid hw
        have HN := hid hn2
        clear hw ho hn2
        go_upto_region 11 with (go_at_call 13; refine (HLI.out wr f a cap HW.out (HA.out.below HW.out)).mono ?_; rintro e w4 ⟨a4, c4, rfl, hb4, hn4⟩)
        have hB4 := HW.out.trans (hb4.mono HW.out.size)
        have hn4' := HN.out.below hb4
        have l4 := HL.out w4 hB4
        have HB4 := hid hB4
        have HN4 := hid hn4
        clear HN l0 hB4 hb4 hn4
        have HN := hid hn4'
        clear hn4'
        go_upto_region 12 with (go_at_call 13; refine (HLI.out w4 _ a2 C2 HB4.out HN.out).mono ?_; rintro e w5 ⟨a5', c5, rfl, hb5, hn5⟩)
        have hB5 := HB4.out.trans (hb5.mono HB4.out.size)
        have hn4' := HN4.out.below hb5
        have HB5 := hid hB5
        have HN5 := hid hn5
        have HN4' := hid hn4'
        clear l4 hB5 hn5 hn4' hb5 HB4 HN4 HN HLI HA
        go_wp2
        go_loopw [13] (fun c wr => ∃ k' : Nat, k' ≤ k ∧ c = .int .i64 k' ∧ Below w5.heap.size w5 wr) (fun c _ => k - (intOf c).toNat)
        case atStart => exact ⟨0, by omega, rfl, Below.refl _ _⟩
        case round =>
          obtain ⟨q, hq, rfl, hw⟩ := hrel
          by_cases hqn : q < k
          · rcases HN4'.out.below hw with h0 | ⟨b1, o1, ea, hb1, hc1⟩
            · omega
            rcases HN5.out.below hw with h0 | ⟨b2, o2, eb, hb2, hc2⟩
            · omega
            subst ea
            subst eb
            have k1 : (q : Int) < (k : Int) := by omega
            have k2 : (0 : Int) ≤ (q : Int) := by omega
            have c1 := hc1 q hqn
            have c2 := hc2 q hqn
            obtain ⟨X, hX⟩ : ∃ X, f (plV s k 6 q).toNat = X := ⟨_, rfl⟩
            obtain ⟨M, hM⟩ : ∃ M, m5 X = M := ⟨_, rfl⟩
            obtain ⟨V, hV⟩ : ∃ V, IntKind.u64.wrap (M + y) = V := ⟨_, rfl⟩
            have e1 : IntKind.u64.wrap (X * 5) = M := hM
            have hv : a5 y (f (plV s k 6 q).toNat) = V := by unfold a5; rw [hX, hM, hV]
            dsimp only at c1 c2
            rw [hX] at c1
            rw [hv] at c2
            have HW := hid hw
            clear hw hb1 hb2 hc1 hc2 hv hM hX
            go_wp2
            go_quiet (fail)
            go_wp2
            go_roundw
            case rel => exact ⟨q + 1, by omega, by go_num, below_drewN HW.out _⟩
            case measure => simp [intOf]; omega
          · have HW := hid hw
            clear hw
            go_wp2
            go_ret
            exact ⟨rfl, HB0.out.trans ((HB5.out.trans (HW.out.mono HB5.out.size)).mono (by omega))⟩

end Go.Proofs.YtpnlkedbhllhjaaDoor
