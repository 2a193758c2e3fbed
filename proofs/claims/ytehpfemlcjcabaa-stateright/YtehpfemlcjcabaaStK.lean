/-
  The fixed answers that every statement of layer 10 asks first are right.
-/

import Derived.Test.YtehpfemlcjcabaaStD
import Derived.Test.YtehpfemlcjcabaaStG
import Derived.Test.YtehpfemlcjcabaaStJ
namespace Go.Proofs.Ytehpfemlcjcabaa

open Go.RowKit

set_option linter.unusedVariables false

set_option linter.unusedSimpArgs false

set_option maxRecDepth 20000

def V3 : VState := { oState with f2 := 3 }

def VB (g : Nat) : VState := { oState with f12 := ⟨some ⟨g, 0, none⟩, 1, 1, fun _ => 1⟩ }

theorem s256 : (0 : Int) ≤ 0 ∧ (0 : Int) < 256 := by decide

theorem s64 : (0 : Int) ≤ 0 ∧ (0 : Int) < 18446744073709551616 := by decide

theorem okF : OkFork oFork := ⟨fun _ _ => s256, fun _ _ => s256, s64⟩

theorem okH : OkHeader oHeader := ⟨s64, s64, fun _ _ => s256, fun _ _ => s256, fun _ _ => s256⟩

theorem okE : OkEth1 oEth1 := ⟨fun _ _ => s256, s64, fun _ _ => s256⟩

theorem okC : OkCheckpoint oCheckpoint := ⟨s64, fun _ _ => s256⟩

theorem okK : OkCommittee oCommittee := ⟨fun _ _ => s256, fun _ _ => s256⟩

theorem none_lt {j : Nat} {p : Prop} (h : j < 0) : p := absurd h (Nat.not_lt_zero _)

theorem okO : OkState oState := ⟨s64, fun _ _ => s256, s64, okF, okH, fun _ _ => s256, fun _ _ => s256, fun _ _ => s256, okE, fun _ h => none_lt h, s64, fun _ h => none_lt h, fun _ h => none_lt h, fun _ _ => s256, fun _ _ => s64, fun _ h => none_lt h, fun _ h => none_lt h, okC, okC, okC, fun _ h => none_lt h, okK, okK⟩

theorem ok3 : OkState V3 := { okO with o2 := (by decide : (0 : Int) ≤ 3 ∧ (3 : Int) < 18446744073709551616) }

theorem okB (g : Nat) : OkState (VB g) := { okO with o12 := fun _ _ => (by decide : (0 : Int) ≤ 1 ∧ (1 : Int) < 18446744073709551616) }

theorem inO (w : World) : InW w oState := ⟨.inl ⟨rfl, rfl, rfl⟩, .inl rfl, .inl rfl, .inl rfl, .inl ⟨rfl, rfl, rfl⟩, .inl ⟨rfl, rfl, rfl⟩, .inl rfl⟩

theorem in3 (w : World) : InW w V3 := ⟨.inl ⟨rfl, rfl, rfl⟩, .inl rfl, .inl rfl, .inl rfl, .inl ⟨rfl, rfl, rfl⟩, .inl ⟨rfl, rfl, rfl⟩, .inl rfl⟩

theorem inB {w : World} {g : Nat} {t : TypeId} (h : w.heap[g]? = some (.cells #[.int .u64 1] t)) : InW w (VB g) := ⟨.inl ⟨rfl, rfl, rfl⟩, .inl rfl, .inl rfl, .inr ⟨g, 0, rfl, some_lt h, fun j hj => by
  obtain rfl : j = 0 := by have : j < 1 := hj; omega
  exact row_cell h 0⟩, .inl ⟨rfl, rfl, rfl⟩, .inl ⟨rfl, rfl, rfl⟩, .inl rfl⟩

theorem right_o : rightB oState = true := by kernel_rfl

theorem right_b (g : Nat) : rightB (VB g) = false := by kernel_rfl

theorem bd_3 (W : World) : (bdState #[(2, .int .u64 3)]).run Try.prog W = .ok (.agg (cel (sState V3))) W := by kernel_rfl

theorem bd_b (W : World) (g : Nat) : (bdState #[(12, .slice (some ⟨g, 0, none⟩) 1 1)]).run Try.prog W = .ok (.agg (cel (sState (VB g)))) W := by kernel_rfl

theorem ct7_bS : ∀ (l : List (Nat × (Nat → Int))), (∀ p ∈ l, ∀ q, 0 ≤ p.2 q ∧ p.2 q < 256) → ∀ q, 0 ≤ ct7 l q ∧ ct7 l q < 256
  | [], _, q => s256
  | p :: r, h, q => by
    show 0 ≤ (if q < p.1 then p.2 q else ct7 r (q - p.1)) ∧ (if q < p.1 then p.2 q else ct7 r (q - p.1)) < 256
    by_cases hq : q < p.1
    · rw [if_pos hq]
      exact h p (by simp) q
    · rw [if_neg hq]
      exact ct7_bS r (fun x hx => h x (by simp [hx])) _

theorem bF (q : Nat) : 0 ≤ ct7 (eFork oFork) q ∧ ct7 (eFork oFork) q < 256 := ct7_bS _ (fun p hp => by
  simp only [eFork, oFork, List.mem_cons, List.not_mem_nil, or_false] at hp
  rcases hp with rfl | rfl | rfl
  · exact fun _ => s256
  · exact fun _ => s256
  · exact fun q => nmB_bd _ q) q

theorem bH (q : Nat) : 0 ≤ ct7 (eHeader oHeader) q ∧ ct7 (eHeader oHeader) q < 256 := ct7_bS _ (fun p hp => by
  simp only [eHeader, oHeader, List.mem_cons, List.not_mem_nil, or_false] at hp
  rcases hp with rfl | rfl | rfl | rfl | rfl
  · exact fun q => nmB_bd _ q
  · exact fun q => nmB_bd _ q
  · exact fun _ => s256
  · exact fun _ => s256
  · exact fun _ => s256) q

theorem bE (q : Nat) : 0 ≤ ct7 (eEth1 oEth1) q ∧ ct7 (eEth1 oEth1) q < 256 := ct7_bS _ (fun p hp => by
  simp only [eEth1, oEth1, List.mem_cons, List.not_mem_nil, or_false] at hp
  rcases hp with rfl | rfl | rfl
  · exact fun _ => s256
  · exact fun q => nmB_bd _ q
  · exact fun _ => s256) q

theorem bV (q : Nat) : 0 ≤ ct7 (eValidator oValidator) q ∧ ct7 (eValidator oValidator) q < 256 := ct7_bS _ (fun p hp => by
  simp only [eValidator, oValidator, List.mem_cons, List.not_mem_nil, or_false] at hp
  rcases hp with rfl | rfl | rfl | rfl | rfl | rfl | rfl | rfl
  · exact fun _ => s256
  · exact fun _ => s256
  · exact fun q => nmB_bd _ q
  · exact fun _ => s256
  · exact fun q => nmB_bd _ q
  · exact fun q => nmB_bd _ q
  · exact fun q => nmB_bd _ q
  · exact fun q => nmB_bd _ q) q

theorem bC (q : Nat) : 0 ≤ ct7 (eCheckpoint oCheckpoint) q ∧ ct7 (eCheckpoint oCheckpoint) q < 256 := ct7_bS _ (fun p hp => by
  simp only [eCheckpoint, oCheckpoint, List.mem_cons, List.not_mem_nil, or_false] at hp
  rcases hp with rfl | rfl
  · exact fun q => nmB_bd _ q
  · exact fun _ => s256) q

theorem bK (q : Nat) : 0 ≤ ct7 (eCommittee oCommittee) q ∧ ct7 (eCommittee oCommittee) q < 256 := ct7_bS _ (fun p hp => by
  simp only [eCommittee, oCommittee, List.mem_cons, List.not_mem_nil, or_false] at hp
  rcases hp with rfl | rfl
  · exact fun q => ct7_bS _ (fun p hp => by
      simp only [eKeys, List.mem_cons, List.not_mem_nil, or_false] at hp
      subst hp
      exact fun _ => s256) q
  · exact fun _ => s256) q

theorem pF3 (r q : Nat) : 0 ≤ pF V3 r q ∧ pF V3 r q < 256 := by
  rcases r with _ | _ | _ | _ | _ | _ | _ | _ | _ | _ | _ | _ | _ | _ | _ | _ | _ | _ | _ | _ | _ | _ | _ | _ | r
  · exact nmB_bd _ q
  · exact s256
  · exact nmB_bd _ q
  · exact bF q
  · exact bH q
  · exact s256
  · exact s256
  · exact s256
  · exact bE q
  · exact bE (q % 72)
  · exact nmB_bd _ q
  · exact bV (q % 121)
  · exact nmB_bd _ (q % 8)
  · exact s256
  · exact nmB_bd _ (q % 8)
  · exact s256
  · exact s256
  · exact ⟨Int.natCast_nonneg _, Int.ofNat_lt.2 (Z.byt_lt _ _ _)⟩
  · exact bC q
  · exact bC q
  · exact bC q
  · exact nmB_bd _ (q % 8)
  · exact bK q
  · exact bK q
  · exact s256

theorem p03 : P0 (pL V3) (pF V3) := ⟨rfl, rfl, rfl, rfl, rfl, rfl, rfl, rfl, rfl, rfl, rfl, rfl, rfl, rfl, rfl, rfl, rfl, rfl, rfl, rfl, rfl, rfl, rfl, rfl, pF3, by rw [show pF V3 17 0 = 0 by kernel_rfl]; decide⟩

theorem rd3 : rdN (pF V3 2) = 3 := by kernel_rfl

theorem fitsS (x : VState) : Z.Fits zS (pL x) 24 := by
  intro r hr h0
  have c : ∀ r, r < 24 → zS r = 0 ∨ (∃ k : Nat, zS r = (k : Int) ∧ ∀ y : VState, pL y r = k) := by
    intro r hr
    rcases r with _ | _ | _ | _ | _ | _ | _ | _ | _ | _ | _ | _ | _ | _ | _ | _ | _ | _ | _ | _ | _ | _ | _ | _ | r
    all_goals first | exact .inl rfl | exact .inr ⟨_, rfl, fun _ => rfl⟩ | omega
  rcases c r hr with h | ⟨k, h1, h2⟩
  · exact absurd h h0
  · rw [h2 x, h1]

theorem nmsS {w : World} {sa : Nat} (hs : w.heap[sa]? = some (.cells (vs .i64 24 zS) 3)) : Z.Nms .i64 w (some ⟨sa, 0, none⟩) 24 zS := .inr ⟨sa, 0, rfl, some_lt hs, fun j hj => by rw [Nat.zero_add]; exact row_int hs j hj⟩

attribute [local go_sem ↓] lvState_eq svState_eq bdState_eq

set_option maxHeartbeats 4000000 in
theorem awake10 (w : World) :
    Calls Try.prog 6 #[] w fun e w' => e = .returned (.bool true) ∧ Below w.heap.size w w' := by
  have he := encState_ok V3 w ok3 (in3 w) (by kernel_rfl) ⟨Nat.zero_le _, Nat.zero_le _, Nat.zero_le _, Nat.zero_le _, Nat.zero_le _, Nat.zero_le _, Nat.zero_le _⟩
  have e21 : tL V3 = 2101 := by rw [tL_is]; rfl
  have hlen : (Z.layC zS (pF V3) (pL V3) 24).length = 2101 := (Z.layC_len zS (pF V3) (pL V3) 24 (fitsS V3)).trans e21
  rw [Z.iv_bl, hlen, e21] at he
  have HRD : Hid (∀ W a c, Bys W a 2101 c (fun j => (Z.layC zS (pF V3) (pL V3) 24).getD j 0) → Calls Try.prog 12 #[.slice a 2101 c] W fun e w' => ∃ X : VState, e = .returned (.tuple #[.agg (cel (sState X)), .int .i64 0]) ∧ X.f2 = 3 ∧ Below W.heap.size W w') := fun W a c hb => by
    obtain ⟨b, off, ea, _, hlc, _⟩ := bys_at hb (by omega)
    have hcap : c ≤ 9223372036854775807 := by
      rcases hb with ⟨h, _⟩ | ⟨_, _, h⟩ | ⟨_, _, _, _, h, _⟩
      · rw [h] at ea
        cases ea
      · omega
      · exact h
    have := readState0 (pL V3) (pF V3) a 2101 c W p03 (fun W' sa h1 h2 => by
      have hc := Z.cut_laid2 zS (pF V3) (pL V3) 24 a c (some ⟨sa, 0, none⟩) 24 W' (fun r _ q _ => pF3 r q) (fitsS V3) (by rw [show Z.hdL zS 24 + Z.loL zS (pL V3) 24 = 2101 from e21]; omega) (by rw [show Z.hdL zS 24 + Z.loL zS (pL V3) 24 = 2101 from e21]; exact hb.below h1) (by rw [show Z.hdL zS 24 + Z.loL zS (pL V3) 24 = 2101 from e21]; exact hlc) hcap (nmsS h2) (by kernel_rfl)
      rw [show Z.hdL zS 24 + Z.loL zS (pL V3) 24 = 2101 from e21] at hc
      exact hc)
    rw [rd3] at this
    exact this
  obtain ⟨m, em⟩ : ∃ m, (fun j => (Z.layC zS (pF V3) (pL V3) 24).getD j 0) = m := ⟨_, rfl⟩
  rw [em] at he HRD
  have HR1 : Hid (∀ W, Calls Try.prog 8 #[.agg (cel (sState oState))] W fun e w' => e = .returned (.bool true) ∧ Below W.heap.size W w') := fun W => by
    rw [← right_o]
    exact right_any oState W okO.r (inO W).r ⟨Nat.zero_le _, Nat.zero_le _, Nat.zero_le _⟩
  have HR2 : Hid (∀ W g, W.heap[g]? = some (.cells #[.int .u64 1] 22) → Calls Try.prog 8 #[.agg (cel (sState (VB g)))] W fun e w' => e = .returned (.bool false) ∧ Below W.heap.size W w') := fun W g h => by
    rw [← right_b g]
    exact right_any (VB g) W (okB g).r (inB h).r ⟨Nat.zero_le _, Nat.zero_le _, (by show 1 ≤ 9223372036854775807; omega)⟩
  have HE := hid he
  have z := zeroState
  have bd3 := bd_3
  have bd0 := bdState_0
  obtain ⟨x3, ex3⟩ : ∃ x, V3 = x := ⟨_, rfl⟩
  rw [ex3] at HE bd3
  obtain ⟨xo, exo⟩ : ∃ x, oState = x := ⟨_, rfl⟩
  rw [exo] at HR1 bd0 z
  have bdb := bd_b
  clear he e21 hlen em ex3 exo
  go_enter Try.func6, Try.ntmps6
  go_upto_region 2 with (go_at_call 11; refine HE.out.mono ?_; rintro e w1 ⟨v1, rfl, ho1, hb1⟩; obtain ⟨a1, c1, rfl, hr1⟩ := own_at ho1; have HRS := hid (HRD.out w1 a1 c1 hr1); have HB1 := hid hb1; clear ho1 hb1 hr1)
  clear HE HRD bd3
  go_upto_region 3 with (go_at_call 12; refine HRS.out.mono ?_; rintro e w2 ⟨x, rfl, xf, hb2⟩; have sv := svState_newv w2 xo x; have HXF := hid xf; have HB2 := hid (HB1.out.trans (hb2.mono HB1.out.size)); clear xf hb2)
  obtain ⟨V, hV⟩ : ∃ V, w2.alloc (.cells (cel (sState x)) 49) = V := ⟨_, rfl⟩
  have rV : V.heap[w2.heap.size]? = some (.cells (cel (sState x)) 49) := by rw [← hV]; exact heap_new rfl
  have hBV : Below w2.heap.size w2 V := by rw [← hV]; exact (Below.refl _ _).alloc (Nat.le_refl _) _
  have dV := cS2 rV
  rw [HXF.out] at dV
  have HBV := hid (HB2.out.trans (hBV.mono HB2.out.size))
  rw [hV]
  clear hV sv rV hBV z HRS HXF HB1 HB2
  go_wp2_with (first
    | (go_at_call 8; have k2 := K1; refine (HR2.out _ _ (heap_new rfl)).mono ?_; rintro e w4 ⟨rfl, hb4⟩; have HB4 := hid hb4; clear hb4)
    | (go_at_call 8; refine (HR1.out _).mono ?_; rintro e w3 ⟨rfl, hb3⟩; have HB3 := hid (HBV.out.trans (hb3.mono HBV.out.size)); have K1 := True.intro; clear hb3))
  go_ret
  exact ⟨rfl, (HB3.out.alloc HB3.out.size _).trans (HB4.out.mono (by have := HB3.out.size; simp; omega))⟩

end Go.Proofs.Ytehpfemlcjcabaa
