/-
  What LookParts answers, by what the program's functions answer.
-/

import Derived.Test.YtmjdofegmelgbaaLkH
namespace Go.Proofs.Ytmjdofegmelgbaa

open Go.RowKit

set_option linter.unusedVariables false

set_option linter.unusedSimpArgs false

set_option maxRecDepth 20000

attribute [local go_sem ↓] lvState_eq svState_eq bdState_eq lvValidator_eq svValidator_eq ixValidator_eq

/-- Two lists, one behind the other. -/
def cat2 (f g : Nat → Int) (m : Nat) (j : Nat) : Int := if j < m then f j else g (j - m)

theorem ttl_app (z : Nat → VValidator) (n : Nat) (f g : Nat → Int) (m k : Nat) : ttl z n (cat2 f g m) (m + k) = ttl z n f m + ttl z n g k := by
  induction k with
  | zero =>
    show ttl z n (cat2 f g m) m = ttl z n f m + 0
    rw [Int.add_zero]
    exact ttl_congr fun j hj => by unfold cat2; rw [if_pos hj]
  | succ k ih =>
    have e : cat2 f g m (m + k) = g k := by unfold cat2; rw [if_neg (by omega), show m + k - m = k by omega]
    show (if cat2 f g m (m + k) < (n : Int) then ttl z n (cat2 f g m) (m + k) + (z (cat2 f g m (m + k)).toNat).f2 else ttl z n (cat2 f g m) (m + k)) = ttl z n f m + (if g k < (n : Int) then ttl z n g k + (z (g k).toNat).f2 else ttl z n g k)
    rw [e, ih]
    split <;> omega

set_option maxHeartbeats 4000000 in
theorem lookParts_law (pAw : PAwake) (pA : PActive) (pT : PTotal) (x : VState) (a : Option Addr) (m cap : Nat) (f : Nat → Int) (b : Option Addr) (q capb : Nat) (g : Nat → Int) (e : Int) (w : World) (hx : OkState x) (hw : InW w x) (hf : L64 w a m cap f) (hf0 : ∀ j, 0 ≤ f j ∧ f j < 18446744073709551616) (hg : L64 w b q capb g) (hg0 : ∀ j, 0 ≤ g j ∧ g j < 18446744073709551616) (hm : m ≤ 17592186044416) (hq : q ≤ 17592186044416) (he : 0 ≤ e) :
    Calls Try.prog 5 #[.agg (cel (sState x)), .slice a m cap, .slice b q capb, .int .u64 e] w fun e' w' => e' = .returned (.bool true) ∧ Below w.heap.size w w' := by
  obtain ⟨W0, hW0⟩ : ∃ W, w.alloc (.cells (cel (sState x)) 49) = W := ⟨_, rfl⟩
  have r0 : W0.heap[w.heap.size]? = some (.cells (cel (sState x)) 49) := by rw [← hW0]; exact heap_new rfl
  have hB0 : Below w.heap.size w W0 := by rw [← hW0]; exact (Below.refl _ _).alloc (Nat.le_refl _) _
  have z0 : w.heap.size < W0.heap.size := (Array.getElem?_eq_some_iff.1 r0).1
  have hld : ∀ W : World, Below W0.heap.size W0 W → (lvState ⟨w.heap.size, 0, none⟩).run Try.prog W = .ok (.agg (cel (sState x))) W := fun W h => lvState_run ((h.block _ z0).trans r0)
  have hw0 := hw.below hB0
  have hri : ∀ W : World, Below W0.heap.size W0 W → Calls Try.prog 7 #[.agg (cel (sState x))] W fun e w' => e = .returned (.bool (rightB x)) ∧ Below W.heap.size W w' := fun W h => rright_any x W hx.r' (hw0.below h).r' ⟨hx.o10.1, hx.o4.1.1, hx.o18.1.1, hx.o19.1.1, hx.o20.1.1⟩
  have hf1 := hf.below hB0
  have hg1 := hg.below hB0
  have zv := zeroValidator
  have mq : (m : Int) + (q : Int) = ((m + q : Nat) : Int) := by omega
  have HB := hid hB0
  have HW0 := hid hW0
  have HLD := hid hld
  cases hR : rightB x
  · rw [hR] at hri
    have HRI := hid hri
    clear hri hB0 hW0 hld hw0 hw hx r0 hf hf1 hf0 hg hg1 hg0
    go_enter Try.func5, Try.ntmps5
    go_upto_region 1 with fail
    rw [HW0.out]
    clear HW0
    go_upto_region 3 with (go_at_call 6; refine (pAw _).mono ?_; rintro e' w1 ⟨rfl, hb1⟩)
    have l1 := HLD.out w1 hb1
    go_wp2_with (go_at_call 7; refine (HRI.out w1 hb1).mono ?_; rintro e' w2 ⟨rfl, hb2⟩)
    go_ret
    exact ⟨rfl, HB.out.trans ((hb1.trans (hb2.mono hb1.size)).mono (by omega))⟩
  · rw [hR] at hri
    by_cases hlong : 65536 < m + q
    · have d1 : (65536 : Int) < (m : Int) + (q : Int) := by omega
      have HRI := hid hri
      clear hri hB0 hW0 hld hw0 hw hx r0 hf hf1 hf0 hg hg1 hg0 hR mq
      go_enter Try.func5, Try.ntmps5
      go_upto_region 1 with fail
      rw [HW0.out]
      clear HW0
      go_upto_region 3 with (go_at_call 6; refine (pAw _).mono ?_; rintro e' w1 ⟨rfl, hb1⟩)
      have l1 := HLD.out w1 hb1
      go_wp2_with (go_at_call 7; refine (HRI.out w1 hb1).mono ?_; rintro e' w2 ⟨rfl, hb2⟩)
      go_ret
      exact ⟨rfl, HB.out.trans ((hb1.trans (hb2.mono hb1.size)).mono (by omega))⟩
    · by_cases hep : 2199023255552 ≤ e
      · have d1 : decide ((65536 : Int) < (m : Int) + (q : Int)) = false := by simp; omega
        have HRI := hid hri
        clear hri hB0 hW0 hld hw0 hw hx r0 hf hf1 hf0 hg hg1 hg0 hR mq
        go_enter Try.func5, Try.ntmps5
        go_upto_region 1 with fail
        rw [HW0.out]
        clear HW0
        go_upto_region 3 with (go_at_call 6; refine (pAw _).mono ?_; rintro e' w1 ⟨rfl, hb1⟩)
        have l1 := HLD.out w1 hb1
        go_wp2_with (go_at_call 7; refine (HRI.out w1 hb1).mono ?_; rintro e' w2 ⟨rfl, hb2⟩)
        go_ret
        exact ⟨rfl, HB.out.trans ((hb1.trans (hb2.mono hb1.size)).mono (by omega))⟩
      · have d1 : decide ((65536 : Int) < (m : Int) + (q : Int)) = false := by simp; omega
        have d2 : decide ((2199023255552 : Int) ≤ e) = false := by simp; omega
        have hO := rightB_out hR
        have hk0 : Lk W0 x := hO.lk hx hw0
        have hok := hx.o11
        have hnb := hO.c0
        have hef := hk0.ef
        have hcs : ∀ W : World, Below W0.heap.size W0 W → W.cell? ⟨w.heap.size, 721, none⟩ = some (.slice x.f11.a x.f11.n x.f11.c) := fun W h => cS11 ((h.block _ z0).trans r0)
        have hel := hk0.el
        have hTs : ∀ (W : World), Below W0.heap.size W0 W → Calls Try.prog 17 #[.agg (cel (sState x)), .slice a m cap] W fun e' w' => e' = .returned (.int .u64 (lst (ttl x.f11.z x.f11.n f m))) ∧ Below W.heap.size W w' := fun W h => pT x a m cap f W (hk0.below h) (hf1.nms.below h) (fun j _ => hf0 j) (by omega)
        have hTt : ∀ (W : World), Below W0.heap.size W0 W → Calls Try.prog 17 #[.agg (cel (sState x)), .slice b q capb] W fun e' w' => e' = .returned (.int .u64 (lst (ttl x.f11.z x.f11.n g q))) ∧ Below W.heap.size W w' := fun W h => pT x b q capb g W (hk0.below h) (hg1.nms.below h) (fun j _ => hg0 j) (by omega)
        have hTu : ∀ (W : World) a' c', Below W0.heap.size W0 W → Z.Nms .u64 W a' (m + q) (cat2 f g m) → Calls Try.prog 17 #[.agg (cel (sState x)), .slice a' (m + q) c'] W fun e' w' => e' = .returned (.int .u64 (lst (ttl x.f11.z x.f11.n f m + ttl x.f11.z x.f11.n g q))) ∧ Below W.heap.size W w' := fun W a' c' h hn => by
          rw [← ttl_app]
          exact pT x a' (m + q) c' (cat2 f g m) W (hk0.below h) hn (fun j _ => by unfold cat2; by_cases h : j < m; { rw [if_pos h]; exact hf0 j }; { rw [if_neg h]; exact hg0 _ }) (by omega)
        have hcp := fun (W : World) (h : Below W0.heap.size W0 W) => ap64_copy W W0 a m cap f hf1 h (by omega)
        have hcq : ∀ (W w6 : World) (v : Value), Below W.heap.size W w6 → Below W0.heap.size W0 w6 → w6.ownsRow W.heap.size 22 1 v m (ul f m) → ∀ ty, ∃ v' w', (ap64 ty v (.slice b q capb)).run Try.prog w6 = .ok v' w' ∧ w'.ownsRow W.heap.size 22 1 v' (m + q) (ul (cat2 f g m) (m + q)) ∧ Below W.heap.size w6 w' := fun W w6 v h1 h2 ho ty => by
          obtain ⟨v', w', hr, ho', hg'⟩ := ap64_own w6 W.heap.size v m (ul f m) ho b q capb g (hg1.below h2) (by omega) h1.size ty
          rw [ul_add f g (cat2 f g m) m q (fun j hj => by unfold cat2; rw [if_pos hj]) (fun j hj => by unfold cat2; rw [if_neg (by omega), show m + j - m = j by omega])] at ho'
          exact ⟨v', w', hr, ho', below_grown (Below.refl _ _) ho h1.size hg'⟩
        have hbA := ttl_bd x.f11.z x.f11.n f hef m (fun j _ => (hf0 j).1)
        have hbB := ttl_bd x.f11.z x.f11.n g hef q (fun j _ => (hg0 j).1)
        obtain ⟨AA, eA⟩ : ∃ T, ttl x.f11.z x.f11.n f m = T := ⟨_, rfl⟩
        obtain ⟨BB, eBB⟩ : ∃ T, ttl x.f11.z x.f11.n g q = T := ⟨_, rfl⟩
        rw [eA, eBB] at hTu
        rw [eA] at hTs hbA
        rw [eBB] at hTt hbB
        obtain ⟨S, eS⟩ : ∃ S, lst AA = S := ⟨_, rfl⟩
        obtain ⟨T, eT⟩ : ∃ S, lst BB = S := ⟨_, rfl⟩
        obtain ⟨U, eU⟩ : ∃ S, lst (AA + BB) = S := ⟨_, rfl⟩
        rw [eS] at hTs
        rw [eT] at hTt
        rw [eU] at hTu
        have hU : U ≤ S + T ∧ S ≤ U ∧ T ≤ U ∧ (1000000000 < S → 1000000000 < T → U = S + T) ∧ 0 ≤ S ∧ 0 ≤ T ∧ S ≤ 4194304000000000 ∧ T ≤ 4194304000000000 := by
          rw [← eS, ← eT, ← eU]
          unfold lst
          split <;> split <;> split <;> omega
        obtain ⟨u1, u2, u3, u4, s0, t0, s1, t1⟩ := hU
        have d3 : decide (S + T < U) = false := by simp; omega
        have d4 : decide (U < S) = false := by simp; omega
        have d5 : decide (U < T) = false := by simp; omega
        have wst : IntKind.u64.wrap (S + T) = S + T := by rw [IntKind.wrap_u64]; omega
        have we : IntKind.u64.wrap (e + 1) = e + 1 := by rw [IntKind.wrap_u64]; omega
        generalize x.f11.a = A at *
        generalize x.f11.n = n at *
        generalize x.f11.c = C at *
        generalize x.f11.z = z at *
        have HRI := hid hri
        have HOK := hid hok
        have HCS := hid hcs
        have HEL := hid hel
        have HTS := hid hTs
        have HTT := hid hTt
        have HTU := hid hTu
        have HCP := hid hcp
        have HCQ := hid hcq
        have HU4 := hid u4
        clear hri hok hcs hel hTs hTt hTu hcp hcq u4 hB0 hW0 hld hw0 hw hx r0 hO hk0 hR hf hf1 hf0 hg hg1 hg0 hef eA eBB eS eT eU hbA hbB mq
        go_enter Try.func5, Try.ntmps5
        go_upto_region 1 with fail
        rw [HW0.out]
        clear HW0
        go_upto_region 3 with (go_at_call 6; refine (pAw _).mono ?_; rintro e' w1 ⟨rfl, hb1⟩)
        have l1 := HLD.out w1 hb1
        have HB1 := hid hb1
        clear hb1
        go_upto_region 5 with (go_at_call 7; refine (HRI.out w1 HB1.out).mono ?_; rintro e' w2 ⟨rfl, hb2⟩)
        have hw2 := HB1.out.trans (hb2.mono HB1.out.size)
        have l2 := HLD.out w2 hw2
        have HW2 := hid hw2
        clear hw2 hb2 l1 HB1
        go_upto_region 6 with (go_at_call 17; refine (HTS.out w2 HW2.out).mono ?_; rintro e' w4 ⟨rfl, hb4⟩)
        have hw4 := HW2.out.trans (hb4.mono HW2.out.size)
        have l4 := HLD.out w4 hw4
        have HW4 := hid hw4
        clear hw4 hb4 l2 HW2
        go_upto_region 7 with (go_at_call 17; refine (HTT.out w4 HW4.out).mono ?_; rintro e' w5 ⟨rfl, hb5⟩)
        have hw5 := HW4.out.trans (hb5.mono HW4.out.size)
        have HW5 := hid hw5
        clear hw5 hb5 l4 HW4
        refine wp_region_noPanic ?_
        refine wp_region_held_drew (S := fun W => Below W0.heap.size W0 W) (by kernel_rfl) (HW5.out.drew) (fun hHeld => ?_)
        refine tk 0 (v := ?v18) ?y18 hHeld ?r18
        case y18 => intro w hSw; have ld := HLD.out _ hSw; go_simp; try with_reducible rfl
        refine tk 2 (v := ?v19) ?y19 hHeld ?r19
        case y19 => intro w hSw; go_simp; try with_reducible rfl
        refine tk 4 (v := ?v20) ?y20 hHeld ?r20
        case y20 => intro w hSw; go_simp; try with_reducible rfl
        try simp only [Act.put, List.setIfInBounds_toArray, List.set_cons_zero, List.set_cons_succ, Array.toArray_toList, List.getElem_toArray, List.getElem_cons_zero, List.getElem_cons_succ]
        refine wpAnyH_ready (rs := [1]) (by kernel_rfl) (by simp) ?_
        refine AllReadyH.cons rfl (fun K hK => ?_) AllReadyH.nil
        go_simp
        refine hK.out _ _ (HW5.out.drew.alloc HW5.out.size _) (fun hHeld => ?_)
        clear hK K
        try simp only [Act.put, List.setIfInBounds_toArray, List.set_cons_zero, List.set_cons_succ, Array.toArray_toList, List.getElem_toArray, List.getElem_cons_zero, List.getElem_cons_succ]
        refine wpAnyH_ready (rs := [3]) (by kernel_rfl) (by simp) ?_
        refine AllReadyH.cons rfl (fun K hK => ?_) AllReadyH.nil
        obtain ⟨v6, w6, hap6, ho6, hb6⟩ := HCP.out w5.drew HW5.out.drew 37
        refine wpO_append_is _ _ rfl _ _ _ _ rfl rfl hap6 ?_
        have hB6 : Below W0.heap.size W0 w6 := HW5.out.drew.trans (hb6.mono HW5.out.size)
        refine hK.out _ _ (hB6) (fun hHeld => ?_)
        clear hK K
        try simp only [Act.put, List.setIfInBounds_toArray, List.set_cons_zero, List.set_cons_succ, Array.toArray_toList, List.getElem_toArray, List.getElem_cons_zero, List.getElem_cons_succ]
        refine wpAnyH_ready (rs := [5]) (by kernel_rfl) (by simp) ?_
        refine AllReadyH.cons rfl (fun K hK => ?_) AllReadyH.nil
        obtain ⟨v7, w7, hap7, ho7, hb7⟩ := HCQ.out w5.drew w6 v6 hb6 hB6 ho6 37
        refine wpO_append_is _ _ rfl _ _ _ _ rfl rfl hap7 ?_
        have hB7 : Below W0.heap.size W0 w7 := hB6.trans (hb7.mono HW5.out.size)
        obtain ⟨a7, c7, rfl, hn7⟩ := own_nmf ho7
        refine hK.out _ _ (hB7) (fun hHeld => ?_)
        clear hK K
        try simp only [Act.put, List.setIfInBounds_toArray, List.set_cons_zero, List.set_cons_succ, Array.toArray_toList, List.getElem_toArray, List.getElem_cons_zero, List.getElem_cons_succ]
        refine wpAnyH_ready (rs := [6]) (by kernel_rfl) (by simp) ?_
        refine AllReadyH.cons rfl (fun K hK => ?_) AllReadyH.nil
        go_simp
        refine (HTU.out w7 a7 c7 hB7 hn7).mono ?_
        rintro e' w8 ⟨rfl, hb8⟩
        dsimp only
        have hB8 : Below W0.heap.size W0 w8 := hB7.trans (hb8.mono hB7.size)
        refine hK.out _ _ (hB8) (fun hHeld => ?_)
        clear hK K
        try simp only [Act.put, List.setIfInBounds_toArray, List.set_cons_zero, List.set_cons_succ, Array.toArray_toList, List.getElem_toArray, List.getElem_cons_zero, List.getElem_cons_succ]
        refine tk 7 (v := ?v21) ?y21 hHeld ?r21
        case y21 => intro w hSw; go_simp; try with_reducible rfl
        try simp only [Act.put, List.setIfInBounds_toArray, List.set_cons_zero, List.set_cons_succ, Array.toArray_toList, List.getElem_toArray, List.getElem_cons_zero, List.getElem_cons_succ]
        refine wpAnyH_done (by kernel_rfl) ?_ _
        refine NoPanic.normal ?_
        have HW8 := hid hB8
        clear hB6 hB7 hB8 hb6 hb7 hb8 ho6 ho7 hap6 hap7 hn7 hHeld HW5 HCP HCQ HTU HTS HTT
        have hcase : decide (1000000000 < S) = false ∨ decide (1000000000 < S) = true ∧ decide (1000000000 < T) = false ∨ decide (1000000000 < S) = true ∧ decide (1000000000 < T) = true ∧ (U != S + T) = false := by
          by_cases h1 : 1000000000 < S
          · by_cases h2 : 1000000000 < T
            · exact .inr (.inr ⟨by simp [h1], by simp [h2], by simp [HU4.out h1 h2]⟩)
            · exact .inr (.inl ⟨by simp [h1], by simp; omega⟩)
          · exact .inl (by simp; omega)
        clear HU4
        go_upto_region 8 with fail
        rcases hcase with k1 | ⟨k1, k2⟩ | ⟨k1, k2, k3⟩
        · go_wp2
          go_loopw [12] (fun c wr => ∃ k : Nat, k ≤ n ∧ c = .int .i64 k ∧ Below W0.heap.size W0 wr) (fun c _ => n - (intOf c).toNat)
          case atStart => exact ⟨0, by omega, rfl, HW8.out⟩
          case round =>
            obtain ⟨k, hk, rfl, hw⟩ := hrel
            have c0 := HCS.out wr hw
            by_cases hkn : k < n
            · have kk1 : (k : Int) < (n : Int) := by omega
              have kk2 : (0 : Int) ≤ (k : Int) := by omega
              rcases HEL.out.below hw with h0 | ⟨bb, off, ea, hbl, hc⟩
              · omega
              subst ea
              have lv := lvValidator_at (hc k hkn)
              have ix := fun W => ixValidator_run W bb off n C k hkn
              obtain ⟨P, eP⟩ : ∃ P, off + 86 * k = P := ⟨_, rfl⟩
              rw [eP] at lv
              simp only [eP] at ix
              have hA := fun (W : World) (e : Int) => pA (z k) e W (HOK.out k hkn)
              obtain ⟨V, hV⟩ : ∃ V, z k = V := ⟨_, rfl⟩
              rw [hV] at lv hA
              have hA1 := fun W : World => hA W e
              have hA2 := fun W : World => hA W (e + 1)
              have f1 : actB V e = true → actB V (e + 1) = false → V.f6 = e + 1 := fun h1 h2 => by
                unfold actB at h1 h2
                simp at h1 h2
                have := h2 (by omega)
                omega
              have f2 : actB V e = false → actB V (e + 1) = true → V.f5 = e + 1 := fun h1 h2 => by
                unfold actB at h1 h2
                simp at h1 h2
                by_cases h : V.f5 ≤ e
                · have := h1 h
                  omega
                · omega
              have sv := svValidator_newv wr oValidator V
              obtain ⟨W1, hW1⟩ : ∃ W, wr.alloc (.cells (cel (sValidator V)) 53) = W := ⟨_, rfl⟩
              rw [hW1] at sv
              have r1 : W1.heap[wr.heap.size]? = some (.cells (cel (sValidator V)) 53) := by rw [← hW1]; exact heap_new rfl
              have z1 : wr.heap.size < W1.heap.size := (Array.getElem?_eq_some_iff.1 r1).1
              have hB1 : Below W0.heap.size W0 W1 := by rw [← hW1]; exact hw.alloc hw.size _
              obtain ⟨y, ey⟩ : ∃ y, wr.heap.size = y := ⟨_, rfl⟩
              rw [ey] at sv r1 z1
              have hlv : ∀ W : World, Below W1.heap.size W1 W → (lvValidator ⟨y, 0, none⟩).run Try.prog W = .ok (.agg (cel (sValidator V))) W := fun W h => lvValidator_row ((h.block _ z1).trans r1)
              have hl5 : ∀ W : World, Below W1.heap.size W1 W → W.cell? ⟨y, 83, none⟩ = some (.int .u64 V.f5) := fun W h => seg_nu ((h.block _ z1).trans r1) 5 V.f5 rfl 83 rfl
              have hl6 : ∀ W : World, Below W1.heap.size W1 W → W.cell? ⟨y, 84, none⟩ = some (.int .u64 V.f6) := fun W h => seg_nu ((h.block _ z1).trans r1) 6 V.f6 rfl 84 rfl
              generalize actB V e = p1 at *
              generalize actB V (e + 1) = p2 at *
              generalize V.f5 = F5 at *
              generalize V.f6 = F6 at *
              have hcase2 : p1 = true ∧ p2 = true ∨ p1 = true ∧ p2 = false ∧ (F6 != e + 1) = false ∨ p1 = false ∧ p2 = true ∧ (F5 != e + 1) = false ∨ p1 = false ∧ p2 = false := by
                cases p1 <;> cases p2
                · exact .inr (.inr (.inr ⟨rfl, rfl⟩))
                · exact .inr (.inr (.inl ⟨rfl, rfl, by simp [f2 rfl rfl]⟩))
                · exact .inr (.inl ⟨rfl, rfl, by simp [f1 rfl rfl]⟩)
                · exact .inl ⟨rfl, rfl⟩
              have HLV := hid hlv
              have HL5 := hid hl5
              have HL6 := hid hl6
              have HA1 := hid hA1
              have HA2 := hid hA2
              have HB1 := hid hB1
              clear hlv hl5 hl6 hA hA1 hA2 f1 f2 hB1 r1 z1 hc hbl eP hV hw
              go_upto_region 14 with fail
              clear sv lv ix c0 ey hW1
              have lw := HLV.out W1 (Below.refl _ _)
              go_upto_region 15 with (go_at_call 8; refine (HA1.out W1).mono ?_; rintro e' w9 ⟨rfl, hb9⟩)
              have lw9 := HLV.out w9 hb9
              clear lw
              go_upto_region 16 with (go_at_call 8; refine (HA2.out w9).mono ?_; rintro e' w10 ⟨rfl, hb10⟩)
              have hB10 := hb9.trans (hb10.mono hb9.size)
              have c5 := HL5.out w10 hB10
              have c6 := HL6.out w10 hB10
              have hfin : Below W0.heap.size W0 w10 := HB1.out.trans (hB10.mono HB1.out.size)
              have HFIN := hid hfin
              clear lw9 hb9 hb10 hB10 hfin
              rcases hcase2 with ⟨rfl, rfl⟩ | ⟨rfl, rfl, hq⟩ | ⟨rfl, rfl, hq⟩ | ⟨rfl, rfl⟩
              all_goals
                go_wp2
                go_roundw
                case rel => exact ⟨k + 1, by omega, by go_num, HFIN.out⟩
                case measure => simp [intOf]; omega
            · have HW := hid hw
              clear hw
              go_wp2
              go_ret
              exact ⟨rfl, HB.out.trans (HW.out.mono (by omega))⟩
        · go_wp2
          go_loopw [12] (fun c wr => ∃ k : Nat, k ≤ n ∧ c = .int .i64 k ∧ Below W0.heap.size W0 wr) (fun c _ => n - (intOf c).toNat)
          case atStart => exact ⟨0, by omega, rfl, HW8.out⟩
          case round =>
            obtain ⟨k, hk, rfl, hw⟩ := hrel
            have c0 := HCS.out wr hw
            by_cases hkn : k < n
            · have kk1 : (k : Int) < (n : Int) := by omega
              have kk2 : (0 : Int) ≤ (k : Int) := by omega
              rcases HEL.out.below hw with h0 | ⟨bb, off, ea, hbl, hc⟩
              · omega
              subst ea
              have lv := lvValidator_at (hc k hkn)
              have ix := fun W => ixValidator_run W bb off n C k hkn
              obtain ⟨P, eP⟩ : ∃ P, off + 86 * k = P := ⟨_, rfl⟩
              rw [eP] at lv
              simp only [eP] at ix
              have hA := fun (W : World) (e : Int) => pA (z k) e W (HOK.out k hkn)
              obtain ⟨V, hV⟩ : ∃ V, z k = V := ⟨_, rfl⟩
              rw [hV] at lv hA
              have hA1 := fun W : World => hA W e
              have hA2 := fun W : World => hA W (e + 1)
              have f1 : actB V e = true → actB V (e + 1) = false → V.f6 = e + 1 := fun h1 h2 => by
                unfold actB at h1 h2
                simp at h1 h2
                have := h2 (by omega)
                omega
              have f2 : actB V e = false → actB V (e + 1) = true → V.f5 = e + 1 := fun h1 h2 => by
                unfold actB at h1 h2
                simp at h1 h2
                by_cases h : V.f5 ≤ e
                · have := h1 h
                  omega
                · omega
              have sv := svValidator_newv wr oValidator V
              obtain ⟨W1, hW1⟩ : ∃ W, wr.alloc (.cells (cel (sValidator V)) 53) = W := ⟨_, rfl⟩
              rw [hW1] at sv
              have r1 : W1.heap[wr.heap.size]? = some (.cells (cel (sValidator V)) 53) := by rw [← hW1]; exact heap_new rfl
              have z1 : wr.heap.size < W1.heap.size := (Array.getElem?_eq_some_iff.1 r1).1
              have hB1 : Below W0.heap.size W0 W1 := by rw [← hW1]; exact hw.alloc hw.size _
              obtain ⟨y, ey⟩ : ∃ y, wr.heap.size = y := ⟨_, rfl⟩
              rw [ey] at sv r1 z1
              have hlv : ∀ W : World, Below W1.heap.size W1 W → (lvValidator ⟨y, 0, none⟩).run Try.prog W = .ok (.agg (cel (sValidator V))) W := fun W h => lvValidator_row ((h.block _ z1).trans r1)
              have hl5 : ∀ W : World, Below W1.heap.size W1 W → W.cell? ⟨y, 83, none⟩ = some (.int .u64 V.f5) := fun W h => seg_nu ((h.block _ z1).trans r1) 5 V.f5 rfl 83 rfl
              have hl6 : ∀ W : World, Below W1.heap.size W1 W → W.cell? ⟨y, 84, none⟩ = some (.int .u64 V.f6) := fun W h => seg_nu ((h.block _ z1).trans r1) 6 V.f6 rfl 84 rfl
              generalize actB V e = p1 at *
              generalize actB V (e + 1) = p2 at *
              generalize V.f5 = F5 at *
              generalize V.f6 = F6 at *
              have hcase2 : p1 = true ∧ p2 = true ∨ p1 = true ∧ p2 = false ∧ (F6 != e + 1) = false ∨ p1 = false ∧ p2 = true ∧ (F5 != e + 1) = false ∨ p1 = false ∧ p2 = false := by
                cases p1 <;> cases p2
                · exact .inr (.inr (.inr ⟨rfl, rfl⟩))
                · exact .inr (.inr (.inl ⟨rfl, rfl, by simp [f2 rfl rfl]⟩))
                · exact .inr (.inl ⟨rfl, rfl, by simp [f1 rfl rfl]⟩)
                · exact .inl ⟨rfl, rfl⟩
              have HLV := hid hlv
              have HL5 := hid hl5
              have HL6 := hid hl6
              have HA1 := hid hA1
              have HA2 := hid hA2
              have HB1 := hid hB1
              clear hlv hl5 hl6 hA hA1 hA2 f1 f2 hB1 r1 z1 hc hbl eP hV hw
              go_upto_region 14 with fail
              clear sv lv ix c0 ey hW1
              have lw := HLV.out W1 (Below.refl _ _)
              go_upto_region 15 with (go_at_call 8; refine (HA1.out W1).mono ?_; rintro e' w9 ⟨rfl, hb9⟩)
              have lw9 := HLV.out w9 hb9
              clear lw
              go_upto_region 16 with (go_at_call 8; refine (HA2.out w9).mono ?_; rintro e' w10 ⟨rfl, hb10⟩)
              have hB10 := hb9.trans (hb10.mono hb9.size)
              have c5 := HL5.out w10 hB10
              have c6 := HL6.out w10 hB10
              have hfin : Below W0.heap.size W0 w10 := HB1.out.trans (hB10.mono HB1.out.size)
              have HFIN := hid hfin
              clear lw9 hb9 hb10 hB10 hfin
              rcases hcase2 with ⟨rfl, rfl⟩ | ⟨rfl, rfl, hq⟩ | ⟨rfl, rfl, hq⟩ | ⟨rfl, rfl⟩
              all_goals
                go_wp2
                go_roundw
                case rel => exact ⟨k + 1, by omega, by go_num, HFIN.out⟩
                case measure => simp [intOf]; omega
            · have HW := hid hw
              clear hw
              go_wp2
              go_ret
              exact ⟨rfl, HB.out.trans (HW.out.mono (by omega))⟩
        · go_wp2
          go_loopw [12] (fun c wr => ∃ k : Nat, k ≤ n ∧ c = .int .i64 k ∧ Below W0.heap.size W0 wr) (fun c _ => n - (intOf c).toNat)
          case atStart => exact ⟨0, by omega, rfl, HW8.out⟩
          case round =>
            obtain ⟨k, hk, rfl, hw⟩ := hrel
            have c0 := HCS.out wr hw
            by_cases hkn : k < n
            · have kk1 : (k : Int) < (n : Int) := by omega
              have kk2 : (0 : Int) ≤ (k : Int) := by omega
              rcases HEL.out.below hw with h0 | ⟨bb, off, ea, hbl, hc⟩
              · omega
              subst ea
              have lv := lvValidator_at (hc k hkn)
              have ix := fun W => ixValidator_run W bb off n C k hkn
              obtain ⟨P, eP⟩ : ∃ P, off + 86 * k = P := ⟨_, rfl⟩
              rw [eP] at lv
              simp only [eP] at ix
              have hA := fun (W : World) (e : Int) => pA (z k) e W (HOK.out k hkn)
              obtain ⟨V, hV⟩ : ∃ V, z k = V := ⟨_, rfl⟩
              rw [hV] at lv hA
              have hA1 := fun W : World => hA W e
              have hA2 := fun W : World => hA W (e + 1)
              have f1 : actB V e = true → actB V (e + 1) = false → V.f6 = e + 1 := fun h1 h2 => by
                unfold actB at h1 h2
                simp at h1 h2
                have := h2 (by omega)
                omega
              have f2 : actB V e = false → actB V (e + 1) = true → V.f5 = e + 1 := fun h1 h2 => by
                unfold actB at h1 h2
                simp at h1 h2
                by_cases h : V.f5 ≤ e
                · have := h1 h
                  omega
                · omega
              have sv := svValidator_newv wr oValidator V
              obtain ⟨W1, hW1⟩ : ∃ W, wr.alloc (.cells (cel (sValidator V)) 53) = W := ⟨_, rfl⟩
              rw [hW1] at sv
              have r1 : W1.heap[wr.heap.size]? = some (.cells (cel (sValidator V)) 53) := by rw [← hW1]; exact heap_new rfl
              have z1 : wr.heap.size < W1.heap.size := (Array.getElem?_eq_some_iff.1 r1).1
              have hB1 : Below W0.heap.size W0 W1 := by rw [← hW1]; exact hw.alloc hw.size _
              obtain ⟨y, ey⟩ : ∃ y, wr.heap.size = y := ⟨_, rfl⟩
              rw [ey] at sv r1 z1
              have hlv : ∀ W : World, Below W1.heap.size W1 W → (lvValidator ⟨y, 0, none⟩).run Try.prog W = .ok (.agg (cel (sValidator V))) W := fun W h => lvValidator_row ((h.block _ z1).trans r1)
              have hl5 : ∀ W : World, Below W1.heap.size W1 W → W.cell? ⟨y, 83, none⟩ = some (.int .u64 V.f5) := fun W h => seg_nu ((h.block _ z1).trans r1) 5 V.f5 rfl 83 rfl
              have hl6 : ∀ W : World, Below W1.heap.size W1 W → W.cell? ⟨y, 84, none⟩ = some (.int .u64 V.f6) := fun W h => seg_nu ((h.block _ z1).trans r1) 6 V.f6 rfl 84 rfl
              generalize actB V e = p1 at *
              generalize actB V (e + 1) = p2 at *
              generalize V.f5 = F5 at *
              generalize V.f6 = F6 at *
              have hcase2 : p1 = true ∧ p2 = true ∨ p1 = true ∧ p2 = false ∧ (F6 != e + 1) = false ∨ p1 = false ∧ p2 = true ∧ (F5 != e + 1) = false ∨ p1 = false ∧ p2 = false := by
                cases p1 <;> cases p2
                · exact .inr (.inr (.inr ⟨rfl, rfl⟩))
                · exact .inr (.inr (.inl ⟨rfl, rfl, by simp [f2 rfl rfl]⟩))
                · exact .inr (.inl ⟨rfl, rfl, by simp [f1 rfl rfl]⟩)
                · exact .inl ⟨rfl, rfl⟩
              have HLV := hid hlv
              have HL5 := hid hl5
              have HL6 := hid hl6
              have HA1 := hid hA1
              have HA2 := hid hA2
              have HB1 := hid hB1
              clear hlv hl5 hl6 hA hA1 hA2 f1 f2 hB1 r1 z1 hc hbl eP hV hw
              go_upto_region 14 with fail
              clear sv lv ix c0 ey hW1
              have lw := HLV.out W1 (Below.refl _ _)
              go_upto_region 15 with (go_at_call 8; refine (HA1.out W1).mono ?_; rintro e' w9 ⟨rfl, hb9⟩)
              have lw9 := HLV.out w9 hb9
              clear lw
              go_upto_region 16 with (go_at_call 8; refine (HA2.out w9).mono ?_; rintro e' w10 ⟨rfl, hb10⟩)
              have hB10 := hb9.trans (hb10.mono hb9.size)
              have c5 := HL5.out w10 hB10
              have c6 := HL6.out w10 hB10
              have hfin : Below W0.heap.size W0 w10 := HB1.out.trans (hB10.mono HB1.out.size)
              have HFIN := hid hfin
              clear lw9 hb9 hb10 hB10 hfin
              rcases hcase2 with ⟨rfl, rfl⟩ | ⟨rfl, rfl, hq⟩ | ⟨rfl, rfl, hq⟩ | ⟨rfl, rfl⟩
              all_goals
                go_wp2
                go_roundw
                case rel => exact ⟨k + 1, by omega, by go_num, HFIN.out⟩
                case measure => simp [intOf]; omega
            · have HW := hid hw
              clear hw
              go_wp2
              go_ret
              exact ⟨rfl, HB.out.trans (HW.out.mono (by omega))⟩

end Go.Proofs.Ytmjdofegmelgbaa
