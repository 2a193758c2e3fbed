/-
  What bytes are read as an AttesterSlashing, laid again; the statement about AttesterSlashing answers true.
-/
import Derived.Test.YtokbhcgooboocaaGreatDoorOaGp
import Derived.Test.YtokbhcgooboocaaGreatDoorOaDp
import Derived.Test.YtokbhcgooboocaaGreatDoorOaFp
import Derived.Test.YtokbhcgooboocaaGreatDoorOaJp
namespace Go.Proofs.YtokbhcgooboocaaGreatDoor
open Go.RowKit
set_option linter.unusedVariables false
set_option linter.unusedSimpArgs false
set_option maxRecDepth 20000

theorem eA_zero {m : Nat → Int} {len : Nat} (h1 : 8 ≤ len) (h2 : Z.offN zA m 2 0 = 8) (h3 : 8 ≤ Z.offN zA m 2 1) (h4 : Z.offN zA m 2 1 ≤ len) : eA m len = 0 := by
  have k1 : Z.hdL zA 2 = 8 := rfl
  have k2 : Z.zn zA 2 = 2 := rfl
  have k4 : Z.szB zA 2 = true := by decide
  unfold eA Z.cutE
  rw [k1, k2, k4, if_neg (by decide : ¬ true = false), if_neg (by omega : ¬ len < 8), if_neg (by omega : ¬ ((2 : Nat) = 0 ∧ 8 < len)), if_neg (fun h => h.2 h2)]
  have ho : Z.ordB (fun i => (Z.offN zA m 2 i : Int)) (len : Int) 2 = true := Z.ordB_true fun i hi => by
    rcases (by omega : i = 0 ∨ i = 1) with rfl | rfl
    · unfold Z.ordAt
      rw [if_pos rfl]
      dsimp only
      omega
    · unfold Z.ordAt
      rw [if_neg (by omega)]
      show (Z.offN zA m 2 0 : Int) ≤ (Z.offN zA m 2 1 : Int) ∧ (Z.offN zA m 2 1 : Int) ≤ (len : Int)
      omega
  rw [ho, if_neg (by decide : ¬ true = false)]
theorem pA0 (m : Nat → Int) (len : Nat) : pA m len 0 = Z.offN zA m 2 1 - Z.offN zA m 2 0 := rfl
theorem pA1 (m : Nat → Int) (len : Nat) : pA m len 1 = len - Z.offN zA m 2 1 := rfl
theorem fA0 (m : Nat → Int) (q : Nat) : fA m 0 q = m (Z.offN zA m 2 0 + q) := rfl
theorem fA1 (m : Nat → Int) (q : Nat) : fA m 1 q = m (Z.offN zA m 2 1 + q) := rfl
theorem fA_bd {m : Nat → Int} (hm : ∀ j, 0 ≤ m j ∧ m j < 256) (r j : Nat) : 0 ≤ fA m r j ∧ fA m r j < 256 := hm _
/-- The bytes of both parts laid are the bytes. -/
theorem lay_again {m : Nat → Int} (hm : ∀ j, 0 ≤ m j ∧ m j < 256) {len : Nat} (h : eA m len = 0) (q : Nat) (hq : q < len) : ct7 [(4, b4 8), (4, b4 (8 + pA m len 0)), (pA m len 0, fA m 0), (pA m len 1, fA m 1)] q = m q := by
  have h1 := Z.cut_again (Z.cutE_ok h) hm
  have h2 := (layA (none, pA m len 0, 0, fA m 0) (none, pA m len 1, 0, fA m 1)).2
  have h3 : Z.layC zA (fun r => ([(none, pA m len 0, 0, fA m 0), (none, pA m len 1, 0, fA m 1)].getD r nilP).2.2.2) (fun r => ([(none, pA m len 0, 0, fA m 0), (none, pA m len 1, 0, fA m 1)].getD r nilP).2.1) 2 = Z.layC zA (Z.cFn zA m 2) (Z.cLn zA m 2 len) 2 := rfl
  rw [h3, h1] at h2
  have hs := pA_sum h
  have h4 := ct7_cl7 [(4, b4 8), (4, b4 (8 + pA m len 0)), (pA m len 0, fA m 0), (pA m len 1, fA m 1)] q (by show q < 4 + (4 + (pA m len 0 + (pA m len 1 + 0))); omega)
  have h5 : cl7 [(4, b4 8), (4, b4 (8 + pA m len 0)), (pA m len 0, fA m 0), (pA m len 1, fA m 1)] = (List.range len).map m := h2.symm
  rw [h5, List.getElem?_map, List.getElem?_range hq] at h4
  exact (Option.some.inj h4).symm
theorem ct7_step (a : Nat) (f f' : Nat → Int) (r r' : List (Nat × (Nat → Int))) (q : Nat) (h1 : q < a → f q = f' q) (h2 : ¬ q < a → ct7 r (q - a) = ct7 r' (q - a)) : ct7 ((a, f) :: r) q = ct7 ((a, f') :: r') q := by
  show (if q < a then f q else ct7 r (q - a)) = if q < a then f' q else ct7 r' (q - a)
  by_cases h : q < a
  · rw [if_pos h, if_pos h, h1 h]
  · rw [if_neg h, if_neg h, h2 h]
def lnA (x : VAttesterSlashing) : Nat := 8 + lnX x.f0 + lnX x.f1
theorem eqA {m : Nat → Int} (hm : ∀ j, 0 ≤ m j ∧ m j < 256) {len : Nat} (h : eA m len = 0) (x : VAttesterSlashing) (h0 : pA m len 0 = lnX x.f0) (h1 : pA m len 1 = lnX x.f1) (q0 : ∀ q, q < pA m len 0 → ct7 (eIndexed x.f0) q = fA m 0 q) (q1 : ∀ q, q < pA m len 1 → ct7 (eIndexed x.f1) q = fA m 1 q) :
    lnA x = len ∧ ∀ q, q < len → ct7 (eAttesterSlashing x) q = m q := by
  have hs := pA_sum h
  refine ⟨by unfold lnA; omega, fun q hq => ?_⟩
  rw [← lay_again hm h q hq]
  unfold eAttesterSlashing
  rw [← h0, ← h1]
  exact ct7_step 4 _ _ _ _ q (fun _ => rfl) (fun c0 => ct7_step 4 _ _ _ _ _ (fun _ => rfl) (fun c1 => ct7_step _ _ _ _ _ _ (fun c2 => q0 _ c2) (fun c2 => ct7_step _ _ _ [] [] _ (fun c3 => q1 _ c3) (fun _ => rfl))))
/-- The reference's Enc of the two values, as premises have it. -/
theorem rencI_prem (v : VIndexed) (w : World) (hv : OkIndexed v) (hn : v.n ≤ 64) (hw : Z.Nms .u64 w v.a v.n v.zs) : ∀ W, Below w.heap.size w W → Calls Tryz.prog 45 #[.agg (cel (sIndexed v))] W fun e w' => ∃ a c, e = .returned (.tuple #[.slice a (lnX v) c, .int .i64 0]) ∧ Bys w' a (lnX v) c (ct7 (eIndexed v)) ∧ Below W.heap.size W w' := fun W h => (rencIndexed_ok v W hv hn (hw.below h)).mono (by
  rintro e w' ⟨v', rfl, ho, hbw⟩
  obtain ⟨a, c, rfl, _, _, h3⟩ := own_open7 ho (by omega)
  exact ⟨a, c, rfl, h3, hbw⟩)
theorem encI_prem (v : VIndexed) (w : World) (hv : OkIndexed v) (hn : v.n ≤ 64) (hw : Z.Nms .u64 w v.a v.n v.zs) : ∀ W, Below w.heap.size w W → Calls Tryz.prog 18 #[.agg (cel (sIndexed v))] W fun e w' => ∃ a c, e = .returned (.tuple #[.slice a (lnX v) c, .int .i64 0]) ∧ Bys w' a (lnX v) c (ct7 (eIndexed v)) ∧ Below W.heap.size W w' := fun W h => (encIndexed_ok v W hv hn (hw.below h)).mono (by
  rintro e w' ⟨v', rfl, ho, hbw⟩
  obtain ⟨a, c, rfl, _, _, h3⟩ := own_open7 ho (by omega)
  exact ⟨a, c, rfl, h3, hbw⟩)
theorem lnA_pos (v : VAttesterSlashing) : 0 < 8 + lnX v.f0 + lnX v.f1 := by omega
theorem enc2A (v : VAttesterSlashing) (w : World) (hv : OkAttesterSlashing v) (hn0 : v.f0.n ≤ 64) (hn1 : v.f1.n ≤ 64) (hw0 : Z.Nms .u64 w v.f0.a v.f0.n v.f0.zs) (hw1 : Z.Nms .u64 w v.f1.a v.f1.n v.f1.zs) (M : Nat → Int) (hM : ∀ q, q < lnA v → ct7 (eAttesterSlashing v) q = M q) : Enc2AttesterSlashing (lnA v) M v w := fun X h => (rencAttesterSlashing_ok v X (rencI_prem v.f0 X hv.1 hn0 (hw0.below h)) (rencI_prem v.f1 X hv.2 hn1 (hw1.below h)) hn0 hn1).mono (by
  rintro e w' ⟨v', rfl, ho, hbw⟩
  obtain ⟨a, c, rfl, _, _, h3⟩ := own_open7 ho (lnA_pos v)
  exact ⟨a, c, rfl, Z.bys_congr h3 hM, hbw⟩)
theorem okoA : OkAttesterSlashing oAttesterSlashing := ⟨okoIndexed, okoIndexed⟩
theorem enc2A_o (w : World) : Enc2AttesterSlashing (lnA oAttesterSlashing) (ct7 (eAttesterSlashing oAttesterSlashing)) oAttesterSlashing w := enc2A oAttesterSlashing w okoA (by show 0 ≤ 64; omega) (by show 0 ≤ 64; omega) (.inl rfl) (.inl rfl) _ (fun _ _ => rfl)
theorem b4_bd (n q : Nat) (hq : q < 4) : 0 ≤ b4 n q ∧ b4 n q < 256 := by
  rcases (by omega : q = 0 ∨ q = 1 ∨ q = 2 ∨ q = 3) with rfl | rfl | rfl | rfl
  · show 0 ≤ (n : Int) % 256 ∧ (n : Int) % 256 < 256
    omega
  · show 0 ≤ (n : Int) / 256 % 256 ∧ (n : Int) / 256 % 256 < 256
    omega
  · show 0 ≤ (n : Int) / 65536 % 256 ∧ (n : Int) / 65536 % 256 < 256
    omega
  · show 0 ≤ (n : Int) / 16777216 % 256 ∧ (n : Int) / 16777216 % 256 < 256
    omega
/-- Both Reads, of any bytes. -/
theorem rdA (m : Nat → Int) (hm : ∀ j, 0 ≤ m j ∧ m j < 256) (len : Nat) (hlen : len ≤ 140737488351232) : ∃ (L2 : Nat) (M2 : Nat → Int) (E : Int), (E = 0 → L2 = len ∧ ∀ q, q < len → M2 q = m q) ∧
    (∀ x : VAttesterSlashing, x.f0.n ≤ 64 → x.f1.n ≤ 64 → len = lnA x → (∀ q, q < len → m q = ct7 (eAttesterSlashing x) q) → E = 0) ∧
    (∀ W a c, Bys W a len c m → len ≤ c → c ≤ 9223372036854775807 → Calls Tryz.prog 16 #[.slice a len c] W fun e w' => ∃ v, e = .returned (.tuple #[.agg (cel (sAttesterSlashing v)), .int .i64 E]) ∧ Below W.heap.size W w' ∧ Enc2AttesterSlashing L2 M2 v w') ∧
    (∀ W a c, Bys W a len c m → len ≤ c → c ≤ 9223372036854775807 → Calls Tryz.prog 17 #[.slice a len c] W fun e w' => ∃ v, e = .returned (.tuple #[.agg (cel (sAttesterSlashing v)), .int .i64 E]) ∧ Below W.heap.size W w' ∧ Enc2AttesterSlashing L2 M2 v w') := by
  have hEnc : ∀ x : VAttesterSlashing, x.f0.n ≤ 64 → x.f1.n ≤ 64 → len = lnA x → (∀ q, q < len → m q = ct7 (eAttesterSlashing x) q) → eA m len = 0 ∧ pA m len 0 = lnX x.f0 ∧ pA m len 1 = lnX x.f1 ∧ oN (fA m 0) = 228 ∧ oN (fA m 1) = 228 := by
    intro x hn0 hn1 hl hq
    have hx0 : lnX x.f0 = 228 + 8 * x.f0.n := rfl
    have hx1 : lnX x.f1 = 228 + 8 * x.f1.n := rfl
    have hl' : len = 8 + lnX x.f0 + lnX x.f1 := hl
    have b0 : Z.o4 m 0 = ((8 : Nat) : Int) := Z.o4_bt m 0 8 (by omega) (fun j hj => by
      rw [hq (0 + j) (by omega), Nat.zero_add]
      unfold eAttesterSlashing
      rw [ct7_cons]
      exact if_pos hj)
    have b1 : Z.o4 m 4 = ((8 + lnX x.f0 : Nat) : Int) := Z.o4_bt m 4 (8 + lnX x.f0) (by omega) (fun j hj => by
      rw [hq (4 + j) (by omega)]
      unfold eAttesterSlashing
      rw [ct7_cons]
      dsimp only
      rw [if_neg (by omega), ct7_cons]
      dsimp only
      rw [if_pos (by omega), show 4 + j - 4 = j by omega]
      rfl)
    have o0 : Z.offN zA m 2 0 = 8 := by
      show (Z.o4 m 0).toNat = 8
      omega
    have o1 : Z.offN zA m 2 1 = 8 + lnX x.f0 := by
      show (Z.o4 m 4).toNat = 8 + lnX x.f0
      omega
    refine ⟨eA_zero (by omega) o0 (by omega) (by omega), ?_, ?_, ?_, ?_⟩
    · rw [pA0, o0, o1]
      omega
    · rw [pA1, o1]
      omega
    · have g : ∀ j, j < 4 → fA m 0 j = ct7 (eIndexed x.f0) j := fun j hj => by
        rw [fA0, o0, hq (8 + j) (by omega)]
        unfold eAttesterSlashing
        rw [ct7_cons]
        dsimp only
        rw [if_neg (by omega), ct7_cons]
        dsimp only
        rw [if_neg (by omega), ct7_cons]
        dsimp only
        rw [if_pos (by omega), show 8 + j - 4 - 4 = j by omega]
      exact bytes_off ((g 0 (by omega)).trans rfl) ((g 1 (by omega)).trans rfl) ((g 2 (by omega)).trans rfl) ((g 3 (by omega)).trans rfl)
    · have g : ∀ j, j < 4 → fA m 1 j = ct7 (eIndexed x.f1) j := fun j hj => by
        rw [fA1, o1, hq (8 + lnX x.f0 + j) (by omega)]
        unfold eAttesterSlashing
        rw [ct7_cons]
        dsimp only
        rw [if_neg (by omega), ct7_cons]
        dsimp only
        rw [if_neg (by omega), ct7_cons]
        dsimp only
        rw [if_neg (by omega), ct7_cons]
        dsimp only
        rw [if_pos (by omega), show 8 + lnX x.f0 + j - 4 - 4 - lnX x.f0 = j by omega]
      exact bytes_off ((g 0 (by omega)).trans rfl) ((g 1 (by omega)).trans rfl) ((g 2 (by omega)).trans rfl) ((g 3 (by omega)).trans rfl)
  by_cases hA : eA m len = 0
  · have hs := pA_sum hA
    obtain ⟨v0, E0, k0, n0, t0, z0, c0, d0⟩ := rdV (fA m 0) (fA_bd hm 0) (pA m len 0) (by omega)
    obtain ⟨v1, E1, k1, n1, t1, z1, c1, d1⟩ := rdV (fA m 1) (fA_bd hm 1) (pA m len 1) (by omega)
    by_cases hE0 : E0 = 0
    · subst hE0
      obtain ⟨p0, q0⟩ := t0 rfl
      by_cases hE1 : E1 = 0
      · subst hE1
        obtain ⟨p1, q1⟩ := t1 rfl
        obtain ⟨s1, s2⟩ := eqA hm hA ⟨v0, v1⟩ p0 p1 q0 q1
        have hen : ∀ (w' : World) a0 c0 a1 c1, Z.Nms .u64 w' a0 v0.n v0.zs → Z.Nms .u64 w' a1 v1.n v1.zs → Enc2AttesterSlashing (lnA ⟨v0, v1⟩) (ct7 (eAttesterSlashing ⟨v0, v1⟩)) ⟨ati v0 a0 c0, ati v1 a1 c1⟩ w' := fun w' a0 c0 a1 c1 h0 h1 => enc2A ⟨ati v0 a0 c0, ati v1 a1 c1⟩ w' ⟨k0, k1⟩ n0 n1 h0 h1 _ (fun _ _ => rfl)
        refine ⟨lnA ⟨v0, v1⟩, ct7 (eAttesterSlashing ⟨v0, v1⟩), 0, fun _ => ⟨s1, s2⟩, fun _ _ _ _ _ => rfl, fun W a c hb h1 h2 => ?_, fun W a c hb h1 h2 => ?_⟩
        · refine (readAttesterSlashing_ok m a len c W hb hm h1 h2 hlen hA v0 c0 v1 c1).mono ?_
          rintro e w' ⟨a0, c0, a1, c1, rfl, hw0, hw1, hbw⟩
          exact ⟨_, rfl, hbw, hen w' a0 c0 a1 c1 hw0 hw1⟩
        · refine (rreadAttesterSlashing_ok m a len c W hb hm h1 h2 hlen hA (by omega) v0 d0 v1 d1).mono ?_
          rintro e w' ⟨a0, c0, a1, c1, rfl, hw0, hw1, hbw⟩
          exact ⟨_, rfl, hbw, hen w' a0 c0 a1 c1 hw0 hw1⟩
      · refine ⟨lnA oAttesterSlashing, ct7 (eAttesterSlashing oAttesterSlashing), E1, fun h => absurd h hE1, fun x h1 h2 h3 h4 => ?_, fun W a c hb h1 h2 => ?_, fun W a c hb h1 h2 => ?_⟩
        rotate_left
        · refine (readAttesterSlashing_bad1 m a len c W hb hm h1 h2 hlen hA E1 hE1 v0 c0 v1 c1).mono ?_
          rintro e w' ⟨rfl, hbw⟩
          exact ⟨oAttesterSlashing, rfl, hbw, enc2A_o w'⟩
        · refine (rreadAttesterSlashing_bad1 m a len c W hb hm h1 h2 hlen hA E1 hE1 (by omega) v0 d0 v1 d1).mono ?_
          rintro e w' ⟨rfl, hbw⟩
          exact ⟨oAttesterSlashing, rfl, hbw, enc2A_o w'⟩
        · obtain ⟨_, _, g2, _, g4⟩ := hEnc x h1 h2 h3 h4
          exact z1 x.f1.n h2 g2 g4
    · refine ⟨lnA oAttesterSlashing, ct7 (eAttesterSlashing oAttesterSlashing), E0, fun h => absurd h hE0, fun x h1 h2 h3 h4 => ?_, fun W a c hb h1 h2 => ?_, fun W a c hb h1 h2 => ?_⟩
      rotate_left
      · refine (readAttesterSlashing_bad0 m a len c W hb hm h1 h2 hlen hA E0 hE0 v0 c0).mono ?_
        rintro e w' ⟨rfl, hbw⟩
        exact ⟨oAttesterSlashing, rfl, hbw, enc2A_o w'⟩
      · refine (rreadAttesterSlashing_bad0 m a len c W hb hm h1 h2 hlen hA E0 hE0 v0 d0).mono ?_
        rintro e w' ⟨rfl, hbw⟩
        exact ⟨oAttesterSlashing, rfl, hbw, enc2A_o w'⟩
      · obtain ⟨_, g1, _, g3, _⟩ := hEnc x h1 h2 h3 h4
        exact z0 x.f0.n h1 g1 g3
  · refine ⟨lnA oAttesterSlashing, ct7 (eAttesterSlashing oAttesterSlashing), eA m len, fun h => absurd h hA, fun x h1 h2 h3 h4 => (hEnc x h1 h2 h3 h4).1, fun W a c hb h1 h2 => ?_, fun W a c hb h1 h2 => ?_⟩
    rotate_left
    · refine (rreadAttesterSlashing_no m a len c W hb hm h1 h2 hlen hA).mono ?_
      rintro e w' ⟨rfl, hbw⟩
      exact ⟨oAttesterSlashing, rfl, hbw, enc2A_o w'⟩
    · refine (readAttesterSlashing_no m a len c W hb hm h1 h2 hlen hA).mono ?_
      rintro e w' ⟨rfl, hbw⟩
      exact ⟨oAttesterSlashing, rfl, hbw, enc2A_o w'⟩

theorem eA_bd {x : VAttesterSlashing} (hx : OkAttesterSlashing x) (q : Nat) : 0 ≤ ct7 (eAttesterSlashing x) q ∧ ct7 (eAttesterSlashing x) q < 256 := ct7_bound _ (by
  intro p hp
  simp only [eAttesterSlashing, List.mem_cons, List.not_mem_nil, or_false] at hp
  rcases hp with rfl | rfl | rfl | rfl
  · exact fun q hq => b4_bd _ q hq
  · exact fun q hq => b4_bd _ q hq
  · exact fun q _ => eIndexed_bd hx.1 q
  · exact fun q _ => eIndexed_bd hx.2 q) q

theorem operAttesterSlashing_any (x : VAttesterSlashing) (m : Nat → Int) (ao : Option Addr) (len cap : Nat) (w : World) (hx : OkAttesterSlashing x ∧ Z.Nms .u64 w x.f0.a x.f0.n x.f0.zs ∧ Z.Nms .u64 w x.f1.a x.f1.n x.f1.zs) (hb : Bys w ao len cap m) (hm : ∀ j, 0 ≤ m j ∧ m j < 256) (hlen : len ≤ 140737488351232) (hlc : len ≤ cap) (hcap : cap ≤ 9223372036854775807) (hS : Sh w) (hC : Rc w) :
    Calls Tryz.prog 4 #[.agg (cel (sAttesterSlashing x)), .slice ao len cap] w fun e w' => e = .returned (.bool true) ∧ Below w.heap.size w w' := by
  obtain ⟨hx, hw0, hw1⟩ := hx
  obtain ⟨L2, M2, E, hEQ, _, hRD, hRR⟩ := rdA m hm len hlen
  by_cases hn0 : x.f0.n ≤ 64
  · by_cases hn1 : x.f1.n ≤ 64
    · obtain ⟨L1, M1, E1, hEQ1, hE1, hRD1, _⟩ := rdA (ct7 (eAttesterSlashing x)) (eA_bd hx) (lnA x) (by unfold lnA lnX; omega)
      obtain rfl : E1 = 0 := hE1 x hn0 hn1 rfl (fun _ _ => rfl)
      obtain ⟨l1, m1⟩ := hEQ1 rfl
      subst l1
      have hRD1' : ∀ W a c, Bys W a (lnA x) c (ct7 (eAttesterSlashing x)) → lnA x ≤ c → c ≤ 9223372036854775807 → Calls Tryz.prog 16 #[.slice a (lnA x) c] W fun e w' => ∃ v, e = .returned (.tuple #[.agg (cel (sAttesterSlashing v)), .int .i64 0]) ∧ Below W.heap.size W w' ∧ Enc2AttesterSlashing (lnA x) (ct7 (eAttesterSlashing x)) v w' := fun W a c h1 h2 h3 => (hRD1 W a c h1 h2 h3).mono (by
        rintro e w' ⟨v, rfl, hbw, hen⟩
        exact ⟨v, rfl, hbw, fun X h => (hen X h).mono (by
          rintro e w'' ⟨a', c', rfl, hb', hbw'⟩
          exact ⟨a', c', rfl, Z.bys_congr hb' m1, hbw'⟩)⟩)
      refine operAttesterSlashing_core x m (ct7 (eAttesterSlashing x)) M2 (hAttesterSlashing x) (lnA x) L2 0 E ao len cap w hb hlen hlc hcap (fun W h => (encAttesterSlashing_ok x W (encI_prem x.f0 W hx.1 hn0 (hw0.below h)) (encI_prem x.f1 W hx.2 hn1 (hw1.below h)) hn0 hn1).mono ?_) (fun W h => (rencAttesterSlashing_ok x W (rencI_prem x.f0 W hx.1 hn0 (hw0.below h)) (rencI_prem x.f1 W hx.2 hn1 (hw1.below h)) hn0 hn1).mono ?_) (fun W h => rootAttesterSlashing_ok x W (hIndexed x.f0) (hIndexed x.f1) (hIndexed_bd hx.1) (hIndexed_bd hx.2) (fun X k => rootIndexed_ok x.f0 X hx.1 hn0 ((hw0.below h).below k) ((hS.below h).below k)) (fun X k => rootIndexed_ok x.f1 X hx.2 hn1 ((hw1.below h).below k) ((hS.below h).below k)) (hS.below h)) (fun W h => rrootAttesterSlashing_ok x W hx hn0 hn1 (hw0.below h) (hw1.below h) (hC.below h)) (fun _ => hRD1') hRD hRR hEQ
      · rintro e w' ⟨v, rfl, ho, hbw⟩
        obtain ⟨a, c, rfl, h1, h2, h3⟩ := own_open7 ho (lnA_pos x)
        exact ⟨a, c, rfl, h1, h2, h3, hbw⟩
      · rintro e w' ⟨v, rfl, ho, hbw⟩
        obtain ⟨a, c, rfl, h1, h2, h3⟩ := own_open7 ho (lnA_pos x)
        exact ⟨a, c, rfl, h3, hbw⟩
    · refine operAttesterSlashing_core x m (fun _ => 0) M2 (fun _ => 0) 0 L2 6 E ao len cap w hb hlen hlc hcap (fun W h => (encAttesterSlashing_bad1 x W (encI_prem x.f0 W hx.1 hn0 (hw0.below h)) 6 (by decide) (fun X k => encIndexed_long x.f1 X (by omega))).mono ?_) (fun W h => (rencAttesterSlashing_bad1 x W (rencI_prem x.f0 W hx.1 hn0 (hw0.below h)) 6 (by decide) (fun X k => rencIndexed_long x.f1 X (by omega))).mono ?_) (fun W h => rootAttesterSlashing_bad1 x W (hIndexed x.f0) 6 (by decide) (fun X k => rootIndexed_ok x.f0 X hx.1 hn0 ((hw0.below h).below k) ((hS.below h).below k)) (fun X k => rootIndexed_long x.f1 X (by omega))) (fun W h => rrootAttesterSlashing_bad1 x W (hIndexed x.f0) 6 (by decide) (fun X k => rrootIndexed_ok x.f0 X hx.1 hn0 ((hw0.below h).below k) ((hC.below h).below k)) (fun X k => rrootIndexed_long x.f1 X (by omega))) (fun h => absurd h (by decide)) hRD hRR hEQ
      · rintro e w' ⟨rfl, hbw⟩
        exact ⟨none, 0, rfl, Nat.le_refl _, by omega, .inl ⟨rfl, rfl, rfl⟩, hbw⟩
      · rintro e w' ⟨rfl, hbw⟩
        exact ⟨none, 0, rfl, .inl ⟨rfl, rfl, rfl⟩, hbw⟩
  · refine operAttesterSlashing_core x m (fun _ => 0) M2 (fun _ => 0) 0 L2 6 E ao len cap w hb hlen hlc hcap (fun W h => (encAttesterSlashing_bad0 x W 6 (by decide) (fun X k => encIndexed_long x.f0 X (by omega))).mono ?_) (fun W h => (rencAttesterSlashing_bad0 x W 6 (by decide) (fun X k => rencIndexed_long x.f0 X (by omega))).mono ?_) (fun W h => rootAttesterSlashing_bad0 x W 6 (by decide) (fun X k => rootIndexed_long x.f0 X (by omega))) (fun W h => rrootAttesterSlashing_bad0 x W 6 (by decide) (fun X k => rrootIndexed_long x.f0 X (by omega))) (fun h => absurd h (by decide)) hRD hRR hEQ
    · rintro e w' ⟨rfl, hbw⟩
      exact ⟨none, 0, rfl, Nat.le_refl _, by omega, .inl ⟨rfl, rfl, rfl⟩, hbw⟩
    · rintro e w' ⟨rfl, hbw⟩
      exact ⟨none, 0, rfl, .inl ⟨rfl, rfl, rfl⟩, hbw⟩

end Go.Proofs.YtokbhcgooboocaaGreatDoor
