/-
  What bytes are read as an Attest, laid again; the statement about Attest answers true, of bytes of some length.
-/
import Derived.Test.YtokbhcgooboocaaGreatDoorOtGp
import Derived.Test.YtokbhcgooboocaaGreatDoorOtCp
import Derived.Test.YtokbhcgooboocaaGreatDoorOtDp
import Derived.Test.YtokbhcgooboocaaGreatDoorOtRp
import Derived.Test.YtokbhcgooboocaaGreatDoorOiVp
namespace Go.Proofs.YtokbhcgooboocaaGreatDoor
open Go.RowKit
set_option linter.unusedVariables false
set_option linter.unusedSimpArgs false
set_option maxRecDepth 20000

/-- A value with its bits elsewhere. -/
def atb (v : VAttest) (a : Option Addr) (c : Nat) : VAttest := ⟨a, v.n, c, v.zs, v.f1, v.f2⟩
/-- The bytes of the list, as numbers. -/
def mL (m : Nat → Int) (q : Nat) : Nat := (m (228 + q)).toNat
theorem mL_eq {m : Nat → Int} (hm : ∀ j, 0 ≤ m j ∧ m j < 256) (q : Nat) : ((mL m q : Nat) : Int) = m (228 + q) := Int.toNat_of_nonneg (hm _).1
theorem mL_bd {m : Nat → Int} (hm : ∀ j, 0 ≤ m j ∧ m j < 256) (q : Nat) : mL m q < 256 := by
  have := hm (228 + q)
  unfold mL
  omega
theorem rl_cases {m : Nat → Nat} {len : Nat} (h : Z.rlE m len 64 = 0) : ¬ len = 0 ∧ ¬ m (len - 1) = 0 ∧ Z.rlL m len ≤ 64 ∧ Z.rlN m len 64 = Z.rlL m len := by
  by_cases h2 : len = 0
  · have := (Z.rl_size (m := m) (n := 64) (by omega) h2).1
    omega
  by_cases h3 : m (len - 1) = 0
  · have := (Z.rl_form (m := m) (n := 64) (by omega) h2 h3).1
    omega
  by_cases h4 : (64 : Int) < Z.rlL m len
  · have := (Z.rl_long (m := m) (n := 64) (by omega) h2 h3 h4).1
    omega
  exact ⟨h2, h3, by omega, (Z.rl_ok (m := m) (n := 64) (by omega) h2 h3 h4).2⟩
/-- Bits that were read, laid again. -/
theorem l_back {m : Nat → Nat} {len : Nat} (hm : ∀ q, m q < 256) (h : Z.rlE m len 64 = 0) : Z.rlN m len 64 / 8 + 1 = len ∧ ∀ q, q < len → Z.byt (Z.ext (Z.tb m) (Z.rlN m len 64)) (Z.rlN m len 64 + 1) q = m q := by
  obtain ⟨h2, h3, h4, e⟩ := rl_cases h
  rw [e]
  obtain ⟨b1, b2, b3⟩ := Z.last_bit m len h2 (hm _) h3
  have hl := Z.log2_lt8 (hm (len - 1))
  have hL : Z.rlL m len / 8 + 1 = len := by unfold Z.rlL; omega
  refine ⟨hL, fun q hq => ?_⟩
  rw [Z.byt_congr (n := Z.rlL m len + 1) (f := Z.ext (Z.tb m) (Z.rlL m len)) (g := Z.tb m), Z.byt_tb m (Z.rlL m len + 1) q (hm q)]
  · intro k hk hn
    have := b3 (8 * q + k) (by omega) (by omega)
    unfold Z.tb at this
    rw [show (8 * q + k) / 8 = q by omega, show (8 * q + k) % 8 = k by omega] at this
    exact this
  · intro i hi
    by_cases e : i = Z.rlL m len
    · rw [e, Z.ext_at, b2]
    · exact Z.ext_congr _ _ i (by omega)
theorem l_there (f : Nat → Bool) (n : Nat) (hn : n ≤ 64) (m : Nat → Nat) (h : m (n / 8) = Z.byt (Z.ext f n) (n + 1) (n / 8)) : Z.rlE m (n / 8 + 1) 64 = 0 := by
  obtain ⟨h1, h2⟩ := Z.last_ext f n
  have hL : Z.rlL m (n / 8 + 1) = n := by
    unfold Z.rlL
    rw [Nat.add_sub_cancel, h, h1]
    omega
  exact (Z.rl_ok (m := m) (len := n / 8 + 1) (n := 64) (by omega) (by omega) (by rw [Nat.add_sub_cancel, h]; exact h2) (by rw [hL]; omega)).1
theorem okoAttest : OkAttest oAttest := ⟨okoData, fun _ _ => z256⟩
/-- The value that bytes are. -/
def pAttest (m : Nat → Int) (len : Nat) : VAttest := ⟨none, Z.rlN (mL m) (len - 228) 64, 0, Z.tb (mL m), pData (fun q => m (4 + q)), fun q => m (132 + q)⟩
theorem okpAttest (m : Nat → Int) (hm : ∀ j, 0 ≤ m j ∧ m j < 256) (len : Nat) : OkAttest (pAttest m len) := ⟨okpData (fun q => m (4 + q)) (fun j => hm (4 + j)), fun j _ => hm (132 + j)⟩
theorem epAttest (m : Nat → Int) (hm : ∀ j, 0 ≤ m j ∧ m j < 256) (len : Nat) (h228 : 228 ≤ len) (ho : oN m = 228) (hE : Z.rlE (mL m) (len - 228) 64 = 0) : len = 228 + ((pAttest m len).n / 8 + 1) ∧ ∀ q, q < len → ct7 (eAttest (pAttest m len)) q = m q := by
  obtain ⟨o0, o1, o2, o3⟩ := off_bytes hm ho
  obtain ⟨hl, hq⟩ := l_back (mL_bd hm) hE
  have hl' : (pAttest m len).n / 8 + 1 = len - 228 := hl
  refine ⟨by omega, fun q hq' => ?_⟩
  unfold eAttest
  rw [ct7_cons]
  dsimp only
  by_cases h0 : q < 4
  · rw [if_pos h0]
    rcases (by omega : q = 0 ∨ q = 1 ∨ q = 2 ∨ q = 3) with rfl | rfl | rfl | rfl
    · exact o0.symm
    · exact o1.symm
    · exact o2.symm
    · exact o3.symm
  rw [if_neg h0, ct7_cons]
  dsimp only
  by_cases h1 : q - 4 < 128
  · rw [if_pos h1]
    show ct7 (eData (pData fun q => m (4 + q))) (q - 4) = m q
    rw [epData _ (fun j => hm _) _ h1]
    exact congrArg m (by omega)
  rw [if_neg h1, ct7_cons]
  dsimp only
  by_cases h2 : q - 4 - 128 < 96
  · rw [if_pos h2]
    show m (132 + (q - 4 - 128)) = m q
    exact congrArg m (by omega)
  rw [if_neg h2, ct7_cons]
  dsimp only
  rw [if_pos (by omega)]
  show ((Z.byt (Z.ext (Z.tb (mL m)) (Z.rlN (mL m) (len - 228) 64)) (Z.rlN (mL m) (len - 228) 64 + 1) (q - 4 - 128 - 96) : Nat) : Int) = m q
  rw [hq (q - 4 - 128 - 96) (by omega), mL_eq hm]
  exact congrArg m (by omega)
/-- Both Reads, of any bytes. -/
theorem rdT (m : Nat → Int) (hm : ∀ j, 0 ≤ m j ∧ m j < 256) (len : Nat) (hlen : len ≤ 1048576) : ∃ (v : VAttest) (E : Int), OkAttest v ∧ v.n ≤ 64 ∧ (E = 0 → len = 228 + (v.n / 8 + 1) ∧ ∀ q, q < len → ct7 (eAttest v) q = m q) ∧ (∀ x : VAttest, x.n ≤ 64 → len = 228 + (x.n / 8 + 1) → (∀ q, q < len → m q = ct7 (eAttest x) q) → E = 0) ∧
    (∀ W a c, Bys W a len c m → len ≤ c → c ≤ 9223372036854775807 → Calls Tryz.prog 10 #[.slice a len c] W fun e w' => ∃ a' c', e = .returned (.tuple #[.agg (cel (sAttest (atb v a' c'))), .int .i64 E]) ∧ Z.Bls w' a' v.n c' v.zs ∧ Below W.heap.size W w') ∧
    (∀ W a c, Bys W a len c m → len ≤ c → c ≤ 9223372036854775807 → Calls Tryz.prog 11 #[.slice a len c] W fun e w' => ∃ a' c', e = .returned (.tuple #[.agg (cel (sAttest (atb v a' c'))), .int .i64 E]) ∧ Z.Bls w' a' v.n c' v.zs ∧ Below W.heap.size W w') := by
  have hEnc : ∀ x : VAttest, x.n ≤ 64 → len = 228 + (x.n / 8 + 1) → (∀ q, q < len → m q = ct7 (eAttest x) q) → oN m = 228 ∧ Z.rlE (mL m) (len - 228) 64 = 0 := by
    intro x hn hl hq
    have g : ∀ j, j < 4 → m j = ct7 (eAttest x) j := fun j hj => hq j (by omega)
    refine ⟨bytes_off ((g 0 (by omega)).trans rfl) ((g 1 (by omega)).trans rfl) ((g 2 (by omega)).trans rfl) ((g 3 (by omega)).trans rfl), ?_⟩
    rw [show len - 228 = x.n / 8 + 1 by omega]
    refine l_there x.zs x.n hn _ ?_
    have h1 := hq (228 + x.n / 8) (by omega)
    have h2 : ct7 (eAttest x) (228 + x.n / 8) = lB x.zs x.n (x.n / 8) := by
      unfold eAttest
      rw [ct7_cons]
      dsimp only
      rw [if_neg (by omega), ct7_cons]
      dsimp only
      rw [if_neg (by omega), ct7_cons]
      dsimp only
      rw [if_neg (by omega), ct7_cons]
      dsimp only
      rw [if_pos (by omega)]
      exact congrArg (lB x.zs x.n) (by omega)
    have h3 := mL_eq hm (x.n / 8)
    rw [h1, h2] at h3
    unfold lB at h3
    omega
  have prog : ∀ (X : World) A C, Bys X A (len - 228) C (fun q => m (228 + q)) → Calls Tryz.prog 38 #[.slice A (len - 228) C, .int .i64 64] X (Z.Ans (mL m) (Z.rlN (mL m) (len - 228) 64) (Z.rlE (mL m) (len - 228) 64) X) := fun X A C h => Z.readl_any (mL m) A (len - 228) C 64 X (Z.bys_congr h (fun j _ => (mL_eq hm j).symm)) (fun q _ => mL_bd hm q) (by omega)
  have refr : ∀ (X : World) A C, Bys X A (len - 228) C (fun q => m (228 + q)) → Calls Tryz.prog 41 #[.slice A (len - 228) C, .int .i64 64] X (Z.Ans (mL m) (Z.rlN (mL m) (len - 228) 64) (Z.rlE (mL m) (len - 228) 64) X) := fun X A C h => Z.rreadl_any (mL m) A (len - 228) C 64 X (Z.bys_congr h (fun j _ => (mL_eq hm j).symm)) (fun q _ => mL_bd hm q) (by omega)
  by_cases hc : cI m len = 0
  · have hcc : 228 ≤ len ∧ oN m = 228 := by
      unfold cI at hc
      by_cases h1 : len < 228
      · rw [if_pos h1] at hc
        exact absurd hc (by decide)
      · rw [if_neg h1] at hc
        by_cases h2 : oN m = 228
        · exact ⟨by omega, h2⟩
        · rw [if_neg h2] at hc
          exact absurd hc (by decide)
    obtain ⟨h228, ho⟩ := hcc
    obtain ⟨E, eE⟩ : ∃ E, Z.rlE (mL m) (len - 228) 64 = E := ⟨_, rfl⟩
    by_cases hE : E = 0
    · subst hE
      obtain ⟨_, _, r3, r4⟩ := rl_cases eE
      refine ⟨pAttest m len, 0, okpAttest m hm len, by show Z.rlN (mL m) (len - 228) 64 ≤ 64; omega, fun _ => epAttest m hm len h228 ho eE, fun _ _ _ _ => rfl, fun W a c hb h1 h2 => ?_, fun W a c hb h1 h2 => ?_⟩
      · refine (readAttest_ok m a len c W hb hm h1 h2 (by omega) h228 ho (Z.rlN (mL m) (len - 228) 64) (Z.tb (mL m)) (fun X A h => (prog X A _ h).mono ?_)).mono ?_
        · rintro e w' ⟨a', c', rfl, hbl, hbw⟩
          rw [eE]
          exact ⟨a', c', rfl, hbl, hbw⟩
        · rintro e w' ⟨a', c', rfl, hbl, hbw⟩
          exact ⟨a', c', rfl, hbl, hbw⟩
      · refine (rreadAttest_ok m a len c W hb hm h1 h2 (by omega) h228 ho (Z.rlN (mL m) (len - 228) 64) (Z.tb (mL m)) (fun X A C h => (refr X A C h).mono ?_)).mono ?_
        · rintro e w' ⟨a', c', rfl, hbl, hbw⟩
          rw [eE]
          exact ⟨a', c', rfl, hbl, hbw⟩
        · rintro e w' ⟨a', c', rfl, hbl, hbw⟩
          exact ⟨a', c', rfl, hbl, hbw⟩
    · have hN : Z.rlN (mL m) (len - 228) 64 = 0 := by
        unfold Z.rlN
        rw [eE, if_neg hE]
      refine ⟨oAttest, E, okoAttest, by show 0 ≤ 64; omega, fun h => absurd h hE, fun x h1 h2 h3 => by rw [← eE]; exact (hEnc x h1 h2 h3).2, fun W a c hb h1 h2 => ?_, fun W a c hb h1 h2 => ?_⟩
      · refine (readAttest_bad m a len c W hb hm h1 h2 (by omega) h228 ho E hE (fun X A h => (prog X A _ h).mono ?_)).mono ?_
        · rintro e w' ⟨a', c', rfl, hbl, hbw⟩
          rw [eE, hN]
          exact ⟨a', c', rfl, hbw⟩
        · rintro e w' ⟨rfl, hbw⟩
          exact ⟨none, 0, rfl, .inl ⟨rfl, rfl, rfl⟩, hbw⟩
      · refine (rreadAttest_bad m a len c W hb hm h1 h2 (by omega) h228 ho E hE (fun X A C h => (refr X A C h).mono ?_)).mono ?_
        · rintro e w' ⟨a', c', rfl, hbl, hbw⟩
          rw [eE, hN]
          exact ⟨a', c', rfl, hbw⟩
        · rintro e w' ⟨rfl, hbw⟩
          exact ⟨none, 0, rfl, .inl ⟨rfl, rfl, rfl⟩, hbw⟩
  · refine ⟨oAttest, cI m len, okoAttest, by show 0 ≤ 64; omega, fun h => absurd h hc, fun x h1 h2 h3 => by
      exfalso
      apply hc
      unfold cI
      rw [if_neg (by omega), if_pos (hEnc x h1 h2 h3).1], fun W a c hb h1 h2 => ?_, fun W a c hb h1 h2 => ?_⟩
    · refine (readAttest_no m a len c W hb hm h1 h2 (by omega) hc).mono ?_
      rintro e w' ⟨rfl, hbw⟩
      exact ⟨none, 0, rfl, .inl ⟨rfl, rfl, rfl⟩, hbw⟩
    · refine (rreadAttest_no m a len c W hb hm h1 (fun _ => h2) (by omega) hc).mono ?_
      rintro e w' ⟨rfl, hbw⟩
      exact ⟨none, 0, rfl, .inl ⟨rfl, rfl, rfl⟩, hbw⟩
theorem enc2T (v : VAttest) (w : World) (hv : OkAttest v) (hn : v.n ≤ 64) (hw : Z.Bls w v.a v.n v.c v.zs) (M : Nat → Int) (hM : ∀ q, q < 228 + (v.n / 8 + 1) → ct7 (eAttest v) q = M q) : Enc2Attest (228 + (v.n / 8 + 1)) M v w := fun X h => (rencAttest_ok v X hv hn (hw.below h)).mono (by
  rintro e w' ⟨v', rfl, ho, hbw⟩
  obtain ⟨a, c, rfl, _, _, h3⟩ := own_open7 ho (by omega)
  exact ⟨a, c, rfl, Z.bys_congr h3 hM, hbw⟩)
theorem eAttest_bd {x : VAttest} (hx : OkAttest x) (q : Nat) : 0 ≤ ct7 (eAttest x) q ∧ ct7 (eAttest x) q < 256 := ct7_bound _ (by
  intro p hp
  simp only [eAttest, List.mem_cons, List.not_mem_nil, or_false] at hp
  rcases hp with rfl | rfl | rfl | rfl
  · exact oI_bd
  · exact fun q _ => eData_bd hx.1 q
  · exact hx.2
  · exact fun q _ => lB_bd _ _ _) q

theorem operAttest_any (x : VAttest) (m : Nat → Int) (ao : Option Addr) (len cap : Nat) (w : World) (hx : OkAttest x ∧ Z.Bls w x.a x.n x.c x.zs) (hb : Bys w ao len cap m) (hm : ∀ j, 0 ≤ m j ∧ m j < 256) (hlen : len ≤ 1048576) (hlc : len ≤ cap) (hcap : cap ≤ 9223372036854775807) (hS : Sh w) (hC : Rc w) :
    Calls Tryz.prog 3 #[.agg (cel (sAttest x)), .slice ao len cap] w fun e w' => e = .returned (.bool true) ∧ Below w.heap.size w w' := by
  obtain ⟨hx, hw⟩ := hx
  obtain ⟨v, E, hv, hvn, hEQ, _, hRD, hRR⟩ := rdT m hm len hlen
  have hEQ' : E = 0 → 228 + (v.n / 8 + 1) = len ∧ ∀ q, q < len → ct7 (eAttest v) q = m q := fun h => ⟨(hEQ h).1.symm, (hEQ h).2⟩
  have hen : ∀ (w' : World) a' c', Z.Bls w' a' v.n c' v.zs → Enc2Attest (228 + (v.n / 8 + 1)) (ct7 (eAttest v)) (atb v a' c') w' := fun w' a' c' h => enc2T (atb v a' c') w' hv hvn h _ (fun _ _ => rfl)
  have hRD' : ∀ W a c, Bys W a len c m → len ≤ c → c ≤ 9223372036854775807 → Calls Tryz.prog 10 #[.slice a len c] W fun e w' => ∃ v', e = .returned (.tuple #[.agg (cel (sAttest v')), .int .i64 E]) ∧ Below W.heap.size W w' ∧ Enc2Attest (228 + (v.n / 8 + 1)) (ct7 (eAttest v)) v' w' := fun W a c h1 h2 h3 => (hRD W a c h1 h2 h3).mono (by
    rintro e w' ⟨a', c', rfl, hn, hbw⟩
    exact ⟨_, rfl, hbw, hen w' a' c' hn⟩)
  have hRR' : ∀ W a c, Bys W a len c m → len ≤ c → c ≤ 9223372036854775807 → Calls Tryz.prog 11 #[.slice a len c] W fun e w' => ∃ v', e = .returned (.tuple #[.agg (cel (sAttest v')), .int .i64 E]) ∧ Below W.heap.size W w' ∧ Enc2Attest (228 + (v.n / 8 + 1)) (ct7 (eAttest v)) v' w' := fun W a c h1 h2 h3 => (hRR W a c h1 h2 h3).mono (by
    rintro e w' ⟨a', c', rfl, hn, hbw⟩
    exact ⟨_, rfl, hbw, hen w' a' c' hn⟩)
  by_cases hn : x.n ≤ 64
  · obtain ⟨v1, E1, hv1, hvn1, hEQ1, hE1, hRDx, _⟩ := rdT (ct7 (eAttest x)) (eAttest_bd hx) (228 + (x.n / 8 + 1)) (by omega)
    obtain rfl : E1 = 0 := hE1 x hn rfl (fun _ _ => rfl)
    obtain ⟨q1, q2⟩ := hEQ1 rfl
    have hRD1 : ∀ W a c, Bys W a (228 + (x.n / 8 + 1)) c (ct7 (eAttest x)) → 228 + (x.n / 8 + 1) ≤ c → c ≤ 9223372036854775807 → Calls Tryz.prog 10 #[.slice a (228 + (x.n / 8 + 1)) c] W fun e w' => ∃ v, e = .returned (.tuple #[.agg (cel (sAttest v)), .int .i64 0]) ∧ Below W.heap.size W w' ∧ Enc2Attest (228 + (x.n / 8 + 1)) (ct7 (eAttest x)) v w' := fun W a c h1 h2 h3 => (hRDx W a c h1 h2 h3).mono (by
      rintro e w' ⟨a', c', rfl, hn', hbw⟩
      refine ⟨_, rfl, hbw, ?_⟩
      have := enc2T (atb v1 a' c') w' hv1 hvn1 hn' (ct7 (eAttest x)) (fun q hq => q2 q (by rw [q1]; exact hq))
      rw [q1]
      exact this)
    refine operAttest_core x m (ct7 (eAttest x)) (ct7 (eAttest v)) (hAttest x) (228 + (x.n / 8 + 1)) (228 + (v.n / 8 + 1)) 0 E ao len cap w hb (by omega) hlc hcap (fun W h => (encAttest_ok x W hx hn (hw.below h)).mono ?_) (fun W h => (rencAttest_ok x W hx hn (hw.below h)).mono ?_) (fun W h => rootAttest_ok x W hx hn (hw.below h) (hS.below h)) (fun W h => rrootAttest_ok x W hx hn (hw.below h) (hC.below h)) (fun _ => hRD1) hRD' hRR' hEQ'
    · rintro e w' ⟨v, rfl, ho, hbw⟩
      obtain ⟨a, c, rfl, h1, h2, h3⟩ := own_open7 ho (by omega)
      exact ⟨a, c, rfl, h1, h2, h3, hbw⟩
    · rintro e w' ⟨v, rfl, ho, hbw⟩
      obtain ⟨a, c, rfl, h1, h2, h3⟩ := own_open7 ho (by omega)
      exact ⟨a, c, rfl, h3, hbw⟩
  · refine operAttest_core x m (fun _ => 0) (ct7 (eAttest v)) (fun _ => 0) 0 (228 + (v.n / 8 + 1)) 6 E ao len cap w hb (by omega) hlc hcap (fun W h => (encAttest_long x W (by omega)).mono ?_) (fun W h => (rencAttest_long x W (by omega)).mono ?_) (fun W h => rootAttest_long x W (by omega)) (fun W h => rrootAttest_long x W (by omega)) (fun h => absurd h (by decide)) hRD' hRR' hEQ'
    · rintro e w' ⟨rfl, hbw⟩
      exact ⟨none, 0, rfl, Nat.le_refl _, by omega, .inl ⟨rfl, rfl, rfl⟩, hbw⟩
    · rintro e w' ⟨rfl, hbw⟩
      exact ⟨none, 0, rfl, .inl ⟨rfl, rfl, rfl⟩, hbw⟩

end Go.Proofs.YtokbhcgooboocaaGreatDoor
