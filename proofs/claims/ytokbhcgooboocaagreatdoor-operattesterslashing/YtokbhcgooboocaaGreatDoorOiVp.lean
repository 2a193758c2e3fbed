/-
  What bytes are read as an Indexed, by both.
-/
import Derived.Test.YtokbhcgooboocaaGreatDoorOiEp
import Derived.Test.YtokbhcgooboocaaGreatDoorOpEp
import Derived.Test.YtokbhcgooboocaaGreatDoorOpFp
import Derived.Test.YtokbhcgooboocaaGreatDoorTyDatap
namespace Go.Proofs.YtokbhcgooboocaaGreatDoor
open Go.RowKit
set_option linter.unusedVariables false
set_option linter.unusedSimpArgs false
set_option maxRecDepth 20000

/-- The bytes of what was read are the bytes. -/
theorem off_bytes {m : Nat → Int} (hm : ∀ j, 0 ≤ m j ∧ m j < 256) (h : oN m = 228) : m 0 = 228 ∧ m 1 = 0 ∧ m 2 = 0 ∧ m 3 = 0 := by
  have h0 := hm 0
  have h1 := hm 1
  have h2 := hm 2
  have h3 := hm 3
  have h4 : (Z.o4 m 0).toNat = 228 := h
  have h5 : Z.o4 m 0 = m 0 + m (0 + 1) * 256 + m (0 + 2) * 65536 + m (0 + 3) * 16777216 := rfl
  simp only [Nat.zero_add] at h5
  omega
theorem bytes_off {m : Nat → Int} (h0 : m 0 = 228) (h1 : m 1 = 0) (h2 : m 2 = 0) (h3 : m 3 = 0) : oN m = 228 := by
  have h5 : Z.o4 m 0 = m 0 + m (0 + 1) * 256 + m (0 + 2) * 65536 + m (0 + 3) * 16777216 := rfl
  simp only [Nat.zero_add, h0, h1, h2, h3] at h5
  show (Z.o4 m 0).toNat = 228
  omega
theorem nB_rN (f : Nat → Int) (hf : ∀ j, 0 ≤ f j ∧ f j < 256) (q : Nat) : nB (rN f) q = f q := by
  unfold nB rN
  rw [nm_rd _ (fun j _ => hf _) _ (Nat.mod_lt _ (by omega))]
  exact congrArg f (by omega)
theorem ct7_cons (p : Nat × (Nat → Int)) (r : List (Nat × (Nat → Int))) (q : Nat) : ct7 (p :: r) q = if q < p.1 then p.2 q else ct7 r (q - p.1) := rfl
theorem frs_none (B : Nat) : Frs B none := fun b off e => by cases e
theorem frs_some {B g : Nat} (h : B ≤ g) : Frs B (some ⟨g, 0, none⟩) := fun b off e => by
  cases e
  exact h
/-- The value that bytes are. -/
def pIndexed (m : Nat → Int) (n : Nat) (a : Option Addr) (c : Nat) : VIndexed := ⟨a, n, c, rN (fun q => m (228 + q)), pData (fun q => m (4 + q)), fun q => m (132 + q)⟩
theorem okpIndexed (m : Nat → Int) (hm : ∀ j, 0 ≤ m j ∧ m j < 256) (n : Nat) (a : Option Addr) (c : Nat) : OkIndexed (pIndexed m n a c) :=
  ⟨fun j hj => rN_bd (m := fun q => m (228 + q)) (n := n) (fun j _ => hm (228 + j)) j hj, okpData (fun q => m (4 + q)) (fun j => hm (4 + j)), fun j _ => hm (132 + j)⟩
theorem epIndexed (m : Nat → Int) (hm : ∀ j, 0 ≤ m j ∧ m j < 256) (h : oN m = 228) (n : Nat) (a : Option Addr) (c : Nat) (q : Nat) (hq : q < 228 + 8 * n) : ct7 (eIndexed (pIndexed m n a c)) q = m q := by
  obtain ⟨o0, o1, o2, o3⟩ := off_bytes hm h
  unfold eIndexed pIndexed
  rw [ct7_cons]
  dsimp only
  by_cases h0 : q < 4
  · rw [if_pos h0]
    rcases (by omega : q = 0 ∨ q = 1 ∨ q = 2 ∨ q = 3) with rfl | rfl | rfl | rfl
    · exact o0.symm
    · exact o1.symm
    · exact o2.symm
    · exact o3.symm
  rw [if_neg h0, ct7_cons]
  dsimp only
  by_cases h1 : q - 4 < 128
  · rw [if_pos h1, epData _ (fun j => hm _) _ h1]
    exact congrArg m (by omega)
  rw [if_neg h1, ct7_cons]
  dsimp only
  by_cases h2 : q - 4 - 128 < 96
  · rw [if_pos h2]
    exact congrArg m (by omega)
  rw [if_neg h2, ct7_cons]
  dsimp only
  rw [if_pos (by omega), nB_rN _ (fun j => hm _)]
  exact congrArg m (by omega)
theorem okoIndexed : OkIndexed oIndexed := ⟨fun _ _ => z64, okoData, fun _ _ => z256⟩
/-- A value with its numbers elsewhere. -/
def ati (v : VIndexed) (a : Option Addr) (c : Nat) : VIndexed := ⟨a, v.n, c, v.zs, v.f1, v.f2⟩
/-- Both Reads, of any bytes. -/
theorem rdV (m : Nat → Int) (hm : ∀ j, 0 ≤ m j ∧ m j < 256) (len : Nat) (hlen : len ≤ 140737488351232) : ∃ (v : VIndexed) (E : Int), OkIndexed v ∧ v.n ≤ 64 ∧ (E = 0 → len = 228 + 8 * v.n ∧ ∀ q, q < len → ct7 (eIndexed v) q = m q) ∧ (∀ n, n ≤ 64 → len = 228 + 8 * n → oN m = 228 → E = 0) ∧
    (∀ W a c, Bys W a len c m → len ≤ c → c ≤ 9223372036854775807 → Calls Tryz.prog 19 #[.slice a len c] W fun e w' => ∃ a' c', e = .returned (.tuple #[.agg (cel (sIndexed (ati v a' c'))), .int .i64 E]) ∧ Z.Nms .u64 w' a' v.n v.zs ∧ Frs W.heap.size a' ∧ Below W.heap.size W w') ∧
    (∀ W a c, Bys W a len c m → len ≤ c → (0 < len → c ≤ 9223372036854775807) → Calls Tryz.prog 47 #[.slice a len c] W fun e w' => ∃ a' c', e = .returned (.tuple #[.agg (cel (sIndexed (ati v a' c'))), .int .i64 E]) ∧ Z.Nms .u64 w' a' v.n v.zs ∧ Frs W.heap.size a' ∧ Below W.heap.size W w') := by
  by_cases hc : cI m len = 0
  · have hcc : 228 ≤ len ∧ oN m = 228 := by
      unfold cI at hc
      by_cases h1 : len < 228
      · rw [if_pos h1] at hc
        exact absurd hc (by decide)
      · rw [if_neg h1] at hc
        by_cases h2 : oN m = 228
        · exact ⟨by omega, h2⟩
        · rw [if_neg h2] at hc
          exact absurd hc (by decide)
    obtain ⟨h228, ho⟩ := hcc
    by_cases h8 : (len - 228) % 8 = 0
    · obtain ⟨n, en⟩ : ∃ n, n = (len - 228) / 8 := ⟨_, rfl⟩
      have hl : len = 228 + 8 * n := by omega
      by_cases h64 : n ≤ 64
      · subst hl
        refine ⟨pIndexed m n none 0, 0, okpIndexed m hm n _ _, h64, fun _ => ⟨rfl, fun q hq => epIndexed m hm ho n _ _ q hq⟩, fun _ _ _ _ => rfl, fun W a c hb h1 h2 => ?_, fun W a c hb h1 h2 => ?_⟩
        · refine (readIndexed_ok m a (228 + 8 * n) c W hb hm h1 h2 hlen (by omega) ho n (by omega) h64).mono ?_
          rintro e w' ⟨g, rfl, hg, hr, hbw⟩
          exact ⟨some ⟨g, 0, none⟩, n, rfl, .inr ⟨g, 0, rfl, (Array.getElem?_eq_some_iff.1 hr).1, fun j hj => by rw [Nat.zero_add]; exact row_int hr j hj⟩, frs_some hg, hbw⟩
        · refine (rreadIndexed_ok m a (228 + 8 * n) c W hb hm h1 (h2 (by omega)) hlen (by omega) ho n (by omega) h64).mono ?_
          rintro e w' ⟨a', c', rfl, hr, hf, hbw⟩
          exact ⟨a', c', rfl, hr, hf, hbw⟩
      · refine ⟨oIndexed, 6, okoIndexed, by show 0 ≤ 64; omega, fun h => absurd h (by decide), fun k h1 h2 _ => by omega, fun W a c hb h1 h2 => ?_, fun W a c hb h1 h2 => ?_⟩
        · refine (readIndexed_bad m a len c W hb hm h1 h2 hlen h228 ho 6 (by decide) (fun X A => rn_long A (len - 228) (len - 228) n X (by omega) (by omega) (by omega))).mono ?_
          rintro e w' ⟨rfl, hbw⟩
          exact ⟨none, 0, rfl, .inl rfl, frs_none _, hbw⟩
        · refine (rreadIndexed_bad m a len c W hb hm h1 (h2 (by omega)) hlen h228 ho 6 (by decide) (fun X A C => (Z.reach_long (fun _ => 0) (fun _ _ => 0) A (len - 228) C 8 64 X (by omega) (by decide) (by decide) n (by omega) (by decide) (by omega) (by omega)).mono ?_)).mono ?_
          · rintro e w' ⟨a', c', _, _, rfl, _, hbw⟩
            exact ⟨a', c', rfl, hbw⟩
          · rintro e w' ⟨rfl, hbw⟩
            exact ⟨none, 0, rfl, .inl rfl, frs_none _, hbw⟩
    · refine ⟨oIndexed, 4, okoIndexed, by show 0 ≤ 64; omega, fun h => absurd h (by decide), fun k h1 h2 _ => by omega, fun W a c hb h1 h2 => ?_, fun W a c hb h1 h2 => ?_⟩
      · refine (readIndexed_bad m a len c W hb hm h1 h2 hlen h228 ho 4 (by decide) (fun X A => rn_size A (len - 228) (len - 228) X (by omega) h8)).mono ?_
        rintro e w' ⟨rfl, hbw⟩
        exact ⟨none, 0, rfl, .inl rfl, frs_none _, hbw⟩
      · refine (rreadIndexed_bad m a len c W hb hm h1 (h2 (by omega)) hlen h228 ho 4 (by decide) (fun X A C => (Z.reach_size (fun _ => 0) (fun _ _ => 0) A (len - 228) C 8 64 X (by omega) (by decide) (by decide) (by omega) (by decide)).mono ?_)).mono ?_
        · rintro e w' ⟨a', c', _, _, rfl, _, hbw⟩
          exact ⟨a', c', rfl, hbw⟩
        · rintro e w' ⟨rfl, hbw⟩
          exact ⟨none, 0, rfl, .inl rfl, frs_none _, hbw⟩
  · refine ⟨oIndexed, cI m len, okoIndexed, by show 0 ≤ 64; omega, fun h => absurd h hc, fun k h1 h2 h3 => by
      exfalso
      apply hc
      unfold cI
      rw [if_neg (by omega), if_pos h3], fun W a c hb h1 h2 => ?_, fun W a c hb h1 h2 => ?_⟩
    · refine (readIndexed_no m a len c W hb hm h1 h2 hlen hc).mono ?_
      rintro e w' ⟨rfl, hbw⟩
      exact ⟨none, 0, rfl, .inl rfl, frs_none _, hbw⟩
    · refine (rreadIndexed_no m a len c W hb hm h1 h2 hlen hc).mono ?_
      rintro e w' ⟨rfl, hbw⟩
      exact ⟨none, 0, rfl, .inl rfl, frs_none _, hbw⟩

end Go.Proofs.YtokbhcgooboocaaGreatDoor
