/-
  What the reference's Each answers.
-/
import Derived.Test.YtokbhcgooboocaaGreatDoorZaIp
import Derived.Test.YtokbhcgooboocaaGreatDoorZaFp
namespace Go.Proofs.YtokbhcgooboocaaGreatDoor.Z
open Go.RowKit
set_option linter.unusedVariables false
set_option linter.unusedSimpArgs false

/-- So many parts, and an error. -/
def LAns (N : Nat) (E : Int) (L : Nat → Nat) (f : Nat → Nat → Int) (w : World) (e : Ending) (w' : World) : Prop :=
  ∃ a c A C, e = .returned (.tuple #[.slice a N c, .int .i64 E]) ∧ Parts w' a N A L C f ∧ Below w.heap.size w w'
/-- The same, and the parts are new. -/
def LAnsF (N : Nat) (E : Int) (L : Nat → Nat) (f : Nat → Nat → Int) (w : World) (e : Ending) (w' : World) : Prop :=
  ∃ a c A C, e = .returned (.tuple #[.slice a N c, .int .i64 E]) ∧ Parts w' a N A L C f ∧ Below w.heap.size w w' ∧ Fr w.heap.size A N
theorem lans_none {E : Int} {L : Nat → Nat} {f : Nat → Nat → Int} {w w' : World} (hb : Below w.heap.size w w') : LAns 0 E L f w (.returned (.tuple #[.slice none 0 0, .int .i64 E])) w' := ⟨none, 0, fun _ => none, fun _ => 0, rfl, .inl rfl, hb⟩

set_option maxRecDepth 20000 in
set_option maxHeartbeats 1000000 in
theorem reach_size (L : Nat → Nat) (f : Nat → Nat → Int) (ao : Option Addr) (len cap : Nat) (size most : Int) (w : World) (hlen : len ≤ 140737488351232) (h0 : ¬ size < 1) (h1 : ¬ most < 0) (h : ¬ (len : Int) % size = 0) (hs : size ≤ 9223372036854775807) :
    Calls Tryz.prog 89 #[.slice ao len cap, .int .i64 size, .int .i64 most] w (LAns 0 4 L f w) := by
  have q1 : ¬ (len : Int).tmod size = 0 := by rw [Int.tmod_eq_emod_of_nonneg (by omega)]; exact h
  have q2 : ¬ size = 0 := by omega
  have q3 : ¬ size = -1 := by omega
  have q4 : (len : Int) ≤ 140737488351232 := by omega
  go_enter Tryz.func89, Tryz.ntmps89
  go_wp2
  go_ret2
  exact lans_none (Below.refl _ _)

set_option maxRecDepth 20000 in
set_option maxHeartbeats 1000000 in
theorem reach_long (L : Nat → Nat) (f : Nat → Nat → Int) (ao : Option Addr) (len cap : Nat) (size most : Int) (w : World) (hlen : len ≤ 140737488351232) (h0 : ¬ size < 1) (h1 : ¬ most < 0) (n : Nat) (hn : (len : Int) = n * size) (hs : size ≤ 9223372036854775807) (hl : most < (n : Int)) (hnb : (n : Int) ≤ 140737488351232) :
    Calls Tryz.prog 89 #[.slice ao len cap, .int .i64 size, .int .i64 most] w (LAns 0 6 L f w) := by
  have q0 : (len : Int) % size = 0 := by rw [hn]; exact Int.mul_emod_left _ _
  have q1 : (len : Int).tmod size = 0 := by rw [Int.tmod_eq_emod_of_nonneg (by omega)]; exact q0
  have q2 : ¬ size = 0 := by omega
  have q3 : ¬ size = -1 := by omega
  have q4 : (len : Int) ≤ 140737488351232 := by omega
  have q5 : (len : Int) / size = (n : Int) := by rw [hn]; exact Int.mul_ediv_cancel _ q2
  have q6 : (len : Int).tdiv size = (n : Int) := by rw [Int.tdiv_eq_ediv_of_nonneg (by omega)]; exact q5
  clear hn
  go_enter Tryz.func89, Tryz.ntmps89
  go_wp2
  go_ret2
  exact lans_none (Below.refl _ _)

attribute [local go_sem ↓] sl22_eq

set_option maxRecDepth 20000 in
set_option maxHeartbeats 2000000 in
theorem reach_okF (m : Nat → Int) (ao : Option Addr) (len cap s n : Nat) (most : Int) (w : World) (hb : Bys w ao len cap m) (hlc : len ≤ cap) (hlen : len ≤ 1048576) (hs1 : 1 ≤ s) (hsb : s ≤ 9223372036854775807) (hn : len = n * s) (hnb : n ≤ 1000000000000) (hm : (n : Int) ≤ most) (hm1 : most ≤ 9223372036854775807) :
    Calls Tryz.prog 89 #[.slice ao len cap, .int .i64 s, .int .i64 most] w (LAnsF n 0 (fun _ => s) (fun i q => m (i * s + q)) w) := by
  have hn' : (len : Int) = (n : Int) * (s : Int) := by rw [hn, Int.natCast_mul]
  have q2 : ¬ (s : Int) = 0 := by omega
  have q0 : (len : Int) % (s : Int) = 0 := by rw [hn']; exact Int.mul_emod_left _ _
  have q1 : (len : Int).tmod (s : Int) = 0 := by rw [Int.tmod_eq_emod_of_nonneg (by omega)]; exact q0
  have q3 : ¬ (s : Int) = -1 := by omega
  have q4 : (len : Int) ≤ 140737488351232 := by omega
  have q5 : (len : Int) / (s : Int) = (n : Int) := by rw [hn']; exact Int.mul_ediv_cancel _ q2
  have q6 : (len : Int).tdiv (s : Int) = (n : Int) := by rw [Int.tdiv_eq_ediv_of_nonneg (by omega)]; exact q5
  have q7 : ¬ (s : Int) < 1 := by omega
  have q8 : ¬ most < 0 := by omega
  have q9 : ¬ most < (n : Int) := by omega
  have q10 : ¬ s = 0 := by omega
  have q11 : 1 ≤ s := by omega
  have HN := hid hn
  have HBY : Hid (∀ W, Below w.heap.size w W → Bys W ao len cap m) := fun W hW => hb.below hW
  clear hn hn' hb
  go_enter Tryz.func89, Tryz.ntmps89
  go_upto_region 9 with fail
  clear q0 q1 q2 q3 q5 q6 q7 q8 q9 q10
  go_loopw [8, 9] (fun out i wr => ∃ r : Nat, r ≤ n ∧ i = .int .i64 ((r * s : Nat) : Int) ∧ (∃ A C, PR wr w.heap.size A (fun _ => s) C (fun i q => m (i * s + q)) r out) ∧ Below w.heap.size w wr) (fun _ i _ => len - (intOf i).toNat)
  case atStart => exact ⟨0, by omega, by rw [Nat.zero_mul]; rfl, ⟨fun _ => none, fun _ => 0, World.ownsRow_nil _ _ _ _, fun j hj => absurd hj (by omega)⟩, Below.refl _ _⟩
  case round =>
    obtain ⟨r, hr, rfl, ⟨A, C, hpr⟩, hbr⟩ := hrel
    have hzr := hbr.size
    by_cases hrn : r < n
    · have e0 := HN.out
      have hle : (r + 1) * s ≤ n * s := Nat.mul_le_mul_right _ (by omega)
      have hst : (r + 1) * s = r * s + s := by rw [Nat.add_mul, Nat.one_mul]
      obtain ⟨P, eP⟩ : ∃ P, r * s = P := ⟨_, rfl⟩
      obtain ⟨Q, eQ⟩ : ∃ Q, (r + 1) * s = Q := ⟨_, rfl⟩
      rw [eQ] at hle
      rw [eP, eQ] at hst
      rw [eP]
      have hd1 : P ≤ Q := by omega
      have hd2 : Q ≤ len := by omega
      obtain ⟨c1, ec⟩ : ∃ c1, cap - P = c1 := ⟨_, rfl⟩
      have el : Q - P = s := by omega
      obtain ⟨ad, had⟩ : ∃ ad, (if cap = P then ao else Option.map (fun x : Addr => x.add P) ao) = some ad := by
        rcases HBY.out w (Below.refl _ _) with ⟨_, h, _⟩ | ⟨_, _, h⟩ | ⟨b, off, rfl, _⟩
        · omega
        · omega
        · by_cases h : cap = P
          · exact ⟨_, if_pos h⟩
          · exact ⟨_, if_neg h⟩
      have sl := fun W => sl22_run W ao len cap P Q (some (.int .i64 P)) (some (.int .i64 Q)) (.inl rfl) (.inl rfl) hd1 hd2 hlc
      have bp := bys_part (HBY.out _ hbr) P Q hd1 hd2
      rw [had, el, ec] at bp
      rw [had, el, ec] at sl
      have s1 : s ≤ 1048576 := by omega
      have q1 : (P : Int) + (s : Int) = (Q : Int) := by omega
      have q3 : (Q : Int) ≤ 1048576 := by omega
      have q12 : (0 : Int) ≤ (P : Int) := by omega
      have q13 : (P : Int) < (len : Int) := by omega
      have q14 : decide (P < len) = true := by simp; omega
      have HNEW := hid (World.ownsRow_lit (base := w.heap.size) (e := 5) (size := 1) wr #[] 0 hzr (by decide) rfl)
      have HBA := hid (bp.below ((Below.refl wr.heap.size wr).alloc (Nat.le_refl _) (.cells #[] 5)))
      have HPR := hid hpr
      have HBR := hid hbr
      have ef : (fun q => m (r * s + q)) = (fun q => m (P + q)) := by rw [eP]
      have EF := hid ef
      have EP := hid (And.intro eP eQ)
      clear ef
      clear hpr hbr bp had ec el hle hst eP eQ e0 hd1 hd2
      go_wp2_with (first
        | (at_builtin; go_loud (refine wpList_append_part w3 rfl _ _ rfl w.heap.size u8 r _ (.slice a3 s c3) rfl rfl HPR3.out.1 rfl (by omega) hz3 ?_; intro v6 w6 ho6 hg6; have HB6 := hid (below_grown (HBR.out.trans (HB3.out.mono hzr)) HPR3.out.1 hz3 hg6); obtain ⟨A', C', hpr6⟩ := PR.step HPR3.out HZ3.out ho6 hg6; have HPR6 := hid hpr6; clear ho6 hg6 hpr6))
        | (at_builtin; go_loud (refine wpList_append_bys _ rfl _ _ rfl w.heap.size (.slice (some ⟨wr.heap.size, 0, none⟩) 0 0) 0 [] rfl HNEW.out (some ad) s c1 (fun j => m (P + j)) rfl HBA.out (by omega) (Nat.le_trans hzr (by simp)) ?_; intro v3 w3 ho3 hg3; have HB3 := hid (below_new hg3); rw [Nat.zero_add, List.nil_append] at ho3; obtain ⟨a3, c3, rfl⟩ := owns_form ho3; have HZ3 := hid (Eq.mpr (congrArg (fun g => w3.ownsRow w.heap.size 5 1 (.slice a3 s c3) s (bl g s)) EF.out) ho3); have HPR3 := hid (HPR.out.below HB3.out); have hz3 := Nat.le_trans hzr HB3.out.size; clear ho3 hg3)))
      go_roundw
      case rel =>
        obtain ⟨e1, e2⟩ := EP.out
        exact ⟨r + 1, by omega, by rw [e2], ⟨A', C', HPR6.out⟩, HB6.out⟩
      case measure => simp [intOf]; omega
    · have er : r = n := by omega
      subst er
      have e0 := HN.out
      rw [← e0]
      have q14 : decide (len < len) = false := by simp
      have q15 : decide ((len : Int) < (len : Int)) = false := by simp
      obtain ⟨a', c', hv, hP, _⟩ := owns_parts hpr.1 (fun j hj => own_bys (hpr.2 j hj))
      subst hv
      have HP := hid hP
      have HF : Hid (Fr w.heap.size A r) := fun i hi b o e => fr_owns (hpr.2 i hi) b o e
      have HBR := hid hbr
      clear hpr hP hbr e0
      go_wp2
      go_ret2
      exact ⟨a', c', A, C, rfl, HP.out, HBR.out, HF.out⟩
end Go.Proofs.YtokbhcgooboocaaGreatDoor.Z
