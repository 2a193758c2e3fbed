/-
  What equalParts answers.
-/
import Derived.Test.YtfhplpcbaoefeaaSzN
namespace Go.Proofs.Ytfhplpcbaoefeaa
open Go.RowKit
set_option linter.unusedVariables false
set_option linter.unusedSimpArgs false

theorem own_whole {w : World} {base : Nat} {v : Value} {n : Nat} {m : Nat → Int} (h : w.ownsRow base 5 1 v n (bl m n)) :
    ∃ ga C, v = .slice ga n C ∧ n ≤ C ∧ (0 < n → ∃ g, ga = some ⟨g, 0, none⟩ ∧ base ≤ g ∧ g < w.heap.size ∧ ∀ j, j < n → w.cell? ⟨g, j, none⟩ = some (.int .u8 (m j))) := by
  rcases h.2 with ⟨h1, h2⟩ | ⟨g, cap, cur, h1, h2, h3, h4, h5, h6, h7⟩
  · subst h2
    exact ⟨none, 0, h1, Nat.le_refl _, fun h => by omega⟩
  · subst h1
    obtain ⟨a1, a2, a3, a4, a5⟩ := own_cells h
    exact ⟨_, cap, rfl, a3, fun _ => ⟨g, rfl, a1, a2, a5⟩⟩

set_option maxHeartbeats 1000000 in
theorem equal_any (m : Nat → Int) (ao : Option Addr) (len cap s n : Nat) (w : World) (hb : Bys w ao len cap m) (hlen : len ≤ 140737488351232) (hs1 : 1 ≤ s) (hsb : s ≤ 9223372036854775807) (hn : len = n * s) (hnb : n ≤ 1000000000000) :
    Calls Try.prog 13 #[.slice ao len cap, .int .i64 s] w fun e w' => ∃ ga gp, e = .returned (.slice (some ⟨gp, 0, none⟩) n n) ∧ w.heap.size ≤ gp ∧ (0 < len → ∃ g, ga = some ⟨g, 0, none⟩ ∧ w.heap.size ≤ g ∧ g < w'.heap.size ∧ g ≠ gp ∧ ∀ j, j < len → w'.cell? ⟨g, j, none⟩ = some (.int .u8 (m j))) ∧ w'.heap[gp]? = some (.cells (vals n fun i => pc ga (i * s) ((i + 1) * s)) 22) ∧ Below w.heap.size w w' := by
  have hcl := clone_any m ao len cap w hb hlen
  have HCL := hid hcl
  have q1 : (len : Int) / (s : Int) = (n : Int) := by
    rw [hn, Int.natCast_mul]
    exact Int.mul_ediv_cancel _ (by omega)
  have q2 : (len : Int).tdiv (s : Int) = (n : Int) := by rw [Int.tdiv_eq_ediv_of_nonneg (by omega)]; exact q1
  have q3 : ¬ (s : Int) = 0 := by omega
  have q4 : (len : Int) ≤ 140737488351232 := by omega
  have q5 : ¬ (s : Int) = -1 := by omega
  have HN := hid hn
  clear hcl hb hn
  go_enter Try.func13, Try.ntmps13
  go_upto_region 2 with (go_at_call 18; refine HCL.out.mono ?_; rintro e w1 ⟨v, rfl, ho1, hb1⟩)
  obtain ⟨ga, C, hv, hlC, hrow⟩ := own_whole ho1
  subst hv
  have HROW := hid hrow
  have HB1 := hid hb1
  clear hrow ho1 hb1
  go_wp2_with (at_make; refine wpList_make_parts _ rfl _ _ rfl n rfl rfl hnb ?_; intro f0 w2 hr2 hb2 hz2; have HR2 := hid hr2; have HB2 := hid hb2; have HZ2 := hid hz2; clear hr2 hb2 hz2)
  obtain ⟨gp, egp⟩ : ∃ x, w1.heap.size = x := ⟨_, rfl⟩
  rw [egp] at HR2 HB2 HZ2 ⊢
  have HGP := hid egp
  clear egp q1 q2
  go_loopw [17] (fun i wr => ∃ k : Nat, k ≤ n ∧ i = .int .i64 k ∧ wr.heap[gp]? = some (.cells (vals n fun i => if i < k then pc ga (i * s) ((i + 1) * s) else f0 i) 22) ∧ gp < wr.heap.size ∧ Below gp w1 wr) (fun i _ => n - (intOf i).toNat)
  case atStart =>
    refine ⟨0, by omega, rfl, ?_, HZ2.out, HB2.out⟩
    rw [HR2.out]
    exact congrArg (fun c => some (Obj.cells c 22)) (vals_congr fun i hi => by rw [if_neg (by omega)])
  case round =>
    obtain ⟨k, hk, rfl, hr, hz, hb⟩ := hrel
    clear HR2 HB2 HZ2
    by_cases hkn : k < n
    · obtain ⟨KS, eKS⟩ : ∃ x, k * s = x := ⟨_, rfl⟩
      obtain ⟨KT, eKT⟩ : ∃ x, (k + 1) * s = x := ⟨_, rfl⟩
      have hle : KT ≤ len := by rw [← eKT, HN.out]; exact Nat.mul_le_mul_right _ (by omega)
      have hst : KT = KS + s := by rw [← eKT, ← eKS, Nat.add_mul, Nat.one_mul]
      have e1 : (k : Int) * (s : Int) = (KS : Int) := by rw [← eKS, Int.natCast_mul]
      have e2 : ((k : Int) + 1) * (s : Int) = (KT : Int) := by rw [← eKT, Int.natCast_mul, Int.natCast_add]; rfl
      have hpc := piece_any ga len C KS KT
      have HPC := hid (fun w => hpc w (by omega) (by omega))
      obtain ⟨PA, PL, eP⟩ : ∃ PA PL, pc ga KS KT = .slice PA PL PL := ⟨_, _, rfl⟩
      rw [eP] at HPC
      have HP := hid eP
      have cw := vals_cell hr k hkn
      have fw := row_frozen hr k
      obtain ⟨u, eu⟩ : ∃ u, (if k < k then pc ga (k * s) ((k + 1) * s) else f0 k) = u := ⟨_, rfl⟩
      rw [eu] at cw
      have HR := hid hr
      have HB := hid hb
      have HZ := hid hz
      have HK := hid (And.intro eKS eKT)
      have k1 : (k : Int) < (n : Int) := by omega
      have k2 : (0 : Int) ≤ (k : Int) := by omega
      have k3 : (KS : Int) ≤ 140737488351232 := by omega
      have k4 : (KT : Int) ≤ 140737488351232 := by omega
      clear hr hb hz hpc eP eu eKS eKT hle hst
      go_wp2_with (go_at_call 27; refine (HPC.out _).mono ?_; rintro e w3 ⟨rfl, rfl⟩)
      go_roundw
      case rel =>
        refine ⟨k + 1, by omega, by go_num, ?_, by rw [size_set]; exact HZ.out, HB.out.setCell (by simp) _⟩
        refine (row_set HR.out k _).trans ?_
        rw [vals_set]
        refine congrArg (fun c => some (Obj.cells c 22)) (vals_congr fun i hi => ?_)
        by_cases hik : i = k
        · subst hik
          rw [if_pos rfl, if_pos (by omega), HK.out.1, HK.out.2, HP.out]
        · rw [if_neg hik]
          by_cases h2 : i < k
          · rw [if_pos h2, if_pos (by omega)]
          · rw [if_neg h2, if_neg (by omega)]
      case measure => simp [intOf]; omega
    · have ek : k = n := by omega
      subst ek
      have hr' : wr.heap[gp]? = some (.cells (vals k fun i => pc ga (i * s) ((i + 1) * s)) 22) := by
        rw [hr]
        exact congrArg (fun c => some (Obj.cells c 22)) (vals_congr fun i hi => by rw [if_pos hi])
      have hb1 := HB1.out
      have hz1 := hb1.size
      have egp := HGP.out
      have HX : Hid (w.heap.size ≤ gp ∧ (0 < len → ∃ g, ga = some ⟨g, 0, none⟩ ∧ w.heap.size ≤ g ∧ g < wr.heap.size ∧ g ≠ gp ∧ ∀ j, j < len → wr.cell? ⟨g, j, none⟩ = some (.int .u8 (m j))) ∧ wr.heap[gp]? = some (.cells (vals k fun i => pc ga (i * s) ((i + 1) * s)) 22) ∧ Below w.heap.size w wr) := by
        refine ⟨by omega, fun h => ?_, hr', hb1.trans (hb.mono (by omega))⟩
        obtain ⟨g, x1, x2, x3, x4⟩ := HROW.out h
        exact ⟨g, x1, x2, by omega, by omega, fun j hj => (below_cell hb (by omega)).trans (x4 j hj)⟩
      clear hr hr' hb hz hb1 hz1 egp
      go_wp2
      go_ret
      exact ⟨ga, gp, rfl, HX.out⟩

end Go.Proofs.Ytfhplpcbaoefeaa
