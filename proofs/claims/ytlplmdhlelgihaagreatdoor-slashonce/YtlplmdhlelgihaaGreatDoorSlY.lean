/-
  SlashOnce.
-/

import Derived.Test.YtlplmdhlelgihaaGreatDoorSlX
import Derived.Test.YtlplmdhlelgihaaGreatDoorSlW
import Derived.Test.YtlplmdhlelgihaaGreatDoorSlV
import Derived.Test.YtlplmdhlelgihaaGreatDoorSlS
import Derived.Test.YtlplmdhlelgihaaGreatDoorQN
import Derived.Test.YtlplmdhlelgihaaGreatDoorQG
import Derived.Test.YtlplmdhlelgihaaGreatDoorQO
import Derived.Test.YtlplmdhlelgihaaGreatDoorQP
namespace Go.Proofs.YtlplmdhlelgihaaGreatDoor

open Go.RowKit

set_option linter.unusedVariables false

set_option linter.unusedSimpArgs false

set_option maxRecDepth 20000

theorem lvHd_at {w : World} {g o : Nat} {x : VHeader} (h : w.rangeAt g o (celL (sHeader x))) : (lvHeader ⟨g, o, none⟩).run Tryz.prog w = .ok (.agg (cel (sHeader x))) w :=
  loadAt_var (run_loadAt_mid w g o 30 _ _ h Tryz.underlying30 rfl (by rw [celL_len, show slen (sHeader x) = 98 from rfl]; kernel_rfl))

theorem range_ps {w : World} {g : Nat} {t : TypeId} {a b : List Value} {C : Array Value} (h : w.heap[g]? = some (.cells C t)) (l : List Value) (e : C = (a ++ (l ++ b)).toArray) : w.rangeAt g a.length l := by
  intro j v hj
  rw [row_cell h, e, List.getElem?_toArray, List.getElem?_append_right (by omega), Nat.add_sub_cancel_left, List.getElem?_append_left (List.getElem?_eq_some_iff.1 hj).1]
  exact hj

theorem ps_cel (s : VProposerSlashing) : cel (sProposerSlashing s) = ([] ++ (celL (sHeader s.f0.f0) ++ (bl s.f0.f1 96 ++ (celL (sHeader s.f1.f0) ++ bl s.f1.f1 96)))).toArray := by kernel_rfl

theorem ps_cel2 (s : VProposerSlashing) : cel (sProposerSlashing s) = ((celL (sHeader s.f0.f0) ++ bl s.f0.f1 96) ++ (celL (sHeader s.f1.f0) ++ bl s.f1.f1 96)).toArray := by kernel_rfl

theorem ps_one {w : World} {g : Nat} {t : TypeId} {s : VProposerSlashing} (h : w.heap[g]? = some (.cells (cel (sProposerSlashing s)) t)) : (lvHeader ⟨g, 0, none⟩).run Tryz.prog w = .ok (.agg (cel (sHeader s.f0.f0))) w :=
  lvHd_at (range_ps (a := []) h _ (ps_cel s))

theorem ps_two {w : World} {g : Nat} {t : TypeId} {s : VProposerSlashing} (h : w.heap[g]? = some (.cells (cel (sProposerSlashing s)) t)) : (lvHeader ⟨g, 194, none⟩).run Tryz.prog w = .ok (.agg (cel (sHeader s.f1.f0))) w := by
  have := range_ps (a := celL (sHeader s.f0.f0) ++ bl s.f0.f1 96) h _ (ps_cel2 s)
  rw [List.length_append, celL_len, bl_len, show slen (sHeader s.f0.f0) + 96 = 194 from rfl] at this
  exact lvHd_at this

theorem lvHd_row {w : World} {g : Nat} {t : TypeId} {x : VHeader} (h : w.heap[g]? = some (.cells (cel (sHeader x)) t)) : (lvHeader ⟨g, 0, none⟩).run Tryz.prog w = .ok (.agg (cel (sHeader x))) w :=
  lvHd_at (range_ps (a := []) (b := []) h _ (by rw [List.append_nil]; rfl))

theorem lvPs_row {w : World} {g : Nat} {t : TypeId} {s : VProposerSlashing} (h : w.heap[g]? = some (.cells (cel (sProposerSlashing s)) t)) : (lvProposerSlashing ⟨g, 0, none⟩).run Tryz.prog w = .ok (.agg (cel (sProposerSlashing s))) w :=
  lvProposerSlashing_mid h 0 (take_all _) rfl

attribute [local go_sem ↓] lvState_eq svState_eq bdState_eq lvValidator_eq svValidator_eq ixValidator_eq ixU_eq lvHeader_eq eqoH_eq lvProposerSlashing_eq

set_option maxHeartbeats 2000000 in
theorem hclash_any (a b : VHeader) (w : World) (ha : OkHeader a) (hb : OkHeader b) (h0 : a.f0 = b.f0) (h1 : a.f1 = b.f1) (hne : eqH a b = false) :
    Calls Tryz.prog 14 #[.agg (cel (sHeader a)), .agg (cel (sHeader b))] w fun e' w' => e' = .returned (.int .i64 0) ∧ Below w.heap.size w w' := by
  obtain ⟨W0, hW0⟩ : ∃ W, (w.alloc (.cells (cel (sHeader a)) 30)).alloc (.cells (cel (sHeader b)) 30) = W := ⟨_, rfl⟩
  have r0 : W0.heap[w.heap.size]? = some (.cells (cel (sHeader a)) 30) := by rw [← hW0]; exact (heap_old (by simp)).trans (heap_new rfl)
  have r1 : W0.heap[w.heap.size + 1]? = some (.cells (cel (sHeader b)) 30) := by rw [← hW0]; exact heap_new (by simp)
  have hB0 : Up w W0 := by rw [← hW0]; exact ((Below.refl _ _).alloc (Nat.le_refl _) _).alloc (by simp) _
  have a0 := seg_nu r0 0 a.f0 rfl 0 rfl
  have a1 := seg_nu r0 1 a.f1 rfl 1 rfl
  have b0 := seg_nu r1 0 b.f0 rfl 0 rfl
  have b1 := seg_nu r1 1 b.f1 rfl 1 rfl
  rw [← h0] at b0
  rw [← h1] at b1
  have la := lvHd_row r0
  have lb := lvHd_row r1
  have he := eqoH_run W0 a b ha hb
  rw [hne] at he
  have HB := hid hB0
  have HW := hid hW0
  generalize a.f0 = p at a0 b0
  generalize a.f1 = q at a1 b1
  clear hB0 hW0 r0 r1 h0 h1 ha hb
  go_enter Tryz.func14, Tryz.ntmps14
  go_upto_region 1 with fail
  rw [HW.out]
  clear HW
  go_wp2
  go_ret
  exact ⟨rfl, HB.out⟩

set_option maxHeartbeats 8000000 in
theorem prop18_any (x : VState) (s : VProposerSlashing) (k : Nat) (w : World) (hx : OkState x) (hw : InW w x) (hl : Lns x) (hR : rightB x = true) (hs : OkProposerSlashing s) (e0 : s.f0.f0.f0 = s.f1.f0.f0) (e1 : s.f0.f0.f1 = (k : Int)) (e2 : s.f1.f0.f1 = (k : Int)) (hne : eqH s.f0.f0 s.f1.f0 = false) (hk : k < x.f11.n) (hcs : slaB (x.f11.z k) (x.f2 / 4) = false) :
    Calls Tryz.prog 8 #[.agg (cel (sState x)), .agg (cel (sProposerSlashing s)), .slice none 0 0] w fun e' w' => e' = .returned (.tuple #[.agg (cel (sState oState)), .slice none 0 0, .int .i64 24]) ∧ Below w.heap.size w w' := by
  obtain ⟨W0, hW0⟩ : ∃ W, ((w.alloc (.cells (cel (sState x)) 49)).alloc (.cells (cel (sProposerSlashing s)) 55)).alloc (.cells (cel (sState oState)) 49) = W := ⟨_, rfl⟩
  have r0 : W0.heap[w.heap.size]? = some (.cells (cel (sState x)) 49) := by rw [← hW0]; exact (heap_old (by simp <;> omega)).trans ((heap_old (by simp)).trans (heap_new rfl))
  have r1 : W0.heap[w.heap.size + 1]? = some (.cells (cel (sProposerSlashing s)) 55) := by rw [← hW0]; exact (heap_old (by simp)).trans (heap_new (by simp))
  have r2 : W0.heap[w.heap.size + 2]? = some (.cells (cel (sState oState)) 49) := by rw [← hW0]; exact heap_new (by simp)
  have hB0 : Up w W0 := by rw [← hW0]; exact (((Below.refl _ _).alloc (Nat.le_refl _) _).alloc (by simp) _).alloc (by simp <;> omega) _
  have hri := right_any x W0 hx.r' (hw.below hB0).r' hl
  rw [hR] at hri
  have hrt := rightB_out hR
  have hcl := fun W => hclash_any s.f0.f0 s.f1.f0 W hs.1.1 hs.2.1 e0 (e1.trans e2.symm) hne
  have hth := fun W => thereS_any x (k : Int) W hrt.c0
  rw [decide_eq_true (by omega : (k : Int) < (x.f11.n : Int))] at hth
  have hep := fun W => epoS_any x W hx.o2.1 hrt.c7
  have hcs2 := fun W => slash_any (x.f11.z k) (x.f2 / 4) W
  rw [hcs] at hcs2
  have hpw : ∀ W, Up W0 W → W.cell? ⟨w.heap.size + 1, 1, none⟩ = some (.int .u64 (k : Int)) := fun W h => by
    have := seg_nu (upR h r1) 1 s.f0.f0.f1 rfl 1 rfl
    rw [e1] at this
    exact this
  rcases (hw.below hB0).i11 with h0 | ⟨b, off, ea, hbl, hrr⟩
  · omega
  have hlv : ∀ W, Up W0 W → (lvValidator ⟨b, off + 86 * k, none⟩).run Tryz.prog W = .ok (.agg (cel (sValidator (x.f11.z k)))) W := fun W h => lvValidator_at (rangeAt_below (hrr k hk) hbl h)
  have hix := fun W => ixValidator_u W b off x.f11.n x.f11.c k hk
  have hc11 : ∀ W, Up W0 W → W.cell? ⟨w.heap.size, 721, none⟩ = some (.slice (some ⟨b, off, none⟩) x.f11.n x.f11.c) := fun W h => by
    have := cS11 (upR h r0)
    rw [ea] at this
    exact this
  have lx := lvState_run r0
  have z := zeroState
  have bz := bdState_0
  have HB := hid hB0
  have HW := hid hW0
  have R0 := hid r0
  have R1 := hid r1
  have R2 := hid r2
  have HRI := hid hri
  have HCL := hid hcl
  have HTH := hid hth
  have HPW := hid hpw
  have HIX := hid hix
  have HEP := hid hep
  have HCS := hid hcs2
  have HLV0 := hid hlv
  have HC110 := hid hc11
  obtain ⟨ha, eha⟩ : ∃ h, s.f0.f0 = h := ⟨_, rfl⟩
  obtain ⟨hb, ehb⟩ : ∃ h, s.f1.f0 = h := ⟨_, rfl⟩
  have l1 : ∀ W, Up W0 W → (lvHeader ⟨w.heap.size + 1, 0, none⟩).run Tryz.prog W = .ok (.agg (cel (sHeader ha))) W := fun W h => by rw [← eha]; exact ps_one (upR h r1)
  have l2 : ∀ W, Up W0 W → (lvHeader ⟨w.heap.size + 1, 194, none⟩).run Tryz.prog W = .ok (.agg (cel (sHeader hb))) W := fun W h => by rw [← ehb]; exact ps_two (upR h r1)
  rw [eha, ehb] at HCL
  have HL1 := hid l1
  have HL2 := hid l2
  clear hri hcl hth hpw hix hep hcs2 hlv hc11 hB0 hW0 r0 r1 r2 hx hw hl hs e0 e1 e2 hne hcs hrt hbl hrr ea l1 l2 eha ehb
  obtain ⟨E, eE⟩ : ∃ E, x.f2 / 4 = E := ⟨_, rfl⟩
  rw [eE] at HEP HCS
  clear eE
  obtain ⟨v, ev⟩ : ∃ v, x.f11.z k = v := ⟨_, rfl⟩
  rw [ev] at HCS HLV0
  clear ev
  generalize x.f11.n = N at *
  generalize x.f11.c = C at *
  go_enter Tryz.func8, Tryz.ntmps8
  go_upto_region 1 with fail
  rw [HW.out]
  clear HW
  go_upto_region 3 with (go_at_call 11; refine HRI.out.mono ?_; rintro e' w1 ⟨rfl, hb1⟩)
  have la := HL1.out w1 hb1
  have lb := HL2.out w1 hb1
  have HB1 := hid hb1
  clear hb1 lx HRI HL1 HL2
  go_upto_region 4 with (go_at_call 14; refine (HCL.out _).mono ?_; rintro e' w2 ⟨rfl, hb2⟩)
  have HB2 := hid (upT HB1.out hb2)
  have cw := HPW.out w2 HB2.out
  have lx := lvState_run (upR HB2.out R0.out)
  clear la lb hb2 HB1 HCL HPW
  go_upto_region 9 with (go_at_call 12; refine (HTH.out _).mono ?_; rintro e' w3 ⟨rfl, hb3⟩)
  have hu3 := upT HB2.out hb3
  have HU3 := hid hu3
  have HC11 := hid (fun W (h : Up w3 W) => HC110.out W (upT hu3 h))
  have HLV := hid (fun W (h : Up w3 W) => HLV0.out W (upT hu3 h))
  have HLX : Hid (∀ W, Up w3 W → (lvState ⟨w.heap.size, 0, none⟩).run Tryz.prog W = .ok (.agg (cel (sState x))) W) := fun W h => lvState_run (upR (upT hu3 h) R0.out)
  clear hu3 hb3 HB2 cw lx HC110 HLV0 HTH
  refine wp_region_noPanic ?_
  refine wp_region_held_drew (S := fun W => Up w3 W) (by kernel_rfl) ((Below.refl _ _).drew) (fun hHeld => ?_)
  have hUd : Up w3 w3.drew := (Below.refl _ _).drew
  generalize w3.drew = wd at hHeld hUd ⊢
  refine tk 0 (v := ?v601) ?y601 hHeld ?r601
  case y601 => intro w hSw; go_simp; try with_reducible rfl
  refine tk 1 (v := ?v602) ?y602 hHeld ?r602
  case y602 => intro w hSw; have ld0 := HC11.out w hSw; go_simp; try with_reducible rfl
  refine tk 2 (v := ?v603) ?y603 hHeld ?r603
  case y603 => intro w hSw; go_simp; try with_reducible rfl
  refine tk 3 (v := ?v604) ?y604 hHeld ?r604
  case y604 => intro w hSw; have ld0 := HIX.out w; go_simp; try with_reducible rfl
  refine tk 4 (v := ?v605) ?y605 hHeld ?r605
  case y605 => intro w hSw; have ld0 := HLV.out w hSw; go_simp; try with_reducible rfl
  refine tk 5 (v := ?v606) ?y606 hHeld ?r606
  case y606 => intro w hSw; have ld0 := HLX.out w hSw; go_simp; try with_reducible rfl
  try simp only [Act.put, List.setIfInBounds_toArray, List.set_cons_zero, List.set_cons_succ, Array.toArray_toList, List.getElem_toArray, List.getElem_cons_zero, List.getElem_cons_succ]
  refine rd1 6 (fun K hK => ?_)
  go_simp
  refine (HEP.out wd).mono ?_
  rintro e' x1 ⟨rfl, hd1⟩
  dsimp only
  have hc1 := upT hUd hd1
  refine hK.out _ _ hc1 (fun hHeld => ?_)
  clear hK K
  try simp only [Act.put, List.setIfInBounds_toArray, List.set_cons_zero, List.set_cons_succ, Array.toArray_toList, List.getElem_toArray, List.getElem_cons_zero, List.getElem_cons_succ]
  refine rd1 7 (fun K hK => ?_)
  go_simp
  refine (HCS.out x1).mono ?_
  rintro e' x2 ⟨rfl, hd2⟩
  dsimp only
  have hc2 := upT hc1 hd2
  refine hK.out _ _ hc2 (fun hHeld => ?_)
  clear hK K
  try simp only [Act.put, List.setIfInBounds_toArray, List.set_cons_zero, List.set_cons_succ, Array.toArray_toList, List.getElem_toArray, List.getElem_cons_zero, List.getElem_cons_succ]
  refine tk 8 (v := ?v607) ?y607 hHeld ?r607
  case y607 => intro w hSw; go_simp; try with_reducible rfl
  try simp only [Act.put, List.setIfInBounds_toArray, List.set_cons_zero, List.set_cons_succ, Array.toArray_toList, List.getElem_toArray, List.getElem_cons_zero, List.getElem_cons_succ]
  refine wpAnyH_done (by kernel_rfl) ?_ _
  refine NoPanic.normal ?_
  have q2 := upR (upT HU3.out hc2) R2.out
  have s1 := svState_run q2 oState
  have Q2 := hid q2
  have HUU := hid (upT HB.out (upT HU3.out hc2))
  clear q2 hc2 hd2 hc1 hd1 hUd hHeld
  go_wp2
  exact retState3 6 7 8 (w.heap.size + 2) oState 49 (.slice none 0 0) (.int .i64 24) rfl rfl rfl rfl rfl (setRow_at Q2.out) ⟨rfl, below_row HUU.out (by omega) _⟩

theorem sq_zero {x : VState} {i : Int} (h : sqE x i = 0) (h0 : 0 ≤ i) : ∃ k : Nat, i = (k : Int) ∧ k < x.f11.n ∧ rightB x = true ∧ prE x = 0 ∧ rightB (slS x k) = true ∧ sqS x i = slS x k := by
  have hs : sqS x i = slS x i.toNat := by unfold sqS; rw [if_pos h]
  unfold sqE at h
  by_cases hc : rightB x = true ∧ i < (x.f11.n : Int)
  · rw [if_pos hc] at h
    obtain ⟨hR, hi⟩ := hc
    obtain ⟨k, rfl⟩ : ∃ k : Nat, i = (k : Int) := ⟨i.toNat, by omega⟩
    by_cases hp : prE x = 0
    · rw [if_pos hp] at h
      by_cases hr : rightB (slS x ((k : Int)).toNat) = true
      · exact ⟨k, rfl, by omega, hR, hp, hr, hs⟩
      · rw [if_neg hr] at h; omega
    · rw [if_neg hp] at h; exact absurd h hp
  · rw [if_neg hc] at h; omega

/-- The slashing as it is changed. -/
def psA (s : VProposerSlashing) (k : Int) : VProposerSlashing := { s with f0 := { s.f0 with f0 := { s.f0.f0 with f1 := k } } }

def psB (s : VProposerSlashing) (k : Int) : VProposerSlashing := { s with f1 := { s.f1 with f0 := { s.f1.f0 with f1 := k } } }

def psC (s : VProposerSlashing) (n : Int) : VProposerSlashing := { s with f1 := { s.f1 with f0 := { s.f1.f0 with f0 := n } } }

def psD (s : VProposerSlashing) (c : Int) : VProposerSlashing := { s with f1 := { s.f1 with f0 := { s.f1.f0 with f4 := fun j => if j = 0 then c else s.f1.f0.f4 j } } }

theorem ps_A (s : VProposerSlashing) (k : Int) : (cel (sProposerSlashing s)).setIfInBounds 1 (.int .u64 k) = cel (sProposerSlashing (psA s k)) := by
  have e := cel_set1 ((sProposerSlashing s).take 1) (.nu s.f0.f0.f1) (.nu k) ((sProposerSlashing s).drop 2) rfl rfl
  rw [show slen ((sProposerSlashing s).take 1) = 1 by kernel_rfl, show (sProposerSlashing s).take 1 ++ [Seg.nu s.f0.f0.f1] ++ (sProposerSlashing s).drop 2 = sProposerSlashing s by kernel_rfl, show (sProposerSlashing s).take 1 ++ [Seg.nu k] ++ (sProposerSlashing s).drop 2 = sProposerSlashing (psA s k) by kernel_rfl] at e
  exact e

theorem ps_B (s : VProposerSlashing) (k : Int) : (cel (sProposerSlashing s)).setIfInBounds 195 (.int .u64 k) = cel (sProposerSlashing (psB s k)) := by
  have e := cel_set1 ((sProposerSlashing s).take 7) (.nu s.f1.f0.f1) (.nu k) ((sProposerSlashing s).drop 8) rfl rfl
  rw [show slen ((sProposerSlashing s).take 7) = 195 by kernel_rfl, show (sProposerSlashing s).take 7 ++ [Seg.nu s.f1.f0.f1] ++ (sProposerSlashing s).drop 8 = sProposerSlashing s by kernel_rfl, show (sProposerSlashing s).take 7 ++ [Seg.nu k] ++ (sProposerSlashing s).drop 8 = sProposerSlashing (psB s k) by kernel_rfl] at e
  exact e

theorem ps_C (s : VProposerSlashing) (n : Int) : (cel (sProposerSlashing s)).setIfInBounds 194 (.int .u64 n) = cel (sProposerSlashing (psC s n)) := by
  have e := cel_set1 ((sProposerSlashing s).take 6) (.nu s.f1.f0.f0) (.nu n) ((sProposerSlashing s).drop 7) rfl rfl
  rw [show slen ((sProposerSlashing s).take 6) = 194 by kernel_rfl, show (sProposerSlashing s).take 6 ++ [Seg.nu s.f1.f0.f0] ++ (sProposerSlashing s).drop 7 = sProposerSlashing s by kernel_rfl, show (sProposerSlashing s).take 6 ++ [Seg.nu n] ++ (sProposerSlashing s).drop 7 = sProposerSlashing (psC s n) by kernel_rfl] at e
  exact e

theorem ps_D (s : VProposerSlashing) (c : Int) : (cel (sProposerSlashing s)).setIfInBounds 260 (.int .u8 c) = cel (sProposerSlashing (psD s c)) := by
  have e := cel_by_set ((sProposerSlashing s).take 10) ((sProposerSlashing s).drop 11) 32 0 s.f1.f0.f4 c (by omega)
  rw [show slen ((sProposerSlashing s).take 10) = 260 by kernel_rfl, show (sProposerSlashing s).take 10 ++ [Seg.by 32 s.f1.f0.f4] ++ (sProposerSlashing s).drop 11 = sProposerSlashing s by kernel_rfl, show ∀ u, (sProposerSlashing s).take 10 ++ [Seg.by 32 u] ++ (sProposerSlashing s).drop 11 = sProposerSlashing (psC { s with f1 := { s.f1 with f0 := { s.f1.f0 with f4 := u } } } s.f1.f0.f0) from fun u => by kernel_rfl] at e
  exact e

theorem ps_body {w : World} {g : Nat} {t : TypeId} {s : VProposerSlashing} (h : w.heap[g]? = some (.cells (cel (sProposerSlashing s)) t)) : w.cell? ⟨g, 260, none⟩ = some (.int .u8 (s.f1.f0.f4 0)) := by
  have := byte_at ((sProposerSlashing s).take 10) ((sProposerSlashing s).drop 11) 32 s.f1.f0.f4 (t := t) (by
    rw [show (sProposerSlashing s).take 10 ++ [Seg.by 32 s.f1.f0.f4] ++ (sProposerSlashing s).drop 11 = sProposerSlashing s by kernel_rfl]
    exact h) 0 (by omega)
  rw [show slen ((sProposerSlashing s).take 10) = 260 by kernel_rfl] at this
  exact this

theorem xor_one (b : Int) (h : 0 ≤ b ∧ b < 256) : (0 ≤ bits .xor .u8 b 1 ∧ bits .xor .u8 b 1 < 256) ∧ ¬ bits .xor .u8 b 1 = b := by
  obtain ⟨n, rfl⟩ : ∃ n : Nat, b = (n : Int) := ⟨b.toNat, by omega⟩
  have hn : n < 256 := by omega
  have key : ∀ m : Fin 256, (0 ≤ bits .xor .u8 ((m.val : Nat) : Int) 1 ∧ bits .xor .u8 ((m.val : Nat) : Int) 1 < 256) ∧ ¬ bits .xor .u8 ((m.val : Nat) : Int) 1 = ((m.val : Nat) : Int) := by decide +kernel
  exact key ⟨n, hn⟩

/-- What the slashing has to be behind the changes. -/
def PsG (k : Nat) (s : VProposerSlashing) : Prop := OkProposerSlashing s ∧ s.f0.f0.f0 = s.f1.f0.f0 ∧ s.f0.f0.f1 = (k : Int) ∧ s.f1.f0.f1 = (k : Int)

theorem psg_of {s : VProposerSlashing} (h : OkProposerSlashing s) (k : Nat) (hk : k < 65536) : PsG k (psC (psB (psA s k) k) s.f0.f0.f0) := by
  obtain ⟨⟨⟨a0, a1, a2, a3, a4⟩, a5⟩, ⟨⟨b0, b1, b2, b3, b4⟩, b5⟩⟩ := h
  have hk2 : (0 : Int) ≤ (k : Int) ∧ (k : Int) < 18446744073709551616 := by omega
  exact ⟨⟨⟨⟨a0, hk2, a2, a3, a4⟩, a5⟩, ⟨⟨a0, hk2, b2, b3, b4⟩, b5⟩⟩, rfl, rfl, rfl⟩

set_option maxHeartbeats 16000000 in
theorem slashOnce_law (pL : PLeav) (pS : PSlas) (x : VState) (i : Int) (s : VProposerSlashing) (w : World) (hx : OkState x) (hw : InW w x) (hn : NilW x) (hl : Lns x) (h0 : 0 ≤ i) (hs : OkProposerSlashing s) (hS : Sh w) :
    Calls Tryz.prog 3 #[.agg (cel (sState x)), .int .u64 i, .agg (cel (sProposerSlashing s))] w fun e' w' => e' = .returned (.bool true) ∧ Below w.heap.size w w' := by
  obtain ⟨W0, hW0⟩ : ∃ W, (w.alloc (.cells (cel (sState x)) 49)).alloc (.cells (cel (sProposerSlashing s)) 55) = W := ⟨_, rfl⟩
  have r0 : W0.heap[w.heap.size]? = some (.cells (cel (sState x)) 49) := by rw [← hW0]; exact (heap_old (by simp)).trans (heap_new rfl)
  have r1 : W0.heap[w.heap.size + 1]? = some (.cells (cel (sProposerSlashing s)) 55) := by rw [← hW0]; exact heap_new (by simp)
  have hB0 : Up w W0 := by rw [← hW0]; exact ((Below.refl _ _).alloc (Nat.le_refl _) _).alloc (by simp) _
  have haw := awake18 pL pS W0 (hS.below hB0)
  have hsl : ∀ W, Up W0 W → Calls Tryz.prog 5 #[.agg (cel (sState x)), .int .u64 i] W fun e' w' => ∃ Y, e' = .returned (.tuple #[.agg (cel (sState Y)), .int .i64 (sqE x i)]) ∧ Res W.heap.size w' (sqS x i) Y ∧ Below W.heap.size W w' := fun W h => pS x i W hx (hw.below (upT hB0 h)) hn hl h0 (hS.below (upT hB0 h))
  have z := zeroState
  have HB := hid hB0
  have HWo := hid hW0
  have HAW := hid haw
  have R0 := hid r0
  have R1 := hid r1
  by_cases hz : sqE x i = 0
  · obtain ⟨k, rfl, hk, hR, hp, hRS, hSS⟩ := sq_zero hz h0
    rw [hz, hSS] at hsl
    have hrt := rightB_out hR
    have hk65 : k < 65536 := by have := hrt.c0; omega
    have hsum := sum_slS hx hR k hk hp
    have hvs := slS_v x k
    have hlf := slS_left hx hR k hk
    have hokS := ((hrt.rg hx).s k hk).ok
    have hpg := psg_of hs k hk65
    have htot : sumZ x.f12.z x.f12.n ≤ 144115188075855872 := by
      have := hrt.cb
      unfold togB at this
      exact of_decide_eq_true this
    have hpos : ∀ j, j < x.f12.n → 0 ≤ x.f12.z j := fun j hj => (hx.o12 j hj).1
    have hefb := (hrt.rg hx).ef k hk
    have HSL := hid hsl
    have HX := hid hx
    have HIW := hid hw
    have HLN := hid hl
    have HRT := hid hrt
    have HK := hid hk
    have HK65 := hid hk65
    have HRS := hid hRS
    have HSUM := hid hsum
    have HVS := hid hvs
    have HLF := hid hlf
    have HOKS := hid hokS
    have HPG := hid hpg
    have HTOT := hid htot
    have HPOS := hid hpos
    have HEFB := hid hefb
    have HSB := hid hs
    have PL := hid pL
    clear hB0 hW0 r0 r1 haw hsl hx hw hn hl hs hS pL pS hrt hk hR hp hRS hSS hz hsum hvs hlf hokS hpg htot hpos hefb h0 hk65
    go_enter Tryz.func3, Tryz.ntmps3
    go_upto_region 1 with fail
    rw [HWo.out]
    clear HWo
    go_upto_region 3 with (go_at_call 4; refine HAW.out.mono ?_; rintro e' w1 ⟨rfl, hb1⟩)
    have lx := lvState_run (upR hb1 R0.out)
    have HSM := hid (HSL.out w1 hb1)
    have HU1 := hid hb1
    have HW1 : Hid (w.heap.size + 1 < w1.heap.size) := by
      have := some_ltK R1.out
      have := HU1.out.size
      unfold Hid
      omega
    clear hb1 HAW HSL
    go_upto_region 4 with (go_at_call 5; refine HSM.out.mono ?_; rintro e' w2 ⟨Y, rfl, hrs, hb2⟩; have sv := svState_newv w2 oState Y; have HB2 := hid hb2; have HRY := hid hrs; clear hrs hb2)
    obtain ⟨V1, y7, hV, ey7, r7, hd7, hy7⟩ := upN2 HB2.out (.cells (cel (sState Y)) 49)
    rw [hV, ey7]
    have hu := upT HU1.out (upT HB2.out hd7)
    have hry : Res w1.heap.size V1 (slS x k) Y := HRY.out.below hd7
    have hmx : AsM x.f11.n x := HRT.out.asM
    have hmy : AsM x.f11.n Y := by
      have := ((rightB_out HRS.out).asM).sim hry.sim
      rw [(slS_11 x k).1, (slA_o x k).2.2.1] at this
      exact this
    have hlk := rlike_any x Y x.f11.n V1 hmx hmy
    replace lx := lvState_run (upR hu R0.out)
    have ly := lvState_run r7
    have HLK := hid hlk
    have HU := hid hu
    have HRV := hid hry
    have R7 := hid r7
    have HMX := hid hmx
    have HMY := hid hmy
    have HY7 : Hid (w.heap.size + 1 < y7) := by
      have := some_ltK R1.out
      have := HU1.out.size
      unfold Hid
      omega
    clear hlk hu hry r7 hV ey7 hd7 hy7 sv HB2 HRY HSM HU1 hmx hmy
    go_upto_region 8 with (go_at_call 6; refine HLK.out.mono ?_; rintro e' w5 ⟨rfl, hb5⟩)
    have hu5 := upT HU.out hb5
    have rx := upR hu5 R0.out
    have ry := upR hb5 R7.out
    have hry := HRV.out.below hb5
    have hix5 := HIW.out.below (upT HB.out hu5)
    have HU5 := hid hu5
    have RX := hid rx
    have RY := hid ry
    have RS := hid (upR hu5 R1.out)
    have HRZ := hid hry
    have HIX := hid hix5
    clear hu5 rx ry hry hix5 hb5 HLK HU HRV R7 R0 R1 lx ly
    have c12 := cS12 RX.out
    have d12 := cS12 RY.out
    rw [HMX.out.m12] at c12
    rw [HMY.out.m12] at d12
    have hsm2 := HSUM.out
    rw [HMX.out.m12] at hsm2
    have hto := HTOT.out
    rw [HMX.out.m12] at hto
    have hpo := HPOS.out
    rw [HMX.out.m12] at hpo
    rw [← HRZ.out.sim.z12] at hsm2
    obtain ⟨N, eN⟩ : ∃ N, x.f11.n = N := ⟨_, rfl⟩
    have hN0 : k < N := by rw [← eN]; exact HK.out
    have hix : ∃ b off, x.f12.a = some ⟨b, off, none⟩ ∧ ∀ j, j < N → w5.cell? ⟨b, off + j, none⟩ = some (.int .u64 (x.f12.z j)) := by
      rcases HIX.out.i12 with h0 | ⟨b, off, ea, _, hc⟩
      · rw [HMX.out.m12, eN] at h0; omega
      · exact ⟨b, off, ea, fun j hj => hc j (by rw [HMX.out.m12, eN]; exact hj)⟩
    have hiy : ∃ b off, Y.f12.a = some ⟨b, off, none⟩ ∧ ∀ j, j < N → w5.cell? ⟨b, off + j, none⟩ = some (.int .u64 (Y.f12.z j)) := by
      rcases HRZ.out.inw.i12 with h0 | ⟨b, off, ea, _, hc⟩
      · rw [HMY.out.m12, eN] at h0; omega
      · exact ⟨b, off, ea, fun j hj => hc j (by rw [HMY.out.m12, eN]; exact hj)⟩
    obtain ⟨b1, o1, ea1, hc1⟩ := hix
    obtain ⟨b2, o2, ea2, hc2⟩ := hiy
    rw [ea1, eN] at c12
    rw [ea2, eN] at d12
    rw [eN] at hsm2 hto hpo
    have ix1 := fun W j (hj : j < N) => ixU_run W b1 o1 N x.f12.c j hj
    have ix2 := fun W j (hj : j < N) => ixU_run W b2 o2 N Y.f12.c j hj
    obtain ⟨xz, exz⟩ : ∃ f, x.f12.z = f := ⟨_, rfl⟩
    obtain ⟨yz, eyz⟩ : ∃ f, Y.f12.z = f := ⟨_, rfl⟩
    rw [exz] at hc1 hto hpo hsm2
    rw [eyz] at hc2 hsm2
    generalize x.f12.c = C1 at c12 ix1
    generalize Y.f12.c = C2 at d12 ix2
    have hN65 : N ≤ 65536 := by rw [← eN]; exact HRT.out.c0
    have HC1 := hid hc1
    have HC2 := hid hc2
    have HI1 := hid ix1
    have HI2 := hid ix2
    have HS2 := hid hsm2
    have HT2 := hid hto
    have HP2 := hid hpo
    have EN := hid eN
    clear hc1 hc2 ix1 ix2 hsm2 hto hpo eN ea1 ea2 exz eyz HSUM HTOT HPOS
    go_wp2
    go_loopw [9, 10, 11] (fun a b c wr => ∃ j : Nat, j ≤ N ∧ a = .int .u64 (sumZ xz j) ∧ b = .int .u64 (sumZ yz j) ∧ c = .int .i64 j ∧ wr = w5) (fun _ _ c _ => N - (intOf c).toNat)
    case atStart => exact ⟨0, by omega, rfl, rfl, rfl, rfl⟩
    case round =>
      obtain ⟨j, hj, rfl, rfl, rfl, hw5⟩ := hrel
      obtain rfl := hw5.symm
      by_cases hjn : j < N
      · have j1 : (j : Int) < (N : Int) := by omega
        have jw : IntKind.i64.wrap ((j : Int) + 1) = (j : Int) + 1 := by rw [IntKind.wrap_i64]; omega
        have cx := HC1.out j hjn
        have cy := HC2.out j hjn
        have i1 := fun W => HI1.out W j hjn
        have i2 := fun W => HI2.out W j hjn
        have sx := (sumZ_all HP2.out (j + 1) (by omega))
        have sy := (sumZ_all HS2.out.2.2 (j + 1) (by omega))
        have tx : sumZ xz (j + 1) = sumZ xz j + xz j := rfl
        have ty : sumZ yz (j + 1) = sumZ yz j + yz j := rfl
        have t1 := HT2.out
        have t2 := HS2.out.2.1
        have HTX := hid tx
        have HTY := hid ty
        have w1x : IntKind.u64.wrap (sumZ xz j + xz j) = sumZ xz j + xz j := by rw [IntKind.wrap_u64]; omega
        have w1y : IntKind.u64.wrap (sumZ yz j + yz j) = sumZ yz j + yz j := by rw [IntKind.wrap_u64]; omega
        clear sx sy t1 t2 tx ty
        obtain ⟨SX, eSX⟩ : ∃ q, sumZ xz j = q := ⟨_, rfl⟩
        obtain ⟨SY, eSY⟩ : ∃ q, sumZ yz j = q := ⟨_, rfl⟩
        obtain ⟨ZX, eZX⟩ : ∃ q, xz j = q := ⟨_, rfl⟩
        obtain ⟨ZY, eZY⟩ : ∃ q, yz j = q := ⟨_, rfl⟩
        rw [eSX, eZX] at w1x HTX
        rw [eSY, eZY] at w1y HTY
        rw [eZX] at cx
        rw [eZY] at cy
        rw [eSX, eSY]
        clear eSX eSY eZX eZY
        go_wp2
        go_roundw
        case rel => exact ⟨j + 1, by omega, by rw [HTX.out], by rw [HTY.out], by go_num, by first | trivial | rfl⟩
        case measure => simp [intOf]; omega
      · obtain rfl : j = N := by omega
        have jN : ¬ (j : Int) < (j : Int) := by omega
        have hle := HS2.out.1
        have hty := HS2.out.2.1
        have htx := HT2.out
        have hpx := (sumZ_all HP2.out j (Nat.le_refl _)).1
        obtain ⟨A, eA⟩ : ∃ q, sumZ xz j = q := ⟨_, rfl⟩
        obtain ⟨B, eB⟩ : ∃ q, sumZ yz j = q := ⟨_, rfl⟩
        rw [eA, eB] at hle
        rw [eA] at htx hpx
        rw [eB] at hty
        rw [eA, eB]
        have hef := HEFB.out
        rw [show effS x k = (x.f11.z k).f2 from rfl] at hle
        have c11 := cS11 RX.out
        have d11 := cS11 RY.out
        rw [HMY.out.m11] at d11
        rcases HIX.out.i11 with h0 | ⟨b3, o3, ea3, _, hr3⟩
        · rw [EN.out] at h0; omega
        rcases HRZ.out.inw.i11 with h0 | ⟨b4, o4, ea4, hbl4, hr4⟩
        · rw [HMY.out.m11, EN.out] at h0; omega
        rw [ea3, EN.out] at c11
        rw [ea4, EN.out] at d11
        have lv := lvValidator_at (hr3 k (by rw [EN.out]; exact hN0))
        have hr4k := hr4 k (by rw [HMY.out.m11, EN.out]; exact hN0)
        have ix := fun W => ixValidator_u W b3 o3 j x.f11.c k hN0
        obtain ⟨P, eP⟩ : ∃ P, o3 + 86 * k = P := ⟨_, rfl⟩
        rw [eP] at lv
        simp only [eP] at ix
        obtain ⟨v, ev⟩ : ∃ v, x.f11.z k = v := ⟨_, rfl⟩
        rw [ev] at lv hef hle
        have sv := svValidator_newv w5 oValidator v
        have zv := zeroValidator
        obtain ⟨w6, hw6⟩ : ∃ W, w5.alloc (.cells (cel (sValidator v)) 62) = W := ⟨_, rfl⟩
        rw [hw6] at sv
        have r12 : w6.heap[w5.heap.size]? = some (.cells (cel (sValidator v)) 62) := by rw [← hw6]; exact heap_new rfl
        have hu6 : Up w5 w6 := by rw [← hw6]; exact (Below.refl _ _).alloc (Nat.le_refl _) _
        obtain ⟨y12, ey12⟩ : ∃ y, w5.heap.size = y := ⟨_, rfl⟩
        rw [ey12] at sv r12
        obtain ⟨F, eF⟩ : ∃ F, v.f2 = F := ⟨_, rfl⟩
        rw [eF] at hef hle
        have hev : ∀ W, Up w6 W → W.cell? ⟨y12, 80, none⟩ = some (.int .u64 F) := fun W h => by
          have := seg_nu (upR h r12) 2 v.f2 rfl 80 rfl
          rw [eF] at this
          exact this
        obtain ⟨p, ep⟩ : ∃ p, x.f2 = p := ⟨_, rfl⟩
        have hp0 := HX.out.o2.1
        have hp1 := HRT.out.c7
        rw [ep] at hp0 hp1
        have hx2 : ∀ W, Up w6 W → W.cell? ⟨w.heap.size, 33, none⟩ = some (.int .u64 p) := fun W h => by
          have := cS2 (upR (upT hu6 h) RX.out)
          rw [ep] at this
          exact this
        have hy11 : ∀ W, Up w6 W → W.cell? ⟨y7, 721, none⟩ = some (.slice (some ⟨b4, o4, none⟩) j Y.f11.c) := fun W h => (below_cell (upT hu6 h) (some_ltK RY.out)).trans d11
        have hyr : ∀ W, Up w6 W → W.rangeAt b4 (o4 + 86 * k) (celL (sValidator (Y.f11.z k))) := fun W h => rangeAt_below hr4k hbl4 (upT hu6 h)
        have hyx := fun W => ixValidator_u W b4 o4 j Y.f11.c k hN0
        have hf3 : (Y.f11.z k).f3 = true := by rw [HRZ.out.sim.z11]; exact HVS.out.1
        have hy3 : ∀ W, Up w6 W → W.cell? ⟨b4, o4 + 86 * k + 81, none⟩ = some (.bool true) := fun W h => by
          have := val_e3 (hyr W h)
          rw [hf3] at this
          exact this
        have hyv : ∀ W, Up w6 W → (lvValidator ⟨b4, o4 + 86 * k, none⟩).run Tryz.prog W = .ok (.agg (cel (sValidator (Y.f11.z k)))) W := fun W h => lvValidator_at (hyr W h)
        have hcs0 : slaB (Y.f11.z k) (p / 4) = false := by unfold slaB; rw [hf3]; rfl
        have hcs := fun W => rslash_any (Y.f11.z k) (p / 4) W
        rw [hcs0] at hcs
        obtain ⟨vy, evy⟩ : ∃ v, Y.f11.z k = v := ⟨_, rfl⟩
        rw [evy] at hyv hcs
        obtain ⟨P4, eP4⟩ : ∃ P, o4 + 86 * k = P := ⟨_, rfl⟩
        rw [eP4] at hy3 hyv
        simp only [eP4] at hyx
        generalize Y.f11.c = C4 at hy11 hyx d11
        generalize x.f11.c = C3 at c11 ix
        have HEV := hid hev
        have HX2 := hid hx2
        have HY11 := hid hy11
        have HYX := hid hyx
        have HY3 := hid hy3
        have HYV := hid hyv
        have HCS := hid hcs
        have HU6 := hid hu6
        have EP := hid ep
        have kt : F.tdiv 512 = F / 512 := Int.tdiv_eq_ediv_of_nonneg hef.1
        have kq : IntKind.u64.wrap (F / 512) = F / 512 := by rw [IntKind.wrap_u64]; omega
        have kw : IntKind.u64.wrap (A + F / 512) = A + F / 512 := by rw [IntKind.wrap_u64]; omega
        have kg : ¬ A + F / 512 < B := by omega
        have pt : p.tdiv 4 = p / 4 := Int.tdiv_eq_ediv_of_nonneg hp0
        have pq : IntKind.u64.wrap (p / 4) = p / 4 := by rw [IntKind.wrap_u64]; omega
        clear hev hx2 hy11 hyx hy3 hyv hcs hu6 ep hyr hr4k hr3 hr4 hbl4 ea3 ea4 d11 hle hef hty htx hpx hp0 hp1 ev eF hf3 hcs0 evy eP eP4 eA eB r12 HC1 HC2 HI1 HI2 HS2 HT2 HP2 HEFB HVS
        go_upto_region 16 with fail
        clear sv lv c11 ix hw6 ey12 zv c12 d12
        refine wp_region_noPanic ?_
        refine wp_region_held_drew (S := fun W => Up w6 W) (by kernel_rfl) ((Below.refl _ _).drew) (fun hHeld => ?_)
        have hUd : Up w6 w6.drew := (Below.refl _ _).drew
        generalize w6.drew = wd at hHeld hUd ⊢
        refine tk 0 (v := ?v608) ?y608 hHeld ?r608
        case y608 => intro w hSw; go_simp; try with_reducible rfl
        refine tk 1 (v := ?v609) ?y609 hHeld ?r609
        case y609 => intro w hSw; go_simp; try with_reducible rfl
        refine tk 2 (v := ?v610) ?y610 hHeld ?r610
        case y610 => intro w hSw; go_simp; try with_reducible rfl
        refine tk 3 (v := ?v611) ?y611 hHeld ?r611
        case y611 => intro w hSw; have ld0 := HEV.out w hSw; go_simp; try with_reducible rfl
        refine tk 4 (v := ?v612) ?y612 hHeld ?r612
        case y612 => intro w hSw; go_simp; try with_reducible rfl
        refine tk 5 (v := ?v613) ?y613 hHeld ?r613
        case y613 => intro w hSw; go_simp; try with_reducible rfl
        refine tk 6 (v := ?v614) ?y614 hHeld ?r614
        case y614 => intro w hSw; go_simp; try with_reducible rfl
        refine tk 7 (v := ?v615) ?y615 hHeld ?r615
        case y615 => intro w hSw; go_simp; try with_reducible rfl
        refine tk 8 (v := ?v616) ?y616 hHeld ?r616
        case y616 => intro w hSw; go_simp; try with_reducible rfl
        refine tk 9 (v := ?v617) ?y617 hHeld ?r617
        case y617 => intro w hSw; have ld0 := HY11.out w hSw; go_simp; try with_reducible rfl
        refine tk 10 (v := ?v618) ?y618 hHeld ?r618
        case y618 => intro w hSw; go_simp; try with_reducible rfl
        refine tk 11 (v := ?v619) ?y619 hHeld ?r619
        case y619 => intro w hSw; have ld0 := HYX.out w; go_simp; try with_reducible rfl
        refine tk 12 (v := ?v620) ?y620 hHeld ?r620
        case y620 => intro w hSw; go_simp; try with_reducible rfl
        refine tk 13 (v := ?v621) ?y621 hHeld ?r621
        case y621 => intro w hSw; have ld0 := HY3.out w hSw; go_simp; try with_reducible rfl
        refine tk 14 (v := ?v622) ?y622 hHeld ?r622
        case y622 => intro w hSw; go_simp; try with_reducible rfl
        refine tk 15 (v := ?v623) ?y623 hHeld ?r623
        case y623 => intro w hSw; go_simp; try with_reducible rfl
        refine tk 16 (v := ?v624) ?y624 hHeld ?r624
        case y624 => intro w hSw; go_simp; try with_reducible rfl
        refine tk 17 (v := ?v625) ?y625 hHeld ?r625
        case y625 => intro w hSw; go_simp; try with_reducible rfl
        refine tk 18 (v := ?v626) ?y626 hHeld ?r626
        case y626 => intro w hSw; have ld0 := HY11.out w hSw; go_simp; try with_reducible rfl
        refine tk 19 (v := ?v627) ?y627 hHeld ?r627
        case y627 => intro w hSw; go_simp; try with_reducible rfl
        refine tk 20 (v := ?v628) ?y628 hHeld ?r628
        case y628 => intro w hSw; have ld0 := HYX.out w; go_simp; try with_reducible rfl
        refine tk 21 (v := ?v629) ?y629 hHeld ?r629
        case y629 => intro w hSw; have ld0 := HYV.out w hSw; go_simp; try with_reducible rfl
        refine tk 22 (v := ?v630) ?y630 hHeld ?r630
        case y630 => intro w hSw; go_simp; try with_reducible rfl
        refine tk 23 (v := ?v631) ?y631 hHeld ?r631
        case y631 => intro w hSw; have ld0 := HX2.out w hSw; go_simp; try with_reducible rfl
        refine tk 24 (v := ?v632) ?y632 hHeld ?r632
        case y632 => intro w hSw; go_simp; try with_reducible rfl
        try simp only [Act.put, List.setIfInBounds_toArray, List.set_cons_zero, List.set_cons_succ, Array.toArray_toList, List.getElem_toArray, List.getElem_cons_zero, List.getElem_cons_succ]
        refine rd1 25 (fun K hK => ?_)
        go_simp
        refine (HCS.out wd).mono ?_
        rintro e' x1 ⟨rfl, hd1⟩
        dsimp only
        have hc1 := upT hUd hd1
        refine hK.out _ _ hc1 (fun hHeld => ?_)
        clear hK K
        try simp only [Act.put, List.setIfInBounds_toArray, List.set_cons_zero, List.set_cons_succ, Array.toArray_toList, List.getElem_toArray, List.getElem_cons_zero, List.getElem_cons_succ]
        refine tk 26 (v := ?v633) ?y633 hHeld ?r633
        case y633 => intro w hSw; go_simp; try with_reducible rfl
        try simp only [Act.put, List.setIfInBounds_toArray, List.set_cons_zero, List.set_cons_succ, Array.toArray_toList, List.getElem_toArray, List.getElem_cons_zero, List.getElem_cons_succ]
        refine wpAnyH_done (by kernel_rfl) ?_ _
        refine NoPanic.normal ?_
        have HC7 := hid (upT HU6.out hc1)
        clear hc1 hd1 hUd hHeld HEV HX2 HY11 HYX HY3 HYV HCS kt kq kw kg pt pq HU6
        obtain ⟨w7, ew7⟩ : ∃ W, x1 = W := ⟨_, rfl⟩
        rw [ew7] at HC7 ⊢
        clear ew7
        have r5 := upR HC7.out RS.out
        obtain ⟨b5, eb5⟩ : ∃ b, w.heap.size + 1 = b := ⟨_, rfl⟩
        rw [eb5] at r5 RS HY7 HW1 ⊢
        have EB5 := hid eb5
        clear eb5
        have ca := seg_nu r5 1 s.f0.f0.f1 rfl 1 rfl
        have fa := row_frozen r5 1
        have ra : (w7.setCell ⟨b5, 1, none⟩ (.int .u64 (k : Int))).heap[b5]? = _ := row_set r5 1 _
        rw [ps_A] at ra
        have RA := hid ra
        clear ra r5
        go_upto_region 19 with fail
        obtain ⟨wa, ewa⟩ : ∃ W, w7.setCell ⟨b5, 1, none⟩ (.int .u64 (k : Int)) = W := ⟨_, rfl⟩
        have ka : Kept b5 w7 wa := by rw [← ewa]; exact (Kept.refl _ _).setCell _ _
        rw [ewa] at RA ⊢
        clear ca fa ewa
        have cb := seg_nu RA.out 7 (psA s k).f1.f0.f1 rfl 195 rfl
        have fb := row_frozen RA.out 195
        have rb : (wa.setCell ⟨b5, 195, none⟩ (.int .u64 (k : Int))).heap[b5]? = _ := row_set RA.out 195 _
        rw [ps_B] at rb
        have RB := hid rb
        clear rb
        go_upto_region 20 with fail
        obtain ⟨wb, ewb⟩ : ∃ W, wa.setCell ⟨b5, 195, none⟩ (.int .u64 (k : Int)) = W := ⟨_, rfl⟩
        have kb : Kept b5 w7 wb := by rw [← ewb]; exact ka.setCell _ _
        rw [ewb] at RB ⊢
        clear cb fb ewb ka RA
        have cc0 := seg_nu RB.out 0 s.f0.f0.f0 rfl 0 rfl
        have cc := seg_nu RB.out 6 (psB (psA s k) k).f1.f0.f0 rfl 194 rfl
        have fc := row_frozen RB.out 194
        have rc : (wb.setCell ⟨b5, 194, none⟩ (.int .u64 s.f0.f0.f0)).heap[b5]? = _ := row_set RB.out 194 _
        rw [ps_C] at rc
        have RC := hid rc
        clear rc
        go_upto_region 21 with fail
        obtain ⟨wc3, ewc⟩ : ∃ W, wb.setCell ⟨b5, 194, none⟩ (.int .u64 s.f0.f0.f0) = W := ⟨_, rfl⟩
        have kc : Kept b5 w7 wc3 := by rw [← ewc]; exact kb.setCell _ _
        rw [ewc] at RC ⊢
        clear cc0 cc fc ewc kb RB
        obtain ⟨s3, es3⟩ : ∃ q, psC (psB (psA s k) k) s.f0.f0.f0 = q := ⟨_, rfl⟩
        rw [es3] at RC HPG
        clear es3
        have l1 := ps_one RC.out
        have l2 := ps_two RC.out
        have he := eqoH_run wc3 s3.f0.f0 s3.f1.f0 HPG.out.1.1.1 HPG.out.1.2.1
        have cbd := ps_body RC.out
        have fbd := row_frozen RC.out 260
        have KC := hid kc
        obtain ⟨EH, eEH⟩ : ∃ q, eqH s3.f0.f0 s3.f1.f0 = q := ⟨_, rfl⟩
        rw [eEH] at he
        have EEH := hid eEH
        obtain ⟨h1, eh1⟩ : ∃ q, s3.f0.f0 = q := ⟨_, rfl⟩
        obtain ⟨h2, eh2⟩ : ∃ q, s3.f1.f0 = q := ⟨_, rfl⟩
        rw [eh1, eh2] at he
        rw [eh1] at l1
        rw [eh2] at l2 cbd
        have EH2 := hid eh2
        have hbd0 := HPG.out.1.2.1.2.2.2.2 0 (by omega)
        rw [eh2] at hbd0
        obtain ⟨c, ec⟩ : ∃ c, h2.f4 0 = c := ⟨_, rfl⟩
        rw [ec] at cbd hbd0
        have EC := hid ec
        clear kc eEH eh1 eh2 ec
        go_upto_if 110 with fail
        clear l1 l2 he
        go_cut [] from 18 (fun wx => ∃ s4, wx.heap[b5]? = some (.cells (cel (sProposerSlashing s4)) 55) ∧ PsG k s4 ∧ eqH s4.f0.f0 s4.f1.f0 = false ∧ Kept b5 w7 wx)
        case first =>
          cases EH
          · go_wp2
            go_meet
            exact ⟨s3, RC.out, HPG.out, EEH.out, KC.out⟩
          · have hxo := xor_one c hbd0
            obtain ⟨c2, ec2⟩ : ∃ q, bits .xor .u8 c 1 = q := ⟨_, rfl⟩
            rw [ec2] at hxo
            have rd : (wc3.setCell ⟨b5, 260, none⟩ (.int .u8 c2)).heap[b5]? = _ := row_set RC.out 260 _
            rw [ps_D] at rd
            have hg4 : PsG k (psD s3 c2) := by
              obtain ⟨⟨g1, ⟨⟨g2, g3, g4, g5, g6⟩, g7⟩⟩, g8, g9, g10⟩ := HPG.out
              refine ⟨⟨g1, ⟨⟨g2, g3, g4, g5, fun j hj => ?_⟩, g7⟩⟩, g8, g9, g10⟩
              show 0 ≤ (if j = 0 then c2 else s3.f1.f0.f4 j) ∧ (if j = 0 then c2 else s3.f1.f0.f4 j) < 256
              split
              · exact hxo.1
              · exact g6 j hj
            have hne4 : eqH (psD s3 c2).f0.f0 (psD s3 c2).f1.f0 = false := by
              refine eqH_off (fun e => hxo.2 ?_)
              have e1 : s3.f0.f0.f4 0 = c2 := e
              have he1 : eqH s3.f0.f0 s3.f1.f0 = true := EEH.out
              unfold eqH at he1
              simp only [Bool.and_eq_true] at he1
              have e2 := eqR_iff.1 he1.2.2.2.2 0 (by omega)
              rw [e1, EH2.out, EC.out] at e2
              exact e2
            have RD := hid rd
            have HG4 := hid hg4
            have HN4 := hid hne4
            have KD := hid (KC.out.setCell 260 (.int .u8 c2))
            clear rd hg4 hne4 hxo
            go_wp2
            go_meet
            exact ⟨psD s3 c2, RD.out, HG4.out, HN4.out, KD.out⟩
        case rest =>
          obtain ⟨s4, r4, hg4, hne4, hk4⟩ := hcut
          obtain ⟨w8, ew8⟩ : ∃ W, wc = W := ⟨_, rfl⟩
          rw [ew8] at r4 hk4 ⊢
          clear ew8 cbd fbd RC KC EEH EH2 EC HPG RS
          have ry7 := upR HC7.out RY.out
          have ry8 := (hk4.block y7 (some_ltK ry7) (by have := HY7.out; omega)).trans ry7
          have hiy8 : InW w8 Y := (HRZ.out.inw.below HC7.out).kept (HRZ.out.new.aw HW1.out) hk4
          have hokY := okF_sim HRZ.out.sim HOKS.out
          have hRY : rightB Y = true := by rw [rightF HRZ.out.sim]; exact HRS.out
          have hlY := right_lns hRY
          have hkY : k < Y.f11.n := by rw [HMY.out.m11]; exact HK.out
          have hf3 : (Y.f11.z k).f3 = true := by rw [HRZ.out.sim.z11]; exact (slS_v x k).1
          have hcs0 : slaB (Y.f11.z k) (Y.f2 / 4) = false := by unfold slaB; rw [hf3]; rfl
          have hpp := prop18_any Y s4 k w8 hokY hiy8 hlY hRY hg4.1 hg4.2.1 hg4.2.2.1 hg4.2.2.2 hne4 hkY hcs0
          have hlvY : lvS Y k = Y := if_neg (by rw [HRZ.out.sim.z11]; exact HLF.out.1)
          have hqE : lqE Y (k : Int) = 0 := by
            unfold lqE
            rw [hRY, if_pos ⟨rfl, by omega⟩, show ((k : Int)).toNat = k from rfl, hlvY, hRY]
            rfl
          have hqS : lqS Y (k : Int) = Y := by
            unfold lqS
            rw [if_pos hqE, show ((k : Int)).toNat = k from rfl, hlvY]
          have hle8 : ∀ W, Up w8 W → Calls Tryz.prog 9 #[.agg (cel (sState Y)), .int .u64 (k : Int)] W fun e' w' => ∃ Z, e' = .returned (.tuple #[.agg (cel (sState Z)), .int .i64 0]) ∧ Res W.heap.size w' Y Z ∧ Below W.heap.size W w' := fun W h => by
            have := PL.out Y (k : Int) W hokY (hiy8.below h) HRZ.out.nil hlY (by omega)
            rw [hqE, hqS] at this
            exact this
          have ly := lvState_run ry8
          have lp := lvPs_row r4
          have HPP := hid hpp
          have HLE8 := hid hle8
          have RY8 := hid ry8
          have HIY8 := hid hiy8
          have HOKY := hid hokY
          have HU8 : Hid (Up w w8) := (upT HB.out (upT HU5.out HC7.out)).trans (hk4.below (B := w.heap.size) (by have := EB5.out; omega) (upT HB.out (upT HU5.out HC7.out)).size)
          clear r4 hg4 hne4 hk4 ry7 ry8 hiy8 hokY hRY hlY hkY hf3 hcs0 hpp hlvY hqE hqS hle8
          go_upto_region 24 with (go_at_call 8; refine HPP.out.mono ?_; rintro e' w9 ⟨rfl, hb9⟩; have sv := svState_newv w9 oState oState)
          obtain ⟨W9, y13, hV9, ey13, _, hd9, _⟩ := upN2 hb9 (.cells (cel (sState oState)) 49)
          rw [hV9, ey13]
          have hu9 := upT hb9 hd9
          replace ly := lvState_run (upR hu9 RY8.out)
          have HLE9 := hid (HLE8.out W9 hu9)
          have HU9 := hid hu9
          clear hb9 hd9 hV9 ey13 hu9 sv HPP HLE8 lp
          go_upto_region 25 with (go_at_call 9; refine HLE9.out.mono ?_; rintro e' w10 ⟨Z, rfl, hrz, hb10⟩; have sv := svState_newv w10 oState Z; have HRZ2 := hid hrz; have HB10 := hid hb10; clear hrz hb10)
          obtain ⟨W11, y16, hV11, ey16, r16, hd11, _⟩ := upN2 HB10.out (.cells (cel (sState Z)) 49)
          rw [hV11, ey16]
          have hu11 := upT HU9.out (upT HB10.out hd11)
          have hrz := HRZ2.out.below hd11
          have lz := lvState_run r16
          replace ly := lvState_run (upR hu11 RY8.out)
          have hss := rsame_sim Z Y W11 (okF_sim hrz.sim HOKY.out) hrz.inw (HIY8.out.below hu11) hrz.sim.symm
          have HSS := hid hss
          have HUF := hid (upT HU8.out hu11)
          clear hV11 ey16 r16 hd11 hu11 hrz hss sv HLE9 HB10 HRZ2
          go_wp2_with (go_at_call 10; refine HSS.out.mono ?_; rintro e' w12 ⟨rfl, hb12⟩)
          go_ret
          exact ⟨rfl, upT HUF.out hb12⟩
  · have hp2 : (sqE x i != 0) = true := by simp [hz]
    have hsim : sqS x i = oState := by unfold sqS; rw [if_neg hz]
    rw [hsim] at hsl
    obtain ⟨VE, eVE⟩ : ∃ e, sqE x i = e := ⟨_, rfl⟩
    rw [eVE] at hp2 hsl
    have HSL := hid hsl
    clear hB0 hW0 r0 r1 haw hsl hx hw hn hl hs hS pL pS hz hsim eVE
    go_enter Tryz.func3, Tryz.ntmps3
    go_upto_region 1 with fail
    rw [HWo.out]
    clear HWo
    go_upto_region 3 with (go_at_call 4; refine HAW.out.mono ?_; rintro e' w1 ⟨rfl, hb1⟩)
    have lx := lvState_run (upR hb1 R0.out)
    have HSM := hid (HSL.out w1 hb1)
    have HU1 := hid hb1
    clear hb1 HAW HSL
    go_upto_region 4 with (go_at_call 5; refine HSM.out.mono ?_; rintro e' w2 ⟨Y, rfl, hrs, hb2⟩; have sv := svState_newv w2 oState Y; have HB2 := hid hb2; have HRY := hid hrs; clear hrs hb2)
    obtain ⟨V1, y7, hV, ey7, r7, hd7, hy7⟩ := upN2 HB2.out (.cells (cel (sState Y)) 49)
    rw [hV, ey7]
    have c11 := cS11 r7
    rw [show Y.f11.n = 0 from HRY.out.sim.l11] at c11
    have HUF := hid (upT HB.out (upT HU1.out (upT HB2.out hd7)))
    clear hV ey7 r7 hd7 hy7 sv HB2 HRY HSM lx
    go_wp2
    go_ret
    exact ⟨rfl, HUF.out⟩

end Go.Proofs.YtlplmdhlelgihaaGreatDoor
