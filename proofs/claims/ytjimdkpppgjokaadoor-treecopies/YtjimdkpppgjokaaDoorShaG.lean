/-
  What Write does to a digest.
-/
import Derived.Test.YtjimdkpppgjokaaDoorShaF
import Derived.Deep.RegionWith
namespace Go.Proofs.YtjimdkpppgjokaaDoor
open Go.RowKit
set_option linter.unusedVariables false

/-- A load of a whole array, kept whole in the walk. -/
def lv40 (a : Addr) : Sem Value := loadVar 80 a
def lv44 (a : Addr) : Sem Value := loadVar 81 a
theorem lv40_eq (a : Addr) : loadVar 80 a = lv40 a := rfl
theorem lv44_eq (a : Addr) : loadVar 81 a = lv44 a := rfl
attribute [local go_sem ↓] lv40_eq lv44_eq
theorem loadAt_var {P : Program} {ty : TypeId} {a : Addr} {w : World} {v : Value} (h : (Instr.loadAt ty (.pointer (some a))).run P w = .ok v w) : (loadVar ty a).run P w = .ok v w := by
  simpa only [Instr.loadAt, Instr.sureAddr, Sem.run_bind, Sem.run_pure, Result.andThen_ok] using h
theorem lv40_run {w : World} {g : Nat} {s f : Nat → Int} {n : Int} {t : TypeId} (h : w.heap[g]? = some (.cells (dg s f n) t)) : (lv40 ⟨g, 0, none⟩).run Tryd.prog w = .ok (.agg (vs .u32 8 s)) w := loadAt_var (dg_load_words h)
theorem lv44_run {w : World} {g : Nat} {s f : Nat → Int} {n : Int} {t : TypeId} (h : w.heap[g]? = some (.cells (dg s f n) t)) : (lv44 ⟨g, 8, none⟩).run Tryd.prog w = .ok (.agg (vs .u8 64 f)) w := loadAt_var (dg_load_block h)

set_option maxRecDepth 20000 in
set_option maxHeartbeats 2000000 in
theorem write_any (K H m : Nat → Int) (g : Nat) (s f : Nat → Int) (L len cap b0 off : Nat) (w : World) (hd : Dig K H m L s f) (hg : w.heap[g]? = some (.cells (dg s f L) 83)) (hK : Tab w 1 64 K) (hg2 : (1 : Nat) ≠ g)
    (hz : ∀ j, j < len → w.cell? ⟨b0, off + j, none⟩ = some (.int .u8 (m (L + j)))) (hr : ∀ j, j < len → 0 ≤ m (L + j) ∧ m (L + j) < 256) (hb : b0 ≠ g) (hb' : b0 < w.heap.size) (hL : L + len < 4611686018427387904) (hc : len ≤ cap) (hc' : cap ≤ 9223372036854775807) :
    Calls Tryd.prog 40 #[.pointer (some ⟨g, 0, none⟩), .slice (some ⟨b0, off, none⟩) len cap] w fun e w' => e = .returned (.tuple #[]) ∧ Kept g w w' ∧ ∃ s' f', Dig K H m (L + len) s' f' ∧ w'.heap[g]? = some (.cells (dg s' f' ((L + len : Nat) : Int)) 83) := by
  have HD := hid hd
  have HG := hid hg
  have HK := hid hK
  have HZ := hid hz
  have HR := hid hr
  clear hd hg hK hz hr
  go_enter Tryd.func40, Tryd.ntmps40
  go_wp2
  go_loopw [1] (fun b wr => ∃ (k : Nat) (s f : Nat → Int) (A : Addr), k ≤ len ∧ b = .slice (some A) (len - k) (cap - k) ∧ (k < len → A = ⟨b0, off + k, none⟩) ∧ Dig K H m (L + k) s f ∧ wr.heap[g]? = some (.cells (dg s f ((L + k : Nat) : Int)) 83) ∧ Kept g w wr) (fun b _ => match b with | .slice _ n _ => n | _ => 0)
  case atStart => exact ⟨0, s, f, _, Nat.zero_le _, rfl, fun _ => rfl, HD.out, HG.out, Kept.refl _ _⟩
  case round =>
    clear HD HG
    obtain ⟨k, s, f, A, hk, rfl, hA, hd, hg, hkept⟩ := hrel
    by_cases hlt : k < len
    · have hA := hA hlt
      subst hA
      obtain ⟨N, eN⟩ : ∃ N, N = L + k := ⟨_, rfl⟩
      obtain ⟨p, ep⟩ : ∃ p, p = N % 64 := ⟨_, rfl⟩
      obtain ⟨M, eM⟩ : ∃ M, M = len - k := ⟨_, rfl⟩
      obtain ⟨C, eC⟩ : ∃ C, C = cap - k := ⟨_, rfl⟩
      rw [← eN] at hd hg
      rw [← eM, ← eC]
      have cl := row_cell hg 72
      rw [dg_len] at cl
      have HD := hid hd
      have HG := hid hg
      have HKP := hid hkept
      have b1 : (0 : Int) ≤ (p : Int) := by omega
      have b2 : (p : Int) < 64 := by omega
      have b3 : (p : Int) ≤ 64 := by omega
      have b4 : (0 : Int) < (M : Int) := by omega
      have r1 : (N : Int).tmod 64 = (p : Int) := by rw [Int.tmod_eq_emod_of_nonneg (by omega)]; omega
      have r2 : IntKind.u64.wrap (p : Int) = (p : Int) := by rw [IntKind.wrap_u64]; omega
      have r3 : (N : Int) % 64 = (p : Int) := by omega
      have HE := hid (And.intro eN (And.intro ep (And.intro eM eC)))
      clear hd hg hkept eN ep eM eC
      obtain ⟨c, ec⟩ : ∃ c, c = Nat.min M (64 - p) := ⟨_, rfl⟩
      have hcM : c ≤ M := by rw [ec]; exact Nat.min_le_left _ _
      have hcp' : c ≤ 64 - p := by rw [ec]; exact Nat.min_le_right _ _
      have hcp : p + c ≤ 64 := by omega
      have np : ¬ 64 = p := by omega
      have hc0 : 0 < c := by rw [ec]; exact Nat.lt_min.2 ⟨by omega, by omega⟩
      have hx : ∀ j, j < c → wr.cell? ((⟨b0, off + k, none⟩ : Addr).add j) = some (.int .u8 ((fun j => m (N + j)) j)) := by
        intro j hj
        obtain ⟨eN, ep, eM, eC⟩ := HE.out
        rw [Addr.add_mid, HKP.out.cell hb' hb, show off + k + j = off + (k + j) by omega, HZ.out (k + j) (by omega), eN, show L + (k + j) = L + k + j by omega]
      have hcopy := copy_in wr.drew g s f (fun j => m (N + j)) N p c ⟨b0, off + k, none⟩ M C (64 - p) HG.out hcp ec hx
      have HC := hid hcopy
      have HEC := hid ec
      clear hcopy hx ec
      go_wp2
      go_region_held3 (fun w' => w'.cell? ⟨g, 72, none⟩ = some (.int .u64 N)) (first | exact cl | exact ((row_cell (setRow_at (w := wr.drew) HG.out) 72).trans (dg_len _ _ _))) ((refine step_copy_is (by rfl) _ _ 75 75 (by rfl) _ _ _ _ (by rfl) (by rfl) HC.out ?_))
      obtain ⟨f1, ef⟩ : ∃ f1, f1 = over f (fun j => m (N + j)) p c := ⟨_, rfl⟩
      obtain ⟨W1, hW⟩ : ∃ W, W = wr.drew.setRow g (dg s (over f (fun j => m (N + j)) p c) N) := ⟨_, rfl⟩
      rw [← hW]
      have hg1 : W1.heap[g]? = some (.cells (dg s f1 N) 83) := by rw [hW, ef]; exact setRow_at (w := wr.drew) HG.out
      have hk1 : Kept g w W1 := by rw [hW]; exact (HKP.out.drew).setRow _
      have c72 := row_cell hg1 72
      rw [dg_len] at c72
      have f72 := row_frozen hg1 72
      have HG1 := hid hg1
      have HK1 := hid hk1
      have HF := hid ef
      clear cl HC hW hg1 hk1 ef
      have s1 : (c : Int) ≤ (M : Int) := by omega
      have s2 : (0 : Int) ≤ (c : Int) := by omega
      have s3 : (M : Int) ≤ (C : Int) := by have := HE.out; omega
      have s4 : (N : Int) + (c : Int) < 4611686018427387904 := by have := HE.out; omega
      clear hA
      go_upto_region 4 with fail
      obtain ⟨A', hA', hA2⟩ : ∃ A : Addr, (if C = c then some (⟨b0, off + k, none⟩ : Addr) else some ⟨b0, off + k + c, none⟩) = some A ∧ (c < M → A = ⟨b0, off + k + c, none⟩) := by
        by_cases hCc : C = c
        · rw [if_pos hCc]; exact ⟨_, rfl, fun h => absurd h (by omega)⟩
        · rw [if_neg hCc]; exact ⟨_, rfl, fun _ => rfl⟩
      rw [hA']
      have HA := hid hA2
      clear hA' hA2
      obtain ⟨W2, hW2⟩ : ∃ W, W = W1.setCell ⟨g, 72, none⟩ (.int .u64 ((N : Int) + (c : Int))) := ⟨_, rfl⟩
      have hg2' : W2.heap[g]? = some (.cells (dg s f1 ((N : Int) + (c : Int))) 83) := by
        rw [hW2]
        refine (row_set HG1.out 72 _).trans ?_
        rw [dg_setLen]
      have hk2 : Kept g w W2 := by rw [hW2]; exact HK1.out.setCell 72 _
      have HG2 := hid hg2'
      have HKP2 := hid hk2
      have HR2 := hid hW2
      clear hg2' hk2 hW2
      by_cases hfull : p + c = 64
      · have q1 : ((N : Int) + (c : Int)) % 64 = 0 := by have := HE.out; omega
        have hD := HD.out.full (z := fun j => m (N + j)) c (by have := HE.out; omega) (fun j hj => rfl) (fun j hj => by have h := HE.out; have := HR.out (k + j) (by omega); rw [show L + (k + j) = N + j by omega] at this; exact this)
        go_wp2
        rw [← HR2.out]

        have HFB : Hid (∀ i, i < 64 → 0 ≤ f1 i ∧ f1 i < 256) := by rw [HF.out]; have h := HE.out; rw [h.2.1]; exact hD.range
        have HSB := hid HD.out.bd
        have HK2 : Hid (Tab W2.drew 1 64 K) := HKP2.out.tab HK.out hg2
        have HGL : Hid (g < W2.drew.heap.size) := by
          show g < W2.heap.size
          exact (Array.getElem?_eq_some_iff.1 HG2.out).1
        have x0 := (row_cell HG2.out 0).trans (dg_word s f1 _ 0 (by omega))
        have x1 := (row_cell HG2.out 1).trans (dg_word s f1 _ 1 (by omega))
        have x2 := (row_cell HG2.out 2).trans (dg_word s f1 _ 2 (by omega))
        have x3 := (row_cell HG2.out 3).trans (dg_word s f1 _ 3 (by omega))
        have x4 := (row_cell HG2.out 4).trans (dg_word s f1 _ 4 (by omega))
        have x5 := (row_cell HG2.out 5).trans (dg_word s f1 _ 5 (by omega))
        have x6 := (row_cell HG2.out 6).trans (dg_word s f1 _ 6 (by omega))
        have x7 := (row_cell HG2.out 7).trans (dg_word s f1 _ 7 (by omega))
        have l40 := lv40_run (w := W2.drew) HG2.out
        have l44 := lv44_run (w := W2.drew) HG2.out
        have HDD := hid hD
        clear hD x0 x1 x2 x3 x4 x5 x6 x7
        go_region_with (go_at_call 46; refine (after_any K f1 s _ HFB.out HSB.out (HK2.out)).mono ?_; rintro e w1 ⟨rfl, hb1⟩; rw [vs8]; have hg3 := (hb1.block g HGL.out).trans HG2.out; have y0 := (row_cell hg3 0).trans (dg_word s f1 _ 0 (by omega)); have z0 := row_frozen hg3 0; have y1 := (row_cell hg3 1).trans (dg_word s f1 _ 1 (by omega)); have z1 := row_frozen hg3 1; have y2 := (row_cell hg3 2).trans (dg_word s f1 _ 2 (by omega)); have z2 := row_frozen hg3 2; have y3 := (row_cell hg3 3).trans (dg_word s f1 _ 3 (by omega)); have z3 := row_frozen hg3 3; have y4 := (row_cell hg3 4).trans (dg_word s f1 _ 4 (by omega)); have z4 := row_frozen hg3 4; have y5 := (row_cell hg3 5).trans (dg_word s f1 _ 5 (by omega)); have z5 := row_frozen hg3 5; have y6 := (row_cell hg3 6).trans (dg_word s f1 _ 6 (by omega)); have z6 := row_frozen hg3 6; have y7 := (row_cell hg3 7).trans (dg_word s f1 _ 7 (by omega)); have z7 := row_frozen hg3 7)
        all_goals
          go_wp2
          obtain ⟨eN, ep, eM, eC⟩ := HE.out
          refine ⟨⟨k + c, comp K f1 s, f1, A', by omega, ?_, fun h => ?_, ?_, ?_, ?_⟩, ?_⟩
          · rw [eM, eC, Nat.sub_sub, Nat.sub_sub]
          · rw [HA.out (by omega)]
            congr 1
            omega
          · rw [HF.out, ep, show L + (k + c) = N + c by omega]
            exact HDD.out
          · rw [show ((L + (k + c) : Nat) : Int) = (N : Int) + (c : Int) by omega]
            exact (row8' hg3 _ _ _ _ _ _ _ _).trans (congrArg (fun c => some (Obj.cells c 83)) (dg_set8 s f1 (comp K f1 s) _ _ _ _ _ _ _ _ _ rfl rfl rfl rfl rfl rfl rfl rfl))
          · exact (((((((((HKP2.out.drew).trans (Kept.ofBelow hb1)).setCell 0 _).setCell 1 _).setCell 2 _).setCell 3 _).setCell 4 _).setCell 5 _).setCell 6 _).setCell 7 _
          · show M - c < M
            omega
      · have q1 : (((N : Int) + (c : Int)) % 64 == 0) = false := by have := HE.out; simp; omega
        have hD := HD.out.part (z := fun j => m (N + j)) c (by have := HE.out; omega) (fun j hj => rfl) (fun j hj => by have h := HE.out; have := HR.out (k + j) (by omega); rw [show L + (k + j) = N + j by omega] at this; exact this)
        have HDD := hid hD
        clear hD
        go_wp2
        rw [← HR2.out]
        obtain ⟨eN, ep, eM, eC⟩ := HE.out
        refine ⟨⟨k + c, s, f1, A', by omega, ?_, fun h => ?_, ?_, ?_, HKP2.out⟩, ?_⟩
        · rw [eM, eC, Nat.sub_sub, Nat.sub_sub]
        · rw [HA.out (by omega)]
          congr 1
          omega
        · rw [HF.out, ep, show L + (k + c) = N + c by omega]
          exact HDD.out
        · rw [show ((L + (k + c) : Nat) : Int) = (N : Int) + (c : Int) by omega]
          exact HG2.out
        · show M - c < M
          omega
    · go_wp2
      have ek : k = len := by omega
      subst ek
      refine bodyPost_end (results_none rfl _ _ _) rfl ?_
      exact ⟨rfl, hkept, s, f, hd, hg⟩

end Go.Proofs.YtjimdkpppgjokaaDoor
