/-
  What the reference's Next answers.
-/

import Derived.Test.YtpabbglbaimadaaDoorPkC
import Derived.Test.YtpabbglbaimadaaDoorPkG
import Derived.Test.YtpabbglbaimadaaDoorPkE
namespace Go.Proofs.YtpabbglbaimadaaDoor

open Go.RowKit

set_option linter.unusedVariables false

set_option linter.unusedSimpArgs false

set_option maxRecDepth 20000

theorem put_ints : ∀ (cs : List Int) (N o : Nat) (F : Nat → Int), putL (vs .u8 N F) o (cs.map (Value.int .u8)) = vs .u8 N (fun j => if o ≤ j ∧ j < o + cs.length then cs.getD (j - o) 0 else F j)
  | [], N, o, F => vs_congr fun j hj => by rw [if_neg (by simp)]
  | c :: cs, N, o, F => by
    show putL ((vs .u8 N F).setIfInBounds o (.int .u8 c)) (o + 1) (cs.map (Value.int .u8)) = _
    rw [vs_set, put_ints cs N (o + 1)]
    refine vs_congr fun j hj => ?_
    simp only [List.length_cons]
    by_cases h1 : j = o
    · subst h1
      rw [if_neg (by omega), if_pos rfl, if_pos (by omega), Nat.sub_self]
      rfl
    · by_cases h2 : o + 1 ≤ j ∧ j < o + 1 + cs.length
      · rw [if_pos h2, if_pos (by omega), show j - o = (j - (o + 1)) + 1 by omega]
        rfl
      · rw [if_neg h2, if_neg h1, if_neg (by omega)]

theorem put_bl (N o k : Nat) (F c : Nat → Int) : putL (vs .u8 N F) o (bl c k) = vs .u8 N (fun j => if o ≤ j ∧ j < o + k then c (j - o) else F j) := by
  have e : bl c k = ((List.range k).map c).map (Value.int .u8) := by unfold bl; rw [List.map_map]; rfl
  rw [e, put_ints]
  refine vs_congr fun j hj => ?_
  rw [List.length_map, List.length_range]
  by_cases h : o ≤ j ∧ j < o + k
  · rw [if_pos h, if_pos h, List.getD_eq_getElem?_getD, List.getElem?_map, List.getElem?_range (by omega)]
    rfl
  · rw [if_neg h, if_neg h]

/-- A committee's cells. -/
theorem cel_C (c : VCommittee) : cel (sCommittee c) = vs .u8 432 (fun j => if j < 384 then c.f0.f0 j else c.f1 (j - 384)) := by
  apply Array.ext'
  rw [vs_list]
  show (List.range 384).map _ ++ ((List.range 48).map _ ++ []) = _
  have h1 : (List.range 384).map (fun j => Value.int .u8 (c.f0.f0 j)) = (List.range 384).map (fun j => Value.int .u8 (if j < 384 then c.f0.f0 j else c.f1 (j - 384))) := List.map_congr_left fun j hj => by rw [if_pos (List.mem_range.1 hj)]
  have h2 : (List.range 48).map (fun j => Value.int .u8 (c.f1 j)) = (List.range 48).map ((fun j => Value.int .u8 (if j < 384 then c.f0.f0 j else c.f1 (j - 384))) ∘ fun j => 384 + j) := List.map_congr_left fun j hj => by
    show _ = Value.int .u8 (if 384 + j < 384 then _ else _)
    rw [if_neg (by omega), show 384 + j - 384 = j by omega]
  have h3 : bl (fun j => if j < 384 then c.f0.f0 j else c.f1 (j - 384)) 432 = (List.range 384).map (fun j => Value.int .u8 (if j < 384 then c.f0.f0 j else c.f1 (j - 384))) ++ (List.range 48).map ((fun j => Value.int .u8 (if j < 384 then c.f0.f0 j else c.f1 (j - 384))) ∘ fun j => 384 + j) := by
    unfold bl
    rw [show (432 : Nat) = 384 + 48 from rfl, List.range_add, List.map_append, List.map_map]
  refine Eq.trans ?_ h3.symm
  rw [List.append_nil, ← h1, ← h2]
  rfl

theorem lvC_run {w : World} {b : Nat} {c : VCommittee} {t : TypeId} (h : w.heap[b]? = some (.cells (cel (sCommittee c)) t)) : (lvCommittee ⟨b, 0, none⟩).run Tryd.prog w = .ok (.agg (cel (sCommittee c))) w :=
  loadAt_var (load_row h 47 _ Tryd.underlying47 rfl (by rw [cel_size, slCommittee]; kernel_rfl))

theorem lvKy_mid {w : World} {b o : Nat} {c : Nat → Int} (h : ∀ j, j < 48 → w.cell? ⟨b, o + j, none⟩ = some (.int .u8 (c j))) : (lvKy ⟨b, o, none⟩).run Tryd.prog w = .ok (.agg (vs .u8 48 c)) w := by
  have hr : w.rangeAt b o ((List.range 48).map fun i => Value.int .u8 (c i)) := by
    intro j v hj
    have hlt : j < 48 := by
      have := (List.getElem?_eq_some_iff.1 hj).1
      simpa using this
    rw [h j hlt]
    simp [hlt] at hj
    rw [hj]
  exact loadAt_var (run_loadAt_mid w b o 44 _ _ hr Tryd.underlying44 rfl (by rw [List.length_map, List.length_range]; kernel_rfl))

theorem svKy_mid {w : World} {b : Nat} {C : Array Value} {t : TypeId} (h : w.heap[b]? = some (.cells C t)) (o : Nat) (c : Nat → Int) (hn : o + 48 ≤ C.size) :
    (svKy ⟨b, o, none⟩ (.agg (vs .u8 48 c))).run Tryd.prog w = .ok () (w.setCells b o (bl c 48)) := by
  have h1 := run_storeVar_mid (P := Tryd.prog) w b o 44 (vs .u8 48 c) (by rw [vs_size]; exact there_row h o 48 hn) (by rw [vs_size]; kernel_rfl) (vs_one _ _ _)
  rw [vs_list] at h1
  exact h1

def bdC15 (ps : Array (Nat × Value)) : Sem Value := Instr.build 47 ps

theorem bdC15_eq (ps : Array (Nat × Value)) : Instr.build 47 ps = bdC15 ps := rfl

theorem bdC15_0 (W : World) : (bdC15 #[]).run Tryd.prog W = .ok (.agg (cel (sCommittee oCommittee))) W := by kernel_rfl

theorem seg_by0 (N : Nat) (f : Nat → Int) (l : List Seg) (j : Nat) (h : j < N) : (celL (.by N f :: l))[j]? = some (.int .u8 (f j)) := by
  show ((List.range N).map (fun i => Value.int .u8 (f i)) ++ celL l)[j]? = _
  rw [List.getElem?_append_left (by rw [List.length_map, List.length_range]; exact h), List.getElem?_map, List.getElem?_range h]
  rfl

def ix45 (x i : Value) : Sem Value := Instr.indexAt 45 x i

theorem ix45_eq (x i : Value) : Instr.indexAt 45 x i = ix45 x i := rfl

theorem ix45_run (w : World) (g o k : Nat) (h : k < 8) : (ix45 (.pointer (some ⟨g, o, none⟩)) (.int .i64 k)).run Tryd.prog w = .ok (.pointer (some ⟨g, o + 48 * k, none⟩)) w := by
  unfold ix45 Instr.indexAt
  have h1 : (0 : Int) ≤ (k : Int) ∧ (k : Int) < 8 := by omega
  simp only [asIntOf, Sem.run_bind, Sem.run_pure, Result.andThen_ok, run_underlying Tryd.underlying45]
  simp [h1.2, sizeKy, Instr.sureAddr, asAddr, addr_add, Nat.mul_comm]

theorem below_cells {B b : Nat} {w0 w : World} (hb : Below B w0 w) (hB : B ≤ b) : ∀ (l : List Value) (o : Nat), Below B w0 (w.setCells b o l) := by
  intro l
  induction l generalizing w with
  | nil => exact fun o => hb
  | cons v l ih => exact fun o => ih (hb.setCell (p := ⟨b, o, none⟩) hB v) (o + 1)

/-- The keys of the next committee, and that committee. -/
def kyF (x : VState) (j : Nat) : Int := (x.f11.z ((syL x).getD (j / 48) 0).toNat).f0 (j % 48)

def nxC (x : VState) : VCommittee := if syE x = 0 then ⟨⟨kyF x⟩, smV (kyF x) 8⟩ else oCommittee

def NxA (x : VState) (w : World) (e' : Ending) (w' : World) : Prop := e' = .returned (.tuple #[.agg (cel (sCommittee (nxC x))), .int .i64 (syE x)]) ∧ Below w.heap.size w w'

theorem sy_one (x : VState) : (syE x = 0 ∧ (syL x).length = 8 ∧ ∀ j, j < 8 → ∃ V : Nat, (syL x).getD j 0 = (V : Int) ∧ V < x.f11.n) ∨ (syE x = 7 ∧ syL x = []) := by
  rcases dw_one x.f11.z (acE x (x.f2 / 4 + 1)) (seedV x (x.f2 / 4 + 1) 7) 8 with ⟨h1, h2, h3⟩ | h
  · refine .inl ⟨h1, h2, fun j hj => ?_⟩
    have h4 := h3 _ (getD_mem (syL x) j (by show j < (dwL x.f11.z (acE x (x.f2 / 4 + 1)) (seedV x (x.f2 / 4 + 1) 7) 8).length; omega))
    obtain ⟨q0, q1, _⟩ := (acL_mem _ _ _ _).1 h4
    exact ⟨((syL x).getD j 0).toNat, by omega, by omega⟩
  · exact .inr h

attribute [local go_sem ↓] lvState_eq svState_eq bdState_eq lvValidator_eq svValidator_eq ixValidator_eq lvCommittee_eq svCommittee_eq bdC15_eq ixKy_eq lvKy_eq svKy_eq ix45_eq

set_option maxHeartbeats 4000000 in
theorem rnext_any (x : VState) (w : World) (ho : OkState x) (hx : Lk w x) (hC : Tab w 1 64 KW) :
    Calls Tryd.prog 15 #[.agg (cel (sState x))] w (NxA x w) := by
  obtain ⟨W0, hW0⟩ : ∃ W, (w.alloc (.cells (cel (sState x)) 49)).alloc (.cells (cel (sCommittee oCommittee)) 47) = W := ⟨_, rfl⟩
  have r0 : W0.heap[w.heap.size]? = some (.cells (cel (sState x)) 49) := by rw [← hW0]; exact (heap_old (by simp)).trans (heap_new rfl)
  have r1 : W0.heap[w.heap.size + 1]? = some (.cells (cel (sCommittee oCommittee)) 47) := by rw [← hW0]; exact heap_new (by simp)
  have hB0 : Below w.heap.size w W0 := by rw [← hW0]; exact ((Below.refl _ _).alloc (Nat.le_refl _) _).alloc (by simp) _
  have z1 : w.heap.size + 1 < W0.heap.size := (Array.getElem?_eq_some_iff.1 r1).1
  have l0 : (lvState ⟨w.heap.size, 0, none⟩).run Tryd.prog W0 = .ok (.agg (cel (sState x))) W0 := lvState_run r0
  have hx0 := hx.below hB0
  have hC0 := hC.below hB0
  have hsy := rsync_any x W0 ho hx0 hC0
  have hcs : ∀ W : World, Below W0.heap.size W0 W → W.cell? ⟨w.heap.size, 721, none⟩ = some (.slice x.f11.a x.f11.n x.f11.c) := fun W h => cS11 ((h.block _ (by omega)).trans r0)
  have hel := hx0.el
  have hnb := hx.nb
  have zc := zeroCommittee
  have bc := bdC15_0
  have h1 := sy_one x
  have HB := hid hB0
  have HW := hid hW0
  have HR1 := hid r1
  rcases h1 with ⟨hE, hL, hV⟩ | ⟨hE, hL⟩
  · have hN : nxC x = ⟨⟨kyF x⟩, smV (kyF x) 8⟩ := by unfold nxC; rw [if_pos hE]
    unfold NxA
    rw [hN, hE]
    rw [hE, hL] at hsy
    have hkf : ∀ j, kyF x j = (x.f11.z ((syL x).getD (j / 48) 0).toNat).f0 (j % 48) := fun _ => rfl
    have hkb : ∀ j, j < 384 → 0 ≤ kyF x j ∧ kyF x j < 256 := fun j hj => by
      obtain ⟨V, e1, e2⟩ := hV (j / 48) (by omega)
      rw [hkf, e1, Int.toNat_natCast]
      exact (ho.o11 V e2).1 (j % 48) (Nat.mod_lt _ (by omega))
    have hsm : ∀ (W : World) y, Below W0.heap.size W0 W → Kys W (some ⟨y, 0, none⟩) 8 8 (kyF x) → Calls Tryd.prog 18 #[.slice (some ⟨y, 0, none⟩) 8 8] W fun e' w' => e' = .returned (.agg (vs .u8 48 (smV (kyF x) 8))) ∧ Below W.heap.size W w' := fun W y h hk => rsumK_any (some ⟨y, 0, none⟩) 8 8 (kyF x) W hk hkb (by omega) (hC0.below h)
    generalize smV (kyF x) 8 = SM at hsm ⊢
    generalize kyF x = KF at hkf hsm ⊢
    generalize syL x = SL at hsy hL hV hkf
    generalize x.f11.a = A at hcs hel
    generalize x.f11.n = n at hcs hel hV hnb
    generalize x.f11.c = C at hcs
    generalize x.f11.z = z at hel hkf
    have HSY := hid hsy
    have HCC := hid hcs
    have HEL := hid hel
    have HV := hid hV
    have HKF := hid hkf
    have HSM := hid hsm
    have HSL := hid hL
    clear hsy hcs hel hV hkf hkb hsm hL hx hx0 ho hC hC0 r0 r1 hB0 hW0 hN hE
    go_enter Tryd.func15, Tryd.ntmps15
    go_upto_region 1 with fail
    rw [HW.out]
    clear HW
    go_upto_region 4 with (go_at_call 13; refine HSY.out.mono ?_; rintro e' w1 ⟨a1, c1, rfl, hn1, hb1⟩)
    obtain ⟨W2, hW2⟩ : ∃ W, w1.alloc (.cells (cel (sCommittee oCommittee)) 47) = W := ⟨_, rfl⟩
    have r2 : W2.heap[w1.heap.size]? = some (.cells (vs .u8 432 fun _ => 0) 47) := by
      rw [← hW2, heap_new rfl, cel_C]
      exact congrArg (fun c => some (Obj.cells c 47)) (vs_congr fun j hj => by split <;> rfl)
    have hB2 : Below w1.heap.size w1 W2 := by rw [← hW2]; exact (Below.refl _ _).alloc (Nat.le_refl _) _
    have HW2 := hid hW2
    have H2 := hid (And.intro r2 hB2)
    have HN1 := hid hn1
    have HB1 := hid hb1
    clear hW2 r2 hB2 hn1 hb1 HSY l0
    go_upto_region 5 with fail
    rw [HW2.out]
    obtain ⟨y6, e6⟩ : ∃ y, w1.heap.size = y := ⟨_, rfl⟩
    have E6 := hid e6
    rw [e6] at H2 ⊢
    clear HW2 e6 zc bc
    go_wp2
    go_loopg [7] 9 (fun k c wr => ∃ i : Nat, c = .int .i64 i ∧ i ≤ 8 ∧ 8 - i < k ∧ wr.heap[y6]? = some (.cells (vs .u8 432 fun j => if j < 48 * i then KF j else 0) 47) ∧ Below w1.heap.size w1 wr)
    case atStart => exact ⟨0, rfl, by omega, by omega, by rw [H2.out.1]; exact congrArg (fun c => some (Obj.cells c 47)) (vs_congr fun j hj => by rw [if_neg (by omega)]), by rw [E6.out]; exact H2.out.2⟩
    case round =>
      clear H2
      obtain ⟨i, rfl, hi, hk, hr, hw⟩ := hrel
      have hwW : Below W0.heap.size W0 wr := HB1.out.trans (hw.mono HB1.out.size)
      by_cases h8 : i < 8
      · have h8z : (i : Int) < 8 := by omega
        obtain ⟨V, eV, hVn⟩ := HV.out i h8
        rcases HEL.out with h0 | ⟨b, off, ea, hbl, hc⟩
        · omega
        rcases HN1.out with h0 | ⟨b1, o1, ea1, hbl1, hc1⟩
        · have := HSL.out; omega
        subst ea ea1
        have hup : ∀ W : World, Below w1.heap.size w1 W → Below W0.heap.size W0 W := fun W h => HB1.out.trans (h.mono HB1.out.size)
        have hcs : ∀ W : World, Below w1.heap.size w1 W → W.cell? ⟨w.heap.size, 721, none⟩ = some (.slice (some ⟨b, off, none⟩) n C) := fun W h => HCC.out W (hup W h)
        have hcl : ∀ W : World, Below w1.heap.size w1 W → W.cell? ⟨b1, o1 + i, none⟩ = some (.int .u64 (V : Int)) := fun W h => by rw [← eV]; exact (below_cell h hbl1).trans (hc1 i (by rw [HSL.out]; exact h8))
        have hdr : Below w1.heap.size w1 wr.drew := hw.drew
        have hix := fun W => ixValidator_u W b off n C V hVn
        have hi5 := fun W => ix45_run W y6 0 i h8
        rw [Nat.zero_add] at hi5
        have hlk : ∀ W : World, Below w1.heap.size w1 W → (lvKy ⟨b, off + 86 * V, none⟩).run Tryd.prog W = .ok (.agg (vs .u8 48 (z V).f0)) W := fun W h => lvKy_mid fun j hj => (rangeAt_below (hc V hVn) hbl (hup W h)) j _ (by
          show (celL (sValidator (z V)))[j]? = _
          exact seg_by0 _ _ _ j hj)
        have hsk := svKy_mid (w := wr.drew) hr (48 * i) (z V).f0 (by rw [vs_size]; omega)
        have hrow : ((wr.drew).setCells y6 (48 * i) (bl (z V).f0 48)).heap[y6]? = some (.cells (vs .u8 432 fun j => if j < 48 * (i + 1) then KF j else 0) 47) := by
          rw [setCells_row _ _ (show wr.drew.heap[y6]? = _ from hr), put_bl]
          refine congrArg (fun c => some (Obj.cells c 47)) (vs_congr fun j hj => ?_)
          by_cases h : 48 * i ≤ j ∧ j < 48 * i + 48
          · rw [if_pos h, if_pos (by omega), HKF.out, show j / 48 = i by omega, eV, Int.toNat_natCast, show j - (48 * i) = j % 48 by omega]
          · rw [if_neg h]
            by_cases h' : j < 48 * i
            · rw [if_pos h', if_pos (by omega)]
            · rw [if_neg h', if_neg (by omega)]
        have hbe : Below w1.heap.size w1 ((wr.drew).setCells y6 (48 * i) (bl (z V).f0 48)) := below_cells hw.drew (by rw [E6.out]; exact Nat.le_refl _) _ _
        have HCS := hid hcs
        have HCL := hid hcl
        have HIX := hid hix
        have HI5 := hid hi5
        have HLK := hid hlk
        have HDR := hid hdr
        have HSK := hid hsk
        have HRW := hid (And.intro hrow hbe)
        obtain ⟨O, eO⟩ : ∃ O, off + 86 * V = O := ⟨_, rfl⟩
        rw [eO] at HLK
        simp only [eO] at HIX
        clear hcs hcl hix hi5 hlk hsk hrow hbe hr hw hwW hc hbl hc1 hbl1 eV eO hup hdr
        go_upto_region 8 with fail
        refine wp_region_noPanic ?_
        refine wp_region_held_drew (S := fun W => Below w1.heap.size w1 W) (by kernel_rfl) (HDR.out) (fun hHeld => ?_)
        refine tk 0 (v := ?v813) ?y813 hHeld ?r813
        case y813 => intro w hSw; go_simp; try with_reducible rfl
        refine tk 1 (v := ?v814) ?y814 hHeld ?r814
        case y814 => intro w hSw; go_simp; try with_reducible rfl
        refine tk 2 (v := ?v815) ?y815 hHeld ?r815
        case y815 => intro w hSw; have ld := HCS.out w hSw; go_simp; try with_reducible rfl
        refine tk 3 (v := ?v816) ?y816 hHeld ?r816
        case y816 => intro w hSw; go_simp; try with_reducible rfl
        refine tk 4 (v := ?v817) ?y817 hHeld ?r817
        case y817 => intro w hSw; go_simp; try with_reducible rfl
        refine tk 5 (v := ?v818) ?y818 hHeld ?r818
        case y818 => intro w hSw; go_simp; try with_reducible rfl
        refine tk 6 (v := ?v819) ?y819 hHeld ?r819
        case y819 => intro w hSw; have ld := HCL.out w hSw; go_simp; try with_reducible rfl
        refine tk 7 (v := ?v820) ?y820 hHeld ?r820
        case y820 => intro w hSw; have ld := HIX.out w; go_simp; try with_reducible rfl
        refine tk 8 (v := ?v821) ?y821 hHeld ?r821
        case y821 => intro w hSw; go_simp; try with_reducible rfl
        refine tk 9 (v := ?v822) ?y822 hHeld ?r822
        case y822 => intro w hSw; have ld := HLK.out w hSw; go_simp; try with_reducible rfl
        refine tk 10 (v := ?v823) ?y823 hHeld ?r823
        case y823 => intro w hSw; go_simp; try with_reducible rfl
        refine tk 11 (v := ?v824) ?y824 hHeld ?r824
        case y824 => intro w hSw; have ld := HI5.out w; go_simp; try with_reducible rfl
        try simp only [Act.put, List.setIfInBounds_toArray, List.set_cons_zero, List.set_cons_succ, Array.toArray_toList, List.getElem_toArray, List.getElem_cons_zero, List.getElem_cons_succ]
        refine wpAnyH_ready (rs := [12]) (by kernel_rfl) (by simp) ?_
        refine AllReadyH.cons rfl (fun K hK => ?_) AllReadyH.nil
        have sk := HSK.out
        go_simp
        refine hK.out _ _ (HRW.out.2) (fun hHeld => ?_)
        clear hK K
        try simp only [Act.put, List.setIfInBounds_toArray, List.set_cons_zero, List.set_cons_succ, Array.toArray_toList, List.getElem_toArray, List.getElem_cons_zero, List.getElem_cons_succ]
        refine wpAnyH_done (by kernel_rfl) ?_ _
        refine NoPanic.normal ?_
        go_wp2
        go_roundg (8 - i)
        case measure => omega
        case rel => exact ⟨i + 1, by simp, by omega, by omega, HRW.out.1, HRW.out.2⟩
      · obtain rfl : i = 8 := by omega
        have hky : Kys wr (some ⟨y6, 0, none⟩) 8 8 KF := .inr (.inr ⟨y6, 0, rfl, by omega, (Array.getElem?_eq_some_iff.1 hr).1, fun j hj => by
          rw [Nat.zero_add, row_int hr j (by omega), if_pos (by omega)]⟩)
        have hsm := HSM.out wr y6 hwW hky
        have HSS := hid hsm
        have HRR := hid hr
        have HWW := hid hwW
        clear hky hsm hr hw hwW HSM HKF HV HCC HEL HN1 hk
        go_upto_region 10 with (go_at_call 18; refine HSS.out.mono ?_; rintro e' w3 ⟨rfl, hb3⟩; have r3 := (hb3.block _ (Array.getElem?_eq_some_iff.1 HRR.out).1).trans HRR.out; have sk := svKy_mid r3 384 SM (by rw [vs_size]; omega))
        have r4 := setCells_row (bl SM 48) 384 r3
        rw [put_bl, show (vs .u8 432 fun j => if 384 ≤ j ∧ j < 384 + 48 then SM (j - 384) else if j < 48 * 8 then KF j else 0) = cel (sCommittee ⟨⟨KF⟩, SM⟩) from by
          rw [cel_C]
          refine vs_congr fun j hj => ?_
          by_cases h : j < 384
          · rw [if_neg (by omega), if_pos (by omega)]
            exact (if_pos h).symm
          · rw [if_pos (by omega)]
            exact (if_neg h).symm] at r4
        have hz3 := (Array.getElem?_eq_some_iff.1 r3).1
        have hB3 : Below W0.heap.size W0 (w3.setCells y6 384 (bl SM 48)) := below_cells (HWW.out.trans (hb3.mono HWW.out.size)) (by have := HB1.out.size; have := E6.out; omega) _ _
        generalize w3.setCells y6 384 (bl SM 48) = W4 at r4 hB3 ⊢
        have lc := lvC_run r4
        have r1 := (hB3.block _ z1).trans HR1.out
        have sc := svCommittee_run r1 (⟨⟨KF⟩, SM⟩ : VCommittee)
        have H4 := hid (And.intro r1 hB3)
        clear r4 r1 hB3 r3 sk hb3 hz3 HSS HRR HWW HR1
        go_wp2
        exact retCommittee 2 3 (w.heap.size + 1) ⟨⟨KF⟩, SM⟩ 47 _ rfl rfl rfl rfl (setRow_at H4.out.1) ⟨rfl, below_row (HB.out.trans (H4.out.2.mono HB.out.size)) (Nat.le_succ _) _⟩
  · have hN : nxC x = oCommittee := by unfold nxC; rw [if_neg (by omega)]
    unfold NxA
    rw [hN, hE]
    rw [hE] at hsy
    have HSY := hid hsy
    have sc := fun (W : World) (h : W.heap[w.heap.size + 1]? = some (.cells (cel (sCommittee oCommittee)) 47)) => svCommittee_run h oCommittee
    have HSC := hid sc
    clear hsy hcs hel hx hx0 ho hC hC0 r0 r1 hB0 hW0 hN hE hL sc
    obtain ⟨oc, eoc⟩ : ∃ c, oCommittee = c := ⟨_, rfl⟩
    rw [eoc] at bc zc HSC HR1 HW
    go_enter Tryd.func15, Tryd.ntmps15
    go_upto_region 1 with fail
    rw [HW.out]
    clear HW
    go_upto_region 3 with (go_at_call 13; refine HSY.out.mono ?_; rintro e' w1 ⟨a1, c1, rfl, hn1, hb1⟩)
    have r1 := (hb1.block _ z1).trans HR1.out
    have sc := HSC.out w1 r1
    have HR := hid r1
    have HBB := hid hb1
    clear r1 hb1 hn1
    go_wp2
    exact retCommittee 2 3 (w.heap.size + 1) oc 47 _ rfl rfl rfl rfl (setRow_at HR.out) ⟨by rw [eoc]; rfl, below_row (HB.out.trans (HBB.out.mono HB.out.size)) (Nat.le_succ _) _⟩

end Go.Proofs.YtpabbglbaimadaaDoor
