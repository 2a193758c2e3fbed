/-
  What the reference's Who answers.
-/

import Derived.Test.YtenhgoclfljjlaaDoorCmB
import Derived.Test.YtenhgoclfljjlaaDoorSR
import Derived.Test.YtenhgoclfljjlaaDoorShelf
import Derived.Sort.OwnSortedInts

namespace Go.Proofs.YtenhgoclfljjlaaDoor

open Go.RowKit

set_option linter.unusedVariables false

set_option linter.unusedSimpArgs false

set_option maxRecDepth 20000

attribute [local go_sem ↓] lvState_eq svState_eq bdState_eq lvValidator_eq svValidator_eq ixValidator_eq sv24_eq lv24_eq

def imL (zs : List Int) : List Value := zs.map (Value.int .i64)

theorem infoI64 : (Tryd.prog.info? 3).map (fun i => (i.zero, i.size, i.bytes)) = some (some (.int .i64 0), 1, 8) := by kernel_rfl

theorem wpList_append_int (w : World) {ops : Array Oper} {rest : List Oper} {o : Oper} {a : Act} {Q : Exit → Act → World → Prop} (hgd : o.guard = none) (s x : Operand)
    (ho : o.op = .call { callee := .builtin .append, args := #[s, x], argTypes := #[76, 76] })
    (base : Nat) (v : Value) (l : List Int) (z : Int) (hs : a.eval s = v) (hown : w.ownsRow base 3 1 v l.length (imL l))
    (hx : a.eval x = .slice (some ⟨w.heap.size, 0, none⟩) 1 1) (hbd : l.length + 1 ≤ 17592186044416) (hbase : base ≤ w.heap.size)
    (h : ∀ v' w', w'.ownsRow base 3 1 v' (l ++ [z]).length (imL (l ++ [z])) → w.grownBy w' v.ownBlock → wpList Tryd.prog ops Q rest (a.put o.dst v') w') :
    wpList Tryd.prog ops Q (o :: rest) a (w.alloc (.cells #[.int .i64 z] 3)) := by
  obtain ⟨i, hi, hz0, hz1, hz2⟩ := info_parts infoI64
  refine wpList_append_own _ hgd s x 76 ho base 3 i (.int .i64 0) 1 8 Tryd.underlying76 hi hz0 hz1 hz2 rfl (by decide) v l.length (imL l) hs (hown.alloc _) ⟨w.heap.size, 0, none⟩ 1 1 [.int .i64 z] hx rfl (cell_one_new _ _ _)
    (fun u hu => by simp at hu; subst hu; rfl) (by unfold maxLen; omega) (by omega) (by simp; omega) (fun v' w' h1 h2 _ => ?_)
  have e : imL l ++ [.int .i64 z] = imL (l ++ [z]) := by simp [imL]
  rw [e] at h1
  refine h v' w' (by rw [List.length_append]; exact h1) ⟨h2.os, h2.tape, h2.output, ?_, fun k hk hne => ?_⟩
  · have := h2.size
    simp at this
    omega
  · exact (h2.block k (by simp; omega) hne).trans (heap_old hk)

/-- The numbers in order. -/
def srt (zs : List Int) : List Int := zs.mergeSort fun x y => decide (x ≤ y)

theorem srt_len (zs : List Int) : (srt zs).length = zs.length := List.length_mergeSort _

theorem ints_any (B : Nat) (v : Value) (zs : List Int) (w : World) (ho : w.ownsRow B 3 1 v zs.length (imL zs)) (hl : zs.length ≤ 1099511627776) :
    Calls Tryd.prog 28 #[v] w fun e w' => e = .returned (.tuple #[]) ∧ w'.ownsRow B 3 1 v zs.length (imL (srt zs)) ∧ w.grownBy w' v.ownBlock := by
  rcases ho.2 with ⟨rfl, h0⟩ | ⟨g, cap, cur, rfl, hb, hg, hnc, hcm, hcs, htake⟩
  · obtain rfl : zs = [] := List.length_eq_zero_iff.1 h0
    refine (Tryd.sort_Ints_none none 0 w).mono ?_
    rintro e w' ⟨rfl, rfl⟩
    refine ⟨rfl, ?_, ⟨rfl, rfl, rfl, Nat.le_refl _, fun _ _ _ => rfl⟩⟩
    rw [show srt [] = [] from List.mergeSort_nil]
    exact ho
  · have hgl := (Array.getElem?_eq_some_iff.1 hg).1
    have hH : Go.Sort.Holds (Value.int .i64) w g 0 zs.toArray := holds_of_blockI hg (by rw [Nat.mul_one] at htake; exact htake)
    refine (Tryd.sort_Ints g 0 cap zs w hH hgl (by omega)).mono ?_
    rintro e w' ⟨rfl, n, os, rfl⟩
    exact ⟨rfl, ownsRow_sortedI (srt_len zs) hb hg hnc hcm hcs, grownBy_sortedI _⟩

/-- What an answered list of attesters is. -/
def whE (n : Nat) (sl ix : Int) (nb : Nat) : Int := if ix < (cnt n : Int) then (if nb = cmN n sl ix then 0 else 32) else 30

def whS (x : VState) (sl ix : Int) (b : Nat → Bool) (nb : Nat) : List Int := if whE (acE x (sl / 4)).length sl ix nb = 0 then whL (acE x (sl / 4)) (cmF (acE x (sl / 4)) (seedV x (sl / 4) 1) sl ix) b nb else []

def WhA (x : VState) (sl ix : Int) (b : Nat → Bool) (nb : Nat) (w : World) (e' : Ending) (w' : World) : Prop :=
  ∃ a c, e' = .returned (.tuple #[.slice a (whS x sl ix b nb).length c, .int .i64 (whE (acE x (sl / 4)).length sl ix nb)]) ∧ Nml w' a (whS x sl ix b nb) ∧ Below w.heap.size w w'

/-- A committee's members stand in it once, and are active. -/
theorem cmF_inj {x : VState} {sl ix : Int} (i0 : 0 ≤ ix) (h : ix < (cnt (acE x (sl / 4)).length : Int)) (s : Nat → Int) : (∀ i j, i < cmN (acE x (sl / 4)).length sl ix → j < cmN (acE x (sl / 4)).length sl ix → cmF (acE x (sl / 4)) s sl ix i = cmF (acE x (sl / 4)) s sl ix j → i = j) ∧ ∀ j, j < cmN (acE x (sl / 4)).length sl ix → cmF (acE x (sl / 4)) s sl ix j ∈ acE x (sl / 4) := by
  have hk := pcK_lt (sl := sl) i0 h
  have h1 := cut_le (acE x (sl / 4)).length (k := pcK (acE x (sl / 4)).length sl ix + 1) (by omega)
  have hN : cmN (acE x (sl / 4)).length sl ix = cut (acE x (sl / 4)).length (pcK (acE x (sl / 4)).length sl ix + 1) - cut (acE x (sl / 4)).length (pcK (acE x (sl / 4)).length sl ix) := by unfold cmN; rw [if_pos h]
  rw [hN]
  refine ⟨fun i j hi hj he => ?_, fun j hj => mbr_mem _ _ (by omega)⟩
  have := mbr_inj (rise_nodup (acL_rise _ _ _)) s (i := cut (acE x (sl / 4)).length (pcK (acE x (sl / 4)).length sl ix) + i) (j := cut (acE x (sl / 4)).length (pcK (acE x (sl / 4)).length sl ix) + j) (by show _ < (acE x (sl / 4)).length; omega) (by show _ < (acE x (sl / 4)).length; omega) he
  omega

set_option maxHeartbeats 4000000 in
theorem rwho_any (x : VState) (sl ix : Int) (a : Option Addr) (nb cap : Nat) (b : Nat → Bool) (w : World) (ho : OkState x) (hx : Lk w x) (hb : Z.Bls w a nb cap b) (i0 : 0 ≤ ix) (i1 : ix < 18446744073709551616) (s0 : 0 ≤ sl) (s1 : sl < 18446744073709551616) (hC : Tab w 1 64 KW) :
    Calls Tryd.prog 14 #[.agg (cel (sState x)), .int .u64 sl, .int .u64 ix, .slice a nb cap] w (WhA x sl ix b nb w) := by
  obtain ⟨W0, hW0⟩ : ∃ W, w.alloc (.cells (cel (sState x)) 49) = W := ⟨_, rfl⟩
  have r0 : W0.heap[w.heap.size]? = some (.cells (cel (sState x)) 49) := by rw [← hW0]; exact heap_new rfl
  have hB0 : Below w.heap.size w W0 := by rw [← hW0]; exact (Below.refl _ _).alloc (Nat.le_refl _) _
  have l0 : (lvState ⟨w.heap.size, 0, none⟩).run Tryd.prog W0 = .ok (.agg (cel (sState x))) W0 := lvState_run r0
  have hb0 := hb.below hB0
  have hof := rof_any x sl ix W0 ho (hx.below hB0) i0 s0 s1 (hC.below hB0)
  unfold OfA at hof
  have hmn := cmN_le (acE x (sl / 4)).length sl ix i0
  have hlen := acE_len (e := sl / 4) hx.nb
  have hbd := fun v (hv : v ∈ acE x (sl / 4)) => acL_bd x.f11.z (sl / 4) x.f11.n v hv
  have hxn := hx.nb
  unfold WhA
  have HB := hid hB0
  have HW := hid hW0
  by_cases h : ix < (cnt (acE x (sl / 4)).length : Int)
  · have hE : cmE (acE x (sl / 4)).length ix = 0 := by unfold cmE; rw [if_pos h]
    rw [hE] at hof
    by_cases hq : nb = cmN (acE x (sl / 4)).length sl ix
    · have hW : whE (acE x (sl / 4)).length sl ix nb = 0 := by unfold whE; rw [if_pos h, if_pos hq]
      have hS : whS x sl ix b nb = whL (acE x (sl / 4)) (cmF (acE x (sl / 4)) (seedV x (sl / 4) 1) sl ix) b nb := by unfold whS; rw [if_pos hW]
      obtain ⟨hi1, hi2⟩ := cmF_inj (x := x) i0 h (seedV x (sl / 4) 1)
      rw [← hq] at hof hi1 hi2 hmn
      have hps := pick_sort (L := acE x (sl / 4)) (acL_rise _ _ _) (b := b) hi1 hi2 (fun x y => decide (x ≤ y)) (fun x y => decide_eq_true_iff)
      rw [hW, hS, ← hps]
      have hfb : ∀ j, j < nb → ∃ v : Nat, cmF (acE x (sl / 4)) (seedV x (sl / 4) 1) sl ix j = (v : Int) ∧ v < 65536 := fun j hj => by
        have := hbd _ (hi2 j hj)
        exact ⟨(cmF (acE x (sl / 4)) (seedV x (sl / 4) 1) sl ix j).toNat, by omega, by omega⟩
      generalize cmF (acE x (sl / 4)) (seedV x (sl / 4) 1) sl ix = F at *
      have hso : (pick F b nb).mergeSort (fun x y => decide (x ≤ y)) = srt (pick F b nb) := rfl
      rw [hso]
      have hsb : ∀ j, j < (srt (pick F b nb)).length → ∃ v : Nat, (srt (pick F b nb)).getD j 0 = (v : Int) ∧ v < 65536 := fun j hj => by
        have h1 := getD_mem (srt (pick F b nb)) j hj
        rw [show srt (pick F b nb) = (pick F b nb).mergeSort (fun x y => decide (x ≤ y)) from rfl, List.mem_mergeSort, pick_mem] at h1
        obtain ⟨i, hi, _, he⟩ := h1
        obtain ⟨v, hv, hvb⟩ := hfb i hi
        exact ⟨v, he.symm.trans hv, hvb⟩
      have hsl : (srt (pick F b nb)).length = (pick F b nb).length := srt_len _
      have hnb2 : nb ≤ 65536 := by omega
      have nw : (nb : Int) ≤ 65536 := by omega
      have HOF := hid hof
      have HBL := hid hb0
      have HFB := hid hfb
      have HSB := hid hsb
      clear hof hb0 hb hfb hsb hB0 hW0 r0 hx ho hC hps hi1 hi2 hbd hS hW hE hq hmn hlen h hso
      go_enter Tryd.func14, Tryd.ntmps14
      go_upto_region 1 with fail
      rw [HW.out]
      clear HW
      go_upto_region 6 with (go_at_call 11; refine HOF.out.mono ?_; rintro e' w1 ⟨a1, c1, rfl, hn1, hb1⟩)
      have hbl := HBL.out.below hb1
      have HB1 := hid hb1
      have HN1 := hid hn1
      have HBL1 := hid hbl
      clear hb1 hn1 hbl l0 HOF HBL
      go_wp2
      go_loopw [12, 13] (fun v c wr => ∃ (k : Nat) (v' : Value), k ≤ nb ∧ v = v' ∧ c = .int .i64 k ∧ wr.ownsRow w1.heap.size 3 1 v' (pick F b k).length (imL (pick F b k)) ∧ Below w1.heap.size w1 wr) (fun _ c _ => nb - (intOf c).toNat)
      case atStart => exact ⟨0, _, by omega, rfl, rfl, World.ownsRow_nil _ _ _ _, Below.refl _ _⟩
      case round =>
        obtain ⟨k, v, hk, ev, rfl, ho, hw⟩ := hrel
        obtain rfl := ev.symm
        clear ev
        by_cases hkn : k < nb
        · have k1 : (k : Int) < (nb : Int) := by omega
          have k2 : (0 : Int) ≤ (k : Int) := by omega
          obtain ⟨V, hV, hVb⟩ := HFB.out k hkn
          obtain ⟨b2, o2, ea2, hbl2, hc2⟩ := Z.bls_at (HBL1.out.below hw) k hkn
          rcases HN1.out.below hw with h0 | ⟨b1, o1, ea1, hbl1, hc1⟩
          · omega
          subst ea1 ea2
          have cl := hc1 k hkn
          rw [hV] at cl
          have vw : IntKind.i64.wrap (V : Int) = (V : Int) := by rw [IntKind.wrap_i64]; omega
          have hstep : pick F b (k + 1) = if b k = true then pick F b k ++ [F k] else pick F b k := rfl
          rw [hV] at hstep
          have hpl := pick_len F b k
          obtain ⟨B, hB⟩ : ∃ B, b k = B := ⟨_, rfl⟩
          rw [hB] at hc2 hstep
          have HO := hid ho
          have HWW := hid hw
          have HST := hid hstep
          clear ho hw hstep hc1 hbl1 hbl2 hV hB
          cases B
          · go_wp2
            go_roundw
            case rel => exact ⟨k + 1, _, by omega, rfl, by go_num, by rw [HST.out]; exact HO.out, HWW.out⟩
            case measure => simp [intOf]; omega
          · go_wp2_with (at_builtin; (refine wpList_append_int wr rfl _ _ rfl w1.heap.size v (pick F b k) (V : Int) rfl HO.out rfl (by omega) HWW.out.size ?_); intro v2 w2 ho2 hg2)
            have hb2 := below_grown HWW.out HO.out HWW.out.size hg2
            go_roundw
            case rel => exact ⟨k + 1, _, by omega, rfl, by go_num, by rw [HST.out]; exact ho2, hb2⟩
            case measure => simp [intOf]; omega
        · obtain rfl : k = nb := by omega
          have hpl := pick_len F b k
          have hin := ints_any w1.heap.size v (pick F b k) wr ho (by omega)
          generalize hz : srt (pick F b k) = Z at *
          generalize (pick F b k).length = m at *
          have HIN := hid hin
          have HO := hid ho
          have HWW := hid hw
          have HZZ := hid hz
          clear hin ho hw hz
          go_upto_region 13 with (go_at_call 28; refine HIN.out.mono ?_; rintro e' w2 ⟨rfl, ho2, hg2⟩)
          have hb2 := below_grown HWW.out HO.out HWW.out.size hg2
          have hr2 : m = 0 ∨ ∃ g C, v = .slice (some ⟨g, 0, none⟩) m C ∧ g < w2.heap.size ∧ ∀ j, j < m → w2.cell? ⟨g, j, none⟩ = some (.int .i64 (Z.getD j 0)) := by
            rcases ho2.2 with ⟨_, h0⟩ | ⟨g, cap, cur, h1, _, _, _, _, _⟩
            · exact .inl h0
            · subst h1
              refine .inr ⟨g, cap, rfl, (ho2.lt g rfl).2, fun j hj => ?_⟩
              have hj' : (imL Z)[j]? = some (.int .i64 (Z.getD j 0)) := by
                unfold imL
                rw [List.getElem?_map, List.getElem?_eq_getElem (by omega), List.getD_eq_getElem?_getD, List.getElem?_eq_getElem (by omega)]
                rfl
              have := ho2.cells (g := g) rfl j _ hj'
              rw [addr_add, Nat.zero_add] at this
              exact this
          obtain ⟨A, C, eA⟩ : ∃ A C, v = .slice A m C := by
            rcases ho2.2 with ⟨h1, h0⟩ | ⟨g, cap, cur, h1, _⟩
            · exact ⟨none, 0, by rw [h1, h0]⟩
            · exact ⟨_, cap, h1⟩
          subst eA
          have hr3 : m = 0 ∨ ∃ g, A = some ⟨g, 0, none⟩ ∧ g < w2.heap.size ∧ ∀ j, j < m → w2.cell? ⟨g, j, none⟩ = some (.int .i64 (Z.getD j 0)) := by
            rcases hr2 with h0 | ⟨g, C', h1, h2, h3⟩
            · exact .inl h0
            · cases h1
              exact .inr ⟨g, rfl, h2, h3⟩
          have HR := hid hr3
          have HB2 := hid hb2
          clear hr2 hr3 hb2 ho2 hg2 HO HWW HIN
          go_wp2
          go_loopw [14, 15] (fun v c wr => ∃ (j : Nat) (v' : Value), j ≤ m ∧ v = v' ∧ c = .int .i64 j ∧ wr.ownsRow w2.heap.size 22 1 v' (Z.take j).length (iv6 (Z.take j)) ∧ Below w2.heap.size w2 wr) (fun _ c _ => m - (intOf c).toNat)
          case atStart => exact ⟨0, _, by omega, rfl, rfl, by rw [List.take_zero]; exact World.ownsRow_nil _ _ _ _, Below.refl _ _⟩
          case round =>
            obtain ⟨j, v, hj, ev, rfl, ho, hw⟩ := hrel
            obtain rfl := ev.symm
            clear ev
            by_cases hjm : j < m
            · have j1 : (j : Int) < (m : Int) := by omega
              have j2 : (0 : Int) ≤ (j : Int) := by omega
              obtain ⟨V, hV, hVb⟩ := HSB.out j (by omega)
              rcases HR.out with h0 | ⟨g, ea, hgl, hc⟩
              · omega
              subst ea
              have cl : wr.cell? ⟨g, j, none⟩ = some (.int .i64 (V : Int)) := by rw [← hV]; exact (below_cell hw hgl).trans (hc j hjm)
              have vw : IntKind.u64.wrap (V : Int) = (V : Int) := by rw [IntKind.wrap_u64]; omega
              have htk : Z.take (j + 1) = Z.take j ++ [(V : Int)] := by
                rw [List.take_add_one, List.getElem?_eq_getElem (by omega), ← hV, List.getD_eq_getElem?_getD, List.getElem?_eq_getElem (by omega)]
                rfl
              have htl : (Z.take j).length = j := by rw [List.length_take]; omega
              have HO := hid ho
              have HWW := hid hw
              have HTK := hid htk
              have HTL := hid htl
              clear ho hw htk htl hc hV
              go_wp2_with (at_builtin; (refine wpList_append_one wr rfl _ _ rfl w2.heap.size v (Z.take j) (V : Int) rfl HO.out rfl (by rw [HTL.out]; omega) HWW.out.size ?_); intro v3 w3 ho3 hg3)
              have hb3 := below_grown HWW.out HO.out HWW.out.size hg3
              go_roundw
              case rel => exact ⟨j + 1, _, by omega, rfl, by go_num, by rw [HTK.out]; exact ho3, hb3⟩
              case measure => simp [intOf]; omega
            · obtain rfl : j = m := by omega
              rw [List.take_of_length_le (by omega)] at ho
              have HO := hid ho
              have HWW := hid hw
              clear ho hw
              go_wp2
              obtain ⟨a', C', rfl, hn⟩ := own_nml HO.out
              go_ret2
              rw [HZZ.out]
              exact ⟨a', C', rfl, hn, HB.out.trans ((HB1.out.trans ((HB2.out.trans (HWW.out.mono HB2.out.size)).mono HB1.out.size)).mono HB.out.size)⟩
    · have hW : whE (acE x (sl / 4)).length sl ix nb = 32 := by unfold whE; rw [if_pos h, if_neg hq]
      have hS : whS x sl ix b nb = [] := by unfold whS; rw [hW, if_neg (by omega)]
      rw [hW, hS]
      obtain ⟨M, hM⟩ : ∃ M, cmN (acE x (sl / 4)).length sl ix = M := ⟨_, rfl⟩
      rw [hM] at hof hq hmn
      have q1 : ¬ (nb : Int) = (M : Int) := by omega
      have HOF := hid hof
      clear hof hb0 hb hB0 hW0 r0 hx ho hC hbd hS hW hE hM
      go_enter Tryd.func14, Tryd.ntmps14
      go_upto_region 1 with fail
      rw [HW.out]
      clear HW
      go_wp2_with (go_at_call 11; refine HOF.out.mono ?_; rintro e' w1 ⟨a1, c1, rfl, hn1, hb1⟩)
      go_ret2
      exact ⟨none, 0, rfl, .inl rfl, HB.out.trans (hb1.mono HB.out.size)⟩
  · have hE : cmE (acE x (sl / 4)).length ix = 1 := by unfold cmE; rw [if_neg h]
    have hW : whE (acE x (sl / 4)).length sl ix nb = 30 := by unfold whE; rw [if_neg h]
    have hS : whS x sl ix b nb = [] := by unfold whS; rw [hW, if_neg (by omega)]
    rw [hW, hS]
    rw [hE] at hof
    have HOF := hid hof
    clear hof hb0 hb hB0 hW0 r0 hx ho hC hbd hS hW hE
    go_enter Tryd.func14, Tryd.ntmps14
    go_upto_region 1 with fail
    rw [HW.out]
    clear HW
    go_wp2_with (go_at_call 11; refine HOF.out.mono ?_; rintro e' w1 ⟨a1, c1, rfl, hn1, hb1⟩)
    go_ret2
    exact ⟨none, 0, rfl, .inl rfl, HB.out.trans (hb1.mono HB.out.size)⟩

end Go.Proofs.YtenhgoclfljjlaaDoor
