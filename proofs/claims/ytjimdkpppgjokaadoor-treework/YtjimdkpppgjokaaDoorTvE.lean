/-
  What TreeWork answers, at every input.
-/
import Derived.Test.YtjimdkpppgjokaaDoorTvC
namespace Go.Proofs.YtjimdkpppgjokaaDoor
open Go.RowKit
set_option linter.unusedVariables false
set_option linter.unusedSimpArgs false

attribute [local go_sem ↓] sv24_eq lv24_eq ix22_eq slr_eq bd27_eq bs22_eq eqo_eq neq6_eq lvO_eq svO_eq ixO_eq lv28_eq sv28_eq

set_option maxRecDepth 20000 in
set_option maxHeartbeats 8000000 in
theorem work_ok (m : Nat) (a : Option Addr) (len cap : Nat) (K P : Nat → Int) (F : Nat → Nat → Int) (w : World) (hS : Sh w) (hC : Rc w) (hm : 1 ≤ m) (hm2 : m ≤ 1073741824) (hcl : Cls w a len K P F) (hrg : ∀ i, (-9223372036854775808 ≤ K i ∧ K i ≤ 9223372036854775807) ∧ (-9223372036854775808 ≤ P i ∧ P i ≤ 9223372036854775807) ∧ ∀ j, 0 ≤ F i j ∧ F i j < 256) (hlen : len ≤ 140737488355328) :
    Calls Tryd.prog 4 #[.int .i64 m, .slice a len cap] w fun e w' => e = .returned (.bool true) ∧ Below w.heap.size w w' := by
  have haw := awake6 w hS
  have HAW := hid haw
  have HS := hid hS
  have HC := hid hC
  have HCL := hid hcl
  have HRG := hid hrg
  clear haw hS hC hcl hrg
  go_enter Tryd.func4, Tryd.ntmps4
  go_upto_region 3 with (go_at_call 8; refine HAW.out.mono ?_; rintro e w1 ⟨rfl, hb1⟩)
  have hnew := tt_new w.heap.size m w1 (HS.out.below hb1) hm hm2 hb1.size
  obtain ⟨t0, et0⟩ : ∃ t, w1.heap.size + 1 = t := ⟨_, rfl⟩
  rw [et0] at hnew
  have HNEW := hid hnew
  have HB1 := hid hb1
  clear hnew et0 hb1 HAW
  go_upto_region 4 with (go_at_call 9; refine HNEW.out.mono ?_; rintro e w2 ⟨rfl, hb2, LB2, hl2, ht2⟩)
  have hrn := rnew6 (m : Int) w2 (by omega) (by omega)
  rw [decide_eq_true (show (1 : Int) ≤ (m : Int) ∧ (m : Int) ≤ 1073741824 by omega)] at hrn
  have zr28 := zero_ref
  have sv := fun W => sv28_new W (m : Int) none 0 0 (rtA 0 (.slice none 0 0)) rfl
  have HRN := hid hrn
  have HB2 := hid (HB1.out.trans (hb2.mono HB1.out.size))
  have HT2 := hid ht2
  clear hrn hb2 hl2 ht2 HNEW HB1
  go_upto_region 7 with (go_at_call 10; refine HRN.out.mono ?_; rintro e w3 ⟨rfl, hb3⟩)
  have hj := jk_new HB2.out HT2.out hb3
  obtain ⟨q, eq⟩ : ∃ q, w3.heap.size = q := ⟨_, rfl⟩
  obtain ⟨W4, hW4⟩ : ∃ X, w3.alloc (.cells (rtA m (.slice none 0 0)) 28) = X := ⟨_, rfl⟩
  rw [hW4, eq] at hj
  rw [hW4, eq]
  have hro0 := hj.troot (Below.refl _ _) HS.out (by omega) (by omega)
  have HRO0 := hid hro0
  clear hro0 hj hW4 eq hb3 HB2 HT2 HRN zr28 sv
  go_upto_region 10 with (go_at_call 12; refine HRO0.out.mono ?_; rintro e w5 ⟨rfl, hs5, g1, g2, g3, hj5, st5⟩)
  rw [Nat.mul_zero] at g2
  have e5 : hs5 = 0 := by omega
  subst e5
  have HJ0 := hid hj5
  clear hj5 st5 g1 g2 g3 HRO0
  go_loopw [5, 8, 9] (fun tv kv i wr => ∃ (k t L : Nat) (f : Nat → Int) (cn : Nat) (hs : Int) (kc : Nat), k ≤ len ∧ k ≤ 100 ∧ i = .int .i64 k ∧ tv = .pointer (some ⟨t, 0, none⟩) ∧ kv = .int .i64 kc ∧ JK w wr t q m L f L f cn hs ∧ cn ≤ kc ∧ kc ≤ k ∧ 0 ≤ hs ∧ hs ≤ (k : Int) * 2147483648) (fun _ _ i _ => 100 - (intOf i).toNat)
  case atStart => exact ⟨0, t0, 0, _, 0, 0, 0, by omega, by omega, rfl, rfl, rfl, HJ0.out, by omega, by omega, by omega, by omega⟩
  case round =>
    clear HJ0
    obtain ⟨k, t, L, f, cn, hs, kc, hk1, hk2, rfl, rfl, rfl, hg, hcnk, hkk, hhs⟩ := hrel
    have HHS := hid hhs
    have hkcb : kc ≤ k := hkk
    clear hhs hkk
    by_cases hlt : k < len ∧ k < 100
    · obtain ⟨hlt1, hlt2⟩ := hlt
      have b1 : decide (k < len) = true := by simp; omega
      have b2 : decide ((k : Int) < (len : Int)) = true := by simp; omega
      have b3 : decide (k < 100) = true := by simp; omega
      have b4 : decide ((k : Int) < 100) = true := by simp; omega
      obtain ⟨bo, oo, hao, hbo, hco⟩ := HCL.out.resolve_left (by omega)
      subst hao
      have hco' := hco k hlt1
      have hB0 := hg.bel
      have l0 := lvO_mid (w := wr) (b := bo) (o := oo + 34 * k) (k := K k) (p := P k) (c := F k) ((below_cell hB0 hbo).trans hco'.1) ((below_cell hB0 hbo).trans hco'.2.1) (fun j hj => (below_cell hB0 hbo).trans (hco'.2.2 j hj))
      have ixo := fun W => ixO_run W bo oo len cap k hlt1
      have zo := zero_op
      have so := svO_new wr (K k) (P k) (F k) (oA 0 0 (fun _ => 0)) (oA_size _ _ _)
      have hrg := HRG.out k
      obtain ⟨kk, ekk⟩ : ∃ z, K k = z := ⟨_, rfl⟩
      obtain ⟨p, ep⟩ : ∃ z, P k = z := ⟨_, rfl⟩
      obtain ⟨c, ec⟩ : ∃ z, F k = z := ⟨_, rfl⟩
      rw [ekk, ep, ec] at l0 so hrg
      obtain ⟨⟨kk1, kk2⟩, ⟨p1, p2⟩, hcb⟩ := hrg
      clear hco hco' hB0 ekk ep ec
      go_upto_region 13 with fail
      clear l0 ixo zo so
      obtain ⟨W1, hW1⟩ : ∃ X, wr.alloc (.cells (oA kk p c) 40) = X := ⟨_, rfl⟩
      rw [hW1]
      have hB1 : Below wr.heap.size wr W1 := by rw [← hW1]; exact (Below.refl _ _).alloc (Nat.le_refl _) _
      have ry : W1.heap[wr.heap.size]? = some (.cells (oA kk p c) 40) := by rw [← hW1]; exact heap_new rfl
      have zy : wr.heap.size < W1.heap.size := by rw [← hW1]; simp
      have HB1w := hid hB1
      obtain ⟨y, ey⟩ : ∃ y, wr.heap.size = y := ⟨_, rfl⟩
      have hqy : q < y := by rw [← ey]; exact hg.qlt
      have cy0 := row_cell ry 0
      rw [oA_0] at cy0
      have x1 : -6 < kk.tmod 6 := by
        have := Int.lt_tmod_of_pos kk (by omega : (0 : Int) < 6); omega
      have x2 : kk.tmod 6 < 6 := Int.tmod_lt_of_pos kk (by omega)
      have HEY := hid ey
      rw [ey] at ry zy cy0 hB1 ⊢
      obtain ⟨kd, hkd, ekd⟩ := kind_any kk
      have EKD := hid ekd
      have HG := hid hg
      have HRY := hid ry
      have HB1 := hid hB1
      have HLP : Hid (∀ X : World, X.heap[y]? = some (.cells (oA kk p c) 40) → X.cell? ⟨y, 1, none⟩ = some (.int .i64 p)) := fun X h => (row_cell h 1).trans (oA_1 _ _ _)
      have HLC : Hid (∀ X : World, X.heap[y]? = some (.cells (oA kk p c) 40) → (lv24 ⟨y, 2, none⟩).run Tryd.prog X = .ok (.agg (vs .u8 32 c)) X) := fun X h => lv24_mid (fun j hj => (row_cell h (2 + j)).trans (oA_2 _ _ _ j hj))
      have HCB : Hid (∀ j, j < 32 → 0 ≤ c j ∧ c j < 256) := fun j _ => hcb j
      have HST : Hid (∀ X X', Stay wr X X' → X.heap[y]? = some (.cells (oA kk p c) 40) → X'.heap[y]? = some (.cells (oA kk p c) 40)) := fun X X' h h2 => (h y (by rw [← HEY.out]; exact Nat.le_refl _) (Array.getElem?_eq_some_iff.1 h2).1).trans h2
      have HSQ : Hid (∀ X X', StayQ q X X' → X.heap[y]? = some (.cells (oA kk p c) 40) → X'.heap[y]? = some (.cells (oA kk p c) 40)) := fun X X' h h2 => (h.2 y (Array.getElem?_eq_some_iff.1 h2).1 (by omega)).trans h2
      have hLm : L ≤ 1073741824 := by have := hg.few; omega
      clear ry hB1 hg ekd hcb hW1 ey
      clear b1 b2 b3 b4
      rcases (by omega : kd = 0 ∨ kd = 1 ∨ kd = 2 ∨ kd = 3 ∨ kd = 4 ∨ kd = 5) with rfl | rfl | rfl | rfl | rfl | rfl
      · -- kind 0
        have hkk : (kk.tmod 6 + 6) % 6 = 0 := by have := EKD.out; omega
        clear EKD
        go_upto_region 14 with fail
        clear cy0 hkk x1 x2
        have hts := (HG.out).tapp (HB1w.out) c HCB.out
        have HTS := hid hts
        have lc := HLC.out _ HRY.out
        clear hts
        go_upto_region 15 with (go_at_call 15; refine HTS.out.mono ?_; rintro e w2 ⟨rfl, cn2, hcn2, hj2, hs2⟩)
        have S2 := HST.out _ _ hs2.1 HRY.out
        have hrs := hj2.rapp hLm c
        have HRS := hid hrs
        clear lc hrs HTS hj2 hs2
        have lc := HLC.out _ S2
        have hcnk : cn2 ≤ kc + 1 := by omega
        clear S2
        go_wp2_with (go_at_call 20; refine HRS.out.mono ?_; rintro e w3 ⟨rfl, hj3, hs3⟩)
        have HJ := hid hj3
        have h1 := HHS.out.1
        have h2 := HHS.out.2
        clear hj3 hs3 HHS
        go_roundw
        case rel => exact ⟨k + 1, t, _, _, cn2, hs, kc + 1, by omega, by omega, by go_num, rfl, by go_num, HJ.out, by omega, by omega, by omega, by omega⟩
        case measure => simp [intOf]; omega
      · -- kind 1
        have hkk : (kk.tmod 6 + 6) % 6 = 1 := by have := EKD.out; omega
        clear EKD
        go_upto_region 18 with fail
        clear cy0 hkk x1 x2
        have hts := (HG.out).tset (HB1w.out) p c HCB.out p1 p2
        have HTS := hid hts
        have cp := HLP.out _ HRY.out
        have lc := HLC.out _ HRY.out
        clear hts
        go_upto_region 19 with (go_at_call 14; refine HTS.out.mono ?_; rintro e w2 ⟨rfl, cn2, hcn2, hj2, hs2⟩)
        have S2 := HST.out _ _ hs2.1 HRY.out
        have hrs := hj2.rset hLm p c p1 p2
        have HRS := hid hrs
        clear cp lc hrs HTS hj2 hs2
        have cp := HLP.out _ S2
        have lc := HLC.out _ S2
        have hcnk : cn2 ≤ kc + 1 := by omega
        clear S2
        go_wp2_with (go_at_call 17; refine HRS.out.mono ?_; rintro e w3 ⟨rfl, hj3, hs3⟩)
        have HJ := hid hj3
        have h1 := HHS.out.1
        have h2 := HHS.out.2
        clear hj3 hs3 HHS
        go_roundw
        case rel => exact ⟨k + 1, t, L, _, cn2, hs, kc + 1, by omega, by omega, by go_num, rfl, by go_num, HJ.out, by omega, by omega, by omega, by omega⟩
        case measure => simp [intOf]; omega
      · -- kind 2
        have hkk : (kk.tmod 6 + 6) % 6 = 2 := by have := EKD.out; omega
        clear EKD
        go_upto_region 22 with fail
        clear cy0 hkk x1 x2
        have hh0 := (HG.out.below HB1w.out).hashes
        have HH0 := hid hh0
        clear hh0
        go_upto_region 23 with (go_at_call 16; refine HH0.out.mono ?_; rintro e wa ⟨rfl, hwa⟩; obtain rfl := hwa.symm)
        have hro := (HG.out).troot (HB1w.out) HS.out HHS.out.1 (by have := HHS.out.2; omega)
        obtain ⟨C, eC⟩ : ∃ C, treeV f L (m : Nat) = C := ⟨_, rfl⟩
        rw [eC] at hro
        have HRO := hid hro
        have sv := fun X => sv24_newv X (fun _ => 0) C
        have z := zero_root
        clear hro HH0
        go_upto_region 24 with (go_at_call 12; refine HRO.out.mono ?_; rintro e w2 ⟨rfl, hs2, g1, g2, g3, hj2, st2⟩)
        obtain ⟨X3, hX3⟩ : ∃ X, w2.alloc (.cells (vs .u8 32 C) 33) = X := ⟨_, rfl⟩
        obtain ⟨y2, ey2⟩ : ∃ y, w2.heap.size = y := ⟨_, rfl⟩
        rw [hX3, ey2]
        have ry2 : X3.heap[y2]? = some (.cells (vs .u8 32 C) 33) := by rw [← hX3, ← ey2]; exact heap_new rfl
        have zy2 : y2 < X3.heap.size := by rw [← hX3, ← ey2]; simp
        have hB23 : Below w2.heap.size w2 X3 := by rw [← hX3]; exact (Below.refl _ _).alloc (Nat.le_refl _) _
        have hJ3 := hj2.below hB23
        have HQY : Hid (q < y2) := by have := hj2.qlt; show q < y2; omega
        have hh1 := hJ3.hashes
        have HH1 := hid hh1
        have HJ2 := hid hj2
        have HB23 := hid hB23
        have EY2 := hid ey2
        have hmo : hs2 - hs ≤ ((mostV m L kc : Nat) : Int) := by
          unfold mostV
          by_cases hk0 : kc = 0
          · have e0 : cn = 0 := by omega
            rw [if_pos hk0]
            rw [e0, Nat.mul_zero] at g2
            omega
          · rw [if_neg hk0]
            by_cases hg : L + dpt m < kc * dpt m
            · rw [if_pos hg]; omega
            · rw [if_neg hg]
              have e1 : dpt m * cn ≤ dpt m * kc := Nat.mul_le_mul_left _ hcnk
              rw [Nat.mul_comm (dpt m) kc] at e1
              omega
        have hdm := dpt_le m (by omega)
        obtain ⟨M, eM⟩ : ∃ M, mostV m L kc = M := ⟨_, rfl⟩
        rw [eM] at hmo
        have HRY2 := hid ry2
        clear hX3 ey2 hB23 hJ3 hh1 sv z HRO hj2 st2 ry2
        go_upto_region 25 with (go_at_call 16; refine HH1.out.mono ?_; rintro e wb ⟨rfl, hwb⟩; obtain rfl := hwb.symm)
        have hJ3 := HJ2.out.below HB23.out
        obtain ⟨a1, cap1, rq1, _, _⟩ := hJ3.rblk
        have hfw := hJ3.few
        have rqd : X3.drew.heap[q]? = some (.cells (rtA m (.slice a1 L cap1)) 28) := rq1
        have hJd := hJ3.below (Below.refl _ X3).drew
        have hrr : Calls Tryd.prog 18 #[.agg (rtA m (.slice a1 L cap1))] X3.drew fun e w' => e = .returned (.agg (vs .u8 32 C)) ∧ Below X3.drew.heap.size X3.drew w' := by
          obtain ⟨a', cap', hx', hrt, hle⟩ := hJd.rblk
          have hinj := rqd.symm.trans hx'
          have e1 : Value.slice a1 L cap1 = Value.slice a' L cap' := by
            have := Option.some.inj hinj
            injection this with h1
            unfold rtA at h1
            simpa using h1
          injection e1 with h1 h2 h3
          subst h1 h3
          rw [← eC]
          exact rroot6 a1 L cap1 f (m : Nat) X3.drew (HC.out.below hJd.bel) hrt hle hfw.2.2.2.2 (by omega) (by omega) (by omega)
        have hmst : ∀ X : World, Calls Tryd.prog 21 #[.agg (rtA m (.slice a1 L cap1)), .int .i64 kc] X fun e w' => e = .returned (.int .i64 M) ∧ Below X.heap.size X w' := fun X => by
          rw [← eM]
          exact rmost6 a1 L cap1 m kc X (by omega) (by omega) (by omega)
        have hro2 : ∀ X, Below w2.heap.size w2 X → Calls Tryd.prog 12 #[.pointer (some ⟨t, 0, none⟩)] X fun e w' => e = .returned (.agg (vs .u8 32 C)) ∧ JK w w' t q m L f L f 0 hs2 ∧ StayT q w2 X w' := fun X hb => by
          rw [← eC]
          refine (HJ2.out.troot hb HS.out (by have := HHS.out.1; omega) (by have := HHS.out.2; have := hfw; omega)).mono ?_
          rintro e w' ⟨rfl, hs3, r1, r2, r3, r4, r5⟩
          rw [Nat.mul_zero] at r2
          have e3 : hs3 = hs2 := by omega
          subst e3
          exact ⟨rfl, r4, r5⟩
        have HRQ := hid rqd
        have HLQ : Hid (∀ X : World, X.heap[q]? = some (.cells (rtA m (.slice a1 L cap1)) 28) → (lv28 ⟨q, 0, none⟩).run Tryd.prog X = .ok (.agg (rtA m (.slice a1 L cap1))) X) := fun X h => lv28_run h
        have HLY : Hid (∀ X : World, X.heap[y2]? = some (.cells (vs .u8 32 C) 33) → (lv24 ⟨y2, 0, none⟩).run Tryd.prog X = .ok (.agg (vs .u8 32 C)) X) := fun X h => lv24_run h
        have HRR := hid hrr
        have HMO := hid hmst
        have HRO2 := hid hro2
        have HBX : Hid (Below w2.heap.size w2 X3.drew) := HB23.out.drew
        have zq : q < X3.drew.heap.size := hJd.qlt
        have zyd : y2 < X3.drew.heap.size := zy2
        have HSS : Hid (X3.drew.heap[q]? = some (.cells (rtA m (.slice a1 L cap1)) 28) ∧ X3.drew.heap[y2]? = some (.cells (vs .u8 32 C) 33)) := ⟨rqd, HRY2.out⟩
        have hsb := HHS.out
        obtain ⟨hsb1, hsb2⟩ := hsb
        obtain ⟨D, eD⟩ : ∃ D, hs2 - hs = D := ⟨_, rfl⟩
        have dd1 : decide ((M : Int) < D) = false := by simp; omega
        have kd1 : 0 ≤ D := by omega
        have kd2 : D ≤ 4611686018427387904 := by omega
        have kb3 : hs ≤ 4611686018427387904 := by omega
        have wD : IntKind.i64.wrap D = D := by rw [IntKind.wrap_i64]; omega
        have dd2 : decide (hs2 < hs) = false := by simp; omega
        have kb1 : (0 : Int) ≤ hs2 := by omega
        have kb2 : hs2 ≤ 4611686018427387904 := by omega
        clear rqd rq1 hrr hmst hro2 hJd hJ3 eC eM hmo HB23 HJ2 HH1
        refine wp_region_noPanic ?_
        refine wp_region_held_drew (S := fun X => X.heap[q]? = some (.cells (rtA m (.slice a1 L cap1)) 28) ∧ X.heap[y2]? = some (.cells (vs .u8 32 C) 33)) (by kernel_rfl) (HSS.out) (fun hHeld => ?_)
        refine wpAnyH_take (i := 0) (v := ?v93) rfl (by kernel_rfl) (by kernel_rfl) (by kernel_rfl) (fun _ _ _ h => h) (Or.inl ⟨by rfl, ?hy93⟩) hHeld ?rest93
        case hy93 =>
          intro w hSw
          have ld := HLY.out _ hSw.2
          go_simp
          try with_reducible rfl
        try simp only [Act.put, List.setIfInBounds_toArray, List.set_cons_zero, List.set_cons_succ, Array.toArray_toList, List.getElem_toArray, List.getElem_cons_zero, List.getElem_cons_succ]
        refine wpAnyH_take (i := 1) (v := ?v94) rfl (by kernel_rfl) (by kernel_rfl) (by kernel_rfl) (fun _ _ _ h => h) (Or.inl ⟨by rfl, ?hy94⟩) hHeld ?rest94
        case hy94 =>
          intro w hSw
          have ld := HLQ.out _ hSw.1
          go_simp
          try with_reducible rfl
        try simp only [Act.put, List.setIfInBounds_toArray, List.set_cons_zero, List.set_cons_succ, Array.toArray_toList, List.getElem_toArray, List.getElem_cons_zero, List.getElem_cons_succ]
        refine wpAnyH_ready (rs := [2]) (by kernel_rfl) (by simp) ?_
        refine AllReadyH.cons rfl (fun K hK => ?_) AllReadyH.nil
        go_simp
        refine (HRR.out).mono ?_
        rintro e wc ⟨rfl, hbc⟩
        dsimp only
        have Sc := hid (And.intro ((hbc.block q zq).trans HSS.out.1) ((hbc.block y2 zyd).trans HSS.out.2))
        have HBC := hid (HBX.out.trans (hbc.mono HBX.out.size))
        clear hbc
        refine hK.out _ _ (Sc.out) (fun hHeld => ?_)
        clear hK K
        try simp only [Act.put, List.setIfInBounds_toArray, List.set_cons_zero, List.set_cons_succ, Array.toArray_toList, List.getElem_toArray, List.getElem_cons_zero, List.getElem_cons_succ]
        refine wpAnyH_take (i := 3) rfl (by kernel_rfl) (by kernel_rfl) (by kernel_rfl) (fun _ _ _ h => h) (yields_neo (by rfl) _ _ _ rfl C C rfl rfl) hHeld ?_
        rw [eqR_self, Bool.not_true]
        try simp only [Act.put, List.setIfInBounds_toArray, List.set_cons_zero, List.set_cons_succ, Array.toArray_toList, List.getElem_toArray, List.getElem_cons_zero, List.getElem_cons_succ]
        refine wpAnyH_take (i := 4) (v := ?v95) rfl (by kernel_rfl) (by kernel_rfl) (by kernel_rfl) (fun _ _ _ h => h) (Or.inl ⟨by rfl, ?hy95⟩) hHeld ?rest95
        case hy95 =>
          intro w hSw
          go_simp
          try with_reducible rfl
        try simp only [Act.put, List.setIfInBounds_toArray, List.set_cons_zero, List.set_cons_succ, Array.toArray_toList, List.getElem_toArray, List.getElem_cons_zero, List.getElem_cons_succ]
        refine wpAnyH_take (i := 5) (v := ?v96) rfl (by kernel_rfl) (by kernel_rfl) (by kernel_rfl) (fun _ _ _ h => h) (Or.inl ⟨by rfl, ?hy96⟩) hHeld ?rest96
        case hy96 =>
          intro w hSw
          go_simp
          try with_reducible rfl
        try simp only [Act.put, List.setIfInBounds_toArray, List.set_cons_zero, List.set_cons_succ, Array.toArray_toList, List.getElem_toArray, List.getElem_cons_zero, List.getElem_cons_succ]
        refine wpAnyH_take (i := 6) (v := ?v97) rfl (by kernel_rfl) (by kernel_rfl) (by kernel_rfl) (fun _ _ _ h => h) (Or.inl ⟨by rfl, ?hy97⟩) hHeld ?rest97
        case hy97 =>
          intro w hSw
          go_simp
          try with_reducible rfl
        try simp only [Act.put, List.setIfInBounds_toArray, List.set_cons_zero, List.set_cons_succ, Array.toArray_toList, List.getElem_toArray, List.getElem_cons_zero, List.getElem_cons_succ]
        refine wpAnyH_take (i := 7) (v := ?v98) rfl (by kernel_rfl) (by kernel_rfl) (by kernel_rfl) (fun _ _ _ h => h) (Or.inl ⟨by rfl, ?hy98⟩) hHeld ?rest98
        case hy98 =>
          intro w hSw
          go_simp
          try with_reducible rfl
        try simp only [Act.put, List.setIfInBounds_toArray, List.set_cons_zero, List.set_cons_succ, Array.toArray_toList, List.getElem_toArray, List.getElem_cons_zero, List.getElem_cons_succ]
        refine wpAnyH_take (i := 8) (v := ?v99) rfl (by kernel_rfl) (by kernel_rfl) (by kernel_rfl) (fun _ _ _ h => h) (Or.inl ⟨by rfl, ?hy99⟩) hHeld ?rest99
        case hy99 =>
          intro w hSw
          have ld := HLQ.out _ hSw.1
          go_simp
          try with_reducible rfl
        try simp only [Act.put, List.setIfInBounds_toArray, List.set_cons_zero, List.set_cons_succ, Array.toArray_toList, List.getElem_toArray, List.getElem_cons_zero, List.getElem_cons_succ]
        refine wpAnyH_take (i := 9) (v := ?v100) rfl (by kernel_rfl) (by kernel_rfl) (by kernel_rfl) (fun _ _ _ h => h) (Or.inl ⟨by rfl, ?hy100⟩) hHeld ?rest100
        case hy100 =>
          intro w hSw
          go_simp
          try with_reducible rfl
        try simp only [Act.put, List.setIfInBounds_toArray, List.set_cons_zero, List.set_cons_succ, Array.toArray_toList, List.getElem_toArray, List.getElem_cons_zero, List.getElem_cons_succ]
        refine wpAnyH_ready (rs := [10]) (by kernel_rfl) (by simp) ?_
        refine AllReadyH.cons rfl (fun K hK => ?_) AllReadyH.nil
        go_simp
        refine (HMO.out _).mono ?_
        rintro e wd ⟨rfl, hbd⟩
        dsimp only
        have zc := HBC.out.size
        have Sd := hid (And.intro ((hbd.block q (Array.getElem?_eq_some_iff.1 Sc.out.1).1).trans Sc.out.1) ((hbd.block y2 (Array.getElem?_eq_some_iff.1 Sc.out.2).1).trans Sc.out.2))
        have HBD := hid (HBC.out.trans (hbd.mono HBC.out.size))
        clear hbd zc
        refine hK.out _ _ (Sd.out) (fun hHeld => ?_)
        clear hK K
        try simp only [Act.put, List.setIfInBounds_toArray, List.set_cons_zero, List.set_cons_succ, Array.toArray_toList, List.getElem_toArray, List.getElem_cons_zero, List.getElem_cons_succ]
        refine wpAnyH_take (i := 11) (v := ?v101) rfl (by kernel_rfl) (by kernel_rfl) (by kernel_rfl) (fun _ _ _ h => h) (Or.inl ⟨by rfl, ?hy101⟩) hHeld ?rest101
        case hy101 =>
          intro w hSw
          go_simp
          try with_reducible rfl
        try simp only [Act.put, List.setIfInBounds_toArray, List.set_cons_zero, List.set_cons_succ, Array.toArray_toList, List.getElem_toArray, List.getElem_cons_zero, List.getElem_cons_succ]
        refine wpAnyH_take (i := 12) (v := ?v102) rfl (by kernel_rfl) (by kernel_rfl) (by kernel_rfl) (fun _ _ _ h => h) (Or.inl ⟨by rfl, ?hy102⟩) hHeld ?rest102
        case hy102 =>
          intro w hSw
          go_simp
          try with_reducible rfl
        try simp only [Act.put, List.setIfInBounds_toArray, List.set_cons_zero, List.set_cons_succ, Array.toArray_toList, List.getElem_toArray, List.getElem_cons_zero, List.getElem_cons_succ]
        refine wpAnyH_take (i := 13) (v := ?v103) rfl (by kernel_rfl) (by kernel_rfl) (by kernel_rfl) (fun _ _ _ h => h) (Or.inl ⟨by rfl, ?hy103⟩) hHeld ?rest103
        case hy103 =>
          intro w hSw
          go_simp
          try with_reducible rfl
        try simp only [Act.put, List.setIfInBounds_toArray, List.set_cons_zero, List.set_cons_succ, Array.toArray_toList, List.getElem_toArray, List.getElem_cons_zero, List.getElem_cons_succ]
        refine wpAnyH_take (i := 14) (v := ?v104) rfl (by kernel_rfl) (by kernel_rfl) (by kernel_rfl) (fun _ _ _ h => h) (Or.inl ⟨by rfl, ?hy104⟩) hHeld ?rest104
        case hy104 =>
          intro w hSw
          go_simp
          try with_reducible rfl
        try simp only [Act.put, List.setIfInBounds_toArray, List.set_cons_zero, List.set_cons_succ, Array.toArray_toList, List.getElem_toArray, List.getElem_cons_zero, List.getElem_cons_succ]
        refine wpAnyH_take (i := 15) (v := ?v105) rfl (by kernel_rfl) (by kernel_rfl) (by kernel_rfl) (fun _ _ _ h => h) (Or.inl ⟨by rfl, ?hy105⟩) hHeld ?rest105
        case hy105 =>
          intro w hSw
          go_simp
          try with_reducible rfl
        try simp only [Act.put, List.setIfInBounds_toArray, List.set_cons_zero, List.set_cons_succ, Array.toArray_toList, List.getElem_toArray, List.getElem_cons_zero, List.getElem_cons_succ]
        refine wpAnyH_take (i := 16) (v := ?v106) rfl (by kernel_rfl) (by kernel_rfl) (by kernel_rfl) (fun _ _ _ h => h) (Or.inl ⟨by rfl, ?hy106⟩) hHeld ?rest106
        case hy106 =>
          intro w hSw
          go_simp
          try with_reducible rfl
        try simp only [Act.put, List.setIfInBounds_toArray, List.set_cons_zero, List.set_cons_succ, Array.toArray_toList, List.getElem_toArray, List.getElem_cons_zero, List.getElem_cons_succ]
        refine wpAnyH_take (i := 17) (v := ?v107) rfl (by kernel_rfl) (by kernel_rfl) (by kernel_rfl) (fun _ _ _ h => h) (Or.inl ⟨by rfl, ?hy107⟩) hHeld ?rest107
        case hy107 =>
          intro w hSw
          go_simp
          try with_reducible rfl
        try simp only [Act.put, List.setIfInBounds_toArray, List.set_cons_zero, List.set_cons_succ, Array.toArray_toList, List.getElem_toArray, List.getElem_cons_zero, List.getElem_cons_succ]
        refine wpAnyH_take (i := 18) (v := ?v108) rfl (by kernel_rfl) (by kernel_rfl) (by kernel_rfl) (fun _ _ _ h => h) (Or.inl ⟨by rfl, ?hy108⟩) hHeld ?rest108
        case hy108 =>
          intro w hSw
          go_simp
          try with_reducible rfl
        try simp only [Act.put, List.setIfInBounds_toArray, List.set_cons_zero, List.set_cons_succ, Array.toArray_toList, List.getElem_toArray, List.getElem_cons_zero, List.getElem_cons_succ]
        refine wpAnyH_take (i := 19) (v := ?v109) rfl (by kernel_rfl) (by kernel_rfl) (by kernel_rfl) (fun _ _ _ h => h) (Or.inl ⟨by rfl, ?hy109⟩) hHeld ?rest109
        case hy109 =>
          intro w hSw
          go_simp
          try with_reducible rfl
        try simp only [Act.put, List.setIfInBounds_toArray, List.set_cons_zero, List.set_cons_succ, Array.toArray_toList, List.getElem_toArray, List.getElem_cons_zero, List.getElem_cons_succ]
        refine wpAnyH_take (i := 21) (v := ?v110) rfl (by kernel_rfl) (by kernel_rfl) (by kernel_rfl) (fun _ _ _ h => h) (Or.inl ⟨by rfl, ?hy110⟩) hHeld ?rest110
        case hy110 =>
          intro w hSw
          have ld := HLY.out _ hSw.2
          go_simp
          try with_reducible rfl
        try simp only [Act.put, List.setIfInBounds_toArray, List.set_cons_zero, List.set_cons_succ, Array.toArray_toList, List.getElem_toArray, List.getElem_cons_zero, List.getElem_cons_succ]
        refine wpAnyH_ready (rs := [20]) (by kernel_rfl) (by simp) ?_
        refine AllReadyH.cons rfl (fun K hK => ?_) AllReadyH.nil
        go_simp
        refine (HRO2.out _ HBD.out).mono ?_
        rintro e we ⟨rfl, hje, ste⟩
        dsimp only
        have Se := hid (And.intro (ste.2.trans Sd.out.1) ((ste.1 y2 (by rw [EY2.out]; exact Nat.le_refl _) (Array.getElem?_eq_some_iff.1 Sd.out.2).1).trans Sd.out.2))
        have HHE := hid hje.hashes
        have HJ := hid hje
        clear hje ste
        refine hK.out _ _ (Se.out) (fun hHeld => ?_)
        clear hK K
        try simp only [Act.put, List.setIfInBounds_toArray, List.set_cons_zero, List.set_cons_succ, Array.toArray_toList, List.getElem_toArray, List.getElem_cons_zero, List.getElem_cons_succ]
        refine wpAnyH_take (i := 22) rfl (by kernel_rfl) (by kernel_rfl) (by kernel_rfl) (fun _ _ _ h => h) (yields_neo (by rfl) _ _ _ rfl C C rfl rfl) hHeld ?_
        rw [eqR_self, Bool.not_true]
        try simp only [Act.put, List.setIfInBounds_toArray, List.set_cons_zero, List.set_cons_succ, Array.toArray_toList, List.getElem_toArray, List.getElem_cons_zero, List.getElem_cons_succ]
        refine wpAnyH_take (i := 23) (v := ?v111) rfl (by kernel_rfl) (by kernel_rfl) (by kernel_rfl) (fun _ _ _ h => h) (Or.inl ⟨by rfl, ?hy111⟩) hHeld ?rest111
        case hy111 =>
          intro w hSw
          go_simp
          try with_reducible rfl
        try simp only [Act.put, List.setIfInBounds_toArray, List.set_cons_zero, List.set_cons_succ, Array.toArray_toList, List.getElem_toArray, List.getElem_cons_zero, List.getElem_cons_succ]
        refine wpAnyH_take (i := 24) (v := ?v112) rfl (by kernel_rfl) (by kernel_rfl) (by kernel_rfl) (fun _ _ _ h => h) (Or.inl ⟨by rfl, ?hy112⟩) hHeld ?rest112
        case hy112 =>
          intro w hSw
          go_simp
          try with_reducible rfl
        try simp only [Act.put, List.setIfInBounds_toArray, List.set_cons_zero, List.set_cons_succ, Array.toArray_toList, List.getElem_toArray, List.getElem_cons_zero, List.getElem_cons_succ]
        refine wpAnyH_take (i := 25) (v := ?v113) rfl (by kernel_rfl) (by kernel_rfl) (by kernel_rfl) (fun _ _ _ h => h) (Or.inl ⟨by rfl, ?hy113⟩) hHeld ?rest113
        case hy113 =>
          intro w hSw
          go_simp
          try with_reducible rfl
        try simp only [Act.put, List.setIfInBounds_toArray, List.set_cons_zero, List.set_cons_succ, Array.toArray_toList, List.getElem_toArray, List.getElem_cons_zero, List.getElem_cons_succ]
        refine wpAnyH_take (i := 27) (v := ?v114) rfl (by kernel_rfl) (by kernel_rfl) (by kernel_rfl) (fun _ _ _ h => h) (Or.inl ⟨by rfl, ?hy114⟩) hHeld ?rest114
        case hy114 =>
          intro w hSw
          go_simp
          try with_reducible rfl
        try simp only [Act.put, List.setIfInBounds_toArray, List.set_cons_zero, List.set_cons_succ, Array.toArray_toList, List.getElem_toArray, List.getElem_cons_zero, List.getElem_cons_succ]
        refine wpAnyH_ready (rs := [26]) (by kernel_rfl) (by simp) ?_
        refine AllReadyH.cons rfl (fun K hK => ?_) AllReadyH.nil
        go_simp
        refine (HHE.out).mono ?_
        rintro e wf ⟨rfl, hwf⟩
        dsimp only
        obtain rfl := hwf.symm
        refine hK.out _ _ (Se.out) (fun hHeld => ?_)
        clear hK K
        try simp only [Act.put, List.setIfInBounds_toArray, List.set_cons_zero, List.set_cons_succ, Array.toArray_toList, List.getElem_toArray, List.getElem_cons_zero, List.getElem_cons_succ]
        refine wpAnyH_take (i := 28) (v := ?v115) rfl (by kernel_rfl) (by kernel_rfl) (by kernel_rfl) (fun _ _ _ h => h) (Or.inl ⟨by rfl, ?hy115⟩) hHeld ?rest115
        case hy115 =>
          intro w hSw
          go_simp
          try with_reducible rfl
        try simp only [Act.put, List.setIfInBounds_toArray, List.set_cons_zero, List.set_cons_succ, Array.toArray_toList, List.getElem_toArray, List.getElem_cons_zero, List.getElem_cons_succ]
        refine wpAnyH_take (i := 29) (v := ?v116) rfl (by kernel_rfl) (by kernel_rfl) (by kernel_rfl) (fun _ _ _ h => h) (Or.inl ⟨by rfl, ?hy116⟩) hHeld ?rest116
        case hy116 =>
          intro w hSw
          go_simp
          try with_reducible rfl
        try simp only [Act.put, List.setIfInBounds_toArray, List.set_cons_zero, List.set_cons_succ, Array.toArray_toList, List.getElem_toArray, List.getElem_cons_zero, List.getElem_cons_succ]
        refine wpAnyH_done (by kernel_rfl) ?_ _
        refine NoPanic.normal ?_
        clear HSS Sc Sd Se HRR HMO HRO2 HHE HBX HBC HBD HLQ HLY HRQ dd1 dd2 HHS
        go_wp2
        go_roundw
        case rel => exact ⟨k + 1, t, L, _, 0, hs2, 0, by omega, by omega, by go_num, rfl, by go_num, HJ.out, by omega, by omega, by omega, by omega⟩
        case measure => simp [intOf]; omega
      · -- kind 3
        have hkk : (kk.tmod 6 + 6) % 6 = 3 := by have := EKD.out; omega
        clear EKD
        go_upto_region 32 with fail
        clear cy0 x1 x2
        have HJ := hid (HG.out.below HB1w.out)
        have h1 := HHS.out.1
        have h2 := HHS.out.2
        clear HHS
        go_wp2
        go_roundw
        case rel => exact ⟨k + 1, t, L, _, cn, hs, kc, by omega, by omega, by go_num, rfl, by go_num, HJ.out, by omega, by omega, by omega, by omega⟩
        case measure => simp [intOf]; omega
      · -- kind 4
        have hkk : (kk.tmod 6 + 6) % 6 = 4 := by have := EKD.out; omega
        clear EKD
        go_upto_region 29 with fail
        clear cy0 hkk x1 x2
        have hcp := (HG.out.below HB1w.out).tcopy
        obtain ⟨t2, et2⟩ : ∃ t2, W1.heap.size = t2 := ⟨_, rfl⟩
        rw [et2] at hcp
        have HCP := hid hcp
        clear hcp et2 HHS
        go_wp2_with (first
          | (go_at_call 13; refine HCP.out.mono ?_; rintro e X2 ⟨rfl, hb3, hj3⟩; have HH := hid hj3.hashes; have HJ := hid hj3; clear hb3 hj3)
          | (go_at_call 16; refine HH.out.mono ?_; rintro e X3 ⟨rfl, hx3⟩; obtain rfl := hx3.symm))
        go_roundw
        case rel => exact ⟨k + 1, t2, L, _, cn, 0, kc, by omega, by omega, by go_num, rfl, by go_num, HJ.out, by omega, by omega, by omega, by omega⟩
        case measure => simp [intOf]; omega
      · -- kind 5
        have hkk : (kk.tmod 6 + 6) % 6 = 5 := by have := EKD.out; omega
        clear EKD
        go_upto_region 14 with fail
        clear cy0 hkk x1 x2
        have hts := (HG.out).tapp (HB1w.out) c HCB.out
        have HTS := hid hts
        have lc := HLC.out _ HRY.out
        clear hts
        go_upto_region 15 with (go_at_call 15; refine HTS.out.mono ?_; rintro e w2 ⟨rfl, cn2, hcn2, hj2, hs2⟩)
        have S2 := HST.out _ _ hs2.1 HRY.out
        have hrs := hj2.rapp hLm c
        have HRS := hid hrs
        clear lc hrs HTS hj2 hs2
        have lc := HLC.out _ S2
        have hcnk : cn2 ≤ kc + 1 := by omega
        clear S2
        go_wp2_with (go_at_call 20; refine HRS.out.mono ?_; rintro e w3 ⟨rfl, hj3, hs3⟩)
        have HJ := hid hj3
        have h1 := HHS.out.1
        have h2 := HHS.out.2
        clear hj3 hs3 HHS
        go_roundw
        case rel => exact ⟨k + 1, t, _, _, cn2, hs, kc + 1, by omega, by omega, by go_num, rfl, by go_num, HJ.out, by omega, by omega, by omega, by omega⟩
        case measure => simp [intOf]; omega
    · have HG := hid hg
      have hcase : (¬ k < len) ∨ (k < len ∧ ¬ k < 100) := by omega
      clear hg hlt
      rcases hcase with hc | ⟨hc1, hc2⟩
      · have b1 : decide (k < len) = false := by simp; omega
        have b2 : decide ((k : Int) < (len : Int)) = false := by simp; omega
        go_wp2
        go_ret
        exact ⟨rfl, HG.out.bel⟩
      · have b1 : decide (k < len) = true := by simp; omega
        have b2 : decide ((k : Int) < (len : Int)) = true := by simp; omega
        have b3 : decide (k < 100) = false := by simp; omega
        have b4 : decide ((k : Int) < 100) = false := by simp; omega
        go_wp2
        go_ret
        exact ⟨rfl, HG.out.bel⟩

set_option maxRecDepth 20000 in
set_option maxHeartbeats 2000000 in
theorem work_none (n : Int) (a : Option Addr) (len cap : Nat) (w : World) (hS : Sh w) (hn : ¬ (1 ≤ n ∧ n ≤ 1073741824)) (h0 : -9223372036854775808 ≤ n) (h1 : n ≤ 9223372036854775807) :
    Calls Tryd.prog 4 #[.int .i64 n, .slice a len cap] w fun e w' => e = .returned (.bool true) ∧ Below w.heap.size w w' := by
  have haw := awake6 w hS
  have HAW := hid haw
  have hrn := fun W => rnew6 n W h0 h1
  rw [decide_eq_false hn] at hrn
  have HRN := hid hrn
  have HNN := hid (fun W => tnew_none n W hn h0 h1)
  have zr28 := zero_ref
  have sv := fun W => sv28_new W n none 0 0 (rtA 0 (.slice none 0 0)) rfl
  clear haw hS hrn hn
  go_enter Tryd.func4, Tryd.ntmps4
  go_wp2_with (first
    | (go_at_call 8; refine HAW.out.mono ?_; rintro e w1 ⟨rfl, hb1⟩)
    | (go_at_call 9; refine (HNN.out _).mono ?_; rintro e w2 ⟨rfl, hw2⟩; obtain rfl := hw2.symm)
    | (go_at_call 10; refine (HRN.out _).mono ?_; rintro e w3 ⟨rfl, hb3⟩))
  go_ret
  exact ⟨rfl, (hb1.trans (hb3.mono hb1.size)).alloc (by have := hb1.size; have := hb3.size; omega) _⟩

end Go.Proofs.YtjimdkpppgjokaaDoor
