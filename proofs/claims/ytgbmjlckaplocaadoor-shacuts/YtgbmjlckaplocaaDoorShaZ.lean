/-
  What ShaCuts answers.
-/
import Derived.Test.YtgbmjlckaplocaaDoorShaY
import Derived.Deep.Cut
import Derived.Deep.CutRange
import Derived.Deep.CutBlock
namespace Go.Proofs.YtgbmjlckaplocaaDoor
open Go.RowKit
set_option linter.unusedVariables false
set_option linter.unusedSimpArgs false

attribute [local go_sem ↓] sl22_eq

theorem sl_part (ao : Option Addr) (len cap lo hi : Nat) (l h : Option Value) (m : Nat → Int) (hl : l = some (.int .i64 lo) ∨ l = none ∧ lo = 0) (hh : h = some (.int .i64 hi) ∨ h = none ∧ hi = len) (h1 : lo ≤ hi) (h2 : hi ≤ len) (h3 : len ≤ cap) :
    ∃ A, (∀ W, (sl22 (.slice ao len cap) l h).run Tryd.prog W = .ok (.slice A (hi - lo) (cap - lo)) W) ∧ ∀ W, Bys W ao len cap m → Bys W A (hi - lo) (cap - lo) (fun j => m (lo + j)) :=
  ⟨_, fun W => sl22_run W ao len cap lo hi l h hl hh h1 h2 h3, fun W hb => bys_part hb lo hi h1 h2⟩

theorem bys_old {w : World} {a : Option Addr} {n c : Nat} {m : Nat → Int} (h : Bys w a n c m) (hp : 0 < n) {b off : Nat} (ha : a = some ⟨b, off, none⟩) : b < w.heap.size := by
  rcases h with ⟨_, h, _⟩ | ⟨_, _, h⟩ | ⟨b', off', h1, _, _, h4, _⟩
  · omega
  · omega
  · rw [h1] at ha
    cases ha
    exact h4
theorem own_slice {w : World} {base : Nat} {e : TypeId} {v : Value} {n : Nat} {xs : List Value} (h : w.ownsRow base e 1 v n xs) : ∃ a C, v = .slice a n C ∧ (0 < n → ∃ g, a = some ⟨g, 0, none⟩) := by
  rcases h.2 with ⟨h1, h2⟩ | ⟨g, cap, cur, h1, _⟩
  · subst h2
    exact ⟨none, 0, h1, fun h => by omega⟩
  · exact ⟨_, cap, h1, fun _ => ⟨g, rfl⟩⟩
theorem own_kept_dig {w w' : World} {base : Nat} {e : TypeId} {v : Value} {n : Nat} {xs : List Value} {g : Nat} {s f : Nat → Int} {m : Int} (h : w.ownsRow base e 1 v n xs) (he : e ≠ 47) (hg : w.heap[g]? = some (.cells (dg s f m) 47)) (hk : Kept g w w') : w'.ownsRow base e 1 v n xs :=
  ownsRow_kept h fun g' cur hg' => hk.block g' (Array.getElem?_eq_some_iff.1 hg').1 (by
    rintro rfl
    rw [hg] at hg'
    injection hg' with hg'
    injection hg' with _ hg' _
    exact he hg'.symm)
theorem kept_chain {a b c d : World} {z q : Nat} (h1 : Below z a b) (hz : a.heap.size = z) (h2 : Kept q b c) (h3 : Below z c d) : Kept q a d :=
  ⟨h3.os.trans (h2.os.trans h1.os), h3.tape.trans (h2.tape.trans h1.tape), h3.output.trans (h2.output.trans h1.output), Nat.le_trans h1.size (Nat.le_trans h2.size h3.size), fun k hk hn => (h3.block k (by omega)).trans ((h2.block k (Nat.lt_of_lt_of_le hk h1.size) hn).trans (h1.block k (by omega)))⟩

set_option maxRecDepth 20000 in
set_option maxHeartbeats 2000000 in
theorem cuts_any (mm : Nat → Int) (ao : Option Addr) (len cap : Nat) (co : Option Addr) (cl cc : Nat) (zc : Nat → Int) (w : World) (hb : Bys w ao len cap mm) (hm : ∀ j, j < len → 0 ≤ mm j ∧ mm j < 256) (hlen : len ≤ 140737488351232) (hlc : len ≤ cap) (hcap : cap ≤ 9223372036854775807)
    (hcut : ∀ i, i < cl → ∃ cb coff, co = some ⟨cb, coff, none⟩ ∧ cb < w.heap.size ∧ w.cell? ⟨cb, coff + i, none⟩ = some (.int .i64 (zc i)) ∧ -9223372036854775808 ≤ zc i ∧ zc i ≤ 9223372036854775807) (hcl : cl ≤ 9223372036854775807)
    (hH : Tab w 0 8 HW) (hK : Tab w 2 64 KW) :
    Calls Tryd.prog 4 #[.slice ao len cap, .slice co cl cc] w fun e w' => e = .returned (.bool true) ∧ Below w.heap.size w w' := by
  obtain ⟨c0, hc0⟩ : ∃ c, shaV KW HW mm 0 = c := ⟨_, rfl⟩
  have HHH := hid hH
  have HK := hid hK
  have HBY := hid hb
  have HMM := hid hm
  have HCU := hid hcut
  have HC0 := hid hc0
  have haw := hid (awake_any w hH hK)
  clear hH hK hb hm hcut hc0
  go_enter Tryd.func4, Tryd.ntmps4
  go_upto_region 3 with (go_at_call 8; refine haw.out.mono ?_; rintro e w1 ⟨rfl, hb1⟩)
  have z0 := hb1.size
  have hk0 := HK.out.1
  obtain ⟨W2, hW2⟩ : ∃ W, w1.alloc (.cells (dg HW (fun _ => 0) 0) 47) = W := ⟨_, rfl⟩
  have g2 : W2.heap[w1.heap.size]? = some (.cells (dg HW (fun _ => 0) ((0 : Nat) : Int)) 47) := by rw [← hW2]; exact heap_new rfl
  have hb2 : Below w1.heap.size w1 W2 := by rw [← hW2]; exact (Below.refl _ _).alloc (Nat.le_refl _) _
  have hn := new_any HW w1 (HHH.out.below hb1)
  rw [hW2] at hn
  have z2 : W2.heap.size = w1.heap.size + 1 := by rw [← hW2]; simp
  obtain ⟨q, hq⟩ : ∃ q, w1.heap.size = q := ⟨_, rfl⟩
  rw [hq] at hn z2 g2 hb2 z0
  have hB2 : Below w.heap.size w W2 := hb1.trans (hb2.mono z0)
  have hds := dsum_any KW HW mm q HW (fun _ => 0) 0 W2 (dig_new KW HW _ HW_bd) g2 (HK.out.below hB2) (by omega)
  have hsz : ∀ w', Below W2.heap.size W2 w' → Calls Tryd.prog 9 #[.slice none 0 0] w' fun e w'' => e = .returned (.agg (vs .u8 32 c0)) ∧ Below w'.heap.size w' w'' := by
    intro w' h
    have hB : Below w.heap.size w w' := hB2.trans (h.mono (by omega))
    rw [← HC0.out]
    exact sum_zero KW HW mm none 0 w' (HHH.out.below hB) (HK.out.below hB) HW_bd
  rw [HC0.out] at hds
  have HN := hid hn
  have HDS := hid hds
  have HSZ := hid hsz
  have H2 : Hid (Below w.heap.size w W2 ∧ W2.heap[q]? = some (.cells (dg HW (fun _ => 0) ((0 : Nat) : Int)) 47) ∧ w.heap.size ≤ q ∧ W2.heap.size = q + 1 ∧ 2 < w.heap.size) := ⟨hB2, g2, z0, z2, hk0⟩
  have q32 := fun w => eq32 w c0
  clear z0 hk0 hW2 g2 hb2 hn z2 hq hB2 hds hsz hb1 haw
  go_upto_region 6 with (first
    | (go_at_call 13; refine HN.out.mono ?_; rintro e w2 ⟨rfl, rfl⟩)
    | (go_at_call 14; refine HDS.out.mono ?_; rintro e w3 ⟨rfl, hb3⟩)
    | (go_at_call 9; refine (HSZ.out _ hb3).mono ?_; rintro e w4 ⟨rfl, hb4⟩))
  clear q32 HN HDS HSZ
  obtain ⟨hB2, g2, hBq, z2, hk0⟩ := H2.out
  have z3 := hb3.size
  have z4 := hb4.size
  have hB4 : Below w.heap.size w w4 := (hB2.trans (hb3.mono (by omega))).trans (hb4.mono (by omega))
  have g4 := (hb4.block q (by omega)).trans ((hb3.block q (by omega)).trans g2)
  have HBQ := hid (And.intro hBq hk0)
  have H4 : Hid (Below w.heap.size w w4 ∧ w4.heap[q]? = some (.cells (dg HW (fun _ => 0) ((0 : Nat) : Int)) 47) ∧ q < w4.heap.size) := ⟨hB4, g4, by omega⟩
  clear hB2 g2 hBq z2 hk0 z3 z4 hB4 g4 hb3 hb4 H2
  go_upto_block 0 with fail
  go_cut [6, 7, 8] from 14 (fun v6 v7 v8 wx => ∃ (t nc : Nat) (p E : Nat → Nat) (s f : Nat → Int), v6 = .int .i64 t ∧ t ≤ len ∧ nc ≤ 60 ∧ Below w.heap.size w wx ∧ q < wx.heap.size ∧ Dig KW HW mm t s f ∧ wx.heap[q]? = some (.cells (dg s f (t : Int)) 47) ∧ Cps wx mm w.heap.size q len nc v7 v8 p E)
  case first =>
    go_wp2_with fail
    go_loopw [6, 7, 8, 9] (fun v6 v7 v8 v9 wr => ∃ (i t nc : Nat) (p E : Nat → Nat) (s f : Nat → Int), v9 = .int .i64 i ∧ v6 = .int .i64 t ∧ i ≤ 60 ∧ i ≤ cl ∧ t ≤ len ∧ nc ≤ i ∧ Below w.heap.size w wr ∧ q < wr.heap.size ∧ Dig KW HW mm t s f ∧ wr.heap[q]? = some (.cells (dg s f (t : Int)) 47) ∧ Cps wr mm w.heap.size q len nc v7 v8 p E) (fun _ _ _ v9 _ => 60 - (intOf v9).toNat)
    case atStart => exact ⟨0, 0, 0, fun _ => 0, fun _ => 0, HW, fun _ => 0, rfl, rfl, by omega, by omega, by omega, by omega, H4.out.1, H4.out.2.2, dig_new KW HW _ HW_bd, H4.out.2.1, ⟨World.ownsRow_nil _ _ _ _, World.ownsRow_nil _ _ _ _, fun k hk => by omega, fun j k _ hk => by omega⟩⟩
    case round =>
      obtain ⟨i, t, nc, p, E, s, f, rfl, rfl, hi60, hicl, htl, hnc, hB, hql, hd, hg, hcps⟩ := hrel
      clear H4
      by_cases hlt : i < cl ∧ i < 60
      · obtain ⟨cb, coff, rfl, hcb, hcell, hz1, hz2⟩ := HCU.out i hlt.1
        obtain ⟨i1, i2⟩ := hlt
        have hcr := (below_cell hB hcb).trans hcell
        obtain ⟨z, ez⟩ : ∃ z, zc i = z := ⟨_, rfl⟩
        rw [ez] at hcr hz1 hz2
        obtain ⟨x1, e1⟩ : ∃ x1, z.tmod 130 = x1 := ⟨_, rfl⟩
        have b1 : -130 < z.tmod 130 ∧ z.tmod 130 < 130 := ⟨Int.lt_tmod_of_pos z (by omega), Int.tmod_lt_of_pos z (by omega)⟩
        rw [e1] at b1
        obtain ⟨b11, b12⟩ := b1
        obtain ⟨N0, e2, hN⟩ : ∃ N : Nat, (x1 + 130) % 130 = (N : Int) ∧ N < 130 := ⟨((x1 + 130) % 130).toNat, by omega, by omega⟩
        have e2' : (x1 + 130).tmod 130 = (N0 : Int) := by rw [Int.tmod_eq_emod_of_nonneg (by omega)]; exact e2
        obtain ⟨d0, e5, hd0⟩ : ∃ d0 : Nat, (len : Int) - (t : Int) = (d0 : Int) ∧ t + d0 = len := ⟨len - t, by omega, by omega⟩
        have j1 : (i : Int) < (cl : Int) := by omega
        have j2 : (i : Int) < 60 := by omega
        have j3 : (0 : Int) ≤ (i : Int) := by omega
        have j4 : (len : Int) ≤ 140737488351232 := by omega
        have HB := hid hB
        have HQL := hid hql
        have HD := hid hd
        have HG := hid hg
        have HCP := hid hcps
        have HNN := hid (And.intro hi60 (And.intro hicl (And.intro hnc (And.intro i1 i2))))
        clear ez hcell hcb hB hql hd hg hcps hi60 hicl hnc i1 i2
        go_upto_if 47 with fail
        go_cut [10] from 25 to 102 (fun v wx => ∃ n : Nat, v = .int .i64 n ∧ t + n ≤ len ∧ wr = wx)
        case first =>
          rcases (by omega : d0 < N0 ∨ N0 ≤ d0) with hgt | hgt
          · have k1 : (d0 : Int) < (N0 : Int) := by omega
            go_wp2
            go_meet
            exact ⟨d0, rfl, by omega, rfl⟩
          · have k1 : ¬ (d0 : Int) < (N0 : Int) := by omega
            go_wp2
            go_meet
            exact ⟨N0, rfl, by omega, rfl⟩
        case rest =>
          obtain ⟨n, rfl, hnl, hw⟩ := hcut
          subst hw
          clear e1 e2 e2' b11 b12 e5 hcr hz1 hz2 j1 hd0 hN
          obtain ⟨A1, hA1, hp1⟩ := sl_part ao len cap t (t + n) (some (.int .i64 t)) (some (.int .i64 ((t : Int) + (n : Int)))) mm (.inl rfl) (.inl (by rw [Int.natCast_add])) (by omega) hnl hlc
          rw [show t + n - t = n by omega] at hA1 hp1
          have hby1 := hp1 w HBY.out
          obtain ⟨M1, hM1⟩ : ∃ M : Nat → Int, (fun j => mm (t + j)) = M := ⟨_, rfl⟩
          rw [hM1] at hby1
          have HBY1 := hid (hby1.below HB.out)
          have m1 : (t : Int) + (n : Int) ≤ 140737488351232 := by omega
          have m2 : (0 : Int) ≤ (t : Int) + (n : Int) := by omega
          have m3 : 0 + n ≤ 140737488355328 := by omega
          have HM1 := hid hM1
          clear hp1 hby1 hM1
          go_upto_region 16 with (at_builtin; refine wpList_append_bys _ rfl _ _ rfl wr.heap.size _ 0 [] rfl (World.ownsRow_made _ #[] 0 (Nat.le_refl _) (Nat.zero_le _) rfl) A1 n (cap - t) M1 rfl (HBY1.out.below (by go_grown)) m3 (by simp) ?_; intro v2 w2 ho2 hg2; rw [Nat.zero_add, List.nil_append] at ho2)
          have e2 : Below wr.heap.size wr w2 := below_grown ((Below.refl _ _).alloc (Nat.le_refl _) _) (World.ownsRow_made _ #[] 0 (Nat.le_refl _) (Nat.zero_le _) rfl) (by simp) hg2
          obtain ⟨ga, C, hv2, hbz, hge, hrow⟩ := own_bytes ho2
          subst hv2
          have hql := HQL.out
          have hz2 := e2.size
          have hbq := HBQ.out
          have hB2 : Below w.heap.size w w2 := HB.out.trans (e2.mono HB.out.size)
          obtain ⟨z0, hz0⟩ : ∃ z0, wr.heap.size = z0 := ⟨_, rfl⟩
          rw [hz0] at hge hrow e2 hql hz2
          have hw := write_byz KW HW mm q s f t n C ga w2 HD.out ((e2.block q hql).trans HG.out) (HK.out.below hB2) (by omega) (by rw [HM1.out]; exact hbz) (fun _ b off h => by have := hge b off h; omega) (fun j hj => HMM.out _ (by omega)) (by omega)
          have HWR := hid hw
          have H5 : Hid (Below z0 wr w2 ∧ wr.heap.size = z0 ∧ q < z0 ∧ Below w.heap.size w w2) := ⟨e2, hz0, hql, hB2⟩
          have HROW := hid hrow
          clear hA1 hg2 ho2 hbz hge hrow hql hz2 hbq hB2 hw e2 hz0 HBY1 HM1
          go_wp2_with (go_at_call 15; refine HWR.out.mono ?_; rintro e w3 ⟨rfl, hkp3, s3, f3, hd3, hg3⟩)
          have HKP3 := hid hkp3
          have HD3 := hid hd3
          have HG3 := hid hg3
          clear hkp3 hd3 hg3 HWR
          go_loopw [12] (fun v wx => ∃ k : Nat, k ≤ n ∧ v = .int .i64 k ∧ Below z0 w3 wx ∧ (0 < n → ∃ g cur, ga = some ⟨g, 0, none⟩ ∧ z0 ≤ g ∧ wx.heap[g]? = some (.cells cur 5) ∧ n ≤ cur.size)) (fun v _ => n - (intOf v).toNat)
          case atStart =>
            refine ⟨0, by omega, rfl, Below.refl _ _, fun h => ?_⟩
            obtain ⟨g, cur, a1, a2, a3, a4⟩ := HROW.out h
            have := H5.out.2.2.1
            exact ⟨g, cur, a1, a2, (HKP3.out.block g (Array.getElem?_eq_some_iff.1 a3).1 (by omega)).trans a3, a4⟩
          case round =>
            obtain ⟨k, hkn, rfl, hbx, hrow⟩ := hrel
            by_cases hk : k < n
            · obtain ⟨g, cur, hga, hzg, hr, hsz⟩ := hrow (by omega)
              subst hga
              have ck := row_cell hr k
              rw [Array.getElem?_eq_getElem (by omega)] at ck
              have fk := row_frozen hr k
              obtain ⟨u, hu⟩ : ∃ u, cur[k]'(by omega) = u := ⟨_, rfl⟩
              rw [hu] at ck
              have k1 : (k : Int) < (n : Int) := by omega
              have k2 : (0 : Int) ≤ (k : Int) := by omega
              have HR := hid hr
              have HBX := hid hbx
              have HSZ := hid (And.intro hsz hzg)
              clear hr hbx hsz hzg hu hrow
              go_wp2
              go_roundw
              case rel =>
                refine ⟨k + 1, by omega, by go_num, HBX.out.setCell (by have := HSZ.out.2; simp; omega) _, fun _ => ⟨g, _, rfl, HSZ.out.2, row_set HR.out k _, ?_⟩⟩
                rw [Array.size_setIfInBounds]
                exact HSZ.out.1
              case measure => simp [intOf]; omega
            · have ek : k = n := by omega
              subst ek
              have hxx := H5.out
              obtain ⟨e2, hz0, hql, hB2⟩ := hxx
              have KPX := kept_chain e2 hz0 HKP3.out hbx
              have gx := (hbx.block q hql).trans HG3.out
              have cpx := HCP.out.keep HG.out KPX
              have hbq := HBQ.out
              have hBx := HB.out.trans (KPX.below hbq.1 (HB.out).size)
              have qx := Nat.lt_of_lt_of_le (hz0 ▸ hql) KPX.size
              obtain ⟨t2, ht2⟩ : ∃ t2, t + k = t2 := ⟨_, rfl⟩
              have e6 : (t : Int) + (k : Int) = (t2 : Int) := by omega
              rw [ht2] at gx HD3 HG3
              have HT2 : Hid (t + k = t2 ∧ t2 ≤ len ∧ q < wr.heap.size ∧ w.heap.size ≤ q) := ⟨ht2, by omega, qx, hbq.1⟩
              have HBXX := hid hBx
              have GX := hid gx
              have HCX := hid cpx
              have HNC := hid HNN.out.2.2.1
              clear e2 hz0 hql hB2 KPX gx cpx hbq hBx qx ht2 hbx hrow hk hkn HROW H5 HKP3 HCP HG HD HB HQL m1 m2 m3 hnl
              have m4 : (t2 : Int) ≤ 140737488351232 := by have := HT2.out; omega
              by_cases h7 : i % 7 = 3
              · have r7 : (i : Int) % 7 = 3 := by omega
                have r7' : (i : Int).tmod 7 = 3 := by rw [Int.tmod_eq_emod_of_nonneg j3]; exact r7
                have hcy : Calls Tryd.prog 16 #[.pointer (some ⟨q, 0, none⟩)] wr fun e w4 => e = .returned (.pointer (some ⟨wr.heap.size, 0, none⟩)) ∧ Hid (w4 = wr.alloc (.cells (dg s3 f3 (t2 : Int)) 47)) ∧ Hid (w4.ownsRow w.heap.size 30 1 u7 nc ((List.range nc).map fun k => Value.pointer (some ⟨p k, 0, none⟩))) ∧ Hid (w4.heap.size = wr.heap.size + 1) := by
                  refine (copy_any q s3 f3 t2 wr GX.out).mono ?_
                  rintro e w4 ⟨rfl, rfl⟩
                  exact ⟨rfl, rfl, HCX.out.own7.alloc _, by show (wr.alloc _).heap.size = _; simp⟩
                have HCY := hid hcy
                have hn100 : nc ≤ 100 := by have := HNN.out; omega
                have hbs := (HBXX.out).size
                clear hcy h7
                go_upto_region 25 with (first
                  | (go_at_call 16; refine HCY.out.mono ?_; rintro e w4 ⟨rfl, HW4, HO4, HZ4⟩)
                  | (at_builtin; (refine wpList_append_ptr _ rfl _ _ rfl w.heap.size u7 nc _ (.pointer (some ⟨wr.heap.size, 0, none⟩)) rfl rfl HO4.out rfl hn100 (by have := HZ4.out; omega) ?_); intro v7 w5 ho5 hg5; have HO5 := hid ho5; have HG5 := hid hg5; have ho85 := HCX.out.mid (dg s3 f3 t2) (by rw [← HW4.out]; exact hg5); have HO85 := hid ho85; have HZ5 := hid hg5.size; clear ho5 hg5 ho85)
                  | (at_builtin; (refine wpList_append_num _ rfl _ _ rfl w.heap.size u8 nc _ (.int .i64 t2) rfl rfl HO85.out rfl hn100 (by have := HZ5.out; have := HZ4.out; omega) ?_); intro v8 w6 ho6 hg6; have HO6 := hid ho6; have HG6 := hid hg6; clear ho6 hg6))
                obtain ⟨p', E', cp6, g6, hb6⟩ := HCX.out.snoc HD3.out HT2.out.2.1 HT2.out.2.2.1 GX.out HT2.out.2.2.2 HW4.out HO5.out HG5.out HO6.out HG6.out
                have H6 : Hid (Below w.heap.size w w6 ∧ q < w6.heap.size ∧ w6.heap[q]? = some (.cells (dg s3 f3 (t2 : Int)) 47) ∧ Cps w6 mm w.heap.size q len (nc + 1) v7 v8 p' E') := ⟨(HBXX.out).trans hb6, (Array.getElem?_eq_some_iff.1 g6).1, g6, cp6⟩
                clear cp6 g6 hb6 HO6 HG6 HO5 HG5 HO4 HZ4 HZ5 HO85 HW4 HCY HCX GX r7 r7' hbs e6
                obtain ⟨A2, hA2, hp2⟩ := sl_part ao len cap 0 t2 none (some (.int .i64 t2)) mm (.inr ⟨rfl, rfl⟩) (.inl rfl) (by omega) HT2.out.2.1 hlc
                simp only [Nat.sub_zero, Nat.zero_add] at hA2 hp2
                obtain ⟨cT, hcT⟩ : ∃ c, shaV KW HW mm t2 = c := ⟨_, rfl⟩
                obtain ⟨z6, hz6⟩ : ∃ z, w6.heap.size = z := ⟨_, rfl⟩
                have hql6 := (H6.out).2.1
                rw [hz6] at hql6
                have hbs6 := (H6.out).1.size
                have hbw : ∀ w', Below z6 w6 w' → Below w.heap.size w w' := fun w' h => (H6.out).1.trans (h.mono (by omega))
                have hdr : Below z6 w6 w6.drew := ⟨rfl, rfl, rfl, Nat.le_refl _, fun _ _ => rfl⟩
                have hds : ∀ w', Below z6 w6 w' → Calls Tryd.prog 14 #[.pointer (some ⟨q, 0, none⟩)] w' fun e w'' => e = .returned (.agg (vs .u8 32 cT)) ∧ Below z6 w6 w'' := by
                  intro w' h
                  rw [← hcT]
                  refine (dsum_any KW HW mm q s3 f3 t2 w' HD3.out ((h.block q hql6).trans (H6.out).2.2.1) (HK.out.below (hbw w' h)) (by have := HT2.out.2.1; omega)).mono ?_
                  rintro e w'' ⟨rfl, hb⟩
                  exact ⟨rfl, h.trans (hb.mono (by have := h.size; omega))⟩
                have hsm : ∀ w', Below z6 w6 w' → Calls Tryd.prog 9 #[.slice A2 t2 cap] w' fun e w'' => e = .returned (.agg (vs .u8 32 cT)) ∧ Below z6 w6 w'' := by
                  intro w' h
                  rw [← hcT]
                  refine (sum_byz KW HW mm A2 t2 cap w' (HHH.out.below (hbw w' h)) (HK.out.below (hbw w' h)) HW_bd (hp2 w' (HBY.out.below (hbw w' h))).byz (fun j hj => HMM.out j (by have := HT2.out.2.1; omega)) (by have := HT2.out.2.1; omega)).mono ?_
                  rintro e w'' ⟨rfl, hb⟩
                  exact ⟨rfl, h.trans (hb.mono (by have := h.size; omega))⟩
                have q32 := fun w => eq32 w cT
                have HDS := hid hds
                have HSM := hid hsm
                have HBW := hid hbw
                have HQ6 := hid hql6
                have HZ6 := hid hz6
                have u1 : (t2 : Int) ≤ (len : Int) := by have := HT2.out.2.1; omega
                have u2 : (0 : Int) ≤ (t2 : Int) := by omega
                clear hp2 hcT hz6 hbs6 hds hsm hbw hql6
                go_region_with (first
                  | (go_at_call 14; refine (HDS.out _ (by assumption)).mono ?_; rintro e wA ⟨rfl, hbA⟩)
                  | (go_at_call 9; refine (HSM.out _ (by assumption)).mono ?_; rintro e wA ⟨rfl, hbA⟩))
                all_goals
                  go_wp2
                  obtain ⟨b1, b2, b3, b4⟩ := HNN.out
                  obtain ⟨c1, c2, c3, c4⟩ := H6.out
                  have hz := HZ6.out
                  have hlast := hbA.size
                  have hq6 := HQ6.out
                  refine ⟨⟨i + 1, t2, nc + 1, _, _, s3, f3, by go_num, rfl, by omega, by omega, HT2.out.2.1, by omega, HBW.out _ hbA, by omega, HD3.out, (hbA.block q hq6).trans c3, c4.below (hz ▸ hbA)⟩, ?_⟩
                  simp [intOf]
                  omega
              · have r7 : ¬ (i : Int) % 7 = 3 := by omega
                have r7' : ¬ (i : Int).tmod 7 = 3 := by rw [Int.tmod_eq_emod_of_nonneg j3]; exact r7
                have H6 : Hid (Below w.heap.size w wr ∧ q < wr.heap.size ∧ wr.heap[q]? = some (.cells (dg s3 f3 (t2 : Int)) 47) ∧ Cps wr mm w.heap.size q len nc u7 u8 p E) := ⟨HBXX.out, HT2.out.2.2.1, GX.out, HCX.out⟩
                go_upto_region 25 with fail
                clear r7 r7' h7 e6
                obtain ⟨A2, hA2, hp2⟩ := sl_part ao len cap 0 t2 none (some (.int .i64 t2)) mm (.inr ⟨rfl, rfl⟩) (.inl rfl) (by omega) HT2.out.2.1 hlc
                simp only [Nat.sub_zero, Nat.zero_add] at hA2 hp2
                obtain ⟨cT, hcT⟩ : ∃ c, shaV KW HW mm t2 = c := ⟨_, rfl⟩
                obtain ⟨z6, hz6⟩ : ∃ z, wr.heap.size = z := ⟨_, rfl⟩
                have hql6 := (H6.out).2.1
                rw [hz6] at hql6
                have hbs6 := (H6.out).1.size
                have hbw : ∀ w', Below z6 wr w' → Below w.heap.size w w' := fun w' h => (H6.out).1.trans (h.mono (by omega))
                have hdr : Below z6 wr wr.drew := ⟨rfl, rfl, rfl, Nat.le_refl _, fun _ _ => rfl⟩
                have hds : ∀ w', Below z6 wr w' → Calls Tryd.prog 14 #[.pointer (some ⟨q, 0, none⟩)] w' fun e w'' => e = .returned (.agg (vs .u8 32 cT)) ∧ Below z6 wr w'' := by
                  intro w' h
                  rw [← hcT]
                  refine (dsum_any KW HW mm q s3 f3 t2 w' HD3.out ((h.block q hql6).trans (H6.out).2.2.1) (HK.out.below (hbw w' h)) (by have := HT2.out.2.1; omega)).mono ?_
                  rintro e w'' ⟨rfl, hb⟩
                  exact ⟨rfl, h.trans (hb.mono (by have := h.size; omega))⟩
                have hsm : ∀ w', Below z6 wr w' → Calls Tryd.prog 9 #[.slice A2 t2 cap] w' fun e w'' => e = .returned (.agg (vs .u8 32 cT)) ∧ Below z6 wr w'' := by
                  intro w' h
                  rw [← hcT]
                  refine (sum_byz KW HW mm A2 t2 cap w' (HHH.out.below (hbw w' h)) (HK.out.below (hbw w' h)) HW_bd (hp2 w' (HBY.out.below (hbw w' h))).byz (fun j hj => HMM.out j (by have := HT2.out.2.1; omega)) (by have := HT2.out.2.1; omega)).mono ?_
                  rintro e w'' ⟨rfl, hb⟩
                  exact ⟨rfl, h.trans (hb.mono (by have := h.size; omega))⟩
                have q32 := fun w => eq32 w cT
                have HDS := hid hds
                have HSM := hid hsm
                have HBW := hid hbw
                have HQ6 := hid hql6
                have HZ6 := hid hz6
                have u1 : (t2 : Int) ≤ (len : Int) := by have := HT2.out.2.1; omega
                have u2 : (0 : Int) ≤ (t2 : Int) := by omega
                clear hp2 hcT hz6 hbs6 hds hsm hbw hql6
                go_region_with (first
                  | (go_at_call 14; refine (HDS.out _ (by assumption)).mono ?_; rintro e wA ⟨rfl, hbA⟩)
                  | (go_at_call 9; refine (HSM.out _ (by assumption)).mono ?_; rintro e wA ⟨rfl, hbA⟩))
                all_goals
                  go_wp2
                  obtain ⟨b1, b2, b3, b4⟩ := HNN.out
                  obtain ⟨c1, c2, c3, c4⟩ := H6.out
                  have hz := HZ6.out
                  have hlast := hbA.size
                  have hq6 := HQ6.out
                  refine ⟨⟨i + 1, t2, nc, _, _, s3, f3, by go_num, rfl, by omega, by omega, HT2.out.2.1, by omega, HBW.out _ hbA, by omega, HD3.out, (hbA.block q hq6).trans c3, c4.below (hz ▸ hbA)⟩, ?_⟩
                  simp [intOf]
                  omega
      · by_cases h1 : i < cl
        · have j1 : (i : Int) < (cl : Int) := by omega
          have j2 : ¬ (i : Int) < 60 := by omega
          have H : Hid (∃ (t' nc : Nat) (p E : Nat → Nat) (s f : Nat → Int), (t : Int) = t' ∧ t' ≤ len ∧ nc ≤ 60 ∧ Below w.heap.size w wr ∧ q < wr.heap.size ∧ Dig KW HW mm t' s f ∧ wr.heap[q]? = some (.cells (dg s f (t' : Int)) 47) ∧ Cps wr mm w.heap.size q len nc u7 u8 p E) := ⟨t, nc, p, E, s, f, rfl, htl, by omega, hB, hql, hd, hg, hcps⟩
          clear hB hql hd hg hcps
          go_wp2
          go_meet
          obtain ⟨t', nc, p, E, s, f, h1, h2⟩ := H.out
          exact ⟨t', nc, p, E, s, f, by rw [h1], h2⟩
        · have j1 : ¬ (i : Int) < (cl : Int) := by omega
          have H : Hid (∃ (t' nc : Nat) (p E : Nat → Nat) (s f : Nat → Int), (t : Int) = t' ∧ t' ≤ len ∧ nc ≤ 60 ∧ Below w.heap.size w wr ∧ q < wr.heap.size ∧ Dig KW HW mm t' s f ∧ wr.heap[q]? = some (.cells (dg s f (t' : Int)) 47) ∧ Cps wr mm w.heap.size q len nc u7 u8 p E) := ⟨t, nc, p, E, s, f, rfl, htl, by omega, hB, hql, hd, hg, hcps⟩
          clear hB hql hd hg hcps
          go_wp2
          go_meet
          obtain ⟨t', nc, p, E, s, f, h1, h2⟩ := H.out
          exact ⟨t', nc, p, E, s, f, by rw [h1], h2⟩
  case rest =>
    obtain ⟨t, nc, p, E, s, f, rfl, htl, hnc, hB, hql, hd, hg, hcps⟩ := hcut
    have hbq := HBQ.out
    obtain ⟨A3, hA3, hp3⟩ := sl_part ao len cap t len (some (.int .i64 t)) none mm (.inl rfl) (.inr ⟨rfl, rfl⟩) htl (Nat.le_refl _) hlc
    have hw := write_byz KW HW mm q s f t (len - t) (cap - t) A3 wc hd hg (HK.out.below hB) (by omega) (hp3 wc (HBY.out.below hB)).byz (fun hp b off h => by have := bys_old (hp3 w HBY.out) hp h; omega) (fun j hj => HMM.out _ (by omega)) (by omega)
    rw [show t + (len - t) = len by omega] at hw
    have HWR := hid hw
    have HC0 : Hid (Below w.heap.size w wc ∧ q < wc.heap.size ∧ wc.heap[q]? = some (.cells (dg s f (t : Int)) 47) ∧ Cps wc mm w.heap.size q len nc u7 u8 p E) := ⟨hB, hql, hg, hcps⟩
    have v1 : (t : Int) ≤ (len : Int) := by omega
    clear hp3 hw hB hql hd hg hcps hbq
    go_upto_region 28 with (go_at_call 15; refine HWR.out.mono ?_; rintro e w3 ⟨rfl, hkp3, s3, f3, hd3, hg3⟩)
    obtain ⟨hB, hql, hg, hcps⟩ := HC0.out
    have hbq := HBQ.out
    have hB3 : Below w.heap.size w w3 := hB.trans (hkp3.below hbq.1 hB.size)
    have hcp3 := hcps.keep hg hkp3
    have hz3 := hkp3.size
    obtain ⟨cL, hcL⟩ : ∃ c, shaV KW HW mm len = c := ⟨_, rfl⟩
    have hsm : ∀ w', Below w.heap.size w w' → Calls Tryd.prog 9 #[.slice ao len cap] w' fun e w'' => e = .returned (.agg (vs .u8 32 cL)) ∧ Below w'.heap.size w' w'' := by
      intro w' h
      rw [← hcL]
      exact sum_byz KW HW mm ao len cap w' (HHH.out.below h) (HK.out.below h) HW_bd (HBY.out.below h).byz HMM.out (by omega)
    have hds : ∀ w' s f g, Below w.heap.size w w' → Dig KW HW mm len s f → w'.heap[g]? = some (.cells (dg s f (len : Int)) 47) → Calls Tryd.prog 14 #[.pointer (some ⟨g, 0, none⟩)] w' fun e w'' => e = .returned (.agg (vs .u8 32 cL)) ∧ Below w'.heap.size w' w'' := by
      intro w' s f g h hd hg
      rw [← hcL]
      exact dsum_any KW HW mm g s f len w' hd hg (HK.out.below h) (by omega)
    have HSM := hid hsm
    have HDL := hid hds
    have HDS3 := hid (hds w3 s3 f3 q hB3 hd3 hg3)
    have H3 : Hid (Below w.heap.size w w3 ∧ q < w3.heap.size ∧ Dig KW HW mm len s3 f3 ∧ w3.heap[q]? = some (.cells (dg s3 f3 (len : Int)) 47) ∧ Cps w3 mm w.heap.size q len nc u7 u8 p E) := ⟨hB3, by omega, hd3, hg3, hcp3⟩
    have q32 := fun w => eq32 w cL
    clear hB hql hg hcps hbq hB3 hcp3 hz3 hsm hds hd3 hg3 hkp3 hcL HC0 HWR hA3
    go_upto_region 30 with (first
      | (go_at_call 14; refine HDS3.out.mono ?_; rintro e w4 ⟨rfl, hb4⟩)
      | (go_at_call 9; refine (HSM.out _ ((H3.out).1.trans (hb4.mono (H3.out).1.size))).mono ?_; rintro e w5 ⟨rfl, hb5⟩))
    obtain ⟨hB3, hq3, hd3, hg3, hcp3⟩ := H3.out
    have z4 := hb4.size
    have z5 := hb5.size
    have hb35 : Below w3.heap.size w3 w5 := hb4.trans (hb5.mono z4)
    have hB5 : Below w.heap.size w w5 := hB3.trans (hb35.mono hB3.size)
    have hg5 := (hb35.block q hq3).trans hg3
    have hcp5 := hcp3.below hb35
    obtain ⟨a7, C7, hv7, hs7⟩ := own_slice hcp5.own7
    obtain ⟨a8, C8, hv8, hs8⟩ := own_slice hcp5.own8
    subst hv7
    subst hv8
    have HD3 := hid hd3
    have HS78 := hid (And.intro hs7 hs8)
    have HMO := hid hcp5.mono
    have H5 : Hid (Below w.heap.size w w5 ∧ q < w5.heap.size ∧ w5.heap[q]? = some (.cells (dg s3 f3 (len : Int)) 47) ∧ Cps w5 mm w.heap.size q len nc (.slice a7 nc C7) (.slice a8 nc C8) p E) := ⟨hB5, by omega, hg5, hcp5⟩
    clear hB3 hq3 hd3 hg3 hcp3 z4 z5 hb35 hB5 hg5 hcp5 hs7 hs8 hb4 hb5 H3 HDS3
    have n60 : (nc : Int) ≤ 60 := by omega
    go_wp2
    go_loopw [13] (fun v wx => ∃ j : Nat, j ≤ nc ∧ v = .int .i64 j ∧ Below w.heap.size w wx ∧ q < wx.heap.size ∧ wx.heap[q]? = some (.cells (dg s3 f3 (len : Int)) 47) ∧ wx.ownsRow w.heap.size 30 1 (.slice a7 nc C7) nc ((List.range nc).map fun k => Value.pointer (some ⟨p k, 0, none⟩)) ∧ wx.ownsRow w.heap.size 3 1 (.slice a8 nc C8) nc ((List.range nc).map fun k => Value.int .i64 (E k)) ∧ ∀ k, j ≤ k → k < nc → q < p k ∧ E k ≤ len ∧ ∃ s f, Dig KW HW mm (E k) s f ∧ wx.heap[p k]? = some (.cells (dg s f (E k)) 47)) (fun v _ => nc - (intOf v).toNat)
    case atStart =>
      obtain ⟨b1, b2, b3, b4⟩ := H5.out
      exact ⟨0, Nat.zero_le _, rfl, b1, b2, b3, b4.own7, b4.own8, fun k _ hk => b4.dig k hk⟩
    case round =>
      obtain ⟨j, hjn, rfl, hB, hql, hg, ho7, ho8, hdig⟩ := hrel
      clear H5
      have HB := hid hB
      have HQL := hid hql
      have HG := hid hg
      have HO7 := hid ho7
      have HO8 := hid ho8
      have HDG := hid hdig
      clear hB hql hg ho7 ho8 hdig
      by_cases hjlt : j < nc
      · obtain ⟨hqp, hEl, sj, fj, hdj, hgj⟩ := HDG.out j (Nat.le_refl _) hjlt
        obtain ⟨g7, h7⟩ := (HS78.out).1 (by omega)
        obtain ⟨g8, h8⟩ := (HS78.out).2 (by omega)
        subst h7
        subst h8
        have cell7 : ∀ w' : World, w'.ownsRow w.heap.size 30 1 (.slice (some ⟨g7, 0, none⟩) nc C7) nc ((List.range nc).map fun k => Value.pointer (some ⟨p k, 0, none⟩)) → w'.cell? ⟨g7, j, none⟩ = some (.pointer (some ⟨p j, 0, none⟩)) := by
          intro w' h
          have := h.cells (g := g7) rfl j _ (by rw [List.getElem?_map, List.getElem?_range hjlt]; rfl)
          rw [addr_add, Nat.zero_add] at this
          exact this
        have cell8 : ∀ w' : World, w'.ownsRow w.heap.size 3 1 (.slice (some ⟨g8, 0, none⟩) nc C8) nc ((List.range nc).map fun k => Value.int .i64 (E k)) → w'.cell? ⟨g8, j, none⟩ = some (.int .i64 (E j)) := by
          intro w' h
          have := h.cells (g := g8) rfl j _ (by rw [List.getElem?_map, List.getElem?_range hjlt]; rfl)
          rw [addr_add, Nat.zero_add] at this
          exact this
        obtain ⟨pj, hpj⟩ : ∃ x, p j = x := ⟨_, rfl⟩
        obtain ⟨ej, hej⟩ : ∃ x, E j = x := ⟨_, rfl⟩
        rw [hpj] at hqp hgj cell7
        rw [hej] at hEl hdj hgj cell8
        obtain ⟨A4, hA4, hp4⟩ := sl_part ao len cap 0 ej none (some (.int .i64 ej)) mm (.inr ⟨rfl, rfl⟩) (.inl rfl) (by omega) hEl hlc
        obtain ⟨A5, hA5, hp5⟩ := sl_part ao len cap ej len (some (.int .i64 ej)) none mm (.inl rfl) (.inr ⟨rfl, rfl⟩) hEl (Nat.le_refl _) hlc
        simp only [Nat.sub_zero, Nat.zero_add] at hA4 hp4
        obtain ⟨cE, hcE⟩ : ∃ c, shaV KW HW mm ej = c := ⟨_, rfl⟩
        obtain ⟨z, hz⟩ : ∃ z, wr.heap.size = z := ⟨_, rfl⟩
        have hgl := (Array.getElem?_eq_some_iff.1 hgj).1
        rw [hz] at hgl
        have hbs := (HB.out).size
        have hbw : ∀ w', Below z wr w' → Below w.heap.size w w' := fun w' h => (HB.out).trans (h.mono (by omega))
        have hown7 : ∀ w', Below z wr w' → w'.ownsRow w.heap.size 30 1 (.slice (some ⟨g7, 0, none⟩) nc C7) nc ((List.range nc).map fun k => Value.pointer (some ⟨p k, 0, none⟩)) := fun w' h => ownsRow_kept HO7.out fun g cur hg' => h.block g (by have := (Array.getElem?_eq_some_iff.1 hg').1; omega)
        have hown8 : ∀ w', Below z wr w' → w'.ownsRow w.heap.size 3 1 (.slice (some ⟨g8, 0, none⟩) nc C8) nc ((List.range nc).map fun k => Value.int .i64 (E k)) := fun w' h => ownsRow_kept HO8.out fun g cur hg' => h.block g (by have := (Array.getElem?_eq_some_iff.1 hg').1; omega)
        have hkeep : ∀ w', Below z wr w' → Below z wr w' ∧ w'.cell? ⟨g7, j, none⟩ = some (.pointer (some ⟨pj, 0, none⟩)) ∧ w'.cell? ⟨g8, j, none⟩ = some (.int .i64 (ej : Int)) := fun w' h => ⟨h, cell7 w' (hown7 w' h), cell8 w' (hown8 w' h)⟩
        have hdr : Below z wr wr.drew := ⟨rfl, rfl, rfl, Nat.le_refl _, fun _ _ => rfl⟩
        have hds : ∀ w', Below z wr w' → Calls Tryd.prog 14 #[.pointer (some ⟨pj, 0, none⟩)] w' fun e w'' => e = .returned (.agg (vs .u8 32 cE)) ∧ Below z wr w'' := by
          intro w' h
          rw [← hcE]
          refine (dsum_any KW HW mm pj sj fj ej w' hdj ((h.block pj hgl).trans hgj) (HK.out.below (hbw w' h)) (by omega)).mono ?_
          rintro e w'' ⟨rfl, hb⟩
          exact ⟨rfl, h.trans (hb.mono (by have := h.size; omega))⟩
        have hsm : ∀ w', Below z wr w' → Calls Tryd.prog 9 #[.slice A4 ej cap] w' fun e w'' => e = .returned (.agg (vs .u8 32 cE)) ∧ Below z wr w'' := by
          intro w' h
          rw [← hcE]
          refine (sum_byz KW HW mm A4 ej cap w' (HHH.out.below (hbw w' h)) (HK.out.below (hbw w' h)) HW_bd (hp4 w' (HBY.out.below (hbw w' h))).byz (fun j hj => HMM.out j (by omega)) (by omega)).mono ?_
          rintro e w'' ⟨rfl, hb⟩
          exact ⟨rfl, h.trans (hb.mono (by have := h.size; omega))⟩
        have hwr : ∀ w', Below z wr w' → Calls Tryd.prog 15 #[.pointer (some ⟨pj, 0, none⟩), .slice A5 (len - ej) (cap - ej)] w' fun e w'' => e = .returned (.tuple #[]) ∧ Kept pj w' w'' ∧ ∃ s' f', Dig KW HW mm len s' f' ∧ w''.heap[pj]? = some (.cells (dg s' f' (len : Int)) 47) := by
          intro w' h
          have hbq := HBQ.out
          have hx := write_byz KW HW mm pj sj fj ej (len - ej) (cap - ej) A5 w' hdj ((h.block pj hgl).trans hgj) (HK.out.below (hbw w' h)) (by omega) (hp5 w' (HBY.out.below (hbw w' h))).byz (fun hp b off h => by have := bys_old (hp5 w HBY.out) hp h; omega) (fun j hj => HMM.out _ (by omega)) (by omega)
          rw [show ej + (len - ej) = len by omega] at hx
          exact hx
        have qE := fun w => eq32 w cE
        have HKEEP := hid hkeep
        have HDS := hid hds
        have HSE := hid hsm
        have HWJ := hid hwr
        have HBW := hid hbw
        have HOW7 := hid hown7
        have HOW8 := hid hown8
        have HC7 := hid cell7
        have HC8 := hid cell8
        have HPJ : Hid (p j = pj ∧ q < pj ∧ pj < z ∧ wr.heap.size = z ∧ wr.heap[pj]? = some (.cells (dg sj fj (ej : Int)) 47)) := ⟨hpj, hqp, hgl, hz, hgj⟩
        have x1 : (j : Int) < (nc : Int) := by omega
        have x2 : (0 : Int) ≤ (j : Int) := by omega
        have x3 : (ej : Int) ≤ (len : Int) := by omega
        have x4 : (0 : Int) ≤ (ej : Int) := by omega
        clear hqp hEl hdj hgj cell7 cell8 hpj hej hp4 hp5 hcE hz hgl hbs hbw hown7 hown8 hkeep hds hsm hwr
        go_upto_region 33 with fail
        go_region_held3 (fun w' => Below z wr w' ∧ w'.cell? ⟨g7, j, none⟩ = some (.pointer (some ⟨pj, 0, none⟩)) ∧ w'.cell? ⟨g8, j, none⟩ = some (.int .i64 (ej : Int))) (exact HKEEP.out _ (by assumption)) ((first
          | (go_at_call 14; refine (HDS.out _ (by assumption)).mono ?_; rintro e wA ⟨rfl, hbA⟩)
          | (go_at_call 9; refine (HSE.out _ (by assumption)).mono ?_; rintro e wA ⟨rfl, hbA⟩)))
        go_upto_region 35 with fail
        clear qE
        obtain ⟨hpj, hqp, hgl, hz, hgj⟩ := HPJ.out
        have o7A := HOW7.out wA hbA
        have o8A := HOW8.out wA hbA
        have c7 := HC7.out wA o7A
        have c8 := HC8.out wA o8A
        have gA := (hbA.block pj hgl).trans hgj
        have hdA : Below z wr wA.drew := ⟨hbA.os, hbA.tape, hbA.output, hbA.size, hbA.block⟩
        have hWA := hid (HWJ.out wA.drew hdA)
        have hkAB : ∀ wB, Kept pj wA.drew wB → wB.ownsRow w.heap.size 30 1 (.slice (some ⟨g7, 0, none⟩) nc C7) nc ((List.range nc).map fun k => Value.pointer (some ⟨p k, 0, none⟩)) ∧ wB.ownsRow w.heap.size 3 1 (.slice (some ⟨g8, 0, none⟩) nc C8) nc ((List.range nc).map fun k => Value.int .i64 (E k)) := fun wB hk => ⟨own_kept_dig (w := wA.drew) o7A (by decide) gA hk, own_kept_dig (w := wA.drew) o8A (by decide) gA hk⟩
        have HAB := hid hkAB
        have HBA := hid hbA
        have d7 : wA.drew.cell? ⟨g7, j, none⟩ = some (.pointer (some ⟨pj, 0, none⟩)) := c7
        have d8 : wA.drew.cell? ⟨g8, j, none⟩ = some (.int .i64 (ej : Int)) := c8
        clear hpj hqp hgl hz hgj o7A o8A gA hdA hkAB hbA hdr
        go_region_held3 (fun w' => w'.cell? ⟨g7, j, none⟩ = some (.pointer (some ⟨pj, 0, none⟩)) ∧ w'.cell? ⟨g8, j, none⟩ = some (.int .i64 (ej : Int))) (first | exact ⟨d7, d8⟩ | exact ⟨HC7.out _ (HAB.out _ hkpB).1, HC8.out _ (HAB.out _ hkpB).2⟩) ((go_at_call 15; refine hWA.out.mono ?_; rintro e wB ⟨rfl, hkpB, sB, fB, hdB, hgB⟩))
        clear c7 c8 d7 d8
        obtain ⟨hpj, hqp, hgl, hz, hgj⟩ := HPJ.out
        have hbA := HBA.out
        have hzA := hbA.size
        have hbq := HBQ.out
        have hql := HQL.out
        have hBA := HBW.out wA hbA
        have hBB : Below w.heap.size w wB := Below.trans (b := wA.drew) ⟨hBA.os, hBA.tape, hBA.output, hBA.size, hBA.block⟩ (hkpB.below (by omega) hBA.size)
        have oB := HAB.out wB hkpB
        have c7B := HC7.out wB oB.1
        have hzB : wA.heap.size ≤ wB.heap.size := hkpB.size
        have gqB := (hkpB.block q (show q < wA.heap.size by omega) (by omega)).trans ((hbA.block q (by omega)).trans HG.out)
        have hdg : ∀ k, j + 1 ≤ k → k < nc → q < p k ∧ E k ≤ len ∧ ∃ s f, Dig KW HW mm (E k) s f ∧ wB.heap[p k]? = some (.cells (dg s f (E k)) 47) := by
          intro k h1 h2
          obtain ⟨b1, b2, s', f', b3, b4⟩ := HDG.out k (by omega) h2
          have hm := HMO.out j k (by omega) h2
          have hl := (Array.getElem?_eq_some_iff.1 b4).1
          exact ⟨b1, b2, s', f', b3, (hkpB.block (p k) (show p k < wA.heap.size by omega) (by omega)).trans ((hbA.block (p k) (by omega)).trans b4)⟩
        have HDF := hid (HDL.out wB sB fB pj hBB hdB hgB)
        have H9 : Hid (Below w.heap.size w wB ∧ q < wB.heap.size ∧ wB.heap[q]? = some (.cells (dg s3 f3 (len : Int)) 47)) := ⟨hBB, by omega, gqB⟩
        have HOB := hid oB
        have HDK := hid hdg
        clear hpj hqp hgl hz hgj hbA hzA hbq hql hBA hBB oB hzB gqB hdg hkpB hdB hgB
        go_wp2_with (first
          | (go_at_call 14; refine HDF.out.mono ?_; rintro e w6 ⟨rfl, hb6⟩)
          | (go_at_call 9; refine (HSM.out _ ((H9.out).1.trans (hb6.mono (H9.out).1.size))).mono ?_; rintro e w7 ⟨rfl, hb7⟩))
        obtain ⟨b1, b2, b3⟩ := H9.out
        have z6 := hb6.size
        have z7 := hb7.size
        have hb67 : Below wB.heap.size wB w7 := hb6.trans (hb7.mono z6)
        refine ⟨⟨j + 1, by omega, by go_num, b1.trans (hb67.mono b1.size), by omega, (hb67.block q b2).trans b3, ownsRow_kept (HOB.out).1 fun g cur hg' => hb67.block g (Array.getElem?_eq_some_iff.1 hg').1, ownsRow_kept (HOB.out).2 fun g cur hg' => hb67.block g (Array.getElem?_eq_some_iff.1 hg').1, fun k h1 h2 => ?_⟩, ?_⟩
        · obtain ⟨a1, a2, s', f', a3, a4⟩ := HDK.out k h1 h2
          exact ⟨a1, a2, s', f', a3, (hb67.block (p k) (Array.getElem?_eq_some_iff.1 a4).1).trans a4⟩
        · simp [intOf]
          omega
      · have ej : ¬ (j : Int) < (nc : Int) := by omega
        have HDF := hid (HDL.out wr s3 f3 q HB.out HD3.out HG.out)
        go_wp2_with (first
          | (go_at_call 14; refine HDF.out.mono ?_; rintro e w6 ⟨rfl, hb6⟩)
          | (go_at_call 9; refine (HSM.out _ ((HB.out).trans (hb6.mono (HB.out).size))).mono ?_; rintro e w7 ⟨rfl, hb7⟩))
        go_ret
        exact ⟨rfl, (HB.out.trans (hb6.mono HB.out.size)).trans (hb7.mono (Nat.le_trans HB.out.size hb6.size))⟩

end Go.Proofs.YtgbmjlckaplocaaDoor
