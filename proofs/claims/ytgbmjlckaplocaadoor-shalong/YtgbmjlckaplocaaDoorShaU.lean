/-
  What ShaLong answers.
-/
import Derived.Test.YtgbmjlckaplocaaDoorShaT
import Derived.Deep.RegionWith
namespace Go.Proofs.YtgbmjlckaplocaaDoor
open Go.RowKit
set_option linter.unusedVariables false

attribute [local go_sem ↓] sv24_eq lv24_eq

def longM (c : Int) (j : Nat) : Int := (c + (j : Int) / 77) % 256
theorem longM_bd (c : Int) (j : Nat) : 0 ≤ longM c j ∧ longM c j < 256 := by unfold longM; omega
theorem tmod_bd (x : Int) (n : Int) (hn : 0 < n) : -n < x.tmod n ∧ x.tmod n < n := ⟨Int.lt_tmod_of_pos x hn, Int.tmod_lt_of_pos x hn⟩

set_option maxRecDepth 20000 in
set_option maxHeartbeats 1000000 in
theorem long_any (c x y : Int) (hc : 0 ≤ c ∧ c ≤ 255) (hx : -9223372036854775808 ≤ x ∧ x ≤ 9223372036854775807) (hy : -9223372036854775808 ≤ y ∧ y ≤ 9223372036854775807) (w : World) (hH : Tab w 0 8 HW) (hK : Tab w 2 64 KW) (hC : Tab w 1 64 KW) :
    Calls Tryd.prog 7 #[.int .u8 c, .int .i64 x, .int .i64 y] w fun e w' => e = .returned (.bool true) ∧ Below w.heap.size w w' := by
  obtain ⟨x1, e1⟩ : ∃ x1, x.tmod 5001 = x1 := ⟨_, rfl⟩
  have b1 := tmod_bd x 5001 (by omega)
  rw [e1] at b1
  obtain ⟨N, e2, hN⟩ : ∃ N : Nat, (x1 + 5001) % 5001 = (N : Int) ∧ N ≤ 5000 := ⟨((x1 + 5001) % 5001).toNat, by omega, by omega⟩
  have e2' : (x1 + 5001).tmod 5001 = (N : Int) := by rw [Int.tmod_eq_emod_of_nonneg (by omega)]; exact e2
  obtain ⟨y1, e3⟩ : ∃ y1, y.tmod ((N : Int) + 1) = y1 := ⟨_, rfl⟩
  have b3 := tmod_bd y ((N : Int) + 1) (by omega)
  rw [e3] at b3
  obtain ⟨t, e4, ht⟩ : ∃ t : Nat, (y1 + (N : Int) + 1) % ((N : Int) + 1) = (t : Int) ∧ t ≤ N := by
    have h1 := Int.emod_nonneg (y1 + (N : Int) + 1) (b := (N : Int) + 1) (by omega)
    have h2 := Int.emod_lt_of_pos (y1 + (N : Int) + 1) (b := (N : Int) + 1) (by omega)
    exact ⟨((y1 + (N : Int) + 1) % ((N : Int) + 1)).toNat, by omega, by omega⟩
  have e4' : (y1 + (N : Int) + 1).tmod ((N : Int) + 1) = (t : Int) := by rw [Int.tmod_eq_emod_of_nonneg (by omega)]; exact e4
  have HHH := hid hH
  have HK := hid hK
  have HC := hid hC
  obtain ⟨b11, b12⟩ := b1
  obtain ⟨b31, b32⟩ := b3
  have b33 : y1 + (N : Int) + 1 ≤ 10003 := by omega
  have b34 : 0 ≤ y1 + (N : Int) + 1 := by omega
  have b35 : (N : Int) ≤ 5000 := by omega
  clear hH hK hC
  go_enter Tryd.func7, Tryd.ntmps7
  go_wp2_with (go_at_call 8; refine (awake_any _ HHH.out HK.out).mono ?_; rintro e w1 ⟨rfl, hb1⟩)
  have HE := hid (And.intro e1 (And.intro e2 (And.intro e3 e4)))
  clear e1 e2 e2' e3 e4 e4' b11 b12 b31 b32 b33 b34 hx hy
  go_loopw [7, 8] (fun v i wr => ∃ k : Nat, k ≤ N ∧ i = .int .i64 k ∧ wr.ownsRow w.heap.size 5 1 v k (bl (longM c) k) ∧ (k = 0 → v = .slice none 0 0) ∧ Below w.heap.size w wr) (fun _ i _ => N - (intOf i).toNat)
  case atStart => exact ⟨0, Nat.zero_le _, rfl, World.ownsRow_nil _ _ _ _, fun _ => rfl, hb1⟩
  case round =>
    obtain ⟨k, hk, rfl, hown, hnil, hbel⟩ := hrel
    have HO := hid hown
    have HB := hid hbel
    have HNI := hid hnil
    clear hown hbel hnil
    by_cases hlt : k < N
    · have k1 : (k : Int) < (N : Int) := by omega
      have k2 : (0 : Int) ≤ (k : Int) := by omega
      have k3 : (k : Int) ≤ 5000 := by omega
      obtain ⟨h, eh⟩ : ∃ h : Nat, (k : Int) / 77 = (h : Int) := ⟨k / 77, by omega⟩
      have eh' : (k : Int).tdiv 77 = (h : Int) := by rw [Int.tdiv_eq_ediv_of_nonneg k2]; exact eh
      have h1 : (h : Int) < 256 := by omega
      have h2 : (0 : Int) ≤ (h : Int) := by omega
      have HV : Hid ((c + (h : Int)) % 256 = longM c k) := by
        show (c + (h : Int)) % 256 = longM c k
        unfold longM
        rw [eh]
      have hkm : k + 1 ≤ 140737488355328 := by omega
      go_wp2_with (at_builtin; go_loud (refine wpList_append_byte _ rfl _ _ rfl w.heap.size u7 k (longM c) _ rfl HO.out rfl HV.out hkm HB.out.size ?_); intro g3 C3 w3 ho3 hg3)
      go_roundw
      case rel => exact ⟨k + 1, by omega, by go_num, ho3, fun h => by omega, below_grown HB.out HO.out HB.out.size hg3⟩
      case measure => simp [intOf]; omega
    · have ek : k = N := by omega
      subst ek
      obtain ⟨cc, hcc⟩ : ∃ cc, shaV KW HW (longM c) k = cc := ⟨_, rfl⟩
      by_cases h0 : k = 0
      · have hv := HNI.out h0
        subst hv
        subst h0
        have et : t = 0 := by omega
        subst et
        have hBr := HB.out
        have hk0 := HK.out.1
        have hsz := hBr.size
        obtain ⟨W1, hW1⟩ : ∃ W, wr.alloc (.cells (dg HW (fun _ => 0) 0) 47) = W := ⟨_, rfl⟩
        have g1 : W1.heap[wr.heap.size]? = some (.cells (dg HW (fun _ => 0) ((0 : Nat) : Int)) 47) := by rw [← hW1]; exact heap_new rfl
        have hB1 : Below wr.heap.size wr W1 := by rw [← hW1]; exact (Below.refl _ _).alloc (Nat.le_refl _) _
        have hn := new_any HW wr (HHH.out.below hBr)
        rw [hW1] at hn
        have z1 : W1.heap.size = wr.heap.size + 1 := by rw [← hW1]; simp
        obtain ⟨q, hq⟩ : ∃ q, wr.heap.size = q := ⟨_, rfl⟩
        rw [hq] at hn z1 g1 hB1 hsz
        have hBw : Below w.heap.size w W1 := hBr.trans (hB1.mono hsz)
        have hrs := refsum_any KW (longM c) none 0 0 W1 (HC.out.below hBw) (.inl ⟨rfl, rfl, rfl⟩) (fun j _ => longM_bd _ _) (by omega)
        rw [hcc] at hrs
        have HN1 := hid hn
        have HRS := hid hrs
        have H4 : Hid (Below w.heap.size w W1 ∧ W1.heap[q]? = some (.cells (dg HW (fun _ => 0) ((0 : Nat) : Int)) 47) ∧ q < W1.heap.size ∧ shaV KW HW (longM c) 0 = cc) := ⟨hBw, g1, by omega, hcc⟩
        have v24 := sv24_new
        clear hB1 hW1 g1 hn hrs hBw hBr z1 hk0 hsz hq hlt hk ht hN hcc HO HNI
        rw [show ((0 : Nat) : Int) = 0 from rfl]
        go_upto_region 16 with (first
          | (go_at_call 13; refine HN1.out.mono ?_; rintro e w2 ⟨rfl, rfl⟩)
          | (go_at_call 15; refine (write_zero q none 0 _).mono ?_; rintro e w3 ⟨rfl, rfl⟩)
          | (go_at_call 10; refine HRS.out.mono ?_; rintro e w5 ⟨rfl, hb5⟩))
        obtain ⟨W6, hW6⟩ : ∃ W, w5.alloc (.cells (vs .u8 32 cc) 24) = W := ⟨_, rfl⟩
        rw [hW6]
        obtain ⟨hB4, hg4, hq4, hcc⟩ := H4.out
        have hz5 := hb5.size
        have hB5 := (hb5.alloc hz5 (.cells (vs .u8 32 cc) 24))
        rw [hW6] at hB5
        have r6 : W6.heap[w5.heap.size]? = some (.cells (vs .u8 32 cc) 24) := by rw [← hW6]; exact heap_new rfl
        have z6 : w5.heap.size < W6.heap.size := by rw [← hW6]; simp
        obtain ⟨p, hp⟩ : ∃ p, w5.heap.size = p := ⟨_, rfl⟩
        rw [hp] at r6 z6 ⊢
        have hB6 : Below w.heap.size w W6 := hB4.trans (hB5.mono hB4.size)
        have hB6' : Below w.heap.size w W6.drew := ⟨hB6.os, hB6.tape, hB6.output, hB6.size, hB6.block⟩
        have hs7 := sum_zero KW HW (longM c) none 0 W6.drew (HHH.out.below hB6') (HK.out.below hB6') HW_bd
        rw [hcc] at hs7
        have hg6 := (hB5.block q hq4).trans hg4
        have hz6 : q < W6.heap.size := by have := hB5.size; omega
        have hs8 : ∀ w7, Below W6.heap.size W6.drew w7 → Calls Tryd.prog 14 #[.pointer (some ⟨q, 0, none⟩)] w7 fun e w' => e = .returned (.agg (vs .u8 32 cc)) ∧ Below w7.heap.size w7 w' := by
          intro w7 h7
          rw [← hcc]
          exact dsum_any KW HW (longM c) q HW (fun _ => 0) 0 w7 (dig_new KW HW _ HW_bd) ((h7.block q hz6).trans hg6) ((HK.out.below hB6').below h7) (by omega)
        have l6 := lv24_run (w := W6.drew) r6
        have HS7 := hid hs7
        have HS8 := hid hs8
        have R6 := hid r6
        have Z6 := hid z6
        have HB6 := hid hB6'
        have q32 := fun w => eq32 w cc
        clear hW6 hB4 hg4 hq4 hcc hz5 hB5 r6 z6 hp hB6 hB6' hs7 hg6 hz6 hs8 v24 hb5 H4 HRS
        go_region_with (first
          | (go_at_call 9; refine HS7.out.mono ?_; rintro e w7 ⟨rfl, hb7⟩; have l7 := lv24_run ((hb7.block p Z6.out).trans R6.out))
          | (go_at_call 14; refine (HS8.out _ hb7).mono ?_; rintro e w8 ⟨rfl, hb8⟩; have l8 := lv24_run ((hb8.block p (Nat.lt_of_lt_of_le Z6.out hb7.size)).trans ((hb7.block p Z6.out).trans R6.out))))
        all_goals
          go_wp2
          go_ret
          exact ⟨rfl, (HB6.out.trans (hb7.mono HB6.out.size)).trans (hb8.mono (Nat.le_trans HB6.out.size hb7.size))⟩
      obtain ⟨g, C, hv⟩ := owns_pos HO.out (by omega)
      subst hv
      have hBr := HB.out
      have hk0 := HK.out.1
      have hsz := hBr.size
      obtain ⟨W1, hW1⟩ : ∃ W, wr.alloc (.cells (dg HW (fun _ => 0) 0) 47) = W := ⟨_, rfl⟩
      have g1 : W1.heap[wr.heap.size]? = some (.cells (dg HW (fun _ => 0) ((0 : Nat) : Int)) 47) := by rw [← hW1]; exact heap_new rfl
      have hB1 : Below wr.heap.size wr W1 := by rw [← hW1]; exact (Below.refl _ _).alloc (Nat.le_refl _) _
      have hn := new_any HW wr (HHH.out.below hBr)
      rw [hW1] at hn
      have z1 : W1.heap.size = wr.heap.size + 1 := by rw [← hW1]; simp
      obtain ⟨q, hq⟩ : ∃ q, wr.heap.size = q := ⟨_, rfl⟩
      rw [hq] at hn z1 g1 hB1 hsz
      have hBw : Below w.heap.size w W1 := hBr.trans (hB1.mono hsz)
      obtain ⟨hg0, hg1, hgC, hCm, hgc⟩ := own_cells HO.out
      have hne : ∀ b off, (some ⟨g, 0, none⟩ : Option Addr) = some ⟨b, off, none⟩ → b ≠ q := by
        intro b off h
        cases h
        omega
      have hby : ∀ n, n ≤ k → Byz W1 (some ⟨g, 0, none⟩) n C (longM c) := fun n hn => .inr ⟨g, 0, rfl, by omega, by omega, by omega, fun j hj => by rw [Nat.zero_add]; exact (below_cell hB1 (by omega)).trans (hgc j (by omega))⟩
      have hw := write_byz KW HW (longM c) q HW (fun _ => 0) 0 t C (some ⟨g, 0, none⟩) W1 (dig_new KW HW _ HW_bd) g1 (HK.out.below hBw) (by omega)
        (by simpa only [Nat.zero_add] using hby t ht) (fun _ => hne) (fun j _ => longM_bd _ _) (by omega)
      rw [Nat.zero_add] at hw
      have t1 : (t : Int) ≤ (C : Int) := by omega
      have t2 : (t : Int) ≤ (k : Int) := by omega
      have t3 : (k : Int) ≤ (C : Int) := by omega
      have HN1 := hid hn
      have HW1 := hid hw
      have HBY := hid hby
      have HNE := hid hne
      have HBW := hid hBw
      have HQB := hid hsz
      have HZ1 := hid (And.intro z1 (And.intro hk0 (And.intro hsz ht)))
      clear hB1 hW1 g1 hn hw hBw hBr z1 hk0 hsz hq hby hne hlt hk ht hN
      go_upto_region 14 with (first
        | (go_at_call 13; refine HN1.out.mono ?_; rintro e w2 ⟨rfl, rfl⟩)
        | (go_at_call 15; refine HW1.out.mono ?_; rintro e w3 ⟨rfl, hkp3, s3, f3, hd3, hg3⟩))
      obtain ⟨z1, hk0, hsz, ht⟩ := HZ1.out
      have hz3 := hkp3.size
      have hB3 : Below w.heap.size w w3 := HBW.out.trans (hkp3.below hsz (by omega))
      have hby3 : ∀ n, n ≤ k → Byz w3 (some ⟨g, 0, none⟩) n C (longM c) := by
        intro n hn
        rcases HBY.out n hn with h | ⟨b, off, h1, h2, h3, h4, h5⟩
        · exact .inl h
        · exact .inr ⟨b, off, h1, h2, h3, by omega, fun j hj => (hkp3.cell h4 (HNE.out b off h1)).trans (h5 j hj)⟩
      have hw : ∀ a, (t < k → a = some ⟨g, t, none⟩) → Calls Tryd.prog 15 #[.pointer (some ⟨q, 0, none⟩), .slice a (k - t) (C - t)] w3 fun e w' => e = .returned (.tuple #[]) ∧ Kept q w3 w' ∧ ∃ s' f', Dig KW HW (longM c) (t + (k - t)) s' f' ∧ w'.heap[q]? = some (.cells (dg s' f' ((t + (k - t) : Nat) : Int)) 47) := by
        intro a ha
        refine write_byz KW HW (longM c) q s3 f3 t (k - t) (C - t) a w3 hd3 hg3 (HK.out.below hB3) (by omega) ?_ ?_ (fun j _ => longM_bd _ _) (by omega)
        · by_cases htk : t < k
          · rcases hby3 k (Nat.le_refl _) with h | ⟨b, off, h1, h2, h3, h4, h5⟩
            · omega
            · cases h1
              refine .inr ⟨g, t, ha htk, by omega, by omega, h4, fun j hj => ?_⟩
              have := h5 (t + j) (by omega)
              rw [Nat.zero_add] at this
              exact this
          · exact .inl (by omega)
        · intro hp b off h
          rw [ha (by omega)] at h
          cases h
          exact HNE.out g 0 rfl
      rw [show t + (k - t) = k by omega] at hw
      have HW3 := hid hw
      have HBY3 := hid hby3
      have HB3 := hid hB3
      have HT := hid (And.intro ht h0)
      have HQ3 : Hid (q < w3.heap.size) := by show q < w3.heap.size; omega
      clear z1 hk0 hsz ht hz3 hB3 hby3 hw hkp3 hd3 hg3 h0 HW1 HN1 HZ1
      go_upto_region 15 with (go_at_call 15; refine (HW3.out _ (by intro htk; rw [if_neg (by have := HT.out; omega)])).mono ?_; rintro e w4 ⟨rfl, hkp4, s4, f4, hd4, hg4⟩)
      generalize (if C = t then (some ⟨g, 0, none⟩ : Option Addr) else some ⟨g, t, none⟩) = A'
      have hz4 := hkp4.size
      have hq3 := HQ3.out
      have hB3 := HB3.out
      have hBs := HB.out.size
      have hk0 := HK.out.1
      have hqb : w.heap.size ≤ q := by
        have := HQB.out
        omega
      have hB4 : Below w.heap.size w w4 := hB3.trans (hkp4.below hqb (by omega))
      have hby4 : Bys w4 (some ⟨g, 0, none⟩) k C (longM c) := by
        rcases HBY3.out k (Nat.le_refl _) with h | ⟨b, off, h1, h2, h3, h4, h5⟩
        · exact absurd h HT.out.2
        · exact .inr ⟨b, off, h1, h2, h3, by omega, fun j hj => (hkp4.cell h4 (HNE.out b off h1)).trans (h5 j hj)⟩
      have hrs := refsum_any KW (longM c) (some ⟨g, 0, none⟩) k C w4 (HC.out.below hB4) hby4 (fun j _ => longM_bd _ _) (by omega)
      rw [hcc] at hrs
      have HRS := hid hrs
      have H4 : Hid (Below w.heap.size w w4 ∧ Byz w4 (some ⟨g, 0, none⟩) k C (longM c) ∧ Dig KW HW (longM c) k s4 f4 ∧ w4.heap[q]? = some (.cells (dg s4 f4 k) 47) ∧ q < w4.heap.size ∧ k ≤ 5000 ∧ shaV KW HW (longM c) k = cc) := ⟨hB4, hby4.byz, hd4, hg4, by omega, by omega, hcc⟩
      have v24 := sv24_new
      clear hz4 hq3 hB3 hBs hk0 hqb hB4 hby4 hrs hd4 hg4 hkp4 hcc HW3 HBY3 HB3 HT HQ3
      go_upto_region 16 with (go_at_call 10; refine HRS.out.mono ?_; rintro e w5 ⟨rfl, hb5⟩)
      obtain ⟨W6, hW6⟩ : ∃ W, w5.alloc (.cells (vs .u8 32 cc) 24) = W := ⟨_, rfl⟩
      rw [hW6]
      obtain ⟨hB4, hby4, hd4, hg4, hq4, hkb, hcc⟩ := H4.out
      have hz5 := hb5.size
      have hB5 : Below w4.heap.size w4 W6 := by rw [← hW6]; exact hb5.alloc hz5 _
      have r6 : W6.heap[w5.heap.size]? = some (.cells (vs .u8 32 cc) 24) := by rw [← hW6]; exact heap_new rfl
      have z6 : w5.heap.size < W6.heap.size := by rw [← hW6]; simp
      obtain ⟨p, hp⟩ : ∃ p, w5.heap.size = p := ⟨_, rfl⟩
      rw [hp] at r6 z6 ⊢
      have hB6 : Below w.heap.size w W6 := hB4.trans (hB5.mono hB4.size)
      have hB6' : Below w.heap.size w W6.drew := ⟨hB6.os, hB6.tape, hB6.output, hB6.size, hB6.block⟩
      have hs7 := sum_byz KW HW (longM c) (some ⟨g, 0, none⟩) k C W6.drew (HHH.out.below hB6') (HK.out.below hB6') HW_bd (hby4.below (w' := W6.drew) ⟨hB5.os, hB5.tape, hB5.output, hB5.size, hB5.block⟩) (fun j _ => longM_bd _ _) (by omega)
      rw [hcc] at hs7
      have hg6 := (hB5.block q hq4).trans hg4
      have hz6 : q < W6.heap.size := by have := hB5.size; omega
      have hs8 : ∀ w7, Below W6.heap.size W6.drew w7 → Calls Tryd.prog 14 #[.pointer (some ⟨q, 0, none⟩)] w7 fun e w' => e = .returned (.agg (vs .u8 32 cc)) ∧ Below w7.heap.size w7 w' := by
        intro w7 h7
        rw [← hcc]
        exact dsum_any KW HW (longM c) q s4 f4 k w7 hd4 ((h7.block q hz6).trans hg6) ((HK.out.below hB6').below h7) (by omega)
      have l6 := lv24_run (w := W6.drew) r6
      have HS7 := hid hs7
      have HS8 := hid hs8
      have R6 := hid r6
      have Z6 := hid z6
      have HB6 := hid hB6'
      have q32 := fun w => eq32 w cc
      clear hW6 hB4 hby4 hd4 hg4 hq4 hkb hcc hz5 hB5 r6 z6 hp hB6 hB6' hs7 hg6 hz6 hs8 v24 hb5 H4 HRS
      go_region_with (first
        | (go_at_call 9; refine HS7.out.mono ?_; rintro e w7 ⟨rfl, hb7⟩; have l7 := lv24_run ((hb7.block p Z6.out).trans R6.out))
        | (go_at_call 14; refine (HS8.out _ hb7).mono ?_; rintro e w8 ⟨rfl, hb8⟩; have l8 := lv24_run ((hb8.block p (Nat.lt_of_lt_of_le Z6.out hb7.size)).trans ((hb7.block p Z6.out).trans R6.out))))
      all_goals
        go_wp2
        go_ret
        exact ⟨rfl, (HB6.out.trans (hb7.mono HB6.out.size)).trans (hb8.mono (Nat.le_trans HB6.out.size hb7.size))⟩

end Go.Proofs.YtgbmjlckaplocaaDoor
