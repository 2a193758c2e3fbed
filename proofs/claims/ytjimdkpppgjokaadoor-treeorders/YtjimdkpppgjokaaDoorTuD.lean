/-
  What TreeOrders answers, at every input.
-/
import Derived.Test.YtjimdkpppgjokaaDoorTuB
import Derived.Deep.Cut
import Derived.Deep.CutBlock
import Derived.Deep.CutRange
namespace Go.Proofs.YtjimdkpppgjokaaDoor
open Go.RowKit
set_option linter.unusedVariables false
set_option linter.unusedSimpArgs false

/-- The place that is set i-th at last; each is. -/
def plc (n i : Nat) : Nat := if n % 7 = 0 then i else i * 7 % n
theorem plc_lt (n i : Nat) (hi : i < n) : plc n i < n := by
  unfold plc
  by_cases h : n % 7 = 0
  · rw [if_pos h]; exact hi
  · rw [if_neg h]; exact Nat.mod_lt _ (by omega)
theorem plc_all : ∀ n, n < 31 → ∀ i, i < n → ∃ j, j < n ∧ plc n j = i := by
  have h : ∀ n : Fin 31, ∀ i : Fin n.1, ∃ j : Fin n.1, plc n.1 j.1 = i.1 := by decide +kernel
  intro n hn i hi
  obtain ⟨j, hj⟩ := h ⟨n, hn⟩ ⟨i, hi⟩
  exact ⟨j.1, j.2, hj⟩
/-- The first k places hold their leaves. -/
def Fil (n k : Nat) (g f : Nat → Int) : Prop := ∀ j, j < k → ∀ q, q < 32 → g (32 * plc n j + q) = f (32 * plc n j + q)
theorem Fil.step {n k : Nat} {g f : Nat → Int} (h : Fil n k g f) (L : Nat) (hk : plc n k < L) : Fil n (k + 1) (setV g L (plc n k : Nat) (rt32 f (plc n k))) f := by
  intro j hj q hq
  unfold setV
  rw [if_pos (by omega), Int.toNat_natCast]
  unfold over
  by_cases h2 : 32 * plc n k ≤ 32 * plc n j + q ∧ 32 * plc n j + q < 32 * plc n k + 32
  · rw [if_pos h2]
    unfold rt32
    congr 1
    omega
  · rw [if_neg h2]
    refine h j ?_ q hq
    by_cases e : j = k
    · subst e; omega
    · omega
theorem Fil.whole {n : Nat} {g f : Nat → Int} (h : Fil n n g f) (hn : n < 31) (q : Nat) (hq : q < 32 * n) : g q = f q := by
  obtain ⟨j, hj, e⟩ := plc_all n hn (q / 32) (by omega)
  have := h j hj (q % 32) (by omega)
  rw [e, show 32 * (q / 32) + q % 32 = q by omega] at this
  exact this

attribute [local go_sem ↓] sv24_eq lv24_eq ix22_eq slr_eq bd27_eq bs22_eq eqo_eq ix48_eq

set_option maxRecDepth 20000 in
set_option maxHeartbeats 4000000 in
theorem orders_any (a : Option Addr) (len cap : Nat) (f : Nat → Int) (ao : Option Addr) (lo co : Nat) (os : Nat → Int) (w : World) (hS : Sh w) (hr : Rts w a len cap f) (hf : ByB f (32 * len)) (hlc : len ≤ cap) (ho : Nus w ao lo os) (hob : ∀ q, -9223372036854775808 ≤ os q ∧ os q ≤ 9223372036854775807) (hl : 32 * len ≤ 140737488355328) (hlo : lo ≤ 140737488355328) :
    Calls Tryd.prog 6 #[.slice a len cap, .slice ao lo co] w fun e w' => e = .returned (.bool true) ∧ Below w.heap.size w w' := by
  have haw := awake6 w hS
  have HAW := hid haw
  have HS := hid hS
  have HR := hid hr
  have HF := hid hf
  have HO := hid ho
  have HOB := hid hob
  clear haw hS hr hf ho hob
  obtain ⟨n, en⟩ : ∃ n, min len 30 = n := ⟨_, rfl⟩
  have hn1 : n ≤ len := by omega
  have hn2 : n ≤ 30 := by omega
  have hn3 : (30 < len ∧ n = 30) ∨ (len ≤ 30 ∧ n = len) := by omega
  clear en
  go_enter Tryd.func6, Tryd.ntmps6
  go_upto_region 4 with (go_at_call 8; refine HAW.out.mono ?_; rintro e w1 ⟨rfl, hb1⟩)
  have hnew := tg_new 32 w w1 HS.out hb1 (by omega) (by omega)
  rw [show ((32 : Nat) : Int) = 32 from rfl] at hnew
  have HNEW := hid hnew
  clear hnew hb1 HAW
  have hlen : (len : Int) ≤ 140737488351232 := by omega
  go_upto_if 19 with fail
  go_cut [5] from 18 to 103 (fun v wx => v = .int .i64 n ∧ w1 = wx)
  case first =>
    rcases hn3 with ⟨h3, rfl⟩ | ⟨h3, rfl⟩
    · have k1 : decide (30 < len) = true := by simp; omega
      have k2 : decide ((30 : Int) < (len : Int)) = true := by simp; omega
      go_wp2
      go_meet
      exact ⟨rfl, rfl⟩
    · have k1 : decide (30 < n) = false := by simp; omega
      have k2 : decide ((30 : Int) < (n : Int)) = false := by simp; omega
      go_wp2
      go_meet
      exact ⟨rfl, rfl⟩
  case rest =>
    obtain ⟨rfl, hw⟩ := hcut
    subst hw
    clear hn3
    go_upto_region 10 with (go_at_call 9; refine HNEW.out.mono ?_; rintro e w2 ⟨t, rfl, hg2⟩)
    have HG2 := hid hg2
    clear hg2 HNEW
    go_loopw [7] (fun i wr => ∃ k : Nat, k ≤ n ∧ i = .int .i64 k ∧ ∃ g, TG w wr t 32 k g 0) (fun i _ => n - (intOf i).toNat)
    case atStart => exact ⟨0, by omega, rfl, _, HG2.out⟩
    case round =>
      clear HG2
      obtain ⟨k, hk, rfl, g, hg⟩ := hrel
      by_cases hlt : k < n
      · have b1 : decide (k < n) = true := by simp; omega
        have b2 : decide ((k : Int) < (n : Int)) = true := by simp; omega
        have happ := hg.app (Below.refl _ _) (r1 (k : Int)) (r1_bd _ (by omega) (by omega))
        rw [show appL 32 k = k + 1 from if_pos (by omega)] at happ
        have bd := fun W => bd27_1 W (k : Int)
        have cv : IntKind.u8.wrap (k : Int) = (k : Int) := by unfold IntKind.wrap; simp [IntKind.bits, IntKind.signed]; omega
        have HAPP := hid happ
        clear happ hg
        go_wp2_with (go_at_call 15; refine HAPP.out.mono ?_; rintro e w3 ⟨rfl, hg3, _⟩)
        go_roundw
        case rel => exact ⟨k + 1, by omega, by go_num, _, hg3⟩
        case measure => simp [intOf]; omega
      · obtain rfl : n = k := by omega
        have b1 : decide (n < n) = false := by simp
        have b2 : decide ((n : Int) < (n : Int)) = false := by simp
        have HG := hid (show ∃ g, TG w wr t 32 n g ((0 : Nat) * 2147483648 : Int) from ⟨g, hg⟩)
        clear hg
        go_upto_region 14 with fail
        go_loopw [8] (fun i wr => ∃ k : Nat, k ≤ 60 ∧ i = .int .i64 k ∧ ∃ g, TG w wr t 32 n g ((k : Int) * 2147483648)) (fun i _ => 60 - (intOf i).toNat)
        case atStart => exact ⟨0, by omega, rfl, HG.out⟩
        case round =>
          clear HG
          obtain ⟨k, hk, rfl, g, hg⟩ := hrel
          by_cases hc : k < lo ∧ k < 60 ∧ 0 < n
          · obtain ⟨hc1, hc2, hc3⟩ := hc
            have b3 : decide (k < lo) = true := by simp; omega
            have b4 : decide ((k : Int) < (lo : Int)) = true := by simp; omega
            have b5 : decide (k < 60) = true := by simp; omega
            have b6 : decide ((k : Int) < 60) = true := by simp; omega
            have b7 : decide (0 < n) = true := by simp; omega
            have b8 : decide ((0 : Int) < (n : Int)) = true := by simp; omega
            obtain ⟨bo, oo, hao, hbo, hco⟩ := HO.out.resolve_left (by omega)
            subst hao
            have ixo := fun W => ix48_run W bo oo lo co k hc1
            have cO := (below_cell hg.bel hbo).trans (hco k hc1)
            have zb := HOB.out k
            obtain ⟨z, ez⟩ : ∃ z, os k = z := ⟨_, rfl⟩
            rw [ez] at cO zb
            obtain ⟨zb1, zb2⟩ := zb
            have x1 : -(n : Int) < z.tmod n := by
              have := Int.lt_tmod_of_pos z (by omega : (0 : Int) < n); omega
            have x2 : z.tmod n < n := Int.tmod_lt_of_pos z (by omega)
            have HG := hid hg
            have nz : ((n : Int) == 0) = false := by simp; omega
            have nz2 : (n : Int) ≠ 0 := by omega
            clear ez hg hco
            go_upto_region 17 with fail
            clear ixo cO b3 b4 b5 b6 b7 b8
            generalize z.tmod n = X at x1 x2 ⊢
            obtain ⟨at', eat⟩ : ∃ at' : Nat, (X + (n : Int)) % (n : Int) = (at' : Int) := ⟨((X + (n : Int)) % (n : Int)).toNat, by have := Int.emod_nonneg (X + (n : Int)) nz2; omega⟩
            have hat : at' < n := by have := Int.emod_lt_of_pos (X + (n : Int)) (by omega : (0 : Int) < n); omega
            rw [eat]
            clear eat
            have hset := HG.out.set (Below.refl _ _) (at' : Int) (r2 9 (k : Int)) (r2_bd _ _ (by omega) (by omega) (by omega) (by omega)) (by omega) (by omega)
            have bd := fun W => bd27_2 W 9 (k : Int)
            have cv : IntKind.u8.wrap (k : Int) = (k : Int) := by unfold IntKind.wrap; simp [IntKind.bits, IntKind.signed]; omega
            have HSET := hid hset
            clear hset
            go_upto_region 18 with (go_at_call 14; refine HSET.out.mono ?_; rintro e w3 ⟨rfl, hg3, _⟩)
            have HG3 := hid (show ∃ g, TG w w3 t 32 n g ((k : Int) * 2147483648) from ⟨_, hg3⟩)
            clear hg3 HSET HG bd
            by_cases h5 : k % 5 = 0
            · have c1 : ((k : Int) % 5 == 0) = true := by simp; omega
              have c2 : decide ((k : Int) % 5 = 0) = true := by simp; omega
              have c3 : (k : Int) % 5 = 0 := by omega
              have hro : Calls Tryd.prog 12 #[.pointer (some ⟨t, 0, none⟩)] w3 fun e w' => ∃ v, e = .returned v ∧ ∃ g, TG w w' t 32 n g (((k + 1 : Nat) : Int) * 2147483648) := by
                obtain ⟨g3, hg3⟩ := HG3.out
                refine (hg3.root (Below.refl _ _) HS.out (by omega)).mono ?_
                rintro e w' ⟨rfl, h3, _⟩
                exact ⟨_, rfl, _, h3.le (by omega)⟩
              have HRO := hid hro
              clear hro
              go_wp2_with (go_at_call 12; refine HRO.out.mono ?_; rintro e w4 ⟨v4, rfl, hg4⟩)
              go_roundw
              case rel => exact ⟨k + 1, by omega, by go_num, hg4⟩
              case measure => simp [intOf]; omega
            · have c1 : ((k : Int) % 5 == 0) = false := by simp; omega
              have c2 : decide ((k : Int) % 5 = 0) = false := by simp; omega
              have c3 : ¬ (k : Int) % 5 = 0 := by omega
              go_wp2
              go_roundw
              case rel =>
                obtain ⟨g3, hg3⟩ := HG3.out
                exact ⟨k + 1, by omega, by go_num, g3, hg3.le (by omega)⟩
              case measure => simp [intOf]; omega
          · have HG := hid (show ∃ g, TG w wr t 32 n g (60 * 2147483648) ∧ Fil n 0 g f from ⟨g, hg.le (by omega), fun j hj => by omega⟩)
            clear hg
            have hcase : (¬ k < lo) ∨ (k < lo ∧ ¬ k < 60) ∨ (k < lo ∧ k < 60 ∧ n = 0) := by omega
            clear hc
            rcases hcase with hc | ⟨hc1, hc2⟩ | ⟨hc1, hc2, hc3⟩
            · have b3 : decide (k < lo) = false := by simp; omega
              have b4 : decide ((k : Int) < (lo : Int)) = false := by simp; omega
              go_upto_region 21 with fail
              go_loopw [10, 11] (fun i _ wr => ∃ k : Nat, k ≤ n ∧ i = .int .i64 k ∧ ∃ g, TG w wr t 32 n g (60 * 2147483648) ∧ Fil n k g f) (fun i _ _ => n - (intOf i).toNat)
              case atStart => exact ⟨0, by omega, rfl, HG.out⟩
              case round =>
                clear HG
                obtain ⟨k, hk, rfl, g, hg, hfil⟩ := hrel
                by_cases hlt : k < n
                · have e1 : decide (k < n) = true := by simp; omega
                  have e2 : decide ((k : Int) < (n : Int)) = true := by simp; omega
                  have hp := plc_lt n k hlt
                  obtain ⟨bx, ox, hx1, hx2, hx3⟩ := (HR.out.below hg.bel).at (plc n k) (by omega)
                  have l1 := lv24_mid hx3
                  have hset := hg.set (Below.refl _ _) (plc n k : Nat) (rt32 f (plc n k)) (fun j hj => HF.out _ (by omega)) (by omega) (by omega)
                  rw [show getE n (plc n k : Nat) = 0 from if_pos (by omega)] at hset
                  have hfs := hfil.step n hp
                  have nz : ((n : Int) == 0) = false := by simp; omega
                  have nz2 : (n : Int) ≠ 0 := by omega
                  have ep : plc n k = if n % 7 = 0 then k else k * 7 % n := rfl
                  obtain ⟨p, epp⟩ : ∃ p, plc n k = p := ⟨_, rfl⟩
                  rw [epp] at hset hfs hx2 l1 hp ep
                  have HSET := hid hset
                  have HFS := hid hfs
                  obtain ⟨r, er⟩ : ∃ r, k * 7 % n = r := ⟨_, rfl⟩
                  have em : (k : Int) * 7 % (n : Int) = (r : Int) := by rw [← er]; simp
                  have hr1 : r < n := by rw [← er]; exact Nat.mod_lt _ (by omega)
                  rw [er] at ep
                  clear er
                  have EPP := hid epp
                  generalize rt32 f p = c at HSET HFS l1
                  clear hset hfs hg hfil hx3 hx1 epp
                  by_cases h7 : n % 7 = 0
                  · rw [if_pos h7] at ep
                    subst ep
                    have c1 : ((n : Int) % 7 == 0) = true := by simp; omega
                    have c2 : decide ((n : Int) % 7 = 0) = true := by simp; omega
                    have c3 : (n : Int) % 7 = 0 := by omega
                    go_wp2_with (go_at_call 14; refine HSET.out.mono ?_; rintro e w3 ⟨rfl, hg3, _⟩)
                    go_roundw
                    case rel => exact ⟨p + 1, by omega, by go_num, _, hg3, HFS.out⟩
                    case measure => simp [intOf]; omega
                  · rw [if_neg h7] at ep
                    have c1 : ((n : Int) % 7 == 0) = false := by simp; omega
                    have c2 : decide ((n : Int) % 7 = 0) = false := by simp; omega
                    have c3 : ¬ (n : Int) % 7 = 0 := by omega
                    subst ep
                    go_wp2_with (go_at_call 14; refine HSET.out.mono ?_; rintro e w3 ⟨rfl, hg3, _⟩)
                    go_roundw
                    case rel => exact ⟨k + 1, by omega, by go_num, _, hg3, HFS.out⟩
                    case measure => simp [intOf]; omega
                · obtain rfl : n = k := by omega
                  have e1 : decide (n < n) = false := by simp
                  have e2 : decide ((n : Int) < (n : Int)) = false := by simp
                  have hg' : TG w wr t 32 n f (60 * 2147483648) := hg.congr (fun q hq => hfil.whole (by omega) q hq)
                  have HG := hid hg'
                  clear hg hfil hg'
                  have hsl : ∀ W, (slr (.slice a len cap) none (some (.int .i64 n))).run Tryd.prog W = .ok (.slice (ofs a cap 0) n cap) W := fun W => slr_run W a len cap 0 n none (some (.int .i64 (n : Nat))) (.inr ⟨rfl, rfl⟩) (.inl rfl) (by omega) (by omega) hlc
                  have hrp : Rts wr (ofs a cap 0) n cap f := by
                    have := (HR.out.below HG.out.bel).part 0 n (by omega) (by omega)
                    simpa using this
                  have htr := tree_any (ofs a cap 0) n cap f 32 wr hrp (by omega) (fun q hq => HF.out q (by omega)) (HS.out.below HG.out.bel) (by omega) (by omega)
                  rw [show treeE n 32 = 0 from by unfold treeE; rw [if_pos ⟨by omega, by omega⟩, if_pos (by omega)]] at htr
                  obtain ⟨C, hC⟩ : ∃ C, treeV f n 32 = C := ⟨_, rfl⟩
                  rw [hC] at htr
                  have HTR := hid htr
                  have HC := hid hC
                  have sv := fun W => sv24_newv W (fun _ => 0) C
                  have z := zero_root
                  clear htr hrp hC
                  generalize ofs a cap 0 = a' at hsl HTR
                  go_upto_region 29 with (go_at_call 23; refine HTR.out.mono ?_; rintro e w8 ⟨rfl, hb8⟩)
                  obtain ⟨W9, hW9⟩ : ∃ W, w8.alloc (.cells (vs .u8 32 C) 33) = W := ⟨_, rfl⟩
                  obtain ⟨y2, ey2⟩ : ∃ y, w8.heap.size = y := ⟨_, rfl⟩
                  rw [hW9, ey2]
                  have ry2 : W9.drew.heap[y2]? = some (.cells (vs .u8 32 C) 33) := by rw [← hW9, ← ey2]; exact heap_new rfl
                  have hz2 : y2 < W9.drew.heap.size := by rw [← hW9, ← ey2]; simp
                  have hz1 := hb8.size
                  have hB79 : Below wr.heap.size wr W9.drew := by rw [← hW9]; exact (hb8.alloc (by omega) _).drew
                  have hro := HG.out.root hB79 HS.out (by omega)
                  rw [show ((32 : Nat) : Int) = 32 from rfl, HC.out] at hro
                  have hst : ∀ W', Stay wr W9.drew W' → W'.heap[y2]? = some (.cells (vs .u8 32 C) 33) := fun W' h => (h y2 (by omega) hz2).trans ry2
                  have HRY := hid ry2
                  have HRO := hid hro
                  have HST := hid hst
                  have HLD : Hid (∀ W : World, W.heap[y2]? = some (.cells (vs .u8 32 C) 33) → (lv24 ⟨y2, 0, none⟩).run Tryd.prog W = .ok (.agg (vs .u8 32 C)) W) := fun W h => lv24_run h
                  clear ry2 hz2 hB79 hro hst hW9 ey2 sv z hsl HTR hb8
                  refine wp_region_noPanic ?_
                  refine wp_region_held_drew (S := fun W => W.heap[y2]? = some (.cells (vs .u8 32 C) 33)) (by kernel_rfl) (HRY.out) (fun hHeld => ?_)
                  refine wpAnyH_take (i := 0) (v := ?v12) rfl (by kernel_rfl) (by kernel_rfl) (by kernel_rfl) (fun _ _ _ h => h) (Or.inl ⟨by rfl, ?hy12⟩) hHeld ?rest12
                  case hy12 =>
                    intro w hSw
                    go_simp
                    try with_reducible rfl
                  try simp only [Act.put, List.setIfInBounds_toArray, List.set_cons_zero, List.set_cons_succ, Array.toArray_toList, List.getElem_toArray, List.getElem_cons_zero, List.getElem_cons_succ]
                  refine wpAnyH_take (i := 1) (v := ?v13) rfl (by kernel_rfl) (by kernel_rfl) (by kernel_rfl) (fun _ _ _ h => h) (Or.inl ⟨by rfl, ?hy13⟩) hHeld ?rest13
                  case hy13 =>
                    intro w hSw
                    go_simp
                    try with_reducible rfl
                  try simp only [Act.put, List.setIfInBounds_toArray, List.set_cons_zero, List.set_cons_succ, Array.toArray_toList, List.getElem_toArray, List.getElem_cons_zero, List.getElem_cons_succ]
                  refine wpAnyH_take (i := 2) (v := ?v14) rfl (by kernel_rfl) (by kernel_rfl) (by kernel_rfl) (fun _ _ _ h => h) (Or.inl ⟨by rfl, ?hy14⟩) hHeld ?rest14
                  case hy14 =>
                    intro w hSw
                    go_simp
                    try with_reducible rfl
                  try simp only [Act.put, List.setIfInBounds_toArray, List.set_cons_zero, List.set_cons_succ, Array.toArray_toList, List.getElem_toArray, List.getElem_cons_zero, List.getElem_cons_succ]
                  refine wpAnyH_take (i := 3) (v := ?v15) rfl (by kernel_rfl) (by kernel_rfl) (by kernel_rfl) (fun _ _ _ h => h) (Or.inl ⟨by rfl, ?hy15⟩) hHeld ?rest15
                  case hy15 =>
                    intro w hSw
                    go_simp
                    try with_reducible rfl
                  try simp only [Act.put, List.setIfInBounds_toArray, List.set_cons_zero, List.set_cons_succ, Array.toArray_toList, List.getElem_toArray, List.getElem_cons_zero, List.getElem_cons_succ]
                  refine wpAnyH_take (i := 5) (v := ?v16) rfl (by kernel_rfl) (by kernel_rfl) (by kernel_rfl) (fun _ _ _ h => h) (Or.inl ⟨by rfl, ?hy16⟩) hHeld ?rest16
                  case hy16 =>
                    intro w hSw
                    have ld := HLD.out _ hSw
                    go_simp
                    try with_reducible rfl
                  try simp only [Act.put, List.setIfInBounds_toArray, List.set_cons_zero, List.set_cons_succ, Array.toArray_toList, List.getElem_toArray, List.getElem_cons_zero, List.getElem_cons_succ]
                  refine wpAnyH_ready (rs := [4]) (by kernel_rfl) (by simp) ?_
                  refine AllReadyH.cons rfl (fun K hK => ?_) AllReadyH.nil
                  go_simp
                  refine (HRO.out).mono ?_
                  rintro e w10 ⟨rfl, hg10, hs10⟩
                  dsimp only
                  have HB10 := hid hg10.bel
                  clear hg10
                  refine hK.out _ _ (HST.out _ hs10) (fun hHeld => ?_)
                  clear hK K
                  try simp only [Act.put, List.setIfInBounds_toArray, List.set_cons_zero, List.set_cons_succ, Array.toArray_toList, List.getElem_toArray, List.getElem_cons_zero, List.getElem_cons_succ]
                  refine wpAnyH_take (i := 6) rfl (by kernel_rfl) (by kernel_rfl) (by kernel_rfl) (fun _ _ _ h => h) (yields_eqo (by rfl) _ _ _ rfl C C rfl rfl) hHeld ?_
                  rw [eqR_self]
                  try simp only [Act.put, List.setIfInBounds_toArray, List.set_cons_zero, List.set_cons_succ, Array.toArray_toList, List.getElem_toArray, List.getElem_cons_zero, List.getElem_cons_succ]
                  refine wpAnyH_take (i := 7) (v := ?v17) rfl (by kernel_rfl) (by kernel_rfl) (by kernel_rfl) (fun _ _ _ h => h) (Or.inl ⟨by rfl, ?hy17⟩) hHeld ?rest17
                  case hy17 =>
                    intro w hSw
                    go_simp
                    try with_reducible rfl
                  try simp only [Act.put, List.setIfInBounds_toArray, List.set_cons_zero, List.set_cons_succ, Array.toArray_toList, List.getElem_toArray, List.getElem_cons_zero, List.getElem_cons_succ]
                  refine wpAnyH_take (i := 8) (v := ?v18) rfl (by kernel_rfl) (by kernel_rfl) (by kernel_rfl) (fun _ _ _ h => h) (Or.inl ⟨by rfl, ?hy18⟩) hHeld ?rest18
                  case hy18 =>
                    intro w hSw
                    go_simp
                    try with_reducible rfl
                  try simp only [Act.put, List.setIfInBounds_toArray, List.set_cons_zero, List.set_cons_succ, Array.toArray_toList, List.getElem_toArray, List.getElem_cons_zero, List.getElem_cons_succ]
                  refine wpAnyH_done (by kernel_rfl) ?_ _
                  refine NoPanic.normal ?_
                  go_wp2
                  go_ret
                  exact ⟨rfl, HB10.out⟩
            · have b3 : decide (k < lo) = true := by simp; omega
              have b4 : decide ((k : Int) < (lo : Int)) = true := by simp; omega
              have b5 : decide (k < 60) = false := by simp; omega
              have b6 : decide ((k : Int) < 60) = false := by simp; omega
              go_upto_region 21 with fail
              go_loopw [10, 11] (fun i _ wr => ∃ k : Nat, k ≤ n ∧ i = .int .i64 k ∧ ∃ g, TG w wr t 32 n g (60 * 2147483648) ∧ Fil n k g f) (fun i _ _ => n - (intOf i).toNat)
              case atStart => exact ⟨0, by omega, rfl, HG.out⟩
              case round =>
                clear HG
                obtain ⟨k, hk, rfl, g, hg, hfil⟩ := hrel
                by_cases hlt : k < n
                · have e1 : decide (k < n) = true := by simp; omega
                  have e2 : decide ((k : Int) < (n : Int)) = true := by simp; omega
                  have hp := plc_lt n k hlt
                  obtain ⟨bx, ox, hx1, hx2, hx3⟩ := (HR.out.below hg.bel).at (plc n k) (by omega)
                  have l1 := lv24_mid hx3
                  have hset := hg.set (Below.refl _ _) (plc n k : Nat) (rt32 f (plc n k)) (fun j hj => HF.out _ (by omega)) (by omega) (by omega)
                  rw [show getE n (plc n k : Nat) = 0 from if_pos (by omega)] at hset
                  have hfs := hfil.step n hp
                  have nz : ((n : Int) == 0) = false := by simp; omega
                  have nz2 : (n : Int) ≠ 0 := by omega
                  have ep : plc n k = if n % 7 = 0 then k else k * 7 % n := rfl
                  obtain ⟨p, epp⟩ : ∃ p, plc n k = p := ⟨_, rfl⟩
                  rw [epp] at hset hfs hx2 l1 hp ep
                  have HSET := hid hset
                  have HFS := hid hfs
                  obtain ⟨r, er⟩ : ∃ r, k * 7 % n = r := ⟨_, rfl⟩
                  have em : (k : Int) * 7 % (n : Int) = (r : Int) := by rw [← er]; simp
                  have hr1 : r < n := by rw [← er]; exact Nat.mod_lt _ (by omega)
                  rw [er] at ep
                  clear er
                  have EPP := hid epp
                  generalize rt32 f p = c at HSET HFS l1
                  clear hset hfs hg hfil hx3 hx1 epp
                  by_cases h7 : n % 7 = 0
                  · rw [if_pos h7] at ep
                    subst ep
                    have c1 : ((n : Int) % 7 == 0) = true := by simp; omega
                    have c2 : decide ((n : Int) % 7 = 0) = true := by simp; omega
                    have c3 : (n : Int) % 7 = 0 := by omega
                    go_wp2_with (go_at_call 14; refine HSET.out.mono ?_; rintro e w3 ⟨rfl, hg3, _⟩)
                    go_roundw
                    case rel => exact ⟨p + 1, by omega, by go_num, _, hg3, HFS.out⟩
                    case measure => simp [intOf]; omega
                  · rw [if_neg h7] at ep
                    have c1 : ((n : Int) % 7 == 0) = false := by simp; omega
                    have c2 : decide ((n : Int) % 7 = 0) = false := by simp; omega
                    have c3 : ¬ (n : Int) % 7 = 0 := by omega
                    subst ep
                    go_wp2_with (go_at_call 14; refine HSET.out.mono ?_; rintro e w3 ⟨rfl, hg3, _⟩)
                    go_roundw
                    case rel => exact ⟨k + 1, by omega, by go_num, _, hg3, HFS.out⟩
                    case measure => simp [intOf]; omega
                · obtain rfl : n = k := by omega
                  have e1 : decide (n < n) = false := by simp
                  have e2 : decide ((n : Int) < (n : Int)) = false := by simp
                  have hg' : TG w wr t 32 n f (60 * 2147483648) := hg.congr (fun q hq => hfil.whole (by omega) q hq)
                  have HG := hid hg'
                  clear hg hfil hg'
                  have hsl : ∀ W, (slr (.slice a len cap) none (some (.int .i64 n))).run Tryd.prog W = .ok (.slice (ofs a cap 0) n cap) W := fun W => slr_run W a len cap 0 n none (some (.int .i64 (n : Nat))) (.inr ⟨rfl, rfl⟩) (.inl rfl) (by omega) (by omega) hlc
                  have hrp : Rts wr (ofs a cap 0) n cap f := by
                    have := (HR.out.below HG.out.bel).part 0 n (by omega) (by omega)
                    simpa using this
                  have htr := tree_any (ofs a cap 0) n cap f 32 wr hrp (by omega) (fun q hq => HF.out q (by omega)) (HS.out.below HG.out.bel) (by omega) (by omega)
                  rw [show treeE n 32 = 0 from by unfold treeE; rw [if_pos ⟨by omega, by omega⟩, if_pos (by omega)]] at htr
                  obtain ⟨C, hC⟩ : ∃ C, treeV f n 32 = C := ⟨_, rfl⟩
                  rw [hC] at htr
                  have HTR := hid htr
                  have HC := hid hC
                  have sv := fun W => sv24_newv W (fun _ => 0) C
                  have z := zero_root
                  clear htr hrp hC
                  generalize ofs a cap 0 = a' at hsl HTR
                  go_upto_region 29 with (go_at_call 23; refine HTR.out.mono ?_; rintro e w8 ⟨rfl, hb8⟩)
                  obtain ⟨W9, hW9⟩ : ∃ W, w8.alloc (.cells (vs .u8 32 C) 33) = W := ⟨_, rfl⟩
                  obtain ⟨y2, ey2⟩ : ∃ y, w8.heap.size = y := ⟨_, rfl⟩
                  rw [hW9, ey2]
                  have ry2 : W9.drew.heap[y2]? = some (.cells (vs .u8 32 C) 33) := by rw [← hW9, ← ey2]; exact heap_new rfl
                  have hz2 : y2 < W9.drew.heap.size := by rw [← hW9, ← ey2]; simp
                  have hz1 := hb8.size
                  have hB79 : Below wr.heap.size wr W9.drew := by rw [← hW9]; exact (hb8.alloc (by omega) _).drew
                  have hro := HG.out.root hB79 HS.out (by omega)
                  rw [show ((32 : Nat) : Int) = 32 from rfl, HC.out] at hro
                  have hst : ∀ W', Stay wr W9.drew W' → W'.heap[y2]? = some (.cells (vs .u8 32 C) 33) := fun W' h => (h y2 (by omega) hz2).trans ry2
                  have HRY := hid ry2
                  have HRO := hid hro
                  have HST := hid hst
                  have HLD : Hid (∀ W : World, W.heap[y2]? = some (.cells (vs .u8 32 C) 33) → (lv24 ⟨y2, 0, none⟩).run Tryd.prog W = .ok (.agg (vs .u8 32 C)) W) := fun W h => lv24_run h
                  clear ry2 hz2 hB79 hro hst hW9 ey2 sv z hsl HTR hb8
                  refine wp_region_noPanic ?_
                  refine wp_region_held_drew (S := fun W => W.heap[y2]? = some (.cells (vs .u8 32 C) 33)) (by kernel_rfl) (HRY.out) (fun hHeld => ?_)
                  refine wpAnyH_take (i := 0) (v := ?v19) rfl (by kernel_rfl) (by kernel_rfl) (by kernel_rfl) (fun _ _ _ h => h) (Or.inl ⟨by rfl, ?hy19⟩) hHeld ?rest19
                  case hy19 =>
                    intro w hSw
                    go_simp
                    try with_reducible rfl
                  try simp only [Act.put, List.setIfInBounds_toArray, List.set_cons_zero, List.set_cons_succ, Array.toArray_toList, List.getElem_toArray, List.getElem_cons_zero, List.getElem_cons_succ]
                  refine wpAnyH_take (i := 1) (v := ?v20) rfl (by kernel_rfl) (by kernel_rfl) (by kernel_rfl) (fun _ _ _ h => h) (Or.inl ⟨by rfl, ?hy20⟩) hHeld ?rest20
                  case hy20 =>
                    intro w hSw
                    go_simp
                    try with_reducible rfl
                  try simp only [Act.put, List.setIfInBounds_toArray, List.set_cons_zero, List.set_cons_succ, Array.toArray_toList, List.getElem_toArray, List.getElem_cons_zero, List.getElem_cons_succ]
                  refine wpAnyH_take (i := 2) (v := ?v21) rfl (by kernel_rfl) (by kernel_rfl) (by kernel_rfl) (fun _ _ _ h => h) (Or.inl ⟨by rfl, ?hy21⟩) hHeld ?rest21
                  case hy21 =>
                    intro w hSw
                    go_simp
                    try with_reducible rfl
                  try simp only [Act.put, List.setIfInBounds_toArray, List.set_cons_zero, List.set_cons_succ, Array.toArray_toList, List.getElem_toArray, List.getElem_cons_zero, List.getElem_cons_succ]
                  refine wpAnyH_take (i := 3) (v := ?v22) rfl (by kernel_rfl) (by kernel_rfl) (by kernel_rfl) (fun _ _ _ h => h) (Or.inl ⟨by rfl, ?hy22⟩) hHeld ?rest22
                  case hy22 =>
                    intro w hSw
                    go_simp
                    try with_reducible rfl
                  try simp only [Act.put, List.setIfInBounds_toArray, List.set_cons_zero, List.set_cons_succ, Array.toArray_toList, List.getElem_toArray, List.getElem_cons_zero, List.getElem_cons_succ]
                  refine wpAnyH_take (i := 5) (v := ?v23) rfl (by kernel_rfl) (by kernel_rfl) (by kernel_rfl) (fun _ _ _ h => h) (Or.inl ⟨by rfl, ?hy23⟩) hHeld ?rest23
                  case hy23 =>
                    intro w hSw
                    have ld := HLD.out _ hSw
                    go_simp
                    try with_reducible rfl
                  try simp only [Act.put, List.setIfInBounds_toArray, List.set_cons_zero, List.set_cons_succ, Array.toArray_toList, List.getElem_toArray, List.getElem_cons_zero, List.getElem_cons_succ]
                  refine wpAnyH_ready (rs := [4]) (by kernel_rfl) (by simp) ?_
                  refine AllReadyH.cons rfl (fun K hK => ?_) AllReadyH.nil
                  go_simp
                  refine (HRO.out).mono ?_
                  rintro e w10 ⟨rfl, hg10, hs10⟩
                  dsimp only
                  have HB10 := hid hg10.bel
                  clear hg10
                  refine hK.out _ _ (HST.out _ hs10) (fun hHeld => ?_)
                  clear hK K
                  try simp only [Act.put, List.setIfInBounds_toArray, List.set_cons_zero, List.set_cons_succ, Array.toArray_toList, List.getElem_toArray, List.getElem_cons_zero, List.getElem_cons_succ]
                  refine wpAnyH_take (i := 6) rfl (by kernel_rfl) (by kernel_rfl) (by kernel_rfl) (fun _ _ _ h => h) (yields_eqo (by rfl) _ _ _ rfl C C rfl rfl) hHeld ?_
                  rw [eqR_self]
                  try simp only [Act.put, List.setIfInBounds_toArray, List.set_cons_zero, List.set_cons_succ, Array.toArray_toList, List.getElem_toArray, List.getElem_cons_zero, List.getElem_cons_succ]
                  refine wpAnyH_take (i := 7) (v := ?v24) rfl (by kernel_rfl) (by kernel_rfl) (by kernel_rfl) (fun _ _ _ h => h) (Or.inl ⟨by rfl, ?hy24⟩) hHeld ?rest24
                  case hy24 =>
                    intro w hSw
                    go_simp
                    try with_reducible rfl
                  try simp only [Act.put, List.setIfInBounds_toArray, List.set_cons_zero, List.set_cons_succ, Array.toArray_toList, List.getElem_toArray, List.getElem_cons_zero, List.getElem_cons_succ]
                  refine wpAnyH_take (i := 8) (v := ?v25) rfl (by kernel_rfl) (by kernel_rfl) (by kernel_rfl) (fun _ _ _ h => h) (Or.inl ⟨by rfl, ?hy25⟩) hHeld ?rest25
                  case hy25 =>
                    intro w hSw
                    go_simp
                    try with_reducible rfl
                  try simp only [Act.put, List.setIfInBounds_toArray, List.set_cons_zero, List.set_cons_succ, Array.toArray_toList, List.getElem_toArray, List.getElem_cons_zero, List.getElem_cons_succ]
                  refine wpAnyH_done (by kernel_rfl) ?_ _
                  refine NoPanic.normal ?_
                  go_wp2
                  go_ret
                  exact ⟨rfl, HB10.out⟩
            · have b3 : decide (k < lo) = true := by simp; omega
              have b4 : decide ((k : Int) < (lo : Int)) = true := by simp; omega
              have b5 : decide (k < 60) = true := by simp; omega
              have b6 : decide ((k : Int) < 60) = true := by simp; omega
              have b7 : decide (0 < n) = false := by simp; omega
              have b8 : decide ((0 : Int) < (n : Int)) = false := by simp; omega
              clear hc3
              go_upto_region 21 with fail
              go_loopw [10, 11] (fun i _ wr => ∃ k : Nat, k ≤ n ∧ i = .int .i64 k ∧ ∃ g, TG w wr t 32 n g (60 * 2147483648) ∧ Fil n k g f) (fun i _ _ => n - (intOf i).toNat)
              case atStart => exact ⟨0, by omega, rfl, HG.out⟩
              case round =>
                clear HG
                obtain ⟨k, hk, rfl, g, hg, hfil⟩ := hrel
                by_cases hlt : k < n
                · have e1 : decide (k < n) = true := by simp; omega
                  have e2 : decide ((k : Int) < (n : Int)) = true := by simp; omega
                  have hp := plc_lt n k hlt
                  obtain ⟨bx, ox, hx1, hx2, hx3⟩ := (HR.out.below hg.bel).at (plc n k) (by omega)
                  have l1 := lv24_mid hx3
                  have hset := hg.set (Below.refl _ _) (plc n k : Nat) (rt32 f (plc n k)) (fun j hj => HF.out _ (by omega)) (by omega) (by omega)
                  rw [show getE n (plc n k : Nat) = 0 from if_pos (by omega)] at hset
                  have hfs := hfil.step n hp
                  have nz : ((n : Int) == 0) = false := by simp; omega
                  have nz2 : (n : Int) ≠ 0 := by omega
                  have ep : plc n k = if n % 7 = 0 then k else k * 7 % n := rfl
                  obtain ⟨p, epp⟩ : ∃ p, plc n k = p := ⟨_, rfl⟩
                  rw [epp] at hset hfs hx2 l1 hp ep
                  have HSET := hid hset
                  have HFS := hid hfs
                  obtain ⟨r, er⟩ : ∃ r, k * 7 % n = r := ⟨_, rfl⟩
                  have em : (k : Int) * 7 % (n : Int) = (r : Int) := by rw [← er]; simp
                  have hr1 : r < n := by rw [← er]; exact Nat.mod_lt _ (by omega)
                  rw [er] at ep
                  clear er
                  have EPP := hid epp
                  generalize rt32 f p = c at HSET HFS l1
                  clear hset hfs hg hfil hx3 hx1 epp
                  by_cases h7 : n % 7 = 0
                  · rw [if_pos h7] at ep
                    subst ep
                    have c1 : ((n : Int) % 7 == 0) = true := by simp; omega
                    have c2 : decide ((n : Int) % 7 = 0) = true := by simp; omega
                    have c3 : (n : Int) % 7 = 0 := by omega
                    go_wp2_with (go_at_call 14; refine HSET.out.mono ?_; rintro e w3 ⟨rfl, hg3, _⟩)
                    go_roundw
                    case rel => exact ⟨p + 1, by omega, by go_num, _, hg3, HFS.out⟩
                    case measure => simp [intOf]; omega
                  · rw [if_neg h7] at ep
                    have c1 : ((n : Int) % 7 == 0) = false := by simp; omega
                    have c2 : decide ((n : Int) % 7 = 0) = false := by simp; omega
                    have c3 : ¬ (n : Int) % 7 = 0 := by omega
                    subst ep
                    go_wp2_with (go_at_call 14; refine HSET.out.mono ?_; rintro e w3 ⟨rfl, hg3, _⟩)
                    go_roundw
                    case rel => exact ⟨k + 1, by omega, by go_num, _, hg3, HFS.out⟩
                    case measure => simp [intOf]; omega
                · obtain rfl : n = k := by omega
                  have e1 : decide (n < n) = false := by simp
                  have e2 : decide ((n : Int) < (n : Int)) = false := by simp
                  have hg' : TG w wr t 32 n f (60 * 2147483648) := hg.congr (fun q hq => hfil.whole (by omega) q hq)
                  have HG := hid hg'
                  clear hg hfil hg'
                  have hsl : ∀ W, (slr (.slice a len cap) none (some (.int .i64 n))).run Tryd.prog W = .ok (.slice (ofs a cap 0) n cap) W := fun W => slr_run W a len cap 0 n none (some (.int .i64 (n : Nat))) (.inr ⟨rfl, rfl⟩) (.inl rfl) (by omega) (by omega) hlc
                  have hrp : Rts wr (ofs a cap 0) n cap f := by
                    have := (HR.out.below HG.out.bel).part 0 n (by omega) (by omega)
                    simpa using this
                  have htr := tree_any (ofs a cap 0) n cap f 32 wr hrp (by omega) (fun q hq => HF.out q (by omega)) (HS.out.below HG.out.bel) (by omega) (by omega)
                  rw [show treeE n 32 = 0 from by unfold treeE; rw [if_pos ⟨by omega, by omega⟩, if_pos (by omega)]] at htr
                  obtain ⟨C, hC⟩ : ∃ C, treeV f n 32 = C := ⟨_, rfl⟩
                  rw [hC] at htr
                  have HTR := hid htr
                  have HC := hid hC
                  have sv := fun W => sv24_newv W (fun _ => 0) C
                  have z := zero_root
                  clear htr hrp hC
                  generalize ofs a cap 0 = a' at hsl HTR
                  go_upto_region 29 with (go_at_call 23; refine HTR.out.mono ?_; rintro e w8 ⟨rfl, hb8⟩)
                  obtain ⟨W9, hW9⟩ : ∃ W, w8.alloc (.cells (vs .u8 32 C) 33) = W := ⟨_, rfl⟩
                  obtain ⟨y2, ey2⟩ : ∃ y, w8.heap.size = y := ⟨_, rfl⟩
                  rw [hW9, ey2]
                  have ry2 : W9.drew.heap[y2]? = some (.cells (vs .u8 32 C) 33) := by rw [← hW9, ← ey2]; exact heap_new rfl
                  have hz2 : y2 < W9.drew.heap.size := by rw [← hW9, ← ey2]; simp
                  have hz1 := hb8.size
                  have hB79 : Below wr.heap.size wr W9.drew := by rw [← hW9]; exact (hb8.alloc (by omega) _).drew
                  have hro := HG.out.root hB79 HS.out (by omega)
                  rw [show ((32 : Nat) : Int) = 32 from rfl, HC.out] at hro
                  have hst : ∀ W', Stay wr W9.drew W' → W'.heap[y2]? = some (.cells (vs .u8 32 C) 33) := fun W' h => (h y2 (by omega) hz2).trans ry2
                  have HRY := hid ry2
                  have HRO := hid hro
                  have HST := hid hst
                  have HLD : Hid (∀ W : World, W.heap[y2]? = some (.cells (vs .u8 32 C) 33) → (lv24 ⟨y2, 0, none⟩).run Tryd.prog W = .ok (.agg (vs .u8 32 C)) W) := fun W h => lv24_run h
                  clear ry2 hz2 hB79 hro hst hW9 ey2 sv z hsl HTR hb8
                  refine wp_region_noPanic ?_
                  refine wp_region_held_drew (S := fun W => W.heap[y2]? = some (.cells (vs .u8 32 C) 33)) (by kernel_rfl) (HRY.out) (fun hHeld => ?_)
                  refine wpAnyH_take (i := 0) (v := ?v26) rfl (by kernel_rfl) (by kernel_rfl) (by kernel_rfl) (fun _ _ _ h => h) (Or.inl ⟨by rfl, ?hy26⟩) hHeld ?rest26
                  case hy26 =>
                    intro w hSw
                    go_simp
                    try with_reducible rfl
                  try simp only [Act.put, List.setIfInBounds_toArray, List.set_cons_zero, List.set_cons_succ, Array.toArray_toList, List.getElem_toArray, List.getElem_cons_zero, List.getElem_cons_succ]
                  refine wpAnyH_take (i := 1) (v := ?v27) rfl (by kernel_rfl) (by kernel_rfl) (by kernel_rfl) (fun _ _ _ h => h) (Or.inl ⟨by rfl, ?hy27⟩) hHeld ?rest27
                  case hy27 =>
                    intro w hSw
                    go_simp
                    try with_reducible rfl
                  try simp only [Act.put, List.setIfInBounds_toArray, List.set_cons_zero, List.set_cons_succ, Array.toArray_toList, List.getElem_toArray, List.getElem_cons_zero, List.getElem_cons_succ]
                  refine wpAnyH_take (i := 2) (v := ?v28) rfl (by kernel_rfl) (by kernel_rfl) (by kernel_rfl) (fun _ _ _ h => h) (Or.inl ⟨by rfl, ?hy28⟩) hHeld ?rest28
                  case hy28 =>
                    intro w hSw
                    go_simp
                    try with_reducible rfl
                  try simp only [Act.put, List.setIfInBounds_toArray, List.set_cons_zero, List.set_cons_succ, Array.toArray_toList, List.getElem_toArray, List.getElem_cons_zero, List.getElem_cons_succ]
                  refine wpAnyH_take (i := 3) (v := ?v29) rfl (by kernel_rfl) (by kernel_rfl) (by kernel_rfl) (fun _ _ _ h => h) (Or.inl ⟨by rfl, ?hy29⟩) hHeld ?rest29
                  case hy29 =>
                    intro w hSw
                    go_simp
                    try with_reducible rfl
                  try simp only [Act.put, List.setIfInBounds_toArray, List.set_cons_zero, List.set_cons_succ, Array.toArray_toList, List.getElem_toArray, List.getElem_cons_zero, List.getElem_cons_succ]
                  refine wpAnyH_take (i := 5) (v := ?v30) rfl (by kernel_rfl) (by kernel_rfl) (by kernel_rfl) (fun _ _ _ h => h) (Or.inl ⟨by rfl, ?hy30⟩) hHeld ?rest30
                  case hy30 =>
                    intro w hSw
                    have ld := HLD.out _ hSw
                    go_simp
                    try with_reducible rfl
                  try simp only [Act.put, List.setIfInBounds_toArray, List.set_cons_zero, List.set_cons_succ, Array.toArray_toList, List.getElem_toArray, List.getElem_cons_zero, List.getElem_cons_succ]
                  refine wpAnyH_ready (rs := [4]) (by kernel_rfl) (by simp) ?_
                  refine AllReadyH.cons rfl (fun K hK => ?_) AllReadyH.nil
                  go_simp
                  refine (HRO.out).mono ?_
                  rintro e w10 ⟨rfl, hg10, hs10⟩
                  dsimp only
                  have HB10 := hid hg10.bel
                  clear hg10
                  refine hK.out _ _ (HST.out _ hs10) (fun hHeld => ?_)
                  clear hK K
                  try simp only [Act.put, List.setIfInBounds_toArray, List.set_cons_zero, List.set_cons_succ, Array.toArray_toList, List.getElem_toArray, List.getElem_cons_zero, List.getElem_cons_succ]
                  refine wpAnyH_take (i := 6) rfl (by kernel_rfl) (by kernel_rfl) (by kernel_rfl) (fun _ _ _ h => h) (yields_eqo (by rfl) _ _ _ rfl C C rfl rfl) hHeld ?_
                  rw [eqR_self]
                  try simp only [Act.put, List.setIfInBounds_toArray, List.set_cons_zero, List.set_cons_succ, Array.toArray_toList, List.getElem_toArray, List.getElem_cons_zero, List.getElem_cons_succ]
                  refine wpAnyH_take (i := 7) (v := ?v31) rfl (by kernel_rfl) (by kernel_rfl) (by kernel_rfl) (fun _ _ _ h => h) (Or.inl ⟨by rfl, ?hy31⟩) hHeld ?rest31
                  case hy31 =>
                    intro w hSw
                    go_simp
                    try with_reducible rfl
                  try simp only [Act.put, List.setIfInBounds_toArray, List.set_cons_zero, List.set_cons_succ, Array.toArray_toList, List.getElem_toArray, List.getElem_cons_zero, List.getElem_cons_succ]
                  refine wpAnyH_take (i := 8) (v := ?v32) rfl (by kernel_rfl) (by kernel_rfl) (by kernel_rfl) (fun _ _ _ h => h) (Or.inl ⟨by rfl, ?hy32⟩) hHeld ?rest32
                  case hy32 =>
                    intro w hSw
                    go_simp
                    try with_reducible rfl
                  try simp only [Act.put, List.setIfInBounds_toArray, List.set_cons_zero, List.set_cons_succ, Array.toArray_toList, List.getElem_toArray, List.getElem_cons_zero, List.getElem_cons_succ]
                  refine wpAnyH_done (by kernel_rfl) ?_ _
                  refine NoPanic.normal ?_
                  go_wp2
                  go_ret
                  exact ⟨rfl, HB10.out⟩

end Go.Proofs.YtjimdkpppgjokaaDoor
