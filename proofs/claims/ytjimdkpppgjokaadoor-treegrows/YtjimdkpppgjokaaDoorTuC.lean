/-
  What TreeGrows answers, at every input.
-/
import Derived.Test.YtjimdkpppgjokaaDoorTuB
namespace Go.Proofs.YtjimdkpppgjokaaDoor
open Go.RowKit
set_option linter.unusedVariables false
set_option linter.unusedSimpArgs false

attribute [local go_sem ↓] sv24_eq lv24_eq ix22_eq slr_eq bd27_eq bs22_eq eqo_eq ix51_eq

theorem appV_next (m k : Nat) (f : Nat → Int) (hk : k < m) (q : Nat) (hq : q < 32 * (k + 1)) : appV m k f (rt32 f k) q = f q := by
  unfold appV
  rw [if_pos hk]
  unfold upr
  by_cases h : q < 32 * k
  · rw [if_pos h]
  · rw [if_neg h]
    unfold rt32
    rw [show 32 * k + (q - 32 * k) = q by omega]

set_option maxRecDepth 20000 in
set_option maxHeartbeats 4000000 in
theorem grows_any (a : Option Addr) (len cap : Nat) (f : Nat → Int) (ab : Option Addr) (lb cb : Nat) (bs : Nat → Bool) (n : Int) (w : World) (hS : Sh w) (hr : Rts w a len cap f) (hf : ByB f (32 * len)) (hlc : len ≤ cap) (hb : Bos w ab lb bs) (hl : 32 * len ≤ 140737488355328) (hlb : lb ≤ 140737488355328) (h0 : -9223372036854775808 ≤ n) (h1 : n ≤ 9223372036854775807) :
    Calls Tryd.prog 7 #[.slice a len cap, .slice ab lb cb, .int .i64 n] w fun e w' => e = .returned (.bool true) ∧ Below w.heap.size w w' := by
  have haw := awake6 w hS
  have HAW := hid haw
  have HS := hid hS
  have HR := hid hr
  have HF := hid hf
  have HBO := hid hb
  clear haw hS hr hf hb
  go_enter Tryd.func7, Tryd.ntmps7
  go_upto_region 3 with (go_at_call 8; refine HAW.out.mono ?_; rintro e w1 ⟨rfl, hb1⟩)
  have q1 : -1000 < n.tmod 1000 := by
    have := Int.lt_tmod_of_pos n (by omega : (0 : Int) < 1000); omega
  have q2 : n.tmod 1000 < 1000 := Int.tmod_lt_of_pos n (by omega)
  go_upto_region 4 with fail
  generalize n.tmod 1000 = X at q1 q2 ⊢
  obtain ⟨m, em⟩ : ∃ m : Nat, 60 + X % 1000 = (m : Int) := ⟨(60 + X % 1000).toNat, by omega⟩
  have hm1 : 60 ≤ m := by omega
  have hm2 : m ≤ 1059 := by omega
  rw [em]
  have hnew := tg_new m w w1 HS.out hb1 (by omega) (by omega)
  have HNEW := hid hnew
  clear em hnew q1 q2 h0 h1
  go_upto_region 8 with (go_at_call 9; refine HNEW.out.mono ?_; rintro e w2 ⟨t, rfl, hg2⟩)
  have HG2 := hid (show TG w w2 t m 0 f 0 from hg2.congr (fun q hq => by omega))
  clear hg2 HNEW hb1 HAW
  go_loopw [8] (fun i wr => ∃ k : Nat, k ≤ len ∧ k ≤ 60 ∧ i = .int .i64 k ∧ TG w wr t m k f ((k : Int) * 2147483648)) (fun i _ => 60 - (intOf i).toNat)
  case atStart => exact ⟨0, by omega, by omega, rfl, HG2.out⟩
  case round =>
    clear HG2
    obtain ⟨k, hk1, hk2, rfl, hg⟩ := hrel
    by_cases hlt : k < len ∧ k < 60
    · obtain ⟨hlt1, hlt2⟩ := hlt
      have b1 : decide (k < len) = true := by simp; omega
      have b2 : decide ((k : Int) < (len : Int)) = true := by simp; omega
      have b3 : decide (k < 60) = true := by simp; omega
      have b4 : decide ((k : Int) < 60) = true := by simp; omega
      obtain ⟨bx, ox, hx1, hx2, hx3⟩ := (HR.out.below hg.bel).at k hlt1
      have l1 := lv24_mid hx3
      have happ := hg.app (Below.refl _ _) (rt32 f k) (fun j hj => HF.out _ (by omega))
      rw [show appE m k = 0 from if_pos (by omega), show appL m k = k + 1 from if_pos (by omega)] at happ
      have HAPP := hid happ
      have HX3 := hid hx3
      have hbx : bx < wr.heap.size := hx1
      clear happ hx3 hx1
      go_upto_region 12 with (first
        | (go_at_call 15; refine HAPP.out.mono ?_; rintro e w3 ⟨rfl, hg3, _⟩; have HG3 := hid (hg3.congr (fun q hq => appV_next m k f (by omega) q hq)); clear hg3; have hlen := HG3.out.len; rw [show ((k + 1 : Nat) : Int) = (k : Int) + 1 from rfl] at hlen; have HLEN := hid hlen; clear hlen)
        | (go_at_call 11; refine HLEN.out.mono ?_; rintro e w4 ⟨rfl, hw4⟩; obtain rfl := hw4.symm))
      have hget := HG3.out.get (k : Int) (by omega) (by omega)
      rw [show getV (k + 1) f (k : Int) = rt32 f k from by unfold getV; rw [if_pos (by omega), Int.toNat_natCast], show getE (k + 1) (k : Int) = 0 from if_pos (by omega)] at hget
      have HGET := hid hget
      have sv := fun W => sv24_newv W (fun _ => 0) (rt32 f k)
      have z := zero_root
      clear hget hg l1 HLEN HAPP
      obtain ⟨c, ec⟩ : ∃ c, rt32 f k = c := ⟨_, rfl⟩
      have hcb : ∀ j, j < 32 → 0 ≤ c j ∧ c j < 256 := fun j hj => by rw [← ec]; exact HF.out _ (by omega)
      rw [ec] at HGET HX3 sv ⊢
      have EC := hid ec
      clear ec
      go_upto_region 13 with (go_at_call 19; refine HGET.out.mono ?_; rintro e w5 ⟨rfl, hb5⟩)
      obtain ⟨W6, hW6⟩ : ∃ W, w5.alloc (.cells (vs .u8 32 c) 33) = W := ⟨_, rfl⟩
      obtain ⟨y, ey⟩ : ∃ y, w5.heap.size = y := ⟨_, rfl⟩
      have ry : W6.heap[y]? = some (.cells (vs .u8 32 c) 33) := by rw [← hW6, ← ey]; exact heap_new rfl
      have hB56 : Below w5.heap.size w5 W6 := by rw [← hW6]; exact (Below.refl _ _).alloc (Nat.le_refl _) _
      have hg6 := (HG3.out.below hb5).below hB56
      rw [hW6, ey]
      obtain ⟨by', oy, hy1, hy2, hy3⟩ := (HR.out.below (hg6.below (Below.refl _ W6).drew).bel).at k hlt1
      rw [EC.out] at hy3
      have ixq := hy2
      have l2 := lv24_mid hy3
      have l3 := lv24_run (w := W6.drew) ry
      have HL2 := hid l2
      have HL3 := hid l3
      have HG6 := hid hg6
      clear hg6 ry hB56 hW6 ey hb5 HGET sv z hy3 l2 l3 hx2 hy1
      refine wp_region_noPanic ?_
      refine wp_region_held_drew (S := fun W => (lv24 ⟨y, 0, none⟩).run Tryd.prog W = .ok (.agg (vs .u8 32 c)) W ∧ (lv24 ⟨by', oy, none⟩).run Tryd.prog W = .ok (.agg (vs .u8 32 c)) W) (by kernel_rfl) (⟨HL3.out, HL2.out⟩) (fun hHeld => ?_)
      refine wpAnyH_take (i := 0) (v := ?v12) rfl (by kernel_rfl) (by kernel_rfl) (by kernel_rfl) (fun _ _ _ h => h) (Or.inl ⟨by rfl, ?hy12⟩) hHeld ?rest12
      case hy12 =>
        intro w hSw
        go_simp
        try with_reducible rfl
      try simp only [Act.put, List.setIfInBounds_toArray, List.set_cons_zero, List.set_cons_succ, Array.toArray_toList, List.getElem_toArray, List.getElem_cons_zero, List.getElem_cons_succ]
      refine wpAnyH_take (i := 1) (v := ?v13) rfl (by kernel_rfl) (by kernel_rfl) (by kernel_rfl) (fun _ _ _ h => h) (Or.inl ⟨by rfl, ?hy13⟩) hHeld ?rest13
      case hy13 =>
        intro w hSw
        go_simp
        try with_reducible rfl
      try simp only [Act.put, List.setIfInBounds_toArray, List.set_cons_zero, List.set_cons_succ, Array.toArray_toList, List.getElem_toArray, List.getElem_cons_zero, List.getElem_cons_succ]
      refine wpAnyH_take (i := 2) (v := ?v14) rfl (by kernel_rfl) (by kernel_rfl) (by kernel_rfl) (fun _ _ _ h => h) (Or.inl ⟨by rfl, ?hy14⟩) hHeld ?rest14
      case hy14 =>
        intro w hSw
        go_simp
        try with_reducible rfl
      try simp only [Act.put, List.setIfInBounds_toArray, List.set_cons_zero, List.set_cons_succ, Array.toArray_toList, List.getElem_toArray, List.getElem_cons_zero, List.getElem_cons_succ]
      refine wpAnyH_take (i := 3) (v := ?v15) rfl (by kernel_rfl) (by kernel_rfl) (by kernel_rfl) (fun _ _ _ h => h) (Or.inl ⟨by rfl, ?hy15⟩) hHeld ?rest15
      case hy15 =>
        intro w hSw
        have ld := hSw.1
        go_simp
        try with_reducible rfl
      try simp only [Act.put, List.setIfInBounds_toArray, List.set_cons_zero, List.set_cons_succ, Array.toArray_toList, List.getElem_toArray, List.getElem_cons_zero, List.getElem_cons_succ]
      refine wpAnyH_take (i := 4) (v := ?v16) rfl (by kernel_rfl) (by kernel_rfl) (by kernel_rfl) (fun _ _ _ h => h) (Or.inl ⟨by rfl, ?hy16⟩) hHeld ?rest16
      case hy16 =>
        intro w hSw
        go_simp
        try with_reducible rfl
      try simp only [Act.put, List.setIfInBounds_toArray, List.set_cons_zero, List.set_cons_succ, Array.toArray_toList, List.getElem_toArray, List.getElem_cons_zero, List.getElem_cons_succ]
      refine wpAnyH_take (i := 5) (v := ?v17) rfl (by kernel_rfl) (by kernel_rfl) (by kernel_rfl) (fun _ _ _ h => h) (Or.inl ⟨by rfl, ?hy17⟩) hHeld ?rest17
      case hy17 =>
        intro w hSw
        go_simp
        try with_reducible rfl
      try simp only [Act.put, List.setIfInBounds_toArray, List.set_cons_zero, List.set_cons_succ, Array.toArray_toList, List.getElem_toArray, List.getElem_cons_zero, List.getElem_cons_succ]
      refine wpAnyH_take (i := 6) (v := ?v18) rfl (by kernel_rfl) (by kernel_rfl) (by kernel_rfl) (fun _ _ _ h => h) (Or.inl ⟨by rfl, ?hy18⟩) hHeld ?rest18
      case hy18 =>
        intro w hSw
        go_simp
        try with_reducible rfl
      try simp only [Act.put, List.setIfInBounds_toArray, List.set_cons_zero, List.set_cons_succ, Array.toArray_toList, List.getElem_toArray, List.getElem_cons_zero, List.getElem_cons_succ]
      refine wpAnyH_take (i := 7) (v := ?v19) rfl (by kernel_rfl) (by kernel_rfl) (by kernel_rfl) (fun _ _ _ h => h) (Or.inl ⟨by rfl, ?hy19⟩) hHeld ?rest19
      case hy19 =>
        intro w hSw
        have ld := hSw.2
        go_simp
        try with_reducible rfl
      try simp only [Act.put, List.setIfInBounds_toArray, List.set_cons_zero, List.set_cons_succ, Array.toArray_toList, List.getElem_toArray, List.getElem_cons_zero, List.getElem_cons_succ]
      refine wpAnyH_take (i := 8) rfl (by kernel_rfl) (by kernel_rfl) (by kernel_rfl) (fun _ _ _ h => h) (yields_neo (by rfl) _ _ _ rfl c c rfl rfl) hHeld ?_
      rw [eqR_self, Bool.not_true]
      try simp only [Act.put, List.setIfInBounds_toArray, List.set_cons_zero, List.set_cons_succ, Array.toArray_toList, List.getElem_toArray, List.getElem_cons_zero, List.getElem_cons_succ]
      refine wpAnyH_take (i := 9) (v := ?v20) rfl (by kernel_rfl) (by kernel_rfl) (by kernel_rfl) (fun _ _ _ h => h) (Or.inl ⟨by rfl, ?hy20⟩) hHeld ?rest20
      case hy20 =>
        intro w hSw
        go_simp
        try with_reducible rfl
      try simp only [Act.put, List.setIfInBounds_toArray, List.set_cons_zero, List.set_cons_succ, Array.toArray_toList, List.getElem_toArray, List.getElem_cons_zero, List.getElem_cons_succ]
      refine wpAnyH_done (by kernel_rfl) ?_ _
      refine NoPanic.normal ?_
      have hg7 := HG6.out.below (Below.refl _ W6).drew
      have HG7 := hid hg7
      clear hg7 HG6 HL2 HL3 HX3 ixq
      obtain ⟨W7, hW7⟩ : ∃ W, W6.drew = W := ⟨_, rfl⟩
      rw [hW7] at HG7 ⊢
      clear hW7
      by_cases hask : k < lb
      · obtain ⟨bb, ob, hab, hbb, hcb2⟩ := HBO.out.resolve_left (by omega)
        subst hab
        have ixb := fun W => ix51_mid W bb ob lb cb k hask
        have d1 : decide (k < lb) = true := by simp; omega
        have d2 : decide ((k : Int) < (lb : Int)) = true := by simp; omega
        have cB := (below_cell HG7.out.bel hbb).trans (hcb2 k hask)
        cases hbk : bs k with
        | false =>
          rw [hbk] at cB
          clear hbk hcb2
          go_wp2
          go_roundw
          case rel => exact ⟨k + 1, by omega, by omega, by go_num, HG7.out.le (by omega)⟩
          case measure => simp [intOf]; omega
        | true =>
          rw [hbk] at cB
          clear hbk hcb2
          have hsl : ∀ W, (slr (.slice a len cap) none (some (.int .i64 ((k : Int) + 1)))).run Tryd.prog W = .ok (.slice (ofs a cap 0) (k + 1) cap) W := fun W => slr_run W a len cap 0 (k + 1) none (some (.int .i64 (k + 1 : Nat))) (.inr ⟨rfl, rfl⟩) (.inl rfl) (by omega) (by omega) hlc
          have hrp : Rts W7 (ofs a cap 0) (k + 1) cap f := by
            have := (HR.out.below HG7.out.bel).part 0 (k + 1) (by omega) (by omega)
            simpa using this
          have htr := tree_any (ofs a cap 0) (k + 1) cap f (m : Int) W7 hrp (by omega) (fun q hq => HF.out q (by omega)) (HS.out.below HG7.out.bel) (by omega) (by omega)
          rw [show treeE (k + 1) (m : Int) = 0 from by unfold treeE; rw [if_pos ⟨by omega, by omega⟩, if_pos (by omega)]] at htr
          obtain ⟨C, hC⟩ : ∃ C, treeV f (k + 1) (m : Int) = C := ⟨_, rfl⟩
          rw [hC] at htr
          have HTR := hid htr
          have HC := hid hC
          have sv := fun W => sv24_newv W (fun _ => 0) C
          have z := zero_root
          clear htr hrp hC
          generalize ofs a cap 0 = a' at hsl HTR
          go_upto_region 17 with (go_at_call 23; refine HTR.out.mono ?_; rintro e w8 ⟨rfl, hb8⟩)
          obtain ⟨W9, hW9⟩ : ∃ W, w8.alloc (.cells (vs .u8 32 C) 33) = W := ⟨_, rfl⟩
          obtain ⟨y2, ey2⟩ : ∃ y, w8.heap.size = y := ⟨_, rfl⟩
          rw [hW9, ey2]
          have ry2 : W9.drew.heap[y2]? = some (.cells (vs .u8 32 C) 33) := by rw [← hW9, ← ey2]; exact heap_new rfl
          have hz2 : y2 < W9.drew.heap.size := by rw [← hW9, ← ey2]; simp
          have hz1 := hb8.size
          have hB79 : Below W7.heap.size W7 W9.drew := by rw [← hW9]; exact (hb8.alloc (by omega) _).drew
          have hro := HG7.out.root hB79 HS.out (by omega)
          rw [HC.out] at hro
          have hst : ∀ W', Stay W7 W9.drew W' → W'.heap[y2]? = some (.cells (vs .u8 32 C) 33) := fun W' h => (h y2 (by omega) hz2).trans ry2
          have HRY := hid ry2
          have HRO := hid hro
          have HST := hid hst
          have HLD : Hid (∀ W : World, W.heap[y2]? = some (.cells (vs .u8 32 C) 33) → (lv24 ⟨y2, 0, none⟩).run Tryd.prog W = .ok (.agg (vs .u8 32 C)) W) := fun W h => lv24_run h
          clear ry2 hz2 hB79 hro hst hW9 ey2 sv z hsl HTR hb8 ixb cB
          refine wp_region_noPanic ?_
          refine wp_region_held_drew (S := fun W => W.heap[y2]? = some (.cells (vs .u8 32 C) 33)) (by kernel_rfl) (HRY.out) (fun hHeld => ?_)
          refine wpAnyH_take (i := 0) (v := ?v21) rfl (by kernel_rfl) (by kernel_rfl) (by kernel_rfl) (fun _ _ _ h => h) (Or.inl ⟨by rfl, ?hy21⟩) hHeld ?rest21
          case hy21 =>
            intro w hSw
            go_simp
            try with_reducible rfl
          try simp only [Act.put, List.setIfInBounds_toArray, List.set_cons_zero, List.set_cons_succ, Array.toArray_toList, List.getElem_toArray, List.getElem_cons_zero, List.getElem_cons_succ]
          refine wpAnyH_take (i := 1) (v := ?v22) rfl (by kernel_rfl) (by kernel_rfl) (by kernel_rfl) (fun _ _ _ h => h) (Or.inl ⟨by rfl, ?hy22⟩) hHeld ?rest22
          case hy22 =>
            intro w hSw
            go_simp
            try with_reducible rfl
          try simp only [Act.put, List.setIfInBounds_toArray, List.set_cons_zero, List.set_cons_succ, Array.toArray_toList, List.getElem_toArray, List.getElem_cons_zero, List.getElem_cons_succ]
          refine wpAnyH_take (i := 2) (v := ?v23) rfl (by kernel_rfl) (by kernel_rfl) (by kernel_rfl) (fun _ _ _ h => h) (Or.inl ⟨by rfl, ?hy23⟩) hHeld ?rest23
          case hy23 =>
            intro w hSw
            go_simp
            try with_reducible rfl
          try simp only [Act.put, List.setIfInBounds_toArray, List.set_cons_zero, List.set_cons_succ, Array.toArray_toList, List.getElem_toArray, List.getElem_cons_zero, List.getElem_cons_succ]
          refine wpAnyH_take (i := 3) (v := ?v24) rfl (by kernel_rfl) (by kernel_rfl) (by kernel_rfl) (fun _ _ _ h => h) (Or.inl ⟨by rfl, ?hy24⟩) hHeld ?rest24
          case hy24 =>
            intro w hSw
            go_simp
            try with_reducible rfl
          try simp only [Act.put, List.setIfInBounds_toArray, List.set_cons_zero, List.set_cons_succ, Array.toArray_toList, List.getElem_toArray, List.getElem_cons_zero, List.getElem_cons_succ]
          refine wpAnyH_take (i := 5) (v := ?v25) rfl (by kernel_rfl) (by kernel_rfl) (by kernel_rfl) (fun _ _ _ h => h) (Or.inl ⟨by rfl, ?hy25⟩) hHeld ?rest25
          case hy25 =>
            intro w hSw
            have ld := HLD.out _ hSw
            go_simp
            try with_reducible rfl
          try simp only [Act.put, List.setIfInBounds_toArray, List.set_cons_zero, List.set_cons_succ, Array.toArray_toList, List.getElem_toArray, List.getElem_cons_zero, List.getElem_cons_succ]
          refine wpAnyH_ready (rs := [4]) (by kernel_rfl) (by simp) ?_
          refine AllReadyH.cons rfl (fun K hK => ?_) AllReadyH.nil
          go_simp
          refine (HRO.out).mono ?_
          rintro e w10 ⟨rfl, hg10, hs10⟩
          dsimp only
          refine hK.out _ _ (HST.out _ hs10) (fun hHeld => ?_)
          clear hK K
          try simp only [Act.put, List.setIfInBounds_toArray, List.set_cons_zero, List.set_cons_succ, Array.toArray_toList, List.getElem_toArray, List.getElem_cons_zero, List.getElem_cons_succ]
          refine wpAnyH_take (i := 6) rfl (by kernel_rfl) (by kernel_rfl) (by kernel_rfl) (fun _ _ _ h => h) (yields_neo (by rfl) _ _ _ rfl C C rfl rfl) hHeld ?_
          rw [eqR_self, Bool.not_true]
          try simp only [Act.put, List.setIfInBounds_toArray, List.set_cons_zero, List.set_cons_succ, Array.toArray_toList, List.getElem_toArray, List.getElem_cons_zero, List.getElem_cons_succ]
          refine wpAnyH_take (i := 7) (v := ?v26) rfl (by kernel_rfl) (by kernel_rfl) (by kernel_rfl) (fun _ _ _ h => h) (Or.inl ⟨by rfl, ?hy26⟩) hHeld ?rest26
          case hy26 =>
            intro w hSw
            go_simp
            try with_reducible rfl
          try simp only [Act.put, List.setIfInBounds_toArray, List.set_cons_zero, List.set_cons_succ, Array.toArray_toList, List.getElem_toArray, List.getElem_cons_zero, List.getElem_cons_succ]
          refine wpAnyH_done (by kernel_rfl) ?_ _
          refine NoPanic.normal ?_
          have HG10 := hid hg10
          clear hg10 hs10 HRO HST HLD HRY
          go_wp2
          go_roundw
          case rel => exact ⟨k + 1, by omega, by omega, by go_num, HG10.out.le (by omega)⟩
          case measure => simp [intOf]; omega
      · have d1 : decide (k < lb) = false := by simp; omega
        have d2 : decide ((k : Int) < (lb : Int)) = false := by simp; omega
        go_wp2
        go_roundw
        case rel => exact ⟨k + 1, by omega, by omega, by go_num, HG7.out.le (by omega)⟩
        case measure => simp [intOf]; omega
    · have hmin : min len 60 = k := by omega
      have HG := hid hg
      clear hg
      have hsl : ∀ W, (slr (.slice a len cap) none (some (.int .i64 k))).run Tryd.prog W = .ok (.slice (ofs a cap 0) k cap) W := fun W => slr_run W a len cap 0 k none (some (.int .i64 (k : Nat))) (.inr ⟨rfl, rfl⟩) (.inl rfl) (by omega) (by omega) hlc
      have hrp : Rts wr (ofs a cap 0) k cap f := by
        have := (HR.out.below HG.out.bel).part 0 k (by omega) (by omega)
        simpa using this
      have htr := tree_any (ofs a cap 0) k cap f (m : Int) wr hrp (by omega) (fun q hq => HF.out q (by omega)) (HS.out.below HG.out.bel) (by omega) (by omega)
      rw [show treeE k (m : Int) = 0 from by unfold treeE; rw [if_pos ⟨by omega, by omega⟩, if_pos (by omega)]] at htr
      obtain ⟨C, hC⟩ : ∃ C, treeV f k (m : Int) = C := ⟨_, rfl⟩
      rw [hC] at htr
      have HTR := hid htr
      have HC := hid hC
      have sv := fun W => sv24_newv W (fun _ => 0) C
      have z := zero_root
      clear htr hrp hC
      generalize ofs a cap 0 = a' at hsl HTR
      have hcase : (k < len ∧ k = 60) ∨ k = len := by omega
      have hmi : min (len : Int) 60 = (k : Int) := by omega
      clear hlt
      rcases hcase with ⟨hc1, hc2⟩ | hc
      · have b1 : decide (k < len) = true := by simp; omega
        have b2 : decide ((k : Int) < (len : Int)) = true := by simp; omega
        have b3 : decide (k < 60) = false := by simp; omega
        have b4 : decide ((k : Int) < 60) = false := by simp; omega
        clear hc2
        go_upto_region 20 with fail
        clear hmi hmin
        go_upto_region 21 with (go_at_call 23; refine HTR.out.mono ?_; rintro e w8 ⟨rfl, hb8⟩)
        obtain ⟨W9, hW9⟩ : ∃ W, w8.alloc (.cells (vs .u8 32 C) 33) = W := ⟨_, rfl⟩
        obtain ⟨y2, ey2⟩ : ∃ y, w8.heap.size = y := ⟨_, rfl⟩
        rw [hW9, ey2]
        have ry2 : W9.drew.heap[y2]? = some (.cells (vs .u8 32 C) 33) := by rw [← hW9, ← ey2]; exact heap_new rfl
        have hz2 : y2 < W9.drew.heap.size := by rw [← hW9, ← ey2]; simp
        have hz1 := hb8.size
        have hB79 : Below wr.heap.size wr W9.drew := by rw [← hW9]; exact (hb8.alloc (by omega) _).drew
        have hro := HG.out.root hB79 HS.out (by omega)
        rw [HC.out] at hro
        have hst : ∀ W', Stay wr W9.drew W' → W'.heap[y2]? = some (.cells (vs .u8 32 C) 33) := fun W' h => (h y2 (by omega) hz2).trans ry2
        have HRY := hid ry2
        have HRO := hid hro
        have HST := hid hst
        have HLD : Hid (∀ W : World, W.heap[y2]? = some (.cells (vs .u8 32 C) 33) → (lv24 ⟨y2, 0, none⟩).run Tryd.prog W = .ok (.agg (vs .u8 32 C)) W) := fun W h => lv24_run h
        clear ry2 hz2 hB79 hro hst hW9 ey2 sv z hsl HTR hb8
        refine wp_region_noPanic ?_
        refine wp_region_held_drew (S := fun W => W.heap[y2]? = some (.cells (vs .u8 32 C) 33)) (by kernel_rfl) (HRY.out) (fun hHeld => ?_)
        refine wpAnyH_take (i := 0) (v := ?v27) rfl (by kernel_rfl) (by kernel_rfl) (by kernel_rfl) (fun _ _ _ h => h) (Or.inl ⟨by rfl, ?hy27⟩) hHeld ?rest27
        case hy27 =>
          intro w hSw
          go_simp
          try with_reducible rfl
        try simp only [Act.put, List.setIfInBounds_toArray, List.set_cons_zero, List.set_cons_succ, Array.toArray_toList, List.getElem_toArray, List.getElem_cons_zero, List.getElem_cons_succ]
        refine wpAnyH_take (i := 1) (v := ?v28) rfl (by kernel_rfl) (by kernel_rfl) (by kernel_rfl) (fun _ _ _ h => h) (Or.inl ⟨by rfl, ?hy28⟩) hHeld ?rest28
        case hy28 =>
          intro w hSw
          go_simp
          try with_reducible rfl
        try simp only [Act.put, List.setIfInBounds_toArray, List.set_cons_zero, List.set_cons_succ, Array.toArray_toList, List.getElem_toArray, List.getElem_cons_zero, List.getElem_cons_succ]
        refine wpAnyH_take (i := 2) (v := ?v29) rfl (by kernel_rfl) (by kernel_rfl) (by kernel_rfl) (fun _ _ _ h => h) (Or.inl ⟨by rfl, ?hy29⟩) hHeld ?rest29
        case hy29 =>
          intro w hSw
          go_simp
          try with_reducible rfl
        try simp only [Act.put, List.setIfInBounds_toArray, List.set_cons_zero, List.set_cons_succ, Array.toArray_toList, List.getElem_toArray, List.getElem_cons_zero, List.getElem_cons_succ]
        refine wpAnyH_take (i := 3) (v := ?v30) rfl (by kernel_rfl) (by kernel_rfl) (by kernel_rfl) (fun _ _ _ h => h) (Or.inl ⟨by rfl, ?hy30⟩) hHeld ?rest30
        case hy30 =>
          intro w hSw
          go_simp
          try with_reducible rfl
        try simp only [Act.put, List.setIfInBounds_toArray, List.set_cons_zero, List.set_cons_succ, Array.toArray_toList, List.getElem_toArray, List.getElem_cons_zero, List.getElem_cons_succ]
        refine wpAnyH_take (i := 5) (v := ?v31) rfl (by kernel_rfl) (by kernel_rfl) (by kernel_rfl) (fun _ _ _ h => h) (Or.inl ⟨by rfl, ?hy31⟩) hHeld ?rest31
        case hy31 =>
          intro w hSw
          have ld := HLD.out _ hSw
          go_simp
          try with_reducible rfl
        try simp only [Act.put, List.setIfInBounds_toArray, List.set_cons_zero, List.set_cons_succ, Array.toArray_toList, List.getElem_toArray, List.getElem_cons_zero, List.getElem_cons_succ]
        refine wpAnyH_ready (rs := [4]) (by kernel_rfl) (by simp) ?_
        refine AllReadyH.cons rfl (fun K hK => ?_) AllReadyH.nil
        go_simp
        refine (HRO.out).mono ?_
        rintro e w10 ⟨rfl, hg10, hs10⟩
        dsimp only
        have HLEN := hid hg10.len
        have HB10 := hid hg10.bel
        clear hg10
        refine hK.out _ _ (HST.out _ hs10) (fun hHeld => ?_)
        clear hK K
        try simp only [Act.put, List.setIfInBounds_toArray, List.set_cons_zero, List.set_cons_succ, Array.toArray_toList, List.getElem_toArray, List.getElem_cons_zero, List.getElem_cons_succ]
        refine wpAnyH_take (i := 6) rfl (by kernel_rfl) (by kernel_rfl) (by kernel_rfl) (fun _ _ _ h => h) (yields_eqo (by rfl) _ _ _ rfl C C rfl rfl) hHeld ?_
        rw [eqR_self]
        try simp only [Act.put, List.setIfInBounds_toArray, List.set_cons_zero, List.set_cons_succ, Array.toArray_toList, List.getElem_toArray, List.getElem_cons_zero, List.getElem_cons_succ]
        refine wpAnyH_take (i := 7) (v := ?v32) rfl (by kernel_rfl) (by kernel_rfl) (by kernel_rfl) (fun _ _ _ h => h) (Or.inl ⟨by rfl, ?hy32⟩) hHeld ?rest32
        case hy32 =>
          intro w hSw
          go_simp
          try with_reducible rfl
        try simp only [Act.put, List.setIfInBounds_toArray, List.set_cons_zero, List.set_cons_succ, Array.toArray_toList, List.getElem_toArray, List.getElem_cons_zero, List.getElem_cons_succ]
        refine wpAnyH_take (i := 8) (v := ?v33) rfl (by kernel_rfl) (by kernel_rfl) (by kernel_rfl) (fun _ _ _ h => h) (Or.inl ⟨by rfl, ?hy33⟩) hHeld ?rest33
        case hy33 =>
          intro w hSw
          go_simp
          try with_reducible rfl
        try simp only [Act.put, List.setIfInBounds_toArray, List.set_cons_zero, List.set_cons_succ, Array.toArray_toList, List.getElem_toArray, List.getElem_cons_zero, List.getElem_cons_succ]
        refine wpAnyH_take (i := 9) (v := ?v34) rfl (by kernel_rfl) (by kernel_rfl) (by kernel_rfl) (fun _ _ _ h => h) (Or.inl ⟨by rfl, ?hy34⟩) hHeld ?rest34
        case hy34 =>
          intro w hSw
          go_simp
          try with_reducible rfl
        try simp only [Act.put, List.setIfInBounds_toArray, List.set_cons_zero, List.set_cons_succ, Array.toArray_toList, List.getElem_toArray, List.getElem_cons_zero, List.getElem_cons_succ]
        refine wpAnyH_take (i := 11) (v := ?v35) rfl (by kernel_rfl) (by kernel_rfl) (by kernel_rfl) (fun _ _ _ h => h) (Or.inl ⟨by rfl, ?hy35⟩) hHeld ?rest35
        case hy35 =>
          intro w hSw
          go_simp
          try with_reducible rfl
        try simp only [Act.put, List.setIfInBounds_toArray, List.set_cons_zero, List.set_cons_succ, Array.toArray_toList, List.getElem_toArray, List.getElem_cons_zero, List.getElem_cons_succ]
        refine wpAnyH_ready (rs := [10]) (by kernel_rfl) (by simp) ?_
        refine AllReadyH.cons rfl (fun K hK => ?_) AllReadyH.nil
        go_simp
        refine (HLEN.out).mono ?_
        rintro e w11 ⟨rfl, hw11⟩
        dsimp only
        obtain rfl := hw11.symm
        refine hK.out _ _ (HST.out _ hs10) (fun hHeld => ?_)
        clear hK K
        try simp only [Act.put, List.setIfInBounds_toArray, List.set_cons_zero, List.set_cons_succ, Array.toArray_toList, List.getElem_toArray, List.getElem_cons_zero, List.getElem_cons_succ]
        refine wpAnyH_take (i := 12) (v := ?v36) rfl (by kernel_rfl) (by kernel_rfl) (by kernel_rfl) (fun _ _ _ h => h) (Or.inl ⟨by rfl, ?hy36⟩) hHeld ?rest36
        case hy36 =>
          intro w hSw
          go_simp
          try with_reducible rfl
        try simp only [Act.put, List.setIfInBounds_toArray, List.set_cons_zero, List.set_cons_succ, Array.toArray_toList, List.getElem_toArray, List.getElem_cons_zero, List.getElem_cons_succ]
        refine wpAnyH_take (i := 13) (v := ?v37) rfl (by kernel_rfl) (by kernel_rfl) (by kernel_rfl) (fun _ _ _ h => h) (Or.inl ⟨by rfl, ?hy37⟩) hHeld ?rest37
        case hy37 =>
          intro w hSw
          go_simp
          try with_reducible rfl
        try simp only [Act.put, List.setIfInBounds_toArray, List.set_cons_zero, List.set_cons_succ, Array.toArray_toList, List.getElem_toArray, List.getElem_cons_zero, List.getElem_cons_succ]
        refine wpAnyH_take (i := 14) (v := ?v38) rfl (by kernel_rfl) (by kernel_rfl) (by kernel_rfl) (fun _ _ _ h => h) (Or.inl ⟨by rfl, ?hy38⟩) hHeld ?rest38
        case hy38 =>
          intro w hSw
          go_simp
          try with_reducible rfl
        try simp only [Act.put, List.setIfInBounds_toArray, List.set_cons_zero, List.set_cons_succ, Array.toArray_toList, List.getElem_toArray, List.getElem_cons_zero, List.getElem_cons_succ]
        refine wpAnyH_done (by kernel_rfl) ?_ _
        refine NoPanic.normal ?_
        go_wp2
        go_ret
        exact ⟨rfl, HB10.out⟩
      · have b1 : decide (k < len) = false := by simp; omega
        have b2 : decide ((k : Int) < (len : Int)) = false := by simp; omega
        clear hc
        go_upto_region 20 with fail
        clear hmi hmin
        go_upto_region 21 with (go_at_call 23; refine HTR.out.mono ?_; rintro e w8 ⟨rfl, hb8⟩)
        obtain ⟨W9, hW9⟩ : ∃ W, w8.alloc (.cells (vs .u8 32 C) 33) = W := ⟨_, rfl⟩
        obtain ⟨y2, ey2⟩ : ∃ y, w8.heap.size = y := ⟨_, rfl⟩
        rw [hW9, ey2]
        have ry2 : W9.drew.heap[y2]? = some (.cells (vs .u8 32 C) 33) := by rw [← hW9, ← ey2]; exact heap_new rfl
        have hz2 : y2 < W9.drew.heap.size := by rw [← hW9, ← ey2]; simp
        have hz1 := hb8.size
        have hB79 : Below wr.heap.size wr W9.drew := by rw [← hW9]; exact (hb8.alloc (by omega) _).drew
        have hro := HG.out.root hB79 HS.out (by omega)
        rw [HC.out] at hro
        have hst : ∀ W', Stay wr W9.drew W' → W'.heap[y2]? = some (.cells (vs .u8 32 C) 33) := fun W' h => (h y2 (by omega) hz2).trans ry2
        have HRY := hid ry2
        have HRO := hid hro
        have HST := hid hst
        have HLD : Hid (∀ W : World, W.heap[y2]? = some (.cells (vs .u8 32 C) 33) → (lv24 ⟨y2, 0, none⟩).run Tryd.prog W = .ok (.agg (vs .u8 32 C)) W) := fun W h => lv24_run h
        clear ry2 hz2 hB79 hro hst hW9 ey2 sv z hsl HTR hb8
        refine wp_region_noPanic ?_
        refine wp_region_held_drew (S := fun W => W.heap[y2]? = some (.cells (vs .u8 32 C) 33)) (by kernel_rfl) (HRY.out) (fun hHeld => ?_)
        refine wpAnyH_take (i := 0) (v := ?v39) rfl (by kernel_rfl) (by kernel_rfl) (by kernel_rfl) (fun _ _ _ h => h) (Or.inl ⟨by rfl, ?hy39⟩) hHeld ?rest39
        case hy39 =>
          intro w hSw
          go_simp
          try with_reducible rfl
        try simp only [Act.put, List.setIfInBounds_toArray, List.set_cons_zero, List.set_cons_succ, Array.toArray_toList, List.getElem_toArray, List.getElem_cons_zero, List.getElem_cons_succ]
        refine wpAnyH_take (i := 1) (v := ?v40) rfl (by kernel_rfl) (by kernel_rfl) (by kernel_rfl) (fun _ _ _ h => h) (Or.inl ⟨by rfl, ?hy40⟩) hHeld ?rest40
        case hy40 =>
          intro w hSw
          go_simp
          try with_reducible rfl
        try simp only [Act.put, List.setIfInBounds_toArray, List.set_cons_zero, List.set_cons_succ, Array.toArray_toList, List.getElem_toArray, List.getElem_cons_zero, List.getElem_cons_succ]
        refine wpAnyH_take (i := 2) (v := ?v41) rfl (by kernel_rfl) (by kernel_rfl) (by kernel_rfl) (fun _ _ _ h => h) (Or.inl ⟨by rfl, ?hy41⟩) hHeld ?rest41
        case hy41 =>
          intro w hSw
          go_simp
          try with_reducible rfl
        try simp only [Act.put, List.setIfInBounds_toArray, List.set_cons_zero, List.set_cons_succ, Array.toArray_toList, List.getElem_toArray, List.getElem_cons_zero, List.getElem_cons_succ]
        refine wpAnyH_take (i := 3) (v := ?v42) rfl (by kernel_rfl) (by kernel_rfl) (by kernel_rfl) (fun _ _ _ h => h) (Or.inl ⟨by rfl, ?hy42⟩) hHeld ?rest42
        case hy42 =>
          intro w hSw
          go_simp
          try with_reducible rfl
        try simp only [Act.put, List.setIfInBounds_toArray, List.set_cons_zero, List.set_cons_succ, Array.toArray_toList, List.getElem_toArray, List.getElem_cons_zero, List.getElem_cons_succ]
        refine wpAnyH_take (i := 5) (v := ?v43) rfl (by kernel_rfl) (by kernel_rfl) (by kernel_rfl) (fun _ _ _ h => h) (Or.inl ⟨by rfl, ?hy43⟩) hHeld ?rest43
        case hy43 =>
          intro w hSw
          have ld := HLD.out _ hSw
          go_simp
          try with_reducible rfl
        try simp only [Act.put, List.setIfInBounds_toArray, List.set_cons_zero, List.set_cons_succ, Array.toArray_toList, List.getElem_toArray, List.getElem_cons_zero, List.getElem_cons_succ]
        refine wpAnyH_ready (rs := [4]) (by kernel_rfl) (by simp) ?_
        refine AllReadyH.cons rfl (fun K hK => ?_) AllReadyH.nil
        go_simp
        refine (HRO.out).mono ?_
        rintro e w10 ⟨rfl, hg10, hs10⟩
        dsimp only
        have HLEN := hid hg10.len
        have HB10 := hid hg10.bel
        clear hg10
        refine hK.out _ _ (HST.out _ hs10) (fun hHeld => ?_)
        clear hK K
        try simp only [Act.put, List.setIfInBounds_toArray, List.set_cons_zero, List.set_cons_succ, Array.toArray_toList, List.getElem_toArray, List.getElem_cons_zero, List.getElem_cons_succ]
        refine wpAnyH_take (i := 6) rfl (by kernel_rfl) (by kernel_rfl) (by kernel_rfl) (fun _ _ _ h => h) (yields_eqo (by rfl) _ _ _ rfl C C rfl rfl) hHeld ?_
        rw [eqR_self]
        try simp only [Act.put, List.setIfInBounds_toArray, List.set_cons_zero, List.set_cons_succ, Array.toArray_toList, List.getElem_toArray, List.getElem_cons_zero, List.getElem_cons_succ]
        refine wpAnyH_take (i := 7) (v := ?v44) rfl (by kernel_rfl) (by kernel_rfl) (by kernel_rfl) (fun _ _ _ h => h) (Or.inl ⟨by rfl, ?hy44⟩) hHeld ?rest44
        case hy44 =>
          intro w hSw
          go_simp
          try with_reducible rfl
        try simp only [Act.put, List.setIfInBounds_toArray, List.set_cons_zero, List.set_cons_succ, Array.toArray_toList, List.getElem_toArray, List.getElem_cons_zero, List.getElem_cons_succ]
        refine wpAnyH_take (i := 8) (v := ?v45) rfl (by kernel_rfl) (by kernel_rfl) (by kernel_rfl) (fun _ _ _ h => h) (Or.inl ⟨by rfl, ?hy45⟩) hHeld ?rest45
        case hy45 =>
          intro w hSw
          go_simp
          try with_reducible rfl
        try simp only [Act.put, List.setIfInBounds_toArray, List.set_cons_zero, List.set_cons_succ, Array.toArray_toList, List.getElem_toArray, List.getElem_cons_zero, List.getElem_cons_succ]
        refine wpAnyH_take (i := 9) (v := ?v46) rfl (by kernel_rfl) (by kernel_rfl) (by kernel_rfl) (fun _ _ _ h => h) (Or.inl ⟨by rfl, ?hy46⟩) hHeld ?rest46
        case hy46 =>
          intro w hSw
          go_simp
          try with_reducible rfl
        try simp only [Act.put, List.setIfInBounds_toArray, List.set_cons_zero, List.set_cons_succ, Array.toArray_toList, List.getElem_toArray, List.getElem_cons_zero, List.getElem_cons_succ]
        refine wpAnyH_take (i := 11) (v := ?v47) rfl (by kernel_rfl) (by kernel_rfl) (by kernel_rfl) (fun _ _ _ h => h) (Or.inl ⟨by rfl, ?hy47⟩) hHeld ?rest47
        case hy47 =>
          intro w hSw
          go_simp
          try with_reducible rfl
        try simp only [Act.put, List.setIfInBounds_toArray, List.set_cons_zero, List.set_cons_succ, Array.toArray_toList, List.getElem_toArray, List.getElem_cons_zero, List.getElem_cons_succ]
        refine wpAnyH_ready (rs := [10]) (by kernel_rfl) (by simp) ?_
        refine AllReadyH.cons rfl (fun K hK => ?_) AllReadyH.nil
        go_simp
        refine (HLEN.out).mono ?_
        rintro e w11 ⟨rfl, hw11⟩
        dsimp only
        obtain rfl := hw11.symm
        refine hK.out _ _ (HST.out _ hs10) (fun hHeld => ?_)
        clear hK K
        try simp only [Act.put, List.setIfInBounds_toArray, List.set_cons_zero, List.set_cons_succ, Array.toArray_toList, List.getElem_toArray, List.getElem_cons_zero, List.getElem_cons_succ]
        refine wpAnyH_take (i := 12) (v := ?v48) rfl (by kernel_rfl) (by kernel_rfl) (by kernel_rfl) (fun _ _ _ h => h) (Or.inl ⟨by rfl, ?hy48⟩) hHeld ?rest48
        case hy48 =>
          intro w hSw
          go_simp
          try with_reducible rfl
        try simp only [Act.put, List.setIfInBounds_toArray, List.set_cons_zero, List.set_cons_succ, Array.toArray_toList, List.getElem_toArray, List.getElem_cons_zero, List.getElem_cons_succ]
        refine wpAnyH_take (i := 13) (v := ?v49) rfl (by kernel_rfl) (by kernel_rfl) (by kernel_rfl) (fun _ _ _ h => h) (Or.inl ⟨by rfl, ?hy49⟩) hHeld ?rest49
        case hy49 =>
          intro w hSw
          go_simp
          try with_reducible rfl
        try simp only [Act.put, List.setIfInBounds_toArray, List.set_cons_zero, List.set_cons_succ, Array.toArray_toList, List.getElem_toArray, List.getElem_cons_zero, List.getElem_cons_succ]
        refine wpAnyH_take (i := 14) (v := ?v50) rfl (by kernel_rfl) (by kernel_rfl) (by kernel_rfl) (fun _ _ _ h => h) (Or.inl ⟨by rfl, ?hy50⟩) hHeld ?rest50
        case hy50 =>
          intro w hSw
          go_simp
          try with_reducible rfl
        try simp only [Act.put, List.setIfInBounds_toArray, List.set_cons_zero, List.set_cons_succ, Array.toArray_toList, List.getElem_toArray, List.getElem_cons_zero, List.getElem_cons_succ]
        refine wpAnyH_done (by kernel_rfl) ?_ _
        refine NoPanic.normal ?_
        go_wp2
        go_ret
        exact ⟨rfl, HB10.out⟩

end Go.Proofs.YtjimdkpppgjokaaDoor
