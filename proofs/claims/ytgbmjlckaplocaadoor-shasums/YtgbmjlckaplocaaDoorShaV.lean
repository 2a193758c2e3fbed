/-
  What ShaTwos answers.
-/
import Derived.Test.YtgbmjlckaplocaaDoorShaN
import Derived.Test.YtgbmjlckaplocaaDoorShaQ
import Derived.Deep.RegionHeld3
namespace Go.Proofs.YtgbmjlckaplocaaDoor
open Go.RowKit
set_option linter.unusedVariables false
set_option linter.unusedSimpArgs false

/-- append, whole. -/
def ap22 (ty : TypeId) (x y : Value) : Sem Value := Builtin.append_ #[22, 22] ty #[x, y]
theorem ap22_eq (ty : TypeId) (x y : Value) : Builtin.append_ #[22, 22] ty #[x, y] = ap22 ty x y := rfl
theorem wp_append_is {P : Program} {o : Oper} {a : Act} {w : World} {K : Act → World → Prop} {Q : Exit → Act → World → Prop} (s x : Operand)
    (ho : o.op = .call { callee := .builtin .append, args := #[s, x], argTypes := #[22, 22] }) (ws wx v : Value) (w' : World) (hs : a.eval s = ws) (hx : a.eval x = wx)
    (hrun : (ap22 o.type ws wx).run P w = .ok v w') (h : K (a.put o.dst v) w') : Oper.wp P o a w K Q := by
  unfold ap22 at hrun
  unfold Oper.wp execOp
  simp only [ho, resolve, invoke, builtin, Sem.run_bind, Sem.run_pure, Result.andThen_ok, List.map_toArray, List.map_cons, List.map_nil, hs, hx, hrun]
  exact h
theorem ap_root (base : Nat) (W : World) (v : Value) (n : Nat) (m : Nat → Int) (hown : W.ownsRow base 5 1 v n (bl m n)) (b : Nat) (c : Nat → Int) (hb : ∀ j, j < 32 → W.cell? ⟨b, j, none⟩ = some (.int .u8 (c j))) (hm : ∀ j, j < 32 → m (n + j) = c j) (hbase : base ≤ W.heap.size) (hn : n ≤ 64) (ty : TypeId) :
    ∃ g C w', (ap22 ty v (.slice (some ⟨b, 0, none⟩) 32 32)).run Tryd.prog W = .ok (.slice (some ⟨g, 0, none⟩) (n + 32) C) w' ∧ w'.ownsRow base 5 1 (.slice (some ⟨g, 0, none⟩) (n + 32) C) (n + 32) (bl m (n + 32)) ∧ W.grownBy w' v.ownBlock := by
  obtain ⟨i, hi, hz0, hz1, hz2⟩ := info_parts info8
  obtain ⟨v', w', hr, ho, hg, _⟩ := run_append_own_at (P := Tryd.prog) W base 22 ty 5 i (.int .u8 0) 1 1 Tryd.underlying22 hi hz0 hz1 hz2 rfl (by decide) v n (bl m n) hown ⟨b, 0, none⟩ 32 32 (bl c 32) (by rw [bl_len])
    (fun j u hj => by
      obtain ⟨h1, rfl⟩ := bl_get c 32 j u hj
      rw [addr_add, Nat.zero_add]
      exact hb j h1) (bl_one c 32) (by unfold maxLen; omega) (by omega) hbase
  have e : bl m n ++ bl c 32 = bl m (n + 32) := by
    unfold bl
    rw [List.range_add, List.map_append, List.map_map]
    congr 1
    refine List.map_congr_left fun j hj => ?_
    show Value.int .u8 (c j) = Value.int .u8 (m (n + j))
    rw [hm j (List.mem_range.1 hj)]
  rw [e] at ho
  obtain ⟨g, C, rfl⟩ := owns_pos ho (by omega)
  exact ⟨g, C, w', hr, ho, hg⟩
theorem range_row {w : World} {b : Nat} {c : Nat → Int} {t : TypeId} (h : w.heap[b]? = some (.cells (vs .u8 32 c) t)) : w.rangeAt b 0 (vs .u8 32 c).toList := by
  intro j v hj
  rw [Nat.zero_add, row_cell h, ← hj]
  simp

attribute [local go_sem ↓] sv24_eq lv24_eq

set_option maxRecDepth 20000 in
set_option maxHeartbeats 1000000 in
theorem twos_any (a b : Nat → Int) (w : World) (ha : ∀ j, j < 32 → 0 ≤ a j ∧ a j < 256) (hb : ∀ j, j < 32 → 0 ≤ b j ∧ b j < 256) (hH : Tab w 0 8 HW) (hK : Tab w 2 64 KW) :
    Calls Tryd.prog 5 #[.agg (vs .u8 32 a), .agg (vs .u8 32 b)] w fun e w' => e = .returned (.bool true) ∧ Below w.heap.size w w' := by
  obtain ⟨cx, hcx⟩ : ∃ c, shaV KW HW (cat a b) 64 = c := ⟨_, rfl⟩
  obtain ⟨cy, hcy⟩ : ∃ c, shaV KW HW (cat b a) 64 = c := ⟨_, rfl⟩
  have HHH := hid hH
  have HK := hid hK
  have HA := hid ha
  have HBB := hid hb
  have HCX := hid hcx
  have HCY := hid hcy
  clear hH hK ha hb hcx hcy
  go_enter Tryd.func5, Tryd.ntmps5
  go_upto_region 1 with fail
  change Code.wp _ _ _ _ ((w.alloc (.cells (vs .u8 32 a) 24)).alloc (.cells (vs .u8 32 b) 24))
  obtain ⟨W0, hW0⟩ : ∃ W, (w.alloc (.cells (vs .u8 32 a) 24)).alloc (.cells (vs .u8 32 b) 24) = W := ⟨_, rfl⟩
  rw [hW0]
  have s0 : W0.heap.size = w.heap.size + 1 + 1 := by rw [← hW0]; simp
  have hB0 : Below w.heap.size w W0 := by rw [← hW0]; go_grown
  have ra : W0.heap[w.heap.size]? = some (.cells (vs .u8 32 a) 24) := by rw [← hW0]; exact (heap_old (by simp)).trans (heap_new rfl)
  have rb : W0.heap[w.heap.size + 1]? = some (.cells (vs .u8 32 b) 24) := by rw [← hW0]; exact heap_new (by simp)
  have haw := awake_any W0 (HHH.out.below hB0) (HK.out.below hB0)
  have HAW := hid haw
  have HB0 := hid hB0
  have R0 := hid (And.intro ra rb)
  have HS0 := hid s0
  clear hW0 s0 hB0 ra rb haw
  go_upto_region 3 with (go_at_call 8; refine HAW.out.mono ?_; rintro e w1 ⟨rfl, hb1⟩)
  have s0 := HS0.out
  have hB1 : Below w.heap.size w w1 := HB0.out.trans (hb1.mono (by omega))
  have ra := (hb1.block w.heap.size (by omega)).trans R0.out.1
  have rb := (hb1.block (w.heap.size + 1) (by omega)).trans R0.out.2
  have z0 := hb1.size
  have hk0 := HK.out.1
  obtain ⟨W2, hW2⟩ : ∃ W, w1.alloc (.cells (dg HW (fun _ => 0) 0) 47) = W := ⟨_, rfl⟩
  have g2 : W2.heap[w1.heap.size]? = some (.cells (dg HW (fun _ => 0) ((0 : Nat) : Int)) 47) := by rw [← hW2]; exact heap_new rfl
  have hb2 : Below w1.heap.size w1 W2 := by rw [← hW2]; exact (Below.refl _ _).alloc (Nat.le_refl _) _
  have hn := new_any HW w1 (HHH.out.below hB1)
  rw [hW2] at hn
  have z2 : W2.heap.size = w1.heap.size + 1 := by rw [← hW2]; simp
  obtain ⟨q, hq⟩ : ∃ q, w1.heap.size = q := ⟨_, rfl⟩
  rw [hq] at hn z2 g2 hb2 z0
  have hB2 : Below w.heap.size w W2 := hB1.trans (hb2.mono (by omega))
  have ra2 := (hb2.block w.heap.size (by omega)).trans ra
  have rb2 := (hb2.block (w.heap.size + 1) (by omega)).trans rb
  have hw := write_any KW HW (cat a b) q HW (fun _ => 0) 0 32 32 w.heap.size 0 W2 (dig_new KW HW _ HW_bd) g2 (HK.out.below hB2) (by omega)
    (fun j hj => by rw [Nat.zero_add, row_int ra2 j hj]; unfold cat; rw [if_pos hj]) (fun j hj => by rw [Nat.zero_add]; unfold cat; rw [if_pos hj]; exact HA.out j hj) (by omega) (by omega) (by omega) (by omega) (by omega)
  rw [Nat.zero_add] at hw
  have HN := hid hn
  have HW1 := hid hw
  have H2 : Hid (Below w.heap.size w W2 ∧ W2.heap[w.heap.size]? = some (.cells (vs .u8 32 a) 24) ∧ W2.heap[w.heap.size + 1]? = some (.cells (vs .u8 32 b) 24) ∧ w.heap.size + 1 < q ∧ q < W2.heap.size ∧ 2 < w.heap.size) := ⟨hB2, ra2, rb2, by omega, by omega, hk0⟩
  clear s0 hB1 ra rb z0 hk0 hW2 g2 hb2 hn z2 hq hB2 ra2 rb2 hw R0 HS0 HB0 HAW hb1
  go_upto_region 7 with (first
    | (go_at_call 13; refine HN.out.mono ?_; rintro e w2 ⟨rfl, rfl⟩)
    | (go_at_call 15; refine HW1.out.mono ?_; rintro e w3 ⟨rfl, hkp, s3, f3, hd3, hg3⟩))
  obtain ⟨hB2, ra2, rb2, hq1, hq2, hk0⟩ := H2.out
  have hz3 := hkp.size
  have hB3 : Below w.heap.size w w3 := hB2.trans (hkp.below (by omega) (by omega))
  have ra3 := (hkp.block w.heap.size (by omega) (by omega)).trans ra2
  have rb3 := (hkp.block (w.heap.size + 1) (by omega) (by omega)).trans rb2
  have hw := write_any KW HW (cat a b) q s3 f3 32 32 32 (w.heap.size + 1) 0 w3 hd3 hg3 (HK.out.below hB3) (by omega)
    (fun j hj => by rw [Nat.zero_add, row_int rb3 j hj]; unfold cat; rw [if_neg (by omega), show 32 + j - 32 = j by omega]) (fun j hj => by unfold cat; rw [if_neg (by omega), show 32 + j - 32 = j by omega]; exact HBB.out j hj) (by omega) (by omega) (by omega) (by omega) (by omega)
  have HW3 := hid hw
  have H3 : Hid (Below w.heap.size w w3 ∧ w3.heap[w.heap.size]? = some (.cells (vs .u8 32 a) 24) ∧ w3.heap[w.heap.size + 1]? = some (.cells (vs .u8 32 b) 24) ∧ w.heap.size + 1 < q ∧ q < w3.heap.size ∧ 2 < w.heap.size) := ⟨hB3, ra3, rb3, by omega, by omega, hk0⟩
  clear hB2 ra2 rb2 hq1 hq2 hk0 hz3 hB3 ra3 rb3 hw hkp hd3 hg3 H2 HN HW1
  go_upto_region 8 with (go_at_call 15; refine HW3.out.mono ?_; rintro e w4 ⟨rfl, hkp, s4, f4, hd4, hg4⟩)
  obtain ⟨hB3, ra3, rb3, hq1, hq2, hk0⟩ := H3.out
  have hz4 := hkp.size
  have hB4 : Below w.heap.size w w4 := hB3.trans (hkp.below (by omega) (by omega))
  have ra4 := (hkp.block w.heap.size (by omega) (by omega)).trans ra3
  have rb4 := (hkp.block (w.heap.size + 1) (by omega) (by omega)).trans rb3
  have ht := two_any KW HW a b w4 (HHH.out.below hB4) (HK.out.below hB4) HW_bd HA.out HBB.out
  rw [HCX.out] at ht
  have la := lv24_run ra4
  have lb := lv24_run rb4
  have v24 := sv24_new
  have HT := hid ht
  have H4 : Hid (Below w.heap.size w w4 ∧ w4.heap[w.heap.size]? = some (.cells (vs .u8 32 a) 24) ∧ w4.heap[w.heap.size + 1]? = some (.cells (vs .u8 32 b) 24) ∧ w.heap.size + 1 < q ∧ q < w4.heap.size ∧ Dig KW HW (cat a b) (32 + 32) s4 f4 ∧ w4.heap[q]? = some (.cells (dg s4 f4 ((32 + 32 : Nat) : Int)) 47)) := ⟨hB4, ra4, rb4, by omega, by omega, hd4, hg4⟩
  clear hB3 ra3 rb3 hq1 hq2 hk0 hz4 hB4 ra4 rb4 ht hkp hd4 hg4 H3 HW3
  go_upto_region 9 with (go_at_call 11; refine HT.out.mono ?_; rintro e w5 ⟨rfl, hb5⟩)
  obtain ⟨W6, hW6⟩ : ∃ W, w5.alloc (.cells (vs .u8 32 cx) 24) = W := ⟨_, rfl⟩
  rw [hW6]
  obtain ⟨hB4, ra4, rb4, hq1, hq2, hd4, hg4⟩ := H4.out
  have z5 := hb5.size
  have hb6 : Below w4.heap.size w4 W6 := by rw [← hW6]; exact hb5.alloc z5 _
  have r6 : W6.heap[w5.heap.size]? = some (.cells (vs .u8 32 cx) 24) := by rw [← hW6]; exact heap_new rfl
  have z6 : w5.heap.size < W6.heap.size := by rw [← hW6]; simp
  obtain ⟨p, hp⟩ : ∃ p, w5.heap.size = p := ⟨_, rfl⟩
  rw [hp] at r6 z6 z5 ⊢
  have hB6 : Below w.heap.size w W6 := hB4.trans (hb6.mono hB4.size)
  have ra6 := (hb6.block w.heap.size (by omega)).trans ra4
  have rb6 := (hb6.block (w.heap.size + 1) (by omega)).trans rb4
  have hg6 := (hb6.block q hq2).trans hg4
  have ht := two_any KW HW b a W6 (HHH.out.below hB6) (HK.out.below hB6) HW_bd HBB.out HA.out
  rw [HCY.out] at ht
  clear la lb
  have la := lv24_run ra6
  have lb := lv24_run rb6
  have HT6 := hid ht
  have H6 : Hid (Below w.heap.size w W6 ∧ W6.heap[w.heap.size]? = some (.cells (vs .u8 32 a) 24) ∧ W6.heap[w.heap.size + 1]? = some (.cells (vs .u8 32 b) 24) ∧ w.heap.size + 1 < q ∧ q < p ∧ p < W6.heap.size ∧ Dig KW HW (cat a b) (32 + 32) s4 f4 ∧ W6.heap[q]? = some (.cells (dg s4 f4 ((32 + 32 : Nat) : Int)) 47) ∧ W6.heap[p]? = some (.cells (vs .u8 32 cx) 24)) := ⟨hB6, ra6, rb6, hq1, by omega, z6, hd4, hg6, r6⟩
  clear hW6 hB4 ra4 rb4 hq1 hq2 hd4 hg4 z5 hb6 r6 z6 hp hB6 ra6 rb6 hg6 ht hb5 H4 HT
  go_upto_region 10 with (go_at_call 11; refine HT6.out.mono ?_; rintro e w7 ⟨rfl, hb7⟩)
  obtain ⟨W8, hW8⟩ : ∃ W, w7.alloc (.cells (vs .u8 32 cy) 24) = W := ⟨_, rfl⟩
  rw [hW8]
  obtain ⟨hB6, ra6, rb6, hq1, hq2, hp1, hd4, hg6, r6⟩ := H6.out
  have z7 := hb7.size
  have hb8 : Below W6.heap.size W6 W8 := by rw [← hW8]; exact hb7.alloc z7 _
  have r8 : W8.heap[w7.heap.size]? = some (.cells (vs .u8 32 cy) 24) := by rw [← hW8]; exact heap_new rfl
  have z8 : w7.heap.size < W8.heap.size := by rw [← hW8]; simp
  obtain ⟨p2, hp2⟩ : ∃ p, w7.heap.size = p := ⟨_, rfl⟩
  rw [hp2] at r8 z8 z7 ⊢
  have hB8 : Below w.heap.size w W8 := hB6.trans (hb8.mono hB6.size)
  have ra8 := (hb8.block w.heap.size (by omega)).trans ra6
  have rb8 := (hb8.block (w.heap.size + 1) (by omega)).trans rb6
  have rx8 := (hb8.block p (by omega)).trans r6
  have hg8 := (hb8.block q (by omega)).trans hg6
  obtain ⟨z, hz⟩ : ∃ z, W8.heap.size = z := ⟨_, rfl⟩
  rw [hz] at z8
  have hkeep : ∀ w', Below z W8 w' → Below z W8 w' ∧ w'.rangeAt w.heap.size 0 (vs .u8 32 a).toList ∧ w'.rangeAt (w.heap.size + 1) 0 (vs .u8 32 b).toList ∧ w'.rangeAt p 0 (vs .u8 32 cx).toList ∧ w'.rangeAt p2 0 (vs .u8 32 cy).toList := by
    intro w' h
    exact ⟨h, range_row ((h.block _ (by omega)).trans ra8), range_row ((h.block _ (by omega)).trans rb8), range_row ((h.block _ (by omega)).trans rx8), range_row ((h.block _ (by omega)).trans r8)⟩
  have hdr : Below z W8 W8.drew := ⟨rfl, rfl, rfl, Nat.le_refl _, fun _ _ => rfl⟩
  have hbw : ∀ w', Below z W8 w' → Below w.heap.size w w' := fun w' h => hB8.trans (h.mono (by omega))
  have hds : ∀ w', Below z W8 w' → Calls Tryd.prog 14 #[.pointer (some ⟨q, 0, none⟩)] w' fun e w'' => e = .returned (.agg (vs .u8 32 cx)) ∧ Below z W8 w'' := by
    intro w' h
    rw [← HCX.out]
    refine (dsum_any KW HW (cat a b) q s4 f4 64 w' hd4 ((h.block q (by omega)).trans hg8) (HK.out.below (hbw w' h)) (by omega)).mono ?_
    rintro e w'' ⟨rfl, hb⟩
    exact ⟨rfl, h.trans (hb.mono (by have := h.size; omega))⟩
  have htw : ∀ w', Below z W8 w' → Calls Tryd.prog 11 #[.agg (vs .u8 32 a), .agg (vs .u8 32 b)] w' fun e w'' => e = .returned (.agg (vs .u8 32 cx)) ∧ Below z W8 w'' := by
    intro w' h
    rw [← HCX.out]
    refine (two_any KW HW a b w' (HHH.out.below (hbw w' h)) (HK.out.below (hbw w' h)) HW_bd HA.out HBB.out).mono ?_
    rintro e w'' ⟨rfl, hb⟩
    exact ⟨rfl, h.trans (hb.mono (by have := h.size; omega))⟩
  have hsm : ∀ (m : Nat → Int) w' g C, (∀ j, j < 64 → 0 ≤ m j ∧ m j < 256) → Below z W8 w' → w'.ownsRow z 5 1 (.slice (some ⟨g, 0, none⟩) (32 + 32) C) (32 + 32) (bl m (32 + 32)) → Calls Tryd.prog 9 #[.slice (some ⟨g, 0, none⟩) 64 C] w' fun e w'' => e = .returned (.agg (vs .u8 32 (shaV KW HW m 64))) ∧ Below z W8 w'' := by
    intro m w' g C hm h ho
    obtain ⟨hg0, hg1, hgC, hCm, hgc⟩ := own_cells ho
    refine (sum_any KW HW m 64 C g 0 w' (HHH.out.below (hbw w' h)) (HK.out.below (hbw w' h)) HW_bd (fun j hj => by rw [Nat.zero_add]; exact hgc j hj) hm hg1 (by omega) (by omega) (by omega)).mono ?_
    rintro e w'' ⟨rfl, hb⟩
    exact ⟨rfl, h.trans (hb.mono (by have := h.size; omega))⟩
  have hap : ∀ (m c : Nat → Int) (bb : Nat) w' v n, Below z W8 w' → w'.ownsRow z 5 1 v n (bl m n) → W8.heap[bb]? = some (.cells (vs .u8 32 c) 24) → bb < z → (∀ j, j < 32 → m (n + j) = c j) → n ≤ 64 → ∀ ty, ∃ g C w'', (ap22 ty v (.slice (some ⟨bb, 0, none⟩) 32 32)).run Tryd.prog w' = .ok (.slice (some ⟨g, 0, none⟩) (n + 32) C) w'' ∧ w''.ownsRow z 5 1 (.slice (some ⟨g, 0, none⟩) (n + 32) C) (n + 32) (bl m (n + 32)) ∧ Below z W8 w'' := by
    intro m c bb w' v n h ho hr hbz hm hn ty
    have hzs : z ≤ w'.heap.size := by have := h.size; omega
    obtain ⟨g, C, w'', h1, h2, h3⟩ := ap_root z w' v n m ho bb c (fun j hj => row_int ((h.block bb hbz).trans hr) j hj) hm hzs hn ty
    exact ⟨g, C, w'', h1, h2, below_grown h ho hzs h3⟩
  have hnew : ∀ w', Below z W8 w' → Below z W8 (w'.alloc (.cells #[] 5)) ∧ (w'.alloc (.cells #[] 5)).ownsRow z 5 1 (.slice (some ⟨w'.heap.size, 0, none⟩) 0 0) 0 [] := by
    intro w' h
    have hzs : z ≤ w'.heap.size := by have := h.size; omega
    exact ⟨h.alloc hzs _, World.ownsRow_made _ #[] 0 hzs (Nat.zero_le _) rfl⟩
  have u24 := Tryd.underlying24
  have i24 : ∀ c : Nat → Int, (Tryd.prog.info? 24).map (·.size) = some (vs .u8 32 c).toList.length := fun c => by rw [Array.length_toList, vs_size]; kernel_rfl
  have ia := i24 a
  have ib := i24 b
  have ix := i24 cx
  have iy := i24 cy
  have qx := fun w => eq32 w cx
  have qy := fun w => eq32 w cy
  have HKEEP := hid hkeep
  have HDR := hid hdr
  have HBW := hid hbw
  have HDS := hid hds
  have HTW := hid htw
  have HAP := hid hap
  have HNEW := hid hnew
  have HRA := hid ra8
  have HRB := hid rb8
  have hcab : ∀ j, j < 64 → 0 ≤ cat a b j ∧ cat a b j < 256 := by
    intro j hj
    unfold cat
    by_cases h : j < 32
    · rw [if_pos h]; exact HA.out j h
    · rw [if_neg h]; exact HBB.out _ (by omega)
  have hcba : ∀ j, j < 64 → 0 ≤ cat b a j ∧ cat b a j < 256 := by
    intro j hj
    unfold cat
    by_cases h : j < 32
    · rw [if_pos h]; exact HBB.out j h
    · rw [if_neg h]; exact HA.out _ (by omega)
  have hsab := fun w' g C => hsm (cat a b) w' g C hcab
  have hsba := fun w' g C => hsm (cat b a) w' g C hcba
  rw [HCX.out] at hsab
  rw [HCY.out] at hsba
  have HSAB := hid hsab
  have HSBA := hid hsba
  have HZ : Hid (w.heap.size + 1 < z) := by show w.heap.size + 1 < z; omega
  clear hW8 hB6 ra6 rb6 hq1 hq2 hp1 hd4 hg6 r6 z7 hb8 r8 z8 hp2 hB8 ra8 rb8 rx8 hg8 hz hkeep hdr hbw hds htw hsm hsab hsba hcab hcba hap hnew hb7 H6 HT6 la lb v24 i24
  refine wp_region_noPanic ?_
  refine wp_region_held_drew (S := fun w' => Below z W8 w' ∧ w'.rangeAt w.heap.size 0 (vs .u8 32 a).toList ∧ w'.rangeAt (w.heap.size + 1) 0 (vs .u8 32 b).toList ∧ w'.rangeAt p 0 (vs .u8 32 cx).toList ∧ w'.rangeAt p2 0 (vs .u8 32 cy).toList) (by kernel_rfl) (HKEEP.out _ HDR.out) (fun hHeld => ?_)
  refine wpAnyH_take (i := 0) (v := ?v0) rfl (by kernel_rfl) (by kernel_rfl) (by kernel_rfl) (fun _ _ _ h => h) (Or.inl ⟨by rfl, ?hy0⟩) hHeld ?rest0
  case hy0 =>
    intro w hSw
    go_simp
    try with_reducible rfl
  try simp only [Act.put, List.setIfInBounds_toArray, List.set_cons_zero, List.set_cons_succ, Array.toArray_toList, List.getElem_toArray, List.getElem_cons_zero, List.getElem_cons_succ]
  refine wpAnyH_take (i := 2) rfl (by kernel_rfl) (by kernel_rfl) (by kernel_rfl) (fun _ _ _ h => h) (yieldsIf_load_mid (by rfl) _ _ rfl _ _ rfl _ _ (fun w h => h.2.2.2.1) u24 rfl ix) hHeld ?_
  try simp only [Act.put, List.setIfInBounds_toArray, List.set_cons_zero, List.set_cons_succ, Array.toArray_toList, List.getElem_toArray, List.getElem_cons_zero, List.getElem_cons_succ]
  refine wpAnyH_ready (rs := [1]) (by kernel_rfl) (by simp) ?_
  refine AllReadyH.cons rfl (fun K hK => ?_) AllReadyH.nil
  go_simp
  refine (HDS.out _ HDR.out).mono ?_
  rintro e w9 ⟨rfl, hb9⟩
  dsimp only
  refine hK.out _ _ (HKEEP.out _ hb9) (fun hHeld => ?_)
  clear hK K
  try simp only [Act.put, List.setIfInBounds_toArray, List.set_cons_zero, List.set_cons_succ, Array.toArray_toList, List.getElem_toArray, List.getElem_cons_zero, List.getElem_cons_succ]
  refine wpAnyH_take (i := 3) (v := ?v3) rfl (by kernel_rfl) (by kernel_rfl) (by kernel_rfl) (fun _ _ _ h => h) (Or.inl ⟨by rfl, ?hy3⟩) hHeld ?rest3
  case hy3 =>
    intro w hSw
    go_simp
    try with_reducible rfl
  try simp only [Act.put, List.setIfInBounds_toArray, List.set_cons_zero, List.set_cons_succ, Array.toArray_toList, List.getElem_toArray, List.getElem_cons_zero, List.getElem_cons_succ]
  refine wpAnyH_take (i := 4) (v := ?v4) rfl (by kernel_rfl) (by kernel_rfl) (by kernel_rfl) (fun _ _ _ h => h) (Or.inl ⟨by rfl, ?hy4⟩) hHeld ?rest4
  case hy4 =>
    intro w hSw
    go_simp
    try with_reducible rfl
  try simp only [Act.put, List.setIfInBounds_toArray, List.set_cons_zero, List.set_cons_succ, Array.toArray_toList, List.getElem_toArray, List.getElem_cons_zero, List.getElem_cons_succ]
  refine wpAnyH_take (i := 5) rfl (by kernel_rfl) (by kernel_rfl) (by kernel_rfl) (fun _ _ _ h => h) (yieldsIf_load_mid (by rfl) _ _ rfl _ _ rfl _ _ (fun w h => h.2.2.2.1) u24 rfl ix) hHeld ?_
  try simp only [Act.put, List.setIfInBounds_toArray, List.set_cons_zero, List.set_cons_succ, Array.toArray_toList, List.getElem_toArray, List.getElem_cons_zero, List.getElem_cons_succ]
  refine wpAnyH_take (i := 7) (v := ?v7) rfl (by kernel_rfl) (by kernel_rfl) (by kernel_rfl) (fun _ _ _ h => h) (Or.inl ⟨by rfl, ?hy7⟩) hHeld ?rest7
  case hy7 =>
    intro w hSw
    go_simp
    try with_reducible rfl
  try simp only [Act.put, List.setIfInBounds_toArray, List.set_cons_zero, List.set_cons_succ, Array.toArray_toList, List.getElem_toArray, List.getElem_cons_zero, List.getElem_cons_succ]
  refine wpAnyH_take (i := 9) (v := ?v9) rfl (by kernel_rfl) (by kernel_rfl) (by kernel_rfl) (fun _ _ _ h => h) (Or.inl ⟨by rfl, ?hy9⟩) hHeld ?rest9
  case hy9 =>
    intro w hSw
    go_simp
    try with_reducible rfl
  try simp only [Act.put, List.setIfInBounds_toArray, List.set_cons_zero, List.set_cons_succ, Array.toArray_toList, List.getElem_toArray, List.getElem_cons_zero, List.getElem_cons_succ]
  refine wpAnyH_ready (rs := [6]) (by kernel_rfl) (by simp) ?_
  refine AllReadyH.cons rfl (fun K hK => ?_) AllReadyH.nil
  go_simp
  refine hK.out _ _ (HKEEP.out _ (HNEW.out _ hb9).1) (fun hHeld => ?_)
  clear hK K
  try simp only [Act.put, List.setIfInBounds_toArray, List.set_cons_zero, List.set_cons_succ, Array.toArray_toList, List.getElem_toArray, List.getElem_cons_zero, List.getElem_cons_succ]
  refine wpAnyH_ready (rs := [8]) (by kernel_rfl) (by simp) ?_
  refine AllReadyH.cons rfl (fun K hK => ?_) AllReadyH.nil
  obtain ⟨g1, C1, w10, hrw10, ho10, hb10⟩ := HAP.out (cat a b) a w.heap.size _ _ 0 (HNEW.out _ hb9).1 (HNEW.out _ hb9).2 HRA.out (by have := HZ.out; omega) (fun j hj => by unfold cat; rw [Nat.zero_add, if_pos hj]) (by omega) 22
  rw [if_pos (by rfl)]
  refine wp_append_is _ _ rfl _ _ _ _ rfl rfl hrw10 ?_
  refine hK.out _ _ (HKEEP.out _ hb10) (fun hHeld => ?_)
  clear hK K
  try simp only [Act.put, List.setIfInBounds_toArray, List.set_cons_zero, List.set_cons_succ, Array.toArray_toList, List.getElem_toArray, List.getElem_cons_zero, List.getElem_cons_succ]
  refine wpAnyH_ready (rs := [10]) (by kernel_rfl) (by simp) ?_
  refine AllReadyH.cons rfl (fun K hK => ?_) AllReadyH.nil
  obtain ⟨g2, C2, w11, hrw11, ho11, hb11⟩ := HAP.out (cat a b) b (w.heap.size + 1) _ _ 32 hb10 ho10 HRB.out HZ.out (fun j hj => by unfold cat; rw [if_neg (by omega), show 32 + j - 32 = j by omega]) (by omega) 22
  rw [if_pos (by rfl)]
  refine wp_append_is _ _ rfl _ _ _ _ rfl rfl hrw11 ?_
  refine hK.out _ _ (HKEEP.out _ hb11) (fun hHeld => ?_)
  clear hK K
  try simp only [Act.put, List.setIfInBounds_toArray, List.set_cons_zero, List.set_cons_succ, Array.toArray_toList, List.getElem_toArray, List.getElem_cons_zero, List.getElem_cons_succ]
  refine wpAnyH_ready (rs := [11]) (by kernel_rfl) (by simp) ?_
  refine AllReadyH.cons rfl (fun K hK => ?_) AllReadyH.nil
  go_simp
  refine (HSAB.out _ g2 C2 hb11 ho11).mono ?_
  rintro e w12 ⟨rfl, hb12⟩
  dsimp only
  refine hK.out _ _ (HKEEP.out _ hb12) (fun hHeld => ?_)
  clear hK K
  try simp only [Act.put, List.setIfInBounds_toArray, List.set_cons_zero, List.set_cons_succ, Array.toArray_toList, List.getElem_toArray, List.getElem_cons_zero, List.getElem_cons_succ]
  refine wpAnyH_take (i := 12) (v := ?v12) rfl (by kernel_rfl) (by kernel_rfl) (by kernel_rfl) (fun _ _ _ h => h) (Or.inl ⟨by rfl, ?hy12⟩) hHeld ?rest12
  case hy12 =>
    intro w hSw
    go_simp
    try with_reducible rfl
  try simp only [Act.put, List.setIfInBounds_toArray, List.set_cons_zero, List.set_cons_succ, Array.toArray_toList, List.getElem_toArray, List.getElem_cons_zero, List.getElem_cons_succ]
  refine wpAnyH_take (i := 13) (v := ?v13) rfl (by kernel_rfl) (by kernel_rfl) (by kernel_rfl) (fun _ _ _ h => h) (Or.inl ⟨by rfl, ?hy13⟩) hHeld ?rest13
  case hy13 =>
    intro w hSw
    go_simp
    try with_reducible rfl
  try simp only [Act.put, List.setIfInBounds_toArray, List.set_cons_zero, List.set_cons_succ, Array.toArray_toList, List.getElem_toArray, List.getElem_cons_zero, List.getElem_cons_succ]
  refine wpAnyH_take (i := 14) (v := ?v14) rfl (by kernel_rfl) (by kernel_rfl) (by kernel_rfl) (fun _ _ _ h => h) (Or.inl ⟨by rfl, ?hy14⟩) hHeld ?rest14
  case hy14 =>
    intro w hSw
    go_simp
    try with_reducible rfl
  try simp only [Act.put, List.setIfInBounds_toArray, List.set_cons_zero, List.set_cons_succ, Array.toArray_toList, List.getElem_toArray, List.getElem_cons_zero, List.getElem_cons_succ]
  refine wpAnyH_take (i := 15) rfl (by kernel_rfl) (by kernel_rfl) (by kernel_rfl) (fun _ _ _ h => h) (yieldsIf_load_mid (by rfl) _ _ rfl _ _ rfl _ _ (fun w h => h.2.2.2.2) u24 rfl iy) hHeld ?_
  try simp only [Act.put, List.setIfInBounds_toArray, List.set_cons_zero, List.set_cons_succ, Array.toArray_toList, List.getElem_toArray, List.getElem_cons_zero, List.getElem_cons_succ]
  refine wpAnyH_take (i := 17) (v := ?v17) rfl (by kernel_rfl) (by kernel_rfl) (by kernel_rfl) (fun _ _ _ h => h) (Or.inl ⟨by rfl, ?hy17⟩) hHeld ?rest17
  case hy17 =>
    intro w hSw
    go_simp
    try with_reducible rfl
  try simp only [Act.put, List.setIfInBounds_toArray, List.set_cons_zero, List.set_cons_succ, Array.toArray_toList, List.getElem_toArray, List.getElem_cons_zero, List.getElem_cons_succ]
  refine wpAnyH_take (i := 19) (v := ?v19) rfl (by kernel_rfl) (by kernel_rfl) (by kernel_rfl) (fun _ _ _ h => h) (Or.inl ⟨by rfl, ?hy19⟩) hHeld ?rest19
  case hy19 =>
    intro w hSw
    go_simp
    try with_reducible rfl
  try simp only [Act.put, List.setIfInBounds_toArray, List.set_cons_zero, List.set_cons_succ, Array.toArray_toList, List.getElem_toArray, List.getElem_cons_zero, List.getElem_cons_succ]
  refine wpAnyH_ready (rs := [16]) (by kernel_rfl) (by simp) ?_
  refine AllReadyH.cons rfl (fun K hK => ?_) AllReadyH.nil
  go_simp
  refine hK.out _ _ (HKEEP.out _ (HNEW.out _ hb12).1) (fun hHeld => ?_)
  clear hK K
  try simp only [Act.put, List.setIfInBounds_toArray, List.set_cons_zero, List.set_cons_succ, Array.toArray_toList, List.getElem_toArray, List.getElem_cons_zero, List.getElem_cons_succ]
  refine wpAnyH_ready (rs := [18]) (by kernel_rfl) (by simp) ?_
  refine AllReadyH.cons rfl (fun K hK => ?_) AllReadyH.nil
  obtain ⟨g3, C3, w13, hrw13, ho13, hb13⟩ := HAP.out (cat b a) b (w.heap.size + 1) _ _ 0 (HNEW.out _ hb12).1 (HNEW.out _ hb12).2 HRB.out HZ.out (fun j hj => by unfold cat; rw [Nat.zero_add, if_pos hj]) (by omega) 22
  rw [if_pos (by rfl)]
  refine wp_append_is _ _ rfl _ _ _ _ rfl rfl hrw13 ?_
  refine hK.out _ _ (HKEEP.out _ hb13) (fun hHeld => ?_)
  clear hK K
  try simp only [Act.put, List.setIfInBounds_toArray, List.set_cons_zero, List.set_cons_succ, Array.toArray_toList, List.getElem_toArray, List.getElem_cons_zero, List.getElem_cons_succ]
  refine wpAnyH_ready (rs := [20]) (by kernel_rfl) (by simp) ?_
  refine AllReadyH.cons rfl (fun K hK => ?_) AllReadyH.nil
  obtain ⟨g4, C4, w14, hrw14, ho14, hb14⟩ := HAP.out (cat b a) a w.heap.size _ _ 32 hb13 ho13 HRA.out (by have := HZ.out; omega) (fun j hj => by unfold cat; rw [if_neg (by omega), show 32 + j - 32 = j by omega]) (by omega) 22
  rw [if_pos (by rfl)]
  refine wp_append_is _ _ rfl _ _ _ _ rfl rfl hrw14 ?_
  refine hK.out _ _ (HKEEP.out _ hb14) (fun hHeld => ?_)
  clear hK K
  try simp only [Act.put, List.setIfInBounds_toArray, List.set_cons_zero, List.set_cons_succ, Array.toArray_toList, List.getElem_toArray, List.getElem_cons_zero, List.getElem_cons_succ]
  refine wpAnyH_ready (rs := [21]) (by kernel_rfl) (by simp) ?_
  refine AllReadyH.cons rfl (fun K hK => ?_) AllReadyH.nil
  go_simp
  refine (HSBA.out _ g4 C4 hb14 ho14).mono ?_
  rintro e w15 ⟨rfl, hb15⟩
  dsimp only
  refine hK.out _ _ (HKEEP.out _ hb15) (fun hHeld => ?_)
  clear hK K
  try simp only [Act.put, List.setIfInBounds_toArray, List.set_cons_zero, List.set_cons_succ, Array.toArray_toList, List.getElem_toArray, List.getElem_cons_zero, List.getElem_cons_succ]
  refine wpAnyH_take (i := 22) (v := ?v22) rfl (by kernel_rfl) (by kernel_rfl) (by kernel_rfl) (fun _ _ _ h => h) (Or.inl ⟨by rfl, ?hy22⟩) hHeld ?rest22
  case hy22 =>
    intro w hSw
    go_simp
    try with_reducible rfl
  try simp only [Act.put, List.setIfInBounds_toArray, List.set_cons_zero, List.set_cons_succ, Array.toArray_toList, List.getElem_toArray, List.getElem_cons_zero, List.getElem_cons_succ]
  refine wpAnyH_take (i := 23) (v := ?v23) rfl (by kernel_rfl) (by kernel_rfl) (by kernel_rfl) (fun _ _ _ h => h) (Or.inl ⟨by rfl, ?hy23⟩) hHeld ?rest23
  case hy23 =>
    intro w hSw
    go_simp
    try with_reducible rfl
  try simp only [Act.put, List.setIfInBounds_toArray, List.set_cons_zero, List.set_cons_succ, Array.toArray_toList, List.getElem_toArray, List.getElem_cons_zero, List.getElem_cons_succ]
  refine wpAnyH_take (i := 24) (v := ?v24) rfl (by kernel_rfl) (by kernel_rfl) (by kernel_rfl) (fun _ _ _ h => h) (Or.inl ⟨by rfl, ?hy24⟩) hHeld ?rest24
  case hy24 =>
    intro w hSw
    go_simp
    try with_reducible rfl
  try simp only [Act.put, List.setIfInBounds_toArray, List.set_cons_zero, List.set_cons_succ, Array.toArray_toList, List.getElem_toArray, List.getElem_cons_zero, List.getElem_cons_succ]
  refine wpAnyH_take (i := 25) rfl (by kernel_rfl) (by kernel_rfl) (by kernel_rfl) (fun _ _ _ h => h) (yieldsIf_load_mid (by rfl) _ _ rfl _ _ rfl _ _ (fun w h => h.2.1) u24 rfl ia) hHeld ?_
  try simp only [Act.put, List.setIfInBounds_toArray, List.set_cons_zero, List.set_cons_succ, Array.toArray_toList, List.getElem_toArray, List.getElem_cons_zero, List.getElem_cons_succ]
  refine wpAnyH_take (i := 26) rfl (by kernel_rfl) (by kernel_rfl) (by kernel_rfl) (fun _ _ _ h => h) (yieldsIf_load_mid (by rfl) _ _ rfl _ _ rfl _ _ (fun w h => h.2.2.1) u24 rfl ib) hHeld ?_
  try simp only [Act.put, List.setIfInBounds_toArray, List.set_cons_zero, List.set_cons_succ, Array.toArray_toList, List.getElem_toArray, List.getElem_cons_zero, List.getElem_cons_succ]
  refine wpAnyH_take (i := 28) rfl (by kernel_rfl) (by kernel_rfl) (by kernel_rfl) (fun _ _ _ h => h) (yieldsIf_load_mid (by rfl) _ _ rfl _ _ rfl _ _ (fun w h => h.2.2.2.1) u24 rfl ix) hHeld ?_
  try simp only [Act.put, List.setIfInBounds_toArray, List.set_cons_zero, List.set_cons_succ, Array.toArray_toList, List.getElem_toArray, List.getElem_cons_zero, List.getElem_cons_succ]
  refine wpAnyH_ready (rs := [27]) (by kernel_rfl) (by simp) ?_
  refine AllReadyH.cons rfl (fun K hK => ?_) AllReadyH.nil
  go_simp
  refine (HTW.out _ hb15).mono ?_
  rintro e w16 ⟨rfl, hb16⟩
  dsimp only
  refine hK.out _ _ (HKEEP.out _ hb16) (fun hHeld => ?_)
  clear hK K
  try simp only [Act.put, List.setIfInBounds_toArray, List.set_cons_zero, List.set_cons_succ, Array.toArray_toList, List.getElem_toArray, List.getElem_cons_zero, List.getElem_cons_succ]
  refine wpAnyH_take (i := 29) (v := ?v29) rfl (by kernel_rfl) (by kernel_rfl) (by kernel_rfl) (fun _ _ _ h => h) (Or.inl ⟨by rfl, ?hy29⟩) hHeld ?rest29
  case hy29 =>
    intro w hSw
    go_simp
    try with_reducible rfl
  try simp only [Act.put, List.setIfInBounds_toArray, List.set_cons_zero, List.set_cons_succ, Array.toArray_toList, List.getElem_toArray, List.getElem_cons_zero, List.getElem_cons_succ]
  refine wpAnyH_take (i := 30) (v := ?v30) rfl (by kernel_rfl) (by kernel_rfl) (by kernel_rfl) (fun _ _ _ h => h) (Or.inl ⟨by rfl, ?hy30⟩) hHeld ?rest30
  case hy30 =>
    intro w hSw
    go_simp
    try with_reducible rfl
  try simp only [Act.put, List.setIfInBounds_toArray, List.set_cons_zero, List.set_cons_succ, Array.toArray_toList, List.getElem_toArray, List.getElem_cons_zero, List.getElem_cons_succ]
  refine wpAnyH_take (i := 31) (v := ?v31) rfl (by kernel_rfl) (by kernel_rfl) (by kernel_rfl) (fun _ _ _ h => h) (Or.inl ⟨by rfl, ?hy31⟩) hHeld ?rest31
  case hy31 =>
    intro w hSw
    go_simp
    try with_reducible rfl
  try simp only [Act.put, List.setIfInBounds_toArray, List.set_cons_zero, List.set_cons_succ, Array.toArray_toList, List.getElem_toArray, List.getElem_cons_zero, List.getElem_cons_succ]
  refine wpAnyH_done (by kernel_rfl) ?_ _
  refine NoPanic.normal ?_
  go_wp2
  go_ret
  exact ⟨rfl, HBW.out _ hb16⟩

end Go.Proofs.YtgbmjlckaplocaaDoor
