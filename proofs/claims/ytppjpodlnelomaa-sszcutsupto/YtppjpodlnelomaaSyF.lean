/-
  What SszEnds answers.
-/
import Derived.Test.YtppjpodlnelomaaSyE
namespace Go.Proofs.Ytppjpodlnelomaa
open Go.RowKit
set_option linter.unusedVariables false
set_option linter.unusedSimpArgs false

set_option maxRecDepth 20000 in
set_option maxHeartbeats 1000000 in
theorem ends_err (E : Int) (hE : E = 1 ∨ E = 4) (a : Option Addr) (n c : Nat) (sa : Option Addr) (m sc : Nat) (at_ x : Int) (w : World)
    (h1 : ∀ W, Below w.heap.size w W → Calls Try.prog 13 #[.slice a n c, .slice sa m sc] W fun e w' => e = .returned (.tuple #[.slice none 0 0, .int .i64 E]) ∧ Below W.heap.size W w') :
    Calls Try.prog 7 #[.slice a n c, .slice sa m sc, .int .i64 at_, .int .u8 x] w fun e w' => e = .returned (.bool true) ∧ Below w.heap.size w w' := by
  have H1 := hid h1
  have e0 : (E != 0) = true := by rw [bne_iff_ne]; omega
  clear h1 hE
  go_enter Try.func7, Try.ntmps7
  go_wp2_with (first
    | (go_at_call 9; refine (awake_any _).mono ?_; rintro r w1 ⟨rfl, hb1⟩; have HB1 := hid hb1; clear hb1)
    | (go_at_call 13; refine (H1.out _ HB1.out).mono ?_; rintro r w2 ⟨rfl, hb2⟩; have HB2 := hid (HB1.out.trans (hb2.mono HB1.out.size)); clear hb2))
  go_ret
  exact ⟨rfl, HB2.out⟩

/-- Cut of bytes that are not the parts' own. -/
theorem cut_pack (zs : Nat → Int) (f : Nat → Nat → Int) (L : Nat → Nat) (n : Nat) (m : Nat → Int) (ao : Option Addr) (len cap : Nat) (sa : Option Addr) (sc : Nat) (w : World) (hb : Bys w ao len cap m) (hm : ∀ j, 0 ≤ m j ∧ m j < 256) (hlen : len ≤ 140737488351232) (hlc : len ≤ cap) (hcap : cap ≤ 9223372036854775807) (hn : Nms .i64 w sa n zs) (hnb : n ≤ 9223372036854775807) (hf : ∀ r, r < n → ∀ q, q < L r → 0 ≤ f r q ∧ f r q < 256) :
    ∃ (E : Int) (L1 : Nat → Nat) (f1 : Nat → Nat → Int), (Calls Try.prog 10 #[.slice ao len cap, .slice sa n sc] w fun e w' => ∃ a' N' A', e = .returned (.tuple #[.slice a' N' N', .int .i64 E]) ∧ N' = (if E = 0 then n else 0) ∧ Parts w' a' N' A' L1 L1 f1 ∧ Below w.heap.size w w') ∧ (E = 0 → (List.range len).map m ≠ layC zs f L n → samB n L1 f1 n L f = false) :=
  ⟨_, _, _, cut_any zs m ao len cap sa n sc w hb hm hlen hlc hcap hn hnb, fun hE hne => cut_other hE hm hf hne⟩
theorem empty_bytes (w : World) {B : Nat} (h : B ≤ w.heap.size) : (w.alloc (.cells #[] 5)).ownsRow B 5 1 (.slice (some ⟨w.heap.size, 0, none⟩) 0 0) 0 [] :=
  World.ownsRow_made w #[] 0 h (Nat.zero_le _) rfl
theorem copy_bl {w1 : World} {v : Value} {n B : Nat} {m : Nat → Int} (h : w1.ownsRow B 5 1 v (0 + n) ([] ++ bl m n)) : w1.ownsRow B 5 1 v n (bl m n) := by
  rw [Nat.zero_add, List.nil_append] at h
  exact h
/-- A byte of an own row, written. -/
theorem bys_set {w : World} {B g n C : Nat} {m : Nat → Int} (h : w.ownsRow B 5 1 (.slice (some ⟨g, 0, none⟩) n C) n (bl m n)) (i : Nat) (v : Int) (hi : i < n) :
    Bys (w.setCell ⟨g, i, none⟩ (.int .u8 v)) (some ⟨g, 0, none⟩) n C (fun j => if j = i then v else m j) ∧ w.frozen? ⟨g, i, none⟩ = false ∧ B ≤ g := by
  obtain ⟨h1, h2, h3, h4, h5⟩ := own_cells h
  rcases h.2 with ⟨h6, _⟩ | ⟨g', cap, cur, h6, h7, h8, h9, h10, h11, h12⟩
  · cases h6
  · cases h6
    refine ⟨.inr (.inr ⟨g, 0, rfl, h3, h4, ?_, fun j hj => ?_⟩), row_frozen h8 i, h7⟩
    · have : (w.setCell ⟨g, i, none⟩ (.int .u8 v)).heap.size = w.heap.size := by simp [World.setCell]
      omega
    · rw [Nat.zero_add]
      have hr := row_set h8 i (.int .u8 v)
      rw [row_cell hr, Array.getElem?_setIfInBounds]
      show _ = some (Value.int .u8 (if j = i then v else m j))
      by_cases e : j = i
      · subst e
        rw [if_pos rfl, if_pos (by omega), if_pos rfl]
      · rw [if_neg (fun h => e h.symm), if_neg e, ← row_cell h8 j]
        exact h5 j hj
theorem map_len {m : Nat → Int} {len : Nat} {l : List Int} (h : len ≠ l.length) : (List.range len).map m ≠ l := by
  intro e
  apply h
  rw [← e]
  simp
theorem map_at {m : Nat → Int} {l : List Int} {i : Nat} (hi : i < l.length) (h : m i ≠ l.getD i 0) : (List.range l.length).map m ≠ l := by
  intro e
  apply h
  rw [← e]
  simp [List.getD_eq_getElem?_getD, List.getElem?_range, hi]

attribute [local go_sem ↓] sl22_eq

set_option maxRecDepth 20000 in
set_option maxHeartbeats 4000000 in
theorem ends_ok (zs : Nat → Int) (a : Option Addr) (n c : Nat) (A : Nat → Option Addr) (L C : Nat → Nat) (f : Nat → Nat → Int) (sa : Option Addr) (sc : Nat) (at_ : Int) (x : Nat) (w : World) (h : Parts w a n A L C f) (hf : ∀ r, r < n → ∀ q, q < L r → 0 ≤ f r q ∧ f r q < 256) (hn : Nms .i64 w sa n zs) (hsz : szB zs n = true) (hLb : ∀ r, r < n → L r ≤ 9223372036854775807) (hfit : Fits zs L n) (ht : hdL zs n + loL zs L n < 4294967296) (hx : x < 256) (ha0 : -9223372036854775808 ≤ at_) (ha1 : at_ ≤ 9223372036854775807) :
    Calls Try.prog 7 #[.slice a n c, .slice sa n sc, .int .i64 at_, .int .u8 x] w fun e w' => e = .returned (.bool true) ∧ Below w.heap.size w w' := by
  have HP : Hid (∀ W, Below w.heap.size w W → Parts W a n A L C f) := fun W hW => h.below hW
  have H1 : Hid (∀ W, Below w.heap.size w W → _) := fun W hW => lay_ok zs a n c A L C f sa sc W (h.below hW) (hn.below hW) hsz hLb hfit ht
  obtain ⟨hn1, hnb, hok⟩ := szB_out hsz
  have HCP : Hid (∀ (m : Nat → Int) (W : World) (ao : Option Addr) (len cap : Nat), Below w.heap.size w W → Bys W ao len cap m → (∀ j, 0 ≤ m j ∧ m j < 256) → len ≤ 140737488351232 → len ≤ cap → cap ≤ 9223372036854775807 → _) := fun m W ao len cap hW hb hm h1 h2 h3 => cut_pack zs f L n m ao len cap sa sc W hb hm h1 h2 h3 (hn.below hW) (by omega) hf
  have hT1 : 1 ≤ hdL zs n + loL zs L n := by
    have h1 := hdL_mono zs (i := 1) (j := n) hn1
    have h2 := inH_bd (hok 0 (by omega))
    have h3 : hdL zs 1 = 0 + inH (zs 0) := rfl
    omega
  have hlen := layC_len zs f L n hfit
  have hbyte := layC_byte zs f L n hf
  obtain ⟨T, eT⟩ : ∃ T, hdL zs n + loL zs L n = T := ⟨_, rfl⟩
  obtain ⟨bs, ebs⟩ : ∃ bs, layC zs f L n = bs := ⟨_, rfl⟩
  rw [eT] at H1 hT1 ht hlen
  rw [ebs] at H1 HCP hlen hbyte
  have HBY := hid hbyte
  have HLEN := hid hlen
  have hnn : n ≤ 9223372036854775807 := by omega
  clear h hf hn hsz hLb hfit eT ebs hok hlen hbyte
  go_enter Try.func7, Try.ntmps7
  go_upto_region 4 with (first
    | (go_at_call 9; refine (awake_any _).mono ?_; rintro r w1 ⟨rfl, hb1⟩; have HB1 := hid hb1; clear hb1)
    | (go_at_call 13; refine (H1.out _ HB1.out).mono ?_; rintro r w2 ⟨v2, rfl, ho2, hb2⟩; have HB2 := hid (HB1.out.trans (hb2.mono HB1.out.size)); obtain ⟨a2, C2, rfl, hC1, hC2, hy2⟩ := (owns_bys ho2).2; have HY2 := hid hy2; clear ho2 hb2 hy2))
  obtain ⟨T1, eT1⟩ : ∃ T1, T - 1 = T1 := ⟨_, rfl⟩
  obtain ⟨A1, hA1, hp1⟩ := sl_part a2 T C2 0 T1 none (some (.int .i64 T1)) (fun j => bs.getD j 0) (.inr ⟨rfl, rfl⟩) (.inl rfl) (by omega) (by omega) hC1
  rw [Nat.sub_zero, Nat.sub_zero] at hA1 hp1
  obtain ⟨E1, L1, f1, hc1, hs1⟩ := HCP.out _ w2 A1 T1 C2 HB2.out (hp1 _ HY2.out) (fun j => HBY.out _) (by omega) (by omega) hC2
  have hs1' := fun hE => hs1 hE (map_len (by rw [HLEN.out]; omega))
  have HC1 := hid hc1
  have HS1 := hid hs1'
  have t1 : (T : Int) - 1 = (T1 : Int) := by omega
  have t2 : ¬ (T : Int) = 0 := by omega
  have t3 : (T : Int) ≤ 140737488351232 := by omega
  have t4 : (T1 : Int) ≤ 140737488351232 := by omega
  have HT := hid ht
  clear ht
  clear eT1 hp1 hc1 hs1 hs1' H1 HB1
  go_upto_region 7 with (go_at_call 10; refine HC1.out.mono ?_; rintro r w3 ⟨a3, N3, A3, rfl, hN3, hp3, hb3⟩; have HB3 := hid (HB2.out.trans (hb3.mono HB2.out.size)); have HP3 := hid hp3; have HN3 := hid hN3; have H23 := hid hb3; clear hp3 hN3 hb3)
  go_upto_region 8 with (first
    | (go_at_call 10; refine HC2.out.mono ?_; rintro r w6 ⟨a6, N6, A6, rfl, hN6, hp6, hb6⟩; have HB6 := hid (HB5.out.trans (hb6.mono HB5.out.size)); have HP6 := hid hp6; have HN6 := hid hN6; have H36 := hid (H35.out.trans (hb6.mono H35.out.size)); clear hp6 hN6 hb6)
    | (at_builtin; refine wpList_append_byte w4 rfl _ _ rfl w3.heap.size v4 T (fun j => bs.getD j 0) 0 rfl HO4.out rfl (by rw [List.getD_eq_getElem?_getD, List.getElem?_eq_none (by rw [HLEN.out]; omega)]; rfl) (by omega) H34.out.size ?_; intro g5 C5 w5 ho5 hg5; have H35 := hid (below_grown H34.out HO4.out H34.out.size hg5); have HB5 := hid (HB3.out.trans (H35.out.mono HB3.out.size)); obtain ⟨q1, q2, q3, q4, q5⟩ := own_cells ho5; obtain ⟨E2, L2, f2, hc2, hs2⟩ := HCP.out (fun j => bs.getD j 0) w5 (some ⟨g5, 0, none⟩) (T + 1) C5 HB5.out (.inr (.inr ⟨g5, 0, rfl, q3, q4, q2, fun j hj => by rw [Nat.zero_add]; exact q5 j hj⟩)) (fun j => HBY.out _) (by have := HT.out; omega) q3 q4; have HC2 := hid hc2; have HS2 := hid (fun hE => hs2 hE (map_len (by rw [HLEN.out]; omega))); clear ho5 hg5 q1 q2 q3 q4 q5 hc2 hs2)
    | (at_builtin; refine wpList_append_bys _ rfl _ _ rfl w3.heap.size _ 0 [] rfl (empty_bytes w3 (Nat.le_refl _)) a2 T C2 (fun j => bs.getD j 0) rfl (HY2.out.below (H23.out.alloc H23.out.size _)) (by omega) (by simp) ?_; intro v4 w4 ho4 hg4; have H34 := hid (below_grown ((Below.refl w3.heap.size w3).alloc (Nat.le_refl _) _) (empty_bytes w3 (Nat.le_refl _)) (by simp) hg4); have HO4 := hid (copy_bl ho4); clear ho4 hg4))
  have HSA1 : Hid (E1 = 0 → ∀ W, Below w3.heap.size w3 W → Below w.heap.size w W → Calls Try.prog 12 #[.slice a3 N3 N3, .slice a n c] W fun e w' => e = .returned (.bool false) ∧ Below W.heap.size W w') := by
    intro hE W h1 h2
    have e := HN3.out
    rw [if_pos hE] at e
    subst e
    have hh := same_any a3 N3 N3 A3 L1 L1 f1 a N3 c A L C f W (HP3.out.below h1) (HP.out _ h2) hnn
    rw [HS1.out hE] at hh
    exact hh
  have HSA2 : Hid (E2 = 0 → ∀ W, Below w6.heap.size w6 W → Below w.heap.size w W → Calls Try.prog 12 #[.slice a6 N6 N6, .slice a n c] W fun e w' => e = .returned (.bool false) ∧ Below W.heap.size W w') := by
    intro hE W h1 h2
    have e := HN6.out
    rw [if_pos hE] at e
    subst e
    have hh := same_any a6 N6 N6 A6 L2 L2 f2 a N6 c A L C f W (HP6.out.below h1) (HP.out _ h2) hnn
    rw [HS2.out hE] at hh
    exact hh
  have H26 := hid (H23.out.trans (H36.out.mono H23.out.size))
  have HBB := hid HB6.out
  clear HC1 HC2 HS1 HS2 HP3 HP6 HN3 HN6 HO4 H34 H35 HB3 HB5 HB2 HB6 hA1
  obtain ⟨R, eR⟩ : ∃ R, at_.tmod (T : Int) = R := ⟨_, rfl⟩
  have hR1 : -(T : Int) < R := by rw [← eR]; exact Int.lt_tmod_of_pos _ (by omega)
  have hR2 : R < (T : Int) := by rw [← eR]; exact Int.tmod_lt_of_pos _ (by omega)
  obtain ⟨I, eI⟩ : ∃ I : Nat, (R + (T : Int)).tmod (T : Int) = (I : Int) := ⟨((R + (T : Int)).tmod (T : Int)).toNat, by have := Int.tmod_nonneg (a := R + (T : Int)) (T : Int) (by omega); omega⟩
  have hI : I < T := by have := Int.tmod_lt_of_pos (R + (T : Int)) (b := (T : Int)) (by omega); omega
  have eI2 : (R + (T : Int)) % (T : Int) = (I : Int) := by rw [← eI, Int.tmod_eq_emod_of_nonneg (by omega)]
  obtain ⟨B, eB⟩ : ∃ B : Nat, bs.getD I 0 = (B : Int) := ⟨(bs.getD I 0).toNat, by have := HBY.out I; omega⟩
  have hB : B < 256 := by have := HBY.out I; omega
  have exo := u8_xor_nat B x hB hx
  have hxo := xor_lt hB hx
  have HM8 : Hid (∀ j, 0 ≤ (if j = I then ((B ^^^ x : Nat) : Int) else bs.getD j 0) ∧ (if j = I then ((B ^^^ x : Nat) : Int) else bs.getD j 0) < 256) := by
    intro j
    by_cases e : j = I
    · rw [if_pos e]; omega
    · rw [if_neg e]; exact HBY.out j
  have i1 : (I : Int) < (T : Int) := by omega
  have i2 : (0 : Int) ≤ (I : Int) := by omega
  have t5 : ¬ (T : Int) = -1 := by omega
  have r3 : R + (T : Int) ≤ 9223372036854775807 := by omega
  have r4 : (0 : Int) ≤ R + (T : Int) := by omega
  have HXO := hid hxo
  clear hxo eI
  by_cases hE1 : E1 = 0
  · by_cases hE2 : E2 = 0
    · have SA1 := hid (HSA1.out hE1)
      subst hE1
      have SA2 := hid (HSA2.out hE2)
      subst hE2
      go_upto_region 10 with (first
        | (go_at_call 12; have mk := MK; refine (SA2.out _ H6A.out HA.out).mono ?_; rintro r wB ⟨rfl, hbB⟩; have HAB := hid (HA.out.trans (hbB.mono HA.out.size)); have H6B := hid (H6A.out.trans (hbB.mono H6A.out.size)); clear hbB)
        | (go_at_call 12; refine (SA1.out _ H36.out HBB.out).mono ?_; rintro r wA ⟨rfl, hbA⟩; have HA := hid (HBB.out.trans (hbA.mono HBB.out.size)); have H6A := hid hbA; have MK := True.intro; clear hbA))
      obtain ⟨wF, ewF⟩ : ∃ wF, wF = wB := ⟨_, rfl⟩
      have HF : Hid (Below w.heap.size w wF) := by rw [ewF]; exact HAB.out
      have H6F : Hid (Below w6.heap.size w6 wF) := by rw [ewF]; exact H6B.out
      subst ewF
      have H2F := hid (H26.out.trans (H6F.out.mono H26.out.size))
      clear H26 H6F HSA1 HSA2
      go_upto_region 12 with (at_builtin; refine wpList_append_bys _ rfl _ _ rfl wF.heap.size _ 0 [] rfl (empty_bytes wF (Nat.le_refl _)) a2 T C2 (fun j => bs.getD j 0) rfl (HY2.out.below (H2F.out.alloc H2F.out.size _)) (by omega) (by simp) ?_; intro v7 w7 ho7 hg7; have HF7 := hid (below_grown ((Below.refl wF.heap.size wF).alloc (Nat.le_refl _) _) (empty_bytes wF (Nat.le_refl _)) (by simp) hg7); obtain ⟨g7, C7, rfl⟩ := owns_pos (copy_bl ho7) hT1; have HO7 := hid (copy_bl ho7); clear ho7 hg7)
      obtain ⟨q1, q2, q3, q4, q5⟩ := own_cells HO7.out
      have ci := q5 I hI
      rw [eB] at ci
      obtain ⟨y1, y2, y3⟩ := bys_set HO7.out I ((B ^^^ x : Nat) : Int) hI
      have hb7 : Below wF.heap.size wF (w7.setCell ⟨g7, I, none⟩ (.int .u8 ((B ^^^ x : Nat) : Int))) := HF7.out.setCell (by simp; omega) _
      have hw7 := HF.out.trans (hb7.mono HF.out.size)
      obtain ⟨E3, L3, f3, hc3, hs3⟩ := HCP.out (fun j => if j = I then ((B ^^^ x : Nat) : Int) else bs.getD j 0) _ (some ⟨g7, 0, none⟩) T C7 hw7 y1 HM8.out (by have := HT.out; omega) q3 q4
      have HC3 := hid hc3
      have HS3 : Hid (E3 = 0 → x ≠ 0 → samB n L3 f3 n L f = false) := fun hE hx0 => hs3 hE (by
        rw [← HLEN.out]
        refine map_at (i := I) (by rw [HLEN.out]; exact hI) ?_
        rw [if_pos rfl, eB]
        intro e
        exact hx0 (xor_same (Int.ofNat_inj.1 e)))
      have HW7 := hid hw7
      clear q1 q2 q3 q4 q5 hs3 hc3 hw7 hb7 y1 y3 eB
      by_cases hx0 : x = 0
      · have x1 : ((x : Int) == 0) = true := by rw [beq_iff_eq]; omega
        clear hx0
        go_wp2_with (go_at_call 10; refine HC3.out.mono ?_; rintro r w9 ⟨a9, N9, A9, rfl, hN9, hp9, hb9⟩; have HB9 := hid (HW7.out.trans (hb9.mono HW7.out.size)); clear hp9 hN9 hb9)
        go_ret
        exact ⟨rfl, HB9.out⟩
      · have x1 : ((x : Int) == 0) = false := by rw [beq_eq_false_iff_ne]; omega
        by_cases hE3 : E3 = 0
        · have hs := HS3.out hE3 hx0
          subst hE3
          have HS := hid hs
          clear hs hx0
          go_wp2_with (first
            | (go_at_call 10; refine HC3.out.mono ?_; rintro r w9 ⟨a9, N9, A9, rfl, hN9, hp9, hb9⟩; rw [if_pos rfl] at hN9; subst hN9; have HB9 := hid (HW7.out.trans (hb9.mono HW7.out.size)); have HP9 := hid hp9; clear hp9 hb9)
            | (go_at_call 12; refine (same_any a9 _ _ A9 L3 L3 f3 a _ c A L C f _ HP9.out (HP.out _ HB9.out) hnn).mono ?_; rintro r w10 ⟨rfl, hb10⟩; rw [HS.out]; have HB10 := hid (HB9.out.trans (hb10.mono HB9.out.size)); clear hb10))
          go_ret
          exact ⟨rfl, HB10.out⟩
        · have e3 : (E3 != 0) = true := by rw [bne_iff_ne]; exact hE3
          clear hx0 hE3
          go_wp2_with (go_at_call 10; refine HC3.out.mono ?_; rintro r w9 ⟨a9, N9, A9, rfl, hN9, hp9, hb9⟩; have HB9 := hid (HW7.out.trans (hb9.mono HW7.out.size)); clear hp9 hN9 hb9)
          go_ret
          exact ⟨rfl, HB9.out⟩
    · have SA1 := hid (HSA1.out hE1)
      subst hE1
      have e2 : (E2 == 0) = false := by rw [beq_eq_false_iff_ne]; exact hE2
      clear hE2
      go_upto_region 10 with (go_at_call 12; refine (SA1.out _ H36.out HBB.out).mono ?_; rintro r wA ⟨rfl, hbA⟩; have HA := hid (HBB.out.trans (hbA.mono HBB.out.size)); have H6A := hid hbA; have MK := True.intro; clear hbA)
      obtain ⟨wF, ewF⟩ : ∃ wF, wF = wA := ⟨_, rfl⟩
      have HF : Hid (Below w.heap.size w wF) := by rw [ewF]; exact HA.out
      have H6F : Hid (Below w6.heap.size w6 wF) := by rw [ewF]; exact H6A.out
      subst ewF
      have H2F := hid (H26.out.trans (H6F.out.mono H26.out.size))
      clear H26 H6F HSA1 HSA2
      go_upto_region 12 with (at_builtin; refine wpList_append_bys _ rfl _ _ rfl wF.heap.size _ 0 [] rfl (empty_bytes wF (Nat.le_refl _)) a2 T C2 (fun j => bs.getD j 0) rfl (HY2.out.below (H2F.out.alloc H2F.out.size _)) (by omega) (by simp) ?_; intro v7 w7 ho7 hg7; have HF7 := hid (below_grown ((Below.refl wF.heap.size wF).alloc (Nat.le_refl _) _) (empty_bytes wF (Nat.le_refl _)) (by simp) hg7); obtain ⟨g7, C7, rfl⟩ := owns_pos (copy_bl ho7) hT1; have HO7 := hid (copy_bl ho7); clear ho7 hg7)
      obtain ⟨q1, q2, q3, q4, q5⟩ := own_cells HO7.out
      have ci := q5 I hI
      rw [eB] at ci
      obtain ⟨y1, y2, y3⟩ := bys_set HO7.out I ((B ^^^ x : Nat) : Int) hI
      have hb7 : Below wF.heap.size wF (w7.setCell ⟨g7, I, none⟩ (.int .u8 ((B ^^^ x : Nat) : Int))) := HF7.out.setCell (by simp; omega) _
      have hw7 := HF.out.trans (hb7.mono HF.out.size)
      obtain ⟨E3, L3, f3, hc3, hs3⟩ := HCP.out (fun j => if j = I then ((B ^^^ x : Nat) : Int) else bs.getD j 0) _ (some ⟨g7, 0, none⟩) T C7 hw7 y1 HM8.out (by have := HT.out; omega) q3 q4
      have HC3 := hid hc3
      have HS3 : Hid (E3 = 0 → x ≠ 0 → samB n L3 f3 n L f = false) := fun hE hx0 => hs3 hE (by
        rw [← HLEN.out]
        refine map_at (i := I) (by rw [HLEN.out]; exact hI) ?_
        rw [if_pos rfl, eB]
        intro e
        exact hx0 (xor_same (Int.ofNat_inj.1 e)))
      have HW7 := hid hw7
      clear q1 q2 q3 q4 q5 hs3 hc3 hw7 hb7 y1 y3 eB
      by_cases hx0 : x = 0
      · have x1 : ((x : Int) == 0) = true := by rw [beq_iff_eq]; omega
        clear hx0
        go_wp2_with (go_at_call 10; refine HC3.out.mono ?_; rintro r w9 ⟨a9, N9, A9, rfl, hN9, hp9, hb9⟩; have HB9 := hid (HW7.out.trans (hb9.mono HW7.out.size)); clear hp9 hN9 hb9)
        go_ret
        exact ⟨rfl, HB9.out⟩
      · have x1 : ((x : Int) == 0) = false := by rw [beq_eq_false_iff_ne]; omega
        by_cases hE3 : E3 = 0
        · have hs := HS3.out hE3 hx0
          subst hE3
          have HS := hid hs
          clear hs hx0
          go_wp2_with (first
            | (go_at_call 10; refine HC3.out.mono ?_; rintro r w9 ⟨a9, N9, A9, rfl, hN9, hp9, hb9⟩; rw [if_pos rfl] at hN9; subst hN9; have HB9 := hid (HW7.out.trans (hb9.mono HW7.out.size)); have HP9 := hid hp9; clear hp9 hb9)
            | (go_at_call 12; refine (same_any a9 _ _ A9 L3 L3 f3 a _ c A L C f _ HP9.out (HP.out _ HB9.out) hnn).mono ?_; rintro r w10 ⟨rfl, hb10⟩; rw [HS.out]; have HB10 := hid (HB9.out.trans (hb10.mono HB9.out.size)); clear hb10))
          go_ret
          exact ⟨rfl, HB10.out⟩
        · have e3 : (E3 != 0) = true := by rw [bne_iff_ne]; exact hE3
          clear hx0 hE3
          go_wp2_with (go_at_call 10; refine HC3.out.mono ?_; rintro r w9 ⟨a9, N9, A9, rfl, hN9, hp9, hb9⟩; have HB9 := hid (HW7.out.trans (hb9.mono HW7.out.size)); clear hp9 hN9 hb9)
          go_ret
          exact ⟨rfl, HB9.out⟩
  · by_cases hE2 : E2 = 0
    · have e1 : (E1 == 0) = false := by rw [beq_eq_false_iff_ne]; exact hE1
      clear hE1
      have SA2 := hid (HSA2.out hE2)
      subst hE2
      go_upto_region 10 with (go_at_call 12; refine (SA2.out _ (Below.refl _ _) HBB.out).mono ?_; rintro r wB ⟨rfl, hbB⟩; have HAB := hid (HBB.out.trans (hbB.mono HBB.out.size)); have H6B := hid hbB; clear hbB)
      obtain ⟨wF, ewF⟩ : ∃ wF, wF = wB := ⟨_, rfl⟩
      have HF : Hid (Below w.heap.size w wF) := by rw [ewF]; exact HAB.out
      have H6F : Hid (Below w6.heap.size w6 wF) := by rw [ewF]; exact H6B.out
      subst ewF
      have H2F := hid (H26.out.trans (H6F.out.mono H26.out.size))
      clear H26 H6F HSA1 HSA2
      go_upto_region 12 with (at_builtin; refine wpList_append_bys _ rfl _ _ rfl wF.heap.size _ 0 [] rfl (empty_bytes wF (Nat.le_refl _)) a2 T C2 (fun j => bs.getD j 0) rfl (HY2.out.below (H2F.out.alloc H2F.out.size _)) (by omega) (by simp) ?_; intro v7 w7 ho7 hg7; have HF7 := hid (below_grown ((Below.refl wF.heap.size wF).alloc (Nat.le_refl _) _) (empty_bytes wF (Nat.le_refl _)) (by simp) hg7); obtain ⟨g7, C7, rfl⟩ := owns_pos (copy_bl ho7) hT1; have HO7 := hid (copy_bl ho7); clear ho7 hg7)
      obtain ⟨q1, q2, q3, q4, q5⟩ := own_cells HO7.out
      have ci := q5 I hI
      rw [eB] at ci
      obtain ⟨y1, y2, y3⟩ := bys_set HO7.out I ((B ^^^ x : Nat) : Int) hI
      have hb7 : Below wF.heap.size wF (w7.setCell ⟨g7, I, none⟩ (.int .u8 ((B ^^^ x : Nat) : Int))) := HF7.out.setCell (by simp; omega) _
      have hw7 := HF.out.trans (hb7.mono HF.out.size)
      obtain ⟨E3, L3, f3, hc3, hs3⟩ := HCP.out (fun j => if j = I then ((B ^^^ x : Nat) : Int) else bs.getD j 0) _ (some ⟨g7, 0, none⟩) T C7 hw7 y1 HM8.out (by have := HT.out; omega) q3 q4
      have HC3 := hid hc3
      have HS3 : Hid (E3 = 0 → x ≠ 0 → samB n L3 f3 n L f = false) := fun hE hx0 => hs3 hE (by
        rw [← HLEN.out]
        refine map_at (i := I) (by rw [HLEN.out]; exact hI) ?_
        rw [if_pos rfl, eB]
        intro e
        exact hx0 (xor_same (Int.ofNat_inj.1 e)))
      have HW7 := hid hw7
      clear q1 q2 q3 q4 q5 hs3 hc3 hw7 hb7 y1 y3 eB
      by_cases hx0 : x = 0
      · have x1 : ((x : Int) == 0) = true := by rw [beq_iff_eq]; omega
        clear hx0
        go_wp2_with (go_at_call 10; refine HC3.out.mono ?_; rintro r w9 ⟨a9, N9, A9, rfl, hN9, hp9, hb9⟩; have HB9 := hid (HW7.out.trans (hb9.mono HW7.out.size)); clear hp9 hN9 hb9)
        go_ret
        exact ⟨rfl, HB9.out⟩
      · have x1 : ((x : Int) == 0) = false := by rw [beq_eq_false_iff_ne]; omega
        by_cases hE3 : E3 = 0
        · have hs := HS3.out hE3 hx0
          subst hE3
          have HS := hid hs
          clear hs hx0
          go_wp2_with (first
            | (go_at_call 10; refine HC3.out.mono ?_; rintro r w9 ⟨a9, N9, A9, rfl, hN9, hp9, hb9⟩; rw [if_pos rfl] at hN9; subst hN9; have HB9 := hid (HW7.out.trans (hb9.mono HW7.out.size)); have HP9 := hid hp9; clear hp9 hb9)
            | (go_at_call 12; refine (same_any a9 _ _ A9 L3 L3 f3 a _ c A L C f _ HP9.out (HP.out _ HB9.out) hnn).mono ?_; rintro r w10 ⟨rfl, hb10⟩; rw [HS.out]; have HB10 := hid (HB9.out.trans (hb10.mono HB9.out.size)); clear hb10))
          go_ret
          exact ⟨rfl, HB10.out⟩
        · have e3 : (E3 != 0) = true := by rw [bne_iff_ne]; exact hE3
          clear hx0 hE3
          go_wp2_with (go_at_call 10; refine HC3.out.mono ?_; rintro r w9 ⟨a9, N9, A9, rfl, hN9, hp9, hb9⟩; have HB9 := hid (HW7.out.trans (hb9.mono HW7.out.size)); clear hp9 hN9 hb9)
          go_ret
          exact ⟨rfl, HB9.out⟩
    · have e1 : (E1 == 0) = false := by rw [beq_eq_false_iff_ne]; exact hE1
      clear hE1
      have e2 : (E2 == 0) = false := by rw [beq_eq_false_iff_ne]; exact hE2
      clear hE2
      go_upto_region 10 with (fail)
      obtain ⟨wF, ewF⟩ : ∃ wF, wF = w6 := ⟨_, rfl⟩
      have HF : Hid (Below w.heap.size w wF) := by rw [ewF]; exact HBB.out
      have H6F : Hid (Below w6.heap.size w6 wF) := by rw [ewF]; exact Below.refl _ _
      subst ewF
      have H2F := hid (H26.out.trans (H6F.out.mono H26.out.size))
      clear H26 H6F HSA1 HSA2
      go_upto_region 12 with (at_builtin; refine wpList_append_bys _ rfl _ _ rfl wF.heap.size _ 0 [] rfl (empty_bytes wF (Nat.le_refl _)) a2 T C2 (fun j => bs.getD j 0) rfl (HY2.out.below (H2F.out.alloc H2F.out.size _)) (by omega) (by simp) ?_; intro v7 w7 ho7 hg7; have HF7 := hid (below_grown ((Below.refl wF.heap.size wF).alloc (Nat.le_refl _) _) (empty_bytes wF (Nat.le_refl _)) (by simp) hg7); obtain ⟨g7, C7, rfl⟩ := owns_pos (copy_bl ho7) hT1; have HO7 := hid (copy_bl ho7); clear ho7 hg7)
      obtain ⟨q1, q2, q3, q4, q5⟩ := own_cells HO7.out
      have ci := q5 I hI
      rw [eB] at ci
      obtain ⟨y1, y2, y3⟩ := bys_set HO7.out I ((B ^^^ x : Nat) : Int) hI
      have hb7 : Below wF.heap.size wF (w7.setCell ⟨g7, I, none⟩ (.int .u8 ((B ^^^ x : Nat) : Int))) := HF7.out.setCell (by simp; omega) _
      have hw7 := HF.out.trans (hb7.mono HF.out.size)
      obtain ⟨E3, L3, f3, hc3, hs3⟩ := HCP.out (fun j => if j = I then ((B ^^^ x : Nat) : Int) else bs.getD j 0) _ (some ⟨g7, 0, none⟩) T C7 hw7 y1 HM8.out (by have := HT.out; omega) q3 q4
      have HC3 := hid hc3
      have HS3 : Hid (E3 = 0 → x ≠ 0 → samB n L3 f3 n L f = false) := fun hE hx0 => hs3 hE (by
        rw [← HLEN.out]
        refine map_at (i := I) (by rw [HLEN.out]; exact hI) ?_
        rw [if_pos rfl, eB]
        intro e
        exact hx0 (xor_same (Int.ofNat_inj.1 e)))
      have HW7 := hid hw7
      clear q1 q2 q3 q4 q5 hs3 hc3 hw7 hb7 y1 y3 eB
      by_cases hx0 : x = 0
      · have x1 : ((x : Int) == 0) = true := by rw [beq_iff_eq]; omega
        clear hx0
        go_wp2_with (go_at_call 10; refine HC3.out.mono ?_; rintro r w9 ⟨a9, N9, A9, rfl, hN9, hp9, hb9⟩; have HB9 := hid (HW7.out.trans (hb9.mono HW7.out.size)); clear hp9 hN9 hb9)
        go_ret
        exact ⟨rfl, HB9.out⟩
      · have x1 : ((x : Int) == 0) = false := by rw [beq_eq_false_iff_ne]; omega
        by_cases hE3 : E3 = 0
        · have hs := HS3.out hE3 hx0
          subst hE3
          have HS := hid hs
          clear hs hx0
          go_wp2_with (first
            | (go_at_call 10; refine HC3.out.mono ?_; rintro r w9 ⟨a9, N9, A9, rfl, hN9, hp9, hb9⟩; rw [if_pos rfl] at hN9; subst hN9; have HB9 := hid (HW7.out.trans (hb9.mono HW7.out.size)); have HP9 := hid hp9; clear hp9 hb9)
            | (go_at_call 12; refine (same_any a9 _ _ A9 L3 L3 f3 a _ c A L C f _ HP9.out (HP.out _ HB9.out) hnn).mono ?_; rintro r w10 ⟨rfl, hb10⟩; rw [HS.out]; have HB10 := hid (HB9.out.trans (hb10.mono HB9.out.size)); clear hb10))
          go_ret
          exact ⟨rfl, HB10.out⟩
        · have e3 : (E3 != 0) = true := by rw [bne_iff_ne]; exact hE3
          clear hx0 hE3
          go_wp2_with (go_at_call 10; refine HC3.out.mono ?_; rintro r w9 ⟨a9, N9, A9, rfl, hN9, hp9, hb9⟩; have HB9 := hid (HW7.out.trans (hb9.mono HW7.out.size)); clear hp9 hN9 hb9)
          go_ret
          exact ⟨rfl, HB9.out⟩

end Go.Proofs.Ytppjpodlnelomaa
