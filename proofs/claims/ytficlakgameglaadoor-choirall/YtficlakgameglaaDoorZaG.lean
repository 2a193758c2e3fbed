/-
  A container's bytes, cut again.
  What the reference's Lay answers.
-/
import Derived.Test.YtficlakgameglaaDoorQC
namespace Go.Proofs.YtficlakgameglaaDoor.Z

open Go.RowKit

set_option linter.unusedVariables false

set_option linter.unusedSimpArgs false

end Go.Proofs.YtficlakgameglaaDoor.Z

namespace Go.Proofs.YtficlakgameglaaDoor.Z

open Go.RowKit

set_option linter.unusedVariables false

set_option linter.unusedSimpArgs false

/-- append of bytes, and where the answer lies. -/
theorem wpList_append_bys_at (w : World) {ops : Array Oper} {rest : List Oper} {o : Oper} {a : Act} {Q : Exit → Act → World → Prop} (hgd : o.guard = none) (s x : Operand)
    (ho : o.op = .call { callee := .builtin .append, args := #[s, x], argTypes := #[39, 39] })
    (base : Nat) (v : Value) (n : Nat) (xs : List Value) (hs : a.eval s = v) (hown : w.ownsRow base 5 1 v n xs)
    (ao : Option Addr) (len cap : Nat) (m : Nat → Int) (hx : a.eval x = .slice ao len cap) (hb : Bys w ao len cap m) (hbd : n + len ≤ 140737488355328) (hbase : base ≤ w.heap.size)
    (h : ∀ v' w', w'.ownsRow base 5 1 v' (n + len) (xs ++ bl m len) → w.grownBy w' v.ownBlock → (v'.ownBlock = v.ownBlock ∨ v'.ownBlock = some w.heap.size) → wpList Tryd.prog ops Q rest (a.put o.dst v') w') :
    wpList Tryd.prog ops Q (o :: rest) a w := by
  obtain ⟨i, hi, hz0, hz1, hz2⟩ := info_parts info8
  rcases hb with ⟨rfl, rfl, rfl⟩ | ⟨x0, rfl, rfl⟩ | ⟨b, off, rfl, hlc, hcm, hbl, hc⟩
  · refine wpList_append_own_none hgd s x 39 ho base 5 i 1 Tryd.underlying39 hi v n xs hs hown hx (h v w ?_ ⟨rfl, rfl, rfl, Nat.le_refl _, fun _ _ _ => rfl⟩ (.inl rfl))
    simpa [bl] using hown
  · exact wpList_append_own_at w hgd s x 39 ho base 5 i (.int .u8 0) 1 1 Tryd.underlying39 hi hz0 hz1 hz2 rfl (by decide) v n xs hs hown x0 0 cap (bl m 0) hx (by rw [bl_len])
      (fun j u hj => by
        have := (bl_get m 0 j u hj).1
        omega) (bl_one m 0) (by unfold maxLen; omega) (by omega) hbase (fun v' w' h1 h2 _ h3 => h v' w' h1 h2 h3)
  · exact wpList_append_own_at w hgd s x 39 ho base 5 i (.int .u8 0) 1 1 Tryd.underlying39 hi hz0 hz1 hz2 rfl (by decide) v n xs hs hown ⟨b, off, none⟩ len cap (bl m len) hx (by rw [bl_len]; omega)
      (fun j u hj => by
        obtain ⟨h1, rfl⟩ := bl_get m len j u hj
        rw [addr_add]
        exact hc j h1) (bl_one m len) (by unfold maxLen; omega) (by omega) hbase (fun v' w' h1 h2 _ h3 => h v' w' h1 h2 h3)

/-- Two rows of the call's own, apart. -/
def Two (w : World) (B : Nat) (v : Value) (n : Nat) (xs : List Value) (u : Value) (m : Nat) (ys : List Value) : Prop :=
  w.ownsRow B 5 1 v n xs ∧ w.ownsRow B 5 1 u m ys ∧ ∀ k, v.ownBlock = some k → u.ownBlock ≠ some k

theorem Two.swap {w : World} {B : Nat} {v : Value} {n : Nat} {xs : List Value} {u : Value} {m : Nat} {ys : List Value} (h : Two w B v n xs u m ys) : Two w B u m ys v n xs :=
  ⟨h.2.1, h.1, fun k hk hv => h.2.2 k hv hk⟩

theorem Two.below {w w' : World} {B : Nat} {v : Value} {n : Nat} {xs : List Value} {u : Value} {m : Nat} {ys : List Value} (h : Two w B v n xs u m ys) (hb : Below w.heap.size w w') : Two w' B v n xs u m ys :=
  ⟨owns_below h.1 hb, owns_below h.2.1 hb, h.2.2⟩

theorem Two.step {w w' : World} {B : Nat} {v v' : Value} {n n' : Nat} {xs xs' : List Value} {u : Value} {m : Nat} {ys : List Value} (h : Two w B v n xs u m ys) (ho : w'.ownsRow B 5 1 v' n' xs') (hg : w.grownBy w' v.ownBlock) (hl : v'.ownBlock = v.ownBlock ∨ v'.ownBlock = some w.heap.size) : Two w' B v' n' xs' u m ys := by
  obtain ⟨h1, h2, h3⟩ := h
  refine ⟨ho, ?_, fun k hk hu => ?_⟩
  · refine ⟨h2.1, ?_⟩
    rcases h2.2 with h4 | ⟨g, cap, cur, h4, h5, h6, h7⟩
    · exact .inl h4
    · refine .inr ⟨g, cap, cur, h4, h5, ?_, h7⟩
      rw [← h6]
      refine hg.block g (Array.getElem?_eq_some_iff.1 h6).1 fun e => ?_
      exact h3 g e.symm (by rw [h4]; rfl)
  · rcases hl with hl | hl
    · exact h3 k (hl ▸ hk) hu
    · have := (h2.lt k hu).2
      rw [hl] at hk
      cases hk
      omega

/-- The bytes of an own row, by another list. -/
theorem owns_as {w : World} {B : Nat} {v : Value} {n n' : Nat} {xs xs' : List Value} (h : w.ownsRow B 5 1 v n xs) (hn : n = n') (hx : xs = xs') : w.ownsRow B 5 1 v n' xs' := by
  rw [← hn, ← hx]; exact h

set_option maxRecDepth 20000 in
set_option maxHeartbeats 2000000 in
theorem rlay_ok (zs : Nat → Int) (a : Option Addr) (n c : Nat) (A : Nat → Option Addr) (L C : Nat → Nat) (f : Nat → Nat → Int) (sa : Option Addr) (sc : Nat) (w : World) (h : Parts w a n A L C f) (hn : Nms .i64 w sa n zs) (hsz : szB zs n = true) (hLb : ∀ r, r < n → L r ≤ 9223372036854775807) (ht : hdL zs n + loL zs L n < 4294967296) (hfit : Fits zs L n) :
    Calls Tryd.prog 54 #[.slice a n c, .slice sa n sc] w fun e w' => ∃ v, e = .returned (.tuple #[v, .int .i64 0]) ∧ w'.ownsRow w.heap.size 5 1 v (hdL zs n + loL zs L n) (iv (layC zs f L n)) ∧ Below w.heap.size w w' := by
  obtain ⟨hn1, hnb, hok⟩ := szB_out hsz
  have hH := hdL_bd n hok
  have hsi := rsizes_any zs sa n sc w hn (by omega)
  rw [hsz] at hsi
  have HSI := hid hsi
  have HP : Hid (∀ W, Below w.heap.size w W → Parts W a n A L C f) := fun W hW => h.below hW
  have HHD : Hid (∀ W, Below w.heap.size w W → Calls Tryd.prog 78 #[.slice sa n sc] W fun e w' => e = .returned (.int .i64 (hdL zs n)) ∧ w' = W) := fun W hW => rhead_any zs sa n sc W (hn.below hW) hn1 hnb hok
  have HN : Hid (∀ W, Below w.heap.size w W → ∀ k, k < n → ∃ b off, sa = some ⟨b, off, none⟩ ∧ W.cell? ⟨b, off + k, none⟩ = some (.int .i64 (zs k))) := by
    intro W hW k hk
    rcases hn.below hW with h | ⟨b, off, h1, h2, h3⟩
    · omega
    · exact ⟨b, off, h1, h3 k hk⟩
  obtain ⟨S, eS⟩ : ∃ S, hdL zs n = S := ⟨_, rfl⟩
  rw [eS] at HHD hH ht
  have ES := hid eS
  have HLB := hid hLb
  have HFIT := hid hfit
  have HOK := hid hok
  clear hsi h hn hsz hLb hfit hok eS
  go_enter Tryd.func54, Tryd.ntmps54
  go_wp2_with (first
    | (go_at_call 77; refine HSI.out.mono ?_; rintro e w1 ⟨rfl, hw1⟩; obtain rfl := hw1.symm)
    | (go_at_call 78; refine (HHD.out w (Below.refl _ _)).mono ?_; rintro e w2 ⟨rfl, hw2⟩; obtain rfl := hw2.symm))
  have HB2 := hid (Below.refl w.heap.size w)
  go_loopw [6, 7, 9] (fun v u i wr => ∃ k : Nat, k ≤ n ∧ i = .int .i64 k ∧ Two wr w.heap.size v (hdL zs k) (iv (hdB zs f L S k)) u (loL zs L k) (iv (loB zs f L k)) ∧ Below w.heap.size w wr ∧ Fits zs L k ∧ ∃ ua uc, u = .slice ua (loL zs L k) uc) (fun _ _ i _ => n - (intOf i).toNat)
  case atStart => exact ⟨0, by omega, rfl, ⟨World.ownsRow_nil _ _ _ _, World.ownsRow_nil _ _ _ _, fun k hk => by cases hk⟩, HB2.out, fun r hr => by omega, none, 0, rfl⟩
  case round =>
    obtain ⟨k, hk, rfl, htwo, hb, hfk, ua, uc, rfl⟩ := hrel
    by_cases hkn : k < n
    · obtain ⟨b1, o1, rfl, hb1, c1, y1⟩ := parts_at (HP.out _ hb) k hkn
      obtain ⟨b2, o2, rfl, c2⟩ := HN.out _ hb k hkn
      have hz := hb.size
      have hx := HOK.out k hkn
      unfold okS at hx
      obtain ⟨hx1, hx2⟩ := hx
      have hlk := HLB.out k hkn
      have hmo := loL_mono zs L (i := k + 1) (j := n) (by omega)
      have hlo : loL zs L (k + 1) = loL zs L k + (if zs k = 0 then L k else 0) := rfl
      have hhb : hdB zs f L S (k + 1) = hdB zs f L S k ++ (if zs k = 0 then fourL (S + loL zs L k) else prt f L k) := rfl
      have hlb : loB zs f L (k + 1) = loB zs f L k ++ (if zs k = 0 then prt f L k else []) := rfl
      have hhd : hdL zs (k + 1) = hdL zs k + inH (zs k) := rfl
      have hhm := hdL_mono zs (i := k + 1) (j := n) (by omega)
      have hS := ES.out
      obtain ⟨z, ez⟩ : ∃ z, zs k = z := ⟨_, rfl⟩
      obtain ⟨l, el⟩ : ∃ l, L k = l := ⟨_, rfl⟩
      rw [ez] at c2 hx1 hx2 hlo hhb hlb hhd
      rw [el] at c1 hlk hlo
      have EE := hid (And.intro ez el)
      have k1 : (k : Int) < (n : Int) := by omega
      have k2 : (0 : Int) ≤ (k : Int) := by omega
      have HB := hid hb
      have HTW := hid htwo
      have HFK := hid hfk
      have HY := hid y1
      by_cases h0 : z = 0
      · subst h0
        rw [if_pos rfl] at hlo hhb hlb
        have e4 : inH 0 = 4 := rfl
        rw [e4] at hhd
        obtain ⟨O, eO⟩ : ∃ O, loL zs L k = O := ⟨_, rfl⟩
        rw [eO] at HTW hlo hhb ⊢
        have o1' : (O : Int) < 4294967296 := by omega
        have o2' : (0 : Int) ≤ (O : Int) := by omega
        have s1' : (S : Int) < 4294967296 := by omega
        have s2' : (0 : Int) ≤ (S : Int) := by omega
        have HF := hid (rfour_any (S + O) wr.drew (by omega))
        rw [show ((S + O : Nat) : Int) = (S : Int) + (O : Int) by omega] at HF
        have HFY := hid (row4_bys wr.drew (S + O))
        have ha : Below wr.heap.size wr (wr.drew.alloc (.cells #[.int .u8 (bt ((S + O : Nat) : Int) 0), .int .u8 (bt ((S + O : Nat) : Int) 1), .int .u8 (bt ((S + O : Nat) : Int) 2), .int .u8 (bt ((S + O : Nat) : Int) 3)] 5)) := ((Below.refl _ _).drew).alloc (Nat.le_refl _) _
        have HA := hid (HTW.out.below ha)
        have HBA := hid (hb.trans (ha.mono hz))
        have bd1 : hdL zs k + 4 ≤ 140737488355328 := by omega
        have bd2 : O + L k ≤ 140737488355328 := by omega
        have HP2 : Hid (∀ W, Below w.heap.size w W → W.cell? ⟨b1, o1 + k, none⟩ = some (.slice (A k) (L k) (C k)) ∧ Bys W (A k) (L k) (C k) (f k)) := by
          intro W hW
          obtain ⟨b1', o1', e1, _, d1, d2⟩ := parts_at (HP.out _ hW) k hkn
          cases e1
          exact ⟨d1, d2⟩
        have E : Hid (loL zs L (k + 1) = O + L k ∧ hdB zs f L S (k + 1) = hdB zs f L S k ++ fourL (S + O) ∧ loB zs f L (k + 1) = loB zs f L k ++ prt f L k ∧ hdL zs (k + 1) = hdL zs k + 4) := ⟨by omega, hhb, hlb, hhd⟩
        clear hlo hhb hlb hhd hmo hhm hb htwo hfk ha hx1 hx2 hS eO y1 e4 ez el
        go_wp2
        refine wp_region_noPanic ?_
        refine wp_region_held_drew (S := fun w' => w'.cell? ⟨b2, o2 + k, none⟩ = some (.int .i64 0) ∧ w'.cell? ⟨b1, o1 + k, none⟩ = some (.slice (A k) l (C k))) (by kernel_rfl) (⟨c2, c1⟩) (fun hHeld => ?_)
        refine tk 0 (v := ?v1) ?y1 hHeld ?r1
        case y1 => intro w hSw; go_simp; try with_reducible rfl
        refine tk 1 (v := ?v2) ?y2 hHeld ?r2
        case y2 => intro w hSw; go_simp; try with_reducible rfl
        refine tk 2 (v := ?v3) ?y3 hHeld ?r3
        case y3 => intro w hSw; go_simp; try with_reducible rfl
        refine tk 3 (v := ?v4) ?y4 hHeld ?r4
        case y4 => intro w hSw; have s1 := hSw.1; have s2 := hSw.2; go_simp; try with_reducible rfl
        refine tk 4 (v := ?v5) ?y5 hHeld ?r5
        case y5 => intro w hSw; go_simp; try with_reducible rfl
        refine tk 5 (v := ?v6) ?y6 hHeld ?r6
        case y6 => intro w hSw; go_simp; try with_reducible rfl
        refine tl 6 hHeld ?_
        refine tl 7 hHeld ?_
        refine tl 8 hHeld ?_
        refine tl 9 hHeld ?_
        refine tl 10 hHeld ?_
        refine tl 11 hHeld ?_
        refine tl 12 hHeld ?_
        refine tl 13 hHeld ?_
        refine tl 14 hHeld ?_
        refine tl 15 hHeld ?_
        refine tk 16 (v := ?v7) ?y7 hHeld ?r7
        case y7 => intro w hSw; go_simp; try with_reducible rfl
        try simp only [Act.put, List.setIfInBounds_toArray, List.set_cons_zero, List.set_cons_succ, Array.toArray_toList, List.getElem_toArray, List.getElem_cons_zero, List.getElem_cons_succ]
        refine wpAnyH_done (by kernel_rfl) ?_ _
        refine NoPanic.normal ?_
        clear hHeld
        have c2' : wr.drew.cell? ⟨b2, o2 + k, none⟩ = some (.int .i64 0) := c2
        go_wp2_with (first
          | (go_at_call 79; refine HF.out.mono ?_; rintro e w3 ⟨rfl, hw3⟩; subst hw3)
          | (at_builtin; refine wpList_append_bys_at w5 rfl _ _ rfl w.heap.size (.slice ua O uc) O _ rfl HT5.out.swap.1 (A k) (L k) (C k) (f k) rfl (HP2.out _ HB5.out).2 bd2 HB5.out.size ?_; intro u6 w6 ho6 hg6 hl6; have HT6 := hid (HT5.out.swap.step ho6 hg6 hl6).swap; have HB6 := hid (below_grown HB5.out HT5.out.swap.1 HB5.out.size hg6); clear ho6 hg6 hl6)
          | (at_builtin; refine wpList_append_bys_at _ rfl _ _ rfl w.heap.size _ (hdL zs k) _ rfl HA.out.1 (some ⟨wr.heap.size, 0, none⟩) 4 4 (fun j => bt ((S + O : Nat) : Int) j) rfl HFY.out bd1 HBA.out.size ?_; intro v5 w5 ho5 hg5 hl5; have HT5 := hid (HA.out.step ho5 hg5 hl5); have HB5 := hid (below_grown HBA.out HA.out.1 HBA.out.size hg5); have c5 := (HP2.out _ HB5.out).1; clear ho5 hg5 hl5))
        go_roundw
        case rel =>
          obtain ⟨e1, e2, e3, e4⟩ := E.out
          obtain ⟨t1, t2, t3⟩ := HT6.out
          obtain ⟨ua', uc', hu⟩ := (owns_bys (l := loB zs f L (k + 1)) (by rw [e3, iv_append, ← bl_prt]; exact t2)).2
          refine ⟨k + 1, by omega, by go_num, ⟨owns_as t1 e4.symm (by rw [e2, iv_append, ← bl_four]), owns_as t2 e1.symm (by rw [e3, iv_append, ← bl_prt]), t3⟩, HB6.out, fun r hr hne => ?_, ua', uc', by rw [e1]; exact hu.1⟩
          by_cases e : r = k
          · subst e; exact absurd EE.out.1 hne
          · exact HFK.out r (by omega) hne
        case measure => simp [intOf]; omega
      · have h0' : (z != 0) = true := by simpa using h0
        rw [if_neg h0] at hlo hhb hlb
        have ei : inH z = z.toNat := by unfold inH; rw [if_neg h0]
        rw [ei] at hhd
        have H0 := hid h0
        have HA := hid (HTW.out.below ((Below.refl _ _).drew))
        have HBA := hid (hb.drew)
        by_cases hlz : (l : Int) = z
        · have hlz' : ((l : Int) != z) = false := by rw [bne_eq_false_iff_eq]; exact hlz
          have bd1 : hdL zs k + L k ≤ 140737488355328 := by omega
          have E : Hid (loL zs L (k + 1) = loL zs L k ∧ hdB zs f L S (k + 1) = hdB zs f L S k ++ prt f L k ∧ loB zs f L (k + 1) = loB zs f L k ∧ hdL zs (k + 1) = hdL zs k + L k ∧ (L k : Int) = zs k) := ⟨by omega, hhb, by rw [hlb, List.append_nil], by omega, by rw [el, ez]; exact hlz⟩
          have c2' : wr.drew.cell? ⟨b2, o2 + k, none⟩ = some (.int .i64 z) := c2
          have c1' : wr.drew.cell? ⟨b1, o1 + k, none⟩ = some (.slice (A k) l (C k)) := c1
          have HYD := hid (HY.out.below ((Below.refl _ _).drew))
          rw [el] at HYD
          obtain ⟨O, eO⟩ : ∃ O, loL zs L k = O := ⟨_, rfl⟩
          rw [eO] at HTW HA ⊢
          have EO := hid eO
          clear hlo hhb hlb hhd hmo hhm hb htwo hfk hS y1 ez hlz h0 eO
          have HEL := hid el
          rw [el] at bd1
          clear el
          go_wp2
          refine wp_region_noPanic ?_
          refine wp_region_held_drew (S := fun w' => w'.cell? ⟨b2, o2 + k, none⟩ = some (.int .i64 z) ∧ w'.cell? ⟨b1, o1 + k, none⟩ = some (.slice (A k) l (C k))) (by kernel_rfl) (⟨c2, c1⟩) (fun hHeld => ?_)
          refine tk 0 (v := ?v8) ?y8 hHeld ?r8
          case y8 => intro w hSw; go_simp; try with_reducible rfl
          refine tk 1 (v := ?v9) ?y9 hHeld ?r9
          case y9 => intro w hSw; go_simp; try with_reducible rfl
          refine tk 2 (v := ?v10) ?y10 hHeld ?r10
          case y10 => intro w hSw; go_simp; try with_reducible rfl
          refine tk 3 (v := ?v11) ?y11 hHeld ?r11
          case y11 => intro w hSw; have s1 := hSw.1; have s2 := hSw.2; go_simp; try with_reducible rfl
          refine tk 4 (v := ?v12) ?y12 hHeld ?r12
          case y12 => intro w hSw; go_simp; try with_reducible rfl
          refine tk 5 (v := ?v13) ?y13 hHeld ?r13
          case y13 => intro w hSw; go_simp; try with_reducible rfl
          refine tk 6 (v := ?v14) ?y14 hHeld ?r14
          case y14 => intro w hSw; go_simp; try with_reducible rfl
          refine tk 7 (v := ?v15) ?y15 hHeld ?r15
          case y15 => intro w hSw; go_simp; try with_reducible rfl
          refine tk 8 (v := ?v16) ?y16 hHeld ?r16
          case y16 => intro w hSw; go_simp; try with_reducible rfl
          refine tk 9 (v := ?v17) ?y17 hHeld ?r17
          case y17 => intro w hSw; have s1 := hSw.1; have s2 := hSw.2; go_simp; try with_reducible rfl
          refine tk 10 (v := ?v18) ?y18 hHeld ?r18
          case y18 => intro w hSw; go_simp; try with_reducible rfl
          refine tk 11 (v := ?v19) ?y19 hHeld ?r19
          case y19 => intro w hSw; go_simp; try with_reducible rfl
          refine tk 12 (v := ?v20) ?y20 hHeld ?r20
          case y20 => intro w hSw; go_simp; try with_reducible rfl
          refine tk 13 (v := ?v21) ?y21 hHeld ?r21
          case y21 => intro w hSw; go_simp; try with_reducible rfl
          refine tk 14 (v := ?v22) ?y22 hHeld ?r22
          case y22 => intro w hSw; have s1 := hSw.1; have s2 := hSw.2; go_simp; try with_reducible rfl
          refine tk 15 (v := ?v23) ?y23 hHeld ?r23
          case y23 => intro w hSw; go_simp; try with_reducible rfl
          refine tk 16 (v := ?v24) ?y24 hHeld ?r24
          case y24 => intro w hSw; go_simp; try with_reducible rfl
          try simp only [Act.put, List.setIfInBounds_toArray, List.set_cons_zero, List.set_cons_succ, Array.toArray_toList, List.getElem_toArray, List.getElem_cons_zero, List.getElem_cons_succ]
          refine wpAnyH_done (by kernel_rfl) ?_ _
          refine NoPanic.normal ?_
          clear hHeld
          go_wp2_with (at_builtin; refine wpList_append_bys_at wr.drew rfl _ _ rfl w.heap.size _ (hdL zs k) _ rfl HA.out.1 (A k) l (C k) (f k) rfl HYD.out bd1 HBA.out.size ?_; intro v5 w5 ho5 hg5 hl5; have HT5 := hid (HA.out.step ho5 hg5 hl5); have HB5 := hid (below_grown HBA.out HA.out.1 HBA.out.size hg5); clear ho5 hg5 hl5)
          go_roundw
          case rel =>
            obtain ⟨e1, e2, e3, e4, e5⟩ := E.out
            obtain ⟨t1, t2, t3⟩ := HT5.out
            rw [← HEL.out] at t1
            refine ⟨k + 1, by omega, by go_num, ⟨owns_as t1 e4.symm (by rw [e2, iv_append, ← bl_prt]), owns_as t2 (e1.trans EO.out).symm (by rw [e3]), t3⟩, HB5.out, fun r hr hne => ?_, ua, uc, by rw [e1, EO.out]⟩
            by_cases e : r = k
            · subst e; exact e5
            · exact HFK.out r (by omega) hne
          case measure => simp [intOf]; omega
        · exact absurd (by have := HFIT.out k hkn (by rw [ez]; exact h0); rw [el, ez] at this; exact this) hlz
    · have ek : k = n := by omega
      subst ek
      have hz := hb.size
      have hS := ES.out
      obtain ⟨t1, t2, t3⟩ := htwo
      obtain ⟨ua', uc', hu, _, _, hy⟩ := (owns_bys t2).2
      cases hu
      have hbd : hdL zs k + loL zs L k ≤ 140737488355328 := by omega
      have H1 := hid t1
      have HY := hid hy
      have HB := hid hb
      obtain ⟨O, eO⟩ : ∃ O, loL zs L k = O := ⟨_, rfl⟩
      rw [eO] at HY hbd ⊢
      have EO := hid eO
      clear t1 t2 t3 hy hb hfk hS eO
      go_wp2_with (at_builtin; refine wpList_append_bys _ rfl _ _ rfl w.heap.size _ (hdL zs k) _ rfl H1.out ua O uc _ rfl HY.out hbd hz ?_; intro v5 w5 ho5 hg5; have HO5 := hid ho5; have HB5 := hid (below_grown HB.out H1.out hz hg5); clear ho5 hg5)
      go_ret2
      refine ⟨_, rfl, ?_, HB5.out⟩
      refine owns_as HO5.out (by rw [EO.out]) ?_
      have e1 := iv_bl (loB zs f L k)
      rw [loB_len, EO.out] at e1
      unfold layC
      rw [iv_append, e1, ES.out]

end Go.Proofs.YtficlakgameglaaDoor.Z
