/-
  SszCuts answers true.
-/
import Derived.Test.YtppjpodlnelomaaSyK
import Derived.Test.YtppjpodlnelomaaSyF
import Derived.Test.YtppjpodlnelomaaSyN
namespace Go.Proofs.Ytppjpodlnelomaa
open Go.RowKit
set_option linter.unusedVariables false
set_option linter.unusedSimpArgs false

theorem own_open {w : World} {B n : Nat} {v : Value} {m : Nat → Int} (h : w.ownsRow B 5 1 v n (bl m n)) : ∃ a C, v = .slice a n C ∧ n ≤ C ∧ C ≤ 9223372036854775807 ∧ Bys w a n C m := by
  obtain ⟨a, C, rfl⟩ := owns_form h
  refine ⟨a, C, rfl, ?_, ?_, own_bys h⟩
  · rcases h.2 with ⟨h1, h0⟩ | ⟨g, cap, cur, h1, _, _, h4, h5, _⟩
    · omega
    · cases h1; exact h4
  · rcases h.2 with ⟨h1, h0⟩ | ⟨g, cap, cur, h1, _, _, h4, h5, _⟩
    · cases h1; omega
    · cases h1; unfold maxLen at h5; omega
theorem wpList_append_nms (w : World) {ops : Array Oper} {rest : List Oper} {o : Oper} {a : Act} {Q : Exit → Act → World → Prop} (hgd : o.guard = none) (s x : Operand)
    (ho : o.op = .call { callee := .builtin .append, args := #[s, x], argTypes := #[23, 23] })
    (base : Nat) (v : Value) (hs : a.eval s = v) (hown : w.ownsRow base 3 1 v 0 [])
    (sa : Option Addr) (n sc : Nat) (zs : Nat → Int) (hx : a.eval x = .slice sa n sc) (hn : Nms .i64 w sa n zs) (hsn : sa = none → sc = 0) (hbd : n ≤ 1000000000000) (hbase : base ≤ w.heap.size)
    (h : ∀ v' w', w'.ownsRow base 3 1 v' n (((List.range n).map zs).map (Value.int .i64)) → w.grownBy w' v.ownBlock → wpList Try.prog ops Q rest (a.put o.dst v') w') :
    wpList Try.prog ops Q (o :: rest) a w := by
  obtain ⟨i, hi, hz0, hz1, hz2⟩ := info_parts infoI
  have fin : ∀ v' w', w'.ownsRow base 3 1 v' (0 + n) ([] ++ ((List.range n).map zs).map (Value.int .i64)) → w.grownBy w' v.ownBlock → wpList Try.prog ops Q rest (a.put o.dst v') w' := fun v' w' h1 h2 => h v' w' (by rw [Nat.zero_add, List.nil_append] at h1; exact h1) h2
  have one : ∀ u ∈ ((List.range n).map zs).map (Value.int .i64), u.oneCell' = true := by
    intro u hu
    obtain ⟨y, _, rfl⟩ := List.mem_map.1 hu
    rfl
  cases sa with
  | none =>
    have h0 : n = 0 := by
      rcases hn with h | ⟨b, off, e, _⟩
      · exact h
      · cases e
    have h1 := hsn rfl
    subst h0
    subst h1
    refine wpList_append_own_none hgd s x 23 ho base 3 i 1 Try.underlying23 hi v 0 [] hs hown hx (h v w hown ⟨rfl, rfl, rfl, Nat.le_refl _, fun _ _ _ => rfl⟩)
  | some ad =>
    refine wpList_append_own w hgd s x 23 ho base 3 i (.int .i64 0) 1 8 Try.underlying23 hi hz0 hz1 hz2 rfl (by decide) v 0 [] hs hown ad n sc (((List.range n).map zs).map (Value.int .i64)) hx (by simp) (fun j u hj => ?_) one (by unfold maxLen; omega) (by omega) hbase (fun v' w' h1 h2 _ => fin v' w' h1 h2)
    have hjn : j < n := by
      have := (List.getElem?_eq_some_iff.1 hj).1
      simpa using this
    rw [List.getElem?_map, List.getElem?_map, List.getElem?_range hjn] at hj
    cases hj
    rcases hn with h | ⟨b, off, e, _, hc⟩
    · omega
    · cases e
      rw [addr_add]
      exact hc j hjn
theorem copy_ints {w : World} {B n : Nat} {v : Value} {zs : Nat → Int} (h : w.ownsRow B 3 1 v n (((List.range n).map zs).map (Value.int .i64))) : ∃ a C, v = .slice a n C ∧ Nms .i64 w a n zs := by
  obtain ⟨_, a, C, hv, hn⟩ := owns_ints h
  refine ⟨a, C, hv, ?_⟩
  rcases hn with h | ⟨b, off, h1, h2, h3⟩
  · exact .inl h
  · refine .inr ⟨b, off, h1, h2, fun j hj => ?_⟩
    have := h3 j hj
    dsimp only at this
    rw [List.getD_eq_getElem?_getD, List.getElem?_map, List.getElem?_range hj] at this
    exact this
theorem empty_ints (w : World) {B : Nat} (h : B ≤ w.heap.size) : (w.alloc (.cells #[] 3)).ownsRow B 3 1 (.slice (some ⟨w.heap.size, 0, none⟩) 0 0) 0 [] :=
  World.ownsRow_made w #[] 0 h (Nat.zero_le _) rfl
theorem iv_range (m : Nat → Int) (n : Nat) : iv ((List.range n).map m) = bl m n := by
  unfold iv bl
  rw [List.map_map]
  rfl

set_option maxRecDepth 20000 in
set_option maxHeartbeats 2000000 in
theorem cuts_law (zs m : Nat → Int) (ao : Option Addr) (len cap : Nat) (sa : Option Addr) (n sc : Nat) (w : World) (hb : Bys w ao len cap m) (hm : ∀ j, 0 ≤ m j ∧ m j < 256) (hlen : len ≤ 1048576) (hlc : len ≤ cap) (hcap : cap ≤ 9223372036854775807) (hn : Nms .i64 w sa n zs) (hnb : n ≤ 1048576) (hsn : sa = none → sc = 0) :
    Calls Try.prog 3 #[.slice ao len cap, .slice sa n sc] w fun e w' => e = .returned (.bool true) ∧ Below w.heap.size w w' := by
  have HBY : Hid (∀ W, Below w.heap.size w W → Bys W ao len cap m) := fun W hW => hb.below hW
  have HN : Hid (∀ W, Below w.heap.size w W → Nms .i64 W sa n zs) := fun W hW => hn.below hW
  have HM := hid hm
  have HSN := hid hsn
  obtain ⟨E, eE⟩ : ∃ E, cutE zs m n len = E := ⟨_, rfl⟩
  have EE := hid eE
  have H1 : Hid (∀ W a2 C2 a3 C3, Bys W a2 len C2 m → len ≤ C2 → C2 ≤ 9223372036854775807 → Nms .i64 W a3 n zs → Calls Try.prog 10 #[.slice a2 len C2, .slice a3 n C3] W fun e w' => ∃ a' N' A', e = .returned (.tuple #[.slice a' N' N', .int .i64 E]) ∧ N' = (if E = 0 then n else 0) ∧ Parts w' a' N' A' (cLn zs m n len) (cLn zs m n len) (cFn zs m n) ∧ Below W.heap.size W w' ∧ (E = 0 → CRow zs m n len W w' a')) := by
    intro W a2 C2 a3 C3 h1 h2 h3 h4
    rw [← eE]
    exact cut_full zs m a2 len C2 a3 n C3 W h1 hm (by omega) h2 h3 h4 (by omega)
  have H2 : Hid (∀ W, Below w.heap.size w W → Calls Try.prog 11 #[.slice ao len cap, .slice sa n sc] W fun e w' => ∃ a' N' c' A' C', e = .returned (.tuple #[.slice a' N' c', .int .i64 E]) ∧ N' = (if E = 0 then n else 0) ∧ Parts w' a' N' A' (cLn zs m n len) C' (cFn zs m n) ∧ Below W.heap.size W w') := by
    intro W hW
    rw [← eE]
    exact rcut_any zs m ao len cap sa n sc W (hb.below hW) hm hlen hlc hcap (hn.below hW) (by omega)
  obtain ⟨s, es⟩ : ∃ s, strF m len = s := ⟨_, rfl⟩
  have ES := hid es
  obtain ⟨L, eL⟩ : ∃ L, cLn zs m n len = L := ⟨_, rfl⟩
  obtain ⟨f, ef⟩ : ∃ f, cFn zs m n = f := ⟨_, rfl⟩
  rw [eL, ef] at H1 H2
  have EL := hid eL
  have EF := hid ef
  clear hb hn hm hsn eE es eL ef
  go_enter Try.func3, Try.ntmps3
  go_upto_region 8 with (first
    | (go_at_call 9; refine (awake_any _).mono ?_; rintro r w1 ⟨rfl, hb1⟩; have HB1 := hid hb1; clear hb1)
    | (at_builtin; refine wpList_append_bys _ rfl _ _ rfl w1.heap.size _ 0 [] rfl (empty_bytes w1 (Nat.le_refl _)) ao len cap m rfl (HBY.out _ (HB1.out.alloc HB1.out.size _)) (by omega) (by simp) ?_; intro v2 w2 ho2 hg2; obtain ⟨a2, C2, rfl, hC1, hC2, hy2⟩ := own_open (copy_bl ho2); have HY2 := hid hy2; have HB2 := hid (HB1.out.trans ((below_new hg2).mono HB1.out.size)); clear ho2 hg2 hy2)
    | (at_builtin; refine wpList_append_nms _ rfl _ _ rfl w2.heap.size _ rfl (empty_ints w2 (Nat.le_refl _)) sa n sc zs rfl (HN.out _ (HB2.out.alloc HB2.out.size _)) HSN.out (by omega) (by simp) ?_; intro v3 w3 ho3 hg3; obtain ⟨a3, C3, rfl, hn3⟩ := copy_ints ho3; have HN3 := hid hn3; have HY3 := hid (HY2.out.below (below_new hg3)); have HB3 := hid (HB2.out.trans ((below_new hg3).mono HB2.out.size)); clear ho3 hg3 hn3)
    | (go_at_call 10; refine (H1.out w3 a2 C2 a3 C3 HY3.out hC1 hC2 HN3.out).mono ?_; rintro r w4 ⟨a4, N4, A4, rfl, hN4, hp4, hb4, hr4⟩; have H34 := hid hb4; have HB4 := hid (HB3.out.trans (hb4.mono HB3.out.size)); have HP4 := hid hp4; have HN4 := hid hN4; have HR4 := hid hr4; clear hb4 hp4 hN4 hr4)
    | (go_at_call 11; refine (H2.out _ HB4.out).mono ?_; rintro r w5 ⟨a5, N5, c5, A5, C5, rfl, hN5, hp5, hb5⟩; obtain rfl := hN5.trans HN4.out.symm; have H45 := hid hb5; have HB5 := hid (HB4.out.trans (hb5.mono HB4.out.size)); have HP5 := hid hp5; clear hb5 hp5 hN5)
    | (go_at_call 12; refine (same_any a4 _ _ A4 L L f a5 _ c5 A5 L C5 f _ (HP4.out.below H45.out) HP5.out (by have := HN4.out; split at this <;> omega)).mono ?_; rintro r w6 ⟨rfl, hb6⟩; rw [samB_true (fun _ _ => rfl)]; have HB6 := hid (HB5.out.trans (hb6.mono HB5.out.size)); have H46 := hid (H45.out.trans (hb6.mono H45.out.size)); have H36 := hid (H34.out.trans (H46.out.mono H34.out.size)); have cv1 := conv_bys w6 _ _ _ _ (HY3.out.below H36.out); have cv2 := conv_bys w6 _ _ _ _ (HBY.out _ HB6.out); rw [ES.out] at cv1 cv2; clear hb6))
  by_cases hE : E = 0
  · subst hE
    have hN := HN4.out
    rw [if_pos rfl] at hN
    subst hN
    have hok := cutE_ok EE.out
    have hl := lay_ok zs a4 N5 N5 A4 (cLn zs m N5 len) (cLn zs m N5 len) (cFn zs m N5) sa sc w6 (by rw [EL.out, EF.out]; exact HP4.out.below H46.out) (HN.out _ HB6.out) hok.sz (fun r hr => by have := cut_bounds hok r hr; unfold cLn; omega) (cut_fits hok) (by rw [cut_total hok]; omega)
    rw [cut_total hok, cut_again hok HM.out, iv_range] at hl
    have HLY := hid hl
    have HWC := hid (fun W hW => wipe_cut (HR4.out rfl) hok (by omega) W hW)
    clear hl hok HP4 HP5 H1 H2 cv1 cv2
    go_wp2_with (first
      | (go_at_call 13; refine HLY.out.mono ?_; rintro r w7 ⟨v7, rfl, ho7, hb7⟩; obtain ⟨a7, C7, rfl, _, _, hy7⟩ := own_open ho7; have HB7 := hid (HB6.out.trans (hb7.mono HB6.out.size)); have H47 := hid (H46.out.trans (hb7.mono H46.out.size)); have cv3 := conv_bys w7 _ _ _ _ hy7; have cv4 := conv_bys w7 _ _ _ _ (HBY.out _ HB7.out); rw [ES.out] at cv3 cv4; clear ho7 hb7 hy7)
      | (go_at_call 14; refine (HWC.out _ H47.out).mono ?_; rintro r w8 ⟨rfl, hb8⟩; have HB8 := hid (HB7.out.trans (hb8.mono HB3.out.size)); have H38 := hid ((H34.out.trans (H47.out.mono H34.out.size)).trans hb8); have cv5 := conv_bys w8 _ _ _ _ (HY3.out.below H38.out); have cv6 := conv_bys w8 _ _ _ _ (HBY.out _ HB8.out); rw [ES.out] at cv5 cv6; clear hb8))
    go_ret
    exact ⟨rfl, HB8.out⟩
  · have e0 : (E != 0) = true := by rw [bne_iff_ne]; exact hE
    have hN := HN4.out
    rw [if_neg hE] at hN
    subst hN
    clear hE
    go_wp2
    go_ret
    exact ⟨rfl, HB6.out⟩

end Go.Proofs.Ytppjpodlnelomaa
