/-
  What headOffsets and inOrder answer.
-/
import Derived.Test.YtfhplpcbaoefeaaSzC
namespace Go.Proofs.Ytfhplpcbaoefeaa
open Go.RowKit
set_option linter.unusedVariables false
set_option linter.unusedSimpArgs false

theorem infoU : (Try.prog.info? 37).map (fun i => (i.zero, i.size, i.bytes)) = some (some (.int .u64 0), 1, 8) := by kernel_rfl
theorem wpList_append_u64 (w : World) {ops : Array Oper} {rest : List Oper} {o : Oper} {a : Act} {Q : Exit → Act → World → Prop} (hgd : o.guard = none) (s x : Operand)
    (ho : o.op = .call { callee := .builtin .append, args := #[s, x], argTypes := #[38, 38] })
    (base : Nat) (v : Value) (n : Nat) (xs : List Value) (z : Value) (hz : z.oneCell' = true) (hs : a.eval s = v) (hown : w.ownsRow base 37 1 v n xs)
    (hx : a.eval x = .slice (some ⟨w.heap.size, 0, none⟩) 1 1) (hbd : n ≤ 1000) (hbase : base ≤ w.heap.size)
    (h : ∀ v' w', w'.ownsRow base 37 1 v' (n + 1) (xs ++ [z]) → w.grownBy w' v.ownBlock → wpList Try.prog ops Q rest (a.put o.dst v') w') :
    wpList Try.prog ops Q (o :: rest) a (w.alloc (.cells #[z] 37)) := by
  obtain ⟨i, hi, hz0, hz1, hz2⟩ := info_parts infoU
  refine wpList_append_own _ hgd s x 38 ho base 37 i (.int .u64 0) 1 8 Try.underlying38 hi hz0 hz1 hz2 rfl (by decide) v n xs hs (hown.alloc _) ⟨w.heap.size, 0, none⟩ 1 1 [z] hx rfl (cell_one_new _ _ _)
    (fun u hu => by simp at hu; subst hu; exact hz) (by unfold maxLen; omega) (by omega) (by simp; omega) (fun v' w' h1 h2 _ => ?_)
  refine h v' w' h1 ⟨h2.os, h2.tape, h2.output, ?_, fun k hk hne => ?_⟩
  · have := h2.size
    simp at this
    omega
  · exact (h2.block k (by simp; omega) hne).trans (heap_old hk)
theorem bys_pos {w : World} {a : Option Addr} {n c : Nat} {m : Nat → Int} (h : Bys w a n c m) (hp : 0 < n) : ∃ b off, a = some ⟨b, off, none⟩ ∧ n ≤ c ∧ c ≤ 9223372036854775807 ∧ b < w.heap.size ∧ ∀ j, j < n → w.cell? ⟨b, off + j, none⟩ = some (.int .u8 (m j)) := by
  rcases h with ⟨_, h, _⟩ | ⟨_, _, h⟩ | h
  · omega
  · omega
  · exact h
theorem sl_part (ao : Option Addr) (len cap lo hi : Nat) (l h : Option Value) (m : Nat → Int) (hl : l = some (.int .i64 lo) ∨ l = none ∧ lo = 0) (hh : h = some (.int .i64 hi) ∨ h = none ∧ hi = len) (h1 : lo ≤ hi) (h2 : hi ≤ len) (h3 : len ≤ cap) :
    ∃ A, (∀ W, (sl22 (.slice ao len cap) l h).run Try.prog W = .ok (.slice A (hi - lo) (cap - lo)) W) ∧ ∀ W, Bys W ao len cap m → Bys W A (hi - lo) (cap - lo) (fun j => m (lo + j)) :=
  ⟨_, fun W => sl22_run W ao len cap lo hi l h hl hh h1 h2 h3, fun W hb => bys_part hb lo hi h1 h2⟩

theorem ownsRow_kept {w w' : World} {base : Nat} {e : TypeId} {v : Value} {n : Nat} {xs : List Value} (h : w.ownsRow base e 1 v n xs) (hk : ∀ (g : Nat) (cur : Array Value), w.heap[g]? = some (.cells cur e (0, 0)) → w'.heap[g]? = w.heap[g]?) : w'.ownsRow base e 1 v n xs := by
  refine ⟨h.1, ?_⟩
  rcases h.2 with h1 | ⟨g, cap, cur, h1, h2, h3, h4⟩
  · exact .inl h1
  · exact .inr ⟨g, cap, cur, h1, h2, (hk g cur h3).trans h3, h4⟩
theorem owns_below {w w' : World} {base : Nat} {e : TypeId} {v : Value} {n : Nat} {xs : List Value} (h : w.ownsRow base e 1 v n xs) (hb : Below w.heap.size w w') : w'.ownsRow base e 1 v n xs :=
  ownsRow_kept h fun g cur hg => hb.block g (Array.getElem?_eq_some_iff.1 hg).1

/-- The offsets that a head's first k parts tell. -/
def offL (zs m : Nat → Int) : Nat → List Int
  | 0 => []
  | k + 1 => offL zs m k ++ (if zs k = 0 then [o4 m (hdL zs k)] else [])
theorem offL_len (zs m : Nat → Int) (k : Nat) : (offL zs m k).length ≤ k := by
  induction k with
  | zero => exact Nat.le_refl _
  | succ k ih =>
    unfold offL
    rw [List.length_append]
    by_cases h : zs k = 0
    · rw [if_pos h]; simp; omega
    · rw [if_neg h]; simp; omega

attribute [local go_sem ↓] sl22_eq

set_option maxHeartbeats 1000000 in
theorem headoffs_any (zs m : Nat → Int) (ao : Option Addr) (len cap : Nat) (a : Option Addr) (n c : Nat) (w : World) (hb : Bys w ao len cap m) (hm : ∀ j, j < len → 0 ≤ m j ∧ m j < 256) (hlc : len ≤ cap) (hcap : cap ≤ 9223372036854775807)
    (hn : Nms .i64 w a n zs) (hn1 : 1 ≤ n) (hnb : n ≤ 64) (hok : ∀ i, i < n → okS (zs i)) (hhd : hdL zs n ≤ len) :
    Calls Try.prog 25 #[.slice ao len cap, .slice a n c] w fun e w' => ∃ v, e = .returned v ∧ w'.ownsRow w.heap.size 37 1 v (offL zs m n).length ((offL zs m n).map (Value.int .u64)) ∧ Below w.heap.size w w' := by
  rcases hn with h | ⟨b, off, rfl, hbb, hc⟩
  · omega
  have HC := hid hc
  have HOK := hid hok
  have HBY := hid hb
  have HMM := hid hm
  clear hc hok hb hm
  go_enter Try.func25, Try.ntmps25
  go_wp2
  go_loopw [0, 5, 10] (fun x v i wr => ∃ (k : Nat) (A : Option Addr), k ≤ n ∧ i = .int .i64 k ∧ x = .slice A (len - hdL zs k) (cap - hdL zs k) ∧ (∀ W, Bys W ao len cap m → Bys W A (len - hdL zs k) (cap - hdL zs k) (fun j => m (hdL zs k + j))) ∧ wr.ownsRow w.heap.size 37 1 v (offL zs m k).length ((offL zs m k).map (Value.int .u64)) ∧ Below w.heap.size w wr) (fun _ _ i _ => n - (intOf i).toNat)
  case atStart => exact ⟨0, ao, by omega, rfl, rfl, fun W h => by simpa [hdL] using h, World.ownsRow_nil _ _ _ _, Below.refl _ _⟩
  case round =>
    obtain ⟨k, A, hk, rfl, rfl, hA, hown, hbel⟩ := hrel
    by_cases hkn : k < n
    · have ck := (below_cell hbel hbb).trans (HC.out k hkn)
      have hokk := HOK.out k hkn
      have hmono := hdL_mono zs (i := k + 1) (j := n) (by omega)
      have hsucc : hdL zs (k + 1) = hdL zs k + inH (zs k) := rfl
      have hi1 := inH_bd hokk
      have hll := offL_len zs m k
      have hbd := hdL_bd (zs := zs) k (fun i hi => HOK.out i (by omega))
      obtain ⟨S, eS⟩ : ∃ S, hdL zs k = S := ⟨_, rfl⟩
      obtain ⟨z, ez⟩ : ∃ z, zs k = z := ⟨_, rfl⟩
      obtain ⟨I, eI⟩ : ∃ I, inH z = I := ⟨_, rfl⟩
      rw [eS] at hA hsucc hbd ⊢
      rw [ez] at ck hokk hsucc hi1
      rw [eI] at hsucc hi1
      obtain ⟨L1, eL1⟩ : ∃ L1, len - S = L1 := ⟨_, rfl⟩
      obtain ⟨C1, eC1⟩ : ∃ C1, cap - S = C1 := ⟨_, rfl⟩
      rw [eL1, eC1] at hA ⊢
      have hbyk := hA wr (HBY.out.below hbel)
      obtain ⟨A2, hA2, hp2⟩ := sl_part A L1 C1 I L1 (some (.int .i64 I)) none (fun j => m (S + j)) (.inl rfl) (.inr ⟨rfl, rfl⟩) (by omega) (Nat.le_refl _) (by omega)
      have hin := inhead_any z
      rw [eI] at hin
      have HIN := hid (fun w => hin w hokk)
      have HA := hid hA
      have HP2 := hid hp2
      have HO := hid hown
      have HB := hid hbel
      have HE : Hid (hdL zs k = S ∧ zs k = z ∧ inH z = I ∧ len - S = L1 ∧ cap - S = C1 ∧ hdL zs (k + 1) = S + I) := ⟨eS, ez, eI, eL1, eC1, hsucc⟩
      have HLL := hid hll
      have k1 : (k : Int) < (n : Int) := by omega
      have k2 : (0 : Int) ≤ (k : Int) := by omega
      have g1 : (I : Int) ≤ (L1 : Int) := by omega
      have g2 : (0 : Int) ≤ (I : Int) := by omega
      have hbase := hbel.size
      have fin : ∀ W, Bys W ao len cap m → Bys W A2 (len - hdL zs (k + 1)) (cap - hdL zs (k + 1)) (fun j => m (hdL zs (k + 1) + j)) := by
        intro W h
        have := HP2.out W (HA.out W h)
        rw [hsucc, show len - (S + I) = L1 - I by omega, show cap - (S + I) = C1 - I by omega]
        have e : (fun j => m (S + I + j)) = (fun j => m (S + (I + j))) := funext fun j => by rw [Nat.add_assoc]
        rw [e]
        exact this
      have HFIN := hid fin
      by_cases h0 : z = 0
      · have hI4 : I = 4 := by rw [← eI, h0]; rfl
        obtain ⟨b1, o1, hA1, hq1, hq2, hq3, hq4⟩ := bys_pos hbyk (by omega)
        have hro := readoff_any (fun j => m (S + j)) b1 o1 L1 C1 wr (fun j hj => hq4 j (by omega)) (fun j hj => HMM.out _ (by omega)) (by omega) hq3
        have eo : o4 (fun j => m (S + j)) 0 = o4 m S := by unfold o4; simp only [Nat.zero_add, Nat.add_zero, Nat.add_assoc]
        rw [eo] at hro
        obtain ⟨X, eX⟩ : ∃ X, o4 m S = X := ⟨_, rfl⟩
        rw [eX] at hro
        have HRO := hid hro
        have HX := hid eX
        have HI4 := hid hI4
        subst hA1
        subst h0
        clear hA hbel hown hp2 hin hokk hmono hsucc hi1 hbd eS ez eI eL1 eC1 hbyk hq1 hq2 hq3 hq4 hro eo eX hI4 fin hll
        go_wp2_with (first
          | (go_at_call 14; refine HRO.out.mono ?_; rintro e w1 ⟨rfl, hb1⟩; have HO1 := hid (owns_below HO.out hb1); have HB1 := hid hb1; have hz1 := hb1.size; clear hb1)
          | (at_builtin; refine wpList_append_u64 _ rfl _ _ rfl w.heap.size u5 (offL zs m k).length _ (.int .u64 X) rfl rfl HO1.out rfl (by have := HLL.out; omega) (by omega) ?_; intro v2 w2 ho2 hg2; have HO2 := hid ho2; have HG2 := hid hg2; clear ho2 hg2)
          | (go_at_call 30; refine (HIN.out _).mono ?_; rintro e w3 ⟨rfl, rfl⟩))
        go_roundw
        case rel =>
          obtain ⟨eS, ez, eI, eL1, eC1, hsucc⟩ := HE.out
          refine ⟨k + 1, A2, by omega, by go_num, ?_, HFIN.out, ?_, ?_⟩
          · rw [hsucc, show len - (S + I) = L1 - I by omega, show cap - (S + I) = C1 - I by omega]
          · have e : offL zs m (k + 1) = offL zs m k ++ [X] := by
              show offL zs m k ++ (if zs k = 0 then [o4 m (hdL zs k)] else []) = _
              rw [if_pos ez, eS, HX.out]
            rw [e, List.length_append, List.map_append]
            exact HO2.out
          · exact below_grown (HB.out.trans ((HB1.out).mono hbase)) HO1.out (Nat.le_trans hbase hz1) HG2.out
        case measure => simp [intOf]; omega
      · have h0' : ¬ z = 0 := h0
        clear hA hbel hown hp2 hin hokk hmono hsucc hi1 hbd eS ez eI eL1 eC1 hbyk fin hll
        go_wp2_with (go_at_call 30; refine (HIN.out _).mono ?_; rintro e w3 ⟨rfl, rfl⟩)
        go_roundw
        case rel =>
          obtain ⟨eS, ez, eI, eL1, eC1, hsucc⟩ := HE.out
          refine ⟨k + 1, A2, by omega, by go_num, ?_, HFIN.out, ?_, HB.out⟩
          · rw [hsucc, show len - (S + I) = L1 - I by omega, show cap - (S + I) = C1 - I by omega]
          · have e : offL zs m (k + 1) = offL zs m k := by
              show offL zs m k ++ (if zs k = 0 then [o4 m (hdL zs k)] else []) = _
              rw [if_neg (by rw [ez]; exact h0'), List.append_nil]
            rw [e]
            exact HO.out
        case measure => simp [intOf]; omega
    · have ek : k = n := by omega
      subst ek
      have HO := hid hown
      have HB := hid hbel
      clear hown hbel hA
      go_wp2
      go_ret
      exact ⟨_, rfl, HO.out, HB.out⟩

end Go.Proofs.Ytfhplpcbaoefeaa
