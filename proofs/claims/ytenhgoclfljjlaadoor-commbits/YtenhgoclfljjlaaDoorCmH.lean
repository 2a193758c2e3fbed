/-
  What CommBits answers, by what the program's functions answer.
-/

import Derived.Test.YtenhgoclfljjlaaDoorCmG
import Derived.BigQuiet

import Derived.Deep.QuietTactic

namespace Go.Proofs.YtenhgoclfljjlaaDoor

open Go.RowKit

set_option linter.unusedVariables false

set_option linter.unusedSimpArgs false

set_option maxRecDepth 20000

/-- Where one that is chosen stands among those that are chosen. -/
theorem filt_idx (p : Int → Bool) : ∀ (c : List Int) (k : Nat), k < c.length → p (c.getD k 0) = true → (c.take k).countP p < (c.filter p).length ∧ (c.filter p).getD ((c.take k).countP p) 0 = c.getD k 0
  | [], k, h, _ => absurd h (Nat.not_lt_zero _)
  | a :: c, 0, _, hp => by
    have ha : p a = true := hp
    rw [List.take_zero, List.countP_nil, List.filter_cons_of_pos ha]
    exact ⟨Nat.succ_pos _, rfl⟩
  | a :: c, k + 1, h, hp => by
    have ih := filt_idx p c k (Nat.lt_of_succ_lt_succ h) hp
    rw [List.take_succ_cons]
    by_cases ha : p a = true
    · rw [List.countP_cons_of_pos ha, List.filter_cons_of_pos ha]
      exact ⟨Nat.succ_lt_succ ih.1, ih.2⟩
    · rw [List.countP_cons_of_neg ha, List.filter_cons_of_neg ha]
      exact ih

theorem count_both (p : Int → Bool) : ∀ l : List Int, l.countP p + l.countP (fun v => !p v) = l.length
  | [] => rfl
  | a :: l => by
    have ih := count_both p l
    by_cases ha : p a = true
    · rw [List.countP_cons_of_pos ha, List.countP_cons_of_neg (by simp [ha])]
      show _ = l.length + 1
      omega
    · rw [List.countP_cons_of_neg ha, List.countP_cons_of_pos (by simp [ha])]
      show _ = l.length + 1
      omega

theorem take_snoc (c : List Int) (k : Nat) (h : k < c.length) : c.take (k + 1) = c.take k ++ [c.getD k 0] := by
  rw [List.take_add_one, List.getElem?_eq_getElem h, List.getD_eq_getElem?_getD, List.getElem?_eq_getElem h]
  rfl

theorem pick_full (f : Nat → Int) : ∀ m, (pick f (fun _ => true) m).length = m
  | 0 => rfl
  | m + 1 => by
    unfold pick
    rw [if_pos rfl, List.length_append, pick_full f m]
    rfl

/-- The two halves of a committee that bits make. -/
structure Halves (A B C : List Int) (p : Int → Bool) : Prop where
  a : A = C.filter p
  b : B = C.filter fun v => !p v
  r : C.Pairwise (· < ·)

theorem halves {L : List Int} (hL : L.Pairwise (· < ·)) {f : Nat → Int} {m : Nat} (hf : ∀ i j, i < m → j < m → f i = f j → i = j) (hm : ∀ j, j < m → f j ∈ L) (o : Nat → Bool) :
    Halves (whL L f o m) (whL L f (fun j => !o j) m) (whL L f (fun _ => true) m) (chB f o m) ∧ (whL L f (fun _ => true) m).length = m := by
  have hall : ∀ v, chB f (fun _ => true) m v = (chB f o m v || chB f (fun j => !o j) m v) := fun v => by
    rw [Bool.eq_iff_iff, Bool.or_eq_true, chB_iff, chB_iff, chB_iff]
    constructor
    · rintro ⟨j, h1, _, h3⟩
      cases ho : o j
      · exact .inr ⟨j, h1, by rw [ho]; rfl, h3⟩
      · exact .inl ⟨j, h1, ho, h3⟩
    · rintro (⟨j, h1, _, h3⟩ | ⟨j, h1, _, h3⟩) <;> exact ⟨j, h1, rfl, h3⟩
  have hone : ∀ v, chB f o m v = true → chB f (fun j => !o j) m v = false := fun v h => by
    obtain ⟨j, h1, h2, h3⟩ := (chB_iff _ _ _ _).1 h
    cases hq : chB f (fun j => !o j) m v with
    | false => rfl
    | true =>
      obtain ⟨i, g1, g2, g3⟩ := (chB_iff _ _ _ _).1 hq
      have := hf i j g1 h1 (g3.trans h3.symm)
      subst this
      rw [h2] at g2
      cases g2
  refine ⟨⟨?_, ?_, hL.filter _⟩, ?_⟩
  · unfold whL
    rw [List.filter_filter]
    refine List.filter_congr fun v _ => ?_
    rw [hall v]
    cases chB f o m v <;> rfl
  · unfold whL
    rw [List.filter_filter]
    refine List.filter_congr fun v _ => ?_
    rw [hall v]
    cases h1 : chB f o m v
    · simp
    · rw [hone v h1]
      rfl
  · rw [← pick_sort hL (b := fun _ => true) hf hm (fun x y => decide (x ≤ y)) (fun x y => decide_eq_true_iff), List.length_mergeSort, pick_full]

/-- A row of bits and one more. -/
theorem bls_more {w : World} {B M C : Nat} {a : Option Addr} (h : w.ownsRow B 4 1 (.slice a (M + 1) C) (M + 1) (Z.bbl (fun _ => true) M ++ [.bool false])) : Z.Bls w a (M + 1) C (fun j => decide (j < M)) := by
  rw [Z.bbl_congr (g := fun j => decide (j < M)) (fun i hi => by simp [hi]), Z.bbl_snoc (fun j => decide (j < M)) M false (by simp)] at h
  obtain ⟨a', C', he, _, _, hb, _⟩ := Z.owns_bls h
  cases he
  exact hb

/-- Three rows of bits, apart from each other. -/
structure B3 (B : Nat) (W : World) (v1 v2 v3 : Value) (n1 n2 n3 : Nat) (f : Nat → Bool) : Prop where
  o1 : W.ownsRow B 4 1 v1 n1 (Z.bbl f n1)
  o2 : W.ownsRow B 4 1 v2 n2 (Z.bbl (fun j => !f j) n2)
  o3 : W.ownsRow B 4 1 v3 n3 (Z.bbl (fun _ => true) n3)
  d12 : ∀ b, v1.ownBlock = some b → v2.ownBlock ≠ some b
  d13 : ∀ b, v1.ownBlock = some b → v3.ownBlock ≠ some b
  d23 : ∀ b, v2.ownBlock = some b → v3.ownBlock ≠ some b

theorem B3.alloc {B : Nat} {W : World} {v1 v2 v3 : Value} {n1 n2 n3 : Nat} {f : Nat → Bool} (h : B3 B W v1 v2 v3 n1 n2 n3 f) (o : Obj) : B3 B (W.alloc o) v1 v2 v3 n1 n2 n3 f := ⟨h.o1.alloc o, h.o2.alloc o, h.o3.alloc o, h.d12, h.d13, h.d23⟩

theorem B3.s1 {B : Nat} {W W' : World} {v1 v2 v3 u : Value} {n1 n2 n3 : Nat} {f : Nat → Bool} {z : Bool} (h : B3 B W v1 v2 v3 n1 n2 n3 f) (hz : z = f n1) (ho : W'.ownsRow B 4 1 u (n1 + 1) (Z.bbl f n1 ++ [.bool z])) (hg : W.grownBy W' v1.ownBlock) (hb : ∀ b, u.ownBlock = some b → v1.ownBlock = some b ∨ W.heap.size ≤ b) : B3 B W' u v2 v3 (n1 + 1) n2 n3 f := by
  rw [Z.bbl_snoc f n1 z hz] at ho
  exact ⟨ho, own_grownC h.o2 h.o1 hg (.inr fun b e1 e2 => h.d12 b e2 e1), own_grownC h.o3 h.o1 hg (.inr fun b e1 e2 => h.d13 b e2 e1), fun b e1 e2 => (hb b e1).elim (fun h0 => h.d12 b h0 e2) (fun h0 => by have := (h.o2.lt b e2).2; omega), fun b e1 e2 => (hb b e1).elim (fun h0 => h.d13 b h0 e2) (fun h0 => by have := (h.o3.lt b e2).2; omega), h.d23⟩

theorem B3.s2 {B : Nat} {W W' : World} {v1 v2 v3 u : Value} {n1 n2 n3 : Nat} {f : Nat → Bool} {z : Bool} (h : B3 B W v1 v2 v3 n1 n2 n3 f) (hz : z = !f n2) (ho : W'.ownsRow B 4 1 u (n2 + 1) (Z.bbl (fun j => !f j) n2 ++ [.bool z])) (hg : W.grownBy W' v2.ownBlock) (hb : ∀ b, u.ownBlock = some b → v2.ownBlock = some b ∨ W.heap.size ≤ b) : B3 B W' v1 u v3 n1 (n2 + 1) n3 f := by
  rw [Z.bbl_snoc (fun j => !f j) n2 z hz] at ho
  exact ⟨own_grownC h.o1 h.o2 hg (.inr h.d12), ho, own_grownC h.o3 h.o2 hg (.inr fun b e1 e2 => h.d23 b e2 e1), fun b e1 e2 => (hb b e2).elim (fun h0 => h.d12 b e1 h0) (fun h0 => by have := (h.o1.lt b e1).2; omega), h.d13, fun b e1 e2 => (hb b e1).elim (fun h0 => h.d23 b h0 e2) (fun h0 => by have := (h.o3.lt b e2).2; omega)⟩

theorem B3.s3 {B : Nat} {W W' : World} {v1 v2 v3 u : Value} {n1 n2 n3 : Nat} {f : Nat → Bool} (h : B3 B W v1 v2 v3 n1 n2 n3 f) (ho : W'.ownsRow B 4 1 u (n3 + 1) (Z.bbl (fun _ => true) n3 ++ [.bool true])) (hg : W.grownBy W' v3.ownBlock) (hb : ∀ b, u.ownBlock = some b → v3.ownBlock = some b ∨ W.heap.size ≤ b) : B3 B W' v1 v2 u n1 n2 (n3 + 1) f := by
  rw [Z.bbl_snoc (fun _ => true) n3 true rfl] at ho
  exact ⟨own_grownC h.o1 h.o3 hg (.inr h.d13), own_grownC h.o2 h.o3 hg (.inr h.d23), ho, h.d12, fun b e1 e2 => (hb b e2).elim (fun h0 => h.d13 b e1 h0) (fun h0 => by have := (h.o1.lt b e1).2; omega), fun b e1 e2 => (hb b e2).elim (fun h0 => h.d23 b e1 h0) (fun h0 => by have := (h.o2.lt b e1).2; omega)⟩

attribute [local go_sem ↓] lvState_eq svState_eq bdState_eq lvValidator_eq svValidator_eq ixValidator_eq

set_option maxHeartbeats 16000000 in
theorem commBits_law (pC : PCount) (pO : POf) (pW : PWho) (x : VState) (sl ix : Int) (a : Option Addr) (nb cap : Nat) (b : Nat → Bool) (w : World) (hx : OkState x) (hw : InW w x) (hb : Z.Bls w a nb cap b) (hnb : nb ≤ 9223372036854775807) (s0 : 0 ≤ sl) (s1 : sl < 18446744073709551616) (i0 : 0 ≤ ix) (i1 : ix < 18446744073709551616) (hS : Sh w) :
    Calls Tryd.prog 5 #[.agg (cel (sState x)), .int .u64 sl, .int .u64 ix, .slice a nb cap] w fun e' w' => e' = .returned (.bool true) ∧ Below w.heap.size w w' := by
  obtain ⟨W0, hW0⟩ : ∃ W, w.alloc (.cells (cel (sState x)) 49) = W := ⟨_, rfl⟩
  have r0 : W0.heap[w.heap.size]? = some (.cells (cel (sState x)) 49) := by rw [← hW0]; exact heap_new rfl
  have hB0 : Below w.heap.size w W0 := by rw [← hW0]; exact (Below.refl _ _).alloc (Nat.le_refl _) _
  have z0 : w.heap.size < W0.heap.size := (Array.getElem?_eq_some_iff.1 r0).1
  have hld : ∀ W : World, Below W0.heap.size W0 W → (lvState ⟨w.heap.size, 0, none⟩).run Tryd.prog W = .ok (.agg (cel (sState x))) W := fun W h => lvState_run ((h.block _ z0).trans r0)
  have hw0 := hw.below hB0
  have hS0 := hS.below hB0
  have hb0 := hb.below hB0
  have haw := awake14 pC pO W0 hS0
  have hri : ∀ W : World, Below W0.heap.size W0 W → Calls Tryd.prog 7 #[.agg (cel (sState x))] W fun e w' => e = .returned (.bool (rightB x)) ∧ Below W.heap.size W w' := fun W h => rright_any x W hx.r' (hw0.below h).r' ⟨hx.o10.1, hx.o4.1.1, hx.o18.1.1, hx.o19.1.1, hx.o20.1.1⟩
  have HB := hid hB0
  have HW0 := hid hW0
  have HLD := hid hld
  have HAW := hid haw
  cases hR : rightB x
  · rw [hR] at hri
    have HRI := hid hri
    clear hri hB0 hW0 hld hw0 hw hx r0 haw hS0 hS hb hb0 pC pO pW
    go_enter Tryd.func5, Tryd.ntmps5
    go_upto_region 1 with fail
    rw [HW0.out]
    clear HW0
    go_upto_region 3 with (go_at_call 6; refine HAW.out.mono ?_; rintro e' w1 ⟨rfl, hb1⟩)
    have l1 := HLD.out w1 hb1
    go_wp2_with (go_at_call 7; refine (HRI.out w1 hb1).mono ?_; rintro e' w2 ⟨rfl, hb2⟩)
    go_ret
    exact ⟨rfl, HB.out.trans ((hb1.trans (hb2.mono hb1.size)).mono HB.out.size)⟩
  rw [hR] at hri
  have HRI := hid hri
  have hO := rightB_out hR
  have hk0 : Lk W0 x := hO.lk hx hw0
  have hlen := acE_len (e := sl / 4) hk0.nb
  have hmn := cmN_le (acE x (sl / 4)).length sl ix i0
  have hof : ∀ W : World, Below W0.heap.size W0 W → Calls Tryd.prog 10 #[.agg (cel (sState x)), .int .u64 sl, .int .u64 ix] W (OfA x sl ix W) := fun W h => pO x sl ix W hx (hk0.below h) (hS0.below h) s0 s1 i0 i1
  unfold OfA at hof
  by_cases h : ix < (cnt (acE x (sl / 4)).length : Int)
  · have hE : cmE (acE x (sl / 4)).length ix = 0 := by unfold cmE; rw [if_pos h]
    rw [hE] at hof
    obtain ⟨M, eM⟩ : ∃ M, cmN (acE x (sl / 4)).length sl ix = M := ⟨_, rfl⟩
    have hwh : ∀ (W : World) a' c' (o : Nat → Bool), Below W0.heap.size W0 W → Z.Bls W a' M c' o → Calls Tryd.prog 13 #[.agg (cel (sState x)), .int .u64 sl, .int .u64 ix, .slice a' M c'] W fun e' w' => ∃ a c, e' = .returned (.tuple #[.slice a (whL (acE x (sl / 4)) (cmF (acE x (sl / 4)) (seedV x (sl / 4) 1) sl ix) o M).length c, .int .i64 0]) ∧ Nml w' a (whL (acE x (sl / 4)) (cmF (acE x (sl / 4)) (seedV x (sl / 4) 1) sl ix) o M) ∧ Below W.heap.size W w' := fun W a' c' o h1 h2 => by
      have := pW x sl ix a' M c' o W hx (hk0.below h1) (hS0.below h1) h2 s0 s1 i0 i1
      have hWE : whE (acE x (sl / 4)).length sl ix M = 0 := by unfold whE; rw [if_pos h, if_pos eM.symm]
      have hWS : whS x sl ix o M = whL (acE x (sl / 4)) (cmF (acE x (sl / 4)) (seedV x (sl / 4) 1) sl ix) o M := by unfold whS; rw [if_pos hWE]
      unfold WhA at this
      rw [hWE, hWS] at this
      exact this
    have hw9 : ∀ (W : World) a' c', Below W0.heap.size W0 W → Z.Bls W a' (M + 1) c' (fun j => decide (j < M)) → Calls Tryd.prog 13 #[.agg (cel (sState x)), .int .u64 sl, .int .u64 ix, .slice a' (M + 1) c'] W fun e' w' => ∃ a c, e' = .returned (.tuple #[.slice a 0 c, .int .i64 32]) ∧ True ∧ Below W.heap.size W w' := fun W a' c' h1 h2 => by
      have := pW x sl ix a' (M + 1) c' _ W hx (hk0.below h1) (hS0.below h1) h2 s0 s1 i0 i1
      have hWE : whE (acE x (sl / 4)).length sl ix (M + 1) = 32 := by unfold whE; rw [if_pos h, if_neg (by omega)]
      have hWS : whS x sl ix (fun j => decide (j < M)) (M + 1) = [] := by unfold whS; rw [hWE, if_neg (by omega)]
      unfold WhA at this
      rw [hWE, hWS] at this
      refine this.mono ?_
      rintro e' w' ⟨a, c, rfl, _, hb⟩
      exact ⟨a, c, rfl, trivial, hb⟩
    obtain ⟨hi1, hi2⟩ := cmF_inj (x := x) i0 h (seedV x (sl / 4) 1)
    rw [eM] at hof hi1 hi2 hmn
    obtain ⟨hHV, hCM⟩ := halves (acL_rise x.f11.z (sl / 4) x.f11.n) hi1 hi2 (fun j => decide (j < nb) && b j)
    have hHV' : Halves (whL (acE x (sl / 4)) (cmF (acE x (sl / 4)) (seedV x (sl / 4) 1) sl ix) (fun j => decide (j < nb) && b j) M) (whL (acE x (sl / 4)) (cmF (acE x (sl / 4)) (seedV x (sl / 4) 1) sl ix) (fun j => !(decide (j < nb) && b j)) M) (whL (acE x (sl / 4)) (cmF (acE x (sl / 4)) (seedV x (sl / 4) 1) sl ix) (fun _ => true) M) (chB (cmF (acE x (sl / 4)) (seedV x (sl / 4) 1) sl ix) (fun j => decide (j < nb) && b j) M) := hHV
    have hCM' : (whL (acE x (sl / 4)) (cmF (acE x (sl / 4)) (seedV x (sl / 4) 1) sl ix) (fun _ => true) M).length = M := hCM
    have hw1 := fun (W : World) a' c' (h1 : Below W0.heap.size W0 W) (h2 : Z.Bls W a' M c' (fun j => decide (j < nb) && b j)) => hwh W a' c' _ h1 h2
    have hw2 := fun (W : World) a' c' (h1 : Below W0.heap.size W0 W) (h2 : Z.Bls W a' M c' (fun j => !(decide (j < nb) && b j))) => hwh W a' c' _ h1 h2
    have hw3 := fun (W : World) a' c' (h1 : Below W0.heap.size W0 W) (h2 : Z.Bls W a' M c' (fun _ => true)) => hwh W a' c' _ h1 h2
    have hf1 : ∀ k, (fun j => decide (j < nb) && b j) k = (decide (k < nb) && b k) := fun _ => rfl
    generalize chB (cmF (acE x (sl / 4)) (seedV x (sl / 4) 1) sl ix) (fun j => decide (j < nb) && b j) M = p at hHV'
    generalize whL (acE x (sl / 4)) (cmF (acE x (sl / 4)) (seedV x (sl / 4) 1) sl ix) (fun _ => true) M = LC at hHV' hCM' hw3
    generalize whL (acE x (sl / 4)) (cmF (acE x (sl / 4)) (seedV x (sl / 4) 1) sl ix) (fun j => !(decide (j < nb) && b j)) M = LB at hHV' hw2
    generalize whL (acE x (sl / 4)) (cmF (acE x (sl / 4)) (seedV x (sl / 4) 1) sl ix) (fun j => decide (j < nb) && b j) M = LA at hHV' hw1
    generalize cmF (acE x (sl / 4)) (seedV x (sl / 4) 1) sl ix = F at hof
    generalize hff : (fun j => decide (j < nb) && b j) = f1 at hw1 hf1
    have hw2' : ∀ (W : World) a' c', Below W0.heap.size W0 W → Z.Bls W a' M c' (fun j => !f1 j) → Calls Tryd.prog 13 #[.agg (cel (sState x)), .int .u64 sl, .int .u64 ix, .slice a' M c'] W fun e' w' => ∃ a c, e' = .returned (.tuple #[.slice a LB.length c, .int .i64 0]) ∧ Nml w' a LB ∧ Below W.heap.size W w' := by rw [← hff]; exact hw2
    have hab : LA.length + LB.length = M := by rw [hHV'.a, hHV'.b, ← List.countP_eq_length_filter, ← List.countP_eq_length_filter, count_both, hCM']
    have hidx1 : ∀ k, k < M → p (LC.getD k 0) = true → (LC.take k).countP p < LA.length ∧ LA.getD ((LC.take k).countP p) 0 = LC.getD k 0 := fun k hk hp => by rw [hHV'.a]; exact filt_idx p LC k (by omega) hp
    have hidx2 : ∀ k, k < M → p (LC.getD k 0) = false → k - (LC.take k).countP p < LB.length ∧ LB.getD (k - (LC.take k).countP p) 0 = LC.getD k 0 := fun k hk hp => by
      have h1 := count_both p (LC.take k)
      rw [List.length_take, Nat.min_eq_left (by omega)] at h1
      rw [show k - (LC.take k).countP p = (LC.take k).countP (fun v => !p v) by omega, hHV'.b]
      exact filt_idx (fun v => !p v) LC k (by omega) (by rw [hp]; rfl)
    have hin : ∀ i, i < LA.length → p (LA.getD i 0) = true := fun i hi => by
      have := getD_mem LA i hi
      rw [hHV'.a] at this
      rw [hHV'.a]
      exact (List.mem_filter.1 this).2
    have hcs : ∀ k, k < M → (LC.take (k + 1)).countP p = (LC.take k).countP p + if p (LC.getD k 0) = true then 1 else 0 := fun k hk => by
      rw [take_snoc LC k (by omega), List.countP_append, List.countP_singleton]
    have hcl : ∀ k, k ≤ M → (LC.take k).countP p ≤ k := fun k hk => by
      have := List.countP_le_length (p := p) (l := LC.take k)
      rw [List.length_take] at this
      omega
    have hce : (LC.take M).countP p = LA.length := by rw [List.take_of_length_le (by omega), hHV'.a, List.countP_eq_length_filter]
    have hri2 : ∀ k, 0 < k → k < M → LC.getD (k - 1) 0 < LC.getD k 0 := fun k h0 hk => by
      have := List.pairwise_iff_getElem.1 hHV'.r (k - 1) k (by omega) (by omega) (by omega)
      rw [List.getD_eq_getElem?_getD, List.getD_eq_getElem?_getD, List.getElem?_eq_getElem (by omega), List.getElem?_eq_getElem (by omega)]
      exact this
    have M5 : M ≤ 65536 := by omega
    obtain ⟨NA, eNA⟩ : ∃ n, LA.length = n := ⟨_, rfl⟩
    obtain ⟨NB, eNB⟩ : ∃ n, LB.length = n := ⟨_, rfl⟩
    rw [eNA] at hab hidx1 hin hce hw1
    rw [eNB] at hab hidx2 hw2'
    rw [hCM'] at hw3
    have nA : ∀ (W : World) a, Nml W a LA → N64 W a NA (fun j => LA.getD j 0) := fun W a h => by rw [← eNA]; exact h
    have nB : ∀ (W : World) a, Nml W a LB → N64 W a NB (fun j => LB.getD j 0) := fun W a h => by rw [← eNB]; exact h
    have nC : ∀ (W : World) a, Nml W a LC → N64 W a M (fun j => LC.getD j 0) := fun W a h => by
      have h2 : N64 W a LC.length (fun j => LC.getD j 0) := h
      rw [hCM'] at h2
      exact h2
    have HOF := hid hof
    have HW1 := hid hw1
    have HW2 := hid hw2'
    have HW3 := hid hw3
    have HW9 := hid hw9
    have HI1 := hid hidx1
    have HI2 := hid hidx2
    have HIN := hid hin
    have HCS := hid hcs
    have HCL := hid hcl
    have HCE := hid hce
    have HR2 := hid hri2
    have HBL := hid hb0
    have HF1 := hid hf1
    have HNA := hid nA
    have HNB := hid nB
    have HNC := hid nC
    obtain ⟨ib, hib, hzb0, hzb1, hzb2⟩ := info_parts Z.infoB
    have HIB := hid (And.intro hib (And.intro hzb0 (And.intro hzb1 hzb2)))
    clear hof hwh hw9 hw1 hw2 hw2' hw3 hidx1 hidx2 hin hcs hcl hce hri2 hb0 hb hf1 hff nA nB nC hHV hHV' hCM hCM' hi1 hi2 eM hmn hlen hE h hB0 hW0 hld hw0 hw hx r0 haw hS0 hS pC pO pW hO hk0 hR hri eNA eNB hib hzb0 hzb1 hzb2
    go_enter Tryd.func5, Tryd.ntmps5
    go_upto_region 1 with fail
    rw [HW0.out]
    clear HW0
    go_upto_region 3 with (go_at_call 6; refine HAW.out.mono ?_; rintro e' w1 ⟨rfl, hb1⟩)
    have l1 := HLD.out w1 hb1
    go_upto_region 5 with (go_at_call 7; refine (HRI.out w1 hb1).mono ?_; rintro e' w2 ⟨rfl, hb2⟩)
    have hB2 := hb1.trans (hb2.mono hb1.size)
    have l2 := HLD.out w2 hB2
    have HB2 := hid hB2
    clear l1 hb1 hb2 hB2 HRI HAW
    go_upto_region 8 with (go_at_call 10; refine (HOF.out w2 HB2.out).mono ?_; rintro e' w5 ⟨a5, c5, rfl, hn5, hb5⟩)
    have hB5 := HB2.out.trans (hb5.mono HB2.out.size)
    have HB5 := hid hB5
    have hbl5 := HBL.out.below hB5
    have HBL5 := hid hbl5
    clear l2 hb5 hB5 hn5 hbl5 HB2 HOF HBL
    go_wp2
    go_loopw [11, 12, 13, 14] (fun u1 u2 u3 d wr => ∃ (k : Nat) (v1 v2 v3 : Value), k ≤ M ∧ u1 = v1 ∧ u2 = v2 ∧ u3 = v3 ∧ d = .int .i64 k ∧ B3 w5.heap.size wr v1 v2 v3 k k k f1 ∧ Below w5.heap.size w5 wr) (fun _ _ _ d _ => M - (intOf d).toNat)
    case atStart => exact ⟨0, _, _, _, by omega, rfl, rfl, rfl, rfl, ⟨World.ownsRow_nil _ _ _ _, World.ownsRow_nil _ _ _ _, World.ownsRow_nil _ _ _ _, fun b e => by (cases e), fun b e => by (cases e), fun b e => by (cases e)⟩, Below.refl _ _⟩
    case round =>
      obtain ⟨k, v1, v2, v3, hk, e1, e2, e3, rfl, h3, hw⟩ := hrel
      obtain rfl := e1.symm
      obtain rfl := e2.symm
      obtain rfl := e3.symm
      clear e1 e2 e3
      by_cases hkm : k < M
      · have k1 : (k : Int) < (M : Int) := by omega
        have k2 : (0 : Int) ≤ (k : Int) := by omega
        have hV := HF1.out k
        obtain ⟨V, eV⟩ : ∃ V, f1 k = V := ⟨_, rfl⟩
        have heV : V = f1 k := eV.symm
        rw [eV] at hV
        have HV := hid heV
        have H3 := hid h3
        have HWW := hid hw
        have hsz := hw.size
        have HSZ := hid hsz
        clear eV heV h3 hw hsz
        have hbd : ∃ q : Bool, (if k < nb then b k else false) = q := ⟨_, rfl⟩
        by_cases hkb : k < nb
        · obtain ⟨b1, o1, ea, hl1, hc1⟩ := Z.bls_at (HBL5.out.below HWW.out) k hkb
          subst ea
          have kb : (k : Int) < (nb : Int) := by omega
          have hVV : b k = V := by rw [hV]; simp [hkb]
          rw [hVV] at hc1
          clear hV hVV hl1 hbd
          go_upto_region 14 with (at_builtin; obtain ⟨hib, hzb0, hzb1, hzb2⟩ := HIB.out; go_loud (refine app_blk (wr.alloc (.cells #[.bool (V)] 4)) rfl _ _ 50 rfl w5.heap.size 4 ib (.bool false) 1 1 Tryd.underlying50 hib hzb0 hzb1 hzb2 rfl (by decide) v1 k (Z.bbl f1 k) rfl (H3.out.alloc _).o1 ⟨wr.heap.size, 0, none⟩ 1 1 [.bool (V)] rfl rfl (cell_one_new _ _ _) one1 (by unfold maxLen; omega) (by omega) (by have := HSZ.out; simp; omega) ?_); intro y0 x0 ho0 hg0 hb0; go_loud (have h0 := (H3.out.alloc _ |>.s1 HV.out) ho0 hg0 hb0); have hw0 := below_grown (HWW.out.alloc HSZ.out _) (H3.out.alloc _).o1 (by have := HSZ.out; simp; omega) hg0; clear hib hzb0 hzb1 hzb2 ho0 hg0 hb0)
          have HX0 := hid h0
          have HY0 := hid hw0
          clear h0 hw0
          replace HSZ := hid HY0.out.size
          go_upto_region 15 with (at_builtin; obtain ⟨hib, hzb0, hzb1, hzb2⟩ := HIB.out; go_loud (refine app_blk (x0.alloc (.cells #[.bool (!V)] 4)) rfl _ _ 50 rfl w5.heap.size 4 ib (.bool false) 1 1 Tryd.underlying50 hib hzb0 hzb1 hzb2 rfl (by decide) v2 k (Z.bbl (fun j => !f1 j) k) rfl (HX0.out.alloc _).o2 ⟨x0.heap.size, 0, none⟩ 1 1 [.bool (!V)] rfl rfl (cell_one_new _ _ _) one1 (by unfold maxLen; omega) (by omega) (by have := HSZ.out; simp; omega) ?_); intro y1 x1 ho1 hg1 hb1; go_loud (have h1 := (HX0.out.alloc _ |>.s2 (by rw [HV.out])) ho1 hg1 hb1); have hw1 := below_grown (HY0.out.alloc HSZ.out _) (HX0.out.alloc _).o2 (by have := HSZ.out; simp; omega) hg1; clear hib hzb0 hzb1 hzb2 ho1 hg1 hb1)
          have HX1 := hid h1
          have HY1 := hid hw1
          clear h1 hw1
          replace HSZ := hid HY1.out.size
          go_upto_region 11 with (at_builtin; obtain ⟨hib, hzb0, hzb1, hzb2⟩ := HIB.out; go_loud (refine app_blk (x1.alloc (.cells #[.bool (true)] 4)) rfl _ _ 50 rfl w5.heap.size 4 ib (.bool false) 1 1 Tryd.underlying50 hib hzb0 hzb1 hzb2 rfl (by decide) v3 k (Z.bbl (fun _ => true) k) rfl (HX1.out.alloc _).o3 ⟨x1.heap.size, 0, none⟩ 1 1 [.bool (true)] rfl rfl (cell_one_new _ _ _) one1 (by unfold maxLen; omega) (by omega) (by have := HSZ.out; simp; omega) ?_); intro y2 x2 ho2 hg2 hb2; go_loud (have h2 := (HX1.out.alloc _ |>.s3) ho2 hg2 hb2); have hw2 := below_grown (HY1.out.alloc HSZ.out _) (HX1.out.alloc _).o3 (by have := HSZ.out; simp; omega) hg2; clear hib hzb0 hzb1 hzb2 ho2 hg2 hb2)
          have HX2 := hid h2
          have HY2 := hid hw2
          clear h2 hw2
          replace HSZ := hid HY2.out.size
          go_wp2
          go_roundw
          case rel => exact ⟨k + 1, _, _, _, by omega, rfl, rfl, rfl, by go_num, HX2.out, HY2.out⟩
          case measure => simp [intOf]; omega
        · have kb : ¬ (k : Int) < (nb : Int) := by omega
          have hVV : V = false := by rw [hV]; simp [hkb]
          subst hVV
          clear hV hbd
          go_upto_region 14 with (at_builtin; obtain ⟨hib, hzb0, hzb1, hzb2⟩ := HIB.out; go_loud (refine app_blk (wr.alloc (.cells #[.bool (false)] 4)) rfl _ _ 50 rfl w5.heap.size 4 ib (.bool false) 1 1 Tryd.underlying50 hib hzb0 hzb1 hzb2 rfl (by decide) v1 k (Z.bbl f1 k) rfl (H3.out.alloc _).o1 ⟨wr.heap.size, 0, none⟩ 1 1 [.bool (false)] rfl rfl (cell_one_new _ _ _) one1 (by unfold maxLen; omega) (by omega) (by have := HSZ.out; simp; omega) ?_); intro y0 x0 ho0 hg0 hb0; go_loud (have h0 := (H3.out.alloc _ |>.s1 HV.out) ho0 hg0 hb0); have hw0 := below_grown (HWW.out.alloc HSZ.out _) (H3.out.alloc _).o1 (by have := HSZ.out; simp; omega) hg0; clear hib hzb0 hzb1 hzb2 ho0 hg0 hb0)
          have HX0 := hid h0
          have HY0 := hid hw0
          clear h0 hw0
          replace HSZ := hid HY0.out.size
          go_upto_region 15 with (at_builtin; obtain ⟨hib, hzb0, hzb1, hzb2⟩ := HIB.out; go_loud (refine app_blk (x0.alloc (.cells #[.bool (true)] 4)) rfl _ _ 50 rfl w5.heap.size 4 ib (.bool false) 1 1 Tryd.underlying50 hib hzb0 hzb1 hzb2 rfl (by decide) v2 k (Z.bbl (fun j => !f1 j) k) rfl (HX0.out.alloc _).o2 ⟨x0.heap.size, 0, none⟩ 1 1 [.bool (true)] rfl rfl (cell_one_new _ _ _) one1 (by unfold maxLen; omega) (by omega) (by have := HSZ.out; simp; omega) ?_); intro y1 x1 ho1 hg1 hb1; go_loud (have h1 := (HX0.out.alloc _ |>.s2 (by rw [← HV.out]; rfl)) ho1 hg1 hb1); have hw1 := below_grown (HY0.out.alloc HSZ.out _) (HX0.out.alloc _).o2 (by have := HSZ.out; simp; omega) hg1; clear hib hzb0 hzb1 hzb2 ho1 hg1 hb1)
          have HX1 := hid h1
          have HY1 := hid hw1
          clear h1 hw1
          replace HSZ := hid HY1.out.size
          go_upto_region 11 with (at_builtin; obtain ⟨hib, hzb0, hzb1, hzb2⟩ := HIB.out; go_loud (refine app_blk (x1.alloc (.cells #[.bool (true)] 4)) rfl _ _ 50 rfl w5.heap.size 4 ib (.bool false) 1 1 Tryd.underlying50 hib hzb0 hzb1 hzb2 rfl (by decide) v3 k (Z.bbl (fun _ => true) k) rfl (HX1.out.alloc _).o3 ⟨x1.heap.size, 0, none⟩ 1 1 [.bool (true)] rfl rfl (cell_one_new _ _ _) one1 (by unfold maxLen; omega) (by omega) (by have := HSZ.out; simp; omega) ?_); intro y2 x2 ho2 hg2 hb2; go_loud (have h2 := (HX1.out.alloc _ |>.s3) ho2 hg2 hb2); have hw2 := below_grown (HY1.out.alloc HSZ.out _) (HX1.out.alloc _).o3 (by have := HSZ.out; simp; omega) hg2; clear hib hzb0 hzb1 hzb2 ho2 hg2 hb2)
          have HX2 := hid h2
          have HY2 := hid hw2
          clear h2 hw2
          replace HSZ := hid HY2.out.size
          go_wp2
          go_roundw
          case rel => exact ⟨k + 1, _, _, _, by omega, rfl, rfl, rfl, by go_num, HX2.out, HY2.out⟩
          case measure => simp [intOf]; omega
      · obtain rfl : k = M := by omega
        obtain ⟨A1, C1, rfl, c11, c12, bl1, _⟩ := Z.owns_bls h3.o1
        obtain ⟨A2, C2, rfl, c21, c22, bl2, _⟩ := Z.owns_bls h3.o2
        obtain ⟨A3, C3, rfl, c31, c32, bl3, _⟩ := Z.owns_bls h3.o3
        have hB6 := HB5.out.trans (hw.mono HB5.out.size)
        have l6 := HLD.out wr hB6
        have ho3 : wr.ownsRow W0.heap.size 4 1 (.slice A3 k C3) k (Z.bbl (fun _ => true) k) := h3.o3.mono HB5.out.size
        have BL1 := hid bl1
        have BL2 := hid bl2
        have BL3 := hid bl3
        have HB6 := hid hB6
        have HO3 := hid ho3
        clear h3 hw bl1 bl2 bl3 hB6 ho3 HBL5
        go_upto_region 17 with (go_at_call 13; refine (HW1.out wr A1 C1 HB6.out BL1.out).mono ?_; rintro e' w6 ⟨a6, c6, rfl, hn6, hb6⟩)
        have hB7 := HB6.out.trans (hb6.mono HB6.out.size)
        have l7 := HLD.out w6 hB7
        have HN6 := hid (HNA.out _ _ hn6)
        have HB7 := hid hB7
        have HX6 := hid hb6
        clear l6 hn6 hB7 hb6 BL1 HNA
        go_upto_region 18 with (go_at_call 13; refine (HW2.out w6 A2 C2 HB7.out (BL2.out.below HX6.out)).mono ?_; rintro e' w7 ⟨a7, c7, rfl, hn7, hb7⟩)
        have hB8 := HB7.out.trans (hb7.mono HB7.out.size)
        have l8 := HLD.out w7 hB8
        have HN7 := hid (HNB.out _ _ hn7)
        have HB8 := hid hB8
        have HX7 := hid hb7
        clear l7 hn7 hB8 hb7 BL2 HNB
        go_upto_region 19 with (go_at_call 13; refine (HW3.out w7 A3 C3 HB8.out ((BL3.out.below HX6.out).below HX7.out)).mono ?_; rintro e' w8 ⟨a8, c8, rfl, hn8, hb8⟩)
        have hB9 := HB8.out.trans (hb8.mono HB8.out.size)
        have HN8 := hid (HNC.out _ _ hn8)
        have hn6 := (HN6.out.below HX7.out).below hb8
        have hn7 := HN7.out.below hb8
        have ho8 := own_below (own_below (own_below HO3.out HX6.out) HX7.out) hb8
        have HM6 := hid hn6
        have HM7 := hid hn7
        have HO8 := hid ho8
        have HB9 := hid hB9
        clear l8 hn8 hn6 hn7 ho8 hB9 hb8 HO3 HN6 HN7 HX6 HX7 BL3 HNC HB6 HB7 HB8 HW1 HW2 HW3
        have abI : (NA : Int) + (NB : Int) = (k : Int) := by omega
        go_upto_region 21 with fail
        go_wp2
        go_loopw [21, 22] (fun d e wr => ∃ j : Nat, j ≤ k ∧ d = .int .i64 (((LC.take j).countP p : Nat) : Int) ∧ e = .int .i64 j ∧ Below w8.heap.size w8 wr) (fun _ e _ => k - (intOf e).toNat)
        case atStart => exact ⟨0, by omega, rfl, rfl, Below.refl _ _⟩
        case round =>
          obtain ⟨j, hj, rfl, rfl, hw⟩ := hrel
          by_cases hjk : j < k
          · have j1 : (j : Int) < (k : Int) := by omega
            have j2 : (0 : Int) ≤ (j : Int) := by omega
            have hcl := HCL.out j (by omega)
            have hcs := HCS.out j hjk
            have hi1 := HI1.out j hjk
            have hi2 := HI2.out j hjk
            have hr2 := fun h => HR2.out j h hjk
            rcases HN8.out.below hw with h0 | ⟨b8, o8, e8, hl8, hc8⟩
            · omega
            subst e8
            have ck : wr.cell? ⟨b8, o8 + j, none⟩ = some (.int .u64 (LC.getD j 0)) := hc8 j hjk
            have cp : 0 < j → wr.cell? ⟨b8, o8 + (j - 1), none⟩ = some (.int .u64 (LC.getD (j - 1) 0)) := fun h => hc8 (j - 1) (by omega)
            obtain ⟨V, eV⟩ : ∃ V, LC.getD j 0 = V := ⟨_, rfl⟩
            obtain ⟨U, eU⟩ : ∃ U, LC.getD (j - 1) 0 = U := ⟨_, rfl⟩
            obtain ⟨i, ei⟩ : ∃ i, (LC.take j).countP p = i := ⟨_, rfl⟩
            rw [eV] at ck hi1 hi2 hcs hr2
            rw [eU] at cp hr2
            rw [ei] at hi1 hi2 hcs hcl ⊢
            clear hc8 hl8
            cases hp : p V
            · rw [hp] at hcs
              obtain ⟨q1, q2⟩ := hi2 hp
              obtain ⟨Dj, eD⟩ : ∃ D, j - i = D := ⟨_, rfl⟩
              rw [eD] at q1 q2
              have dI : (j : Int) - (i : Int) = (Dj : Int) := by omega
              have dw : IntKind.i64.wrap ((j : Int) - (i : Int)) = (Dj : Int) := by rw [dI, IntKind.wrap_i64]; omega
              have d1 : (Dj : Int) < (NB : Int) := by omega
              have d2 : decide ((NB : Int) ≤ (Dj : Int)) = false := decide_eq_false (by omega)
              have d3 : ¬ (NB : Int) ≤ (Dj : Int) := by omega
              have d4 : decide (NB ≤ Dj) = false := decide_eq_false (by omega)
              have d5 : ¬ NB ≤ Dj := by omega
              have d0 : (0 : Int) ≤ (Dj : Int) := by omega
              rcases HM7.out.below hw with h0 | ⟨b7, o7, e7, hl7, hc7⟩
              · omega
              subst e7
              have cb : wr.cell? ⟨b7, o7 + Dj, none⟩ = some (.int .u64 (LB.getD Dj 0)) := hc7 Dj q1
              rw [q2] at cb
              have hna : ∀ h : i < NA, ∃ V', LA.getD i 0 = V' ∧ V' ≠ V := fun h => ⟨_, rfl, fun e => by have := HIN.out i h; rw [e, hp] at this; cases this⟩
              have hm6 := HM6.out.below hw
              have HWW := hid hw
              have HCC := hid hcs
              have HEI := hid ei
              clear hcs hi1 hi2 hc7 hl7 eV eU hp q2 eD hw ei
              by_cases hia : i < NA
              · obtain ⟨V', eV', hne⟩ := hna hia
                rcases hm6 with h0 | ⟨b6, o6, e6, hl6, hc6⟩
                · omega
                subst e6
                have ca : wr.cell? ⟨b6, o6 + i, none⟩ = some (.int .u64 (LA.getD i 0)) := hc6 i hia
                rw [eV'] at ca
                have i1 : (i : Int) < (NA : Int) := by omega
                have i3 : decide ((i : Int) < (NA : Int)) = true := decide_eq_true i1
                have i2 : (0 : Int) ≤ (i : Int) := by omega
                have hne2 : ¬ V' = V := hne
                have hne3 : ¬ V = V' := fun e => hne e.symm
                clear hc6 hl6 hna eV' hne
                by_cases hj0 : j = 0
                · have j0 : j = 0 := hj0
                  subst j0
                  obtain rfl : i = 0 := by omega
                  obtain rfl : Dj = 0 := by omega
                  have ck1 : wr.cell? ⟨b8, o8, none⟩ = some (.int .u64 V) := ck
                  have cb1 : wr.cell? ⟨b7, o7, none⟩ = some (.int .u64 V) := cb
                  have d6 : (0 : Int) < (NB : Int) := by omega
                  have d7 : ¬ (NB : Int) ≤ 0 := by omega
                  have d8 : ¬ NB ≤ 0 := by omega
                  have d9 : ¬ NB = 0 := by omega
                  have ca1 : wr.cell? ⟨b6, o6, none⟩ = some (.int .u64 V') := ca
                  have i6 : (0 : Int) < (NA : Int) := by omega
                  have i7 : 0 < NA := by omega
                  clear cp hr2 hj0
                  go_upto_region 25 with fail
                  go_quiet (fail)
                  go_upto_region 27 with fail
                  go_quiet (fail)
                  go_upto_region 29 with fail
                  go_quiet (fail)
                  go_wp2
                  go_roundw
                  case rel => exact ⟨0 + 1, by omega, by rw [HCC.out]; go_num, by go_num, below_drewN HWW.out _⟩
                  case measure => simp [intOf]; omega
                · have j0 : 0 < j := by omega
                  have cpp := cp j0
                  have rr := hr2 j0
                  have jI : (j : Int) - 1 = ((j - 1 : Nat) : Int) := by omega
                  have jw : IntKind.i64.wrap ((j : Int) - 1) = ((j - 1 : Nat) : Int) := by rw [jI, IntKind.wrap_i64]; omega
                  have jj : ((j - 1 : Nat) : Int) < (k : Int) := by omega
                  have jk : (0 : Int) ≤ ((j - 1 : Nat) : Int) := by omega
                  have jz : (0 : Int) < (j : Int) := by omega
                  have jd : decide ((0 : Int) < (j : Int)) = true := decide_eq_true jz
                  clear cp hr2
                  go_upto_region 25 with fail
                  go_quiet (fail)
                  go_upto_region 27 with fail
                  go_quiet (fail)
                  go_upto_region 29 with fail
                  go_quiet (fail)
                  go_wp2
                  go_roundw
                  case rel => exact ⟨j + 1, by omega, by rw [HCC.out]; go_num, by go_num, below_drewN HWW.out _⟩
                  case measure => simp [intOf]; omega
              · have i1 : ¬ (i : Int) < (NA : Int) := by omega
                have i3 : decide ((i : Int) < (NA : Int)) = false := decide_eq_false i1
                clear hna hm6
                by_cases hj0 : j = 0
                · have j0 : j = 0 := hj0
                  subst j0
                  obtain rfl : i = 0 := by omega
                  obtain rfl : Dj = 0 := by omega
                  have ck1 : wr.cell? ⟨b8, o8, none⟩ = some (.int .u64 V) := ck
                  have cb1 : wr.cell? ⟨b7, o7, none⟩ = some (.int .u64 V) := cb
                  have d6 : (0 : Int) < (NB : Int) := by omega
                  have d7 : ¬ (NB : Int) ≤ 0 := by omega
                  have d8 : ¬ NB ≤ 0 := by omega
                  have d9 : ¬ NB = 0 := by omega
                  clear cp hr2 hj0
                  go_upto_region 25 with fail
                  go_quiet (fail)
                  go_upto_region 27 with fail
                  go_quiet (fail)
                  go_upto_region 29 with fail
                  go_quiet (fail)
                  go_wp2
                  go_roundw
                  case rel => exact ⟨0 + 1, by omega, by rw [HCC.out]; go_num, by go_num, below_drewN HWW.out _⟩
                  case measure => simp [intOf]; omega
                · have j0 : 0 < j := by omega
                  have cpp := cp j0
                  have rr := hr2 j0
                  have jI : (j : Int) - 1 = ((j - 1 : Nat) : Int) := by omega
                  have jw : IntKind.i64.wrap ((j : Int) - 1) = ((j - 1 : Nat) : Int) := by rw [jI, IntKind.wrap_i64]; omega
                  have jj : ((j - 1 : Nat) : Int) < (k : Int) := by omega
                  have jk : (0 : Int) ≤ ((j - 1 : Nat) : Int) := by omega
                  have jz : (0 : Int) < (j : Int) := by omega
                  have jd : decide ((0 : Int) < (j : Int)) = true := decide_eq_true jz
                  clear cp hr2
                  go_upto_region 25 with fail
                  go_quiet (fail)
                  go_upto_region 27 with fail
                  go_quiet (fail)
                  go_upto_region 29 with fail
                  go_quiet (fail)
                  go_wp2
                  go_roundw
                  case rel => exact ⟨j + 1, by omega, by rw [HCC.out]; go_num, by go_num, below_drewN HWW.out _⟩
                  case measure => simp [intOf]; omega
            · rw [hp] at hcs
              obtain ⟨q1, q2⟩ := hi1 hp
              rcases HM6.out.below hw with h0 | ⟨b6, o6, e6, hl6, hc6⟩
              · omega
              subst e6
              have ca : wr.cell? ⟨b6, o6 + i, none⟩ = some (.int .u64 (LA.getD i 0)) := hc6 i q1
              rw [q2] at ca
              have i1 : (i : Int) < (NA : Int) := by omega
              have i3 : decide ((i : Int) < (NA : Int)) = true := decide_eq_true i1
              have i2 : (0 : Int) ≤ (i : Int) := by omega
              have HWW := hid hw
              have HCC := hid hcs
              have HEI := hid ei
              clear hcs hi1 hi2 hc6 hl6 eV eU hp q2 hw ei
              by_cases hj0 : j = 0
              · have j0 : j = 0 := hj0
                subst j0
                obtain rfl : i = 0 := by omega
                have ck1 : wr.cell? ⟨b8, o8, none⟩ = some (.int .u64 V) := ck
                have ca1 : wr.cell? ⟨b6, o6, none⟩ = some (.int .u64 V) := ca
                have i6 : (0 : Int) < (NA : Int) := by omega
                have i7 : 0 < NA := by omega
                clear cp hr2 hj0
                go_upto_region 25 with fail
                go_quiet (fail)
                go_upto_region 27 with fail
                go_quiet (fail)
                go_wp2
                go_roundw
                case rel => exact ⟨0 + 1, by omega, by rw [HCC.out]; go_num, by go_num, below_drewN HWW.out _⟩
                case measure => simp [intOf]; omega
              · have j0 : 0 < j := by omega
                have cpp := cp j0
                have rr := hr2 j0
                have jI : (j : Int) - 1 = ((j - 1 : Nat) : Int) := by omega
                have jw : IntKind.i64.wrap ((j : Int) - 1) = ((j - 1 : Nat) : Int) := by rw [jI, IntKind.wrap_i64]; omega
                have jj : ((j - 1 : Nat) : Int) < (k : Int) := by omega
                have jk : (0 : Int) ≤ ((j - 1 : Nat) : Int) := by omega
                have jz : (0 : Int) < (j : Int) := by omega
                have jd : decide ((0 : Int) < (j : Int)) = true := decide_eq_true jz
                clear cp hr2
                go_upto_region 25 with fail
                go_quiet (fail)
                go_upto_region 27 with fail
                go_quiet (fail)
                go_wp2
                go_roundw
                case rel => exact ⟨j + 1, by omega, by rw [HCC.out]; go_num, by go_num, below_drewN HWW.out _⟩
                case measure => simp [intOf]; omega
          · obtain rfl : j = k := by omega
            have hce := HCE.out
            rw [hce]
            have hBw := HB9.out.trans (hw.mono HB9.out.size)
            have hBd : Below W0.heap.size W0 wr.drew := hBw.drew
            have ho9 : wr.ownsRow W0.heap.size 4 1 (.slice A3 j C3) j (Z.bbl (fun _ => true) j) := own_below HO8.out hw
            have HO3 : Hid (wr.drew.ownsRow W0.heap.size 4 1 (.slice A3 j C3) j (Z.bbl (fun _ => true) j)) := hid (own_below ho9 ((Below.refl _ _).drew))
            clear hw ho9 hce HO8 hBw
            go_upto_region 31 with fail
            refine wp_region_noPanic ?_
            refine wp_region_held_drew (S := fun W => Below W0.heap.size W0 W) (by kernel_rfl) (hBd) (fun hHeld => ?_)
            refine tk 0 (v := ?v1) ?y1 hHeld ?r1
            case y1 => intro w hSw; have ld := HLD.out _ hSw; go_simp; try with_reducible rfl
            refine tk 1 (v := ?v2) ?y2 hHeld ?r2
            case y2 => intro w hSw; go_simp; try with_reducible rfl
            refine tk 2 (v := ?v3) ?y3 hHeld ?r3
            case y3 => intro w hSw; go_simp; try with_reducible rfl
            refine tk 3 (v := ?v4) ?y4 hHeld ?r4
            case y4 => intro w hSw; go_simp; try with_reducible rfl
            try simp only [Act.put, List.setIfInBounds_toArray, List.set_cons_zero, List.set_cons_succ, Array.toArray_toList, List.getElem_toArray, List.getElem_cons_zero, List.getElem_cons_succ]
            refine wpAnyH_ready (rs := [4]) (by kernel_rfl) (by simp) ?_
            refine AllReadyH.cons rfl (fun K hK => ?_) AllReadyH.nil
            go_simp
            have hBe : Below W0.heap.size W0 (wr.drew.alloc (.cells #[.bool false] 4)) := hBd.alloc hBd.size _
            refine hK.out _ _ (hBe) (fun hHeld => ?_)
            clear hK K
            try simp only [Act.put, List.setIfInBounds_toArray, List.set_cons_zero, List.set_cons_succ, Array.toArray_toList, List.getElem_toArray, List.getElem_cons_zero, List.getElem_cons_succ]
            refine wpAnyH_ready (rs := [5]) (by kernel_rfl) (by simp) ?_
            refine AllReadyH.cons rfl (fun K hK => ?_) AllReadyH.nil
            obtain ⟨ib, hib, hzb0, hzb1, hzb2⟩ := info_parts Z.infoB
            refine wp_append_own _ _ _ 50 rfl W0.heap.size 4 ib (.bool false) 1 1 Tryd.underlying50 hib hzb0 hzb1 hzb2 rfl (by decide) (.slice A3 j C3) j (Z.bbl (fun _ => true) j) rfl (HO3.out.alloc _) ⟨wr.drew.heap.size, 0, none⟩ 1 1 [.bool false] rfl rfl (cell_one_new _ _ _) (fun u hu => by simp at hu; subst hu; rfl) (by unfold maxLen; omega) (by omega) hBe.size (fun v9 w9 ho9 hg9 _ => ?_)
            obtain ⟨A9, C9, e9⟩ := owns_form ho9
            subst e9
            have hb9 := below_grown hBe (HO3.out.alloc _) hBe.size hg9
            have hbl9 : Z.Bls w9 A9 (j + 1) C9 (fun q => decide (q < j)) := bls_more ho9
            refine hK.out _ _ (hb9) (fun hHeld => ?_)
            clear hK K
            try simp only [Act.put, List.setIfInBounds_toArray, List.set_cons_zero, List.set_cons_succ, Array.toArray_toList, List.getElem_toArray, List.getElem_cons_zero, List.getElem_cons_succ]
            refine wpAnyH_ready (rs := [6]) (by kernel_rfl) (by simp) ?_
            refine AllReadyH.cons rfl (fun K hK => ?_) AllReadyH.nil
            go_simp
            refine (HW9.out w9 A9 C9 hb9 hbl9).mono ?_
            rintro e' w10 ⟨a10, c10, rfl, hn10, hb10⟩
            dsimp only
            have hB10 : Below W0.heap.size W0 w10 := hb9.trans (hb10.mono hb9.size)
            refine hK.out _ _ (hB10) (fun hHeld => ?_)
            clear hK K
            try simp only [Act.put, List.setIfInBounds_toArray, List.set_cons_zero, List.set_cons_succ, Array.toArray_toList, List.getElem_toArray, List.getElem_cons_zero, List.getElem_cons_succ]
            refine tk 7 (v := ?v5) ?y5 hHeld ?r5
            case y5 => intro w hSw; go_simp; try with_reducible rfl
            refine tk 8 (v := ?v6) ?y6 hHeld ?r6
            case y6 => intro w hSw; go_simp; try with_reducible rfl
            refine tk 9 (v := ?v7) ?y7 hHeld ?r7
            case y7 => intro w hSw; go_simp; try with_reducible rfl
            refine tk 10 (v := ?v8) ?y8 hHeld ?r8
            case y8 => intro w hSw; go_simp; try with_reducible rfl
            refine tk 11 (v := ?v9) ?y9 hHeld ?r9
            case y9 => intro w hSw; go_simp; try with_reducible rfl
            try simp only [Act.put, List.setIfInBounds_toArray, List.set_cons_zero, List.set_cons_succ, Array.toArray_toList, List.getElem_toArray, List.getElem_cons_zero, List.getElem_cons_succ]
            refine wpAnyH_done (by kernel_rfl) ?_ _
            refine NoPanic.normal ?_
            go_wp2
            go_ret
            exact ⟨rfl, HB.out.trans (hB10.mono HB.out.size)⟩
  · have hE : cmE (acE x (sl / 4)).length ix = 1 := by unfold cmE; rw [if_neg h]
    rw [hE] at hof
    have HOF := hid hof
    clear hof hb hb0 hri hB0 hW0 hld hw0 hw hx r0 haw hS0 hS pC pO pW hO hk0 hR hmn hlen hE
    go_enter Tryd.func5, Tryd.ntmps5
    go_upto_region 1 with fail
    rw [HW0.out]
    clear HW0
    go_upto_region 3 with (go_at_call 6; refine HAW.out.mono ?_; rintro e' w1 ⟨rfl, hb1⟩)
    have l1 := HLD.out w1 hb1
    go_upto_region 5 with (go_at_call 7; refine (HRI.out w1 hb1).mono ?_; rintro e' w2 ⟨rfl, hb2⟩)
    have hB2 := hb1.trans (hb2.mono hb1.size)
    have l2 := HLD.out w2 hB2
    have HB2 := hid hB2
    clear l1 hb1 hb2 hB2
    go_wp2_with (go_at_call 10; refine (HOF.out w2 HB2.out).mono ?_; rintro e' w5 ⟨a5, c5, rfl, hn5, hb5⟩)
    go_ret
    exact ⟨rfl, HB.out.trans ((HB2.out.trans (hb5.mono HB2.out.size)).mono HB.out.size)⟩

end Go.Proofs.YtenhgoclfljjlaaDoor
