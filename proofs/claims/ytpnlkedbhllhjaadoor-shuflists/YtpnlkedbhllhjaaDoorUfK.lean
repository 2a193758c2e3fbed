/-
  What ShufLists answers.
-/
import Derived.Test.YtpnlkedbhllhjaaDoorUfJ
namespace Go.Proofs.YtpnlkedbhllhjaaDoor
open Go.RowKit
set_option linter.unusedVariables false
set_option linter.unusedSimpArgs false

def sl30 (x : Value) (lo hi : Option Value) : Sem Value := Instr.sliceAt 30 x lo hi none
theorem sl30_eq (x : Value) (lo hi : Option Value) : Instr.sliceAt 30 x lo hi none = sl30 x lo hi := rfl
theorem sl30_run (W : World) (ao : Option Addr) (len cap hi : Nat) (h2 : hi ≤ cap) :
    (sl30 (.slice ao len cap) none (some (.int .i64 (hi : Int)))).run Tryd.prog W = .ok (.slice ao hi cap) W := by
  obtain ⟨i, hi8, _, hz, _⟩ := info_parts info64
  have b1 : ∀ (k n : Nat) (c : BoundsCode), k ≤ n → (Instr.sliceBound (.int .i64 (k : Int)) n c).run Tryd.prog W = .ok k W := by
    intro k n c hk
    have h0 : (k : Int) ≤ (n : Int) := by omega
    simp [Instr.sliceBound, asIntOf, h0]
  have c2 := fun c => b1 hi cap c h2
  unfold sl30 Instr.sliceAt
  simp [run_underlying Tryd.underlying30, Instr.slice, Instr.sliceBounds, c2, sizeOf, typeInfo, hi8, hz]
  intro _
  cases ao with
  | none => rfl
  | some x => simp [Addr.add]
theorem n64_part {w : World} {a : Option Addr} {n k : Nat} {f : Nat → Int} (h : N64 w a n f) (hk : k ≤ n) : N64 w a k f := by
  rcases h with h | ⟨b, off, h1, h2, h3⟩
  · exact .inl (by omega)
  · exact .inr ⟨b, off, h1, h2, fun j hj => h3 j (by omega)⟩

attribute [local go_sem ↓] sv24_eq lv24_eq sv8_eq bd27_eq sl30_eq

set_option maxRecDepth 20000 in
set_option maxHeartbeats 2000000 in
theorem lists_any (s : Nat → Int) (a : Option Addr) (n cap : Nat) (f : Nat → Int) (w : World) (hs : ∀ j, j < 32 → 0 ≤ s j ∧ s j < 256) (ha : L64 w a n cap f) (hnm : n ≤ 9223372036854775807) (hS : Sh w) (hC : Tab w 0 64 KW) :
    Calls Tryd.prog 4 #[.slice a n cap, .agg (vs .u8 32 s)] w fun e w' => e = .returned (.bool true) ∧ Below w.heap.size w w' := by
  obtain ⟨W0, hW0⟩ : ∃ W, w.alloc (.cells (vs .u8 32 s) 24) = W := ⟨_, rfl⟩
  have r0 : W0.heap[w.heap.size]? = some (.cells (vs .u8 32 s) 24) := by rw [← hW0]; exact heap_new rfl
  have hB0 : Below w.heap.size w W0 := by rw [← hW0]; exact (Below.refl _ _).alloc (Nat.le_refl _) _
  have z0 : w.heap.size < W0.heap.size := (Array.getElem?_eq_some_iff.1 r0).1
  have hS0 := hS.below hB0
  have hC0 := hC.below hB0
  have ha0 := ha.below hB0
  have hl : ∀ W : World, Below W0.heap.size W0 W → (lv24 ⟨w.heap.size, 0, none⟩).run Tryd.prog W = .ok (.agg (vs .u8 32 s)) W := fun W h => lv24_run ((h.block _ z0).trans r0)
  have haw := fun (W : World) (h : Below W0.heap.size W0 W) => awake_any W (hS0.below h)
  have HL := hid hl
  have HAW := hid haw
  have HB0 := hid hB0
  have HW0 := hid hW0
  clear hl haw hB0 hW0 r0 ha hS hC
  by_cases hlong : 600 < n
  · have d1 : (600 : Int) < (n : Int) := by omega
    clear ha0 hS0 hC0
    go_enter Tryd.func4, Tryd.ntmps4
    go_upto_region 1 with fail
    rw [HW0.out]
    clear HW0
    go_wp2_with (go_at_call 8; refine (HAW.out _ (Below.refl _ _)).mono ?_; rintro e w1 ⟨rfl, hb1⟩)
    go_ret
    exact ⟨rfl, HB0.out.trans (hb1.mono (by omega))⟩
  · have d1 : ¬ (600 : Int) < (n : Int) := by omega
    have hlist : ∀ (W : World) a' c', Below W0.heap.size W0 W → N64 W a' n f → Calls Tryd.prog 13 #[.slice a' n c', .agg (vs .u8 32 s)] W fun e w' => ∃ a2 c2, e = .returned (.tuple #[.slice a2 n c2, .int .i64 0]) ∧ Below W.heap.size W w' ∧ N64 w' a2 n fun j => f (plV s n 6 j).toNat := fun W a' c' hW hN => list_any s a' n c' f W hs hN (by omega) (hS0.below hW)
    have hrlist : ∀ (W : World), Below W0.heap.size W0 W → Calls Tryd.prog 14 #[.slice a n cap, .agg (vs .u8 32 s)] W fun e w' => ∃ a2 c2, e = .returned (.tuple #[.slice a2 n c2, .int .i64 0]) ∧ Below W.heap.size W w' ∧ N64 w' a2 n fun j => f (plV s n 6 j).toNat := fun W hW => rlist_any s a n cap f W hs (ha0.n64.below hW) (by omega) (hC0.below hW)
    obtain ⟨G, hG⟩ : ∃ G : Nat → Int, G = fun j : Nat => f (plV s n 6 (j : Int)).toNat := ⟨_, rfl⟩
    rw [← hG] at hlist hrlist
    have HLI := hid hlist
    have HRL := hid hrlist
    obtain ⟨F, hF⟩ : ∃ F : Nat → Int, F = fun j => if j < n then f j else 7 := ⟨_, rfl⟩
    have hF0 : ∀ j, j < n → f j = F j := fun j hj => by rw [hF]; simp [hj]
    have hF7 : (7 : Int) = F n := by rw [hF]; simp
    have haF : L64 W0 a n cap F := by
      rcases ha0 with h | h | ⟨b, off, h1, h2, h3⟩
      · exact .inl h
      · exact .inr (.inl h)
      · exact .inr (.inr ⟨b, off, h1, h2, fun j hj => by rw [h3 j hj, hF0 j hj]⟩)
    have HAF := hid haF
    have HF0 := hid hF0
    have HF7 := hid hF7
    have HAN := hid ha0.n64
    clear hlist hrlist hG hF hF0 hF7 haF ha0 hs hS0 hC0
    go_enter Tryd.func4, Tryd.ntmps4
    go_upto_region 1 with fail
    rw [HW0.out]
    clear HW0
    go_upto_region 5 with (go_at_call 8; refine (HAW.out _ (Below.refl _ _)).mono ?_; rintro e w1 ⟨rfl, hb1⟩)
    have hz1 := hb1.size
    have s1 := fun (W : World) ao len (C : Nat) (h : n ≤ C) => sl30_run W ao len C n h
    have HB1 := hid hb1
    have HS1 := hid s1
    clear hb1 s1
    go_upto_region 6 with (first
      | (at_builtin; (refine wpList_append_l64 _ rfl _ _ rfl w1.heap.size _ 0 [] rfl (World.ownsRow_made _ #[] 0 (Nat.le_refl _) (Nat.zero_le _) rfl) a n cap F rfl (HAF.out.below (HB1.out.alloc hz1 _)) (by omega) (by simp) ?_); intro v2 w2 ho2 hg2; rw [Nat.zero_add, List.nil_append] at ho2)
      | (at_builtin; (refine wpList_append_n64 w2 rfl _ _ rfl w1.heap.size v2 n F 7 rfl ho2 rfl HF7.out (by omega) (by have := hg2.size; simp at this; omega) ?_); intro g3 C3 w3 ho3 hg3; have s3 := HS1.out w3 (some ⟨g3, 0, none⟩) (n + 1) C3 (by rcases ho3.2 with ⟨h1, _⟩ | ⟨_, _, _, h1, _, _, h2, _⟩ <;> cases h1; omega)))
    have hb2 : Below w1.heap.size w1 w2 := below_grown ((Below.refl _ _).alloc (Nat.le_refl _) _) (World.ownsRow_made _ #[] 0 (Nat.le_refl _) (Nat.zero_le _) rfl) (by simp) hg2
    have hb3 : Below w1.heap.size w1 w3 := below_grown hb2 ho2 hb2.size hg3
    obtain ⟨a3, C3', e3, hC3, hC3m, hn3⟩ := own_n64 ho3
    cases e3
    have hB3 : Below W0.heap.size W0 w3 := HB1.out.trans (hb3.mono hz1)
    have hn3f : N64 w3 (some ⟨g3, 0, none⟩) n f := (n64_part hn3 (by omega)).congr (fun j hj => (HF0.out j hj).symm)
    have hN3 := hn3
    have l3 := HL.out w3 hB3
    have HB3 := hid hB3
    have HN3 := hid hN3
    have HN3F := hid hn3f
    clear hb2 hb3 hg2 hg3 ho2 ho3 hB3 hn3f hn3 hN3 HAF HAW HB1 HS1 s3
    go_upto_region 7 with (go_at_call 13; refine (HLI.out w3 _ _ HB3.out HN3F.out).mono ?_; rintro e w4 ⟨a4, c4, rfl, hb4, hn4⟩)
    have hB4 := HB3.out.trans (hb4.mono HB3.out.size)
    have h34 := HN3.out.below hb4
    have h3f4 := HN3F.out.below hb4
    have l4 := HL.out w4 hB4
    have HB4 := hid hB4
    have HN4 := hid hn4
    clear l3 HB3 HN3 HN3F hB4 hn4 hb4
    have HN3 := hid h34
    have HN3F := hid h3f4
    clear h34 h3f4
    go_upto_region 8 with (go_at_call 14; refine (HRL.out w4 HB4.out).mono ?_; rintro e w5 ⟨a5, c5, rfl, hb5, hn5⟩)
    have hB5 := HB4.out.trans (hb5.mono HB4.out.size)
    have hq1 := same_true a4 a5 n c4 c5 G w5 (HN4.out.below hb5) hn5 hnm
    have hq2 : ∀ W : World, Below w5.heap.size w5 W → Calls Tryd.prog 15 #[.slice (some ⟨g3, 0, none⟩) n C3, .slice a n cap] W fun e w' => e = .returned (.bool true) ∧ Below W.heap.size W w' := fun W hW => same_true (some ⟨g3, 0, none⟩) a n C3 cap f W ((HN3F.out.below hb5).below hW) ((HAN.out.below hB5).below hW) hnm
    have hc5 : w5.cell? ⟨g3, n, none⟩ = some (.int .u64 7) := by
      rcases HN3.out.below hb5 with h | ⟨b, off, h1, _, h3⟩
      · omega
      · cases h1
        have := h3 n (by omega)
        rw [Nat.zero_add] at this
        rw [this, ← HF7.out]
    have hg5 : g3 < w5.heap.size := by
      rcases HN3.out.below hb5 with h | ⟨b, off, h1, h2, _⟩
      · omega
      · cases h1
        exact h2
    have HQ1 := hid hq1
    have HQ2 := hid hq2
    have HC5 := hid hc5
    have HB5 := hid hB5
    have n0 : (0 : Int) ≤ (n : Int) := by omega
    have n1 : (n : Int) ≤ 600 := by omega
    have nn : ((n : Int) + 1) = ((n + 1 : Nat) : Int) := by omega
    have s5 := fun W : World => sl30_run W (some ⟨g3, 0, none⟩) n C3 (n + 1) (by omega)
    clear hq1 hq2 hc5 hB5 HN4 HN3 HN3F hb5 hn5 HB4 HLI HRL l4 HF0 HF7 HAN
    rw [← nn] at s5
    clear nn
    have n2 : (n : Int) < (n : Int) + 1 := by omega
    go_upto_region 9 with (first
      | (go_at_call 15; refine (HQ2.out w6 hb6).mono ?_; rintro e w7 ⟨rfl, hb7⟩; have c7 : w7.cell? ⟨g3, n, none⟩ = some (.int .u64 7) := (below_cell hb7 (Nat.lt_of_lt_of_le hg5 hb6.size)).trans ((below_cell hb6 hg5).trans HC5.out))
      | (go_at_call 15; refine HQ1.out.mono ?_; rintro e w6 ⟨rfl, hb6⟩))
    go_ret
    exact ⟨rfl, HB0.out.trans ((HB5.out.trans ((hb6.trans (hb7.mono hb6.size)).mono HB5.out.size)).mono (by omega))⟩

end Go.Proofs.YtpnlkedbhllhjaaDoor
