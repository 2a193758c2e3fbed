/-
  Levels of a tree: which nodes stand over leaves; what a row makes of the row below it.
  What a tree remembers, between its calls.
  Steps of reckon: a flag cleared, the changed leaves handed out, blocks of others written.
  The places of reckon: sorted, above, a row reckoned at them.
  One level of reckon.
  What reckon leaves.
-/
import Derived.Test.YtjimdkpppgjokaaDoorTsC
import Derived.Test.YtjimdkpppgjokaaDoorMkR
import Derived.Lib.RowBridge
namespace Go.Proofs.YtjimdkpppgjokaaDoor
open Go.RowKit
set_option linter.unusedVariables false
set_option linter.unusedSimpArgs false

theorem up_eq (n : Nat) : ∀ d, up n d = (n + (2 ^ d - 1)) / 2 ^ d
  | 0 => by simp [up]
  | d + 1 => by
    have ih := up_eq n d
    have hp : 0 < 2 ^ d := Nat.two_pow_pos d
    show (up n d + 1) / 2 = _
    rw [ih, Nat.pow_succ, ← Nat.div_div_eq_div_mul]
    have e : n + (2 ^ d * 2 - 1) = (n + (2 ^ d - 1)) + 2 ^ d := by omega
    rw [e, Nat.add_div_right _ hp]
/-- A node stands over leaves just where its first leaf is one. -/
theorem lt_up (n d i : Nat) : i < up n d ↔ i * 2 ^ d < n := by
  have hp : 0 < 2 ^ d := Nat.two_pow_pos d
  rw [up_eq]
  constructor
  · intro h
    have h1 := (Nat.le_div_iff_mul_le hp).1 (Nat.succ_le_of_lt h)
    rw [Nat.succ_mul] at h1
    generalize i * 2 ^ d = A at h1 ⊢
    generalize 2 ^ d = B at h1 hp
    omega
  · intro h
    refine Nat.lt_of_succ_le ((Nat.le_div_iff_mul_le hp).2 ?_)
    rw [Nat.succ_mul]
    generalize i * 2 ^ d = A at h ⊢
    generalize 2 ^ d = B at hp ⊢
    omega
theorem div_lt_up (n d m : Nat) (h : m < n) : m / 2 ^ d < up n d := by
  rw [lt_up]
  exact Nat.lt_of_le_of_lt (Nat.div_mul_le_self m (2 ^ d)) h
theorem up_mono (a b d : Nat) (h : a ≤ b) : up a d ≤ up b d := by
  by_cases hle : up a d ≤ up b d
  · exact hle
  · have h1 : up b d < up a d := by omega
    have h2 := (lt_up a d (up b d)).1 h1
    have h3 : ¬ up b d < up b d := Nat.lt_irrefl _
    exact absurd ((lt_up b d (up b d)).2 (by omega)) h3
/-- From the old row's end on each node has a new leaf below it: its first. -/
theorem node_new (a b d i : Nat) (h1 : up a d ≤ i) (h2 : i < up b d) : ∃ m, a ≤ m ∧ m < b ∧ m / 2 ^ d = i := by
  have hp : 0 < 2 ^ d := Nat.two_pow_pos d
  refine ⟨i * 2 ^ d, ?_, (lt_up b d i).1 h2, Nat.mul_div_cancel _ hp⟩
  by_cases h : a ≤ i * 2 ^ d
  · exact h
  · have := (lt_up a d i).2 (by omega)
    omega

/-- A row that is right tells the nodes of its level. -/
theorem gt32_nd (f g : Nat → Int) (n e : Nat) (hr : ∀ i, i < up n e → ∀ j, j < 32 → rt32 g i j = nd f n e i j) (i j : Nat) (hj : j < 32) : gt32 g (up n e) e i j = nd f n e i j := by
  unfold gt32
  by_cases h : i < up n e
  · rw [if_pos h]
    exact hr i h j hj
  · rw [if_neg h, nd_zero f n e i (by omega)]
/-- What is reckoned out of a right row is right. -/
theorem abv_nd (f g : Nat → Int) (n e : Nat) (hr : ∀ i, i < up n e → ∀ j, j < 32 → rt32 g i j = nd f n e i j) (p j : Nat) (hj : j < 32) : abv g (up n e) e p j = nd f n (e + 1) p j := by
  unfold abv
  exact tw_congr (fun j hj => gt32_nd f g n e hr _ j hj) (fun j hj => gt32_nd f g n e hr _ j hj) j hj
/-- The lowest row is right. -/
theorem row0_nd (f : Nat → Int) (n : Nat) (i : Nat) (hi : i < up n 0) (j : Nat) : rt32 f i j = nd f n 0 i j := by
  have : i < n := hi
  unfold nd
  rw [if_pos this]
/-- Nodes with no changed leaf below them are as they were. -/
theorem nd_kept (f g : Nat → Int) (n n' d i : Nat) (h : ∀ m, m / 2 ^ d = i → ∀ j, j < 32 → nd f n 0 m j = nd g n' 0 m j) (j : Nat) (hj : j < 32) : nd f n d i j = nd g n' d i j := by
  have hp : 0 < 2 ^ d := Nat.two_pow_pos d
  refine nd_congr f g n n' d i i (fun t ht j hj => h (i * 2 ^ d + t) ?_ j hj) j hj
  rw [Nat.mul_comm, Nat.mul_add_div hp, Nat.div_eq_of_lt ht, Nat.add_zero]

end Go.Proofs.YtjimdkpppgjokaaDoor

namespace Go.Proofs.YtjimdkpppgjokaaDoor
open Go.RowKit
set_option linter.unusedVariables false
set_option linter.unusedSimpArgs false

/-- The changed leaves are the flagged ones, each once; leaves from N on are flagged; a row above has the roots of N leaves, and a root with no flagged leaf below it is right. -/
structure Inv (n D : Nat) (ln : Nat → Nat) (rf : Nat → Nat → Int) (cn : Nat) (cs : Nat → Int) (ib : Nat → Bool) (N : Nat) : Prop where
  lim : ln 0 ≤ n
  old : N ≤ ln 0
  flag : ∀ k, k < cn → ∃ i : Nat, cs k = (i : Int) ∧ i < ln 0 ∧ ib i = true
  all : ∀ i, i < ln 0 → ib i = true → ∃ k, k < cn ∧ cs k = (i : Int)
  one : ∀ k l, k < cn → l < cn → cs k = cs l → k = l
  new : ∀ i, N ≤ i → i < ln 0 → ib i = true
  len : ∀ d, 1 ≤ d → d ≤ D → ln d = up N d
  row : ∀ d, 1 ≤ d → d ≤ D → ∀ i, i < ln d → (∀ m, m < ln 0 → m / 2 ^ d = i → ib m = false) → ∀ j, j < 32 → rt32 (rf d) i j = nd (rf 0) (ln 0) d i j
  byt : ∀ d, d ≤ D → ByB (rf d) (32 * ln d)

/-- A leaf marked. -/
theorem Inv.mark {n D : Nat} {ln : Nat → Nat} {rf : Nat → Nat → Int} {cn : Nat} {cs : Nat → Int} {ib : Nat → Bool} {N : Nat} (h : Inv n D ln rf cn cs ib N) (i : Nat) (hi : i < ln 0) (hb : ib i = false) : Inv n D ln rf (cn + 1) (upc cs cn i) (upb ib i true) N := by
  have hub : ∀ m, ib m = true → upb ib i true m = true := fun m hm => by
    unfold upb
    by_cases e : m = i
    · rw [if_pos e]
    · rw [if_neg e]; exact hm
  refine ⟨h.lim, h.old, fun k hk => ?_, fun m hm hf => ?_, fun k l hk hl e => ?_, fun m h1 h2 => hub m (h.new m h1 h2), h.len, fun d h1 h2 p hp hn j hj => h.row d h1 h2 p hp (fun m hm e => ?_) j hj, h.byt⟩
  · unfold upc
    by_cases e : k = cn
    · rw [if_pos e]
      refine ⟨i, rfl, hi, ?_⟩
      unfold upb
      rw [if_pos rfl]
    · rw [if_neg e]
      obtain ⟨m, e1, e2, e3⟩ := h.flag k (by omega)
      exact ⟨m, e1, e2, hub m e3⟩
  · by_cases e : m = i
    · subst e
      exact ⟨cn, by omega, by unfold upc; rw [if_pos rfl]⟩
    · unfold upb at hf
      rw [if_neg e] at hf
      obtain ⟨k, hk, e2⟩ := h.all m hm hf
      exact ⟨k, by omega, by unfold upc; rw [if_neg (by omega)]; exact e2⟩
  · have hno : ∀ k, k < cn → cs k ≠ (i : Int) := fun k hk e => by
      obtain ⟨m, e1, e2, e3⟩ := h.flag k hk
      have : m = i := by omega
      rw [this, hb] at e3
      cases e3
    unfold upc at e
    by_cases hkc : k = cn
    · by_cases hlc : l = cn
      · omega
      · rw [if_pos hkc, if_neg hlc] at e
        exact absurd e.symm (hno l (by omega))
    · by_cases hlc : l = cn
      · rw [if_neg hkc, if_pos hlc] at e
        exact absurd e (hno k (by omega))
      · rw [if_neg hkc, if_neg hlc] at e
        exact h.one k l (by omega) (by omega) e
  · have := hn m hm e
    unfold upb at this
    by_cases e2 : m = i
    · rw [e2]; exact hb
    · rw [if_neg e2] at this
      exact this
theorem setF_0 (rf : Nat → Nat → Int) (i : Nat) (c : Nat → Int) : setF rf i c 0 = over (rf 0) c (32 * i) 32 := if_pos rfl
theorem setF_up (rf : Nat → Nat → Int) (i : Nat) (c : Nat → Int) (d : Nat) (h : d ≠ 0) : setF rf i c d = rf d := if_neg h
/-- A flagged leaf set. -/
theorem Inv.set {n D : Nat} {ln : Nat → Nat} {rf : Nat → Nat → Int} {cn : Nat} {cs : Nat → Int} {ib : Nat → Bool} {N : Nat} (h : Inv n D ln rf cn cs ib N) (i : Nat) (hi : i < ln 0) (hb : ib i = true) (c : Nat → Int) (hc : ∀ j, j < 32 → 0 ≤ c j ∧ c j < 256) : Inv n D ln (setF rf i c) cn cs ib N := by
  refine ⟨h.lim, h.old, h.flag, h.all, h.one, h.new, h.len, fun d h1 h2 p hp hn j hj => ?_, fun d hd q hq => ?_⟩
  · rw [setF_0, setF_up _ _ _ _ (by omega), h.row d h1 h2 p hp hn j hj]
    refine nd_kept _ _ _ _ d p (fun m hm j hj => ?_) j hj
    unfold nd
    by_cases hml : m < ln 0
    · rw [if_pos hml, if_pos hml, rt32_over _ _ _ _ _ hj, if_neg (fun e => ?_)]
      have := hn m hml hm
      rw [e, hb] at this
      cases this
    · rw [if_neg hml, if_neg hml]
  · by_cases hd0 : d = 0
    · subst hd0
      rw [setF_0]
      unfold over
      by_cases h2 : 32 * i ≤ q ∧ q < 32 * i + 32
      · rw [if_pos h2]; exact hc _ (by omega)
      · rw [if_neg h2]; exact h.byt 0 hd q hq
    · rw [setF_up _ _ _ _ hd0]
      exact h.byt d hd q hq
/-- A tree without leaves. -/
theorem Inv.begin (n D : Nat) (rf : Nat → Nat → Int) (cs : Nat → Int) (ib : Nat → Bool) : Inv n D (fun _ => 0) rf 0 cs ib 0 :=
  ⟨Nat.zero_le _, Nat.le_refl _, fun k hk => absurd hk (by omega), fun i hi => absurd hi (by omega), fun k l hk => absurd hk (by omega), fun i _ hi => absurd hi (by omega), fun d _ _ => (Nat.le_zero.1 (up_le 0 d)).symm, fun d _ _ i hi => absurd hi (by omega), fun d _ q hq => absurd hq (by omega)⟩

theorem up0_0 {α : Type} (g : Nat → α) (x : α) : up0 g x 0 = x := if_pos rfl
theorem up0_up {α : Type} (g : Nat → α) (x : α) (d : Nat) (h : d ≠ 0) : up0 g x d = g d := if_neg h
/-- A leaf appended, and marked. -/
theorem Inv.app {n D : Nat} {ln : Nat → Nat} {rf : Nat → Nat → Int} {cn : Nat} {cs : Nat → Int} {ib : Nat → Bool} {N : Nat} (h : Inv n D ln rf cn cs ib N) (hl : ln 0 < n) (c : Nat → Int) (hc : ∀ j, j < 32 → 0 ≤ c j ∧ c j < 256) :
    Inv n D (up0 ln (ln 0 + 1)) (up0 rf (upr (rf 0) (ln 0) c)) (cn + 1) (upc cs cn (ln 0)) (upb (upb ib (ln 0) false) (ln 0) true) N := by
  have ib1 : upb (upb ib (ln 0) false) (ln 0) true (ln 0) = true := if_pos rfl
  have ib2 : ∀ m, m ≠ ln 0 → upb (upb ib (ln 0) false) (ln 0) true m = ib m := fun m hm => by
    unfold upb
    rw [if_neg hm, if_neg hm]
  have hno : ∀ k, k < cn → cs k ≠ (ln 0 : Int) := fun k hk e => by
    obtain ⟨m, e1, e2, e3⟩ := h.flag k hk
    omega
  refine ⟨by rw [up0_0]; omega, by rw [up0_0]; have := h.old; omega, fun k hk => ?_, fun m hm hf => ?_, fun k l hk hl e => ?_, fun m h1 h2 => ?_, fun d h1 h2 => ?_, fun d h1 h2 p hp hn j hj => ?_, fun d hd q hq => ?_⟩
  · rw [up0_0]
    unfold upc
    by_cases e : k = cn
    · rw [if_pos e]
      exact ⟨ln 0, rfl, by omega, ib1⟩
    · rw [if_neg e]
      obtain ⟨m, e1, e2, e3⟩ := h.flag k (by omega)
      exact ⟨m, e1, by omega, by rw [ib2 m (by omega)]; exact e3⟩
  · rw [up0_0] at hm
    by_cases e : m = ln 0
    · subst e
      exact ⟨cn, by omega, by unfold upc; rw [if_pos rfl]⟩
    · rw [ib2 m e] at hf
      obtain ⟨k, hk, e2⟩ := h.all m (by omega) hf
      exact ⟨k, by omega, by unfold upc; rw [if_neg (by omega)]; exact e2⟩
  · unfold upc at e
    by_cases hkc : k = cn
    · by_cases hlc : l = cn
      · omega
      · rw [if_pos hkc, if_neg hlc] at e
        exact absurd e.symm (hno l (by omega))
    · by_cases hlc : l = cn
      · rw [if_neg hkc, if_pos hlc] at e
        exact absurd e (hno k (by omega))
      · rw [if_neg hkc, if_neg hlc] at e
        exact h.one k l (by omega) (by omega) e
  · rw [up0_0] at h2
    by_cases e : m = ln 0
    · rw [e]; exact ib1
    · rw [ib2 m e]
      exact h.new m h1 (by omega)
  · rw [up0_up _ _ _ (by omega)]
    exact h.len d h1 h2
  · rw [up0_up _ _ _ (by omega)] at hp
    rw [up0_up _ _ _ (by omega), up0_0, up0_0, h.row d h1 h2 p hp (fun m hm e => by
      have := hn m (by rw [up0_0]; omega) e
      rw [ib2 m (by omega)] at this
      exact this) j hj]
    refine nd_kept _ _ _ _ d p (fun m hm j hj => ?_) j hj
    have hmL : m ≠ ln 0 := fun e => by
      have := hn m (by rw [up0_0]; omega) hm
      rw [e, ib1] at this
      cases this
    unfold nd
    by_cases hml : m < ln 0
    · rw [if_pos hml, if_pos (by omega), rt32_upr _ _ _ _ _ hj, if_pos hml]
    · rw [if_neg hml, if_neg (by omega)]
  · by_cases hd0 : d = 0
    · subst hd0
      rw [up0_0] at hq
      rw [up0_0]
      unfold upr
      by_cases h2 : q < 32 * ln 0
      · rw [if_pos h2]; exact h.byt 0 hd q h2
      · rw [if_neg h2]; exact hc _ (by omega)
    · rw [up0_up _ _ _ hd0] at hq
      rw [up0_up _ _ _ hd0]
      exact h.byt d hd q hq

end Go.Proofs.YtjimdkpppgjokaaDoor

namespace Go.Proofs.YtjimdkpppgjokaaDoor
open Go.RowKit
set_option linter.unusedVariables false
set_option linter.unusedSimpArgs false

/-- A flag set anew. -/
theorem Tre.flag {w : World} {LB : Nat → Nat} {t n D R : Nat} {rv : Nat → Value} {ln : Nat → Nat} {rf : Nat → Nat → Int} {cv : Value} {cn : Nat} {cs : Nat → Int} {iv : Value} {ib : Nat → Bool} {hs : Int} (h : Tre w LB t n D R rv ln rf cv cn cs iv ib hs) (i : Nat) (hi : i < ln 0) (b : Bool) :
    ∃ g cap, iv = .slice (some ⟨g, 0, none⟩) (ln 0) cap ∧ w.cell? ⟨g, i, none⟩ = some (.bool (ib i)) ∧ w.frozen? ⟨g, i, none⟩ = false ∧ LB g = 4 ∧ w.grownBy (w.setCell ⟨g, i, none⟩ (.bool b)) (some g) ∧ Tre (w.setCell ⟨g, i, none⟩ (.bool b)) LB t n D R rv ln rf cv cn cs iv (upb ib i b) hs := by
  obtain ⟨g, cap, hv⟩ := owns_pos h.isc.1 (by omega)
  have hio := h.isc.1
  rw [hv] at hio
  have hlg : LB g = 4 := h.isc.2 g (by rw [hv]; rfl)
  have c2 := hio.cellAt i (by omega)
  rw [bol_get _ _ _ hi] at c2
  have hst := hio.stored i (.bool b)
  rw [bol_set] at hst
  obtain ⟨k1, k2, k3, k4, _⟩ := h.step hst.2 (l := 4) (fun b e => by cases e; exact hlg)
  refine ⟨g, cap, hv, c2, hio.frozenAt i, hlg, hst.2, h.lt, h.lR, h.dep, (k1 (by decide)).trans h.blk, (k2 (by decide)).trans h.rws, fun d hd => k3 d hd (by omega), k4 (by decide), ?_, h.isc.2⟩
  rw [hv]
  exact hst.1
/-- The flags behind the first k changed leaves. -/
def ibk (ib : Nat → Bool) (cs : Nat → Int) : Nat → Nat → Bool
  | 0 => ib
  | k + 1 => upb (ibk ib cs k) (cs k).toNat false
theorem ibk_off (ib : Nat → Bool) (cs : Nat → Int) : ∀ k m, (ib m = false ∨ ∃ t, t < k ∧ (cs t).toNat = m) → ibk ib cs k m = false
  | 0, m, h => by
    rcases h with h | ⟨t, ht, _⟩
    · exact h
    · omega
  | k + 1, m, h => by
    show upb (ibk ib cs k) (cs k).toNat false m = false
    unfold upb
    by_cases e : m = (cs k).toNat
    · rw [if_pos e]
    · rw [if_neg e]
      refine ibk_off ib cs k m ?_
      rcases h with h | ⟨t, ht, e2⟩
      · exact .inl h
      · refine .inr ⟨t, ?_, e2⟩
        by_cases htk : t = k
        · subst htk
          exact absurd e2.symm e
        · omega
/-- Behind all of them no leaf is flagged. -/
theorem Inv.off {n D : Nat} {ln : Nat → Nat} {rf : Nat → Nat → Int} {cn : Nat} {cs : Nat → Int} {ib : Nat → Bool} {N : Nat} (h : Inv n D ln rf cn cs ib N) (m : Nat) (hm : m < ln 0) : ibk ib cs cn m = false := by
  refine ibk_off ib cs cn m ?_
  cases hb : ib m with
  | false => exact .inl rfl
  | true =>
    obtain ⟨k, hk, e⟩ := h.all m hm hb
    exact .inr ⟨k, hk, by rw [e]; rfl⟩
theorem BooL.congr {w : World} {LB : Nat → Nat} {l : Nat} {v : Value} {n : Nat} {c c' : Nat → Bool} (h : BooL w LB l v n c) (hc : ∀ m, m < n → c m = c' m) : BooL w LB l v n c' := by
  have e : bol c n = bol c' n := by
    unfold bol
    exact List.map_congr_left fun m hm => by rw [hc m (List.mem_range.1 hm)]
  refine ⟨?_, h.2⟩
  rw [← e]
  exact h.1

/-- Labels with the changed leaves' blocks given away. -/
def off3 (LB : Nat → Nat) (k : Nat) : Nat := if LB k = 3 then 0 else LB k
theorem off3_ne (LB : Nat → Nat) (k : Nat) (h : LB k ≠ 3) : off3 LB k = LB k := if_neg h
theorem off3_is (LB : Nat → Nat) (k : Nat) (h : LB k = 3) : off3 LB k = 0 := if_pos h
theorem Lab.off {LB : Nat → Nat} {l : Nat} {v : Value} (h : Lab LB l v) (hl : l ≠ 3) : Lab (off3 LB) l v := fun g hg => by rw [off3_ne LB g (by rw [h g hg]; exact hl)]; exact h g hg
/-- The changed leaves handed out: the tree has none. -/
theorem Tre.out {w : World} {LB : Nat → Nat} {t n D R : Nat} {rv : Nat → Value} {ln : Nat → Nat} {rf : Nat → Nat → Int} {cv : Value} {cn : Nat} {cs : Nat → Int} {iv : Value} {ib : Nat → Bool} {hs : Int} (h : Tre w LB t n D R rv ln rf cv cn cs iv ib hs) :
    w.grownBy (w.setCell ⟨t, 994, none⟩ (.slice none 0 0)) (some t) ∧ Tre (w.setCell ⟨t, 994, none⟩ (.slice none 0 0)) (off3 LB) t n D R rv ln rf (.slice none 0 0) 0 cs iv ib hs := by
  have g1 := grown_set w t 994 (.slice none 0 0)
  obtain ⟨k1, k2, k3, k4, k5⟩ := h.step g1 (l := 1) (fun b e => by cases e; exact h.lt)
  refine ⟨g1, ?_, ?_, h.dep, ?_, (k2 (by omega)).trans h.rws, fun e he => ⟨(k3 e he (by omega)).1, (k3 e he (by omega)).2.off (by omega)⟩, ⟨World.ownsRow_nil _ _ _ _, fun g hg => by cases hg⟩, ⟨(k5 (by omega)).1, (k5 (by omega)).2.off (by omega)⟩⟩
  · rw [off3_ne LB t (by rw [h.lt]; omega)]; exact h.lt
  · rw [off3_ne LB R (by rw [h.lR]; omega)]; exact h.lR
  · exact (row_set h.blk 994 _).trans (congrArg (fun c => some (Obj.cells c 58)) (trA_set994 _ _ _ _ _ _ _))
/-- A block that is none of the tree's written. -/
theorem Tre.else {w w' : World} {LB : Nat → Nat} {t n D R : Nat} {rv : Nat → Value} {ln : Nat → Nat} {rf : Nat → Nat → Int} {cv : Value} {cn : Nat} {cs : Nat → Int} {iv : Value} {ib : Nat → Bool} {hs : Int} (h : Tre w LB t n D R rv ln rf cv cn cs iv ib hs) {g : Nat} (hg : w.grownBy w' (some g)) (hl : LB g = 0) : Tre w' LB t n D R rv ln rf cv cn cs iv ib hs := by
  obtain ⟨k1, k2, k3, k4, k5⟩ := h.step hg (l := 0) (fun b e => by cases e; exact hl)
  exact ⟨h.lt, h.lR, h.dep, (k1 (by omega)).trans h.blk, (k2 (by omega)).trans h.rws, fun d hd => k3 d hd (by omega), k4 (by omega), k5 (by omega)⟩

end Go.Proofs.YtjimdkpppgjokaaDoor

namespace Go.Proofs.YtjimdkpppgjokaaDoor
open Go.RowKit
set_option linter.unusedVariables false
set_option linter.unusedSimpArgs false

/-- Places in a block that is none of the tree's. -/
def PL (w : World) (LB : Nat → Nat) (v : Value) (zs : List Int) : Prop := w.ownsRow 0 3 1 v zs.length (iml zs) ∧ Lab LB 0 v
/-- A step that writes the places' own block, or none. -/
def Aside (v : Value) (w w' : World) : Prop := w' = w ∨ ∃ g, v.ownBlock = some g ∧ w.grownBy w' (some g)
theorem Aside.tou {LB : Nat → Nat} {l : Nat} {v : Value} {w w' : World} (h : Aside v w w') (hl : Lab LB l v) (h0 : l ≠ 0) : Tou LB w w' := by
  rcases h with rfl | ⟨g, hg, h⟩
  · exact Tou.refl _ _
  · exact Tou.ofGrown h (by rw [hl g hg]; exact h0)
theorem Tre.aside {w w' : World} {LB : Nat → Nat} {t n D R : Nat} {rv : Nat → Value} {ln : Nat → Nat} {rf : Nat → Nat → Int} {cv : Value} {cn : Nat} {cs : Nat → Int} {iv : Value} {ib : Nat → Bool} {hs : Int} (h : Tre w LB t n D R rv ln rf cv cn cs iv ib hs) {v : Value} (hv : Lab LB 0 v) (ha : Aside v w w') : Tre w' LB t n D R rv ln rf cv cn cs iv ib hs := by
  rcases ha with rfl | ⟨g, hl, hg⟩
  · exact h
  · exact h.else hg (hv g hl)

theorem sort_pl {w : World} {LB : Nat → Nat} {v : Value} {zs : List Int} (h : PL w LB v zs) (hl : zs.length ≤ 1099511627776) :
    Calls Tryd.prog 42 #[v] w fun e w' => e = .returned (.tuple #[]) ∧ PL w' LB v (srt zs) ∧ Aside v w w' := by
  have hs : (srt zs).length = zs.length := srt_len zs
  rcases h.1.2 with ⟨h1, h2⟩ | ⟨g, cap, cur, h1, _⟩
  · rw [h1]
    have e0 : zs = [] := List.eq_nil_of_length_eq_zero h2
    subst e0
    refine (sort_none none 0 w).mono ?_
    rintro e w' ⟨rfl, rfl⟩
    have en : srt [] = [] := List.eq_nil_of_length_eq_zero (srt_len [])
    rw [en]
    exact ⟨rfl, ⟨World.ownsRow_nil _ _ _ _, fun g hg => by cases hg⟩, .inl rfl⟩
  · have ho := h.1
    have hg0 : LB g = 0 := h.2 g (by rw [h1]; rfl)
    rw [h1] at ho
    rw [h1]
    refine (sort_any g cap zs w ho hl).mono ?_
    rintro e w' ⟨rfl, h3, h4⟩
    refine ⟨rfl, ⟨?_, fun b hb => ?_⟩, .inr ⟨g, rfl, h4⟩⟩
    · rw [hs]; exact h3
    · cases hb; exact hg0

theorem above_pl {w : World} {LB : Nat → Nat} {v : Value} {zs : List Int} (h : PL w LB v zs) (hl : zs.length ≤ 1099511627776) (hz : ∀ x, x ∈ zs → 0 ≤ x ∧ x ≤ 4611686018427387904) :
    Calls Tryd.prog 43 #[v] w fun e w' => ∃ v', e = .returned v' ∧ PL w' LB v' (Lib.compact (zs.map (· / 2))) ∧ v'.ownBlock = v.ownBlock ∧ Aside v w w' := by
  rcases h.1.2 with ⟨h1, h2⟩ | ⟨g, cap, cur, h1, _⟩
  · rw [h1]
    have e0 : zs = [] := List.eq_nil_of_length_eq_zero h2
    subst e0
    refine (above_none none 0 w).mono ?_
    rintro e w' ⟨rfl, rfl⟩
    exact ⟨_, rfl, ⟨World.ownsRow_nil _ _ _ _, fun g hg => by cases hg⟩, rfl, .inl rfl⟩
  · have ho := h.1
    have hg0 : LB g = 0 := h.2 g (by rw [h1]; rfl)
    rw [h1] at ho
    rw [h1]
    have hc := Lib.compact_length_le (zs.map (· / 2))
    rw [List.length_map] at hc
    refine (above_any g cap zs w ho (fun j hj => ?_) hl hc).mono ?_
    · refine hz _ ?_
      rw [List.getD_eq_getElem?_getD, List.getElem?_eq_getElem hj]
      exact List.getElem_mem hj
    · rintro e w' ⟨rfl, h3, h4⟩
      exact ⟨_, rfl, ⟨h3, fun b hb => by cases hb; exact hg0⟩, rfl, .inr ⟨g, rfl, h4⟩⟩

/-- The places as numbers. -/
def pls (zs : List Int) (k : Nat) : Nat := (zs.getD k 0).toNat
theorem pls_int (zs : List Int) (hz : ∀ x, x ∈ zs → 0 ≤ x ∧ x ≤ 1099511627776) (k : Nat) (hk : k < zs.length) : (pls zs k : Int) = zs.getD k 0 ∧ zs.getD k 0 ∈ zs := by
  have hm : zs.getD k 0 ∈ zs := by
    rw [List.getD_eq_getElem?_getD, List.getElem?_eq_getElem hk]
    exact List.getElem_mem hk
  have := hz _ hm
  unfold pls
  exact ⟨by omega, hm⟩
theorem pls_rise (zs : List Int) (hz : ∀ x, x ∈ zs → 0 ≤ x ∧ x ≤ 1099511627776) (hp : zs.Pairwise (· < ·)) : Rise (pls zs) zs.length := fun k hk => by
  have h1 := pls_int zs hz k (by omega)
  have h2 := pls_int zs hz (k + 1) hk
  have h3 : zs.getD k 0 < zs.getD (k + 1) 0 := by
    rw [List.getD_eq_getElem?_getD, List.getElem?_eq_getElem (by omega), List.getD_eq_getElem?_getD, List.getElem?_eq_getElem hk]
    exact List.pairwise_iff_getElem.1 hp k (k + 1) (by omega) hk (by omega)
  omega

end Go.Proofs.YtjimdkpppgjokaaDoor

namespace Go.Proofs.YtjimdkpppgjokaaDoor
open Go.RowKit
set_option linter.unusedVariables false
set_option linter.unusedSimpArgs false

/-- A row is right: as many roots as nodes, each the node. -/
def Rgt (f : Nat → Int) (n0 d : Nat) (L : Nat) (F : Nat → Int) : Prop := L = up n0 d ∧ ∀ i, i < up n0 d → ∀ j, j < 32 → rt32 F i j = nd f n0 d i j
theorem Rgt.byt {f : Nat → Int} {n0 d L : Nat} {F : Nat → Int} (h : Rgt f n0 d L F) (hf : ByB f (32 * n0)) : ByB F (32 * L) := fun q hq => by
  have h1 := h.1
  have e := h.2 (q / 32) (by omega) (q % 32) (by omega)
  unfold rt32 at e
  rw [show 32 * (q / 32) + q % 32 = q by omega] at e
  rw [e]
  exact nd_bd hf _ _ _ (by omega)

theorem level_pl {w : World} {LB : Nat → Nat} {t n D R : Nat} {rv : Nat → Value} {ln : Nat → Nat} {rf : Nat → Nat → Int} {cv : Value} {cn : Nat} {cs : Nat → Int} {iv : Value} {ib : Nat → Bool} {hs : Int} (h : Tre w LB t n D R rv ln rf cv cn cs iv ib hs) (d e : Nat) (hd : d ≤ D) (hde : d = e + 1) (hS : Sh w) (hS0 : LB 0 = 0) (hS1 : LB 1 = 0)
    (f : Nat → Int) (n0 N : Nat) (hf : ByB f (32 * n0)) (hn0 : n0 ≤ 1073741824) (hN : N ≤ n0) (hlow : Rgt f n0 e (ln e) (rf e)) (hold : ln d = up N d) (v : Value) (zs : List Int) (hpl : PL w LB v zs) (hp : zs.Pairwise (· < ·)) (hmem : ∀ x, x ∈ zs → 0 ≤ x ∧ x < (up n0 d : Int)) (hall : ∀ i, up N d ≤ i → i < up n0 d → (i : Int) ∈ zs)
    (hkeep : ∀ i, i < up N d → (i : Int) ∉ zs → ∀ j, j < 32 → rt32 (rf d) i j = nd f n0 d i j) (hh0 : 0 ≤ hs) (hh1 : hs ≤ 1152921504606846976) :
    Calls Tryd.prog 44 #[.pointer (some ⟨t, 0, none⟩), .int .i64 d, v] w fun e' w' => e' = .returned (.tuple #[]) ∧ ∃ LB' rv' F', (∀ k, k < w.heap.size → LB' k = LB k) ∧ Tou LB w w' ∧ Tre w' LB' t n D R rv' (upd ln d (up n0 d)) (upd rf d F') cv cn cs iv ib (hs + zs.length) ∧ Rgt f n0 d (up n0 d) F' := by
  have hu : up n0 d ≤ n0 := up_le n0 d
  have hz : ∀ x, x ∈ zs → 0 ≤ x ∧ x ≤ 1099511627776 := fun x hx => by
    have := hmem x hx
    omega
  have hri := pls_rise zs hz hp
  have hin : ∀ k, k < zs.length → pls zs k < up n0 d := fun k hk => by
    have h1 := pls_int zs hz k hk
    have h2 := hmem _ h1.2
    omega
  have hex : ∀ i : Nat, (i : Int) ∈ zs → ∃ k, k < zs.length ∧ pls zs k = i := fun i hi => by
    obtain ⟨k, hk, ek⟩ := List.mem_iff_getElem.1 hi
    refine ⟨k, hk, ?_⟩
    have h1 := pls_int zs hz k hk
    rw [List.getD_eq_getElem?_getD, List.getElem?_eq_getElem hk] at h1
    have h2 : (pls zs k : Int) = zs[k] := h1.1
    rw [ek] at h2
    omega
  have hnex : ∀ i : Nat, (¬ ∃ k, k < zs.length ∧ pls zs k = i) → (i : Int) ∉ zs := fun i hn hi => hn (hex i hi)
  have hlw := hlow.2
  obtain ⟨r1, r2, r3, r4⟩ := rk_all hri (up_mono N n0 d hN) hin (fun i h1 h2 => hex i (hall i h1 h2)) (rf d) (abv (rf e) (ln e) e) (nd f n0 d) (fun p _ j hj => by rw [hlow.1, hde]; exact abv_nd f (rf e) n0 e hlw p j hj) (fun i h1 h2 => hkeep i h1 (hnex i h2))
  have hzl : zs.length ≤ 1099511627776 := by
    obtain ⟨a, ha, h1, h2⟩ := hri.split (up_mono N n0 d hN) hin (fun i h1 h2 => hex i (hall i h1 h2))
    by_cases h0 : zs.length = 0
    · omega
    · have h3 := hin (zs.length - 1) (by omega)
      have h4 : ∀ k, k < zs.length → k ≤ pls zs k := fun k => by
        induction k with
        | zero => intro _; exact Nat.zero_le _
        | succ k ih =>
          intro hk
          have := ih (by omega)
          have := hri k hk
          omega
      have := h4 (zs.length - 1) (by omega)
      omega
  have hbe : ByB (rf e) (32 * ln e) := hlow.byt hf
  have hform : ∃ ap bp op cp, v = .slice ap zs.length cp ∧ (0 < zs.length → ap = some ⟨bp, op, none⟩) ∧ bp < w.heap.size ∧ LB bp = 0 ∧ ∀ k, k < zs.length → w.cell? ⟨bp, op + k, none⟩ = some (.int .i64 (pls zs k)) := by
    rcases hpl.1.2 with ⟨h1, h2⟩ | ⟨g, cap, cur, h1, _⟩
    · refine ⟨none, 0, 0, 0, by rw [h1, h2], fun h => by omega, hS.1.1, hS0, fun k hk => by omega⟩
    · have ho := hpl.1
      rw [h1] at ho
      refine ⟨some ⟨g, 0, none⟩, g, 0, cap, h1, fun _ => rfl, (ho.lt g rfl).2, hpl.2 g (by rw [h1]; rfl), fun k hk => ?_⟩
      rw [Nat.zero_add, ho.cellAt k (by omega), iml_get _ _ hk, (pls_int zs hz k hk).1]
  obtain ⟨ap, bp, op, cp, rfl, hap, hbp, hlp, hcp⟩ := hform
  refine (treck_row h d e hd hde hS hS0 hS1 hbe ap bp op zs.length cp (pls zs) hap hbp hlp hcp (fun k hk => by have := hin k hk; omega) (fun k hk => by rw [hold]; exact r1 k hk) (fun k hk => by rw [hold]; have := r2 k hk; omega) hzl hh0 hh1).mono ?_
  rintro e' w' ⟨rfl, LB', rv', q1, q2, q3⟩
  rw [hold, r3] at q3
  exact ⟨rfl, LB', rv', _, q1, q2, q3, rfl, r4⟩

end Go.Proofs.YtjimdkpppgjokaaDoor

namespace Go.Proofs.YtjimdkpppgjokaaDoor
open Go.RowKit
set_option linter.unusedVariables false
set_option linter.unusedSimpArgs false

/-- The changed leaves as a list. -/
def csl (cs : Nat → Int) (cn : Nat) : List Int := (List.range cn).map cs
theorem csl_len (cs : Nat → Int) (cn : Nat) : (csl cs cn).length = cn := by simp [csl]
theorem csl_iml (cs : Nat → Int) (cn : Nat) : iml (csl cs cn) = il cs cn := by simp [csl, iml, il]
/-- The places of a level: the flagged leaves' nodes. -/
def Plc (ib : Nat → Bool) (L d : Nat) (zs : List Int) : Prop := zs.Pairwise (· < ·) ∧ ∀ x, x ∈ zs ↔ ∃ i : Nat, i < L ∧ ib i = true ∧ x = ((i / 2 ^ d : Nat) : Int)
theorem Inv.plc {n D : Nat} {ln : Nat → Nat} {rf : Nat → Nat → Int} {cn : Nat} {cs : Nat → Int} {ib : Nat → Bool} {N : Nat} (h : Inv n D ln rf cn cs ib N) : Plc ib (ln 0) 0 (srt (csl cs cn)) := by
  refine ⟨srt_lt _ ?_, fun x => ?_⟩
  · unfold csl
    rw [List.nodup_iff_pairwise_ne, List.pairwise_map]
    refine List.Pairwise.imp_of_mem (R := (· < ·)) (fun {a b} ha hb hab e => ?_) List.pairwise_lt_range
    have := h.one a b (List.mem_range.1 ha) (List.mem_range.1 hb) e
    omega
  · rw [srt_mem]
    unfold csl
    rw [List.mem_map]
    constructor
    · rintro ⟨k, hk, rfl⟩
      obtain ⟨i, e1, e2, e3⟩ := h.flag k (List.mem_range.1 hk)
      exact ⟨i, e2, e3, by rw [Nat.pow_zero, Nat.div_one]; exact e1⟩
    · rintro ⟨i, h1, h2, rfl⟩
      obtain ⟨k, hk, e⟩ := h.all i h1 h2
      exact ⟨k, List.mem_range.2 hk, by rw [Nat.pow_zero, Nat.div_one]; exact e⟩
theorem Plc.next {ib : Nat → Bool} {L d : Nat} {zs : List Int} (h : Plc ib L d zs) : Plc ib L (d + 1) (Lib.compact (zs.map (· / 2))) := by
  have ha := above_ok zs h.1
  refine ⟨ha.1, fun x => ?_⟩
  rw [ha.2 x]
  have e : ∀ i : Nat, ((i / 2 ^ (d + 1) : Nat) : Int) = ((i / 2 ^ d : Nat) : Int) / 2 := fun i => by
    rw [Nat.pow_succ, ← Nat.div_div_eq_div_mul]
    omega
  constructor
  · rintro ⟨z, hz, rfl⟩
    obtain ⟨i, h1, h2, rfl⟩ := (h.2 z).1 hz
    exact ⟨i, h1, h2, (e i).symm⟩
  · rintro ⟨i, h1, h2, rfl⟩
    exact ⟨_, (h.2 _).2 ⟨i, h1, h2, rfl⟩, (e i).symm⟩
theorem Plc.bd {ib : Nat → Bool} {L d : Nat} {zs : List Int} (h : Plc ib L d zs) (x : Int) (hx : x ∈ zs) : 0 ≤ x ∧ x < (up L d : Int) := by
  obtain ⟨i, h1, h2, rfl⟩ := (h.2 x).1 hx
  have := div_lt_up L d i h1
  generalize i / 2 ^ d = m at this ⊢
  omega
/-- Rising numbers between two bounds are no more than their distance. -/
theorem rise_len : ∀ (zs : List Int) (a b : Int), zs.Pairwise (· < ·) → (∀ x, x ∈ zs → a ≤ x ∧ x < b) → a ≤ b → (zs.length : Int) ≤ b - a
  | [], a, b, _, _, h => by simp; omega
  | z :: zs, a, b, hp, hm, h => by
    have h1 := hm z (by simp)
    have hp' := List.pairwise_cons.1 hp
    have h2 := rise_len zs (z + 1) b hp'.2 (fun x hx => ⟨by have := hp'.1 x hx; omega, (hm x (by simp [hx])).2⟩) (by omega)
    rw [List.length_cons]
    omega
theorem Plc.len {ib : Nat → Bool} {L d : Nat} {zs : List Int} (h : Plc ib L d zs) : zs.length ≤ up L d := by
  have := rise_len zs 0 (up L d : Int) h.1 (fun x hx => h.bd x hx) (by omega)
  omega
/-- No more leaves are changed than there are. -/
theorem Inv.few {n D : Nat} {ln : Nat → Nat} {rf : Nat → Nat → Int} {cn : Nat} {cs : Nat → Int} {ib : Nat → Bool} {N : Nat} (h : Inv n D ln rf cn cs ib N) : cn ≤ ln 0 := by
  have := h.plc.len
  rw [srt_len, csl_len] at this
  exact this

end Go.Proofs.YtjimdkpppgjokaaDoor
