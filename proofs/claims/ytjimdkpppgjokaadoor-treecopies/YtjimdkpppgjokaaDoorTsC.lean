/-
  Steps of a row being reckoned: a root stored, a root more, a hash counted.
  What reckonRow leaves.
  What above answers and leaves.
  A row's length and roots behind all its places.
  Places that rise strictly, and hold all from a row's end on.
  Numbers in order, without their doubles.
  Places sorted.
-/
import Derived.Test.YtjimdkpppgjokaaDoorTsB
import Derived.Test.YtjimdkpppgjokaaDoorShelf
import Derived.Sort.OwnSortedInts
namespace Go.Proofs.YtjimdkpppgjokaaDoor
open Go.RowKit
set_option linter.unusedVariables false
set_option linter.unusedSimpArgs false

/-- A function with one value anew. -/
def upd {α : Type} (g : Nat → α) (d : Nat) (x : α) (e : Nat) : α := if e = d then x else g e
theorem upd_at {α : Type} (g : Nat → α) (d : Nat) (x : α) : upd g d x d = x := if_pos rfl
theorem upd_ne {α : Type} (g : Nat → α) (d : Nat) (x : α) (e : Nat) (h : e ≠ d) : upd g d x e = g e := if_neg h

/-- A root stored in a row that has it. -/
theorem Tre.put {w : World} {LB : Nat → Nat} {t n D R : Nat} {rv : Nat → Value} {ln : Nat → Nat} {rf : Nat → Nat → Int} {cv : Value} {cn : Nat} {cs : Nat → Int} {iv : Value} {ib : Nat → Bool} {hs : Int} (h : Tre w LB t n D R rv ln rf cv cn cs iv ib hs) (d p : Nat) (hd : d ≤ D) (hp : p < ln d) (c : Nat → Int) :
    ∃ g cap, rv d = .slice (some ⟨g, 0, none⟩) (ln d) cap ∧ LB g = 5 + d ∧ g < w.heap.size ∧ (sv24 ⟨g, 32 * p, none⟩ (.agg (vs .u8 32 c))).run Tryd.prog w = .ok () (w.setCells g (32 * p) (bl c 32)) ∧ w.grownBy (w.setCells g (32 * p) (bl c 32)) (some g) ∧ Tre (w.setCells g (32 * p) (bl c 32)) LB t n D R rv ln (upd rf d (over (rf d) c (32 * p) 32)) cv cn cs iv ib hs := by
  obtain ⟨g, cap, hv⟩ := owns_pos (h.row d hd).1 (by omega)
  have hro := (h.row d hd).1
  rw [hv] at hro
  have hlg : LB g = 5 + d := (h.row d hd).2 g (by rw [hv]; rfl)
  have hgw := (hro.lt g rfl).2
  obtain ⟨p1, p2, p3⟩ := own_put (c := c) hro hp
  obtain ⟨k1, k2, k3, k4, k5⟩ := h.step p3 (l := 5 + d) (fun b e => by cases e; exact hlg)
  refine ⟨g, cap, hv, hlg, hgw, p1, p3, h.lt, h.lR, h.dep, (k1 (by omega)).trans h.blk, (k2 (by omega)).trans h.rws, fun e he => ?_, k4 (by omega), k5 (by omega)⟩
  by_cases hed : e = d
  · subst hed
    refine ⟨?_, (h.row e he).2⟩
    rw [hv, upd_at]
    exact p2
  · rw [upd_ne _ _ _ _ hed]
    exact k3 e he (by omega)

/-- A hash counted. -/
theorem Tre.hash {w : World} {LB : Nat → Nat} {t n D R : Nat} {rv : Nat → Value} {ln : Nat → Nat} {rf : Nat → Nat → Int} {cv : Value} {cn : Nat} {cs : Nat → Int} {iv : Value} {ib : Nat → Bool} {hs : Int} (h : Tre w LB t n D R rv ln rf cv cn cs iv ib hs) (hs' : Int) :
    w.grownBy (w.setCell ⟨t, 996, none⟩ (.int .i64 hs')) (some t) ∧ Tre (w.setCell ⟨t, 996, none⟩ (.int .i64 hs')) LB t n D R rv ln rf cv cn cs iv ib hs' := by
  have g1 := grown_set w t 996 (.int .i64 hs')
  obtain ⟨k1, k2, k3, k4, k5⟩ := h.step g1 (l := 1) (fun b e => by cases e; exact h.lt)
  refine ⟨g1, h.lt, h.lR, h.dep, ?_, (k2 (by omega)).trans h.rws, fun e he => k3 e he (by omega), k4 (by omega), k5 (by omega)⟩
  exact (row_set h.blk 996 _).trans (congrArg (fun c => some (Obj.cells c 58)) (trA_set996 _ _ _ _ _ _ _))

/-- A row above the leaves with a root more. -/
theorem Tre.grow {w : World} {LB : Nat → Nat} {t n D R : Nat} {rv : Nat → Value} {ln : Nat → Nat} {rf : Nat → Nat → Int} {cv : Value} {cn : Nat} {cs : Nat → Int} {iv : Value} {ib : Nat → Bool} {hs : Int} (h : Tre w LB t n D R rv ln rf cv cn cs iv ib hs) (d : Nat) (hd : d ≤ D) (hd1 : 1 ≤ d) (c : Nat → Int) (hl : ln d ≤ 1099511627776) (ty : TypeId) :
    ∃ v' w5, (apT ty (rv d) (.slice (some ⟨w.heap.size, 0, none⟩) 1 1)).run Tryd.prog (w.alloc (.cells (vs .u8 32 c) 33)) = .ok v' w5 ∧ (∃ a cap, v' = .slice a (ln d + 1) cap) ∧ w5.heap[R]? = w.heap[R]? ∧ w5.heap[t]? = w.heap[t]? ∧ (∀ k, k < w.heap.size → (rv d).ownBlock ≠ some k → w5.heap[k]? = w.heap[k]?) ∧ w.heap.size + 1 ≤ w5.heap.size ∧
      Tou LB w (w5.setCell ⟨R, d, none⟩ v') ∧ Tre (w5.setCell ⟨R, d, none⟩ v') (lab' w LB (5 + d)) t n D R (upd rv d v') (upd ln d (ln d + 1)) (upd rf d (upr (rf d) (ln d) c)) cv cn cs iv ib hs := by
  have h0 := h.row d hd
  obtain ⟨v', w5, hrun, ho, hg, hat⟩ := apT_one w 0 (rv d) (ln d) (rf d) c h0.1 (by omega) (Nat.zero_le _) ty
  have ht := (Array.getElem?_eq_some_iff.1 h.blk).1
  have hR := (Array.getElem?_eq_some_iff.1 h.rws).1
  have lt := h.lt
  have lR := h.lR
  have b5 : ∀ k, k < w.heap.size → LB k ≠ 5 + d → w5.heap[k]? = w.heap[k]? := fun k hk hl => (hg.block k (by simp; omega) (fun e => hl (h0.2 k e.symm))).trans (heap_old hk)
  have g6 := grown_set w5 R d v'
  have hs5 := hg.size
  have keep : ∀ {s : Nat} {e : TypeId} {v : Value} {m k : Nat} {xs : List Value}, w.ownsRow 0 e s v m xs → Lab LB k v → k ≠ 5 + d → k ≠ 2 → (w5.setCell ⟨R, d, none⟩ v').ownsRow 0 e s v m xs := fun ho hl h5 h2 => own_keep (own_keep (ho.alloc _) hg (fun b hb e => h5 ((hl b hb).symm.trans (h0.2 b e)))) g6 (fun b hb e => by
    cases e
    exact h2 ((hl R hb).symm.trans lR))
  refine ⟨v', w5, hrun, row_form ho, b5 R hR (by omega), b5 t ht (by omega), fun k hk hne => (hg.block k (by simp; omega) (fun e => hne e.symm)).trans (heap_old hk), by simp at hs5; omega, ?_, ?_⟩
  · refine ⟨hg.os, hg.tape, hg.output, ?_, fun k hk hl => ?_⟩
    · rw [size_s]
      simp at hs5
      omega
    · exact (heap_set_other (fun e => by rw [← e, hl] at lR; omega)).trans (b5 k hk (by omega))
  · refine ⟨(lab'_old _ _ _ _ ht).trans lt, (lab'_old _ _ _ _ hR).trans lR, h.dep, ?_, ?_, fun e he => ?_, ?_, ?_⟩
    · exact (heap_set_other (fun e => by rw [← e, lt] at lR; omega)).trans ((b5 t ht (by omega)).trans h.blk)
    · refine (row_set ((b5 R hR (by omega)).trans h.rws) d _).trans ?_
      rw [rA_set]
      rfl
    · by_cases hed : e = d
      · subst hed
        rw [upd_at, upd_at, upd_at]
        refine ⟨own_keep ho g6 (fun b hb e => ?_), fun b hb => ?_⟩
        · cases e
          rcases hat with h1 | h1
          · rw [h1] at hb
            have := h0.2 R hb
            omega
          · rw [h1] at hb
            cases hb
            omega
        · rcases hat with h1 | h1
          · have hb2 : (rv e).ownBlock = some b := by rw [← h1]; exact hb
            exact (lab'_old _ _ _ _ (h0.1.lt b hb2).2).trans (h0.2 b hb2)
          · have hb2 : some (w.heap.size + 1) = some b := by rw [← h1]; exact hb
            cases hb2
            exact lab'_new _ _ _ _ (by omega)
      · rw [upd_ne _ _ _ _ hed, upd_ne _ _ _ _ hed, upd_ne _ _ _ _ hed]
        exact ⟨keep (h.row e he).1 (h.row e he).2 (by omega) (by omega), Lab.more (h.row e he).1 (h.row e he).2 _⟩
    · exact ⟨keep h.chg.1 h.chg.2 (by omega) (by omega), Lab.more h.chg.1 h.chg.2 _⟩
    · rw [upd_ne ln d (ln d + 1) 0 (by omega)]
      exact ⟨keep h.isc.1 h.isc.2 (by omega) (by omega), Lab.more h.isc.1 h.isc.2 _⟩

/-- The row's length and roots behind k places. -/
def rkL (ps : Nat → Nat) (L : Nat) : Nat → Nat
  | 0 => L
  | k + 1 => if ps k = rkL ps L k then rkL ps L k + 1 else rkL ps L k
def rkF (ps : Nat → Nat) (L : Nat) (F : Nat → Int) (C : Nat → Nat → Int) : Nat → Nat → Int
  | 0 => F
  | k + 1 => if ps k = rkL ps L k then upr (rkF ps L F C k) (rkL ps L k) (C (ps k)) else over (rkF ps L F C k) (C (ps k)) (32 * ps k) 32

end Go.Proofs.YtjimdkpppgjokaaDoor

namespace Go.Proofs.YtjimdkpppgjokaaDoor
open Go.RowKit
set_option linter.unusedVariables false
set_option linter.unusedSimpArgs false

theorem Sh.tou {w w' : World} {LB : Nat → Nat} (h : Sh w) (ht : Tou LB w w') (h0 : LB 0 = 0) (h1 : LB 1 = 0) : Sh w' :=
  ⟨⟨Nat.lt_of_lt_of_le h.1.1 ht.size, fun i hi => (World.cell?_of_block (a := ⟨0, i, none⟩) (ht.block _ h.1.1 h0)).trans (h.1.2 i hi)⟩, ⟨Nat.lt_of_lt_of_le h.2.1 ht.size, fun i hi => (World.cell?_of_block (a := ⟨1, i, none⟩) (ht.block _ h.2.1 h1)).trans (h.2.2 i hi)⟩⟩
/-- A place's address, whole. -/
def ix48 (x i : Value) : Sem Value := Instr.indexAt 48 x i
theorem ix48_eq (x i : Value) : Instr.indexAt 48 x i = ix48 x i := rfl
theorem size_int (w : World) : (sizeOf 3).run Tryd.prog w = .ok 1 w := by
  have hi : (Tryd.prog.info? 3).map (·.size) = some 1 := by kernel_rfl
  cases hq : Tryd.prog.info? 3 with
  | none => simp [hq] at hi
  | some i => simp [hq] at hi; simp [sizeOf, typeInfo, hq, hi]
theorem ix48_run (w : World) (b off len cap i : Nat) (h : i < len) : (ix48 (.slice (some ⟨b, off, none⟩) len cap) (.int .i64 i)).run Tryd.prog w = .ok (.pointer (some ⟨b, off + i, none⟩)) w := by
  unfold ix48 Instr.indexAt
  have h1 : (0 : Int) ≤ (i : Int) ∧ (i : Int) < (len : Int) := by omega
  simp only [asIntOf, Sem.run_bind, Sem.run_pure, Result.andThen_ok, run_underlying Tryd.underlying48, if_pos h1, size_int, Addr.add_mid, Int.toNat_natCast, Nat.mul_one]
theorem upd_upd {α : Type} (g : Nat → α) (d : Nat) (x y : α) : upd (upd g d x) d y = upd g d y := by
  funext e
  unfold upd
  by_cases h : e = d <;> simp [h]
/-- The node above two neighbours. -/
def abv (f : Nat → Int) (len d p : Nat) : Nat → Int := tw (gt32 f len d (2 * p)) (gt32 f len d (2 * p + 1))
/-- What region 7 of reckonRow keeps. -/
def SSd (t R y d D L cap : Nat) (a : Option Addr) (c : Nat → Int) (W : World) : Prop :=
  W.cell? ⟨t, 1, none⟩ = some (.slice (some ⟨R, 0, none⟩) (D + 1) (D + 1)) ∧ W.cell? ⟨R, d, none⟩ = some (.slice a L cap) ∧ (lv24 ⟨y, 0, none⟩).run Tryd.prog W = .ok (.agg (vs .u8 32 c)) W
theorem Tou.label {LB LB' : Nat → Nat} {w a b : World} (h : Tou LB w a) (k : Tou LB' a b) (hl : ∀ i, i < w.heap.size → LB' i = LB i) : Tou LB w b :=
  ⟨k.os.trans h.os, k.tape.trans h.tape, k.output.trans h.output, Nat.le_trans h.size k.size, fun i hi hn => (k.block i (Nat.lt_of_lt_of_le hi h.size) ((hl i hi).trans hn)).trans (h.block i hi hn)⟩
theorem Tou.ofGrown {LB : Nat → Nat} {a b : World} {g : Nat} (h : a.grownBy b (some g)) (hg : LB g ≠ 0) : Tou LB a b := ⟨h.os, h.tape, h.output, h.size, fun k hk hl => h.block k hk (fun e => hg (by cases e; exact hl))⟩

attribute [local go_sem ↓] sv24_eq lv24_eq ix22_eq slr_eq bd27_eq bs22_eq bd58_eq mk55_eq ix56_eq ix55_eq ix51_eq ix48_eq

set_option maxRecDepth 20000 in
set_option maxHeartbeats 4000000 in
theorem treck_row {w : World} {LB : Nat → Nat} {t n D R : Nat} {rv : Nat → Value} {ln : Nat → Nat} {rf : Nat → Nat → Int} {cv : Value} {cn : Nat} {cs : Nat → Int} {iv : Value} {ib : Nat → Bool} {hs : Int} (h : Tre w LB t n D R rv ln rf cv cn cs iv ib hs) (d e : Nat) (hd : d ≤ D) (hde : d = e + 1) (hS : Sh w) (hS0 : LB 0 = 0) (hS1 : LB 1 = 0) (hb : ByB (rf e) (32 * ln e))
    (ap : Option Addr) (bp op m cp : Nat) (ps : Nat → Nat) (hap : 0 < m → ap = some ⟨bp, op, none⟩) (hbp : bp < w.heap.size) (hlp : LB bp = 0) (hcp : ∀ k, k < m → w.cell? ⟨bp, op + k, none⟩ = some (.int .i64 (ps k))) (hpb : ∀ k, k < m → ps k ≤ 1099511627776) (hpl : ∀ k, k < m → ps k ≤ rkL ps (ln d) k) (hrb : ∀ k, k ≤ m → rkL ps (ln d) k ≤ 1099511627776) (hm : m ≤ 1099511627776) (hh0 : 0 ≤ hs) (hh1 : hs ≤ 1152921504606846976) :
    Calls Tryd.prog 44 #[.pointer (some ⟨t, 0, none⟩), .int .i64 d, .slice ap m cp] w fun e' w' => e' = .returned (.tuple #[]) ∧ ∃ LB' rv', (∀ k, k < w.heap.size → LB' k = LB k) ∧ Tou LB w w' ∧ Tre w' LB' t n D R rv' (upd ln d (rkL ps (ln d) m)) (upd rf d (rkF ps (ln d) (rf d) (abv (rf e) (ln e) e) m)) cv cn cs iv ib (hs + m) := by
  have HH : Hid (∃ LB' rv', (∀ k, k < w.heap.size → LB' k = LB k) ∧ Tou LB w w ∧ Tre w LB' t n D R rv' (upd ln d (rkL ps (ln d) 0)) (upd rf d (rkF ps (ln d) (rf d) (abv (rf e) (ln e) e) 0)) cv cn cs iv ib (hs + (0 : Nat))) := by
    refine ⟨LB, rv, fun _ _ => rfl, Tou.refl _ _, ?_⟩
    have e1 : upd ln d (rkL ps (ln d) 0) = ln := by funext x; unfold upd rkL; by_cases hx : x = d <;> simp [hx]
    have e2 : upd rf d (rkF ps (ln d) (rf d) (abv (rf e) (ln e) e) 0) = rf := by funext x; unfold upd rkF; by_cases hx : x = d <;> simp [hx]
    rw [e1, e2, show hs + ((0 : Nat) : Int) = hs by omega]
    exact h
  have HS := hid hS
  have HB := hid hb
  have HCP := hid hcp
  have HPL := hid hpl
  have HRB := hid hrb
  have HPB := hid hpb
  have HAP := hid hap
  have s1 : (d : Int) - 1 = (e : Int) := by omega
  have hd30 : d ≤ 30 := Nat.le_trans hd h.dep
  have HDE := hid hde
  have he30 : e ≤ 30 := by omega
  clear h hS hb hcp hpl hrb hpb hap hde
  go_enter Tryd.func44, Tryd.ntmps44
  go_wp2
  go_loopw [11] (fun i wr => ∃ k : Nat, k ≤ m ∧ i = .int .i64 k ∧ ∃ LB' rv', (∀ k, k < w.heap.size → LB' k = LB k) ∧ Tou LB w wr ∧ Tre wr LB' t n D R rv' (upd ln d (rkL ps (ln d) k)) (upd rf d (rkF ps (ln d) (rf d) (abv (rf e) (ln e) e) k)) cv cn cs iv ib (hs + k)) (fun i _ => m - (intOf i).toNat)
  case atStart => exact ⟨0, by omega, rfl, HH.out⟩
  case round =>
    clear HH
    obtain ⟨k, hk, rfl, LBk, rvk, hlk, tou, hT⟩ := hrel
    by_cases hlt : k < m
    · have b3 : decide (k < m) = true := by simp; omega
      have eap := HAP.out (by omega)
      subst eap
      obtain ⟨p, ep⟩ : ∃ p, ps k = p := ⟨_, rfl⟩
      have hp := HPB.out k hlt
      have hpl := HPL.out k hlt
      rw [ep] at hp hpl
      have cP := (World.cell?_of_block (a := ⟨bp, op + k, none⟩) (tou.block bp hbp hlp)).trans (HCP.out k hlt)
      rw [ep] at cP
      have ixp := fun W => ix48_run W bp op m cp k hlt
      obtain ⟨p2, ep2⟩ : ∃ p2, p2 = 2 * p := ⟨_, rfl⟩
      obtain ⟨p3, ep3⟩ : ∃ p3, p3 = 2 * p + 1 := ⟨_, rfl⟩
      have r2 : (2 : Int) * (p : Int) = (p2 : Int) := by omega
      have r3 : (p2 : Int) + 1 = (p3 : Int) := by omega
      have hp2 : p2 ≤ 2199023255552 := by omega
      have hp3 : p3 ≤ 2199023255553 := by omega
      have hde := HDE.out
      have val : ∀ q, tat (upd ln d (rkL ps (ln d) k)) (upd rf d (rkF ps (ln d) (rf d) (abv (rf e) (ln e) e) k)) e q = gt32 (rf e) (ln e) e q := fun q => by
        unfold tat
        rw [upd_ne _ _ _ _ (by omega), upd_ne _ _ _ _ (by omega)]
      have ha : ∀ W q, Below wr.heap.size wr W → q ≤ 4611686018427387904 → Calls Tryd.prog 27 #[.pointer (some ⟨t, 0, none⟩), .int .i64 e, .int .i64 (q : Nat)] W fun e' w' => e' = .returned (.agg (vs .u8 32 (gt32 (rf e) (ln e) e q))) ∧ Below wr.heap.size wr w' := fun W q hW hq => by
        have := tat_any (hT.below hW) e q (by omega) hq
        rw [val] at this
        exact this.mono (fun e' w' hq => ⟨hq.1, hW.trans (hq.2.mono hW.size)⟩)
      have eC : tw (gt32 (rf e) (ln e) e p2) (gt32 (rf e) (ln e) e p3) = abv (rf e) (ln e) e p := by unfold abv; rw [ep2, ep3]
      have htw : ∀ W, Below wr.heap.size wr W → Calls Tryd.prog 25 #[.agg (vs .u8 32 (gt32 (rf e) (ln e) e p2)), .agg (vs .u8 32 (gt32 (rf e) (ln e) e p3))] W fun e' w' => e' = .returned (.agg (vs .u8 32 (abv (rf e) (ln e) e p))) ∧ Below wr.heap.size wr w' := fun W hW => by
        have := two_tw _ _ W ((HS.out.tou tou hS0 hS1).below hW) (gt32_bd HB.out e p2) (gt32_bd HB.out e p3)
        rw [eC] at this
        exact this.mono (fun e' w' hq => ⟨hq.1, hW.trans (hq.2.mono hW.size)⟩)
      obtain ⟨C, hC⟩ : ∃ C, abv (rf e) (ln e) e p = C := ⟨_, rfl⟩
      rw [hC] at htw
      generalize gt32 (rf e) (ln e) e = G at ha htw
      have HB0 := hid (Below.refl wr.heap.size wr)
      have z := zero_root
      have v1 := fun W => sv24_newv W (fun _ => 0) C
      have HA := hid ha
      have HTW := hid htw
      have HT := hid hT
      have HC := hid hC
      have HPP := hid (And.intro ep (And.intro ep2 ep3))
      have TOU := hid tou
      have HLK := hid hlk
      have HLP := hid hpl
      clear ha htw hT eC val hC ep ep2 ep3 tou hlk hde hpl
      go_upto_region 4 with (first
        | (go_at_call 27; refine (HA.out _ _ HB1.out (by omega)).mono ?_; rintro e' w2 ⟨rfl, hb2⟩; have HB2 := hid hb2; clear hb2)
        | (go_at_call 27; refine (HA.out _ _ HB0.out (by omega)).mono ?_; rintro e' w1 ⟨rfl, hb1⟩; have HB1 := hid hb1; clear hb1)
        | (go_at_call 25; refine (HTW.out _ HB2.out).mono ?_; rintro e' w3 ⟨rfl, hb3⟩))
      obtain ⟨Lk, eL⟩ : ∃ L, rkL ps (ln d) k = L := ⟨_, rfl⟩
      obtain ⟨Fk, eF⟩ : ∃ F, rkF ps (ln d) (rf d) (abv (rf e) (ln e) e) k = F := ⟨_, rfl⟩
      have hT := HT.out
      rw [eL, eF] at hT
      have hpl := HLP.out
      rw [eL] at hpl
      have hLb : Lk ≤ 1099511627776 := by rw [← eL]; exact HRB.out k hk
      have hb4 : Below wr.heap.size wr (w3.alloc (.cells (vs .u8 32 C) 33)) := hb3.alloc hb3.size _
      have ry : (w3.alloc (.cells (vs .u8 32 C) 33)).heap[w3.heap.size]? = some (.cells (vs .u8 32 C) 33) := heap_new rfl
      have hyw := hb3.size
      obtain ⟨y, ey⟩ : ∃ y, w3.heap.size = y := ⟨_, rfl⟩
      obtain ⟨W4, hW4⟩ : ∃ W, w3.alloc (.cells (vs .u8 32 C) 33) = W := ⟨_, rfl⟩
      rw [hW4] at hb4 ry ⊢
      rw [ey] at ry hyw ⊢
      clear hW4 ey
      have hT4 := hT.below hb4
      obtain ⟨hk1, eh⟩ : ∃ x : Int, hs + (k : Int) = x := ⟨_, rfl⟩
      rw [eh] at hT4
      have hb1 : 0 ≤ hk1 ∧ hk1 ≤ 1152922604118474752 := by omega
      have c6 := row_cell hT4.blk 996
      rw [trA_996] at c6
      have f6 := row_frozen hT4.blk 996
      have ww : IntKind.i64.wrap (hk1 + 1) = hk1 + 1 := i64_of _ (by omega) (by omega)
      obtain ⟨gr5, hT5⟩ := hT4.hash (hk1 + 1)
      have hyt : y ≠ t := fun e => by
        have := (Array.getElem?_eq_some_iff.1 hT.blk).1
        omega
      have ry5 : (W4.setCell ⟨t, 996, none⟩ (.int .i64 (hk1 + 1))).heap[y]? = some (.cells (vs .u8 32 C) 33) := (heap_set_other hyt).trans ry
      have tou5 := TOU.out.label ((Tou.ofBelow (LB := LBk) hb4).trans (Tou.ofGrown gr5 (by rw [hT.lt]; omega))) HLK.out
      have hs5 : W4.heap.size = (W4.setCell ⟨t, 996, none⟩ (.int .i64 (hk1 + 1))).heap.size := (size_s _ _ _).symm
      obtain ⟨W5, hW5⟩ : ∃ W, W4.setCell ⟨t, 996, none⟩ (.int .i64 (hk1 + 1)) = W := ⟨_, rfl⟩
      rw [hW5] at hT5 ry5 tou5 hs5
      obtain ⟨a, cap, hv⟩ := row_form (hT5.row d hd).1
      rw [upd_at] at hv
      have hdr : Below W5.heap.size W5 W5.drew := (Below.refl _ _).drew
      have hTX := hT5.below hdr
      obtain ⟨X, eX⟩ : ∃ X, W5.drew = X := ⟨_, rfl⟩
      rw [eX] at hTX
      have ryX : X.heap[y]? = some (.cells (vs .u8 32 C) 33) := by rw [← eX]; exact ry5
      have touX : Tou LB w X := by rw [← eX]; exact ⟨tou5.os, tou5.tape, tou5.output, tou5.size, tou5.block⟩
      have hsX : X.heap.size = W4.heap.size := by rw [← eX, hs5]; rfl
      have hyX := (Array.getElem?_eq_some_iff.1 ryX).1
      have c51 := row_cell hT5.blk 1
      rw [trA_1] at c51
      have c52 := row_cell hT5.rws d
      rw [rA_get _ _ _ (by omega), hv] at c52
      have cX1 := row_cell hTX.blk 1
      rw [trA_1] at cX1
      have cX2 := row_cell hTX.rws d
      rw [rA_get _ _ _ (by omega), hv] at cX2
      have htX := (Array.getElem?_eq_some_iff.1 hTX.blk).1
      have hRX := (Array.getElem?_eq_some_iff.1 hTX.rws).1
      have ixf := fun W => ix55_run W R (D + 1) (D + 1) d (by omega)
      have lX : (lv24 ⟨y, 0, none⟩).run Tryd.prog X = .ok (.agg (vs .u8 32 C)) X := lv24_run ryX
      have lyT : ∀ W : World, W.heap[y]? = X.heap[y]? → (lv24 ⟨y, 0, none⟩).run Tryd.prog W = .ok (.agg (vs .u8 32 C)) W := fun W e => lv24_run (e.trans ryX)
      have hrw := (hT.row d hd).1
      have hlne : (rvk d).ownBlock ≠ some y := fun e => by
        have := (hrw.lt _ e).2
        omega
      have hyR : R ≠ y := fun e => by
        have := (Array.getElem?_eq_some_iff.1 hT.rws).1
        omega
      by_cases hpe : p = Lk
      · subst hpe
        obtain ⟨v', w5, hrun, hfm, hR5, ht5, hk5, hs6, tou6', hT6⟩ := hTX.grow d hd (by have := HDE.out; omega) C (by rw [upd_at]; exact hLb) 26
        rw [upd_at] at hfm
        obtain ⟨a5, cap5, rfl⟩ := hfm
        rw [hv] at hrun hk5
        have hlne2 := hlne
        rw [hv] at hlne2
        have tou6 : Tou LB w (w5.setCell ⟨R, d, none⟩ (.slice a5 (p + 1) cap5)) := touX.label tou6' HLK.out
        have lt := hTX.lt
        have lR := hTX.lR
        have hRt : t ≠ R := fun e => by rw [e] at lt; omega
        have sX : S5 t R y D C X := ⟨cX1, lX⟩
        have sA : S5 t R y D C (X.alloc (.cells (vs .u8 32 C) 33)) := ⟨(World.cell?_of_block (a := ⟨t, 1, none⟩) (heap_old htX)).trans cX1, lyT _ (heap_old hyX)⟩
        have cA2 : (X.alloc (.cells (vs .u8 32 C) 33)).cell? ⟨R, d, none⟩ = some (.slice a p cap) := (World.cell?_of_block (a := ⟨R, d, none⟩) (heap_old hRX)).trans cX2
        have s5 : S5 t R y D C w5 := ⟨(World.cell?_of_block (a := ⟨t, 1, none⟩) ht5).trans cX1, lyT w5 (hk5 _ hyX hlne2)⟩
        have c5 : w5.cell? ⟨R, d, none⟩ = some (.slice a p cap) := (World.cell?_of_block (a := ⟨R, d, none⟩) hR5).trans cX2
        have f5 : w5.frozen? ⟨R, d, none⟩ = false := row_frozen (hR5.trans hTX.rws) d
        have s6 : S5 t R y D C (w5.setCell ⟨R, d, none⟩ (.slice a5 (p + 1) cap5)) := ⟨(World.cell?_of_block (a := ⟨t, 1, none⟩) ((heap_set_other hRt).trans ht5)).trans cX1, lyT _ ((heap_set_other (fun e => hyR e.symm)).trans (hk5 _ hyX hlne2))⟩
        obtain ⟨w6, ew6⟩ : ∃ x, w5.setCell ⟨R, d, none⟩ (.slice a5 (p + 1) cap5) = x := ⟨_, rfl⟩
        rw [ew6] at hT6 s6 tou6
        have d1 : ((p : Int) == (p : Int)) = true := by simp
        have d2 : (p == p) = true := by simp
        have hszX := touX.size
        have FIN : Hid (∃ LB' rv', (∀ k, k < w.heap.size → LB' k = LB k) ∧ Tou LB w w6 ∧ Tre w6 LB' t n D R rv' (upd ln d (rkL ps (ln d) (k + 1))) (upd rf d (rkF ps (ln d) (rf d) (abv (rf e) (ln e) e) (k + 1))) cv cn cs iv ib (hs + ((k + 1 : Nat) : Int))) := by
          refine ⟨lab' X LBk (5 + d), upd rvk d (.slice a5 (p + 1) cap5), fun b hb => (lab'_old X LBk (5 + d) b (by omega)).trans (HLK.out b hb), tou6, ?_⟩
          have e1 : rkL ps (ln d) (k + 1) = p + 1 := by
            show (if ps k = rkL ps (ln d) k then _ else _) = _
            rw [HPP.out.1, eL, if_pos rfl]
          have e2 : rkF ps (ln d) (rf d) (abv (rf e) (ln e) e) (k + 1) = upr Fk p C := by
            show (if ps k = rkL ps (ln d) k then _ else _) = _
            rw [HPP.out.1, eL, if_pos rfl, eF, HC.out]
          rw [e1, e2, show hs + ((k + 1 : Nat) : Int) = hk1 + 1 by omega]
          rw [upd_at, upd_at, upd_upd, upd_upd] at hT6
          exact hT6
        have bs := fun W => bs22_1 W C
        have HSX := hid sX
        have HSA := hid sA
        have HS5 := hid s5
        have HS6 := hid s6
        have HCX := hid cX2
        have HCA := hid cA2
        have HRUN := hid hrun
        have HC5 := hid (And.intro c5 f5)
        have EW6 := hid ew6
        have EX := hid eX
        have M1 : Hid (∀ W, S5 t R y D C W → W.cell? ⟨t, 1, none⟩ = some (.slice (some ⟨R, 0, none⟩) (D + 1) (D + 1))) := fun W hw => hw.1
        have M4 : Hid (∀ W, S5 t R y D C W → (lv24 ⟨y, 0, none⟩).run Tryd.prog W = .ok (.agg (vs .u8 32 C)) W) := fun W hw => hw.2
        clear hT hT4 hT5 hTX hT6 sX sA s5 s6 eX tou6 tou6' tou5 touX lt lR hRt ew6 ry ry5 ryX hs5 hsX cX1 cX2 cA2 c5 f5 lX lyT hrw hlne hlne2 hyR gr5 hb4 hb3 hdr eL eF eh hv hyt hR5 ht5 hk5 hrun hszX
        go_upto_region 5 with fail
        clear c6 f6 hW5
        go_upto_region 6 with fail
        clear c51 c52
        refine wp_region_noPanic ?_
        refine wp_region_held_drew (S := S5 t R y D C) (by kernel_rfl) (by rw [EX.out]; exact HSX.out) (fun hHeld => ?_)
        rw [EX.out] at hHeld ⊢
        refine wpAnyH_take (i := 0) (v := ?v1) rfl (by kernel_rfl) (by kernel_rfl) (by kernel_rfl) (fun _ _ _ h => h) (Or.inl ⟨by rfl, ?hy1⟩) hHeld ?rest1
        case hy1 =>
          intro w hSw
          go_simp
          try with_reducible rfl
        try simp only [Act.put, List.setIfInBounds_toArray, List.set_cons_zero, List.set_cons_succ, Array.toArray_toList, List.getElem_toArray, List.getElem_cons_zero, List.getElem_cons_succ]
        refine wpAnyH_take (i := 1) (v := ?v2) rfl (by kernel_rfl) (by kernel_rfl) (by kernel_rfl) (fun _ _ _ h => h) (Or.inl ⟨by rfl, ?hy2⟩) hHeld ?rest2
        case hy2 =>
          intro w hSw
          go_simp
          try with_reducible rfl
        try simp only [Act.put, List.setIfInBounds_toArray, List.set_cons_zero, List.set_cons_succ, Array.toArray_toList, List.getElem_toArray, List.getElem_cons_zero, List.getElem_cons_succ]
        refine wpAnyH_take (i := 2) (v := ?v3) rfl (by kernel_rfl) (by kernel_rfl) (by kernel_rfl) (fun _ _ _ h => h) (Or.inl ⟨by rfl, ?hy3⟩) hHeld ?rest3
        case hy3 =>
          intro w hSw
          go_simp
          try with_reducible rfl
        try simp only [Act.put, List.setIfInBounds_toArray, List.set_cons_zero, List.set_cons_succ, Array.toArray_toList, List.getElem_toArray, List.getElem_cons_zero, List.getElem_cons_succ]
        refine wpAnyH_take (i := 3) (v := ?v4) rfl (by kernel_rfl) (by kernel_rfl) (by kernel_rfl) (fun _ _ _ h => h) (Or.inl ⟨by rfl, ?hy4⟩) hHeld ?rest4
        case hy4 =>
          intro w hSw
          have ld := M1.out _ hSw
          go_simp
          try with_reducible rfl
        try simp only [Act.put, List.setIfInBounds_toArray, List.set_cons_zero, List.set_cons_succ, Array.toArray_toList, List.getElem_toArray, List.getElem_cons_zero, List.getElem_cons_succ]
        refine wpAnyH_take (i := 4) (v := ?v5) rfl (by kernel_rfl) (by kernel_rfl) (by kernel_rfl) (fun _ _ _ h => h) (Or.inl ⟨by rfl, ?hy5⟩) hHeld ?rest5
        case hy5 =>
          intro w hSw
          go_simp
          try with_reducible rfl
        try simp only [Act.put, List.setIfInBounds_toArray, List.set_cons_zero, List.set_cons_succ, Array.toArray_toList, List.getElem_toArray, List.getElem_cons_zero, List.getElem_cons_succ]
        refine wpAnyH_take (i := 5) (v := ?v6) rfl (by kernel_rfl) (by kernel_rfl) (by kernel_rfl) (fun _ _ _ h => h) (Or.inl ⟨by rfl, ?hy6⟩) hHeld ?rest6
        case hy6 =>
          intro w hSw
          go_simp
          try with_reducible rfl
        try simp only [Act.put, List.setIfInBounds_toArray, List.set_cons_zero, List.set_cons_succ, Array.toArray_toList, List.getElem_toArray, List.getElem_cons_zero, List.getElem_cons_succ]
        refine wpAnyH_take (i := 6) (v := ?v7) rfl (by kernel_rfl) (by kernel_rfl) (by kernel_rfl) (fun _ _ _ h => h) (Or.inl ⟨by rfl, ?hy7⟩) hHeld ?rest7
        case hy7 =>
          intro w hSw
          go_simp
          try with_reducible rfl
        try simp only [Act.put, List.setIfInBounds_toArray, List.set_cons_zero, List.set_cons_succ, Array.toArray_toList, List.getElem_toArray, List.getElem_cons_zero, List.getElem_cons_succ]
        refine wpAnyH_take (i := 7) (v := ?v8) rfl (by kernel_rfl) (by kernel_rfl) (by kernel_rfl) (fun _ _ _ h => h) (Or.inl ⟨by rfl, ?hy8⟩) hHeld ?rest8
        case hy8 =>
          intro w hSw
          go_simp
          try with_reducible rfl
        try simp only [Act.put, List.setIfInBounds_toArray, List.set_cons_zero, List.set_cons_succ, Array.toArray_toList, List.getElem_toArray, List.getElem_cons_zero, List.getElem_cons_succ]
        refine wpAnyH_take (i := 8) (v := ?v9) rfl (by kernel_rfl) (by kernel_rfl) (by kernel_rfl) (fun _ _ _ h => h) (Or.inl ⟨by rfl, ?hy9⟩) hHeld ?rest9
        case hy9 =>
          intro w hSw
          have ld := M1.out _ hSw
          go_simp
          try with_reducible rfl
        try simp only [Act.put, List.setIfInBounds_toArray, List.set_cons_zero, List.set_cons_succ, Array.toArray_toList, List.getElem_toArray, List.getElem_cons_zero, List.getElem_cons_succ]
        refine wpAnyH_take (i := 9) (v := ?v10) rfl (by kernel_rfl) (by kernel_rfl) (by kernel_rfl) (fun _ _ _ h => h) (Or.inl ⟨by rfl, ?hy10⟩) hHeld ?rest10
        case hy10 =>
          intro w hSw
          go_simp
          try with_reducible rfl
        try simp only [Act.put, List.setIfInBounds_toArray, List.set_cons_zero, List.set_cons_succ, Array.toArray_toList, List.getElem_toArray, List.getElem_cons_zero, List.getElem_cons_succ]
        refine wpAnyH_take (i := 10) (v := ?v11) rfl (by kernel_rfl) (by kernel_rfl) (by kernel_rfl) (fun _ _ _ h => h) (Or.inl ⟨by rfl, ?hy11⟩) hHeld ?rest11
        case hy11 =>
          intro w hSw
          go_simp
          try with_reducible rfl
        try simp only [Act.put, List.setIfInBounds_toArray, List.set_cons_zero, List.set_cons_succ, Array.toArray_toList, List.getElem_toArray, List.getElem_cons_zero, List.getElem_cons_succ]
        refine wpAnyH_take (i := 12) (v := ?v12) rfl (by kernel_rfl) (by kernel_rfl) (by kernel_rfl) (fun _ _ _ h => h) (Or.inl ⟨by rfl, ?hy12⟩) hHeld ?rest12
        case hy12 =>
          intro w hSw
          have ld := M4.out _ hSw
          go_simp
          try with_reducible rfl
        try simp only [Act.put, List.setIfInBounds_toArray, List.set_cons_zero, List.set_cons_succ, Array.toArray_toList, List.getElem_toArray, List.getElem_cons_zero, List.getElem_cons_succ]
        refine wpAnyH_ready (rs := [11, 13]) (by kernel_rfl) (by simp) ?_
        refine AllReadyH.cons rfl (fun K hK => ?_) (AllReadyH.cons rfl (fun K hK => ?_) AllReadyH.nil)
        · have cx := HCX.out
          go_simp
          refine hK.out _ _ HSX.out (fun hHeld => ?_)
          clear hK K cx
          try simp only [Act.put, List.setIfInBounds_toArray, List.set_cons_zero, List.set_cons_succ, Array.toArray_toList, List.getElem_toArray, List.getElem_cons_zero, List.getElem_cons_succ]
          refine wpAnyH_ready (rs := [13]) (by kernel_rfl) (by simp) ?_
          refine AllReadyH.cons rfl (fun K hK => ?_) AllReadyH.nil
          go_simp
          refine hK.out _ _ (HSA.out) (fun hHeld => ?_)
          clear hK K
          try simp only [Act.put, List.setIfInBounds_toArray, List.set_cons_zero, List.set_cons_succ, Array.toArray_toList, List.getElem_toArray, List.getElem_cons_zero, List.getElem_cons_succ]
          refine wpAnyH_ready (rs := [14]) (by kernel_rfl) (by simp) ?_
          refine AllReadyH.cons rfl (fun K hK => ?_) AllReadyH.nil
          rw [if_pos (by rfl)]
          refine wp_appendT_is _ _ rfl _ _ _ _ rfl rfl HRUN.out ?_
          refine hK.out _ _ (HS5.out) (fun hHeld => ?_)
          clear hK K
          try simp only [Act.put, List.setIfInBounds_toArray, List.set_cons_zero, List.set_cons_succ, Array.toArray_toList, List.getElem_toArray, List.getElem_cons_zero, List.getElem_cons_succ]
          refine wpAnyH_take (i := 15) (v := ?v13) rfl (by kernel_rfl) (by kernel_rfl) (by kernel_rfl) (fun _ _ _ h => h) (Or.inl ⟨by rfl, ?hy13⟩) hHeld ?rest13
          case hy13 =>
            intro w hSw
            go_simp
            try with_reducible rfl
          try simp only [Act.put, List.setIfInBounds_toArray, List.set_cons_zero, List.set_cons_succ, Array.toArray_toList, List.getElem_toArray, List.getElem_cons_zero, List.getElem_cons_succ]
          refine wpAnyH_ready (rs := [16]) (by kernel_rfl) (by simp) ?_
          refine AllReadyH.cons rfl (fun K hK => ?_) AllReadyH.nil
          have c5 := HC5.out.1
          have f5 := HC5.out.2
          go_simp
          rw [EW6.out]
          refine hK.out _ _ (HS6.out) (fun hHeld => ?_)
          clear hK K
          try simp only [Act.put, List.setIfInBounds_toArray, List.set_cons_zero, List.set_cons_succ, Array.toArray_toList, List.getElem_toArray, List.getElem_cons_zero, List.getElem_cons_succ]
          refine wpAnyH_done (by kernel_rfl) ?_ _
          refine NoPanic.normal ?_
          go_wp2
          go_roundw
          case rel => exact ⟨k + 1, by omega, by go_num, FIN.out⟩
          case measure => simp [intOf]; omega
        · go_simp
          refine hK.out _ _ HSA.out (fun hHeld => ?_)
          clear hK K
          try simp only [Act.put, List.setIfInBounds_toArray, List.set_cons_zero, List.set_cons_succ, Array.toArray_toList, List.getElem_toArray, List.getElem_cons_zero, List.getElem_cons_succ]
          refine wpAnyH_ready (rs := [11]) (by kernel_rfl) (by simp) ?_
          refine AllReadyH.cons rfl (fun K hK => ?_) AllReadyH.nil
          have cx := HCA.out
          go_simp
          refine hK.out _ _ (HSA.out) (fun hHeld => ?_)
          clear hK K cx
          try simp only [Act.put, List.setIfInBounds_toArray, List.set_cons_zero, List.set_cons_succ, Array.toArray_toList, List.getElem_toArray, List.getElem_cons_zero, List.getElem_cons_succ]
          refine wpAnyH_ready (rs := [14]) (by kernel_rfl) (by simp) ?_
          refine AllReadyH.cons rfl (fun K hK => ?_) AllReadyH.nil
          rw [if_pos (by rfl)]
          refine wp_appendT_is _ _ rfl _ _ _ _ rfl rfl HRUN.out ?_
          refine hK.out _ _ (HS5.out) (fun hHeld => ?_)
          clear hK K
          try simp only [Act.put, List.setIfInBounds_toArray, List.set_cons_zero, List.set_cons_succ, Array.toArray_toList, List.getElem_toArray, List.getElem_cons_zero, List.getElem_cons_succ]
          refine wpAnyH_take (i := 15) (v := ?v14) rfl (by kernel_rfl) (by kernel_rfl) (by kernel_rfl) (fun _ _ _ h => h) (Or.inl ⟨by rfl, ?hy14⟩) hHeld ?rest14
          case hy14 =>
            intro w hSw
            go_simp
            try with_reducible rfl
          try simp only [Act.put, List.setIfInBounds_toArray, List.set_cons_zero, List.set_cons_succ, Array.toArray_toList, List.getElem_toArray, List.getElem_cons_zero, List.getElem_cons_succ]
          refine wpAnyH_ready (rs := [16]) (by kernel_rfl) (by simp) ?_
          refine AllReadyH.cons rfl (fun K hK => ?_) AllReadyH.nil
          have c5 := HC5.out.1
          have f5 := HC5.out.2
          go_simp
          rw [EW6.out]
          refine hK.out _ _ (HS6.out) (fun hHeld => ?_)
          clear hK K
          try simp only [Act.put, List.setIfInBounds_toArray, List.set_cons_zero, List.set_cons_succ, Array.toArray_toList, List.getElem_toArray, List.getElem_cons_zero, List.getElem_cons_succ]
          refine wpAnyH_done (by kernel_rfl) ?_ _
          refine NoPanic.normal ?_
          go_wp2
          go_roundw
          case rel => exact ⟨k + 1, by omega, by go_num, FIN.out⟩
          case measure => simp [intOf]; omega
      · have hpl2 : p < upd ln d Lk d := by rw [upd_at]; omega
        obtain ⟨g, cap2, hvg, hlg, hgX, p1, p3, hT6⟩ := hTX.put d p hd hpl2 C
        rw [hv, upd_at] at hvg
        cases hvg
        have hgy : y ≠ g := fun e => by
          have := (hrw.lt g (by rw [hv]; rfl)).2
          omega
        obtain ⟨w6, ew6⟩ : ∃ x, X.setCells g (32 * p) (bl C 32) = x := ⟨_, rfl⟩
        rw [ew6] at p1 p3 hT6
        have tou6 : Tou LB w w6 := touX.label (Tou.ofGrown (LB := LBk) p3 (by rw [hlg]; omega)) HLK.out
        have hne : ∀ k, k ≠ g → k < X.heap.size → w6.heap[k]? = X.heap[k]? := fun k hk hl => p3.block k hl (fun e => hk (by cases e; rfl))
        have lt := hTX.lt
        have lR := hTX.lR
        have hgt : t ≠ g := fun e => by rw [e] at lt; omega
        have hgR : R ≠ g := fun e => by rw [e] at lR; omega
        have sX : SSd t R y d D Lk cap (some ⟨g, 0, none⟩) C X := ⟨cX1, cX2, lX⟩
        have s6 : SSd t R y d D Lk cap (some ⟨g, 0, none⟩) C w6 := ⟨(World.cell?_of_block (a := ⟨t, 1, none⟩) (hne t hgt htX)).trans cX1, (World.cell?_of_block (a := ⟨R, d, none⟩) (hne R hgR hRX)).trans cX2, lyT w6 (hne y hgy hyX)⟩
        have ixg := fun W => ix22_run W g 0 Lk cap p (by omega)
        rw [show 0 + 32 * p = 32 * p by omega] at ixg
        have d1 : ((p : Int) == (Lk : Int)) = false := by simp; omega
        have d2 : (p == Lk) = false := by simp; omega
        have FIN : Hid (∃ LB' rv', (∀ k, k < w.heap.size → LB' k = LB k) ∧ Tou LB w w6 ∧ Tre w6 LB' t n D R rv' (upd ln d (rkL ps (ln d) (k + 1))) (upd rf d (rkF ps (ln d) (rf d) (abv (rf e) (ln e) e) (k + 1))) cv cn cs iv ib (hs + ((k + 1 : Nat) : Int))) := by
          refine ⟨LBk, rvk, HLK.out, tou6, ?_⟩
          have e1 : rkL ps (ln d) (k + 1) = Lk := by
            show (if ps k = rkL ps (ln d) k then _ else _) = _
            rw [HPP.out.1, eL, if_neg hpe]
          have e2 : rkF ps (ln d) (rf d) (abv (rf e) (ln e) e) (k + 1) = over Fk C (32 * p) 32 := by
            show (if ps k = rkL ps (ln d) k then _ else _) = _
            rw [HPP.out.1, eL, if_neg hpe, eF, HC.out]
          rw [e1, e2, show hs + ((k + 1 : Nat) : Int) = hk1 + 1 by omega]
          rw [upd_at, upd_upd] at hT6
          exact hT6
        have HSX := hid sX
        have HS6 := hid s6
        have EX := hid eX
        have M1 : Hid (∀ W, SSd t R y d D Lk cap (some ⟨g, 0, none⟩) C W → W.cell? ⟨t, 1, none⟩ = some (.slice (some ⟨R, 0, none⟩) (D + 1) (D + 1))) := fun W hw => hw.1
        have M2 : Hid (∀ W, SSd t R y d D Lk cap (some ⟨g, 0, none⟩) C W → W.cell? ⟨R, d, none⟩ = some (.slice (some ⟨g, 0, none⟩) Lk cap)) := fun W hw => hw.2.1
        have M4 : Hid (∀ W, SSd t R y d D Lk cap (some ⟨g, 0, none⟩) C W → (lv24 ⟨y, 0, none⟩).run Tryd.prog W = .ok (.agg (vs .u8 32 C)) W) := fun W hw => hw.2.2
        clear hT hT4 hT5 hTX hT6 sX s6 eX tou6 tou5 touX hne lt lR hgt hgR ew6 p3 ry ry5 ryX hs5 hsX cX1 cX2 lX lyT hrw hlne hyR hgy gr5 hb4 hb3 hdr eL eF eh hv hyt
        go_upto_region 5 with fail
        clear c6 f6 hW5
        go_upto_region 7 with fail
        clear c51 c52
        refine wp_region_noPanic ?_
        refine wp_region_held_drew (S := SSd t R y d D Lk cap (some ⟨g, 0, none⟩) C) (by kernel_rfl) (by rw [EX.out]; exact HSX.out) (fun hHeld => ?_)
        rw [EX.out] at hHeld ⊢
        refine wpAnyH_take (i := 0) (v := ?v15) rfl (by kernel_rfl) (by kernel_rfl) (by kernel_rfl) (fun _ _ _ h => h) (Or.inl ⟨by rfl, ?hy15⟩) hHeld ?rest15
        case hy15 =>
          intro w hSw
          go_simp
          try with_reducible rfl
        try simp only [Act.put, List.setIfInBounds_toArray, List.set_cons_zero, List.set_cons_succ, Array.toArray_toList, List.getElem_toArray, List.getElem_cons_zero, List.getElem_cons_succ]
        refine wpAnyH_take (i := 1) (v := ?v16) rfl (by kernel_rfl) (by kernel_rfl) (by kernel_rfl) (fun _ _ _ h => h) (Or.inl ⟨by rfl, ?hy16⟩) hHeld ?rest16
        case hy16 =>
          intro w hSw
          go_simp
          try with_reducible rfl
        try simp only [Act.put, List.setIfInBounds_toArray, List.set_cons_zero, List.set_cons_succ, Array.toArray_toList, List.getElem_toArray, List.getElem_cons_zero, List.getElem_cons_succ]
        refine wpAnyH_take (i := 2) (v := ?v17) rfl (by kernel_rfl) (by kernel_rfl) (by kernel_rfl) (fun _ _ _ h => h) (Or.inl ⟨by rfl, ?hy17⟩) hHeld ?rest17
        case hy17 =>
          intro w hSw
          go_simp
          try with_reducible rfl
        try simp only [Act.put, List.setIfInBounds_toArray, List.set_cons_zero, List.set_cons_succ, Array.toArray_toList, List.getElem_toArray, List.getElem_cons_zero, List.getElem_cons_succ]
        refine wpAnyH_take (i := 3) (v := ?v18) rfl (by kernel_rfl) (by kernel_rfl) (by kernel_rfl) (fun _ _ _ h => h) (Or.inl ⟨by rfl, ?hy18⟩) hHeld ?rest18
        case hy18 =>
          intro w hSw
          have ld := M1.out _ hSw
          go_simp
          try with_reducible rfl
        try simp only [Act.put, List.setIfInBounds_toArray, List.set_cons_zero, List.set_cons_succ, Array.toArray_toList, List.getElem_toArray, List.getElem_cons_zero, List.getElem_cons_succ]
        refine wpAnyH_take (i := 4) (v := ?v19) rfl (by kernel_rfl) (by kernel_rfl) (by kernel_rfl) (fun _ _ _ h => h) (Or.inl ⟨by rfl, ?hy19⟩) hHeld ?rest19
        case hy19 =>
          intro w hSw
          go_simp
          try with_reducible rfl
        try simp only [Act.put, List.setIfInBounds_toArray, List.set_cons_zero, List.set_cons_succ, Array.toArray_toList, List.getElem_toArray, List.getElem_cons_zero, List.getElem_cons_succ]
        refine wpAnyH_take (i := 5) (v := ?v20) rfl (by kernel_rfl) (by kernel_rfl) (by kernel_rfl) (fun _ _ _ h => h) (Or.inl ⟨by rfl, ?hy20⟩) hHeld ?rest20
        case hy20 =>
          intro w hSw
          go_simp
          try with_reducible rfl
        try simp only [Act.put, List.setIfInBounds_toArray, List.set_cons_zero, List.set_cons_succ, Array.toArray_toList, List.getElem_toArray, List.getElem_cons_zero, List.getElem_cons_succ]
        refine wpAnyH_take (i := 6) (v := ?v21) rfl (by kernel_rfl) (by kernel_rfl) (by kernel_rfl) (fun _ _ _ h => h) (Or.inl ⟨by rfl, ?hy21⟩) hHeld ?rest21
        case hy21 =>
          intro w hSw
          have ld := M2.out _ hSw
          go_simp
          try with_reducible rfl
        try simp only [Act.put, List.setIfInBounds_toArray, List.set_cons_zero, List.set_cons_succ, Array.toArray_toList, List.getElem_toArray, List.getElem_cons_zero, List.getElem_cons_succ]
        refine wpAnyH_take (i := 7) (v := ?v22) rfl (by kernel_rfl) (by kernel_rfl) (by kernel_rfl) (fun _ _ _ h => h) (Or.inl ⟨by rfl, ?hy22⟩) hHeld ?rest22
        case hy22 =>
          intro w hSw
          go_simp
          try with_reducible rfl
        try simp only [Act.put, List.setIfInBounds_toArray, List.set_cons_zero, List.set_cons_succ, Array.toArray_toList, List.getElem_toArray, List.getElem_cons_zero, List.getElem_cons_succ]
        refine wpAnyH_take (i := 8) (v := ?v23) rfl (by kernel_rfl) (by kernel_rfl) (by kernel_rfl) (fun _ _ _ h => h) (Or.inl ⟨by rfl, ?hy23⟩) hHeld ?rest23
        case hy23 =>
          intro w hSw
          have ld := M4.out _ hSw
          go_simp
          try with_reducible rfl
        try simp only [Act.put, List.setIfInBounds_toArray, List.set_cons_zero, List.set_cons_succ, Array.toArray_toList, List.getElem_toArray, List.getElem_cons_zero, List.getElem_cons_succ]
        refine wpAnyH_take (i := 9) (v := ?v24) rfl (by kernel_rfl) (by kernel_rfl) (by kernel_rfl) (fun _ _ _ h => h) (Or.inl ⟨by rfl, ?hy24⟩) hHeld ?rest24
        case hy24 =>
          intro w hSw
          go_simp
          try with_reducible rfl
        try simp only [Act.put, List.setIfInBounds_toArray, List.set_cons_zero, List.set_cons_succ, Array.toArray_toList, List.getElem_toArray, List.getElem_cons_zero, List.getElem_cons_succ]
        refine wpAnyH_ready (rs := [10]) (by kernel_rfl) (by simp) ?_
        refine AllReadyH.cons rfl (fun K hK => ?_) AllReadyH.nil
        go_simp
        refine hK.out _ _ (HS6.out) (fun hHeld => ?_)
        clear hK K
        try simp only [Act.put, List.setIfInBounds_toArray, List.set_cons_zero, List.set_cons_succ, Array.toArray_toList, List.getElem_toArray, List.getElem_cons_zero, List.getElem_cons_succ]
        refine wpAnyH_done (by kernel_rfl) ?_ _
        refine NoPanic.normal ?_
        go_wp2
        go_roundw
        case rel => exact ⟨k + 1, by omega, by go_num, FIN.out⟩
        case measure => simp [intOf]; omega
    · obtain rfl : m = k := by omega
      have b3 : decide (m < m) = false := by simp
      have H : Hid (∃ LB' rv', (∀ k, k < w.heap.size → LB' k = LB k) ∧ Tou LB w wr ∧ Tre wr LB' t n D R rv' (upd ln d (rkL ps (ln d) m)) (upd rf d (rkF ps (ln d) (rf d) (abv (rf e) (ln e) e) m)) cv cn cs iv ib (hs + m)) := ⟨LBk, rvk, hlk, tou, hT⟩
      clear hlk tou hT
      go_wp2
      refine bodyPost_end (results_none rfl _ _ _) rfl ?_
      exact ⟨rfl, H.out⟩

end Go.Proofs.YtjimdkpppgjokaaDoor

namespace Go.Proofs.YtjimdkpppgjokaaDoor
open Go.RowKit
set_option linter.unusedVariables false
set_option linter.unusedSimpArgs false

/-- Numbers of a row, as a list. -/
def iml (zs : List Int) : List Value := zs.map (Value.int .i64)
theorem iml_get (zs : List Int) (j : Nat) (h : j < zs.length) : (iml zs)[j]? = some (.int .i64 (zs.getD j 0)) := by
  unfold iml
  rw [List.getElem?_map, List.getD_eq_getElem?_getD, List.getElem?_eq_getElem h]
  rfl
/-- The first k halved. -/
def hlf (zs : List Int) (k : Nat) : List Int := zs.mapIdx fun j z => if j < k then z / 2 else z
theorem hlf_len (zs : List Int) (k : Nat) : (hlf zs k).length = zs.length := by simp [hlf]
theorem hlf_getD (zs : List Int) (k j : Nat) (h : j < zs.length) : (hlf zs k).getD j 0 = if j < k then zs.getD j 0 / 2 else zs.getD j 0 := by
  unfold hlf
  rw [List.getD_eq_getElem?_getD, List.getElem?_mapIdx, List.getD_eq_getElem?_getD, List.getElem?_eq_getElem h]
  rfl
theorem hlf_zero (zs : List Int) : hlf zs 0 = zs := by
  apply List.ext_getElem?
  intro j
  unfold hlf
  rw [List.getElem?_mapIdx]
  cases zs[j]? <;> simp
theorem hlf_set (zs : List Int) (k : Nat) (h : k < zs.length) : (iml (hlf zs k)).set k (.int .i64 (zs.getD k 0 / 2)) = iml (hlf zs (k + 1)) := by
  apply List.ext_getElem?
  intro j
  by_cases hj : j < zs.length
  · rw [List.getElem?_set, iml_get _ _ (by rw [hlf_len]; exact hj), iml_get _ _ (by rw [hlf_len]; exact hj), hlf_getD _ _ _ hj, hlf_getD _ _ _ hj]
    by_cases hk : k = j
    · subst hk
      rw [if_pos rfl, if_pos (by simp [iml, hlf_len]; exact h), if_pos (by omega)]
    · rw [if_neg hk]
      by_cases h2 : j < k
      · rw [if_pos h2, if_pos (by omega)]
      · rw [if_neg h2, if_neg (by omega)]
  · rw [List.getElem?_eq_none (by simp [iml, hlf_len]; omega), List.getElem?_eq_none (by simp [iml, hlf_len]; omega)]
theorem hlf_all (zs : List Int) : hlf zs zs.length = zs.map (· / 2) := by
  apply List.ext_getElem?
  intro j
  unfold hlf
  rw [List.getElem?_mapIdx, List.getElem?_map]
  by_cases h : j < zs.length
  · rw [List.getElem?_eq_getElem h]
    simp [h]
  · rw [List.getElem?_eq_none (by omega)]
    rfl
/-- A row of the tree's own, written over from its beginning, and cut. -/
theorem own_over {w : World} {g n cap : Nat} {xs : List Value} (h : w.ownsRow 0 3 1 (.slice (some ⟨g, 0, none⟩) n cap) n xs) (ys : List Value) (hy : ys.length = n) (n' : Nat) (hn : n' ≤ n) :
    (w.setCells g 0 ys).ownsRow 0 3 1 (.slice (some ⟨g, 0, none⟩) n' cap) n' (ys.take n') ∧ w.grownBy (w.setCells g 0 ys) (some g) := by
  rcases h.2 with ⟨h1, _⟩ | ⟨g', cap', cur, h1, hb, hg, hnc, hcm, hcs, htake⟩
  · cases h1
  · cases h1
    have hk := setCells_kept ys 0 (Kept.refl g w)
    refine ⟨⟨by rw [List.length_take]; omega, .inr ⟨g, cap, putL cur 0 ys, rfl, hb, setCells_row ys 0 hg, by omega, hcm, by rw [putL_size]; exact hcs, ?_⟩⟩, ⟨hk.os, hk.tape, hk.output, hk.size, fun k hk1 hk2 => hk.block k hk1 (fun e => hk2 (by rw [e]))⟩⟩
    apply List.ext_getElem?
    intro q
    by_cases hq : q < n'
    · rw [List.getElem?_take_of_lt (by omega), Array.getElem?_toList, putL_get _ _ _ _ (by omega), if_pos (by omega), List.getElem?_take_of_lt hq, Nat.sub_zero]
    · rw [List.getElem?_eq_none (by rw [List.length_take]; omega), List.getElem?_eq_none (by rw [List.length_take]; omega)]
theorem drewN_heap (w : World) : ∀ q, (w.drewN q).heap = w.heap ∧ (w.drewN q).os = w.os ∧ (w.drewN q).tape = w.tape ∧ (w.drewN q).output = w.output := by
  intro q
  induction q with
  | zero => exact ⟨rfl, rfl, rfl, rfl⟩
  | succ q ih => exact ih

attribute [local go_sem ↓] sv24_eq lv24_eq ix22_eq slr_eq bd27_eq bs22_eq bd58_eq mk55_eq ix56_eq ix55_eq ix51_eq ix48_eq

set_option maxRecDepth 20000 in
set_option maxHeartbeats 1000000 in
theorem above_any (g cap : Nat) (zs : List Int) (w : World) (ho : w.ownsRow 0 3 1 (.slice (some ⟨g, 0, none⟩) zs.length cap) zs.length (iml zs)) (hz : ∀ j, j < zs.length → 0 ≤ zs.getD j 0 ∧ zs.getD j 0 ≤ 4611686018427387904) (hl : zs.length ≤ 1099511627776) (hcp : (Lib.compact (zs.map (· / 2))).length ≤ zs.length) :
    Calls Tryd.prog 43 #[.slice (some ⟨g, 0, none⟩) zs.length cap] w fun e w' => e = .returned (.slice (some ⟨g, 0, none⟩) (Lib.compact (zs.map (· / 2))).length cap) ∧ w'.ownsRow 0 3 1 (.slice (some ⟨g, 0, none⟩) (Lib.compact (zs.map (· / 2))).length cap) (Lib.compact (zs.map (· / 2))).length (iml (Lib.compact (zs.map (· / 2)))) ∧ w.grownBy w' (some g) := by
  have HO := hid ho
  have HZ := hid hz
  have HCP := hid hcp
  have hncap : zs.length ≤ cap := by
    rcases ho.2 with ⟨h1, _⟩ | ⟨g', cap', cur, h1, hb, hg, hnc, hcm, hcs, htake⟩
    · cases h1
    · cases h1
      exact hnc
  clear ho hz hcp
  obtain ⟨m, em⟩ : ∃ m, zs.length = m := ⟨_, rfl⟩
  rw [em] at hl hncap ⊢
  have EM := hid em
  clear em
  go_enter Tryd.func43, Tryd.ntmps43
  go_wp2
  go_loopw [6] (fun i wr => ∃ k : Nat, k ≤ m ∧ i = .int .i64 k ∧ w.grownBy wr (some g) ∧ wr.ownsRow 0 3 1 (.slice (some ⟨g, 0, none⟩) m cap) m (iml (hlf zs k))) (fun i _ => m - (intOf i).toNat)
  case atStart =>
    refine ⟨0, by omega, rfl, ⟨rfl, rfl, rfl, Nat.le_refl _, fun _ _ _ => rfl⟩, ?_⟩
    rw [hlf_zero, ← EM.out]
    exact HO.out
  case round =>
    obtain ⟨k, hk, rfl, hg, ho⟩ := hrel
    by_cases hlt : k < m
    · have b3 : decide (k < m) = true := by simp; omega
      have hkz : k < zs.length := by have := EM.out; omega
      have c1 := ho.cellAt k (by omega)
      rw [iml_get _ _ (by rw [hlf_len]; exact hkz), hlf_getD _ _ _ hkz, if_neg (by omega)] at c1
      have f1 := ho.frozenAt k
      have hzk := HZ.out k hkz
      have hst := ho.stored k (.int .i64 (zs.getD k 0 / 2))
      rw [hlf_set zs k hkz] at hst
      obtain ⟨Z, eZ⟩ : ∃ Z, zs.getD k 0 = Z := ⟨_, rfl⟩
      rw [eZ] at c1 hzk hst
      have q1 : Z.tdiv 2 = Z / 2 := Int.tdiv_eq_ediv_of_nonneg hzk.1
      have ixp := fun W => ix48_run W g 0 m cap k hlt
      rw [Nat.zero_add] at ixp
      obtain ⟨Y, eY⟩ : ∃ Y, Z / 2 = Y := ⟨_, rfl⟩
      rw [eY] at hst q1
      have hY : 0 ≤ Y ∧ Y ≤ 4611686018427387904 := by omega
      have HST := hid hst
      have HG := hid hg
      clear hst hg ho eZ eY
      go_wp2
      go_roundw
      case rel => exact ⟨k + 1, by omega, by go_num, HG.out.trans HST.out.2, HST.out.1⟩
      case measure => simp [intOf]; omega
    · obtain rfl : m = k := by omega
      have b3 : decide (m < m) = false := by simp
      have hall : hlf zs m = zs.map (· / 2) := by rw [← EM.out]; exact hlf_all zs
      rw [hall] at ho
      have hml : (zs.map (· / 2)).length = m := by rw [List.length_map]; exact EM.out
      have hcc := Tryd.slices_Compact_int_cells g 0 m cap (zs.map (· / 2)) wr (by omega) (by omega) hncap (fun j hj => by
        rw [Nat.zero_add, ho.cellAt j (by omega), iml_get _ _ hj]) (fun j hj => by
        rw [Nat.zero_add]
        exact ho.frozenAt j)
      have hcp := HCP.out
      rw [EM.out] at hcp
      rw [List.take_of_length_le (by omega)] at hcc
      obtain ⟨zc, ezc⟩ : ∃ zc, Lib.compact (zs.map (· / 2)) = zc := ⟨_, rfl⟩
      rw [ezc] at hcc hcp
      have EZC := hid ezc
      clear ezc
      have HCC := hid hcc
      have HO2 := hid ho
      have HG := hid hg
      clear hcc ho hg hall
      go_wp2_with (go_at_call 51; refine HCC.out.mono ?_; rintro e w1 ⟨rfl, q, hw1⟩; have HW1 := hid hw1; clear hw1)
      go_ret
      rw [EZC.out]
      have ho3 : (wr.drewN q).ownsRow 0 3 1 (.slice (some ⟨g, 0, none⟩) m cap) m (iml (zs.map (· / 2))) := HO2.out
      have hov := own_over ho3 ((zc ++ List.replicate (m - zc.length) 0).map (Value.int .i64)) (by simp; omega) zc.length hcp
      have et : ((zc ++ List.replicate (m - zc.length) 0).map (Value.int .i64)).take zc.length = iml zc := by
        rw [List.map_append, List.take_append_of_le_length (by simp)]
        unfold iml
        rw [List.take_of_length_le (by simp)]
      rw [et] at hov
      refine ⟨rfl, ?_, ?_⟩
      · rw [HW1.out]
        exact hov.1
      · rw [HW1.out]
        exact HG.out.trans ⟨hov.2.os, hov.2.tape, hov.2.output, hov.2.size, hov.2.block⟩

end Go.Proofs.YtjimdkpppgjokaaDoor

namespace Go.Proofs.YtjimdkpppgjokaaDoor
open Go.RowKit
set_option linter.unusedVariables false
set_option linter.unusedSimpArgs false

/-- Places below the row's end change no length. -/
theorem rkL_low (ps : Nat → Nat) (L a : Nat) (h : ∀ k, k < a → ps k < L) : ∀ k, k ≤ a → rkL ps L k = L
  | 0, _ => rfl
  | k + 1, hk => by
    have ih := rkL_low ps L a h k (by omega)
    show (if ps k = rkL ps L k then _ else _) = _
    have := h k (by omega)
    rw [ih, if_neg (by omega)]
/-- Places from the row's end on, one by one, make it longer. -/
theorem rkL_high (ps : Nat → Nat) (L a r : Nat) (h : ∀ k, k < a → ps k < L) (h2 : ∀ i, i < r → ps (a + i) = L + i) : ∀ i, i ≤ r → rkL ps L (a + i) = L + i
  | 0, _ => rkL_low ps L a h a (Nat.le_refl _)
  | i + 1, hi => by
    have ih := rkL_high ps L a r h h2 i (by omega)
    have e : rkL ps L (a + (i + 1)) = if ps (a + i) = rkL ps L (a + i) then rkL ps L (a + i) + 1 else rkL ps L (a + i) := rfl
    rw [e, ih, h2 i (by omega), if_pos rfl]
    omega
theorem rk_place (ps : Nat → Nat) (L a r : Nat) (h : ∀ k, k < a → ps k < L) (h2 : ∀ i, i < r → ps (a + i) = L + i) (k : Nat) (hk : k < a + r) : ps k ≤ rkL ps L k := by
  by_cases hka : k < a
  · have := h k hka
    rw [rkL_low ps L a h k (by omega)]
    omega
  · obtain ⟨i, rfl⟩ : ∃ i, k = a + i := ⟨k - a, by omega⟩
    rw [rkL_high ps L a r h h2 i (by omega), h2 i (by omega)]
    exact Nat.le_refl _
theorem rt32_upr (f c : Nat → Int) (n i j : Nat) (hj : j < 32) : rt32 (upr f n c) i j = if i < n then rt32 f i j else if i = n then c j else rt32 (upr f n c) i j := by
  unfold rt32 upr
  by_cases h : i < n
  · rw [if_pos h, if_pos (by omega)]
  · rw [if_neg h]
    by_cases h2 : i = n
    · subst h2
      rw [if_pos rfl, if_neg (by omega), Nat.add_sub_cancel_left]
    · rw [if_neg h2]
theorem rt32_over (f c : Nat → Int) (p i j : Nat) (hj : j < 32) : rt32 (over f c (32 * p) 32) i j = if i = p then c j else rt32 f i j := by
  unfold rt32 over
  by_cases h : i = p
  · subst h
    rw [if_pos rfl, if_pos (by omega), Nat.add_sub_cancel_left]
  · rw [if_neg h, if_neg (by omega)]
/-- The roots behind k places: what was reckoned stands at the places, the others are as they were. -/
theorem rkF_root (ps : Nat → Nat) (L : Nat) (F : Nat → Int) (C : Nat → Nat → Int) : ∀ k, (∀ t, t < k → ps t ≤ rkL ps L t) → ∀ i, i < rkL ps L k → ∀ j, j < 32 →
    ((∃ t, t < k ∧ ps t = i) → rt32 (rkF ps L F C k) i j = C i j) ∧ ((¬ ∃ t, t < k ∧ ps t = i) → i < L ∧ rt32 (rkF ps L F C k) i j = rt32 F i j)
  | 0, _, i, hi, j, hj => ⟨fun ⟨t, ht, _⟩ => by omega, fun _ => ⟨hi, rfl⟩⟩
  | k + 1, h, i, hi, j, hj => by
    have ih := rkF_root ps L F C k (fun t ht => h t (by omega))
    have hp := h k (by omega)
    have eF : rkF ps L F C (k + 1) = if ps k = rkL ps L k then upr (rkF ps L F C k) (rkL ps L k) (C (ps k)) else over (rkF ps L F C k) (C (ps k)) (32 * ps k) 32 := rfl
    have eL : rkL ps L (k + 1) = if ps k = rkL ps L k then rkL ps L k + 1 else rkL ps L k := rfl
    rw [eF]
    rw [eL] at hi
    by_cases hc : ps k = rkL ps L k
    · rw [if_pos hc] at hi ⊢
      rw [rt32_upr _ _ _ _ _ hj]
      by_cases hlt : i < rkL ps L k
      · rw [if_pos hlt]
        have := ih i hlt j hj
        refine ⟨fun ⟨t, ht, e⟩ => this.1 ⟨t, ?_, e⟩, fun hn => this.2 (fun ⟨t, ht, e⟩ => hn ⟨t, by omega, e⟩)⟩
        by_cases htk : t = k
        · subst htk
          omega
        · omega
      · have hie : i = rkL ps L k := by omega
        rw [if_neg hlt, if_pos hie]
        refine ⟨fun _ => by rw [hc, hie], fun hn => absurd ⟨k, by omega, by omega⟩ hn⟩
    · rw [if_neg hc] at hi ⊢
      rw [rt32_over _ _ _ _ _ hj]
      by_cases hip : i = ps k
      · rw [if_pos hip]
        refine ⟨fun _ => by rw [hip], fun hn => absurd ⟨k, by omega, hip.symm⟩ hn⟩
      · rw [if_neg hip]
        have := ih i hi j hj
        refine ⟨fun ⟨t, ht, e⟩ => this.1 ⟨t, ?_, e⟩, fun hn => this.2 (fun ⟨t, ht, e⟩ => hn ⟨t, by omega, e⟩)⟩
        by_cases htk : t = k
        · subst htk
          omega
        · omega

end Go.Proofs.YtjimdkpppgjokaaDoor

namespace Go.Proofs.YtjimdkpppgjokaaDoor
open Go.RowKit
set_option linter.unusedVariables false
set_option linter.unusedSimpArgs false

/-- Strictly rising. -/
def Rise (ps : Nat → Nat) (m : Nat) : Prop := ∀ k, k + 1 < m → ps k < ps (k + 1)
theorem Rise.lt {ps : Nat → Nat} {m : Nat} (h : Rise ps m) (k : Nat) : ∀ i, k + i + 1 < m → ps k < ps (k + i + 1)
  | 0, hi => h k hi
  | i + 1, hi => Nat.lt_trans (h.lt k i (by omega)) (h (k + i + 1) hi)
theorem Rise.mono {ps : Nat → Nat} {m : Nat} (h : Rise ps m) {k l : Nat} (hkl : k < l) (hl : l < m) : ps k < ps l := by
  obtain ⟨i, rfl⟩ : ∃ i, l = k + i + 1 := ⟨l - k - 1, by omega⟩
  exact h.lt k i hl
theorem Rise.top {ps : Nat → Nat} {m L U : Nat} (h : Rise ps m) (hU : ∀ k, k < m → ps k < U) (hall : ∀ i, L ≤ i → i < U → ∃ k, k < m ∧ ps k = i) : ∀ j, j < U - L → j < m ∧ ps (m - 1 - j) = U - 1 - j
  | 0, hj => by
    obtain ⟨k, hk, e⟩ := hall (U - 1) (by omega) (by omega)
    have hkm : k = m - 1 := by
      by_cases hlt : k < m - 1
      · have h1 := h.mono hlt (by omega)
        have h2 := hU (m - 1) (by omega)
        omega
      · omega
    subst hkm
    exact ⟨by omega, by simpa using e⟩
  | j + 1, hj => by
    obtain ⟨ih1, ih2⟩ := Rise.top h hU hall j (by omega)
    obtain ⟨k, hk, e⟩ := hall (U - 1 - (j + 1)) (by omega) (by omega)
    have h1 : k < m - 1 - j := by
      by_cases hlt : k < m - 1 - j
      · exact hlt
      · by_cases he : k = m - 1 - j
        · rw [he] at e
          omega
        · have := h.mono (show m - 1 - j < k by omega) hk
          omega
    have h2 : k = m - 1 - (j + 1) := by
      by_cases hlt : k + 1 < m - 1 - j
      · have h3 := h k (by omega)
        have h4 := h.mono hlt (by omega)
        omega
      · omega
    subst h2
    exact ⟨by omega, e⟩
/-- They split: those below the row's end, and those from it on, one by one. -/
theorem Rise.split {ps : Nat → Nat} {m L U : Nat} (h : Rise ps m) (hLU : L ≤ U) (hU : ∀ k, k < m → ps k < U) (hall : ∀ i, L ≤ i → i < U → ∃ k, k < m ∧ ps k = i) :
    ∃ a, a + (U - L) = m ∧ (∀ k, k < a → ps k < L) ∧ ∀ i, i < U - L → ps (a + i) = L + i := by
  have hm : U - L ≤ m := by
    by_cases h0 : U - L = 0
    · omega
    · have := (Rise.top h hU hall (U - L - 1) (by omega)).1
      omega
  have hi : ∀ i, i < U - L → ps (m - (U - L) + i) = L + i := fun i hi => by
    have := (Rise.top h hU hall (U - L - 1 - i) (by omega)).2
    rw [show m - 1 - (U - L - 1 - i) = m - (U - L) + i by omega] at this
    omega
  refine ⟨m - (U - L), by omega, fun k hk => ?_, hi⟩
  by_cases h0 : U - L = 0
  · have := hU k (by omega)
    omega
  · have h1 := hi 0 (by omega)
    have h2 := h.mono (show k < m - (U - L) + 0 by omega) (by omega)
    omega
/-- Behind all places of a row: as many roots as there are nodes, and each is right. -/
theorem rk_all {ps : Nat → Nat} {m L U : Nat} (h : Rise ps m) (hLU : L ≤ U) (hU : ∀ k, k < m → ps k < U) (hall : ∀ i, L ≤ i → i < U → ∃ k, k < m ∧ ps k = i) (F : Nat → Int) (C N : Nat → Nat → Int)
    (hC : ∀ p, p < U → ∀ j, j < 32 → C p j = N p j) (hF : ∀ i, i < L → (¬ ∃ k, k < m ∧ ps k = i) → ∀ j, j < 32 → rt32 F i j = N i j) :
    (∀ k, k < m → ps k ≤ rkL ps L k) ∧ (∀ k, k ≤ m → rkL ps L k ≤ U) ∧ rkL ps L m = U ∧ ∀ i, i < U → ∀ j, j < 32 → rt32 (rkF ps L F C m) i j = N i j := by
  obtain ⟨a, ha, h1, h2⟩ := h.split hLU hU hall
  have hp : ∀ k, k < m → ps k ≤ rkL ps L k := fun k hk => rk_place ps L a (U - L) h1 h2 k (by omega)
  have hL : rkL ps L m = U := by
    have := rkL_high ps L a (U - L) h1 h2 (U - L) (Nat.le_refl _)
    rw [ha] at this
    omega
  refine ⟨hp, fun k hk => ?_, hL, fun i hi j hj => ?_⟩
  · by_cases hka : k ≤ a
    · rw [rkL_low ps L a h1 k hka]
      exact hLU
    · obtain ⟨i, rfl⟩ : ∃ i, k = a + i := ⟨k - a, by omega⟩
      rw [rkL_high ps L a (U - L) h1 h2 i (by omega)]
      omega
  · have hr := rkF_root ps L F C m hp i (by omega) j hj
    by_cases hx : ∃ k, k < m ∧ ps k = i
    · rw [hr.1 hx]
      exact hC i hi j hj
    · have := hr.2 hx
      rw [this.2]
      exact hF i this.1 hx j hj

end Go.Proofs.YtjimdkpppgjokaaDoor

namespace Go.Proofs.YtjimdkpppgjokaaDoor
open Go.RowKit
set_option linter.unusedVariables false
set_option linter.unusedSimpArgs false

theorem cmp_ok (d : Array Int) (hs : ∀ i, i + 1 < d.size → d[i]! ≤ d[i + 1]!) : ∀ m, m ≤ d.size →
    (Lib.compactUpTo d m).Pairwise (· < ·) ∧ (∀ x, x ∈ Lib.compactUpTo d m ↔ ∃ i, i < m ∧ d[i]! = x) ∧ ∀ x, x ∈ Lib.compactUpTo d m → x ≤ d[m - 1]!
  | 0, _ => by
    have e : Lib.compactUpTo d 0 = [] := rfl
    rw [e]
    exact ⟨List.Pairwise.nil, fun x => ⟨fun h => by simp at h, fun ⟨i, hi, _⟩ => by omega⟩, fun x h => by simp at h⟩
  | m + 1, hm => by
    obtain ⟨ih1, ih2, ih3⟩ := cmp_ok d hs m (by omega)
    rw [Lib.compactUpTo_succ]
    by_cases hk : Lib.keeps d m = true
    · rw [if_pos hk]
      have hlt : ∀ x, x ∈ Lib.compactUpTo d m → x < d[m]! := fun x hx => by
        obtain ⟨i, hi, _⟩ := (ih2 x).1 hx
        have h1 := ih3 x hx
        have h2 := hs (m - 1) (by omega)
        rw [show m - 1 + 1 = m by omega] at h2
        unfold Lib.keeps at hk
        have h3 : d[m]! ≠ d[m - 1]! := by
          rcases of_decide_eq_true hk with h | h
          · omega
          · exact h
        omega
      refine ⟨?_, fun x => ?_, fun x hx => ?_⟩
      · rw [List.pairwise_append]
        exact ⟨ih1, List.pairwise_singleton _ _, fun x hx y hy => by rw [List.mem_singleton.1 hy]; exact hlt x hx⟩
      · rw [List.mem_append, List.mem_singleton]
        constructor
        · rintro (hx | rfl)
          · obtain ⟨i, hi, e⟩ := (ih2 x).1 hx
            exact ⟨i, by omega, e⟩
          · exact ⟨m, by omega, rfl⟩
        · rintro ⟨i, hi, e⟩
          by_cases him : i = m
          · subst him
            exact .inr e.symm
          · exact .inl ((ih2 x).2 ⟨i, by omega, e⟩)
      · show x ≤ d[m]!
        rcases List.mem_append.1 hx with h | h
        · exact Int.le_of_lt (hlt x h)
        · rw [List.mem_singleton.1 h]
          exact Int.le_refl _
    · rw [if_neg hk, List.append_nil]
      have hk2 : ¬ (m = 0 ∨ d[m]! ≠ d[m - 1]!) := fun h => hk (decide_eq_true h)
      have hm0 : m ≠ 0 := fun h => hk2 (.inl h)
      have he : d[m]! = d[m - 1]! := Classical.byContradiction fun h => hk2 (.inr h)
      refine ⟨ih1, fun x => ?_, fun x hx => ?_⟩
      · rw [ih2 x]
        constructor
        · rintro ⟨i, hi, e⟩
          exact ⟨i, by omega, e⟩
        · rintro ⟨i, hi, e⟩
          by_cases him : i = m
          · subst him
            exact ⟨i - 1, by omega, by rw [← he]; exact e⟩
          · exact ⟨i, by omega, e⟩
      · show x ≤ d[m]!
        rw [he]
        exact ih3 x hx
/-- A list in order: what is left rises strictly, and has the same members. -/
theorem compact_ok (zs : List Int) (hs : zs.Pairwise (· ≤ ·)) : (Lib.compact zs).Pairwise (· < ·) ∧ ∀ x, x ∈ Lib.compact zs ↔ x ∈ zs := by
  have hg : ∀ i (hi : i < zs.length), zs.toArray[i]! = zs[i] := fun i hi => by simp [getElem!_pos, hi]
  have h := cmp_ok zs.toArray (fun i hi => by
    have hi' : i + 1 < zs.length := by simpa using hi
    rw [hg i (by omega), hg (i + 1) hi']
    exact List.pairwise_iff_getElem.1 hs i (i + 1) (by omega) hi' (by omega)) zs.length (by simp)
  refine ⟨h.1, fun x => ?_⟩
  have h2 := h.2.1 x
  unfold Lib.compact
  rw [h2, List.mem_iff_getElem]
  constructor
  · rintro ⟨i, hi, e⟩
    exact ⟨i, hi, by rw [← hg i hi]; exact e⟩
  · rintro ⟨i, hi, e⟩
    exact ⟨i, hi, by rw [hg i hi]; exact e⟩
/-- The places above: halved, without doubles. -/
theorem above_ok (zs : List Int) (hs : zs.Pairwise (· < ·)) : (Lib.compact (zs.map (· / 2))).Pairwise (· < ·) ∧ ∀ x, x ∈ Lib.compact (zs.map (· / 2)) ↔ ∃ z, z ∈ zs ∧ z / 2 = x := by
  have h := compact_ok (zs.map (· / 2)) (by
    rw [List.pairwise_map]
    exact hs.imp (fun h => by omega))
  refine ⟨h.1, fun x => ?_⟩
  rw [h.2 x, List.mem_map]

end Go.Proofs.YtjimdkpppgjokaaDoor

namespace Go.Proofs.YtjimdkpppgjokaaDoor
open Go.RowKit
set_option linter.unusedVariables false
set_option linter.unusedSimpArgs false

/-- The numbers in order. -/
def srt (zs : List Int) : List Int := zs.mergeSort fun x y => decide (x ≤ y)
theorem srt_len (zs : List Int) : (srt zs).length = zs.length := List.length_mergeSort _
theorem srt_mem (zs : List Int) (x : Int) : x ∈ srt zs ↔ x ∈ zs := List.mem_mergeSort
theorem srt_le (zs : List Int) : (srt zs).Pairwise (· ≤ ·) := by
  have h := List.pairwise_mergeSort (le := fun x y : Int => decide (x ≤ y)) (fun a b c h1 h2 => by simp at *; omega) (fun a b => by simp; omega) zs
  exact h.imp (fun h => by simpa using h)
theorem srt_lt (zs : List Int) (hn : zs.Nodup) : (srt zs).Pairwise (· < ·) := by
  have h1 := srt_le zs
  have h2 : (srt zs).Nodup := (List.mergeSort_perm zs _).nodup_iff.2 hn
  have h3 := h1.and h2
  exact h3.imp (fun ⟨a, b⟩ => by omega)

theorem sort_any (g cap : Nat) (zs : List Int) (w : World) (ho : w.ownsRow 0 3 1 (.slice (some ⟨g, 0, none⟩) zs.length cap) zs.length (iml zs)) (hl : zs.length ≤ 1099511627776) :
    Calls Tryd.prog 42 #[.slice (some ⟨g, 0, none⟩) zs.length cap] w fun e w' => e = .returned (.tuple #[]) ∧ w'.ownsRow 0 3 1 (.slice (some ⟨g, 0, none⟩) zs.length cap) zs.length (iml (srt zs)) ∧ w.grownBy w' (some g) := by
  rcases ho.2 with ⟨h1, _⟩ | ⟨g', cap', cur, h1, hb, hg, hnc, hcm, hcs, htake⟩
  · cases h1
  · cases h1
    have hgl := (Array.getElem?_eq_some_iff.1 hg).1
    have hH : Go.Sort.Holds (Value.int .i64) w g 0 zs.toArray := holds_of_blockI hg (by rw [Nat.mul_one] at htake; exact htake)
    refine (Tryd.slices_Sort_int g 0 cap zs w hH hgl (by omega)).mono ?_
    rintro e w' ⟨rfl, n, os, rfl⟩
    exact ⟨rfl, ownsRow_sortedI (srt_len zs) (Nat.zero_le _) hg hnc hcm hcs, grownBy_sortedI _⟩

set_option maxRecDepth 20000 in
/-- No places. -/
theorem above_none (a : Option Addr) (cap : Nat) (w : World) :
    Calls Tryd.prog 43 #[.slice a 0 cap] w fun e w' => e = .returned (.slice a 0 cap) ∧ w' = w := by
  have HC := hid (Tryd.slices_Compact_int_empty a cap w)
  go_enter Tryd.func43, Tryd.ntmps43
  go_wp2
  go_loopw [6] (fun i wr => i = .int .i64 0 ∧ wr = w) (fun i _ => 0)
  case atStart => exact ⟨rfl, rfl⟩
  case round =>
    obtain ⟨rfl, rfl⟩ := hrel
    go_wp2_with (go_at_call 51; refine HC.out.mono ?_; rintro e w1 ⟨rfl, hw1⟩; obtain rfl := hw1.symm)
    go_ret
    exact ⟨rfl, rfl⟩
theorem sort_none (a : Option Addr) (cap : Nat) (w : World) : Calls Tryd.prog 42 #[.slice a 0 cap] w fun e w' => e = .returned (.tuple #[]) ∧ w' = w := Tryd.slices_Sort_int_none a cap w

end Go.Proofs.YtjimdkpppgjokaaDoor
