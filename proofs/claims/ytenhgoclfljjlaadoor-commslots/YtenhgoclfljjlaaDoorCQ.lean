/-
  The statements' own few: a state with some validators; and their awake, by what the program's functions answer.
  What the program's functions of layer 14 have to answer, and the statements' own awake.
-/
import Derived.Test.YtenhgoclfljjlaaDoorCmB
import Derived.Test.YtenhgoclfljjlaaDoorLkJ
import Derived.Test.YtenhgoclfljjlaaDoorStL
import Derived.ArgAppend

namespace Go.Proofs.YtenhgoclfljjlaaDoor

open Go.RowKit

set_option linter.unusedVariables false

set_option linter.unusedSimpArgs false

set_option maxRecDepth 100000

/-- An append, with the block that its answer lies in. -/
theorem app_blk {P : Program} (w : World) {ops : Array Oper} {rest : List Oper} {o : Oper} {a : Act} {Q : Exit → Act → World → Prop} (hgd : o.guard = none) (s x : Operand) (t : TypeId)
    (ho : o.op = .call { callee := .builtin .append, args := #[s, x], argTypes := #[t, t] })
    (base : Nat) (e : TypeId) (i : TypeInfo) (z : Value) (size bytes : Nat) (ht : P.underlying t = some (.slice e)) (hi : P.info? e = some i) (hz : i.zero = some z)
    (hsize : i.size = size) (hby : i.bytes = bytes) (hzs : z.cells.size = size) (hsz : 0 < size)
    (v : Value) (n : Nat) (xs : List Value) (hs : a.eval s = v) (hown : w.ownsRow base e size v n xs)
    (ad : Addr) (m c : Nat) (news : List Value) (hx : a.eval x = .slice (some ad) m c) (hl : news.length = m * size) (hnews : ∀ j u, news[j]? = some u → w.cell? (ad.add j) = some u) (h1 : ∀ u ∈ news, u.oneCell' = true)
    (h63 : n + m ≤ maxLen) (hbytes : (n + m) * bytes ≤ 140737488355328) (hbase : base ≤ w.heap.size)
    (h : ∀ v' w', w'.ownsRow base e size v' (n + m) (xs ++ news) → w.grownBy w' v.ownBlock → (∀ b, v'.ownBlock = some b → v.ownBlock = some b ∨ w.heap.size ≤ b) → wpList P ops Q rest (a.put o.dst v') w') : wpList P ops Q (o :: rest) a w := by
  refine wpList_plain hgd fun K hK => ?_
  obtain ⟨v', w', hr, g1, g2, _⟩ := run_append_own (P := P) w base t o.type e i z size bytes ht hi hz hsize hby hzs hsz v n xs hown ad m c news hl hnews h1 h63 hbytes hbase
  have hb : ∀ b, v'.ownBlock = some b → v.ownBlock = some b ∨ w.heap.size ≤ b := fun b hv => by
    rcases hown.2 with ⟨rfl, rfl⟩ | ⟨g, cap, cur, rfl, _, hg, h3, _, h5, h6⟩
    · obtain ⟨v2, w2, hr2, k1, _, _⟩ := run_append_own (P := P) w w.heap.size t o.type e i z size bytes ht hi hz hsize hby hzs hsz _ 0 [] (World.ownsRow_nil w _ e size) ad m c news hl hnews h1 h63 hbytes (Nat.le_refl _)
      rw [hr2] at hr
      cases hr
      exact .inr (k1.lt b hv).1
    · by_cases hc : n + m ≤ cap
      · have hr2 := run_append_room (P := P) w t o.type e i ht hi g n cap cur hg ad m c news (by rw [hsize]; exact hl) hnews h1 hc (by
          rw [hsize, hl, h5, ← Nat.add_mul]
          exact Nat.mul_le_mul_right _ hc)
        rw [hr2] at hr
        cases hr
        exact .inl hv
      · obtain ⟨v2, w2, hr2, k1, _⟩ := run_append_arg_grows (P := P) w t o.type e i z size bytes ht hi hz hsize hby hzs hsz ⟨g, 0, none⟩ n cap xs hown.1 (fun j u hj => hown.cells rfl j u hj) ad m c news hl hnews (by omega) h63 hbytes
        rw [hr2] at hr
        cases hr
        exact .inr (k1.lt b hv).1
  unfold Oper.wp
  simp [execOp, ho, resolve, invoke, builtin, hs, hx, hr, Result.andThen]
  exact hK _ _ (h v' w' g1 g2 hb)

theorem own_keptC {w w' : World} {B k b : Nat} {t : TypeId} {v : Value} {n : Nat} {xs : List Value} (h : w.ownsRow B t k v n xs) (hk : Kept b w w') (hne : v.ownBlock ≠ some b) : w'.ownsRow B t k v n xs := by
  refine ⟨h.1, ?_⟩
  rcases h.2 with h1 | ⟨g, cap, cur, rfl, h2, h3, h4⟩
  · exact .inl h1
  · exact .inr ⟨g, cap, cur, rfl, h2, (hk.block g (some_lt h3) (fun e => hne (by rw [e]; rfl))).trans h3, h4⟩

theorem own_neC {w : World} {B k b : Nat} {t t' : TypeId} {v : Value} {n : Nat} {xs : List Value} {C : Array Value} (h : w.ownsRow B t k v n xs) (hb : w.heap[b]? = some (.cells C t')) (ht : t ≠ t') : v.ownBlock ≠ some b := by
  rcases h.2 with ⟨rfl, _⟩ | ⟨g, cap, cur, rfl, h2, h3, h4⟩
  · intro e
    cases e
  · intro e
    cases e
    rw [hb] at h3
    cases h3
    exact ht rfl

/-- A row kept while another one grows. -/
theorem own_grownC {w w' : World} {B B' k k' : Nat} {t t' : TypeId} {v v' : Value} {n n' : Nat} {xs xs' : List Value} (h : w.ownsRow B t k v n xs) (h' : w.ownsRow B' t' k' v' n' xs') (hg : w.grownBy w' v'.ownBlock) (hne : t ≠ t' ∨ ∀ b, v.ownBlock = some b → v'.ownBlock ≠ some b) : w'.ownsRow B t k v n xs := by
  refine h.kept hg ?_
  rcases h'.2 with ⟨h0, _⟩ | ⟨g, cap, cur, h0, _, hc, _⟩
  · rw [h0]
    cases v.ownBlock with
    | none => exact .inl rfl
    | some b => exact .inr (fun e => by cases e)
  · rw [h0]
    refine .inr ?_
    rcases hne with ht | hd
    · exact own_neC h hc ht
    · exact fun e => hd g e (by rw [h0]; rfl)

theorem nl_succ (z : Int) (n : Nat) : nl (fun _ => z) n ++ [.int .u64 z] = nl (fun _ => z) (n + 1) := by
  unfold nl
  rw [List.range_succ, List.map_append]
  rfl

theorem bl_succ0 (n : Nat) : bl (fun _ => 0) n ++ [.int .u8 0] = bl (fun _ => 0) (n + 1) := by
  unfold bl
  rw [List.range_succ, List.map_append]
  rfl

/-- A validator that is active from the start. -/
def oV2 : VValidator := ⟨fun _ => 0, fun _ => 0, 32000000000, false, 0, 0, 18446744073709551615, 18446744073709551615⟩

theorem okV2 : OkValidator oV2 := ⟨fun _ _ => (by decide : (0 : Int) ≤ 0 ∧ (0 : Int) < 256), fun _ _ => (by decide : (0 : Int) ≤ 0 ∧ (0 : Int) < 256), by decide, trivial, by decide, by decide, by decide, by decide⟩

theorem bvV_2 (W : World) : (bvV #[(2, .int .u64 32000000000), (6, .int .u64 18446744073709551615), (7, .int .u64 18446744073709551615)]).run Tryd.prog W = .ok (.agg (cel (sValidator oV2))) W := by kernel_rfl

theorem bsV_2 (W : World) : (bsV 1 #[(0, .agg (cel (sValidator oV2)))]).run Tryd.prog W = .ok (.slice (some ⟨W.heap.size, 0, none⟩) 1 1) (W.alloc (.cells (cel (sValidator oV2)) 63)) := by kernel_rfl

/-- The lists of such a state. -/
structure FS where
  a11 : Option Addr
  n11 : Nat
  c11 : Nat
  a12 : Option Addr
  n12 : Nat
  c12 : Nat
  a15 : Option Addr
  n15 : Nat
  c15 : Nat
  a16 : Option Addr
  n16 : Nat
  c16 : Nat
  a21 : Option Addr
  n21 : Nat
  c21 : Nat

def fX (s : FS) : VState := { oState with f11 := ⟨s.a11, s.n11, s.c11, fun _ => oV2⟩, f12 := ⟨s.a12, s.n12, s.c12, fun _ => 32000000000⟩, f15 := ⟨s.a15, s.n15, s.c15, fun _ => 0⟩, f16 := ⟨s.a16, s.n16, s.c16, fun _ => 0⟩, f21 := ⟨s.a21, s.n21, s.c21, fun _ => 0⟩ }

def fs0 : FS := ⟨none, 0, 0, none, 0, 0, none, 0, 0, none, 0, 0, none, 0, 0⟩

theorem fX_zero : cel (sState oState) = cel (sState (fX fs0)) := by kernel_rfl

theorem okCz : OkState (fX fs0) := by
  have z : (0 : Int) ≤ 0 ∧ (0 : Int) < 256 := by decide
  have zz : (0 : Int) ≤ 0 ∧ (0 : Int) < 18446744073709551616 := by decide
  exact ⟨zz, fun _ _ => z, zz, ⟨fun _ _ => z, fun _ _ => z, zz⟩, ⟨zz, zz, fun _ _ => z, fun _ _ => z, fun _ _ => z⟩, fun _ _ => z, fun _ _ => z, fun _ h => absurd h (Nat.not_lt_zero _), ⟨fun _ _ => z, zz, fun _ _ => z⟩, fun _ h => absurd h (Nat.not_lt_zero _), zz, fun _ h => absurd h (Nat.not_lt_zero _), fun _ h => absurd h (Nat.not_lt_zero _), fun _ _ => z, fun _ _ => zz, fun _ h => absurd h (Nat.not_lt_zero _), fun _ h => absurd h (Nat.not_lt_zero _), ⟨zz, fun _ _ => z⟩, ⟨zz, fun _ _ => z⟩, ⟨zz, fun _ _ => z⟩, fun _ h => absurd h (Nat.not_lt_zero _), ⟨fun _ _ => z, fun _ _ => z⟩, ⟨fun _ _ => z, fun _ _ => z⟩⟩

theorem ok_fX (s : FS) : OkState (fX s) := by
  have z : (0 : Int) ≤ 0 ∧ (0 : Int) < 256 := by decide
  have zz : (0 : Int) ≤ 0 ∧ (0 : Int) < 18446744073709551616 := by decide
  have h := okCz
  exact ⟨h.o0, h.o1, h.o2, h.o3, h.o4, h.o5, h.o6, h.o7, h.o8, h.o9, h.o10, fun _ _ => okV2, fun _ _ => (by decide : (0 : Int) ≤ 32000000000 ∧ (32000000000 : Int) < 18446744073709551616), h.o13, h.o14, fun _ _ => z, fun _ _ => z, h.o18, h.o19, h.o20, fun _ _ => zz, h.o22, h.o23⟩

structure Fw (w0 : World) (y : Nat) (s : FS) (W : World) : Prop where
  bel : Below w0.heap.size w0 W
  row : W.heap[y]? = some (.cells (cel (sState (fX s))) 49)
  res : W.heap[w0.heap.size]? = some (.cells (cel (sState oState)) 49)
  o11 : W.ownsRow w0.heap.size 63 86 (.slice s.a11 s.n11 s.c11) s.n11 (flat (fun _ => celL (sValidator oV2)) s.n11)
  o12 : W.ownsRow w0.heap.size 22 1 (.slice s.a12 s.n12 s.c12) s.n12 (nl (fun _ => 32000000000) s.n12)
  o15 : W.ownsRow w0.heap.size 5 1 (.slice s.a15 s.n15 s.c15) s.n15 (bl (fun _ => 0) s.n15)
  o16 : W.ownsRow w0.heap.size 5 1 (.slice s.a16 s.n16 s.c16) s.n16 (bl (fun _ => 0) s.n16)
  o21 : W.ownsRow w0.heap.size 22 1 (.slice s.a21 s.n21 s.c21) s.n21 (nl (fun _ => 0) s.n21)
  d15 : ∀ b, Value.ownBlock (.slice s.a15 s.n15 s.c15) = some b → Value.ownBlock (.slice s.a16 s.n16 s.c16) ≠ some b
  d12 : ∀ b, Value.ownBlock (.slice s.a12 s.n12 s.c12) = some b → Value.ownBlock (.slice s.a21 s.n21 s.c21) ≠ some b

theorem Fw.below {w0 V V' : World} {y : Nat} {s : FS} (h : Fw w0 y s V) (hb : Below V.heap.size V V') : Fw w0 y s V' :=
  ⟨h.bel.trans (hb.mono h.bel.size), (hb.block y (some_lt h.row)).trans h.row, (hb.block _ (some_lt h.res)).trans h.res, ownsRow_below h.o11 hb, ownsRow_below h.o12 hb, ownsRow_below h.o15 hb, ownsRow_below h.o16 hb, ownsRow_below h.o21 hb, h.d15, h.d12⟩

theorem Fw.alloc {w0 V : World} {y : Nat} {s : FS} (h : Fw w0 y s V) (o : Obj) : Fw w0 y s (V.alloc o) := h.below ((Below.refl _ _).alloc (Nat.le_refl _) _)

theorem Fw.a11 {w0 V W : World} {y : Nat} {s : FS} {a : Option Addr} {c : Nat} (h : Fw w0 y s V) (hy : w0.heap.size < y) (ho : W.ownsRow w0.heap.size 63 86 (.slice a (s.n11 + 1) c) (s.n11 + 1) (flat (fun _ => celL (sValidator oV2)) s.n11 ++ celL (sValidator oV2))) (hg : V.grownBy W (Value.ownBlock (.slice s.a11 s.n11 s.c11))) (hb : ∀ b, Value.ownBlock (.slice a (s.n11 + 1) c) = some b → Value.ownBlock (.slice s.a11 s.n11 s.c11) = some b ∨ V.heap.size ≤ b) :
    Fw w0 y { s with a11 := a, n11 := s.n11 + 1, c11 := c } (W.setCell ⟨y, 721, none⟩ (.slice a (s.n11 + 1) c)) ∧ (∃ v, W.cell? ⟨y, 721, none⟩ = some v) ∧ W.frozen? ⟨y, 721, none⟩ = false := by
  have hne : some y ≠ Value.ownBlock (.slice s.a11 s.n11 s.c11) := fun e => own_neC h.o11 h.row (by decide) e.symm
  have hne0 : some w0.heap.size ≠ Value.ownBlock (.slice s.a11 s.n11 s.c11) := fun e => own_neC h.o11 h.res (by decide) e.symm
  have hrow : W.heap[y]? = some (.cells (cel (sState (fX s))) 49) := (hg.block y (some_lt h.row) hne).trans h.row
  have hres : W.heap[w0.heap.size]? = some (.cells (cel (sState oState)) 49) := (hg.block _ (some_lt h.res) hne0).trans h.res
  have hk : Kept y W (W.setCell ⟨y, 721, none⟩ (.slice a (s.n11 + 1) c)) := (Kept.refl y W).setCell _ _
  have hbW : Below w0.heap.size w0 W := by
    refine ⟨hg.os.trans h.bel.os, hg.tape.trans h.bel.tape, hg.output.trans h.bel.output, Nat.le_trans h.bel.size hg.size, fun k hk' => (hg.block k (Nat.lt_of_lt_of_le hk' h.bel.size) (fun e => ?_)).trans (h.bel.block k hk')⟩
    have := (h.o11.lt k e.symm).1
    omega
  rw [show flat (fun _ => celL (sValidator oV2)) s.n11 ++ celL (sValidator oV2) = flat (fun _ => celL (sValidator oV2)) (s.n11 + 1) from rfl] at ho
  have g11 := own_keptC ho hk (own_neC ho hrow (by decide))
  have p12 := own_grownC h.o12 h.o11 hg (.inl (by decide))
  have g12 := own_keptC p12 hk (own_neC p12 hrow (by decide))
  have p15 := own_grownC h.o15 h.o11 hg (.inl (by decide))
  have g15 := own_keptC p15 hk (own_neC p15 hrow (by decide))
  have p16 := own_grownC h.o16 h.o11 hg (.inl (by decide))
  have g16 := own_keptC p16 hk (own_neC p16 hrow (by decide))
  have p21 := own_grownC h.o21 h.o11 hg (.inl (by decide))
  have g21 := own_keptC p21 hk (own_neC p21 hrow (by decide))
  refine ⟨⟨hbW.trans (hk.below (by omega) hbW.size), (row_set hrow 721 _).trans (congrArg (fun c => some (Obj.cells c 49)) (st_11 (fX s) a (s.n11 + 1) c)), (hk.block _ (some_lt hres) (by omega)).trans hres, g11, g12, g15, g16, g21, h.d15, h.d12⟩, some_cell hrow (by omega), row_frozen hrow _⟩

theorem Fw.a12 {w0 V W : World} {y : Nat} {s : FS} {a : Option Addr} {c : Nat} (h : Fw w0 y s V) (hy : w0.heap.size < y) (ho : W.ownsRow w0.heap.size 22 1 (.slice a (s.n12 + 1) c) (s.n12 + 1) (nl (fun _ => 32000000000) s.n12 ++ [.int .u64 32000000000])) (hg : V.grownBy W (Value.ownBlock (.slice s.a12 s.n12 s.c12))) (hb : ∀ b, Value.ownBlock (.slice a (s.n12 + 1) c) = some b → Value.ownBlock (.slice s.a12 s.n12 s.c12) = some b ∨ V.heap.size ≤ b) :
    Fw w0 y { s with a12 := a, n12 := s.n12 + 1, c12 := c } (W.setCell ⟨y, 722, none⟩ (.slice a (s.n12 + 1) c)) ∧ (∃ v, W.cell? ⟨y, 722, none⟩ = some v) ∧ W.frozen? ⟨y, 722, none⟩ = false := by
  have hne : some y ≠ Value.ownBlock (.slice s.a12 s.n12 s.c12) := fun e => own_neC h.o12 h.row (by decide) e.symm
  have hne0 : some w0.heap.size ≠ Value.ownBlock (.slice s.a12 s.n12 s.c12) := fun e => own_neC h.o12 h.res (by decide) e.symm
  have hrow : W.heap[y]? = some (.cells (cel (sState (fX s))) 49) := (hg.block y (some_lt h.row) hne).trans h.row
  have hres : W.heap[w0.heap.size]? = some (.cells (cel (sState oState)) 49) := (hg.block _ (some_lt h.res) hne0).trans h.res
  have hk : Kept y W (W.setCell ⟨y, 722, none⟩ (.slice a (s.n12 + 1) c)) := (Kept.refl y W).setCell _ _
  have hbW : Below w0.heap.size w0 W := by
    refine ⟨hg.os.trans h.bel.os, hg.tape.trans h.bel.tape, hg.output.trans h.bel.output, Nat.le_trans h.bel.size hg.size, fun k hk' => (hg.block k (Nat.lt_of_lt_of_le hk' h.bel.size) (fun e => ?_)).trans (h.bel.block k hk')⟩
    have := (h.o12.lt k e.symm).1
    omega
  rw [show nl (fun _ => 32000000000) s.n12 ++ [.int .u64 32000000000] = nl (fun _ => 32000000000) (s.n12 + 1) from nl_succ _ _] at ho
  have g12 := own_keptC ho hk (own_neC ho hrow (by decide))
  have p11 := own_grownC h.o11 h.o12 hg (.inl (by decide))
  have g11 := own_keptC p11 hk (own_neC p11 hrow (by decide))
  have p15 := own_grownC h.o15 h.o12 hg (.inl (by decide))
  have g15 := own_keptC p15 hk (own_neC p15 hrow (by decide))
  have p16 := own_grownC h.o16 h.o12 hg (.inl (by decide))
  have g16 := own_keptC p16 hk (own_neC p16 hrow (by decide))
  have p21 := own_grownC h.o21 h.o12 hg (.inr (fun b e1 e2 => h.d12 b e2 e1))
  have g21 := own_keptC p21 hk (own_neC p21 hrow (by decide))
  refine ⟨⟨hbW.trans (hk.below (by omega) hbW.size), (row_set hrow 722 _).trans (congrArg (fun c => some (Obj.cells c 49)) (st_12 (fX s) a (s.n12 + 1) c)), (hk.block _ (some_lt hres) (by omega)).trans hres, g11, g12, g15, g16, g21, h.d15, fun b e1 e2 => (hb b e1).elim (fun h0 => h.d12 b h0 e2) (fun h0 => by have := (h.o21.lt b e2).2; omega)⟩, some_cell hrow (by omega), row_frozen hrow _⟩

theorem Fw.a15 {w0 V W : World} {y : Nat} {s : FS} {a : Option Addr} {c : Nat} (h : Fw w0 y s V) (hy : w0.heap.size < y) (ho : W.ownsRow w0.heap.size 5 1 (.slice a (s.n15 + 1) c) (s.n15 + 1) (bl (fun _ => 0) s.n15 ++ [.int .u8 0])) (hg : V.grownBy W (Value.ownBlock (.slice s.a15 s.n15 s.c15))) (hb : ∀ b, Value.ownBlock (.slice a (s.n15 + 1) c) = some b → Value.ownBlock (.slice s.a15 s.n15 s.c15) = some b ∨ V.heap.size ≤ b) :
    Fw w0 y { s with a15 := a, n15 := s.n15 + 1, c15 := c } (W.setCell ⟨y, 987, none⟩ (.slice a (s.n15 + 1) c)) ∧ (∃ v, W.cell? ⟨y, 987, none⟩ = some v) ∧ W.frozen? ⟨y, 987, none⟩ = false := by
  have hne : some y ≠ Value.ownBlock (.slice s.a15 s.n15 s.c15) := fun e => own_neC h.o15 h.row (by decide) e.symm
  have hne0 : some w0.heap.size ≠ Value.ownBlock (.slice s.a15 s.n15 s.c15) := fun e => own_neC h.o15 h.res (by decide) e.symm
  have hrow : W.heap[y]? = some (.cells (cel (sState (fX s))) 49) := (hg.block y (some_lt h.row) hne).trans h.row
  have hres : W.heap[w0.heap.size]? = some (.cells (cel (sState oState)) 49) := (hg.block _ (some_lt h.res) hne0).trans h.res
  have hk : Kept y W (W.setCell ⟨y, 987, none⟩ (.slice a (s.n15 + 1) c)) := (Kept.refl y W).setCell _ _
  have hbW : Below w0.heap.size w0 W := by
    refine ⟨hg.os.trans h.bel.os, hg.tape.trans h.bel.tape, hg.output.trans h.bel.output, Nat.le_trans h.bel.size hg.size, fun k hk' => (hg.block k (Nat.lt_of_lt_of_le hk' h.bel.size) (fun e => ?_)).trans (h.bel.block k hk')⟩
    have := (h.o15.lt k e.symm).1
    omega
  rw [show bl (fun _ => 0) s.n15 ++ [.int .u8 0] = bl (fun _ => 0) (s.n15 + 1) from bl_succ0 _] at ho
  have g15 := own_keptC ho hk (own_neC ho hrow (by decide))
  have p11 := own_grownC h.o11 h.o15 hg (.inl (by decide))
  have g11 := own_keptC p11 hk (own_neC p11 hrow (by decide))
  have p12 := own_grownC h.o12 h.o15 hg (.inl (by decide))
  have g12 := own_keptC p12 hk (own_neC p12 hrow (by decide))
  have p16 := own_grownC h.o16 h.o15 hg (.inr (fun b e1 e2 => h.d15 b e2 e1))
  have g16 := own_keptC p16 hk (own_neC p16 hrow (by decide))
  have p21 := own_grownC h.o21 h.o15 hg (.inl (by decide))
  have g21 := own_keptC p21 hk (own_neC p21 hrow (by decide))
  refine ⟨⟨hbW.trans (hk.below (by omega) hbW.size), (row_set hrow 987 _).trans (congrArg (fun c => some (Obj.cells c 49)) (st_15 (fX s) a (s.n15 + 1) c)), (hk.block _ (some_lt hres) (by omega)).trans hres, g11, g12, g15, g16, g21, fun b e1 e2 => (hb b e1).elim (fun h0 => h.d15 b h0 e2) (fun h0 => by have := (h.o16.lt b e2).2; omega), h.d12⟩, some_cell hrow (by omega), row_frozen hrow _⟩

theorem Fw.a16 {w0 V W : World} {y : Nat} {s : FS} {a : Option Addr} {c : Nat} (h : Fw w0 y s V) (hy : w0.heap.size < y) (ho : W.ownsRow w0.heap.size 5 1 (.slice a (s.n16 + 1) c) (s.n16 + 1) (bl (fun _ => 0) s.n16 ++ [.int .u8 0])) (hg : V.grownBy W (Value.ownBlock (.slice s.a16 s.n16 s.c16))) (hb : ∀ b, Value.ownBlock (.slice a (s.n16 + 1) c) = some b → Value.ownBlock (.slice s.a16 s.n16 s.c16) = some b ∨ V.heap.size ≤ b) :
    Fw w0 y { s with a16 := a, n16 := s.n16 + 1, c16 := c } (W.setCell ⟨y, 988, none⟩ (.slice a (s.n16 + 1) c)) ∧ (∃ v, W.cell? ⟨y, 988, none⟩ = some v) ∧ W.frozen? ⟨y, 988, none⟩ = false := by
  have hne : some y ≠ Value.ownBlock (.slice s.a16 s.n16 s.c16) := fun e => own_neC h.o16 h.row (by decide) e.symm
  have hne0 : some w0.heap.size ≠ Value.ownBlock (.slice s.a16 s.n16 s.c16) := fun e => own_neC h.o16 h.res (by decide) e.symm
  have hrow : W.heap[y]? = some (.cells (cel (sState (fX s))) 49) := (hg.block y (some_lt h.row) hne).trans h.row
  have hres : W.heap[w0.heap.size]? = some (.cells (cel (sState oState)) 49) := (hg.block _ (some_lt h.res) hne0).trans h.res
  have hk : Kept y W (W.setCell ⟨y, 988, none⟩ (.slice a (s.n16 + 1) c)) := (Kept.refl y W).setCell _ _
  have hbW : Below w0.heap.size w0 W := by
    refine ⟨hg.os.trans h.bel.os, hg.tape.trans h.bel.tape, hg.output.trans h.bel.output, Nat.le_trans h.bel.size hg.size, fun k hk' => (hg.block k (Nat.lt_of_lt_of_le hk' h.bel.size) (fun e => ?_)).trans (h.bel.block k hk')⟩
    have := (h.o16.lt k e.symm).1
    omega
  rw [show bl (fun _ => 0) s.n16 ++ [.int .u8 0] = bl (fun _ => 0) (s.n16 + 1) from bl_succ0 _] at ho
  have g16 := own_keptC ho hk (own_neC ho hrow (by decide))
  have p11 := own_grownC h.o11 h.o16 hg (.inl (by decide))
  have g11 := own_keptC p11 hk (own_neC p11 hrow (by decide))
  have p12 := own_grownC h.o12 h.o16 hg (.inl (by decide))
  have g12 := own_keptC p12 hk (own_neC p12 hrow (by decide))
  have p15 := own_grownC h.o15 h.o16 hg (.inr h.d15)
  have g15 := own_keptC p15 hk (own_neC p15 hrow (by decide))
  have p21 := own_grownC h.o21 h.o16 hg (.inl (by decide))
  have g21 := own_keptC p21 hk (own_neC p21 hrow (by decide))
  refine ⟨⟨hbW.trans (hk.below (by omega) hbW.size), (row_set hrow 988 _).trans (congrArg (fun c => some (Obj.cells c 49)) (st_16 (fX s) a (s.n16 + 1) c)), (hk.block _ (some_lt hres) (by omega)).trans hres, g11, g12, g15, g16, g21, fun b e1 e2 => (hb b e2).elim (fun h0 => h.d15 b e1 h0) (fun h0 => by have := (h.o15.lt b e1).2; omega), h.d12⟩, some_cell hrow (by omega), row_frozen hrow _⟩

theorem Fw.a21 {w0 V W : World} {y : Nat} {s : FS} {a : Option Addr} {c : Nat} (h : Fw w0 y s V) (hy : w0.heap.size < y) (ho : W.ownsRow w0.heap.size 22 1 (.slice a (s.n21 + 1) c) (s.n21 + 1) (nl (fun _ => 0) s.n21 ++ [.int .u64 0])) (hg : V.grownBy W (Value.ownBlock (.slice s.a21 s.n21 s.c21))) (hb : ∀ b, Value.ownBlock (.slice a (s.n21 + 1) c) = some b → Value.ownBlock (.slice s.a21 s.n21 s.c21) = some b ∨ V.heap.size ≤ b) :
    Fw w0 y { s with a21 := a, n21 := s.n21 + 1, c21 := c } (W.setCell ⟨y, 1092, none⟩ (.slice a (s.n21 + 1) c)) ∧ (∃ v, W.cell? ⟨y, 1092, none⟩ = some v) ∧ W.frozen? ⟨y, 1092, none⟩ = false := by
  have hne : some y ≠ Value.ownBlock (.slice s.a21 s.n21 s.c21) := fun e => own_neC h.o21 h.row (by decide) e.symm
  have hne0 : some w0.heap.size ≠ Value.ownBlock (.slice s.a21 s.n21 s.c21) := fun e => own_neC h.o21 h.res (by decide) e.symm
  have hrow : W.heap[y]? = some (.cells (cel (sState (fX s))) 49) := (hg.block y (some_lt h.row) hne).trans h.row
  have hres : W.heap[w0.heap.size]? = some (.cells (cel (sState oState)) 49) := (hg.block _ (some_lt h.res) hne0).trans h.res
  have hk : Kept y W (W.setCell ⟨y, 1092, none⟩ (.slice a (s.n21 + 1) c)) := (Kept.refl y W).setCell _ _
  have hbW : Below w0.heap.size w0 W := by
    refine ⟨hg.os.trans h.bel.os, hg.tape.trans h.bel.tape, hg.output.trans h.bel.output, Nat.le_trans h.bel.size hg.size, fun k hk' => (hg.block k (Nat.lt_of_lt_of_le hk' h.bel.size) (fun e => ?_)).trans (h.bel.block k hk')⟩
    have := (h.o21.lt k e.symm).1
    omega
  rw [show nl (fun _ => 0) s.n21 ++ [.int .u64 0] = nl (fun _ => 0) (s.n21 + 1) from nl_succ _ _] at ho
  have g21 := own_keptC ho hk (own_neC ho hrow (by decide))
  have p11 := own_grownC h.o11 h.o21 hg (.inl (by decide))
  have g11 := own_keptC p11 hk (own_neC p11 hrow (by decide))
  have p12 := own_grownC h.o12 h.o21 hg (.inr h.d12)
  have g12 := own_keptC p12 hk (own_neC p12 hrow (by decide))
  have p15 := own_grownC h.o15 h.o21 hg (.inl (by decide))
  have g15 := own_keptC p15 hk (own_neC p15 hrow (by decide))
  have p16 := own_grownC h.o16 h.o21 hg (.inl (by decide))
  have g16 := own_keptC p16 hk (own_neC p16 hrow (by decide))
  refine ⟨⟨hbW.trans (hk.below (by omega) hbW.size), (row_set hrow 1092 _).trans (congrArg (fun c => some (Obj.cells c 49)) (st_21 (fX s) a (s.n21 + 1) c)), (hk.block _ (some_lt hres) (by omega)).trans hres, g11, g12, g15, g16, g21, h.d15, fun b e1 e2 => (hb b e2).elim (fun h0 => h.d12 b e1 h0) (fun h0 => by have := (h.o12.lt b e1).2; omega)⟩, some_cell hrow (by omega), row_frozen hrow _⟩

theorem one1 {x : Value} (hx : x.oneCell' = true := by rfl) : ∀ u ∈ [x], u.oneCell' = true := fun u hu => by
  rw [List.mem_singleton] at hu
  rw [hu]
  exact hx

def FewS (n : Nat) (x : VState) : Prop := x.f11.n = n ∧ x.f11.z = fun _ => oV2

attribute [local go_sem ↓] lvState_eq svState_eq bdState_eq bvV_eq bsV_eq

set_option maxHeartbeats 4000000 in
theorem few_any (n : Nat) (hn : n ≤ 65536) (w : World) :
    Calls Tryd.prog 16 #[.int .i64 n] w fun e w' => ∃ x, e = .returned (.agg (cel (sState x))) ∧ FewS n x ∧ Lk w' x ∧ OkState x ∧ Below w.heap.size w w' := by
  obtain ⟨W0, hW0⟩ : ∃ W, (w.alloc (.cells (cel (sState oState)) 49)).alloc (.cells (cel (sState oState)) 49) = W := ⟨_, rfl⟩
  have r0 : W0.heap[w.heap.size]? = some (.cells (cel (sState oState)) 49) := by rw [← hW0]; exact (heap_old (by simp)).trans (heap_new rfl)
  have r1 : W0.heap[w.heap.size + 1]? = some (.cells (cel (sState oState)) 49) := by rw [← hW0]; exact heap_new (by simp)
  have hB0 : Below w.heap.size w W0 := by rw [← hW0]; exact ((Below.refl _ _).alloc (Nat.le_refl _) _).alloc (by simp) _
  rw [fX_zero] at r1
  have hF0 : Fw w (w.heap.size + 1) fs0 W0 := ⟨hB0, r1, r0, World.ownsRow_nil _ _ _ _, World.ownsRow_nil _ _ _ _, World.ownsRow_nil _ _ _ _, World.ownsRow_nil _ _ _ _, World.ownsRow_nil _ _ _ _, fun b e => by (cases e), fun b e => by (cases e)⟩
  obtain ⟨i11, hi11, hz11a, hz11b, hz11c⟩ := info_out (P := Tryd.prog) (t := 63) (z := .agg (cel (sValidator oValidator))) (s := 86) (b := 128) (by kernel_rfl)
  obtain ⟨i64, hi64, hz64a, hz64b, hz64c⟩ := info_parts info64
  obtain ⟨i08, hi08, hz08a, hz08b, hz08c⟩ := info_parts info8
  obtain ⟨y, ey⟩ : ∃ y, w.heap.size + 1 = y := ⟨_, rfl⟩
  rw [ey] at hF0
  have hy : w.heap.size < y := by omega
  have zs := zeroState
  have b1 := bvV_2
  have b2 := bsV_2
  have HZ := hid (And.intro hi11 (And.intro hz11a (And.intro hz11b hz11c)))
  have HY := hid (And.intro hi64 (And.intro hz64a (And.intro hz64b hz64c)))
  have HX := hid (And.intro hi08 (And.intro hz08a (And.intro hz08b hz08c)))
  obtain ⟨v2, ev2⟩ : ∃ v, oV2 = v := ⟨_, rfl⟩
  rw [ev2] at b1 b2
  obtain ⟨xo, exo⟩ : ∃ x, oState = x := ⟨_, rfl⟩
  rw [exo] at zs hW0
  have HV := hid ev2
  have HO := hid exo
  have HF0 := hid hF0
  have HW0 := hid hW0
  have HE := hid ey
  have HYY := hid hy
  clear hF0 hW0 r0 r1 hB0 hi11 hz11a hz11b hz11c hi64 hz64a hz64b hz64c hi08 hz08a hz08b hz08c ev2 exo ey hy
  go_enter Tryd.func16, Tryd.ntmps16
  go_upto_region 2 with fail
  rw [HW0.out, HE.out]
  clear HW0 zs
  go_wp2
  go_loopw [4] (fun c wr => ∃ (k : Nat) (s : FS), k ≤ n ∧ c = .int .i64 k ∧ Fw w y s wr ∧ s.n11 = k ∧ s.n12 = k ∧ s.n15 = k ∧ s.n16 = k ∧ s.n21 = k) (fun c _ => n - (intOf c).toNat)
  case atStart => exact ⟨0, fs0, by omega, rfl, HF0.out, rfl, rfl, rfl, rfl, rfl⟩
  case round =>
    obtain ⟨k, s, hk, rfl, hF, e11, e12, e15, e16, e21⟩ := hrel
    clear HF0
    by_cases hkn : k < n
    · have k1 : (k : Int) < (n : Int) := by omega
      have k2 : (0 : Int) ≤ (k : Int) := by omega
      have HEE := hid (And.intro e11 (And.intro e12 (And.intro e15 (And.intro e16 e21))))
      clear e11 e12 e15 e16 e21
      have c11 := cS11 hF.row
      have HF11 := hid hF
      clear hF
      go_upto_region 6 with (at_builtin; obtain rfl := HV.out; have ee := HEE.out; obtain ⟨hi11, hz11a, hz11b, hz11c⟩ := HZ.out; go_loud (refine app_blk (wr.alloc (.cells (cel (sValidator oV2)) 63)) rfl _ _ 36 rfl w.heap.size 63 i11 (.agg (cel (sValidator oValidator))) 86 128 Tryd.underlying36 hi11 hz11a hz11b hz11c (by show (cel (sValidator oValidator)).size = 86; rw [cel_size, slValidator]) (by decide) (.slice s.a11 s.n11 s.c11) s.n11 (flat (fun _ => celL (sValidator oV2)) s.n11) rfl (HF11.out.alloc _).o11 ⟨wr.heap.size, 0, none⟩ 1 1 (celL (sValidator oV2)) rfl (by rw [celL_len]; rfl) (fun j u hj => by rw [addr_add, Nat.zero_add, row_cell (heap_new rfl), ← hj]; exact List.getElem?_toArray ..) (celL_one _) (by unfold maxLen; omega) (by omega) (by have := HF11.out.bel.size; simp; omega) ?_); intro u11 x11 ho11 hg11 hb11; obtain ⟨a11, d11, eu11⟩ := owns_form ho11; subst eu11; obtain ⟨hG11, ⟨q11, hq11⟩, hf11⟩ := Fw.a11 (HF11.out.alloc _) HYY.out ho11 hg11 hb11; clear ee hi11 hz11a hz11b hz11c ho11 hg11 hb11)
      obtain ⟨V11, hV11⟩ : ∃ V, x11.setCell ⟨y, 721, none⟩ (.slice a11 (s.n11 + 1) d11) = V := ⟨_, rfl⟩
      rw [hV11] at hG11 ⊢
      obtain ⟨s11, es11⟩ : ∃ s', ({ s with a11 := a11, n11 := s.n11 + 1, c11 := d11 } : FS) = s' := ⟨_, rfl⟩
      have ff : s11.n11 = k + 1 ∧ s11.n12 = k ∧ s11.n15 = k ∧ s11.n16 = k ∧ s11.n21 = k := by
        obtain ⟨e11, e12, e15, e16, e21⟩ := HEE.out
        rw [← es11]
        exact ⟨congrArg (· + 1) e11, e12, e15, e16, e21⟩
      rw [es11] at hG11
      clear HEE
      have HEE := hid ff
      clear ff hV11 es11 hq11 hf11 c11 HF11
      have c12 := cS12 hG11.row
      have HF12 := hid hG11
      clear hG11
      go_upto_region 7 with (at_builtin; have ee := HEE.out; obtain ⟨hi64, hz64a, hz64b, hz64c⟩ := HY.out; go_loud (refine app_blk (V11.alloc (.cells #[.int .u64 32000000000] 22)) rfl _ _ 37 rfl w.heap.size 22 i64 (.int .u64 0) 1 8 Tryd.underlying37 hi64 hz64a hz64b hz64c rfl (by decide) (.slice s11.a12 s11.n12 s11.c12) s11.n12 (nl (fun _ => 32000000000) s11.n12) rfl (HF12.out.alloc _).o12 ⟨V11.heap.size, 0, none⟩ 1 1 ([.int .u64 32000000000]) rfl rfl (cell_one_new _ _ _) one1 (by unfold maxLen; omega) (by omega) (by have := HF12.out.bel.size; simp; omega) ?_); intro u12 x12 ho12 hg12 hb12; obtain ⟨a12, d12, eu12⟩ := owns_form ho12; subst eu12; obtain ⟨hG12, ⟨q12, hq12⟩, hf12⟩ := Fw.a12 (HF12.out.alloc _) HYY.out ho12 hg12 hb12; clear ee hi64 hz64a hz64b hz64c ho12 hg12 hb12)
      obtain ⟨V12, hV12⟩ : ∃ V, x12.setCell ⟨y, 722, none⟩ (.slice a12 (s11.n12 + 1) d12) = V := ⟨_, rfl⟩
      rw [hV12] at hG12 ⊢
      obtain ⟨s12, es12⟩ : ∃ s', ({ s11 with a12 := a12, n12 := s11.n12 + 1, c12 := d12 } : FS) = s' := ⟨_, rfl⟩
      have ff : s12.n11 = k + 1 ∧ s12.n12 = k + 1 ∧ s12.n15 = k ∧ s12.n16 = k ∧ s12.n21 = k := by
        obtain ⟨e11, e12, e15, e16, e21⟩ := HEE.out
        rw [← es12]
        exact ⟨e11, congrArg (· + 1) e12, e15, e16, e21⟩
      rw [es12] at hG12
      clear HEE
      have HEE := hid ff
      clear ff hV12 es12 hq12 hf12 c12 HF12
      have c15 := cS15 hG12.row
      have HF15 := hid hG12
      clear hG12
      go_upto_region 8 with (at_builtin; have ee := HEE.out; obtain ⟨hi08, hz08a, hz08b, hz08c⟩ := HX.out; go_loud (refine app_blk (V12.alloc (.cells #[.int .u8 0] 5)) rfl _ _ 39 rfl w.heap.size 5 i08 (.int .u8 0) 1 1 Tryd.underlying39 hi08 hz08a hz08b hz08c rfl (by decide) (.slice s12.a15 s12.n15 s12.c15) s12.n15 (bl (fun _ => 0) s12.n15) rfl (HF15.out.alloc _).o15 ⟨V12.heap.size, 0, none⟩ 1 1 ([.int .u8 0]) rfl rfl (cell_one_new _ _ _) one1 (by unfold maxLen; omega) (by omega) (by have := HF15.out.bel.size; simp; omega) ?_); intro u15 x15 ho15 hg15 hb15; obtain ⟨a15, d15, eu15⟩ := owns_form ho15; subst eu15; obtain ⟨hG15, ⟨q15, hq15⟩, hf15⟩ := Fw.a15 (HF15.out.alloc _) HYY.out ho15 hg15 hb15; clear ee hi08 hz08a hz08b hz08c ho15 hg15 hb15)
      obtain ⟨V15, hV15⟩ : ∃ V, x15.setCell ⟨y, 987, none⟩ (.slice a15 (s12.n15 + 1) d15) = V := ⟨_, rfl⟩
      rw [hV15] at hG15 ⊢
      obtain ⟨s15, es15⟩ : ∃ s', ({ s12 with a15 := a15, n15 := s12.n15 + 1, c15 := d15 } : FS) = s' := ⟨_, rfl⟩
      have ff : s15.n11 = k + 1 ∧ s15.n12 = k + 1 ∧ s15.n15 = k + 1 ∧ s15.n16 = k ∧ s15.n21 = k := by
        obtain ⟨e11, e12, e15, e16, e21⟩ := HEE.out
        rw [← es15]
        exact ⟨e11, e12, congrArg (· + 1) e15, e16, e21⟩
      rw [es15] at hG15
      clear HEE
      have HEE := hid ff
      clear ff hV15 es15 hq15 hf15 c15 HF15
      have c16 := cS16 hG15.row
      have HF16 := hid hG15
      clear hG15
      go_upto_region 9 with (at_builtin; have ee := HEE.out; obtain ⟨hi08, hz08a, hz08b, hz08c⟩ := HX.out; go_loud (refine app_blk (V15.alloc (.cells #[.int .u8 0] 5)) rfl _ _ 39 rfl w.heap.size 5 i08 (.int .u8 0) 1 1 Tryd.underlying39 hi08 hz08a hz08b hz08c rfl (by decide) (.slice s15.a16 s15.n16 s15.c16) s15.n16 (bl (fun _ => 0) s15.n16) rfl (HF16.out.alloc _).o16 ⟨V15.heap.size, 0, none⟩ 1 1 ([.int .u8 0]) rfl rfl (cell_one_new _ _ _) one1 (by unfold maxLen; omega) (by omega) (by have := HF16.out.bel.size; simp; omega) ?_); intro u16 x16 ho16 hg16 hb16; obtain ⟨a16, d16, eu16⟩ := owns_form ho16; subst eu16; obtain ⟨hG16, ⟨q16, hq16⟩, hf16⟩ := Fw.a16 (HF16.out.alloc _) HYY.out ho16 hg16 hb16; clear ee hi08 hz08a hz08b hz08c ho16 hg16 hb16)
      obtain ⟨V16, hV16⟩ : ∃ V, x16.setCell ⟨y, 988, none⟩ (.slice a16 (s15.n16 + 1) d16) = V := ⟨_, rfl⟩
      rw [hV16] at hG16 ⊢
      obtain ⟨s16, es16⟩ : ∃ s', ({ s15 with a16 := a16, n16 := s15.n16 + 1, c16 := d16 } : FS) = s' := ⟨_, rfl⟩
      have ff : s16.n11 = k + 1 ∧ s16.n12 = k + 1 ∧ s16.n15 = k + 1 ∧ s16.n16 = k + 1 ∧ s16.n21 = k := by
        obtain ⟨e11, e12, e15, e16, e21⟩ := HEE.out
        rw [← es16]
        exact ⟨e11, e12, e15, congrArg (· + 1) e16, e21⟩
      rw [es16] at hG16
      clear HEE
      have HEE := hid ff
      clear ff hV16 es16 hq16 hf16 c16 HF16
      have c21 := cS21 hG16.row
      have HF21 := hid hG16
      clear hG16
      go_upto_region 4 with (at_builtin; have ee := HEE.out; obtain ⟨hi64, hz64a, hz64b, hz64c⟩ := HY.out; go_loud (refine app_blk (V16.alloc (.cells #[.int .u64 0] 22)) rfl _ _ 37 rfl w.heap.size 22 i64 (.int .u64 0) 1 8 Tryd.underlying37 hi64 hz64a hz64b hz64c rfl (by decide) (.slice s16.a21 s16.n21 s16.c21) s16.n21 (nl (fun _ => 0) s16.n21) rfl (HF21.out.alloc _).o21 ⟨V16.heap.size, 0, none⟩ 1 1 ([.int .u64 0]) rfl rfl (cell_one_new _ _ _) one1 (by unfold maxLen; omega) (by omega) (by have := HF21.out.bel.size; simp; omega) ?_); intro u21 x21 ho21 hg21 hb21; obtain ⟨a21, d21, eu21⟩ := owns_form ho21; subst eu21; obtain ⟨hG21, ⟨q21, hq21⟩, hf21⟩ := Fw.a21 (HF21.out.alloc _) HYY.out ho21 hg21 hb21; clear ee hi64 hz64a hz64b hz64c ho21 hg21 hb21)
      obtain ⟨V21, hV21⟩ : ∃ V, x21.setCell ⟨y, 1092, none⟩ (.slice a21 (s16.n21 + 1) d21) = V := ⟨_, rfl⟩
      rw [hV21] at hG21 ⊢
      obtain ⟨s21, es21⟩ : ∃ s', ({ s16 with a21 := a21, n21 := s16.n21 + 1, c21 := d21 } : FS) = s' := ⟨_, rfl⟩
      have ff : s21.n11 = k + 1 ∧ s21.n12 = k + 1 ∧ s21.n15 = k + 1 ∧ s21.n16 = k + 1 ∧ s21.n21 = k + 1 := by
        obtain ⟨e11, e12, e15, e16, e21⟩ := HEE.out
        rw [← es21]
        exact ⟨e11, e12, e15, e16, congrArg (· + 1) e21⟩
      rw [es21] at hG21
      clear HEE
      have HEE := hid ff
      clear ff hV21 es21 hq21 hf21 c21 HF21
      have HG := hid hG21
      clear hG21
      go_wp2
      go_roundw
      case rel => exact ⟨k + 1, s21, by omega, by go_num, HG.out, HEE.out⟩
      case measure => simp [intOf]; omega
    · obtain rfl : k = n := by omega
      have ld := lvState_run hF.row
      have sv := svState_run hF.res (fX s)
      have HF := hid hF
      have HEE := hid e11
      clear hF e11 e12 e15 e16 e21
      go_wp2
      have e11 := HEE.out
      refine retState1 2 w.heap.size (fX s) 49 rfl rfl rfl (setRow_at HF.out.res) ⟨fX s, rfl, ⟨e11, rfl⟩, ?_, ok_fX s, below_row HF.out.bel (Nat.le_refl _) _⟩
      have hk : Kept w.heap.size wr (wr.setRow w.heap.size (cel (sState (fX s)))) := (Kept.refl _ _).setRow _
      exact ⟨own_els (own_keptC HF.out.o11 hk (own_neC HF.out.o11 HF.out.res (by decide))) (fun i => by rw [celL_len]; rfl), by show s.n11 ≤ 65536; omega, fun j _ => by show (0 : Int) ≤ 32000000000 ∧ (32000000000 : Int) ≤ 32000000000; omega, by show (0 : Int) ≤ 0 ∧ (0 : Int) < 1099511627776; omega⟩

end Go.Proofs.YtenhgoclfljjlaaDoor

namespace Go.Proofs.YtenhgoclfljjlaaDoor

open Go.RowKit

set_option linter.unusedVariables false

set_option linter.unusedSimpArgs false

set_option maxRecDepth 100000

/-- What the program's functions have to answer. -/
def PCount : Prop := ∀ (x : VState) (e : Int) (w : World), OkState x → Lk w x → 0 ≤ e → e < 18446744073709551616 → Calls Tryd.prog 8 #[.agg (cel (sState x)), .int .u64 e] w fun e' w' => e' = .returned (.int .u64 (cnt (acE x e).length : Nat)) ∧ Below w.heap.size w w'

def POf : Prop := ∀ (x : VState) (sl ix : Int) (w : World), OkState x → Lk w x → Sh w → 0 ≤ sl → sl < 18446744073709551616 → 0 ≤ ix → ix < 18446744073709551616 → Calls Tryd.prog 10 #[.agg (cel (sState x)), .int .u64 sl, .int .u64 ix] w (OfA x sl ix w)

theorem few_act (e : Int) (h0 : 0 ≤ e) (h1 : e < 18446744073709551615) : ∀ n, (acL (fun _ => oV2) e n).length = n
  | 0 => rfl
  | n + 1 => by
    have hb : actB oV2 e = true := by
      unfold actB
      rw [Bool.and_eq_true, decide_eq_true_eq, decide_eq_true_eq]
      exact ⟨h0, h1⟩
    unfold acL
    rw [if_pos hb, List.length_append, few_act e h0 h1 n]
    rfl

theorem few_len {n : Nat} {x : VState} (h : FewS n x) (e : Int) (h0 : 0 ≤ e) (h1 : e < 18446744073709551615) : (acE x e).length = n := by
  unfold acE
  rw [h.2, h.1]
  exact few_act e h0 h1 n

set_option maxHeartbeats 4000000 in
theorem awake14 (pC : PCount) (pO : POf) (w : World) (hS : Sh w) :
    Calls Tryd.prog 6 #[] w fun e' w' => e' = .returned (.bool true) ∧ Below w.heap.size w w' := by
  have hf16 : ∀ W : World, Calls Tryd.prog 16 #[.int .i64 16] W fun e w' => ∃ x, e = .returned (.agg (cel (sState x))) ∧ FewS 16 x ∧ Lk w' x ∧ OkState x ∧ Below W.heap.size W w' := fun W => few_any 16 (by omega) W
  have hf3 : ∀ W : World, Calls Tryd.prog 16 #[.int .i64 3] W fun e w' => ∃ x, e = .returned (.agg (cel (sState x))) ∧ FewS 3 x ∧ Lk w' x ∧ OkState x ∧ Below W.heap.size W w' := fun W => few_any 3 (by omega) W
  have ho1 : ∀ (W : World) x, FewS 16 x → Lk W x → OkState x → Below w.heap.size w W → Calls Tryd.prog 10 #[.agg (cel (sState x)), .int .u64 2, .int .u64 1] W fun e' w' => ∃ a c, e' = .returned (.tuple #[.slice a 2 c, .int .i64 0]) ∧ Below W.heap.size W w' := fun W x h1 h2 h3 h4 => by
    refine (pO x 2 1 W h3 h2 (hS.below h4) (by omega) (by omega) (by omega) (by omega)).mono ?_
    rintro e' w' ⟨a, c, rfl, _, hb⟩
    rw [few_len h1 (2 / 4) (by omega) (by omega)]
    exact ⟨a, c, rfl, hb⟩
  have ho2 : ∀ (W : World) x, FewS 16 x → Lk W x → OkState x → Below w.heap.size w W → Calls Tryd.prog 10 #[.agg (cel (sState x)), .int .u64 2, .int .u64 2] W fun e' w' => ∃ a c, e' = .returned (.tuple #[.slice a 0 c, .int .i64 1]) ∧ Below W.heap.size W w' := fun W x h1 h2 h3 h4 => by
    refine (pO x 2 2 W h3 h2 (hS.below h4) (by omega) (by omega) (by omega) (by omega)).mono ?_
    rintro e' w' ⟨a, c, rfl, _, hb⟩
    rw [few_len h1 (2 / 4) (by omega) (by omega)]
    exact ⟨a, c, rfl, hb⟩
  have hc : ∀ (W : World) x, FewS 3 x → Lk W x → OkState x → Calls Tryd.prog 8 #[.agg (cel (sState x)), .int .u64 0] W fun e' w' => e' = .returned (.int .u64 1) ∧ Below W.heap.size W w' := fun W x h1 h2 h3 => by
    have := pC x 0 W h3 h2 (by omega) (by omega)
    rw [few_len h1 0 (by omega) (by omega)] at this
    exact this
  have HF16 := hid hf16
  have HF3 := hid hf3
  have HO1 := hid ho1
  have HO2 := hid ho2
  have HC := hid hc
  clear hf16 hf3 ho1 ho2 hc hS pC pO
  go_enter Tryd.func6, Tryd.ntmps6
  go_upto_region 2 with (first
    | (go_at_call 16; refine (HF16.out _).mono ?_; rintro e' w1 ⟨x1, rfl, hs1, hl1, hk1, hb1⟩)
    | (go_at_call 10; refine (HO1.out _ _ hs1 hl1 hk1 hb1).mono ?_; rintro e' w2 ⟨a2, c2, rfl, hb2⟩; have hB2 := hb1.trans (hb2.mono hb1.size)))
  clear hs1 hl1 hk1 hb1 hb2
  go_upto_region 3 with (first
    | (go_at_call 16; refine (HF16.out _).mono ?_; rintro e' w3 ⟨x3, rfl, hs3, hl3, hk3, hb3⟩; have hB3 := hB2.trans (hb3.mono hB2.size))
    | (go_at_call 10; refine (HO2.out _ _ hs3 hl3 hk3 hB3).mono ?_; rintro e' w4 ⟨a4, c4, rfl, hb4⟩; have hB4 := hB3.trans (hb4.mono hB3.size)))
  clear hs3 hl3 hk3 hb3 hb4 hB3 hB2
  go_wp2_with (first
    | (go_at_call 16; refine (HF3.out _).mono ?_; rintro e' w5 ⟨x5, rfl, hs5, hl5, hk5, hb5⟩; have hB5 := hB4.trans (hb5.mono hB4.size))
    | (go_at_call 8; refine (HC.out _ _ hs5 hl5 hk5).mono ?_; rintro e' w6 ⟨rfl, hb6⟩; have hB6 := hB5.trans (hb6.mono hB5.size)))
  go_ret
  exact ⟨rfl, hB6⟩

end Go.Proofs.YtenhgoclfljjlaaDoor
