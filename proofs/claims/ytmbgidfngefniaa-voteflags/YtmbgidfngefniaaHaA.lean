/-
  What turn and rot answer: a word turned to the right.
  Rows of integers in memory: what lies in a block, read and written cell by cell.
  The words of a block, and the block's rounds, as numbers.
  The rounds of a block, as numbers.
-/
import Derived.Test.YtmbgidfngefniaaRows
import Derived.WalkKit
import Derived.WalkSpells
import Derived.WalkLawsBesides
import Derived.OpenShut
import Derived.Handy
import Derived.Deep.RegionHeld3
import Derived.Laws.BitsAllLaws
import Derived.Deep.MidRow
import Derived.Deep.WholeRow
namespace Go.Proofs.Ytmbgidfngefniaa

open Go.RowKit

set_option linter.unusedVariables false

/-- An end that several orders share. -/
theorem share {P : Program} {ops : Array Oper} {Q : Exit → Act → World → Prop} {md : Region.Mode} {S : World → Prop} {fuel : Nat} {listed : Array Bool} {a : Act} {w : World} (V : World) {act : Act} (hm : Q .normal act V → wpAnyH P md ops Q S fuel listed a w) (ht : Q .normal act V) : wpAnyH P md ops Q S fuel listed a w := hm ht

/-- Take number i first. -/
theorem tk {P : Program} {ops : Array Oper} {Q : Exit → Act → World → Prop} {md : Region.Mode} {S : World → Prop} (i : Nat) {oi : Oper} {v : Value} {fuel : Nat} {listed : Array Bool} {a : Act} {w : World}
    (hy : ∀ w, S w → (execOp a.eval oi).run P w = .ok (.value v) w) (hS : S w) (h : wpAnyH P md ops Q S fuel (listed.setIfInBounds i true) (a.put oi.dst v) w)
    (hi : ops[i]? = some oi := by rfl) (hs : Region.noSelect ops = true := by kernel_rfl) (hf : Region.free md ops listed i = true := by kernel_rfl) (hr : (Region.ready md ops listed).contains i = true := by kernel_rfl)
    (hQ : ∀ c a w, Q (.panic c) (a.put oi.dst v) w → Q (.panic c) a w := by exact fun _ _ _ h => h) (hw : Region.wanted oi (yielded ops a.tmps) = true := by kernel_rfl) : wpAnyH P md ops Q S (fuel + 1) listed a w :=
  wpAnyH_take hi hs hf hr hQ (Or.inl ⟨hw, hy⟩) hS h

/-- Number i is not wanted. -/
theorem tl {P : Program} {ops : Array Oper} {Q : Exit → Act → World → Prop} {md : Region.Mode} {S : World → Prop} (i : Nat) {oi : Oper} {fuel : Nat} {listed : Array Bool} {a : Act} {w : World}
    (hS : S w) (h : wpAnyH P md ops Q S fuel (listed.setIfInBounds i true) (a.put oi.dst undef) w)
    (hi : ops[i]? = some oi := by rfl) (hs : Region.noSelect ops = true := by kernel_rfl) (hf : Region.free md ops listed i = true := by kernel_rfl) (hr : (Region.ready md ops listed).contains i = true := by kernel_rfl)
    (hQ : ∀ c a w, Q (.panic c) (a.put oi.dst undef) w → Q (.panic c) a w := by exact fun _ _ _ h => h) (hw : Region.wanted oi (yielded ops a.tmps) = false := by kernel_rfl) : wpAnyH P md ops Q S (fuel + 1) listed a w :=
  wpAnyH_take hi hs hf hr hQ (Or.inr ⟨hw, rfl⟩) hS h

theorem hid {p : Prop} (h : p) : Hid p := h

/-- A word turned to the right: p is 2^k, q is 2^(32-k). -/
def rr (p q x : Int) : Int := bits .or .u32 (x / p) (x * q % 4294967296)

/-- A word turned by k bits to the right. -/
def rt (k x : Int) : Int := rr (2 ^ k.toNat) (2 ^ (32 - k.toNat)) x

end Go.Proofs.Ytmbgidfngefniaa

namespace Go.Proofs.Ytmbgidfngefniaa

open Go.RowKit

set_option linter.unusedVariables false

/-- n integers of a kind. -/
def vs (k : IntKind) (n : Nat) (f : Nat → Int) : Array Value := ((List.range n).map fun i => Value.int k (f i)).toArray

theorem vs_size (k : IntKind) (n : Nat) (f : Nat → Int) : (vs k n f).size = n := by simp [vs]

theorem vs_get (k : IntKind) (n : Nat) (f : Nat → Int) (i : Nat) (h : i < n) : (vs k n f)[i]? = some (.int k (f i)) := by simp [vs, h]

theorem vs_congr {k : IntKind} {n : Nat} {f g : Nat → Int} (h : ∀ i, i < n → f i = g i) : vs k n f = vs k n g := by
  unfold vs
  congr 1
  apply List.map_congr_left
  intro i hi
  rw [h i (by simpa using hi)]

theorem vs_one (k : IntKind) (n : Nat) (f : Nat → Int) : (vs k n f).all (·.oneCell') = true := by
  rw [Array.all_eq_true_iff_forall_mem]
  intro v hv
  simp [vs] at hv
  obtain ⟨i, _, rfl⟩ := hv
  rfl

theorem row_cell {w : World} {b : Nat} {c : Array Value} {t : TypeId} (h : w.heap[b]? = some (.cells c t)) (i : Nat) : w.cell? ⟨b, i, none⟩ = c[i]? := cell_of_row w b i c t (0, 0) h

theorem row_set {w : World} {b : Nat} {c : Array Value} {t : TypeId} (h : w.heap[b]? = some (.cells c t)) (i : Nat) (v : Value) : (w.setCell ⟨b, i, none⟩ v).heap[b]? = some (.cells (c.setIfInBounds i v) t) := by
  simp only [World.setCell, Array.getElem?_modify, if_true, h]
  rfl

theorem row_frozen {w : World} {b : Nat} {c : Array Value} {t : TypeId} (h : w.heap[b]? = some (.cells c t)) (i : Nat) : w.frozen? ⟨b, i, none⟩ = false := by
  simp [World.frozen?, h]

theorem heap_set_other {w : World} {b b' i : Nat} {v : Value} (h : b' ≠ b) : (w.setCell ⟨b, i, none⟩ v).heap[b']? = w.heap[b']? := Below.heap_setCell w ⟨b, i, none⟩ v b' h

/-- A whole row, read and written. -/
theorem load_row {P : Program} {w : World} {b : Nat} {c : Array Value} {t : TypeId} (h : w.heap[b]? = some (.cells c t)) (ty : TypeId) (d : TypeDesc) (hu : P.underlying ty = some d) (hd : d.isRow = true) (hi : (P.info? ty).map (·.size) = some c.size) :
    (Instr.loadAt ty (.pointer (some ⟨b, 0, none⟩))).run P w = .ok (.agg c) w := by
  simp only [Instr.loadAt, Instr.sureAddr, Sem.run_bind, Sem.run_pure, Result.andThen_ok]
  exact run_loadVar_row w b t ty c (0, 0) d h hu (by cases d <;> simp_all [TypeDesc.isRow]) hi

theorem setRow_at {w : World} {b : Nat} {old c : Array Value} {t : TypeId} (h : w.heap[b]? = some (.cells old t)) : (w.setRow b c).heap[b]? = some (.cells c t) := setRow_heap w b old c t (0, 0) h

theorem below_row {B g : Nat} {w0 w : World} (hb : Below B w0 w) (hBg : B ≤ g) (cs : Array Value) : Below B w0 (w.setRow g cs) := 
  hb.trans ⟨rfl, rfl, rfl, by simp, fun k hk => setRow_other w g k cs (by omega)⟩

theorem heap_old {w : World} {o : Obj} {k : Nat} (h : k < w.heap.size) : (w.alloc o).heap[k]? = w.heap[k]? := Below.heap_alloc w o k h

theorem heap_new {w : World} {o : Obj} {k : Nat} (h : k = w.heap.size) : (w.alloc o).heap[k]? = some o := by subst h; exact heap_alloc_last w o

theorem below_cell {B : Nat} {w w' : World} (h : Below B w w') {b i : Nat} (hb : b < B) : w'.cell? ⟨b, i, none⟩ = w.cell? ⟨b, i, none⟩ := h.cell (p := ⟨b, i, none⟩) hb

end Go.Proofs.Ytmbgidfngefniaa

namespace Go.Proofs.Ytmbgidfngefniaa

open Go.RowKit

set_option linter.unusedVariables false

/-- Four bytes as a word. -/
def wd (a b c d : Int) : Int := bits .or .u32 (bits .or .u32 (bits .or .u32 (a % 4294967296 * 16777216 % 4294967296) (b % 4294967296 * 65536 % 4294967296)) (c % 4294967296 * 256 % 4294967296)) (d % 4294967296)

def sig1 (y : Int) : Int := bits .xor .u32 (bits .xor .u32 (rt 17 y) (rt 19 y)) (y / 1024)

def sig0 (x : Int) : Int := bits .xor .u32 (bits .xor .u32 (rt 7 x) (rt 18 x)) (x / 8)

/-- The next word. -/
def nxt (y s x r : Int) : Int := (((sig1 y + s) % 4294967296 + sig0 x) % 4294967296 + r) % 4294967296

/-- The words of a block of bytes. -/
def schW (f : Nat → Int) (t : Nat) : Int :=
  if t < 16 then wd (f (4 * t)) (f (4 * t + 1)) (f (4 * t + 2)) (f (4 * t + 3)) else nxt (schW f (t - 2)) (schW f (t - 7)) (schW f (t - 15)) (schW f (t - 16))
termination_by t

end Go.Proofs.Ytmbgidfngefniaa

namespace Go.Proofs.Ytmbgidfngefniaa

open Go.RowKit

set_option linter.unusedVariables false

def chs (e f g : Int) : Int := bits .xor .u32 (bits .and .u32 e f) (bits .and .u32 (bits .xor .u32 IntKind.u32.max e) g)

def maj (a b c : Int) : Int := bits .xor .u32 (bits .xor .u32 (bits .and .u32 a b) (bits .and .u32 a c)) (bits .and .u32 b c)

def big1 (e : Int) : Int := bits .xor .u32 (bits .xor .u32 (rt 6 e) (rt 11 e)) (rt 25 e)

def big0 (a : Int) : Int := bits .xor .u32 (bits .xor .u32 (rt 2 a) (rt 13 a)) (rt 22 a)

def one (e f g h k s : Int) : Int := ((((h + big1 e) % 4294967296 + chs e f g) % 4294967296 + k) % 4294967296 + s) % 4294967296

def two (a b c : Int) : Int := (big0 a + maj a b c) % 4294967296

/-- The letter a, and the letter e, behind a round. -/
def newA (a b c e f g h k s : Int) : Int := (one e f g h k s + two a b c) % 4294967296

def newE (d e f g h k s : Int) : Int := (d + one e f g h k s) % 4294967296

/-- The eight letters behind t rounds. -/
def rnd (K W s : Nat → Int) : Nat → Nat → Int
  | 0, i => s i
  | t + 1, 0 => newA (rnd K W s t 0) (rnd K W s t 1) (rnd K W s t 2) (rnd K W s t 4) (rnd K W s t 5) (rnd K W s t 6) (rnd K W s t 7) (K t) (W t)
  | t + 1, 4 => newE (rnd K W s t 3) (rnd K W s t 4) (rnd K W s t 5) (rnd K W s t 6) (rnd K W s t 7) (K t) (W t)
  | t + 1, i + 1 => rnd K W s t i

/-- The words behind one more block. -/
def comp (K f s : Nat → Int) (i : Nat) : Int := (s i + rnd K (schW f) s 64 i) % 4294967296

end Go.Proofs.Ytmbgidfngefniaa
