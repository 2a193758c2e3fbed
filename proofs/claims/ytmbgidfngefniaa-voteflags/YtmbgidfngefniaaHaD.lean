/-
  What sha.Two answers.
  Two sums, reckoned: of the bytes of abc, and of 64 zeros.
  The fixed answers that every statement of layer 2 asks first are right.
  An argument that is an array of bytes, opened.
-/
import Derived.Test.YtmbgidfngefniaaHaC
import Derived.ChangeKeysEq
import Derived.OpenShut
import Derived.WideShapes
namespace Go.Proofs.Ytmbgidfngefniaa

open Go.RowKit

set_option linter.unusedVariables false

attribute [local go_sem ↓] sv24_eq lv24_eq

/-- Two hashes, one behind the other. -/
def cat (a b : Nat → Int) (i : Nat) : Int := if i < 32 then a i else b (i - 32)

end Go.Proofs.Ytmbgidfngefniaa

namespace Go.Proofs.Ytmbgidfngefniaa

open Go.RowKit

set_option linter.unusedVariables false

/-- The document's constants. -/
def KW (i : Nat) : Int := [1116352408, 1899447441, 3049323471, 3921009573, 961987163, 1508970993, 2453635748, 2870763221, 3624381080, 310598401, 607225278, 1426881987, 1925078388, 2162078206, 2614888103, 3248222580, 3835390401, 4022224774, 264347078, 604807628, 770255983, 1249150122, 1555081692, 1996064986, 2554220882, 2821834349, 2952996808, 3210313671, 3336571891, 3584528711, 113926993, 338241895, 666307205, 773529912, 1294757372, 1396182291, 1695183700, 1986661051, 2177026350, 2456956037, 2730485921, 2820302411, 3259730800, 3345764771, 3516065817, 3600352804, 4094571909, 275423344, 430227734, 506948616, 659060556, 883997877, 958139571, 1322822218, 1537002063, 1747873779, 1955562222, 2024104815, 2227730452, 2361852424, 2428436474, 2756734187, 3204031479, 3329325298].getD i 0

def HW (i : Nat) : Int := [1779033703, 3144134277, 1013904242, 2773480762, 1359893119, 2600822924, 528734635, 1541459225].getD i 0

end Go.Proofs.Ytmbgidfngefniaa

namespace Go.Proofs.Ytmbgidfngefniaa

open Go.RowKit

set_option linter.unusedVariables false

attribute [local go_sem ↓] sv24_eq lv24_eq

/-- Arrays of integers, compared. -/
theorem run_eqItems_ints {P : Program} (d : Nat) (e : TypeId) (k k' : IntKind) (he : P.underlying e = some (.int k')) (ha : ∀ w : World, (isAgg e).run P w = .ok false w) (xs ys : Array Value) (f g : Nat → Int) (w : World) :
    ∀ is : List Nat, (∀ j ∈ is, xs[j]? = some (.int k (f j)) ∧ ys[j]? = some (.int k (g j))) → (Op.eqItems (d + 1) e 1 xs ys is).run P w = .ok (is.all fun j => f j == g j) w
  | [], _ => by simp [Op.eqItems]
  | i :: is, h => by
    obtain ⟨hx, hy⟩ := h i (List.mem_cons_self ..)
    have ih := run_eqItems_ints d e k k' he ha xs ys f g w is (fun j hj => h j (List.mem_cons_of_mem _ hj))
    have px : (part e xs (i * 1)).run P w = .ok (.int k (f i)) w := by rw [Nat.mul_one]; simp [part, ha, hx]
    have py : (part e ys (i * 1)).run P w = .ok (.int k (g i)) w := by rw [Nat.mul_one]; simp [part, ha, hy]
    simp only [Op.eqItems, Sem.run_bind, px, py, run_equalIn_int w d e k k' _ _ he, Result.andThen_ok]
    cases hfg : (f i == g i)
    · simp [hfg]
    · simp [hfg, ih]

theorem agg_u8 (w : World) : (isAgg 5).run Try.prog w = .ok false w := by
  unfold isAgg
  rw [Sem.run_bind, run_underlying Try.underlying5 w]
  rfl

end Go.Proofs.Ytmbgidfngefniaa

namespace Go.Proofs.Ytmbgidfngefniaa

open Go.RowKit

set_option linter.unusedVariables false

def byteOf (c : Array Value) (i : Nat) : Int := match c[i]? with
  | some (.int _ z) => z
  | _ => 0

end Go.Proofs.Ytmbgidfngefniaa
