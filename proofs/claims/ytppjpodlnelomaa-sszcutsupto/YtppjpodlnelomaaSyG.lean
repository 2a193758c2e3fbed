/-
  SszEnds, whatever it is handed.
-/
import Derived.Test.YtppjpodlnelomaaSyF
namespace Go.Proofs.Ytppjpodlnelomaa
open Go.RowKit
set_option linter.unusedVariables false
set_option linter.unusedSimpArgs false

theorem ends_law (zs : Nat → Int) (a : Option Addr) (n c : Nat) (A : Nat → Option Addr) (L C : Nat → Nat) (f : Nat → Nat → Int) (sa : Option Addr) (m sc : Nat) (at_ : Int) (x : Nat) (w : World) (h : Parts w a n A L C f) (hf : ∀ r, r < n → ∀ q, q < L r → 0 ≤ f r q ∧ f r q < 256) (hn : Nms .i64 w sa m zs) (hLb : ∀ r, r < n → L r ≤ 9223372036854775807) (hm : m ≤ 9223372036854775807) (hx : x < 256) (ha0 : -9223372036854775808 ≤ at_) (ha1 : at_ ≤ 9223372036854775807) :
    Calls Try.prog 7 #[.slice a n c, .slice sa m sc, .int .i64 at_, .int .u8 x] w fun e w' => e = .returned (.bool true) ∧ Below w.heap.size w w' := by
  cases hsz : szB zs m
  · exact ends_err 1 (.inl rfl) a n c sa m sc at_ x w (fun W hW => lay_arg zs a n c A L C f sa m sc W (hn.below hW) hm hsz)
  · by_cases hnm : n = m
    · subst hnm
      by_cases hfit : Fits zs L n
      · by_cases ht : hdL zs n + loL zs L n < 4294967296
        · exact ends_ok zs a n c A L C f sa sc at_ x w h hf hn hsz hLb hfit ht hx ha0 ha1
        · exact ends_err 1 (.inl rfl) a n c sa n sc at_ x w (fun W hW => lay_big zs a n c A L C f sa sc W (h.below hW) (hn.below hW) hsz hLb hfit ht)
      · exact ends_err 4 (.inr rfl) a n c sa n sc at_ x w (fun W hW => lay_size zs a n c A L C f sa sc W (h.below hW) (hn.below hW) hsz hLb hfit)
    · exact ends_err 1 (.inl rfl) a n c sa m sc at_ x w (fun W hW => lay_count zs a n c A L C f sa m sc W (hn.below hW) hm hsz hnm)

end Go.Proofs.Ytppjpodlnelomaa
