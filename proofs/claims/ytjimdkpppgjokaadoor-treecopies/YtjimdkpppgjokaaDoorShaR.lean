/-
  The rounds of a block, as numbers.
-/
import Derived.Test.YtjimdkpppgjokaaDoorShaC
namespace Go.Proofs.YtjimdkpppgjokaaDoor
open Go.RowKit
set_option linter.unusedVariables false

def chs (e f g : Int) : Int := bits .xor .u32 (bits .and .u32 e f) (bits .and .u32 (bits .xor .u32 IntKind.u32.max e) g)
def maj (a b c : Int) : Int := bits .xor .u32 (bits .xor .u32 (bits .and .u32 a b) (bits .and .u32 a c)) (bits .and .u32 b c)
def big1 (e : Int) : Int := bits .xor .u32 (bits .xor .u32 (rt 6 e) (rt 11 e)) (rt 25 e)
def big0 (a : Int) : Int := bits .xor .u32 (bits .xor .u32 (rt 2 a) (rt 13 a)) (rt 22 a)
def one (e f g h k s : Int) : Int := ((((h + big1 e) % 4294967296 + chs e f g) % 4294967296 + k) % 4294967296 + s) % 4294967296
def two (a b c : Int) : Int := (big0 a + maj a b c) % 4294967296

/-- The letter a, and the letter e, behind a round. -/
def newA (a b c e f g h k s : Int) : Int := (one e f g h k s + two a b c) % 4294967296
def newE (d e f g h k s : Int) : Int := (d + one e f g h k s) % 4294967296

/-- The eight letters behind t rounds. -/
def rnd (K W s : Nat → Int) : Nat → Nat → Int
  | 0, i => s i
  | t + 1, 0 => newA (rnd K W s t 0) (rnd K W s t 1) (rnd K W s t 2) (rnd K W s t 4) (rnd K W s t 5) (rnd K W s t 6) (rnd K W s t 7) (K t) (W t)
  | t + 1, 4 => newE (rnd K W s t 3) (rnd K W s t 4) (rnd K W s t 5) (rnd K W s t 6) (rnd K W s t 7) (K t) (W t)
  | t + 1, i + 1 => rnd K W s t i

theorem rnd_0 (K W s : Nat → Int) (t : Nat) : rnd K W s (t + 1) 0 = newA (rnd K W s t 0) (rnd K W s t 1) (rnd K W s t 2) (rnd K W s t 4) (rnd K W s t 5) (rnd K W s t 6) (rnd K W s t 7) (K t) (W t) := rfl
theorem rnd_1 (K W s : Nat → Int) (t : Nat) : rnd K W s (t + 1) 1 = rnd K W s t 0 := rfl
theorem rnd_2 (K W s : Nat → Int) (t : Nat) : rnd K W s (t + 1) 2 = rnd K W s t 1 := rfl
theorem rnd_3 (K W s : Nat → Int) (t : Nat) : rnd K W s (t + 1) 3 = rnd K W s t 2 := rfl
theorem rnd_4 (K W s : Nat → Int) (t : Nat) : rnd K W s (t + 1) 4 = newE (rnd K W s t 3) (rnd K W s t 4) (rnd K W s t 5) (rnd K W s t 6) (rnd K W s t 7) (K t) (W t) := rfl
theorem rnd_5 (K W s : Nat → Int) (t : Nat) : rnd K W s (t + 1) 5 = rnd K W s t 4 := rfl
theorem rnd_6 (K W s : Nat → Int) (t : Nat) : rnd K W s (t + 1) 6 = rnd K W s t 5 := rfl
theorem rnd_7 (K W s : Nat → Int) (t : Nat) : rnd K W s (t + 1) 7 = rnd K W s t 6 := rfl

theorem rnd_bd (K W s : Nat → Int) (hs : ∀ i, i < 8 → 0 ≤ s i ∧ s i < 4294967296) : ∀ t i, i < 8 → 0 ≤ rnd K W s t i ∧ rnd K W s t i < 4294967296
  | 0, i, hi => hs i hi
  | t + 1, 0, _ => by rw [rnd_0]; unfold newA; omega
  | t + 1, 4, _ => by rw [rnd_4]; unfold newE; omega
  | t + 1, 1, _ => by rw [rnd_1]; exact rnd_bd K W s hs t 0 (by omega)
  | t + 1, 2, _ => by rw [rnd_2]; exact rnd_bd K W s hs t 1 (by omega)
  | t + 1, 3, _ => by rw [rnd_3]; exact rnd_bd K W s hs t 2 (by omega)
  | t + 1, 5, _ => by rw [rnd_5]; exact rnd_bd K W s hs t 4 (by omega)
  | t + 1, 6, _ => by rw [rnd_6]; exact rnd_bd K W s hs t 5 (by omega)
  | t + 1, 7, _ => by rw [rnd_7]; exact rnd_bd K W s hs t 6 (by omega)

/-- The words behind one more block. -/
def comp (K f s : Nat → Int) (i : Nat) : Int := (s i + rnd K (schW f) s 64 i) % 4294967296
theorem comp_bd (K f s : Nat → Int) (i : Nat) : 0 ≤ comp K f s i ∧ comp K f s i < 4294967296 := by unfold comp; omega

theorem schW_congr {f g : Nat → Int} (h : ∀ i, i < 64 → f i = g i) : ∀ t, t < 64 → schW f t = schW g t := by
  intro t
  induction t using Nat.strongRecOn with
  | ind t ih =>
    intro ht
    by_cases h16 : t < 16
    · rw [schW_lo f t h16, schW_lo g t h16, h _ (by omega), h _ (by omega), h _ (by omega), h _ (by omega)]
    · rw [schW_hi f t h16, schW_hi g t h16, ih _ (by omega) (by omega), ih _ (by omega) (by omega), ih _ (by omega) (by omega), ih _ (by omega) (by omega)]
theorem rnd_congr {K L V W s r : Nat → Int} (n : Nat) (hK : ∀ i, i < n → K i = L i) (hW : ∀ i, i < n → V i = W i) (hs : ∀ i, i < 8 → s i = r i) : ∀ t, t ≤ n → ∀ i, i < 8 → rnd K V s t i = rnd L W r t i
  | 0, _, i, hi => hs i hi
  | t + 1, ht, 0, _ => by
    have ih := rnd_congr n hK hW hs t (by omega)
    rw [rnd_0, rnd_0, ih 0 (by omega), ih 1 (by omega), ih 2 (by omega), ih 4 (by omega), ih 5 (by omega), ih 6 (by omega), ih 7 (by omega), hK t (by omega), hW t (by omega)]
  | t + 1, ht, 4, _ => by
    have ih := rnd_congr n hK hW hs t (by omega)
    rw [rnd_4, rnd_4, ih 3 (by omega), ih 4 (by omega), ih 5 (by omega), ih 6 (by omega), ih 7 (by omega), hK t (by omega), hW t (by omega)]
  | t + 1, ht, 1, _ => by rw [rnd_1, rnd_1]; exact rnd_congr n hK hW hs t (by omega) 0 (by omega)
  | t + 1, ht, 2, _ => by rw [rnd_2, rnd_2]; exact rnd_congr n hK hW hs t (by omega) 1 (by omega)
  | t + 1, ht, 3, _ => by rw [rnd_3, rnd_3]; exact rnd_congr n hK hW hs t (by omega) 2 (by omega)
  | t + 1, ht, 5, _ => by rw [rnd_5, rnd_5]; exact rnd_congr n hK hW hs t (by omega) 4 (by omega)
  | t + 1, ht, 6, _ => by rw [rnd_6, rnd_6]; exact rnd_congr n hK hW hs t (by omega) 5 (by omega)
  | t + 1, ht, 7, _ => by rw [rnd_7, rnd_7]; exact rnd_congr n hK hW hs t (by omega) 6 (by omega)
theorem comp_congr {K f g s r : Nat → Int} (hf : ∀ i, i < 64 → f i = g i) (hs : ∀ i, i < 8 → s i = r i) (i : Nat) (hi : i < 8) : comp K f s i = comp K g r i := by
  unfold comp
  rw [hs i hi, rnd_congr 64 (fun _ _ => rfl) (schW_congr hf) hs 64 (by omega) i hi]

theorem vs8 (s : Nat → Int) : vs .u32 8 s = #[.int .u32 (s 0), .int .u32 (s 1), .int .u32 (s 2), .int .u32 (s 3), .int .u32 (s 4), .int .u32 (s 5), .int .u32 (s 6), .int .u32 (s 7)] := rfl

end Go.Proofs.YtjimdkpppgjokaaDoor
