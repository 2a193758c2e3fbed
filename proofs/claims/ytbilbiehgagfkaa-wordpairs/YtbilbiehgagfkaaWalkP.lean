/-
  What word.Parts and the document's Parts answer: the parts of a complex number, where both are whole numbers from 0 to 2^53.
-/
import Derived.Test.YtbilbiehgagfkaaWalkJ
import Derived.Test.YtbilbiehgagfkaaFlt2
namespace Go.Proofs.Ytbilbiehgagfkaa
open Go.RowKit

/-- The word b is the whole number n, from 0 to 2^53. -/
def Good (b : Nat) (n : Int) : Prop := wGe b = true ∧ wLe b = true ∧ floatToIntVal .f64 b .u64 = some n ∧ wEq (floatOfInt .f64 n) b = true

theorem good_or (b : Nat) : wGe b = false ∨ (wGe b = true ∧ wLe b = false) ∨ (∃ n, wGe b = true ∧ wLe b = true ∧ floatToIntVal .f64 b .u64 = some n ∧ wEq (floatOfInt .f64 n) b = false) ∨ ∃ n, Good b n := by
  cases h1 : wGe b with
  | false => exact Or.inl rfl
  | true =>
    cases h2 : wLe b with
    | false => exact Or.inr (Or.inl ⟨rfl, rfl⟩)
    | true =>
      obtain ⟨n, h3, _, _⟩ := toInt_ok b h1 h2
      cases h4 : wEq (floatOfInt .f64 n) b with
      | false => exact Or.inr (Or.inr (Or.inl ⟨n, rfl, rfl, h3, h4⟩))
      | true => exact Or.inr (Or.inr (Or.inr ⟨n, h1, h2, h3, h4⟩))

set_option maxHeartbeats 400000 in
theorem whole_out1 (b : Nat) (w : World) (h1 : wGe b = false) :
    Calls Try.prog 33 #[.float .f64 b] w fun e w' => e = .returned (.tuple #[.int .u64 0, .bool false]) ∧ w' = w := by
  have h1' : (FloatKind.f64.format.order b 0 == some Ordering.gt || FloatKind.f64.format.order b 0 == some Ordering.eq) = false := h1
  go_enter Try.func33, Try.ntmps33
  go_wp2
  go_ret2
  exact ⟨rfl, rfl⟩

set_option maxHeartbeats 400000 in
theorem whole_out2 (b : Nat) (w : World) (h1 : wGe b = true) (h2 : wLe b = false) :
    Calls Try.prog 33 #[.float .f64 b] w fun e w' => e = .returned (.tuple #[.int .u64 0, .bool false]) ∧ w' = w := by
  have h1' : (FloatKind.f64.format.order b 0 == some Ordering.gt || FloatKind.f64.format.order b 0 == some Ordering.eq) = true := h1
  have h2' : (FloatKind.f64.format.order b 4845873199050653696 == some Ordering.lt || FloatKind.f64.format.order b 4845873199050653696 == some Ordering.eq) = false := h2
  go_enter Try.func33, Try.ntmps33
  go_wp2
  go_ret2
  exact ⟨rfl, rfl⟩

set_option maxHeartbeats 400000 in
theorem whole_ne (b : Nat) (n : Int) (w : World) (h1 : wGe b = true) (h2 : wLe b = true) (h3 : floatToIntVal .f64 b .u64 = some n) (h4 : wEq (floatOfInt .f64 n) b = false) :
    Calls Try.prog 33 #[.float .f64 b] w fun e w' => e = .returned (.tuple #[.int .u64 0, .bool false]) ∧ w' = w := by
  have h1' : (FloatKind.f64.format.order b 0 == some Ordering.gt || FloatKind.f64.format.order b 0 == some Ordering.eq) = true := h1
  have h2' : (FloatKind.f64.format.order b 4845873199050653696 == some Ordering.lt || FloatKind.f64.format.order b 4845873199050653696 == some Ordering.eq) = true := h2
  have hc := fun w s d hs hd => run_convert_float_int (P := Try.prog) w s d .f64 .u64 b n hs hd h3
  have h4' : (FloatKind.f64.format.order (floatOfInt FloatKind.f64 n) b == some Ordering.eq) = false := h4
  have h5' : (FloatKind.f64.format.order (floatOfInt FloatKind.f64 n) b != some Ordering.eq) = true := by unfold bne; rw [h4']; rfl
  go_enter Try.func33, Try.ntmps33
  go_wp2
  go_ret2
  exact ⟨rfl, rfl⟩

set_option maxHeartbeats 400000 in
theorem whole_in (b : Nat) (n : Int) (w : World) (h1 : wGe b = true) (h2 : wLe b = true) (h3 : floatToIntVal .f64 b .u64 = some n) (h4 : wEq (floatOfInt .f64 n) b = true) :
    Calls Try.prog 33 #[.float .f64 b] w fun e w' => e = .returned (.tuple #[.int .u64 n, .bool true]) ∧ w' = w := by
  have h1' : (FloatKind.f64.format.order b 0 == some Ordering.gt || FloatKind.f64.format.order b 0 == some Ordering.eq) = true := h1
  have h2' : (FloatKind.f64.format.order b 4845873199050653696 == some Ordering.lt || FloatKind.f64.format.order b 4845873199050653696 == some Ordering.eq) = true := h2
  have hc := fun w s d hs hd => run_convert_float_int (P := Try.prog) w s d .f64 .u64 b n hs hd h3
  have h4' : (FloatKind.f64.format.order (floatOfInt FloatKind.f64 n) b == some Ordering.eq) = true := h4
  have h5' : (FloatKind.f64.format.order (floatOfInt FloatKind.f64 n) b != some Ordering.eq) = false := by unfold bne; rw [h4']; rfl
  go_enter Try.func33, Try.ntmps33
  go_wp2
  go_ret2
  exact ⟨rfl, rfl⟩

set_option maxHeartbeats 400000 in
theorem part_out1 (b : Nat) (w : World) (h1 : wGe b = false) :
    Calls Try.prog 34 #[.float .f64 b] w fun e w' => e = .returned (.tuple #[.int .u64 0, .bool false]) ∧ w' = w := by
  have h1' : (FloatKind.f64.format.order b 0 == some Ordering.gt || FloatKind.f64.format.order b 0 == some Ordering.eq) = false := h1
  go_enter Try.func34, Try.ntmps34
  go_wp2
  go_ret2
  exact ⟨rfl, rfl⟩

set_option maxHeartbeats 400000 in
theorem part_out2 (b : Nat) (w : World) (h1 : wGe b = true) (h2 : wLe b = false) :
    Calls Try.prog 34 #[.float .f64 b] w fun e w' => e = .returned (.tuple #[.int .u64 0, .bool false]) ∧ w' = w := by
  have h1' : (FloatKind.f64.format.order b 0 == some Ordering.gt || FloatKind.f64.format.order b 0 == some Ordering.eq) = true := h1
  have h2' : (FloatKind.f64.format.order b 4845873199050653696 == some Ordering.lt || FloatKind.f64.format.order b 4845873199050653696 == some Ordering.eq) = false := h2
  go_enter Try.func34, Try.ntmps34
  go_wp2
  go_ret2
  exact ⟨rfl, rfl⟩

set_option maxHeartbeats 400000 in
theorem part_ne (b : Nat) (n : Int) (w : World) (h1 : wGe b = true) (h2 : wLe b = true) (h3 : floatToIntVal .f64 b .u64 = some n) (h4 : wEq (floatOfInt .f64 n) b = false) :
    Calls Try.prog 34 #[.float .f64 b] w fun e w' => e = .returned (.tuple #[.int .u64 n, .bool false]) ∧ w' = w := by
  have h1' : (FloatKind.f64.format.order b 0 == some Ordering.gt || FloatKind.f64.format.order b 0 == some Ordering.eq) = true := h1
  have h2' : (FloatKind.f64.format.order b 4845873199050653696 == some Ordering.lt || FloatKind.f64.format.order b 4845873199050653696 == some Ordering.eq) = true := h2
  have hc := fun w s d hs hd => run_convert_float_int (P := Try.prog) w s d .f64 .u64 b n hs hd h3
  have h4' : (FloatKind.f64.format.order (floatOfInt FloatKind.f64 n) b == some Ordering.eq) = false := h4
  have h5' : (FloatKind.f64.format.order (floatOfInt FloatKind.f64 n) b != some Ordering.eq) = true := by unfold bne; rw [h4']; rfl
  go_enter Try.func34, Try.ntmps34
  go_wp2
  go_ret2
  exact ⟨rfl, rfl⟩

set_option maxHeartbeats 400000 in
theorem part_in (b : Nat) (n : Int) (w : World) (h1 : wGe b = true) (h2 : wLe b = true) (h3 : floatToIntVal .f64 b .u64 = some n) (h4 : wEq (floatOfInt .f64 n) b = true) :
    Calls Try.prog 34 #[.float .f64 b] w fun e w' => e = .returned (.tuple #[.int .u64 n, .bool true]) ∧ w' = w := by
  have h1' : (FloatKind.f64.format.order b 0 == some Ordering.gt || FloatKind.f64.format.order b 0 == some Ordering.eq) = true := h1
  have h2' : (FloatKind.f64.format.order b 4845873199050653696 == some Ordering.lt || FloatKind.f64.format.order b 4845873199050653696 == some Ordering.eq) = true := h2
  have hc := fun w s d hs hd => run_convert_float_int (P := Try.prog) w s d .f64 .u64 b n hs hd h3
  have h4' : (FloatKind.f64.format.order (floatOfInt FloatKind.f64 n) b == some Ordering.eq) = true := h4
  have h5' : (FloatKind.f64.format.order (floatOfInt FloatKind.f64 n) b != some Ordering.eq) = false := by unfold bne; rw [h4']; rfl
  go_enter Try.func34, Try.ntmps34
  go_wp2
  go_ret2
  exact ⟨rfl, rfl⟩

/-- Is the word a whole number from 0 to 2^53, and which? -/
def whT (b : Nat) : Bool := wGe b && wLe b && (match floatToIntVal .f64 b .u64 with | some n => wEq (floatOfInt .f64 n) b | none => false)
def whV (b : Nat) : Int := if whT b then (floatToIntVal .f64 b .u64).getD 0 else 0

theorem wh_good {b : Nat} {n : Int} (h : Good b n) : whT b = true ∧ whV b = n := by
  obtain ⟨h1, h2, h3, h4⟩ := h
  have ht : whT b = true := by unfold whT; rw [h1, h2, h3]; exact h4
  exact ⟨ht, by unfold whV; rw [if_pos ht, h3]; rfl⟩
theorem wh_out1 {b : Nat} (h1 : wGe b = false) : whT b = false ∧ whV b = 0 := by
  have ht : whT b = false := by unfold whT; rw [h1]; rfl
  exact ⟨ht, by unfold whV; rw [ht]; rfl⟩
theorem wh_out2 {b : Nat} (h1 : wGe b = true) (h2 : wLe b = false) : whT b = false ∧ whV b = 0 := by
  have ht : whT b = false := by unfold whT; rw [h1, h2]; rfl
  exact ⟨ht, by unfold whV; rw [ht]; rfl⟩
theorem wh_ne {b : Nat} {n : Int} (h1 : wGe b = true) (h2 : wLe b = true) (h3 : floatToIntVal .f64 b .u64 = some n) (h4 : wEq (floatOfInt .f64 n) b = false) : whT b = false ∧ whV b = 0 := by
  have ht : whT b = false := by unfold whT; rw [h1, h2, h3]; exact h4
  exact ⟨ht, by unfold whV; rw [ht]; rfl⟩

theorem whole_any (b : Nat) (w : World) :
    Calls Try.prog 33 #[.float .f64 b] w fun e w' => e = .returned (.tuple #[.int .u64 (whV b), .bool (whT b)]) ∧ w' = w := by
  rcases good_or b with h1 | ⟨h1, h2⟩ | ⟨n, h1, h2, h3, h4⟩ | ⟨n, hn⟩
  · rw [(wh_out1 h1).1, (wh_out1 h1).2]; exact whole_out1 b w h1
  · rw [(wh_out2 h1 h2).1, (wh_out2 h1 h2).2]; exact whole_out2 b w h1 h2
  · rw [(wh_ne h1 h2 h3 h4).1, (wh_ne h1 h2 h3 h4).2]; exact whole_ne b n w h1 h2 h3 h4
  · rw [(wh_good hn).1, (wh_good hn).2]; exact whole_in b n w hn.1 hn.2.1 hn.2.2.1 hn.2.2.2

theorem part_any (b : Nat) (w : World) :
    Calls Try.prog 34 #[.float .f64 b] w fun e w' => (∃ x, e = .returned (.tuple #[.int .u64 x, .bool (whT b)]) ∧ (whT b = true → x = whV b)) ∧ w' = w := by
  rcases good_or b with h1 | ⟨h1, h2⟩ | ⟨n, h1, h2, h3, h4⟩ | ⟨n, hn⟩
  · rw [(wh_out1 h1).1]; exact (part_out1 b w h1).mono fun e w' ⟨a, c⟩ => ⟨⟨_, a, fun h => by cases h⟩, c⟩
  · rw [(wh_out2 h1 h2).1]; exact (part_out2 b w h1 h2).mono fun e w' ⟨a, c⟩ => ⟨⟨_, a, fun h => by cases h⟩, c⟩
  · rw [(wh_ne h1 h2 h3 h4).1]; exact (part_ne b n w h1 h2 h3 h4).mono fun e w' ⟨a, c⟩ => ⟨⟨_, a, fun h => by cases h⟩, c⟩
  · rw [(wh_good hn).1, (wh_good hn).2]; exact (part_in b n w hn.1 hn.2.1 hn.2.2.1 hn.2.2.2).mono fun e w' ⟨a, c⟩ => ⟨⟨_, a, fun _ => rfl⟩, c⟩

/-- What Parts answers. -/
def ptE (a b : Nat) : Int := if whT a && whT b then 0 else 1
def ptV (a b : Nat) : Int := if whT a && whT b then whV a else 0
def ptW (a b : Nat) : Int := if whT a && whT b then whV b else 0

theorem ret3 {k l j : IntKind} {a b c d e f : Int} (h1 : a = d) (h2 : b = e) (h3 : c = f) : Ending.returned (.tuple #[.int k a, .int l b, .int j c]) = .returned (.tuple #[.int k d, .int l e, .int j f]) := by rw [h1, h2, h3]

set_option maxHeartbeats 400000 in
theorem parts_any (a b : Nat) (w : World) :
    Calls Try.prog 26 #[.complex .f64 a b] w fun e w' => e = .returned (.tuple #[.int .u64 (ptV a b), .int .u64 (ptW a b), .int .i64 (ptE a b)]) ∧ w' = w := by
  cases ha : whT a <;> cases hb : whT b
  all_goals
    go_enter Try.func26, Try.ntmps26
    go_wp2_with (go_at_call 33; refine (whole_any _ _).mono ?_; rintro e w' ⟨rfl, rfl⟩)
    go_ret3
    exact ⟨ret3 (by simp [ptV, ha, hb]) (by simp [ptW, ha, hb]) (by simp [ptE, ha, hb]), rfl⟩

set_option maxHeartbeats 400000 in
theorem rParts_any (a b : Nat) (w : World) :
    Calls Try.prog 27 #[.complex .f64 a b] w fun e w' => e = .returned (.tuple #[.int .u64 (ptV a b), .int .u64 (ptW a b), .int .i64 (ptE a b)]) ∧ w' = w := by
  cases ha : whT a <;> cases hb : whT b
  all_goals
    go_enter Try.func27, Try.ntmps27
    go_wp2_with (go_at_call 34; refine (part_any _ _).mono ?_; rintro e w' ⟨⟨x, rfl, hx⟩, rfl⟩; replace hx := hid hx)
    go_ret3
    refine ⟨ret3 ?_ ?_ (by simp [ptE, ha, hb]), rfl⟩
    · first | (simp [ptV, ha, hb]; done) | exact (Hid.out (‹Hid (whT a = true → _ = whV a)›) ha).trans (by simp [ptV, ha, hb])
    · first | (simp [ptW, ha, hb]; done) | exact (Hid.out (‹Hid (whT b = true → _ = whV b)›) hb).trans (by simp [ptW, ha, hb])

/-- The word of a whole number from 0 to 2^53, as the walks want it. -/
theorem num_word (a : Int) (h0 : 0 ≤ a) (h1 : a ≤ 9007199254740992) : ∃ F : Nat, floatOfInt .f64 a = F ∧ whT F = true ∧ whV F = a ∧ (FloatKind.f64.format.order F F != some Ordering.eq) = false ∧ F = fWord a.toNat := by
  obtain ⟨v, rfl⟩ := Int.eq_ofNat_of_zero_le h0
  have hv : v ≤ 9007199254740992 := by omega
  have e := floatOfInt_fWord v hv
  have he := fWord_eq v hv
  have g : Good (fWord v) v := ⟨fWord_ge v hv, fWord_le v hv, fWord_int v hv, by rw [e]; exact he⟩
  refine ⟨fWord v, e, (wh_good g).1, (wh_good g).2, ?_, by rw [Int.toNat_natCast]⟩
  have he' : (FloatKind.f64.format.order (fWord v) (fWord v) == some Ordering.eq) = true := he
  unfold bne
  rw [he']
  rfl

theorem pt_good {a b : Nat} (ha : whT a = true) (hb : whT b = true) : ptE a b = 0 ∧ ptV a b = whV a ∧ ptW a b = whV b := by simp [ptE, ptV, ptW, ha, hb]

theorem sum_words (a b c d : Int) (a0 : 0 ≤ a) (b0 : 0 ≤ b) (c0 : 0 ≤ c) (d0 : 0 ≤ d) (h1 : a + c ≤ 9007199254740992) (h2 : b + d ≤ 9007199254740992) :
    cSumBits .add .f64 (fWord a.toNat) (fWord b.toNat) (fWord c.toNat) (fWord d.toNat) = some (fWord (a + c).toNat, fWord (b + d).toNat) := by
  have e1 := fWord_add a.toNat c.toNat (by omega)
  have e2 := fWord_add b.toNat d.toNat (by omega)
  rw [show a.toNat + c.toNat = (a + c).toNat by omega] at e1
  rw [show b.toNat + d.toNat = (b + d).toNat by omega] at e2
  have f1 : floatBits .add .f64 (fWord a.toNat) (fWord c.toNat) = some (fWord (a + c).toNat) := e1
  have f2 : floatBits .add .f64 (fWord b.toNat) (fWord d.toNat) = some (fWord (b + d).toNat) := e2
  unfold cSumBits
  rw [f1, f2]
  rfl

theorem zero_eq : FloatKind.f64.format.order 0 0 = some .eq := by kernel_rfl

end Go.Proofs.Ytbilbiehgagfkaa
