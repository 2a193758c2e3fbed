/-
  What bits.Div64 answers where the upper half is below the divisor: the quotient, exactly; and what word.MulDiv answers.
-/
import Derived.Test.YtbilbiehgagfkaaWalkC
import Derived.Test.YtbilbiehgagfkaaWalkD
import Derived.Test.YtbilbiehgagfkaaDiv
import Derived.Deep.QuietTactic
import Derived.BigQuiet
namespace Go.Proofs.Ytbilbiehgagfkaa
open Go.RowKit

set_option maxHeartbeats 1000000 in
theorem div64_small (lo y : Int) (w : World) (hl : 0 ≤ lo) (hl' : lo < 18446744073709551616) (hy : 0 < y) (hy' : y < 18446744073709551616) :
    Calls Try.prog 31 #[.int .u64 0, .int .u64 lo, .int .u64 y] w fun e w' => (∃ r, e = .returned (.tuple #[.int .u64 (lo / y), .int .u64 r])) ∧ ∃ n, w' = w.drewN n := by
  have yz : (y == 0) = false := by simp; omega
  have yz' : ¬ y = 0 := by omega
  go_enter Try.func31, Try.ntmps31
  go_wp2
  go_quiet (fail)
  go_wp2
  go_ret2
  exact ⟨⟨_, rfl⟩, _, rfl⟩

theorem lead_bds (y : Int) (h0 : 0 < y) (h1 : y < 18446744073709551616) : ∃ s : Nat, (64 : Int) - Lib.bitLen y.toNat = s ∧ s ≤ 63 ∧ 9223372036854775808 ≤ y * 2 ^ s ∧ y * 2 ^ s < 18446744073709551616 := by
  obtain ⟨b1, b2, b3⟩ := bitLen_bds y.toNat (by omega)
  have b2 := b2 (by omega)
  obtain ⟨y, rfl⟩ := Int.eq_ofNat_of_zero_le (Int.le_of_lt h0)
  rw [Int.toNat_natCast] at b1 b2 b3 ⊢
  generalize Lib.bitLen y = L at *
  have hL : 1 ≤ L := by
    by_cases h : 1 ≤ L
    · exact h
    · have : L = 0 := by omega
      subst this; simp at b1; omega
  have ep : ((2 ^ (64 - L) : Nat) : Int) = (2 : Int) ^ (64 - L) := by simp
  have e1 : 2 ^ L * 2 ^ (64 - L) = 18446744073709551616 := by rw [← Nat.pow_add, show L + (64 - L) = 64 by omega]
  have m1 : y * 2 ^ (64 - L) < 2 ^ L * 2 ^ (64 - L) := Nat.mul_lt_mul_of_pos_right b1 (Nat.two_pow_pos _)
  have m2 : 2 ^ L * 2 ^ (64 - L) ≤ 2 * y * 2 ^ (64 - L) := Nat.mul_le_mul_right _ b2
  rw [Nat.mul_assoc] at m2
  refine ⟨64 - L, by omega, by omega, ?_, ?_⟩
  · rw [← ep, ← Int.natCast_mul]; omega
  · rw [← ep, ← Int.natCast_mul]; omega

set_option maxHeartbeats 4000000 in
theorem div64_great (hi lo y : Int) (w : World) (hh : 0 < hi) (hl : 0 ≤ lo) (hl' : lo < 18446744073709551616) (hy : hi < y) (hy' : y < 18446744073709551616) :
    Calls Try.prog 31 #[.int .u64 hi, .int .u64 lo, .int .u64 y] w fun e w' => (∃ r, e = .returned (.tuple #[.int .u64 ((hi * 18446744073709551616 + lo) / y), .int .u64 r])) ∧ ∃ n, w' = w.drewN n := by
  have yz : (y == 0) = false := by simp; omega
  have yz' : ¬ y = 0 := by omega
  have hz : (hi == 0) = false := by simp; omega
  have hL := Try.bits_LeadingZeros64 y w (by omega) (by omega)
  obtain ⟨s, hs, hs', ht, ht'⟩ := lead_bds y (by omega) hy'
  rw [hs] at hL
  obtain ⟨U, Y1, Y0, D, E, kn, hE, hE', w1, w2, w3, w4, w5, w6, w7, hq⟩ := kn_shift hi lo y s hs' (by omega) hl hl' hy ht ht'
  rw [← hq]
  have kn2 := kn_second kn hE hE'
  have kb := hid (kn_both kn hE hE')
  obtain ⟨f1, f2, f3⟩ := kn_first kn
  obtain ⟨g1, g2, g3⟩ := kn_first kn2
  have ks := hid (kn_start kn)
  have ks2 := hid (kn_start kn2)
  have rs := kn_rest kn
  have qb := kn_quo kn
  have b1 := kn.y1
  have b2 := kn.y1'
  have b3 := kn.d
  have b4 := kn.d'
  have b5 : ¬ Y1 = 0 := by omega
  have b6 : (Y1 == 0) = false := by simp; omega
  obtain ⟨Y, eY⟩ : ∃ Y, Y1 * 4294967296 + Y0 = Y := ⟨_, rfl⟩
  obtain ⟨V, eV⟩ : ∃ V, D * 4294967296 + E = V := ⟨_, rfl⟩
  obtain ⟨Q, eQ⟩ : ∃ Q, (U * 4294967296 + D) / Y = Q := ⟨_, rfl⟩
  obtain ⟨R, eR⟩ : ∃ R, (U * 4294967296 + D) % Y = R := ⟨_, rfl⟩
  obtain ⟨G, eG⟩ : ∃ G, U / Y1 = G := ⟨_, rfl⟩
  obtain ⟨G2, eG2⟩ : ∃ G2, R / Y1 = G2 := ⟨_, rfl⟩
  obtain ⟨T, eT⟩ : ∃ T, U % Y1 = T := ⟨_, rfl⟩
  obtain ⟨T2, eT2⟩ : ∃ T2, R % Y1 = T2 := ⟨_, rfl⟩
  obtain ⟨Z, eZ⟩ : ∃ Z, G * Y1 = Z := ⟨_, rfl⟩
  obtain ⟨Z2, eZ2⟩ : ∃ Z2, G2 * Y1 = Z2 := ⟨_, rfl⟩
  rw [eY] at w1 w2 w3
  rw [eV] at w5 w6 w7
  rw [eY, eQ, eR] at kb rs
  rw [eY, eQ] at qb
  rw [eY, eR] at g1 g2 g3 ks2
  rw [eG, eT] at ks
  rw [eG2, eT2] at ks2
  rw [eG] at f1 f2 f3
  rw [eZ] at f2 f3
  rw [eT] at f3
  rw [eG2] at g1 g2 g3
  rw [eZ2] at g2 g3
  rw [eT2] at g3
  rw [eY]
  have KQ : KN U Y1 Y0 D → ∀ q r, KI U Y1 Y0 D q r → (4294967296 ≤ q ∧ r + Y1 < 4294967296 ∧ KI U Y1 Y0 D (q - 1) (r + Y1)) ∨ (q < 4294967296 ∧ 4294967296 * r + D < q * Y0 ∧ r + Y1 < 4294967296 ∧ KI U Y1 Y0 D (q - 1) (r + Y1)) ∨
      (4294967296 ≤ q ∧ 4294967296 ≤ r + Y1 ∧ q = Q + 1) ∨ (q < 4294967296 ∧ 4294967296 * r + D < q * Y0 ∧ 4294967296 ≤ r + Y1 ∧ q = Q + 1) ∨ (q < 4294967296 ∧ q * Y0 ≤ 4294967296 * r + D ∧ q = Q) := by
    intro kn q r k
    rw [← eQ, ← eY]
    exact kn_ways kn k
  have K2 : KN R Y1 Y0 E → ∀ q r, KI R Y1 Y0 E q r → (4294967296 ≤ q ∧ r + Y1 < 4294967296 ∧ KI R Y1 Y0 E (q - 1) (r + Y1)) ∨ (q < 4294967296 ∧ 4294967296 * r + E < q * Y0 ∧ r + Y1 < 4294967296 ∧ KI R Y1 Y0 E (q - 1) (r + Y1)) ∨
      (4294967296 ≤ q ∧ 4294967296 ≤ r + Y1 ∧ q = (R * 4294967296 + E) / Y + 1) ∨ (q < 4294967296 ∧ 4294967296 * r + E < q * Y0 ∧ 4294967296 ≤ r + Y1 ∧ q = (R * 4294967296 + E) / Y + 1) ∨ (q < 4294967296 ∧ q * Y0 ≤ 4294967296 * r + E ∧ q = (R * 4294967296 + E) / Y) := by
    intro kn q r k
    rw [← eY]
    exact kn_ways kn k
  have qb2 := kn_quo kn2
  rw [eY, eR] at kn2 qb2
  obtain ⟨Q0, eQ0⟩ : ∃ Q0, (R * 4294967296 + E) / Y = Q0 := ⟨_, rfl⟩
  rw [eQ0] at K2 kb qb2
  have HK := hid KQ
  have HK2 := hid K2
  clear hq ht ht' hs eV eG eG2 eT eT2 eQ eR eY KQ K2 eQ0
  obtain ⟨F, eF⟩ : ∃ F, (U * 18446744073709551616 + D * 4294967296 + E) / Y = F := ⟨_, rfl⟩
  rw [eF] at kb ⊢
  have kf : Hid (Q * 4294967296 + Q0 = F) := by
    have := kb.out
    rw [IntKind.wrap_u64, IntKind.wrap_u64] at this
    show Q * 4294967296 + Q0 = F
    omega
  clear kb eF
  go_enter Try.func31, Try.ntmps31
  go_wp2_with (go_at_call 35; refine hL.mono ?_; rintro e w' ⟨rfl, rfl⟩)
  go_loop [15, 16] (fun q r => ∃ q' r', q = .int .u64 q' ∧ r = .int .u64 r' ∧ KI U Y1 Y0 D q' r') (fun q _ => (intOf q).toNat)
  case atStart => exact ⟨G, T, rfl, rfl, ks.out⟩
  case round =>
    obtain ⟨q, r, rfl, rfl, k⟩ := hrel
    obtain ⟨k1, k2, k3, k4, k5, k6⟩ := id k
    clear k1 k3
    rcases HK.out kn q r k with ⟨c1, c2, kk⟩ | ⟨c1, c2, c3, kk⟩ | ⟨c1, c2, c3⟩ | ⟨c1, c2, c3, c4⟩ | ⟨c1, c2, c3⟩
    · have q1 : 1 ≤ q := by omega
      go_wp2
      exact ⟨⟨q - 1, r + Y1, rfl, rfl, kk⟩, by simp [intOf]; omega⟩
    · have q1 : 1 ≤ q := by have := kk.2.2.2.2.2; omega
      have pz := kn_prod kn k6 c1
      have wz : IntKind.u64.wrap (q * Y0) = q * Y0 := by rw [IntKind.wrap_u64]; omega
      go_wp2
      exact ⟨⟨q - 1, r + Y1, rfl, rfl, kk⟩, by simp [intOf]; omega⟩
    · subst c3
      go_wp2
      clear k c1 c2 k2 k4 k5 k6
      go_loop [18, 16] (fun q r => ∃ q' r', q = .int .u64 q' ∧ r = .int .u64 r' ∧ KI R Y1 Y0 E q' r') (fun q _ => (intOf q).toNat)
      case atStart => exact ⟨G2, T2, rfl, rfl, ks2.out⟩
      case round =>
        obtain ⟨p, t, rfl, rfl, k⟩ := hrel
        obtain ⟨k1, k2, k3, k4, k5, k6⟩ := id k
        clear k1 k3
        rcases HK2.out kn2 p t k with ⟨c1, c2, kk⟩ | ⟨c1, c2, c3, kk⟩ | ⟨c1, c2, c3⟩ | ⟨c1, c2, c3, c4⟩ | ⟨c1, c2, c3⟩
        · have q1 : 1 ≤ p := by omega
          go_wp2
          exact ⟨⟨p - 1, t + Y1, rfl, rfl, kk⟩, by simp [intOf]; omega⟩
        · have q1 : 1 ≤ p := by have := kk.2.2.2.2.2; omega
          have pz := kn_prod kn2 k6 c1
          have wz : IntKind.u64.wrap (p * Y0) = p * Y0 := by rw [IntKind.wrap_u64]; omega
          go_wp2
          exact ⟨⟨p - 1, t + Y1, rfl, rfl, kk⟩, by simp [intOf]; omega⟩
        · subst c3
          go_wp2
          go_ret2
          exact ⟨⟨_, ret2 kf.out rfl⟩, 0, rfl⟩
        · have pz := kn_prod kn2 k6 c1
          have wz : IntKind.u64.wrap (p * Y0) = p * Y0 := by rw [IntKind.wrap_u64]; omega
          subst c4
          go_wp2
          go_ret2
          exact ⟨⟨_, ret2 kf.out rfl⟩, 0, rfl⟩
        · have pz := kn_prod kn2 k6 c1
          have wz : IntKind.u64.wrap (p * Y0) = p * Y0 := by rw [IntKind.wrap_u64]; omega
          subst c3
          go_wp2
          go_ret2
          exact ⟨⟨_, ret2 kf.out rfl⟩, 0, rfl⟩
    · have pz := kn_prod kn k6 c1
      have wz : IntKind.u64.wrap (q * Y0) = q * Y0 := by rw [IntKind.wrap_u64]; omega
      subst c4
      go_wp2
      clear k c1 c2 c3 k2 k4 k5 k6 pz wz
      go_loop [18, 16] (fun q r => ∃ q' r', q = .int .u64 q' ∧ r = .int .u64 r' ∧ KI R Y1 Y0 E q' r') (fun q _ => (intOf q).toNat)
      case atStart => exact ⟨G2, T2, rfl, rfl, ks2.out⟩
      case round =>
        obtain ⟨p, t, rfl, rfl, k⟩ := hrel
        obtain ⟨k1, k2, k3, k4, k5, k6⟩ := id k
        clear k1 k3
        rcases HK2.out kn2 p t k with ⟨c1, c2, kk⟩ | ⟨c1, c2, c3, kk⟩ | ⟨c1, c2, c3⟩ | ⟨c1, c2, c3, c4⟩ | ⟨c1, c2, c3⟩
        · have q1 : 1 ≤ p := by omega
          go_wp2
          exact ⟨⟨p - 1, t + Y1, rfl, rfl, kk⟩, by simp [intOf]; omega⟩
        · have q1 : 1 ≤ p := by have := kk.2.2.2.2.2; omega
          have pz := kn_prod kn2 k6 c1
          have wz : IntKind.u64.wrap (p * Y0) = p * Y0 := by rw [IntKind.wrap_u64]; omega
          go_wp2
          exact ⟨⟨p - 1, t + Y1, rfl, rfl, kk⟩, by simp [intOf]; omega⟩
        · subst c3
          go_wp2
          go_ret2
          exact ⟨⟨_, ret2 kf.out rfl⟩, 0, rfl⟩
        · have pz := kn_prod kn2 k6 c1
          have wz : IntKind.u64.wrap (p * Y0) = p * Y0 := by rw [IntKind.wrap_u64]; omega
          subst c4
          go_wp2
          go_ret2
          exact ⟨⟨_, ret2 kf.out rfl⟩, 0, rfl⟩
        · have pz := kn_prod kn2 k6 c1
          have wz : IntKind.u64.wrap (p * Y0) = p * Y0 := by rw [IntKind.wrap_u64]; omega
          subst c3
          go_wp2
          go_ret2
          exact ⟨⟨_, ret2 kf.out rfl⟩, 0, rfl⟩
    · have pz := kn_prod kn k6 c1
      have wz : IntKind.u64.wrap (q * Y0) = q * Y0 := by rw [IntKind.wrap_u64]; omega
      subst c3
      go_wp2
      clear k c1 c2 k2 k4 k5 k6 pz wz
      go_loop [18, 16] (fun q r => ∃ q' r', q = .int .u64 q' ∧ r = .int .u64 r' ∧ KI R Y1 Y0 E q' r') (fun q _ => (intOf q).toNat)
      case atStart => exact ⟨G2, T2, rfl, rfl, ks2.out⟩
      case round =>
        obtain ⟨p, t, rfl, rfl, k⟩ := hrel
        obtain ⟨k1, k2, k3, k4, k5, k6⟩ := id k
        clear k1 k3
        rcases HK2.out kn2 p t k with ⟨c1, c2, kk⟩ | ⟨c1, c2, c3, kk⟩ | ⟨c1, c2, c3⟩ | ⟨c1, c2, c3, c4⟩ | ⟨c1, c2, c3⟩
        · have q1 : 1 ≤ p := by omega
          go_wp2
          exact ⟨⟨p - 1, t + Y1, rfl, rfl, kk⟩, by simp [intOf]; omega⟩
        · have q1 : 1 ≤ p := by have := kk.2.2.2.2.2; omega
          have pz := kn_prod kn2 k6 c1
          have wz : IntKind.u64.wrap (p * Y0) = p * Y0 := by rw [IntKind.wrap_u64]; omega
          go_wp2
          exact ⟨⟨p - 1, t + Y1, rfl, rfl, kk⟩, by simp [intOf]; omega⟩
        · subst c3
          go_wp2
          go_ret2
          exact ⟨⟨_, ret2 kf.out rfl⟩, 0, rfl⟩
        · have pz := kn_prod kn2 k6 c1
          have wz : IntKind.u64.wrap (p * Y0) = p * Y0 := by rw [IntKind.wrap_u64]; omega
          subst c4
          go_wp2
          go_ret2
          exact ⟨⟨_, ret2 kf.out rfl⟩, 0, rfl⟩
        · have pz := kn_prod kn2 k6 c1
          have wz : IntKind.u64.wrap (p * Y0) = p * Y0 := by rw [IntKind.wrap_u64]; omega
          subst c3
          go_wp2
          go_ret2
          exact ⟨⟨_, ret2 kf.out rfl⟩, 0, rfl⟩

end Go.Proofs.Ytbilbiehgagfkaa
