/-
  What sha.Two answers.
  Two sums, reckoned: of the bytes of abc, and of 64 zeros.
  The fixed answers that every statement of layer 2 asks first are right.
  An argument that is an array of bytes, opened.
-/
import Derived.Test.YtficlakgameglaaDoorHaC
import Derived.ChangeKeysEq
import Derived.OpenShut
import Derived.WideShapes
namespace Go.Proofs.YtficlakgameglaaDoor

open Go.RowKit

set_option linter.unusedVariables false

attribute [local go_sem ↓] sv24_eq lv24_eq

/-- Two hashes, one behind the other. -/
def cat (a b : Nat → Int) (i : Nat) : Int := if i < 32 then a i else b (i - 32)

set_option maxRecDepth 20000 in
set_option maxHeartbeats 400000 in
theorem two_any (K H a b : Nat → Int) (w : World) (hH : Tab w 0 8 H) (hK : Tab w 1 64 K) (hB : ∀ i, i < 8 → 0 ≤ H i ∧ H i < 4294967296) (ha : ∀ j, j < 32 → 0 ≤ a j ∧ a j < 256) (hb : ∀ j, j < 32 → 0 ≤ b j ∧ b j < 256) :
    Calls Tryd.prog 64 #[.agg (vs .u8 32 a), .agg (vs .u8 32 b)] w fun e w' => e = .returned (.agg (vs .u8 32 (shaV K H (cat a b) 64))) ∧ Below w.heap.size w w' := by
  have HHH := hid hH
  have HK := hid hK
  have HBD := hid hB
  have HA := hid ha
  have HBB := hid hb
  clear hH hK hB ha hb
  go_enter Tryd.func64, Tryd.ntmps64
  go_upto_region 1 with fail
  change Code.wp _ _ _ _ (((w.alloc (.cells (vs .u8 32 a) 24)).alloc (.cells (vs .u8 32 b) 24)).alloc (.cells (vs .u8 32 fun _ => 0) 24))
  obtain ⟨W0, hW0⟩ : ∃ W, ((w.alloc (.cells (vs .u8 32 a) 24)).alloc (.cells (vs .u8 32 b) 24)).alloc (.cells (vs .u8 32 fun _ => 0) 24) = W := ⟨_, rfl⟩
  rw [hW0]
  have s0 : W0.heap.size = w.heap.size + 1 + 1 + 1 := by rw [← hW0]; simp
  have hB0 : Below w.heap.size w W0 := by rw [← hW0]; go_grown
  have ra : W0.heap[w.heap.size]? = some (.cells (vs .u8 32 a) 24) := by rw [← hW0]; exact (heap_old (by simp; omega)).trans ((heap_old (by simp)).trans (heap_new rfl))
  have rb : W0.heap[w.heap.size + 1]? = some (.cells (vs .u8 32 b) 24) := by rw [← hW0]; exact (heap_old (by simp)).trans (heap_new (by simp))
  have r0 : W0.heap[w.heap.size + 1 + 1]? = some (.cells (vs .u8 32 fun _ => 0) 24) := by rw [← hW0]; exact heap_new (by simp)
  obtain ⟨W1, hW1⟩ : ∃ W, W0.alloc (.cells (dg H (fun _ => 0) 0) 139) = W := ⟨_, rfl⟩
  have g1 : W1.heap[W0.heap.size]? = some (.cells (dg H (fun _ => 0) ((0 : Nat) : Int)) 139) := by rw [← hW1]; exact heap_new rfl
  have hB1 : Below W0.heap.size W0 W1 := by rw [← hW1]; exact (Below.refl _ _).alloc (Nat.le_refl _) _
  have hn := new_any H W0 (HHH.out.below hB0)
  rw [hW1] at hn
  have hBw : Below w.heap.size w W1 := hB0.trans (hB1.mono (by omega))
  have z1 : W0.heap.size < W1.heap.size := by rw [← hW1]; simp
  have hk0 := HK.out.1
  have ra1 := (hB1.block w.heap.size (by omega)).trans ra
  have rb1 := (hB1.block (w.heap.size + 1) (by omega)).trans rb
  have r01 := (hB1.block (w.heap.size + 1 + 1) (by omega)).trans r0
  have hw := write_any K H (cat a b) W0.heap.size H (fun _ => 0) 0 32 32 w.heap.size 0 W1 (dig_new K H _ HBD.out) g1 (HK.out.below hBw) (by omega)
    (fun j hj => by rw [Nat.zero_add, row_int ra1 j hj]; unfold cat; rw [if_pos hj]) (fun j hj => by rw [Nat.zero_add]; unfold cat; rw [if_pos hj]; exact HA.out j hj) (by omega) (by omega) (by omega) (by omega) (by omega)
  have HN := hid hn
  have HW := hid hw
  have HR1 := hid (And.intro rb1 r01)
  have HB1 := hid hBw
  have HK1 := hid (HK.out.below hBw)
  have HZ1 := hid (And.intro s0 z1)
  obtain ⟨q, hq⟩ : ∃ q, W0.heap.size = q := ⟨_, rfl⟩
  rw [hq] at HN HW HZ1
  clear hW0 s0 hB0 r0 ra rb ra1 rb1 r01 hW1 g1 hB1 hn hw hBw z1 hq
  go_upto_region 3 with (first
    | (go_at_call 61; refine HN.out.mono ?_; rintro e w1 ⟨rfl, rfl⟩)
    | (go_at_call 62; refine HW.out.mono ?_; rintro e w2 ⟨rfl, hkp, s', f', hd2, hg2⟩))
  have h1 := HZ1.out
  have rb2 := (hkp.block (w.heap.size + 1) (by omega) (by omega)).trans HR1.out.1
  have r02 := (hkp.block (w.heap.size + 1 + 1) (by omega) (by omega)).trans HR1.out.2
  have hB2 : Below w.heap.size w w2 := HB1.out.trans (hkp.below (by omega) (by omega))
  have hz2 := hkp.size
  have hk2 := hkp.tab HK1.out (by omega)
  have hw := write_any K H (cat a b) q s' f' (0 + 32) 32 32 (w.heap.size + 1) 0 w2 hd2 hg2 hk2 (by omega)
    (fun j hj => by rw [Nat.zero_add, Nat.zero_add, row_int rb2 j hj]; unfold cat; rw [if_neg (by omega), show 32 + j - 32 = j by omega]) (fun j hj => by unfold cat; rw [if_neg (by omega), show 0 + 32 + j - 32 = j by omega]; exact HBB.out j hj) (by omega) (by omega) (by omega) (by omega) (by omega)
  have HW2 := hid hw
  have HK2 := hid hk2
  have HR2 := hid r02
  have HB2 := hid hB2
  have HZ2 : Hid (q = w.heap.size + 1 + 1 + 1 ∧ q < w2.heap.size) := by refine ⟨h1.1, ?_⟩; omega
  clear h1 hw rb2 r02 hB2 hz2 hk2 hg2 hd2 hkp
  go_upto_region 4 with (go_at_call 62; refine HW2.out.mono ?_; rintro e w3 ⟨rfl, hkp, s2, f2, hd2, hg2⟩)
  have h1 := HZ2.out
  have hz3 := hkp.size
  have hs := dsum_any K H (cat a b) q s2 f2 64 w3 hd2 hg2 (hkp.tab HK2.out (by omega)) (by omega)
  have r3 := (hkp.block (w.heap.size + 1 + 1) (by omega) (by omega)).trans HR2.out
  have hB3 : Below w.heap.size w w3 := HB2.out.trans (hkp.below (by omega) (by omega))
  have HS := hid hs
  have HR3 := hid r3
  have HB3 := hid hB3
  have HZ3 : Hid (w.heap.size + 1 + 1 < w3.heap.size) := by show w.heap.size + 1 + 1 < w3.heap.size; omega
  clear h1 hz3 hs r3 hB3 hg2 hd2 hkp
  go_wp2_with (go_at_call 63; refine HS.out.mono ?_; rintro e w4 ⟨rfl, hb4⟩; have v24 := sv24_run ((hb4.block _ HZ3.out).trans HR3.out) (shaV K H (cat a b) 64))
  refine ret24 4 (w.heap.size + 1 + 1) _ 24 rfl rfl rfl (setRow_at ((hb4.block _ HZ3.out).trans HR3.out)) ⟨rfl, ?_⟩
  have hz := HZ3.out
  exact below_row (HB3.out.trans (hb4.mono (by omega))) (by omega) _

end Go.Proofs.YtficlakgameglaaDoor

namespace Go.Proofs.YtficlakgameglaaDoor

open Go.RowKit

set_option linter.unusedVariables false

/-- The document's constants. -/
def KW (i : Nat) : Int := [1116352408, 1899447441, 3049323471, 3921009573, 961987163, 1508970993, 2453635748, 2870763221, 3624381080, 310598401, 607225278, 1426881987, 1925078388, 2162078206, 2614888103, 3248222580, 3835390401, 4022224774, 264347078, 604807628, 770255983, 1249150122, 1555081692, 1996064986, 2554220882, 2821834349, 2952996808, 3210313671, 3336571891, 3584528711, 113926993, 338241895, 666307205, 773529912, 1294757372, 1396182291, 1695183700, 1986661051, 2177026350, 2456956037, 2730485921, 2820302411, 3259730800, 3345764771, 3516065817, 3600352804, 4094571909, 275423344, 430227734, 506948616, 659060556, 883997877, 958139571, 1322822218, 1537002063, 1747873779, 1955562222, 2024104815, 2227730452, 2361852424, 2428436474, 2756734187, 3204031479, 3329325298].getD i 0

def HW (i : Nat) : Int := [1779033703, 3144134277, 1013904242, 2773480762, 1359893119, 2600822924, 528734635, 1541459225].getD i 0

theorem HW_bd : ∀ i, i < 8 → 0 ≤ HW i ∧ HW i < 4294967296 := by decide

structure S8 (K W s : Nat → Int) (t : Nat) (a b c d e f g h : Int) : Prop where
  i0 : rnd K W s t 0 = a
  i1 : rnd K W s t 1 = b
  i2 : rnd K W s t 2 = c
  i3 : rnd K W s t 3 = d
  i4 : rnd K W s t 4 = e
  i5 : rnd K W s t 5 = f
  i6 : rnd K W s t 6 = g
  i7 : rnd K W s t 7 = h

theorem S8.step {K W s : Nat → Int} {t : Nat} {a b c d e f g h : Int} (S : S8 K W s t a b c d e f g h) {k w : Int} (hk : K t = k) (hw : W t = w) (a' e' : Int) (ha : newA a b c e f g h k w = a') (he : newE d e f g h k w = e') : S8 K W s (t + 1) a' a b c e' e f g := by
  refine ⟨?_, ?_, ?_, ?_, ?_, ?_, ?_, ?_⟩
  · rw [rnd_0, S.i0, S.i1, S.i2, S.i4, S.i5, S.i6, S.i7, hk, hw, ha]
  · rw [rnd_1, S.i0]
  · rw [rnd_2, S.i1]
  · rw [rnd_3, S.i2]
  · rw [rnd_4, S.i3, S.i4, S.i5, S.i6, S.i7, hk, hw, he]
  · rw [rnd_5, S.i4]
  · rw [rnd_6, S.i5]
  · rw [rnd_7, S.i6]

theorem S8.words {K f s : Nat → Int} {a b c d e g h l : Int} (S : S8 K (schW f) s 64 a b c d e g h l) : comp K f s 0 = (s 0 + a) % 4294967296 ∧ comp K f s 1 = (s 1 + b) % 4294967296 ∧ comp K f s 2 = (s 2 + c) % 4294967296 ∧ comp K f s 3 = (s 3 + d) % 4294967296 ∧ comp K f s 4 = (s 4 + e) % 4294967296 ∧ comp K f s 5 = (s 5 + g) % 4294967296 ∧ comp K f s 6 = (s 6 + h) % 4294967296 ∧ comp K f s 7 = (s 7 + l) % 4294967296 := by
  unfold comp
  rw [S.i0, S.i1, S.i2, S.i3, S.i4, S.i5, S.i6, S.i7]
  exact ⟨rfl, rfl, rfl, rfl, rfl, rfl, rfl, rfl⟩

def zM (_ : Nat) : Int := 0

def zF0 (j : Nat) : Int := padM zM 64 (64 * 0 + j)

theorem zaw0 : schW zF0 0 = 0 := (schW_lo zF0 0 (by decide)).trans (by kernel_rfl)

theorem zaw1 : schW zF0 1 = 0 := (schW_lo zF0 1 (by decide)).trans (by kernel_rfl)

theorem zaw2 : schW zF0 2 = 0 := (schW_lo zF0 2 (by decide)).trans (by kernel_rfl)

theorem zaw3 : schW zF0 3 = 0 := (schW_lo zF0 3 (by decide)).trans (by kernel_rfl)

theorem zaw4 : schW zF0 4 = 0 := (schW_lo zF0 4 (by decide)).trans (by kernel_rfl)

theorem zaw5 : schW zF0 5 = 0 := (schW_lo zF0 5 (by decide)).trans (by kernel_rfl)

theorem zaw6 : schW zF0 6 = 0 := (schW_lo zF0 6 (by decide)).trans (by kernel_rfl)

theorem zaw7 : schW zF0 7 = 0 := (schW_lo zF0 7 (by decide)).trans (by kernel_rfl)

theorem zaw8 : schW zF0 8 = 0 := (schW_lo zF0 8 (by decide)).trans (by kernel_rfl)

theorem zaw9 : schW zF0 9 = 0 := (schW_lo zF0 9 (by decide)).trans (by kernel_rfl)

theorem zaw10 : schW zF0 10 = 0 := (schW_lo zF0 10 (by decide)).trans (by kernel_rfl)

theorem zaw11 : schW zF0 11 = 0 := (schW_lo zF0 11 (by decide)).trans (by kernel_rfl)

theorem zaw12 : schW zF0 12 = 0 := (schW_lo zF0 12 (by decide)).trans (by kernel_rfl)

theorem zaw13 : schW zF0 13 = 0 := (schW_lo zF0 13 (by decide)).trans (by kernel_rfl)

theorem zaw14 : schW zF0 14 = 0 := (schW_lo zF0 14 (by decide)).trans (by kernel_rfl)

theorem zaw15 : schW zF0 15 = 0 := (schW_lo zF0 15 (by decide)).trans (by kernel_rfl)

theorem zaw16 : schW zF0 16 = 0 := by
  refine (schW_hi zF0 16 (by decide)).trans ?_
  show nxt (schW zF0 14) (schW zF0 9) (schW zF0 1) (schW zF0 0) = _
  rw [zaw14, zaw9, zaw1, zaw0]
  kernel_rfl

theorem zaw17 : schW zF0 17 = 0 := by
  refine (schW_hi zF0 17 (by decide)).trans ?_
  show nxt (schW zF0 15) (schW zF0 10) (schW zF0 2) (schW zF0 1) = _
  rw [zaw15, zaw10, zaw2, zaw1]
  kernel_rfl

theorem zaw18 : schW zF0 18 = 0 := by
  refine (schW_hi zF0 18 (by decide)).trans ?_
  show nxt (schW zF0 16) (schW zF0 11) (schW zF0 3) (schW zF0 2) = _
  rw [zaw16, zaw11, zaw3, zaw2]
  kernel_rfl

theorem zaw19 : schW zF0 19 = 0 := by
  refine (schW_hi zF0 19 (by decide)).trans ?_
  show nxt (schW zF0 17) (schW zF0 12) (schW zF0 4) (schW zF0 3) = _
  rw [zaw17, zaw12, zaw4, zaw3]
  kernel_rfl

theorem zaw20 : schW zF0 20 = 0 := by
  refine (schW_hi zF0 20 (by decide)).trans ?_
  show nxt (schW zF0 18) (schW zF0 13) (schW zF0 5) (schW zF0 4) = _
  rw [zaw18, zaw13, zaw5, zaw4]
  kernel_rfl

theorem zaw21 : schW zF0 21 = 0 := by
  refine (schW_hi zF0 21 (by decide)).trans ?_
  show nxt (schW zF0 19) (schW zF0 14) (schW zF0 6) (schW zF0 5) = _
  rw [zaw19, zaw14, zaw6, zaw5]
  kernel_rfl

theorem zaw22 : schW zF0 22 = 0 := by
  refine (schW_hi zF0 22 (by decide)).trans ?_
  show nxt (schW zF0 20) (schW zF0 15) (schW zF0 7) (schW zF0 6) = _
  rw [zaw20, zaw15, zaw7, zaw6]
  kernel_rfl

theorem zaw23 : schW zF0 23 = 0 := by
  refine (schW_hi zF0 23 (by decide)).trans ?_
  show nxt (schW zF0 21) (schW zF0 16) (schW zF0 8) (schW zF0 7) = _
  rw [zaw21, zaw16, zaw8, zaw7]
  kernel_rfl

theorem zaw24 : schW zF0 24 = 0 := by
  refine (schW_hi zF0 24 (by decide)).trans ?_
  show nxt (schW zF0 22) (schW zF0 17) (schW zF0 9) (schW zF0 8) = _
  rw [zaw22, zaw17, zaw9, zaw8]
  kernel_rfl

theorem zaw25 : schW zF0 25 = 0 := by
  refine (schW_hi zF0 25 (by decide)).trans ?_
  show nxt (schW zF0 23) (schW zF0 18) (schW zF0 10) (schW zF0 9) = _
  rw [zaw23, zaw18, zaw10, zaw9]
  kernel_rfl

theorem zaw26 : schW zF0 26 = 0 := by
  refine (schW_hi zF0 26 (by decide)).trans ?_
  show nxt (schW zF0 24) (schW zF0 19) (schW zF0 11) (schW zF0 10) = _
  rw [zaw24, zaw19, zaw11, zaw10]
  kernel_rfl

theorem zaw27 : schW zF0 27 = 0 := by
  refine (schW_hi zF0 27 (by decide)).trans ?_
  show nxt (schW zF0 25) (schW zF0 20) (schW zF0 12) (schW zF0 11) = _
  rw [zaw25, zaw20, zaw12, zaw11]
  kernel_rfl

theorem zaw28 : schW zF0 28 = 0 := by
  refine (schW_hi zF0 28 (by decide)).trans ?_
  show nxt (schW zF0 26) (schW zF0 21) (schW zF0 13) (schW zF0 12) = _
  rw [zaw26, zaw21, zaw13, zaw12]
  kernel_rfl

theorem zaw29 : schW zF0 29 = 0 := by
  refine (schW_hi zF0 29 (by decide)).trans ?_
  show nxt (schW zF0 27) (schW zF0 22) (schW zF0 14) (schW zF0 13) = _
  rw [zaw27, zaw22, zaw14, zaw13]
  kernel_rfl

theorem zaw30 : schW zF0 30 = 0 := by
  refine (schW_hi zF0 30 (by decide)).trans ?_
  show nxt (schW zF0 28) (schW zF0 23) (schW zF0 15) (schW zF0 14) = _
  rw [zaw28, zaw23, zaw15, zaw14]
  kernel_rfl

theorem zaw31 : schW zF0 31 = 0 := by
  refine (schW_hi zF0 31 (by decide)).trans ?_
  show nxt (schW zF0 29) (schW zF0 24) (schW zF0 16) (schW zF0 15) = _
  rw [zaw29, zaw24, zaw16, zaw15]
  kernel_rfl

theorem zaw32 : schW zF0 32 = 0 := by
  refine (schW_hi zF0 32 (by decide)).trans ?_
  show nxt (schW zF0 30) (schW zF0 25) (schW zF0 17) (schW zF0 16) = _
  rw [zaw30, zaw25, zaw17, zaw16]
  kernel_rfl

theorem zaw33 : schW zF0 33 = 0 := by
  refine (schW_hi zF0 33 (by decide)).trans ?_
  show nxt (schW zF0 31) (schW zF0 26) (schW zF0 18) (schW zF0 17) = _
  rw [zaw31, zaw26, zaw18, zaw17]
  kernel_rfl

theorem zaw34 : schW zF0 34 = 0 := by
  refine (schW_hi zF0 34 (by decide)).trans ?_
  show nxt (schW zF0 32) (schW zF0 27) (schW zF0 19) (schW zF0 18) = _
  rw [zaw32, zaw27, zaw19, zaw18]
  kernel_rfl

theorem zaw35 : schW zF0 35 = 0 := by
  refine (schW_hi zF0 35 (by decide)).trans ?_
  show nxt (schW zF0 33) (schW zF0 28) (schW zF0 20) (schW zF0 19) = _
  rw [zaw33, zaw28, zaw20, zaw19]
  kernel_rfl

theorem zaw36 : schW zF0 36 = 0 := by
  refine (schW_hi zF0 36 (by decide)).trans ?_
  show nxt (schW zF0 34) (schW zF0 29) (schW zF0 21) (schW zF0 20) = _
  rw [zaw34, zaw29, zaw21, zaw20]
  kernel_rfl

theorem zaw37 : schW zF0 37 = 0 := by
  refine (schW_hi zF0 37 (by decide)).trans ?_
  show nxt (schW zF0 35) (schW zF0 30) (schW zF0 22) (schW zF0 21) = _
  rw [zaw35, zaw30, zaw22, zaw21]
  kernel_rfl

theorem zaw38 : schW zF0 38 = 0 := by
  refine (schW_hi zF0 38 (by decide)).trans ?_
  show nxt (schW zF0 36) (schW zF0 31) (schW zF0 23) (schW zF0 22) = _
  rw [zaw36, zaw31, zaw23, zaw22]
  kernel_rfl

theorem zaw39 : schW zF0 39 = 0 := by
  refine (schW_hi zF0 39 (by decide)).trans ?_
  show nxt (schW zF0 37) (schW zF0 32) (schW zF0 24) (schW zF0 23) = _
  rw [zaw37, zaw32, zaw24, zaw23]
  kernel_rfl

theorem zaw40 : schW zF0 40 = 0 := by
  refine (schW_hi zF0 40 (by decide)).trans ?_
  show nxt (schW zF0 38) (schW zF0 33) (schW zF0 25) (schW zF0 24) = _
  rw [zaw38, zaw33, zaw25, zaw24]
  kernel_rfl

theorem zaw41 : schW zF0 41 = 0 := by
  refine (schW_hi zF0 41 (by decide)).trans ?_
  show nxt (schW zF0 39) (schW zF0 34) (schW zF0 26) (schW zF0 25) = _
  rw [zaw39, zaw34, zaw26, zaw25]
  kernel_rfl

theorem zaw42 : schW zF0 42 = 0 := by
  refine (schW_hi zF0 42 (by decide)).trans ?_
  show nxt (schW zF0 40) (schW zF0 35) (schW zF0 27) (schW zF0 26) = _
  rw [zaw40, zaw35, zaw27, zaw26]
  kernel_rfl

theorem zaw43 : schW zF0 43 = 0 := by
  refine (schW_hi zF0 43 (by decide)).trans ?_
  show nxt (schW zF0 41) (schW zF0 36) (schW zF0 28) (schW zF0 27) = _
  rw [zaw41, zaw36, zaw28, zaw27]
  kernel_rfl

theorem zaw44 : schW zF0 44 = 0 := by
  refine (schW_hi zF0 44 (by decide)).trans ?_
  show nxt (schW zF0 42) (schW zF0 37) (schW zF0 29) (schW zF0 28) = _
  rw [zaw42, zaw37, zaw29, zaw28]
  kernel_rfl

theorem zaw45 : schW zF0 45 = 0 := by
  refine (schW_hi zF0 45 (by decide)).trans ?_
  show nxt (schW zF0 43) (schW zF0 38) (schW zF0 30) (schW zF0 29) = _
  rw [zaw43, zaw38, zaw30, zaw29]
  kernel_rfl

theorem zaw46 : schW zF0 46 = 0 := by
  refine (schW_hi zF0 46 (by decide)).trans ?_
  show nxt (schW zF0 44) (schW zF0 39) (schW zF0 31) (schW zF0 30) = _
  rw [zaw44, zaw39, zaw31, zaw30]
  kernel_rfl

theorem zaw47 : schW zF0 47 = 0 := by
  refine (schW_hi zF0 47 (by decide)).trans ?_
  show nxt (schW zF0 45) (schW zF0 40) (schW zF0 32) (schW zF0 31) = _
  rw [zaw45, zaw40, zaw32, zaw31]
  kernel_rfl

theorem zaw48 : schW zF0 48 = 0 := by
  refine (schW_hi zF0 48 (by decide)).trans ?_
  show nxt (schW zF0 46) (schW zF0 41) (schW zF0 33) (schW zF0 32) = _
  rw [zaw46, zaw41, zaw33, zaw32]
  kernel_rfl

theorem zaw49 : schW zF0 49 = 0 := by
  refine (schW_hi zF0 49 (by decide)).trans ?_
  show nxt (schW zF0 47) (schW zF0 42) (schW zF0 34) (schW zF0 33) = _
  rw [zaw47, zaw42, zaw34, zaw33]
  kernel_rfl

theorem zaw50 : schW zF0 50 = 0 := by
  refine (schW_hi zF0 50 (by decide)).trans ?_
  show nxt (schW zF0 48) (schW zF0 43) (schW zF0 35) (schW zF0 34) = _
  rw [zaw48, zaw43, zaw35, zaw34]
  kernel_rfl

theorem zaw51 : schW zF0 51 = 0 := by
  refine (schW_hi zF0 51 (by decide)).trans ?_
  show nxt (schW zF0 49) (schW zF0 44) (schW zF0 36) (schW zF0 35) = _
  rw [zaw49, zaw44, zaw36, zaw35]
  kernel_rfl

theorem zaw52 : schW zF0 52 = 0 := by
  refine (schW_hi zF0 52 (by decide)).trans ?_
  show nxt (schW zF0 50) (schW zF0 45) (schW zF0 37) (schW zF0 36) = _
  rw [zaw50, zaw45, zaw37, zaw36]
  kernel_rfl

theorem zaw53 : schW zF0 53 = 0 := by
  refine (schW_hi zF0 53 (by decide)).trans ?_
  show nxt (schW zF0 51) (schW zF0 46) (schW zF0 38) (schW zF0 37) = _
  rw [zaw51, zaw46, zaw38, zaw37]
  kernel_rfl

theorem zaw54 : schW zF0 54 = 0 := by
  refine (schW_hi zF0 54 (by decide)).trans ?_
  show nxt (schW zF0 52) (schW zF0 47) (schW zF0 39) (schW zF0 38) = _
  rw [zaw52, zaw47, zaw39, zaw38]
  kernel_rfl

theorem zaw55 : schW zF0 55 = 0 := by
  refine (schW_hi zF0 55 (by decide)).trans ?_
  show nxt (schW zF0 53) (schW zF0 48) (schW zF0 40) (schW zF0 39) = _
  rw [zaw53, zaw48, zaw40, zaw39]
  kernel_rfl

theorem zaw56 : schW zF0 56 = 0 := by
  refine (schW_hi zF0 56 (by decide)).trans ?_
  show nxt (schW zF0 54) (schW zF0 49) (schW zF0 41) (schW zF0 40) = _
  rw [zaw54, zaw49, zaw41, zaw40]
  kernel_rfl

theorem zaw57 : schW zF0 57 = 0 := by
  refine (schW_hi zF0 57 (by decide)).trans ?_
  show nxt (schW zF0 55) (schW zF0 50) (schW zF0 42) (schW zF0 41) = _
  rw [zaw55, zaw50, zaw42, zaw41]
  kernel_rfl

theorem zaw58 : schW zF0 58 = 0 := by
  refine (schW_hi zF0 58 (by decide)).trans ?_
  show nxt (schW zF0 56) (schW zF0 51) (schW zF0 43) (schW zF0 42) = _
  rw [zaw56, zaw51, zaw43, zaw42]
  kernel_rfl

theorem zaw59 : schW zF0 59 = 0 := by
  refine (schW_hi zF0 59 (by decide)).trans ?_
  show nxt (schW zF0 57) (schW zF0 52) (schW zF0 44) (schW zF0 43) = _
  rw [zaw57, zaw52, zaw44, zaw43]
  kernel_rfl

theorem zaw60 : schW zF0 60 = 0 := by
  refine (schW_hi zF0 60 (by decide)).trans ?_
  show nxt (schW zF0 58) (schW zF0 53) (schW zF0 45) (schW zF0 44) = _
  rw [zaw58, zaw53, zaw45, zaw44]
  kernel_rfl

theorem zaw61 : schW zF0 61 = 0 := by
  refine (schW_hi zF0 61 (by decide)).trans ?_
  show nxt (schW zF0 59) (schW zF0 54) (schW zF0 46) (schW zF0 45) = _
  rw [zaw59, zaw54, zaw46, zaw45]
  kernel_rfl

theorem zaw62 : schW zF0 62 = 0 := by
  refine (schW_hi zF0 62 (by decide)).trans ?_
  show nxt (schW zF0 60) (schW zF0 55) (schW zF0 47) (schW zF0 46) = _
  rw [zaw60, zaw55, zaw47, zaw46]
  kernel_rfl

theorem zaw63 : schW zF0 63 = 0 := by
  refine (schW_hi zF0 63 (by decide)).trans ?_
  show nxt (schW zF0 61) (schW zF0 56) (schW zF0 48) (schW zF0 47) = _
  rw [zaw61, zaw56, zaw48, zaw47]
  kernel_rfl

theorem zas0 : S8 KW (schW zF0) HW 0 1779033703 3144134277 1013904242 2773480762 1359893119 2600822924 528734635 1541459225 := ⟨by kernel_rfl, by kernel_rfl, by kernel_rfl, by kernel_rfl, by kernel_rfl, by kernel_rfl, by kernel_rfl, by kernel_rfl⟩

theorem zas1 : S8 KW (schW zF0) HW 1 4228417613 1779033703 3144134277 1013904242 2563236514 1359893119 2600822924 528734635 := zas0.step (k := 1116352408) (by kernel_rfl) zaw0 _ _ (by kernel_rfl) (by kernel_rfl)

theorem zas2 : S8 KW (schW zF0) HW 2 2061066896 4228417613 1779033703 3144134277 2649862678 2563236514 1359893119 2600822924 := zas1.step (k := 1899447441) (by kernel_rfl) zaw1 _ _ (by kernel_rfl) (by kernel_rfl)

theorem zas3 : S8 KW (schW zF0) HW 3 4091374655 2061066896 4228417613 1779033703 3313199355 2649862678 2563236514 1359893119 := zas2.step (k := 3049323471) (by kernel_rfl) zaw2 _ _ (by kernel_rfl) (by kernel_rfl)

theorem zas4 : S8 KW (schW zF0) HW 4 170176938 4091374655 2061066896 4228417613 2426205641 3313199355 2649862678 2563236514 := zas3.step (k := 3921009573) (by kernel_rfl) zaw3 _ _ (by kernel_rfl) (by kernel_rfl)

theorem zas5 : S8 KW (schW zF0) HW 5 1218429566 170176938 4091374655 2061066896 749409450 2426205641 3313199355 2649862678 := zas4.step (k := 961987163) (by kernel_rfl) zaw4 _ _ (by kernel_rfl) (by kernel_rfl)

theorem zas6 : S8 KW (schW zF0) HW 6 1806883463 1218429566 170176938 4091374655 2635206550 749409450 2426205641 3313199355 := zas5.step (k := 1508970993) (by kernel_rfl) zaw5 _ _ (by kernel_rfl) (by kernel_rfl)

theorem zas7 : S8 KW (schW zF0) HW 7 2522794722 1806883463 1218429566 170176938 2043112922 2635206550 749409450 2426205641 := zas6.step (k := 2453635748) (by kernel_rfl) zaw6 _ _ (by kernel_rfl) (by kernel_rfl)

theorem zas8 : S8 KW (schW zF0) HW 8 1581879219 2522794722 1806883463 1218429566 2485578848 2043112922 2635206550 749409450 := zas7.step (k := 2870763221) (by kernel_rfl) zaw7 _ _ (by kernel_rfl) (by kernel_rfl)

theorem zas9 : S8 KW (schW zF0) HW 9 630097338 1581879219 2522794722 1806883463 2208112828 2485578848 2043112922 2635206550 := zas8.step (k := 3624381080) (by kernel_rfl) zaw8 _ _ (by kernel_rfl) (by kernel_rfl)

theorem zas10 : S8 KW (schW zF0) HW 10 2279417502 630097338 1581879219 2522794722 1050479591 2208112828 2485578848 2043112922 := zas9.step (k := 310598401) (by kernel_rfl) zaw9 _ _ (by kernel_rfl) (by kernel_rfl)

theorem zas11 : S8 KW (schW zF0) HW 11 3099050328 2279417502 630097338 1581879219 1706030895 1050479591 2208112828 2485578848 := zas10.step (k := 607225278) (by kernel_rfl) zaw10 _ _ (by kernel_rfl) (by kernel_rfl)

theorem zas12 : S8 KW (schW zF0) HW 12 3235833870 3099050328 2279417502 630097338 2107349789 1706030895 1050479591 2208112828 := zas11.step (k := 1426881987) (by kernel_rfl) zaw11 _ _ (by kernel_rfl) (by kernel_rfl)

theorem zas13 : S8 KW (schW zF0) HW 13 1178652117 3235833870 3099050328 2279417502 1594747770 2107349789 1706030895 1050479591 := zas12.step (k := 1925078388) (by kernel_rfl) zaw12 _ _ (by kernel_rfl) (by kernel_rfl)

theorem zas14 : S8 KW (schW zF0) HW 14 986572295 1178652117 3235833870 3099050328 3318148831 1594747770 2107349789 1706030895 := zas13.step (k := 2162078206) (by kernel_rfl) zaw13 _ _ (by kernel_rfl) (by kernel_rfl)

theorem zas15 : S8 KW (schW zF0) HW 15 3525469376 986572295 1178652117 3235833870 2130347788 3318148831 1594747770 2107349789 := zas14.step (k := 2614888103) (by kernel_rfl) zaw14 _ _ (by kernel_rfl) (by kernel_rfl)

theorem zas16 : S8 KW (schW zF0) HW 16 529866418 3525469376 986572295 1178652117 4078311056 2130347788 3318148831 1594747770 := zas15.step (k := 3248222580) (by kernel_rfl) zaw15 _ _ (by kernel_rfl) (by kernel_rfl)

theorem zas17 : S8 KW (schW zF0) HW 17 367693927 529866418 3525469376 986572295 462849088 4078311056 2130347788 3318148831 := zas16.step (k := 3835390401) (by kernel_rfl) zaw16 _ _ (by kernel_rfl) (by kernel_rfl)

theorem zas18 : S8 KW (schW zF0) HW 18 1943532089 367693927 529866418 3525469376 2868915268 462849088 4078311056 2130347788 := zas17.step (k := 4022224774) (by kernel_rfl) zaw17 _ _ (by kernel_rfl) (by kernel_rfl)

theorem zas19 : S8 KW (schW zF0) HW 19 2932840628 1943532089 367693927 529866418 3592676163 2868915268 462849088 4078311056 := zas18.step (k := 264347078) (by kernel_rfl) zaw18 _ _ (by kernel_rfl) (by kernel_rfl)

theorem zas20 : S8 KW (schW zF0) HW 20 567187925 2932840628 1943532089 367693927 958391656 3592676163 2868915268 462849088 := zas19.step (k := 604807628) (by kernel_rfl) zaw19 _ _ (by kernel_rfl) (by kernel_rfl)

theorem zas21 : S8 KW (schW zF0) HW 21 1042487203 567187925 2932840628 1943532089 1937773263 958391656 3592676163 2868915268 := zas20.step (k := 770255983) (by kernel_rfl) zaw20 _ _ (by kernel_rfl) (by kernel_rfl)

theorem zas22 : S8 KW (schW zF0) HW 22 2086730723 1042487203 567187925 2932840628 3264846943 1937773263 958391656 3592676163 := zas21.step (k := 1249150122) (by kernel_rfl) zaw21 _ _ (by kernel_rfl) (by kernel_rfl)

theorem zas23 : S8 KW (schW zF0) HW 23 652608802 2086730723 1042487203 567187925 359051749 3264846943 1937773263 958391656 := zas22.step (k := 1555081692) (by kernel_rfl) zaw22 _ _ (by kernel_rfl) (by kernel_rfl)

theorem zas24 : S8 KW (schW zF0) HW 24 2775063474 652608802 2086730723 1042487203 1343774465 359051749 3264846943 1937773263 := zas23.step (k := 1996064986) (by kernel_rfl) zaw23 _ _ (by kernel_rfl) (by kernel_rfl)

theorem zas25 : S8 KW (schW zF0) HW 25 2156387130 2775063474 652608802 2086730723 3316183042 1343774465 359051749 3264846943 := zas24.step (k := 2554220882) (by kernel_rfl) zaw24 _ _ (by kernel_rfl) (by kernel_rfl)

theorem zas26 : S8 KW (schW zF0) HW 26 2781806737 2156387130 2775063474 652608802 380684368 3316183042 1343774465 359051749 := zas25.step (k := 2821834349) (by kernel_rfl) zaw25 _ _ (by kernel_rfl) (by kernel_rfl)

theorem zas27 : S8 KW (schW zF0) HW 27 337293918 2781806737 2156387130 2775063474 1127543555 380684368 3316183042 1343774465 := zas26.step (k := 2952996808) (by kernel_rfl) zaw26 _ _ (by kernel_rfl) (by kernel_rfl)

theorem zas28 : S8 KW (schW zF0) HW 28 2400639463 337293918 2781806737 2156387130 850390893 1127543555 380684368 3316183042 := zas27.step (k := 3210313671) (by kernel_rfl) zaw27 _ _ (by kernel_rfl) (by kernel_rfl)

theorem zas29 : S8 KW (schW zF0) HW 29 2652249513 2400639463 337293918 2781806737 568399641 850390893 1127543555 380684368 := zas28.step (k := 3336571891) (by kernel_rfl) zaw28 _ _ (by kernel_rfl) (by kernel_rfl)

theorem zas30 : S8 KW (schW zF0) HW 30 923590945 2652249513 2400639463 337293918 1812297249 568399641 850390893 1127543555 := zas29.step (k := 3584528711) (by kernel_rfl) zaw29 _ _ (by kernel_rfl) (by kernel_rfl)

theorem zas31 : S8 KW (schW zF0) HW 31 3593886197 923590945 2652249513 2400639463 3555470783 1812297249 568399641 850390893 := zas30.step (k := 113926993) (by kernel_rfl) zaw30 _ _ (by kernel_rfl) (by kernel_rfl)

theorem zas32 : S8 KW (schW zF0) HW 32 1591520263 3593886197 923590945 2652249513 4103617462 3555470783 1812297249 568399641 := zas31.step (k := 338241895) (by kernel_rfl) zaw31 _ _ (by kernel_rfl) (by kernel_rfl)

theorem zas33 : S8 KW (schW zF0) HW 33 512844204 1591520263 3593886197 923590945 2706167185 4103617462 3555470783 1812297249 := zas32.step (k := 666307205) (by kernel_rfl) zaw32 _ _ (by kernel_rfl) (by kernel_rfl)

theorem zas34 : S8 KW (schW zF0) HW 34 2373658994 512844204 1591520263 3593886197 380732500 2706167185 4103617462 3555470783 := zas33.step (k := 773529912) (by kernel_rfl) zaw33 _ _ (by kernel_rfl) (by kernel_rfl)

theorem zas35 : S8 KW (schW zF0) HW 35 2793679469 2373658994 512844204 1591520263 1500639116 380732500 2706167185 4103617462 := zas34.step (k := 1294757372) (by kernel_rfl) zaw34 _ _ (by kernel_rfl) (by kernel_rfl)

theorem zas36 : S8 KW (schW zF0) HW 36 689815065 2793679469 2373658994 512844204 3473127572 1500639116 380732500 2706167185 := zas35.step (k := 1396182291) (by kernel_rfl) zaw35 _ _ (by kernel_rfl) (by kernel_rfl)

theorem zas37 : S8 KW (schW zF0) HW 37 2585135331 689815065 2793679469 2373658994 1058274375 3473127572 1500639116 380732500 := zas36.step (k := 1695183700) (by kernel_rfl) zaw36 _ _ (by kernel_rfl) (by kernel_rfl)

theorem zas38 : S8 KW (schW zF0) HW 38 2654199797 2585135331 689815065 2793679469 2279604766 1058274375 3473127572 1500639116 := zas37.step (k := 1986661051) (by kernel_rfl) zaw37 _ _ (by kernel_rfl) (by kernel_rfl)

theorem zas39 : S8 KW (schW zF0) HW 39 3850261399 2654199797 2585135331 689815065 2592804600 2279604766 1058274375 3473127572 := zas38.step (k := 2177026350) (by kernel_rfl) zaw38 _ _ (by kernel_rfl) (by kernel_rfl)

theorem zas40 : S8 KW (schW zF0) HW 40 3169457352 3850261399 2654199797 2585135331 2871170664 2592804600 2279604766 1058274375 := zas39.step (k := 2456956037) (by kernel_rfl) zaw39 _ _ (by kernel_rfl) (by kernel_rfl)

theorem zas41 : S8 KW (schW zF0) HW 41 1294949930 3169457352 3850261399 2654199797 161402535 2871170664 2592804600 2279604766 := zas40.step (k := 2730485921) (by kernel_rfl) zaw40 _ _ (by kernel_rfl) (by kernel_rfl)

theorem zas42 : S8 KW (schW zF0) HW 42 527267990 1294949930 3169457352 3850261399 4040288829 161402535 2871170664 2592804600 := zas41.step (k := 2820302411) (by kernel_rfl) zaw41 _ _ (by kernel_rfl) (by kernel_rfl)

theorem zas43 : S8 KW (schW zF0) HW 43 1426789879 527267990 1294949930 3169457352 646975441 4040288829 161402535 2871170664 := zas42.step (k := 3259730800) (by kernel_rfl) zaw42 _ _ (by kernel_rfl) (by kernel_rfl)

theorem zas44 : S8 KW (schW zF0) HW 44 1187396118 1426789879 527267990 1294949930 1339113911 646975441 4040288829 161402535 := zas43.step (k := 3345764771) (by kernel_rfl) zaw43 _ _ (by kernel_rfl) (by kernel_rfl)

theorem zas45 : S8 KW (schW zF0) HW 45 1181999399 1187396118 1426789879 527267990 3798476044 1339113911 646975441 4040288829 := zas44.step (k := 3516065817) (by kernel_rfl) zaw44 _ _ (by kernel_rfl) (by kernel_rfl)

theorem zas46 : S8 KW (schW zF0) HW 46 296218653 1181999399 1187396118 1426789879 3551518893 3798476044 1339113911 646975441 := zas45.step (k := 3600352804) (by kernel_rfl) zaw45 _ _ (by kernel_rfl) (by kernel_rfl)

theorem zas47 : S8 KW (schW zF0) HW 47 4454560 296218653 1181999399 1187396118 3005618434 3551518893 3798476044 1339113911 := zas46.step (k := 4094571909) (by kernel_rfl) zaw46 _ _ (by kernel_rfl) (by kernel_rfl)

theorem zas48 : S8 KW (schW zF0) HW 48 3096899724 4454560 296218653 1181999399 872857159 3005618434 3551518893 3798476044 := zas47.step (k := 275423344) (by kernel_rfl) zaw47 _ _ (by kernel_rfl) (by kernel_rfl)

theorem zas49 : S8 KW (schW zF0) HW 49 3375379330 3096899724 4454560 296218653 228186535 872857159 3005618434 3551518893 := zas48.step (k := 430227734) (by kernel_rfl) zaw48 _ _ (by kernel_rfl) (by kernel_rfl)

theorem zas50 : S8 KW (schW zF0) HW 50 2196777820 3375379330 3096899724 4454560 502324404 228186535 872857159 3005618434 := zas49.step (k := 506948616) (by kernel_rfl) zaw49 _ _ (by kernel_rfl) (by kernel_rfl)

theorem zas51 : S8 KW (schW zF0) HW 51 172316037 2196777820 3375379330 3096899724 3336809276 502324404 228186535 872857159 := zas50.step (k := 659060556) (by kernel_rfl) zaw50 _ _ (by kernel_rfl) (by kernel_rfl)

theorem zas52 : S8 KW (schW zF0) HW 52 3798361939 172316037 2196777820 3375379330 345903353 3336809276 502324404 228186535 := zas51.step (k := 883997877) (by kernel_rfl) zaw51 _ _ (by kernel_rfl) (by kernel_rfl)

theorem zas53 : S8 KW (schW zF0) HW 53 3876681316 3798361939 172316037 2196777820 3527507235 345903353 3336809276 502324404 := zas52.step (k := 958139571) (by kernel_rfl) zaw52 _ _ (by kernel_rfl) (by kernel_rfl)

theorem zas54 : S8 KW (schW zF0) HW 54 1048208192 3876681316 3798361939 172316037 267002057 3527507235 345903353 3336809276 := zas53.step (k := 1322822218) (by kernel_rfl) zaw53 _ _ (by kernel_rfl) (by kernel_rfl)

theorem zas55 : S8 KW (schW zF0) HW 55 3748112950 1048208192 3876681316 3798361939 120073345 267002057 3527507235 345903353 := zas54.step (k := 1537002063) (by kernel_rfl) zaw54 _ _ (by kernel_rfl) (by kernel_rfl)

theorem zas56 : S8 KW (schW zF0) HW 56 3432719604 3748112950 1048208192 3876681316 918970134 120073345 267002057 3527507235 := zas55.step (k := 1747873779) (by kernel_rfl) zaw55 _ _ (by kernel_rfl) (by kernel_rfl)

theorem zas57 : S8 KW (schW zF0) HW 57 2243565776 3432719604 3748112950 1048208192 373091818 918970134 120073345 267002057 := zas56.step (k := 1955562222) (by kernel_rfl) zaw56 _ _ (by kernel_rfl) (by kernel_rfl)

theorem zas58 : S8 KW (schW zF0) HW 58 2286265666 2243565776 3432719604 3748112950 3917149596 373091818 918970134 120073345 := zas57.step (k := 2024104815) (by kernel_rfl) zaw57 _ _ (by kernel_rfl) (by kernel_rfl)

theorem zas59 : S8 KW (schW zF0) HW 59 1260053831 2286265666 2243565776 3432719604 4283910481 3917149596 373091818 918970134 := zas58.step (k := 2227730452) (by kernel_rfl) zaw58 _ _ (by kernel_rfl) (by kernel_rfl)

theorem zas60 : S8 KW (schW zF0) HW 60 2415069175 1260053831 2286265666 2243565776 1074367231 4283910481 3917149596 373091818 := zas59.step (k := 2361852424) (by kernel_rfl) zaw59 _ _ (by kernel_rfl) (by kernel_rfl)

theorem zas61 : S8 KW (schW zF0) HW 61 3528444304 2415069175 1260053831 2286265666 3159809215 1074367231 4283910481 3917149596 := zas60.step (k := 2428436474) (by kernel_rfl) zaw60 _ _ (by kernel_rfl) (by kernel_rfl)

theorem zas62 : S8 KW (schW zF0) HW 62 633627687 3528444304 2415069175 1260053831 2608537663 3159809215 1074367231 4283910481 := zas61.step (k := 2756734187) (by kernel_rfl) zaw61 _ _ (by kernel_rfl) (by kernel_rfl)

theorem zas63 : S8 KW (schW zF0) HW 63 1548879332 633627687 3528444304 2415069175 634190263 2608537663 3159809215 1074367231 := zas62.step (k := 3204031479) (by kernel_rfl) zaw62 _ _ (by kernel_rfl) (by kernel_rfl)

theorem zas64 : S8 KW (schW zF0) HW 64 1884074583 1548879332 633627687 3528444304 1003979282 634190263 2608537663 3159809215 := zas63.step (k := 3329325298) (by kernel_rfl) zaw63 _ _ (by kernel_rfl) (by kernel_rfl)

theorem z1 : comp KW zF0 HW 0 = 3663108286 ∧ comp KW zF0 HW 1 = 398046313 ∧ comp KW zF0 HW 2 = 1647531929 ∧ comp KW zF0 HW 3 = 2006957770 ∧ comp KW zF0 HW 4 = 2363872401 ∧ comp KW zF0 HW 5 = 3235013187 ∧ comp KW zF0 HW 6 = 3137272298 ∧ comp KW zF0 HW 7 = 406301144 := by
  obtain ⟨h0, h1, h2, h3, h4, h5, h6, h7⟩ := zas64.words
  rw [h0, h1, h2, h3, h4, h5, h6, h7]
  exact ⟨by kernel_rfl, by kernel_rfl, by kernel_rfl, by kernel_rfl, by kernel_rfl, by kernel_rfl, by kernel_rfl, by kernel_rfl⟩

end Go.Proofs.YtficlakgameglaaDoor

namespace Go.Proofs.YtficlakgameglaaDoor

open Go.RowKit

set_option linter.unusedVariables false

attribute [local go_sem ↓] sv24_eq lv24_eq

/-- Arrays of integers, compared. -/
theorem run_eqItems_ints {P : Program} (d : Nat) (e : TypeId) (k k' : IntKind) (he : P.underlying e = some (.int k')) (ha : ∀ w : World, (isAgg e).run P w = .ok false w) (xs ys : Array Value) (f g : Nat → Int) (w : World) :
    ∀ is : List Nat, (∀ j ∈ is, xs[j]? = some (.int k (f j)) ∧ ys[j]? = some (.int k (g j))) → (Op.eqItems (d + 1) e 1 xs ys is).run P w = .ok (is.all fun j => f j == g j) w
  | [], _ => by simp [Op.eqItems]
  | i :: is, h => by
    obtain ⟨hx, hy⟩ := h i (List.mem_cons_self ..)
    have ih := run_eqItems_ints d e k k' he ha xs ys f g w is (fun j hj => h j (List.mem_cons_of_mem _ hj))
    have px : (part e xs (i * 1)).run P w = .ok (.int k (f i)) w := by rw [Nat.mul_one]; simp [part, ha, hx]
    have py : (part e ys (i * 1)).run P w = .ok (.int k (g i)) w := by rw [Nat.mul_one]; simp [part, ha, hy]
    simp only [Op.eqItems, Sem.run_bind, px, py, run_equalIn_int w d e k k' _ _ he, Result.andThen_ok]
    cases hfg : (f i == g i)
    · simp [hfg]
    · simp [hfg, ih]

theorem agg_u8 (w : World) : (isAgg 5).run Tryd.prog w = .ok false w := by
  unfold isAgg
  rw [Sem.run_bind, run_underlying Tryd.underlying5 w]
  rfl

end Go.Proofs.YtficlakgameglaaDoor

namespace Go.Proofs.YtficlakgameglaaDoor

open Go.RowKit

set_option linter.unusedVariables false

def byteOf (c : Array Value) (i : Nat) : Int := match c[i]? with
  | some (.int _ z) => z
  | _ => 0

end Go.Proofs.YtficlakgameglaaDoor
