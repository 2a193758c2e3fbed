/-
  What ssz.Cut answers where it refuses.
  What ssz.Many answers where it refuses.
  What equalParts answers.
  What ssz.Each answers.
-/
import Derived.Test.YtehpfemlcjcabaaZaB
namespace Go.Proofs.Ytehpfemlcjcabaa.Z

open Go.RowKit

set_option linter.unusedVariables false

set_option linter.unusedSimpArgs false

/-- The frame with which Cut's one end is reached. -/
def RefC (v0 v1 : Value) (err : Int) (a' : Act) : Prop := ∃ u6 u7 u9 u10 u11 u12 u13 u14 u15 u16 u17 u18 u19 u20 u21 u22 u23 u24 u25 u26 u27 u28 u29 u30 u31 u32 u33 u34 u35 u36 u37 u38 u39 u40 u41 u42 u43 u44 u45 u46 u47 u48 u49 u50 u51, a' = { tmps := #[v0, v1, undef, undef, .slice none 0 0, .int .i64 0, u6, u7, .int .i64 err, u9, u10, u11, u12, u13, u14, u15, u16, u17, u18, u19, u20, u21, u22, u23, u24, u25, u26, u27, u28, u29, u30, u31, u32, u33, u34, u35, u36, u37, u38, u39, u40, u41, u42, u43, u44, u45, u46, u47, u48, u49, u50, u51], defers := [] }

set_option maxRecDepth 20000 in
set_option maxHeartbeats 1000000 in
theorem cut_arg (zs m : Nat → Int) (ao : Option Addr) (len cap : Nat) (sa : Option Addr) (n sc : Nat) (w : World) (hn : Nms .i64 w sa n zs) (hnb : n ≤ 9223372036854775807) (hsz : szB zs n = false) :
    Calls Try.prog 36 #[.slice ao len cap, .slice sa n sc] w fun e w' => e = .returned (.tuple #[.slice none 0 0, .int .i64 1]) ∧ Below w.heap.size w w' := by
  have hsi := sizes_any zs sa n sc w hn hnb
  rw [hsz] at hsi
  have HSI := hid hsi
  clear hsi hn hsz
  go_enter Try.func36, Try.ntmps36
  go_wp2
  refine wp_scope_jumps 0 (fun a' w' => RefC (.slice ao len cap) (.slice sa n sc) 1 a' ∧ Below w.heap.size w w') (fun _ _ => 0) rfl ?_ ?_
  · go_wp2_with (go_at_call 56; refine HSI.out.mono ?_; rintro e w1 ⟨rfl, rfl⟩)
    go_step3
    exact ⟨rfl, ⟨_, _, _, _, _, _, _, _, _, _, _, _, _, _, _, _, _, _, _, _, _, _, _, _, _, _, _, _, _, _, _, _, _, _, _, _, _, _, _, _, _, _, _, _, _, rfl⟩, Below.refl _ _⟩
  · rintro a' w' ⟨⟨u6, u7, u9, u10, u11, u12, u13, u14, u15, u16, u17, u18, u19, u20, u21, u22, u23, u24, u25, u26, u27, u28, u29, u30, u31, u32, u33, u34, u35, u36, u37, u38, u39, u40, u41, u42, u43, u44, u45, u46, u47, u48, u49, u50, u51, rfl⟩, hbe⟩
    have HBE := hid hbe
    clear hbe
    go_wp2
    simp only [Exit.jump]
    go_ret2
    exact ⟨rfl, HBE.out⟩

set_option maxRecDepth 20000 in
set_option maxHeartbeats 1000000 in
theorem cut_short (zs m : Nat → Int) (ao : Option Addr) (len cap : Nat) (sa : Option Addr) (n sc : Nat) (w : World) (hlen : len ≤ 140737488351232) (hn : Nms .i64 w sa n zs) (hsz : szB zs n = true) (hhd : len < hdL zs n) :
    Calls Try.prog 36 #[.slice ao len cap, .slice sa n sc] w fun e w' => e = .returned (.tuple #[.slice none 0 0, .int .i64 4]) ∧ Below w.heap.size w w' := by
  obtain ⟨hn1, hnb, hok⟩ := szB_out hsz
  have h64 := hdL_bd (zs := zs) n hok
  have hsi := sizes_any zs sa n sc w hn (by omega)
  rw [hsz] at hsi
  have hhl := headlen_any zs sa n sc w hn hn1 hnb hok
  obtain ⟨S, eS⟩ : ∃ S, hdL zs n = S := ⟨_, rfl⟩
  rw [eS] at hhl hhd
  have s1 : (len : Int) < (S : Int) := by omega
  have s1n : len < S := by omega
  have s2 : (S : Int) ≤ 4194304 := by omega
  have s3 : (len : Int) ≤ 140737488351232 := by omega
  have HSI := hid hsi
  have HHL := hid hhl
  clear hsi hhl hn hok eS hsz h64
  go_enter Try.func36, Try.ntmps36
  go_wp2
  refine wp_scope_jumps 0 (fun a' w' => RefC (.slice ao len cap) (.slice sa n sc) 4 a' ∧ Below w.heap.size w w') (fun _ _ => 0) rfl ?_ ?_
  · go_wp2_with (first
      | (go_at_call 56; refine HSI.out.mono ?_; rintro e w1 ⟨rfl, rfl⟩)
      | (go_at_call 58; refine HHL.out.mono ?_; rintro e w2 ⟨rfl, rfl⟩))
    go_step3
    exact ⟨rfl, ⟨_, _, _, _, _, _, _, _, _, _, _, _, _, _, _, _, _, _, _, _, _, _, _, _, _, _, _, _, _, _, _, _, _, _, _, _, _, _, _, _, _, _, _, _, _, rfl⟩, Below.refl _ _⟩
  · rintro a' w' ⟨⟨u6, u7, u9, u10, u11, u12, u13, u14, u15, u16, u17, u18, u19, u20, u21, u22, u23, u24, u25, u26, u27, u28, u29, u30, u31, u32, u33, u34, u35, u36, u37, u38, u39, u40, u41, u42, u43, u44, u45, u46, u47, u48, u49, u50, u51, rfl⟩, hbe⟩
    have HBE := hid hbe
    clear hbe
    go_wp2
    simp only [Exit.jump]
    go_ret2
    exact ⟨rfl, HBE.out⟩

set_option maxRecDepth 20000 in
set_option maxHeartbeats 1000000 in
theorem cut_long (zs m : Nat → Int) (ao : Option Addr) (len cap : Nat) (sa : Option Addr) (n sc : Nat) (w : World) (hb : Bys w ao len cap m) (hm : ∀ j, j < len → 0 ≤ m j ∧ m j < 256) (hlen : len ≤ 140737488351232) (hlc : len ≤ cap) (hcap : cap ≤ 9223372036854775807) (hn : Nms .i64 w sa n zs) (hsz : szB zs n = true) (hhd : hdL zs n ≤ len) (hz : zn zs n = 0) (hlo : hdL zs n < len) :
    Calls Try.prog 36 #[.slice ao len cap, .slice sa n sc] w fun e w' => e = .returned (.tuple #[.slice none 0 0, .int .i64 4]) ∧ Below w.heap.size w w' := by
  obtain ⟨hn1, hnb, hok⟩ := szB_out hsz
  have h64 := hdL_bd (zs := zs) n hok
  have hsi := sizes_any zs sa n sc w hn (by omega)
  rw [hsz] at hsi
  have hhl := headlen_any zs sa n sc w hn hn1 hnb hok
  have hho := headoffs_any zs m ao len cap sa n sc w hb hm hlc hcap hn hn1 hnb hok hhd
  have hoff := fun i hi => offN_cast zs m len n i hm hhd hi
  obtain ⟨S, eS⟩ : ∃ S, hdL zs n = S := ⟨_, rfl⟩
  rw [eS] at hhl
  have s1 : ¬ (len : Int) < (S : Int) := by omega
  have s1n : ¬ len < S := by omega
  have s2 : (S : Int) ≤ 4194304 := by omega
  have s3 : (len : Int) ≤ 140737488351232 := by omega
  have HSI := hid hsi
  have HHL := hid hhl
  have HHO := hid hho
  have HOF := hid hoff
  have HS := hid eS
  have t1 : (S : Int) < (len : Int) := by omega
  have t1n : S < len := by omega
  have HZ := hid hz
  clear hsi hhl hho hb hm hn hok hhd hoff eS hsz h64 hz hlo
  go_enter Try.func36, Try.ntmps36
  go_wp2
  refine wp_scope_jumps 0 (fun a' w' => RefC (.slice ao len cap) (.slice sa n sc) 4 a' ∧ Below w.heap.size w w') (fun _ _ => 0) rfl ?_ ?_
  · go_upto_region 9 with (first
      | (go_at_call 56; refine HSI.out.mono ?_; rintro e w1 ⟨rfl, rfl⟩)
      | (go_at_call 58; refine HHL.out.mono ?_; rintro e w2 ⟨rfl, rfl⟩)
      | (go_at_call 67; refine HHO.out.mono ?_; rintro e w3 ⟨v, rfl, ho3, hb3⟩))
    rw [offL_zn] at ho3
    obtain ⟨oa, OC, hv, hnm⟩ := owns_nms ho3 (fun i => (offN zs m n i : Int)) (fun i hi => (HOF.out i hi).1)
    subst hv
    have hznb := zn_le zs n
    have HB3 := hid hb3
    rw [HZ.out]
    clear hnm ho3 hb3 hznb
    go_wp2
    go_step3
    exact ⟨rfl, ⟨_, _, _, _, _, _, _, _, _, _, _, _, _, _, _, _, _, _, _, _, _, _, _, _, _, _, _, _, _, _, _, _, _, _, _, _, _, _, _, _, _, _, _, _, _, rfl⟩, HB3.out⟩
  · rintro a' w' ⟨⟨u6, u7, u9, u10, u11, u12, u13, u14, u15, u16, u17, u18, u19, u20, u21, u22, u23, u24, u25, u26, u27, u28, u29, u30, u31, u32, u33, u34, u35, u36, u37, u38, u39, u40, u41, u42, u43, u44, u45, u46, u47, u48, u49, u50, u51, rfl⟩, hbe⟩
    have HBE := hid hbe
    clear hbe
    go_wp2
    simp only [Exit.jump]
    go_ret2
    exact ⟨rfl, HBE.out⟩

set_option maxRecDepth 20000 in
set_option maxHeartbeats 1000000 in
theorem cut_first (zs m : Nat → Int) (ao : Option Addr) (len cap : Nat) (sa : Option Addr) (n sc : Nat) (w : World) (hb : Bys w ao len cap m) (hm : ∀ j, j < len → 0 ≤ m j ∧ m j < 256) (hlen : len ≤ 140737488351232) (hlc : len ≤ cap) (hcap : cap ≤ 9223372036854775807) (hn : Nms .i64 w sa n zs) (hsz : szB zs n = true) (hhd : hdL zs n ≤ len) (hz : 0 < zn zs n) (hfi : ¬ offN zs m n 0 = hdL zs n) :
    Calls Try.prog 36 #[.slice ao len cap, .slice sa n sc] w fun e w' => e = .returned (.tuple #[.slice none 0 0, .int .i64 5]) ∧ Below w.heap.size w w' := by
  obtain ⟨hn1, hnb, hok⟩ := szB_out hsz
  have h64 := hdL_bd (zs := zs) n hok
  have hsi := sizes_any zs sa n sc w hn (by omega)
  rw [hsz] at hsi
  have hhl := headlen_any zs sa n sc w hn hn1 hnb hok
  have hho := headoffs_any zs m ao len cap sa n sc w hb hm hlc hcap hn hn1 hnb hok hhd
  have hoff := fun i hi => offN_cast zs m len n i hm hhd hi
  obtain ⟨S, eS⟩ : ∃ S, hdL zs n = S := ⟨_, rfl⟩
  rw [eS] at hhl
  have s1 : ¬ (len : Int) < (S : Int) := by omega
  have s1n : ¬ len < S := by omega
  have s2 : (S : Int) ≤ 4194304 := by omega
  have s3 : (len : Int) ≤ 140737488351232 := by omega
  have HSI := hid hsi
  have HHL := hid hhl
  have HHO := hid hho
  have HOF := hid hoff
  have HS := hid eS
  have HZ := hid hz
  have HFI := hid hfi
  clear hsi hhl hho hb hm hn hok hhd hoff eS hsz h64 hz hfi
  go_enter Try.func36, Try.ntmps36
  go_wp2
  refine wp_scope_jumps 0 (fun a' w' => RefC (.slice ao len cap) (.slice sa n sc) 5 a' ∧ Below w.heap.size w w') (fun _ _ => 0) rfl ?_ ?_
  · go_upto_region 9 with (first
      | (go_at_call 56; refine HSI.out.mono ?_; rintro e w1 ⟨rfl, rfl⟩)
      | (go_at_call 58; refine HHL.out.mono ?_; rintro e w2 ⟨rfl, rfl⟩)
      | (go_at_call 67; refine HHO.out.mono ?_; rintro e w3 ⟨v, rfl, ho3, hb3⟩))
    rw [offL_zn] at ho3
    obtain ⟨oa, OC, hv, hnm⟩ := owns_nms ho3 (fun i => (offN zs m n i : Int)) (fun i hi => (HOF.out i hi).1)
    subst hv
    have hznb := zn_le zs n
    have HB3 := hid hb3
    have hz := HZ.out
    have hfi := HFI.out
    rw [HS.out] at hfi
    rcases hnm with h | ⟨ob, oo, rfl, hob, hoc⟩
    · omega
    have c0 := hoc 0 hz
    simp only [Nat.add_zero] at c0
    have hF := (HOF.out 0 hz).2
    obtain ⟨F, eF⟩ : ∃ F, offN zs m n 0 = F := ⟨_, rfl⟩
    rw [eF] at c0 hfi hF
    obtain ⟨nz, enz⟩ : ∃ x, zn zs n = x := ⟨_, rfl⟩
    rw [enz] at hz ⊢
    have t1 : ¬ (nz : Int) = 0 := by omega
    have t2 : (0 : Int) < (nz : Int) := by omega
    have t3 : 0 < nz := by omega
    have t4 : ¬ (F : Int) = (S : Int) := by omega
    have t5 : ¬ F = S := by omega
    clear ho3 hb3 hznb hoc enz hz eF hfi
    go_wp2
    go_step3
    exact ⟨rfl, ⟨_, _, _, _, _, _, _, _, _, _, _, _, _, _, _, _, _, _, _, _, _, _, _, _, _, _, _, _, _, _, _, _, _, _, _, _, _, _, _, _, _, _, _, _, _, rfl⟩, HB3.out⟩
  · rintro a' w' ⟨⟨u6, u7, u9, u10, u11, u12, u13, u14, u15, u16, u17, u18, u19, u20, u21, u22, u23, u24, u25, u26, u27, u28, u29, u30, u31, u32, u33, u34, u35, u36, u37, u38, u39, u40, u41, u42, u43, u44, u45, u46, u47, u48, u49, u50, u51, rfl⟩, hbe⟩
    have HBE := hid hbe
    clear hbe
    go_wp2
    simp only [Exit.jump]
    go_ret2
    exact ⟨rfl, HBE.out⟩

set_option maxRecDepth 20000 in
set_option maxHeartbeats 1000000 in
theorem cut_order (zs m : Nat → Int) (ao : Option Addr) (len cap : Nat) (sa : Option Addr) (n sc : Nat) (w : World) (hb : Bys w ao len cap m) (hm : ∀ j, j < len → 0 ≤ m j ∧ m j < 256) (hlen : len ≤ 140737488351232) (hlc : len ≤ cap) (hcap : cap ≤ 9223372036854775807) (hn : Nms .i64 w sa n zs) (hsz : szB zs n = true) (hhd : hdL zs n ≤ len) (hz : 0 < zn zs n) (hfi : offN zs m n 0 = hdL zs n) (hor : ordB (fun i => (offN zs m n i : Int)) len (zn zs n) = false) :
    Calls Try.prog 36 #[.slice ao len cap, .slice sa n sc] w fun e w' => e = .returned (.tuple #[.slice none 0 0, .int .i64 5]) ∧ Below w.heap.size w w' := by
  obtain ⟨hn1, hnb, hok⟩ := szB_out hsz
  have h64 := hdL_bd (zs := zs) n hok
  have hsi := sizes_any zs sa n sc w hn (by omega)
  rw [hsz] at hsi
  have hhl := headlen_any zs sa n sc w hn hn1 hnb hok
  have hho := headoffs_any zs m ao len cap sa n sc w hb hm hlc hcap hn hn1 hnb hok hhd
  have hoff := fun i hi => offN_cast zs m len n i hm hhd hi
  obtain ⟨S, eS⟩ : ∃ S, hdL zs n = S := ⟨_, rfl⟩
  rw [eS] at hhl
  have s1 : ¬ (len : Int) < (S : Int) := by omega
  have s1n : ¬ len < S := by omega
  have s2 : (S : Int) ≤ 4194304 := by omega
  have s3 : (len : Int) ≤ 140737488351232 := by omega
  have HSI := hid hsi
  have HHL := hid hhl
  have HHO := hid hho
  have HOF := hid hoff
  have HS := hid eS
  have HZ := hid hz
  have HFI := hid hfi
  have HOR := hid hor
  clear hsi hhl hho hb hm hn hok hhd hoff eS hsz h64 hz hfi hor
  go_enter Try.func36, Try.ntmps36
  go_wp2
  refine wp_scope_jumps 0 (fun a' w' => RefC (.slice ao len cap) (.slice sa n sc) 5 a' ∧ Below w.heap.size w w') (fun _ _ => 0) rfl ?_ ?_
  · go_upto_region 9 with (first
      | (go_at_call 56; refine HSI.out.mono ?_; rintro e w1 ⟨rfl, rfl⟩)
      | (go_at_call 58; refine HHL.out.mono ?_; rintro e w2 ⟨rfl, rfl⟩)
      | (go_at_call 67; refine HHO.out.mono ?_; rintro e w3 ⟨v, rfl, ho3, hb3⟩))
    rw [offL_zn] at ho3
    obtain ⟨oa, OC, hv, hnm⟩ := owns_nms ho3 (fun i => (offN zs m n i : Int)) (fun i hi => (HOF.out i hi).1)
    subst hv
    have hznb := zn_le zs n
    have HB3 := hid hb3
    have hz := HZ.out
    have hfi := HFI.out
    rw [HS.out] at hfi
    have hio := inorder_any (fun i => (offN zs m n i : Int)) oa (zn zs n) OC len w3 hnm (by omega) (fun i hi => by have := (HOF.out i hi).2; omega) (by omega)
    rw [HOR.out] at hio
    have HIO := hid hio
    rcases hnm with h | ⟨ob, oo, rfl, hob, hoc⟩
    · omega
    have c0 := hoc 0 hz
    simp only [Nat.add_zero] at c0
    rw [hfi] at c0
    obtain ⟨nz, enz⟩ : ∃ x, zn zs n = x := ⟨_, rfl⟩
    rw [enz] at hz HIO ⊢
    have t1 : ¬ (nz : Int) = 0 := by omega
    have t2 : (0 : Int) < (nz : Int) := by omega
    have t3 : 0 < nz := by omega
    clear ho3 hb3 hznb hoc enz hz hfi hio
    go_wp2_with (go_at_call 68; refine HIO.out.mono ?_; rintro e w4 ⟨rfl, rfl⟩)
    go_step3
    exact ⟨rfl, ⟨_, _, _, _, _, _, _, _, _, _, _, _, _, _, _, _, _, _, _, _, _, _, _, _, _, _, _, _, _, _, _, _, _, _, _, _, _, _, _, _, _, _, _, _, _, rfl⟩, HB3.out⟩
  · rintro a' w' ⟨⟨u6, u7, u9, u10, u11, u12, u13, u14, u15, u16, u17, u18, u19, u20, u21, u22, u23, u24, u25, u26, u27, u28, u29, u30, u31, u32, u33, u34, u35, u36, u37, u38, u39, u40, u41, u42, u43, u44, u45, u46, u47, u48, u49, u50, u51, rfl⟩, hbe⟩
    have HBE := hid hbe
    clear hbe
    go_wp2
    simp only [Exit.jump]
    go_ret2
    exact ⟨rfl, HBE.out⟩

end Go.Proofs.Ytehpfemlcjcabaa.Z

namespace Go.Proofs.Ytehpfemlcjcabaa.Z

open Go.RowKit

set_option linter.unusedVariables false

set_option linter.unusedSimpArgs false

attribute [local go_sem ↓] sl22_eq

end Go.Proofs.Ytehpfemlcjcabaa.Z

namespace Go.Proofs.Ytehpfemlcjcabaa.Z

open Go.RowKit

set_option linter.unusedVariables false

set_option linter.unusedSimpArgs false

theorem own_whole {w : World} {base : Nat} {v : Value} {n : Nat} {m : Nat → Int} (h : w.ownsRow base 5 1 v n (bl m n)) :
    ∃ ga C, v = .slice ga n C ∧ n ≤ C ∧ (0 < n → ∃ g, ga = some ⟨g, 0, none⟩ ∧ base ≤ g ∧ g < w.heap.size ∧ ∀ j, j < n → w.cell? ⟨g, j, none⟩ = some (.int .u8 (m j))) := by
  rcases h.2 with ⟨h1, h2⟩ | ⟨g, cap, cur, h1, h2, h3, h4, h5, h6, h7⟩
  · subst h2
    exact ⟨none, 0, h1, Nat.le_refl _, fun h => by omega⟩
  · subst h1
    obtain ⟨a1, a2, a3, a4, a5⟩ := own_cells h
    exact ⟨_, cap, rfl, a3, fun _ => ⟨g, rfl, a1, a2, a5⟩⟩

set_option maxHeartbeats 1000000 in
theorem equal_any (m : Nat → Int) (ao : Option Addr) (len cap s n : Nat) (w : World) (hb : Bys w ao len cap m) (hlen : len ≤ 140737488351232) (hs1 : 1 ≤ s) (hsb : s ≤ 9223372036854775807) (hn : len = n * s) (hnb : n ≤ 1000000000000) :
    Calls Try.prog 95 #[.slice ao len cap, .int .i64 s] w fun e w' => ∃ ga gp, e = .returned (.slice (some ⟨gp, 0, none⟩) n n) ∧ w.heap.size ≤ gp ∧ (0 < len → ∃ g, ga = some ⟨g, 0, none⟩ ∧ w.heap.size ≤ g ∧ g < w'.heap.size ∧ g ≠ gp ∧ ∀ j, j < len → w'.cell? ⟨g, j, none⟩ = some (.int .u8 (m j))) ∧ w'.heap[gp]? = some (.cells (vals n fun i => pc ga (i * s) ((i + 1) * s)) 39) ∧ Below w.heap.size w w' := by
  have hcl := clone_any m ao len cap w hb hlen
  have HCL := hid hcl
  have q1 : (len : Int) / (s : Int) = (n : Int) := by
    rw [hn, Int.natCast_mul]
    exact Int.mul_ediv_cancel _ (by omega)
  have q2 : (len : Int).tdiv (s : Int) = (n : Int) := by rw [Int.tdiv_eq_ediv_of_nonneg (by omega)]; exact q1
  have q3 : ¬ (s : Int) = 0 := by omega
  have q4 : (len : Int) ≤ 140737488351232 := by omega
  have q5 : ¬ (s : Int) = -1 := by omega
  have HN := hid hn
  clear hcl hb hn
  go_enter Try.func95, Try.ntmps95
  go_upto_region 2 with (go_at_call 89; refine HCL.out.mono ?_; rintro e w1 ⟨v, rfl, ho1, hb1⟩)
  obtain ⟨ga, C, hv, hlC, hrow⟩ := own_whole ho1
  subst hv
  have HROW := hid hrow
  have HB1 := hid hb1
  clear hrow ho1 hb1
  go_wp2_with (at_make; refine wpList_make_parts _ rfl _ _ rfl n rfl rfl hnb ?_; intro f0 w2 hr2 hb2 hz2; have HR2 := hid hr2; have HB2 := hid hb2; have HZ2 := hid hz2; clear hr2 hb2 hz2)
  obtain ⟨gp, egp⟩ : ∃ x, w1.heap.size = x := ⟨_, rfl⟩
  rw [egp] at HR2 HB2 HZ2 ⊢
  have HGP := hid egp
  clear egp q1 q2
  go_loopw [17] (fun i wr => ∃ k : Nat, k ≤ n ∧ i = .int .i64 k ∧ wr.heap[gp]? = some (.cells (vals n fun i => if i < k then pc ga (i * s) ((i + 1) * s) else f0 i) 39) ∧ gp < wr.heap.size ∧ Below gp w1 wr) (fun i _ => n - (intOf i).toNat)
  case atStart =>
    refine ⟨0, by omega, rfl, ?_, HZ2.out, HB2.out⟩
    rw [HR2.out]
    exact congrArg (fun c => some (Obj.cells c 39)) (vals_congr fun i hi => by rw [if_neg (by omega)])
  case round =>
    obtain ⟨k, hk, rfl, hr, hz, hb⟩ := hrel
    clear HR2 HB2 HZ2
    by_cases hkn : k < n
    · obtain ⟨KS, eKS⟩ : ∃ x, k * s = x := ⟨_, rfl⟩
      obtain ⟨KT, eKT⟩ : ∃ x, (k + 1) * s = x := ⟨_, rfl⟩
      have hle : KT ≤ len := by rw [← eKT, HN.out]; exact Nat.mul_le_mul_right _ (by omega)
      have hst : KT = KS + s := by rw [← eKT, ← eKS, Nat.add_mul, Nat.one_mul]
      have e1 : (k : Int) * (s : Int) = (KS : Int) := by rw [← eKS, Int.natCast_mul]
      have e2 : ((k : Int) + 1) * (s : Int) = (KT : Int) := by rw [← eKT, Int.natCast_mul, Int.natCast_add]; rfl
      have hpc := piece_any ga len C KS KT
      have HPC := hid (fun w => hpc w (by omega) (by omega))
      obtain ⟨PA, PL, eP⟩ : ∃ PA PL, pc ga KS KT = .slice PA PL PL := ⟨_, _, rfl⟩
      rw [eP] at HPC
      have HP := hid eP
      have cw := vals_cell hr k hkn
      have fw := row_frozen hr k
      obtain ⟨u, eu⟩ : ∃ u, (if k < k then pc ga (k * s) ((k + 1) * s) else f0 k) = u := ⟨_, rfl⟩
      rw [eu] at cw
      have HR := hid hr
      have HB := hid hb
      have HZ := hid hz
      have HK := hid (And.intro eKS eKT)
      have k1 : (k : Int) < (n : Int) := by omega
      have k2 : (0 : Int) ≤ (k : Int) := by omega
      have k3 : (KS : Int) ≤ 140737488351232 := by omega
      have k4 : (KT : Int) ≤ 140737488351232 := by omega
      clear hr hb hz hpc eP eu eKS eKT hle hst
      go_wp2_with (go_at_call 91; refine (HPC.out _).mono ?_; rintro e w3 ⟨rfl, rfl⟩)
      go_roundw
      case rel =>
        refine ⟨k + 1, by omega, by go_num, ?_, by rw [size_set]; exact HZ.out, HB.out.setCell (by simp) _⟩
        refine (row_set HR.out k _).trans ?_
        rw [vals_set]
        refine congrArg (fun c => some (Obj.cells c 39)) (vals_congr fun i hi => ?_)
        by_cases hik : i = k
        · subst hik
          rw [if_pos rfl, if_pos (by omega), HK.out.1, HK.out.2, HP.out]
        · rw [if_neg hik]
          by_cases h2 : i < k
          · rw [if_pos h2, if_pos (by omega)]
          · rw [if_neg h2, if_neg (by omega)]
      case measure => simp [intOf]; omega
    · have ek : k = n := by omega
      subst ek
      have hr' : wr.heap[gp]? = some (.cells (vals k fun i => pc ga (i * s) ((i + 1) * s)) 39) := by
        rw [hr]
        exact congrArg (fun c => some (Obj.cells c 39)) (vals_congr fun i hi => by rw [if_pos hi])
      have hb1 := HB1.out
      have hz1 := hb1.size
      have egp := HGP.out
      have HX : Hid (w.heap.size ≤ gp ∧ (0 < len → ∃ g, ga = some ⟨g, 0, none⟩ ∧ w.heap.size ≤ g ∧ g < wr.heap.size ∧ g ≠ gp ∧ ∀ j, j < len → wr.cell? ⟨g, j, none⟩ = some (.int .u8 (m j))) ∧ wr.heap[gp]? = some (.cells (vals k fun i => pc ga (i * s) ((i + 1) * s)) 39) ∧ Below w.heap.size w wr) := by
        refine ⟨by omega, fun h => ?_, hr', hb1.trans (hb.mono (by omega))⟩
        obtain ⟨g, x1, x2, x3, x4⟩ := HROW.out h
        exact ⟨g, x1, x2, by omega, by omega, fun j hj => (below_cell hb (by omega)).trans (x4 j hj)⟩
      clear hr hr' hb hz hb1 hz1 egp
      go_wp2
      go_ret
      exact ⟨ga, gp, rfl, HX.out⟩

end Go.Proofs.Ytehpfemlcjcabaa.Z

namespace Go.Proofs.Ytehpfemlcjcabaa.Z

open Go.RowKit

set_option linter.unusedVariables false

set_option linter.unusedSimpArgs false

set_option maxRecDepth 20000 in
set_option maxHeartbeats 1000000 in
theorem each_ok (m : Nat → Int) (ao : Option Addr) (len cap s n : Nat) (most : Int) (w : World) (hb : Bys w ao len cap m) (hlen : len ≤ 140737488351232) (hs1 : 1 ≤ s) (hsb : s ≤ 9223372036854775807) (hn : len = n * s) (hnb : n ≤ 1000000000000) (hm : (n : Int) ≤ most) (hm1 : most ≤ 9223372036854775807) :
    Calls Try.prog 92 #[.slice ao len cap, .int .i64 s, .int .i64 most] w fun e w' => ∃ ga gp, e = .returned (.tuple #[.slice (some ⟨gp, 0, none⟩) n n, .int .i64 0]) ∧ w.heap.size ≤ gp ∧ (0 < len → ∃ g, ga = some ⟨g, 0, none⟩ ∧ w.heap.size ≤ g ∧ g < w'.heap.size ∧ g ≠ gp ∧ ∀ j, j < len → w'.cell? ⟨g, j, none⟩ = some (.int .u8 (m j))) ∧ w'.heap[gp]? = some (.cells (vals n fun i => pc ga (i * s) ((i + 1) * s)) 39) ∧ Below w.heap.size w w' := by
  have heq := equal_any m ao len cap s n w hb hlen hs1 hsb hn hnb
  have HEQ := hid heq
  have hn' : (len : Int) = (n : Int) * (s : Int) := by rw [hn, Int.natCast_mul]
  have q2 : ¬ (s : Int) = 0 := by omega
  have q0 : (len : Int) % (s : Int) = 0 := by rw [hn']; exact Int.mul_emod_left _ _
  have q1 : (len : Int).tmod (s : Int) = 0 := by rw [Int.tmod_eq_emod_of_nonneg (by omega)]; exact q0
  have q3 : ¬ (s : Int) = -1 := by omega
  have q4 : (len : Int) ≤ 140737488351232 := by omega
  have q5 : (len : Int) / (s : Int) = (n : Int) := by rw [hn']; exact Int.mul_ediv_cancel _ q2
  have q6 : (len : Int).tdiv (s : Int) = (n : Int) := by rw [Int.tdiv_eq_ediv_of_nonneg (by omega)]; exact q5
  have q7 : ¬ (s : Int) < 1 := by omega
  have q8 : ¬ most < 0 := by omega
  have q9 : ¬ most < (n : Int) := by omega
  have q10 : ¬ s = 0 := by omega
  have q11 : 1 ≤ s := by omega
  clear hn hn' heq hb
  go_enter Try.func92, Try.ntmps92
  go_wp2
  refine wp_scope_jumps 0 (fun _ _ => False) (fun _ _ => 0) rfl ?_ (fun _ _ h => h.elim)
  go_wp2_with (go_at_call 95; refine HEQ.out.mono ?_; rintro e w1 ⟨ga, gp, rfl, x⟩)
  simp only [Exit.jump]
  go_ret2
  exact ⟨ga, gp, rfl, x⟩

end Go.Proofs.Ytehpfemlcjcabaa.Z
