/-
  What ssz.Cut answers where it refuses.
-/
import Derived.Test.YtfhplpcbaoefeaaSzL
namespace Go.Proofs.Ytfhplpcbaoefeaa
open Go.RowKit
set_option linter.unusedVariables false
set_option linter.unusedSimpArgs false

/-- The frame with which Cut's one end is reached. -/
def RefC (v0 v1 : Value) (err : Int) (a' : Act) : Prop := ∃ u6 u7 u9 u10 u11 u12 u13 u14 u15 u16 u17 u18 u19 u20 u21 u22 u23 u24 u25 u26 u27 u28 u29 u30 u31 u32 u33 u34 u35 u36 u37 u38 u39 u40 u41 u42 u43 u44 u45 u46 u47 u48 u49 u50 u51, a' = { tmps := #[v0, v1, undef, undef, .slice none 0 0, .int .i64 0, u6, u7, .int .i64 err, u9, u10, u11, u12, u13, u14, u15, u16, u17, u18, u19, u20, u21, u22, u23, u24, u25, u26, u27, u28, u29, u30, u31, u32, u33, u34, u35, u36, u37, u38, u39, u40, u41, u42, u43, u44, u45, u46, u47, u48, u49, u50, u51], defers := [] }

set_option maxRecDepth 20000 in
set_option maxHeartbeats 1000000 in
theorem cut_arg (zs m : Nat → Int) (ao : Option Addr) (len cap : Nat) (sa : Option Addr) (n sc : Nat) (w : World) (hn : Nms .i64 w sa n zs) (hnb : n ≤ 9223372036854775807) (hsz : szB zs n = false) :
    Calls Try.prog 12 #[.slice ao len cap, .slice sa n sc] w fun e w' => e = .returned (.tuple #[.slice none 0 0, .int .i64 1]) ∧ Below w.heap.size w w' := by
  have hsi := sizes_any zs sa n sc w hn hnb
  rw [hsz] at hsi
  have HSI := hid hsi
  clear hsi hn hsz
  go_enter Try.func12, Try.ntmps12
  go_wp2
  refine wp_scope_jumps 0 (fun a' w' => RefC (.slice ao len cap) (.slice sa n sc) 1 a' ∧ Below w.heap.size w w') (fun _ _ => 0) rfl ?_ ?_
  · go_wp2_with (go_at_call 23; refine HSI.out.mono ?_; rintro e w1 ⟨rfl, rfl⟩)
    go_step3
    exact ⟨rfl, ⟨_, _, _, _, _, _, _, _, _, _, _, _, _, _, _, _, _, _, _, _, _, _, _, _, _, _, _, _, _, _, _, _, _, _, _, _, _, _, _, _, _, _, _, _, _, rfl⟩, Below.refl _ _⟩
  · rintro a' w' ⟨⟨u6, u7, u9, u10, u11, u12, u13, u14, u15, u16, u17, u18, u19, u20, u21, u22, u23, u24, u25, u26, u27, u28, u29, u30, u31, u32, u33, u34, u35, u36, u37, u38, u39, u40, u41, u42, u43, u44, u45, u46, u47, u48, u49, u50, u51, rfl⟩, hbe⟩
    have HBE := hid hbe
    clear hbe
    go_wp2
    simp only [Exit.jump]
    go_ret2
    exact ⟨rfl, HBE.out⟩

set_option maxRecDepth 20000 in
set_option maxHeartbeats 1000000 in
theorem cut_short (zs m : Nat → Int) (ao : Option Addr) (len cap : Nat) (sa : Option Addr) (n sc : Nat) (w : World) (hlen : len ≤ 140737488351232) (hn : Nms .i64 w sa n zs) (hsz : szB zs n = true) (hhd : len < hdL zs n) :
    Calls Try.prog 12 #[.slice ao len cap, .slice sa n sc] w fun e w' => e = .returned (.tuple #[.slice none 0 0, .int .i64 4]) ∧ Below w.heap.size w w' := by
  obtain ⟨hn1, hnb, hok⟩ := szB_out hsz
  have h64 := hdL_bd (zs := zs) n hok
  have hsi := sizes_any zs sa n sc w hn (by omega)
  rw [hsz] at hsi
  have hhl := headlen_any zs sa n sc w hn hn1 hnb hok
  obtain ⟨S, eS⟩ : ∃ S, hdL zs n = S := ⟨_, rfl⟩
  rw [eS] at hhl hhd
  have s1 : (len : Int) < (S : Int) := by omega
  have s1n : len < S := by omega
  have s2 : (S : Int) ≤ 4194304 := by omega
  have s3 : (len : Int) ≤ 140737488351232 := by omega
  have HSI := hid hsi
  have HHL := hid hhl
  clear hsi hhl hn hok eS hsz h64
  go_enter Try.func12, Try.ntmps12
  go_wp2
  refine wp_scope_jumps 0 (fun a' w' => RefC (.slice ao len cap) (.slice sa n sc) 4 a' ∧ Below w.heap.size w w') (fun _ _ => 0) rfl ?_ ?_
  · go_wp2_with (first
      | (go_at_call 23; refine HSI.out.mono ?_; rintro e w1 ⟨rfl, rfl⟩)
      | (go_at_call 24; refine HHL.out.mono ?_; rintro e w2 ⟨rfl, rfl⟩))
    go_step3
    exact ⟨rfl, ⟨_, _, _, _, _, _, _, _, _, _, _, _, _, _, _, _, _, _, _, _, _, _, _, _, _, _, _, _, _, _, _, _, _, _, _, _, _, _, _, _, _, _, _, _, _, rfl⟩, Below.refl _ _⟩
  · rintro a' w' ⟨⟨u6, u7, u9, u10, u11, u12, u13, u14, u15, u16, u17, u18, u19, u20, u21, u22, u23, u24, u25, u26, u27, u28, u29, u30, u31, u32, u33, u34, u35, u36, u37, u38, u39, u40, u41, u42, u43, u44, u45, u46, u47, u48, u49, u50, u51, rfl⟩, hbe⟩
    have HBE := hid hbe
    clear hbe
    go_wp2
    simp only [Exit.jump]
    go_ret2
    exact ⟨rfl, HBE.out⟩

set_option maxRecDepth 20000 in
set_option maxHeartbeats 1000000 in
theorem cut_long (zs m : Nat → Int) (ao : Option Addr) (len cap : Nat) (sa : Option Addr) (n sc : Nat) (w : World) (hb : Bys w ao len cap m) (hm : ∀ j, j < len → 0 ≤ m j ∧ m j < 256) (hlen : len ≤ 140737488351232) (hlc : len ≤ cap) (hcap : cap ≤ 9223372036854775807) (hn : Nms .i64 w sa n zs) (hsz : szB zs n = true) (hhd : hdL zs n ≤ len) (hz : zn zs n = 0) (hlo : hdL zs n < len) :
    Calls Try.prog 12 #[.slice ao len cap, .slice sa n sc] w fun e w' => e = .returned (.tuple #[.slice none 0 0, .int .i64 4]) ∧ Below w.heap.size w w' := by
  obtain ⟨hn1, hnb, hok⟩ := szB_out hsz
  have h64 := hdL_bd (zs := zs) n hok
  have hsi := sizes_any zs sa n sc w hn (by omega)
  rw [hsz] at hsi
  have hhl := headlen_any zs sa n sc w hn hn1 hnb hok
  have hho := headoffs_any zs m ao len cap sa n sc w hb hm hlc hcap hn hn1 hnb hok hhd
  have hoff := fun i hi => offN_cast zs m len n i hm hhd hi
  obtain ⟨S, eS⟩ : ∃ S, hdL zs n = S := ⟨_, rfl⟩
  rw [eS] at hhl
  have s1 : ¬ (len : Int) < (S : Int) := by omega
  have s1n : ¬ len < S := by omega
  have s2 : (S : Int) ≤ 4194304 := by omega
  have s3 : (len : Int) ≤ 140737488351232 := by omega
  have HSI := hid hsi
  have HHL := hid hhl
  have HHO := hid hho
  have HOF := hid hoff
  have HS := hid eS
  have t1 : (S : Int) < (len : Int) := by omega
  have t1n : S < len := by omega
  have HZ := hid hz
  clear hsi hhl hho hb hm hn hok hhd hoff eS hsz h64 hz hlo
  go_enter Try.func12, Try.ntmps12
  go_wp2
  refine wp_scope_jumps 0 (fun a' w' => RefC (.slice ao len cap) (.slice sa n sc) 4 a' ∧ Below w.heap.size w w') (fun _ _ => 0) rfl ?_ ?_
  · go_upto_region 9 with (first
      | (go_at_call 23; refine HSI.out.mono ?_; rintro e w1 ⟨rfl, rfl⟩)
      | (go_at_call 24; refine HHL.out.mono ?_; rintro e w2 ⟨rfl, rfl⟩)
      | (go_at_call 25; refine HHO.out.mono ?_; rintro e w3 ⟨v, rfl, ho3, hb3⟩))
    rw [offL_zn] at ho3
    obtain ⟨oa, OC, hv, hnm⟩ := owns_nms ho3 (fun i => (offN zs m n i : Int)) (fun i hi => (HOF.out i hi).1)
    subst hv
    have hznb := zn_le zs n
    have HB3 := hid hb3
    rw [HZ.out]
    clear hnm ho3 hb3 hznb
    go_wp2
    go_step3
    exact ⟨rfl, ⟨_, _, _, _, _, _, _, _, _, _, _, _, _, _, _, _, _, _, _, _, _, _, _, _, _, _, _, _, _, _, _, _, _, _, _, _, _, _, _, _, _, _, _, _, _, rfl⟩, HB3.out⟩
  · rintro a' w' ⟨⟨u6, u7, u9, u10, u11, u12, u13, u14, u15, u16, u17, u18, u19, u20, u21, u22, u23, u24, u25, u26, u27, u28, u29, u30, u31, u32, u33, u34, u35, u36, u37, u38, u39, u40, u41, u42, u43, u44, u45, u46, u47, u48, u49, u50, u51, rfl⟩, hbe⟩
    have HBE := hid hbe
    clear hbe
    go_wp2
    simp only [Exit.jump]
    go_ret2
    exact ⟨rfl, HBE.out⟩

set_option maxRecDepth 20000 in
set_option maxHeartbeats 1000000 in
theorem cut_first (zs m : Nat → Int) (ao : Option Addr) (len cap : Nat) (sa : Option Addr) (n sc : Nat) (w : World) (hb : Bys w ao len cap m) (hm : ∀ j, j < len → 0 ≤ m j ∧ m j < 256) (hlen : len ≤ 140737488351232) (hlc : len ≤ cap) (hcap : cap ≤ 9223372036854775807) (hn : Nms .i64 w sa n zs) (hsz : szB zs n = true) (hhd : hdL zs n ≤ len) (hz : 0 < zn zs n) (hfi : ¬ offN zs m n 0 = hdL zs n) :
    Calls Try.prog 12 #[.slice ao len cap, .slice sa n sc] w fun e w' => e = .returned (.tuple #[.slice none 0 0, .int .i64 5]) ∧ Below w.heap.size w w' := by
  obtain ⟨hn1, hnb, hok⟩ := szB_out hsz
  have h64 := hdL_bd (zs := zs) n hok
  have hsi := sizes_any zs sa n sc w hn (by omega)
  rw [hsz] at hsi
  have hhl := headlen_any zs sa n sc w hn hn1 hnb hok
  have hho := headoffs_any zs m ao len cap sa n sc w hb hm hlc hcap hn hn1 hnb hok hhd
  have hoff := fun i hi => offN_cast zs m len n i hm hhd hi
  obtain ⟨S, eS⟩ : ∃ S, hdL zs n = S := ⟨_, rfl⟩
  rw [eS] at hhl
  have s1 : ¬ (len : Int) < (S : Int) := by omega
  have s1n : ¬ len < S := by omega
  have s2 : (S : Int) ≤ 4194304 := by omega
  have s3 : (len : Int) ≤ 140737488351232 := by omega
  have HSI := hid hsi
  have HHL := hid hhl
  have HHO := hid hho
  have HOF := hid hoff
  have HS := hid eS
  have HZ := hid hz
  have HFI := hid hfi
  clear hsi hhl hho hb hm hn hok hhd hoff eS hsz h64 hz hfi
  go_enter Try.func12, Try.ntmps12
  go_wp2
  refine wp_scope_jumps 0 (fun a' w' => RefC (.slice ao len cap) (.slice sa n sc) 5 a' ∧ Below w.heap.size w w') (fun _ _ => 0) rfl ?_ ?_
  · go_upto_region 9 with (first
      | (go_at_call 23; refine HSI.out.mono ?_; rintro e w1 ⟨rfl, rfl⟩)
      | (go_at_call 24; refine HHL.out.mono ?_; rintro e w2 ⟨rfl, rfl⟩)
      | (go_at_call 25; refine HHO.out.mono ?_; rintro e w3 ⟨v, rfl, ho3, hb3⟩))
    rw [offL_zn] at ho3
    obtain ⟨oa, OC, hv, hnm⟩ := owns_nms ho3 (fun i => (offN zs m n i : Int)) (fun i hi => (HOF.out i hi).1)
    subst hv
    have hznb := zn_le zs n
    have HB3 := hid hb3
    have hz := HZ.out
    have hfi := HFI.out
    rw [HS.out] at hfi
    rcases hnm with h | ⟨ob, oo, rfl, hob, hoc⟩
    · omega
    have c0 := hoc 0 hz
    simp only [Nat.add_zero] at c0
    have hF := (HOF.out 0 hz).2
    obtain ⟨F, eF⟩ : ∃ F, offN zs m n 0 = F := ⟨_, rfl⟩
    rw [eF] at c0 hfi hF
    obtain ⟨nz, enz⟩ : ∃ x, zn zs n = x := ⟨_, rfl⟩
    rw [enz] at hz ⊢
    have t1 : ¬ (nz : Int) = 0 := by omega
    have t2 : (0 : Int) < (nz : Int) := by omega
    have t3 : 0 < nz := by omega
    have t4 : ¬ (F : Int) = (S : Int) := by omega
    have t5 : ¬ F = S := by omega
    clear ho3 hb3 hznb hoc enz hz eF hfi
    go_wp2
    go_step3
    exact ⟨rfl, ⟨_, _, _, _, _, _, _, _, _, _, _, _, _, _, _, _, _, _, _, _, _, _, _, _, _, _, _, _, _, _, _, _, _, _, _, _, _, _, _, _, _, _, _, _, _, rfl⟩, HB3.out⟩
  · rintro a' w' ⟨⟨u6, u7, u9, u10, u11, u12, u13, u14, u15, u16, u17, u18, u19, u20, u21, u22, u23, u24, u25, u26, u27, u28, u29, u30, u31, u32, u33, u34, u35, u36, u37, u38, u39, u40, u41, u42, u43, u44, u45, u46, u47, u48, u49, u50, u51, rfl⟩, hbe⟩
    have HBE := hid hbe
    clear hbe
    go_wp2
    simp only [Exit.jump]
    go_ret2
    exact ⟨rfl, HBE.out⟩

set_option maxRecDepth 20000 in
set_option maxHeartbeats 1000000 in
theorem cut_order (zs m : Nat → Int) (ao : Option Addr) (len cap : Nat) (sa : Option Addr) (n sc : Nat) (w : World) (hb : Bys w ao len cap m) (hm : ∀ j, j < len → 0 ≤ m j ∧ m j < 256) (hlen : len ≤ 140737488351232) (hlc : len ≤ cap) (hcap : cap ≤ 9223372036854775807) (hn : Nms .i64 w sa n zs) (hsz : szB zs n = true) (hhd : hdL zs n ≤ len) (hz : 0 < zn zs n) (hfi : offN zs m n 0 = hdL zs n) (hor : ordB (fun i => (offN zs m n i : Int)) len (zn zs n) = false) :
    Calls Try.prog 12 #[.slice ao len cap, .slice sa n sc] w fun e w' => e = .returned (.tuple #[.slice none 0 0, .int .i64 5]) ∧ Below w.heap.size w w' := by
  obtain ⟨hn1, hnb, hok⟩ := szB_out hsz
  have h64 := hdL_bd (zs := zs) n hok
  have hsi := sizes_any zs sa n sc w hn (by omega)
  rw [hsz] at hsi
  have hhl := headlen_any zs sa n sc w hn hn1 hnb hok
  have hho := headoffs_any zs m ao len cap sa n sc w hb hm hlc hcap hn hn1 hnb hok hhd
  have hoff := fun i hi => offN_cast zs m len n i hm hhd hi
  obtain ⟨S, eS⟩ : ∃ S, hdL zs n = S := ⟨_, rfl⟩
  rw [eS] at hhl
  have s1 : ¬ (len : Int) < (S : Int) := by omega
  have s1n : ¬ len < S := by omega
  have s2 : (S : Int) ≤ 4194304 := by omega
  have s3 : (len : Int) ≤ 140737488351232 := by omega
  have HSI := hid hsi
  have HHL := hid hhl
  have HHO := hid hho
  have HOF := hid hoff
  have HS := hid eS
  have HZ := hid hz
  have HFI := hid hfi
  have HOR := hid hor
  clear hsi hhl hho hb hm hn hok hhd hoff eS hsz h64 hz hfi hor
  go_enter Try.func12, Try.ntmps12
  go_wp2
  refine wp_scope_jumps 0 (fun a' w' => RefC (.slice ao len cap) (.slice sa n sc) 5 a' ∧ Below w.heap.size w w') (fun _ _ => 0) rfl ?_ ?_
  · go_upto_region 9 with (first
      | (go_at_call 23; refine HSI.out.mono ?_; rintro e w1 ⟨rfl, rfl⟩)
      | (go_at_call 24; refine HHL.out.mono ?_; rintro e w2 ⟨rfl, rfl⟩)
      | (go_at_call 25; refine HHO.out.mono ?_; rintro e w3 ⟨v, rfl, ho3, hb3⟩))
    rw [offL_zn] at ho3
    obtain ⟨oa, OC, hv, hnm⟩ := owns_nms ho3 (fun i => (offN zs m n i : Int)) (fun i hi => (HOF.out i hi).1)
    subst hv
    have hznb := zn_le zs n
    have HB3 := hid hb3
    have hz := HZ.out
    have hfi := HFI.out
    rw [HS.out] at hfi
    have hio := inorder_any (fun i => (offN zs m n i : Int)) oa (zn zs n) OC len w3 hnm (by omega) (fun i hi => by have := (HOF.out i hi).2; omega) (by omega)
    rw [HOR.out] at hio
    have HIO := hid hio
    rcases hnm with h | ⟨ob, oo, rfl, hob, hoc⟩
    · omega
    have c0 := hoc 0 hz
    simp only [Nat.add_zero] at c0
    rw [hfi] at c0
    obtain ⟨nz, enz⟩ : ∃ x, zn zs n = x := ⟨_, rfl⟩
    rw [enz] at hz HIO ⊢
    have t1 : ¬ (nz : Int) = 0 := by omega
    have t2 : (0 : Int) < (nz : Int) := by omega
    have t3 : 0 < nz := by omega
    clear ho3 hb3 hznb hoc enz hz hfi hio
    go_wp2_with (go_at_call 16; refine HIO.out.mono ?_; rintro e w4 ⟨rfl, rfl⟩)
    go_step3
    exact ⟨rfl, ⟨_, _, _, _, _, _, _, _, _, _, _, _, _, _, _, _, _, _, _, _, _, _, _, _, _, _, _, _, _, _, _, _, _, _, _, _, _, _, _, _, _, _, _, _, _, rfl⟩, HB3.out⟩
  · rintro a' w' ⟨⟨u6, u7, u9, u10, u11, u12, u13, u14, u15, u16, u17, u18, u19, u20, u21, u22, u23, u24, u25, u26, u27, u28, u29, u30, u31, u32, u33, u34, u35, u36, u37, u38, u39, u40, u41, u42, u43, u44, u45, u46, u47, u48, u49, u50, u51, rfl⟩, hbe⟩
    have HBE := hid hbe
    clear hbe
    go_wp2
    simp only [Exit.jump]
    go_ret2
    exact ⟨rfl, HBE.out⟩

end Go.Proofs.Ytfhplpcbaoefeaa
