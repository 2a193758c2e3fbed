/-
  What ssz.Cut answers where it cuts.
-/
import Derived.Test.YtfhplpcbaoefeaaSzG
import Derived.ScopeJumps
namespace Go.Proofs.Ytfhplpcbaoefeaa
open Go.RowKit
set_option linter.unusedVariables false
set_option linter.unusedSimpArgs false

theorem offL_zn (zs m : Nat → Int) (k : Nat) : (offL zs m k).length = zn zs k := by
  induction k with
  | zero => rfl
  | succ k ih =>
    show (offL zs m k ++ (if zs k = 0 then [o4 m (hdL zs k)] else [])).length = zn zs k + (if zs k = 0 then 1 else 0)
    rw [List.length_append, ih]
    by_cases h : zs k = 0
    · rw [if_pos h, if_pos h]; rfl
    · rw [if_neg h, if_neg h]; rfl
theorem offL_bd (zs m : Nat → Int) (len k : Nat) (hm : ∀ j, j < len → 0 ≤ m j ∧ m j < 256) (hk : hdL zs k ≤ len) : ∀ x ∈ offL zs m k, 0 ≤ x ∧ x < 4294967296 := by
  induction k with
  | zero => intro x hx; cases hx
  | succ k ih =>
    have h1 : hdL zs (k + 1) = hdL zs k + inH (zs k) := rfl
    intro x hx
    rw [show offL zs m (k + 1) = offL zs m k ++ (if zs k = 0 then [o4 m (hdL zs k)] else []) from rfl, List.mem_append] at hx
    rcases hx with hx | hx
    · exact ih (by omega) x hx
    · by_cases h : zs k = 0
      · rw [if_pos h, List.mem_singleton] at hx
        subst hx
        have h4 : inH (zs k) = 4 := by unfold inH; rw [if_pos h]
        exact o4_bd m _ fun j h1 h2 => hm j (by omega)
      · rw [if_neg h] at hx; cases hx
/-- The offset number i, as it is read. -/
def offN (zs m : Nat → Int) (n i : Nat) : Nat := ((offL zs m n).getD i 0).toNat
theorem offN_cast (zs m : Nat → Int) (len n i : Nat) (hm : ∀ j, j < len → 0 ≤ m j ∧ m j < 256) (hk : hdL zs n ≤ len) (hi : i < zn zs n) : (offL zs m n)[i]? = some ((offN zs m n i : Nat) : Int) ∧ offN zs m n i < 4294967296 := by
  have hl : i < (offL zs m n).length := by rw [offL_zn]; exact hi
  have hb := offL_bd zs m len n hm hk _ (List.getElem_mem hl)
  have e : (offL zs m n).getD i 0 = (offL zs m n)[i] := by rw [List.getD_eq_getElem?_getD, List.getElem?_eq_getElem hl]; rfl
  unfold offN
  rw [List.getElem?_eq_getElem hl, e]
  refine ⟨congrArg some ?_, ?_⟩
  · omega
  · omega
theorem owns_nms {w : World} {base : Nat} {v : Value} {n : Nat} {L : List Int} (h : w.ownsRow base 37 1 v n (L.map (Value.int .u64))) (os : Nat → Int) (hos : ∀ i, i < n → L[i]? = some (os i)) : ∃ a C, v = .slice a n C ∧ Nms .u64 w a n os := by
  rcases h.2 with ⟨h1, h2⟩ | ⟨g, cap, cur, h1, h2, h3, h4, h5, h6, h7⟩
  · subst h2
    exact ⟨none, 0, h1, .inl rfl⟩
  · subst h1
    refine ⟨_, cap, rfl, .inr ⟨g, 0, rfl, (Array.getElem?_eq_some_iff.1 h3).1, fun j hj => ?_⟩⟩
    have := h.cells (g := g) rfl j (.int .u64 (os j)) (by rw [List.getElem?_map, hos j hj]; rfl)
    rw [addr_add] at this
    exact this

set_option maxRecDepth 20000 in
set_option maxHeartbeats 1000000 in
theorem cut_ok (zs m : Nat → Int) (ao : Option Addr) (len cap : Nat) (sa : Option Addr) (n sc : Nat) (w : World) (hb : Bys w ao len cap m) (hm : ∀ j, j < len → 0 ≤ m j ∧ m j < 256) (hlen : len ≤ 140737488351232) (hlc : len ≤ cap) (hcap : cap ≤ 9223372036854775807)
    (hn : Nms .i64 w sa n zs) (hsz : szB zs n = true) (hhd : hdL zs n ≤ len) (hno : zn zs n = 0 → len = hdL zs n) (hfi : 0 < zn zs n → offN zs m n 0 = hdL zs n)
    (hle : ∀ i, i < zn zs n → offN zs m n i ≤ len) (hmo : ∀ i, i + 1 < zn zs n → offN zs m n i ≤ offN zs m n (i + 1)) :
    Calls Try.prog 12 #[.slice ao len cap, .slice sa n sc] w fun e w' => ∃ g C gp, e = .returned (.tuple #[.slice (some ⟨gp, 0, none⟩) n n, .int .i64 0]) ∧ w.heap.size ≤ g ∧ w.heap.size ≤ gp ∧ (∀ j, j < len → w'.cell? ⟨g, j, none⟩ = some (.int .u8 (m j))) ∧ g < w'.heap.size ∧ len ≤ C ∧ w'.heap[gp]? = some (.cells (vals n (cpart (some ⟨g, 0, none⟩) zs (offN zs m n) len (zn zs n))) 22) ∧ g ≠ gp ∧ Below w.heap.size w w' := by
  obtain ⟨hn1, hnb, hok⟩ := szB_out hsz
  have h64 := hdL_bd (zs := zs) n hok
  have hsi := sizes_any zs sa n sc w hn (by omega)
  rw [hsz] at hsi
  have hhl := headlen_any zs sa n sc w hn hn1 hnb hok
  have hho := headoffs_any zs m ao len cap sa n sc w hb hm hlc hcap hn hn1 hnb hok hhd
  obtain ⟨S, eS⟩ : ∃ S, hdL zs n = S := ⟨_, rfl⟩
  rw [eS] at hhl
  have s1 : ¬ (len : Int) < (S : Int) := by omega
  have s2 : (S : Int) ≤ 4194304 := by omega
  have s3 : (len : Int) ≤ 140737488351232 := by omega
  have HSI := hid hsi
  have HHL := hid hhl
  have HHO := hid hho
  have HA : Hid (Bys w ao len cap m ∧ (∀ j, j < len → 0 ≤ m j ∧ m j < 256) ∧ Nms .i64 w sa n zs ∧ 1 ≤ n ∧ n ≤ 64 ∧ (∀ i, i < n → okS (zs i)) ∧ hdL zs n ≤ len ∧ (zn zs n = 0 → len = hdL zs n) ∧ (0 < zn zs n → offN zs m n 0 = hdL zs n)) := ⟨hb, hm, hn, hn1, hnb, hok, hhd, hno, hfi⟩
  have HLE := hid hle
  have HMO := hid hmo
  have HS := hid eS
  clear hsi hhl hho hb hm hn hok hhd hno hfi hle hmo eS hsz h64
  go_enter Try.func12, Try.ntmps12
  go_wp2
  refine wp_scope_jumps 0 (fun _ _ => False) (fun _ _ => 0) rfl ?_ (fun _ _ h => h.elim)
  go_upto_region 9 with (first
    | (go_at_call 23; refine HSI.out.mono ?_; rintro e w1 ⟨rfl, rfl⟩)
    | (go_at_call 24; refine HHL.out.mono ?_; rintro e w2 ⟨rfl, rfl⟩)
    | (go_at_call 25; refine HHO.out.mono ?_; rintro e w3 ⟨v, rfl, ho3, hb3⟩))
  obtain ⟨hb, hm, hn, _, _, hok, hhd, hno, hfi⟩ := HA.out
  have hoff := fun i hi => offN_cast zs m len n i hm hhd hi
  rw [offL_zn] at ho3
  obtain ⟨oa, OC, hv, hnm⟩ := owns_nms ho3 (fun i => (offN zs m n i : Int)) (fun i hi => (hoff i hi).1)
  subst hv
  have hznb := zn_le zs n
  have hord := ordB_true (os := fun i => (offN zs m n i : Int)) (L := (len : Int)) (n := zn zs n) (fun i hi => by
    unfold ordAt
    dsimp only
    have h1 := HLE.out i hi
    by_cases h0 : i = 0
    · rw [if_pos h0]; omega
    · rw [if_neg h0]
      have h2 := HMO.out (i - 1) (by omega)
      rw [show i - 1 + 1 = i by omega] at h2
      omega)
  have hio := inorder_any (fun i => (offN zs m n i : Int)) oa (zn zs n) OC len w3 hnm (by omega) (fun i hi => by have := (hoff i hi).2; omega) (by omega)
  rw [hord] at hio
  have hcp := cparts_any zs m (offN zs m n) ao len cap sa n sc oa OC w3 (hb.below hb3) hlen (hn.below hb3) hn1 hnb hok hhd hnm HLE.out HMO.out
  have HIO := hid hio
  have HCP := hid hcp
  have HB3 := hid hb3
  have eS := HS.out
  by_cases h0 : zn zs n = 0
  · have hle := hno h0
    rw [h0]
    rw [h0] at HIO HCP
    have t1 : ¬ (S : Int) < (len : Int) := by omega
    have HZ := hid h0
    clear hb hm hn hok hhd hno hfi hoff ho3 hnm hznb hord hio hcp hb3 eS hle h0
    go_wp2_with (first
      | (go_at_call 16; refine HIO.out.mono ?_; rintro e w4 ⟨rfl, rfl⟩)
      | (go_at_call 26; refine HCP.out.mono ?_; rintro e w5 ⟨g, C, gp, rfl, x1, x2, x3, x4, x5, x6, x7, x8⟩))
    simp only [Exit.jump]
    go_ret2
    rw [HZ.out]
    exact ⟨g, C, gp, rfl, Nat.le_trans HB3.out.size x1, Nat.le_trans HB3.out.size x2, x3, x4, x5, x6, x7, HB3.out.trans (x8.mono HB3.out.size)⟩
  · have hz : 0 < zn zs n := by omega
    have hfo := hfi hz
    rcases hnm with h | ⟨ob, oo, rfl, hob, hoc⟩
    · omega
    have c0 := hoc 0 hz
    simp only [Nat.add_zero] at c0
    rw [hfo, eS] at c0
    obtain ⟨nz, enz⟩ : ∃ x, zn zs n = x := ⟨_, rfl⟩
    rw [enz] at HIO HCP hz ⊢
    have t1 : ¬ (nz : Int) = 0 := by omega
    have t2 : (0 : Int) < (nz : Int) := by omega
    have t3 : 0 < nz := by omega
    have HZ := hid enz
    clear hb hm hn hok hhd hno hfi hoff ho3 hznb hord hio hcp hb3 eS h0 hfo hoc enz hz
    go_wp2_with (first
      | (go_at_call 16; refine HIO.out.mono ?_; rintro e w4 ⟨rfl, rfl⟩)
      | (go_at_call 26; refine HCP.out.mono ?_; rintro e w5 ⟨g, C, gp, rfl, x1, x2, x3, x4, x5, x6, x7, x8⟩))
    simp only [Exit.jump]
    go_ret2
    rw [HZ.out]
    exact ⟨g, C, gp, rfl, Nat.le_trans HB3.out.size x1, Nat.le_trans HB3.out.size x2, x3, x4, x5, x6, x7, HB3.out.trans (x8.mono HB3.out.size)⟩

end Go.Proofs.Ytfhplpcbaoefeaa
