/-
  What TreePlays answers where there is no tree of this limit.
-/
import Derived.Test.YtjimdkpppgjokaaDoorTvC
namespace Go.Proofs.YtjimdkpppgjokaaDoor
open Go.RowKit
set_option linter.unusedVariables false
set_option linter.unusedSimpArgs false

attribute [local go_sem ↓] sv24_eq lv24_eq ix22_eq slr_eq bd27_eq bs22_eq eqo_eq neq6_eq lvO_eq svO_eq ixO_eq lv28_eq sv28_eq

set_option maxRecDepth 20000 in
set_option maxHeartbeats 2000000 in
theorem plays_none (n : Int) (a : Option Addr) (len cap : Nat) (w : World) (hS : Sh w) (hn : ¬ (1 ≤ n ∧ n ≤ 1073741824)) (h0 : -9223372036854775808 ≤ n) (h1 : n ≤ 9223372036854775807) :
    Calls Tryd.prog 3 #[.int .i64 n, .slice a len cap] w fun e w' => e = .returned (.bool true) ∧ Below w.heap.size w w' := by
  have haw := awake6 w hS
  have HAW := hid haw
  have hrn := fun W => rnew6 n W h0 h1
  rw [decide_eq_false hn] at hrn
  have HRN := hid hrn
  have HNN := hid (fun W => tnew_none n W hn h0 h1)
  have zr28 := zero_ref
  have sv := fun W => sv28_new W n none 0 0 (rtA 0 (.slice none 0 0)) rfl
  have b0 := bd27_0
  have qe := fun W => eqo_run W (fun _ => 0) (fun _ => 0)
  rw [eqR_self] at qe
  clear haw hS hrn hn
  go_enter Tryd.func3, Tryd.ntmps3
  go_upto_region 5 with (first
    | (go_at_call 8; refine HAW.out.mono ?_; rintro e w1 ⟨rfl, hb1⟩)
    | (go_at_call 9; refine (HNN.out _).mono ?_; rintro e w2 ⟨rfl, hw2⟩; obtain rfl := hw2.symm)
    | (go_at_call 10; refine (HRN.out _).mono ?_; rintro e w3 ⟨rfl, hb3⟩))
  obtain ⟨W4, hW4⟩ : ∃ X, w3.alloc (.cells (rtA n (.slice none 0 0)) 28) = X := ⟨_, rfl⟩
  have hB4 : Below w.heap.size w W4 := by rw [← hW4]; exact (hb1.trans (hb3.mono hb1.size)).alloc (by have := hb1.size; have := hb3.size; omega) _
  rw [hW4]
  have HB4 := hid hB4
  clear hW4 hB4 hb1 hb3 sv zr28 HAW HRN HNN
  go_wp2_with (first
    | (go_at_call 11; refine (nlen_any _).mono ?_; rintro e wa ⟨rfl, hwa⟩; obtain rfl := hwa.symm)
    | (go_at_call 12; refine (nroot_any _).mono ?_; rintro e wb ⟨rfl, hbb⟩)
    | (go_at_call 13; refine (ncopy_any _).mono ?_; rintro e wc ⟨rfl, hwc⟩; obtain rfl := hwc.symm)
    | (go_at_call 14; refine (nset_any 0 (fun _ => 0) _ (by omega) (by omega)).mono ?_; rintro e wd ⟨rfl, hbd⟩)
    | (go_at_call 15; refine (nappend_any (fun _ => 0) _).mono ?_; rintro e we ⟨rfl, hbe⟩)
    | (go_at_call 16; refine (nhashes_any _).mono ?_; rintro e wf ⟨rfl, hwf⟩; obtain rfl := hwf.symm))
  go_ret
  have z4 := HB4.out.size
  have zb := hbb.size
  have zd := hbd.size
  exact ⟨rfl, HB4.out.trans ((hbb.mono z4).trans ((hbd.mono (by omega)).trans (hbe.mono (by omega))))⟩

end Go.Proofs.YtjimdkpppgjokaaDoor
