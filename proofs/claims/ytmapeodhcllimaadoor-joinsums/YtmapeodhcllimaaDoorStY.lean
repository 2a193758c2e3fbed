/-
  Whether a state is right, by the reference.
-/

import Derived.Test.YtmapeodhcllimaaDoorStD
import Derived.Test.YtmapeodhcllimaaDoorQB
namespace Go.Proofs.YtmapeodhcllimaaDoor

open Go.RowKit

set_option linter.unusedVariables false

set_option linter.unusedSimpArgs false

set_option maxRecDepth 20000

/-- What makes a state right. -/
structure RtO (x : VState) : Prop where
  c0 : x.f11.n ≤ 65536
  c1 : x.f12.n = x.f11.n
  c2 : x.f15.n = x.f11.n
  c3 : x.f16.n = x.f11.n
  c4 : x.f21.n = x.f11.n
  c5 : x.f7.n ≤ 1024
  c6 : x.f9.n ≤ 8
  c7 : x.f2 < 1099511627776
  c8 : x.f10 < 1099511627776
  c9 : x.f4.f0 ≤ x.f2
  c10 : x.f18.f0 ≤ x.f2 / 4
  c11 : x.f19.f0 ≤ x.f2 / 4
  c12 : x.f20.f0 ≤ x.f2 / 4
  cv : ∀ j, j < x.f11.n → vldB (x.f11.z j) = true
  cs : ∀ j, j < x.f11.n → x.f21.z j ≤ 1099511627776
  cb : togB x.f12.z x.f12.n 144115188075855872 = true
  cl : togB x.f14 8 144115188075855872 = true

theorem rightB_out {x : VState} (h : rightB x = true) : RtO x := by
  unfold rightB fitB lensB timB valsB scoB at h
  simp only [Bool.and_eq_true, decide_eq_true_eq, List.all_eq_true, List.mem_range] at h
  obtain ⟨⟨⟨⟨⟨⟨⟨f1, f2⟩, f3⟩, f4⟩, f5⟩, f6⟩, f7⟩, ⟨⟨⟨⟨g1, g2⟩, g3⟩, g4⟩, ⟨⟨⟨⟨⟨t1, t2⟩, t3⟩, t4⟩, t5⟩, d, v, s, b, l⟩⟩⟩ := h
  exact ⟨by omega, by omega, by omega, by omega, by omega, by omega, by omega, t1, d, t2, t3, t4, t5, v, fun j hj => s j (by omega), b, l⟩

attribute [local go_sem ↓] lvState_eq svState_eq bdState_eq lvValidator_eq svValidator_eq ixValidator_eq ixU_eq

end Go.Proofs.YtmapeodhcllimaaDoor
