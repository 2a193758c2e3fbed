/-
  The reference: who leaves, in place.
-/

import Derived.Test.YtpnpmgeokicpjaaGreatDoorSlC
namespace Go.Proofs.YtpnpmgeokicpjaaGreatDoor

open Go.RowKit

set_option linter.unusedVariables false

set_option linter.unusedSimpArgs false

set_option maxRecDepth 20000

/-- Where a state's validators lie. -/
structure Vl (y g : Nat) (W : World) (X : VState) : Prop where
  c11 : W.cell? ⟨y, 721, none⟩ = some (.slice (some ⟨g, 0, none⟩) X.f11.n X.f11.c)
  row : ∃ C, W.heap[g]? = some (.cells C 60)
  at_ : ∀ k, k < X.f11.n → W.rangeAt g (86 * k) (celL (sValidator (X.f11.z k)))

theorem BK.vl {w V : World} {y g : Nat} {X : VState} (h : BK w y V X) (hg : X.f11.a = some ⟨g, 0, none⟩) : Vl y g V X := by
  have c := cS11 h.row
  rw [hg] at c
  have o := h.cpd.o11
  rw [hg] at o
  refine ⟨c, (own_row o).2, fun k hk => ?_⟩
  rcases h.inW.i11 with h0 | ⟨b, off, ea, _, hr⟩
  · omega
  · rw [hg] at ea
    cases ea
    have := hr k hk
    rw [Nat.zero_add] at this
    exact this

theorem ixV_i (W : World) (g n c k : Nat) (h : k < n) : (ixValidator (.slice (some ⟨g, 0, none⟩) n c) (.int .i64 k)).run Tryz.prog W = .ok (.pointer (some ⟨g, 86 * k, none⟩)) W := by
  have := ixValidator_run W g 0 n c k h
  rw [Nat.zero_add] at this
  exact this

theorem ixV_u (W : World) (g n c k : Nat) (h : k < n) : (ixValidator (.slice (some ⟨g, 0, none⟩) n c) (.int .u64 k)).run Tryz.prog W = .ok (.pointer (some ⟨g, 86 * k, none⟩)) W := by
  have := ixValidator_u W g 0 n c k h
  rw [Nat.zero_add] at this
  exact this

theorem val_e6 {w : World} {b o : Nat} {v : VValidator} (h : w.rangeAt b o (celL (sValidator v))) : w.cell? ⟨b, o + 84, none⟩ = some (.int .u64 v.f6) := h 84 _ rfl

theorem val_e7 {w : World} {b o : Nat} {v : VValidator} (h : w.rangeAt b o (celL (sValidator v))) : w.cell? ⟨b, o + 85, none⟩ = some (.int .u64 v.f7) := h 85 _ rfl

theorem val_e3 {w : World} {b o : Nat} {v : VValidator} (h : w.rangeAt b o (celL (sValidator v))) : w.cell? ⟨b, o + 81, none⟩ = some (.bool v.f3) := h 81 _ rfl

attribute [local go_sem ↓] lvState_eq svState_eq lvValidator_eq svValidator_eq ixValidator_eq

set_option maxHeartbeats 4000000 in
theorem rleaving_any (X : VState) (i y : Nat) (w V : World) (hb : BK w y V X) (hR : Rg X) (hi : i < X.f11.n) :
    Calls Tryz.prog 18 #[.pointer (some ⟨y, 0, none⟩), .int .u64 i] V fun e' V' => e' = .returned (.tuple #[]) ∧ BK w y V' (lvS X i) := by
  obtain ⟨g, hg⟩ := own_some hb.cpd.o11 (by omega)
  have hvl := hb.vl hg
  have c0 := hvl.c11
  have e0 := val_e6 (hvl.at_ i hi)
  have ix := fun W => ixV_u W g X.f11.n X.f11.c i hi
  by_cases hf : (X.f11.z i).f6 = far
  · have hE : lvS X i = valS X i (lvV (lvX X)) := if_pos hf
    have hep := repoch_any X V hR.ok.o2.1 hR.sl
    have ld := lvState_run hb.row
    have h2 := hR.ok.o2.1
    have h2' := hR.sl
    rw [hf] at e0
    unfold far at e0
    have HB := hid hb
    have HR := hid hR
    have HG := hid hg
    have HE := hid hE
    obtain ⟨E, eE⟩ : ∃ E, X.f2 / 4 = E := ⟨_, rfl⟩
    have hE0 : 0 ≤ E := by omega
    have hE1 : E < 274877906944 := by omega
    rw [eE] at hep
    have EE := hid eE
    have HEP := hid hep
    have k1 : IntKind.u64.wrap (E + 1) = E + 1 := by rw [IntKind.wrap_u64]; omega
    have k2 : IntKind.u64.wrap (E + 1 + 2) = E + 3 := by rw [IntKind.wrap_u64]; omega
    clear hb hvl hf hE hep hg eE h2 h2' hR
    go_enter Tryz.func18, Tryz.ntmps18
    go_upto_region 2 with (go_at_call 38; refine HEP.out.mono ?_; rintro e' w1 ⟨rfl, hb1⟩)
    have hB1 := HB.out.below hb1
    have hvl := hB1.vl HG.out
    have c1 := hvl.c11
    have cel := fun k (hk : k < X.f11.n) => val_e6 (hvl.at_ k hk)
    have ixi := fun W k (hk : k < X.f11.n) => ixV_i W g X.f11.n X.f11.c k hk
    have nb := HR.out.nb
    have hq : ∀ k, k ≤ X.f11.n → E + 3 ≤ lvQ X.f11.z E k ∧ lvQ X.f11.z E k < 18446744073709551616 := fun k hk => lvQ_bd X.f11.z E hE0 (by omega) k fun j hj => (HR.out.ok.o11 j (by omega)).2.2.2.2.2.2.1
    have HB1 := hid hB1
    have HC1 := hid c1
    have CEL := hid cel
    have IXI := hid ixi
    have HQ := hid hq
    have NB := hid nb
    have IX := hid ix
    have hlx : lvX X = if chuS X ≤ (lvN X.f11.z (lvQ X.f11.z E X.f11.n) X.f11.n : Int) then w64 (lvQ X.f11.z E X.f11.n + 1) else lvQ X.f11.z E X.f11.n := by rw [← EE.out]; rfl
    have HLX := hid hlx
    have hch := rchurn_any X w1 (HR.out.lk hB1.inW)
    have HCH := hid hch
    have ld1 := lvState_run hB1.row
    have LD1 := hid ld1
    have HI := hid hi
    obtain ⟨n, en⟩ : ∃ n, X.f11.n = n := ⟨_, rfl⟩
    obtain ⟨z, ez⟩ : ∃ z, X.f11.z = z := ⟨_, rfl⟩
    obtain ⟨C, eC⟩ : ∃ C, X.f11.c = C := ⟨_, rfl⟩
    rw [en, ez] at HLX HQ CEL
    rw [en, eC] at HC1 IXI IX
    rw [en] at NB HI
    have EN := hid en
    have EZ := hid ez
    have EC := hid eC
    clear hB1 hvl c1 cel ixi hq nb ix hlx hch ld1 hi e0 c0 ld hb1 en ez eC HEP k1 k2
    have c1 := HC1.out
    go_wp2
    go_loopw [4, 5] (fun q c wr => ∃ k : Nat, k ≤ n ∧ q = .int .u64 (lvQ z E k) ∧ c = .int .i64 k ∧ wr = w1) (fun _ c _ => n - (intOf c).toNat)
    case atStart => exact ⟨0, by omega, rfl, rfl, rfl⟩
    case round =>
      obtain ⟨k, hk, rfl, rfl, hw⟩ := hrel
      obtain rfl := hw.symm
      have hst : lvQ z E (k + 1) = if ¬ (z k).f6 = far ∧ lvQ z E k < (z k).f6 then (z k).f6 else lvQ z E k := rfl
      have HST := hid hst
      clear hst
      by_cases hkn : k < n
      · have k1 : (k : Int) < (n : Int) := by omega
        have kw : IntKind.i64.wrap ((k : Int) + 1) = (k : Int) + 1 := by have := NB.out; rw [IntKind.wrap_i64]; omega
        have ck := CEL.out k hkn
        have ik := fun W => IXI.out W k hkn
        obtain ⟨F, eF⟩ : ∃ F, (z k).f6 = F := ⟨_, rfl⟩
        obtain ⟨Q, eQ⟩ : ∃ Q, lvQ z E k = Q := ⟨_, rfl⟩
        rw [eF] at ck HST
        rw [eQ] at HST ⊢
        clear eF eQ
        unfold far at HST
        by_cases hF : F = 18446744073709551615
        · subst hF
          go_wp2
          go_roundw
          case rel => exact ⟨k + 1, by omega, by rw [HST.out, if_neg (fun h => h.1 rfl)], by go_num, trivial⟩
          case measure => simp [intOf]; omega
        · have hF2 : (F != 18446744073709551615) = true := by simp [hF]
          by_cases hG : Q < F
          · go_wp2
            go_roundw
            case rel => exact ⟨k + 1, by omega, by rw [HST.out, if_pos ⟨hF, hG⟩], by go_num, trivial⟩
            case measure => simp [intOf]; omega
          · have hG2 : F ≤ Q := by omega
            go_wp2
            go_roundw
            case rel => exact ⟨k + 1, by omega, by rw [HST.out, if_neg (fun h => hG h.2)], by go_num, trivial⟩
            case measure => simp [intOf]; omega
      · obtain rfl : k = n := by omega
        have kN : ¬ (k : Int) < (k : Int) := by omega
        obtain ⟨Q, eQ⟩ : ∃ Q, lvQ z E k = Q := ⟨_, rfl⟩
        have hQb := HQ.out k (Nat.le_refl _)
        rw [eQ] at hQb HLX ⊢
        clear HST eQ HQ
        have HQB := hid hQb
        clear hQb
        go_wp2
        go_loopw [7, 8] (fun q c wr => ∃ m : Nat, m ≤ k ∧ q = .int .u64 (lvN z Q m : Nat) ∧ c = .int .i64 m ∧ wr = w1) (fun _ c _ => k - (intOf c).toNat)
        case atStart => exact ⟨0, by omega, rfl, rfl, rfl⟩
        case round =>
          obtain ⟨m, hm, rfl, rfl, hw⟩ := hrel
          obtain rfl := hw.symm
          have hst : lvN z Q (m + 1) = lvN z Q m + (if (z m).f6 = Q then 1 else 0) := rfl
          have hle := lvN_le z Q m
          have HST := hid hst
          clear hst
          by_cases hmn : m < k
          · have k1 : (m : Int) < (k : Int) := by omega
            have kw : IntKind.i64.wrap ((m : Int) + 1) = (m : Int) + 1 := by have := NB.out; rw [IntKind.wrap_i64]; omega
            have ck := CEL.out m hmn
            have ik := fun W => IXI.out W m hmn
            obtain ⟨F, eF⟩ : ∃ F, (z m).f6 = F := ⟨_, rfl⟩
            obtain ⟨N, eN⟩ : ∃ N, lvN z Q m = N := ⟨_, rfl⟩
            rw [eF] at ck HST
            rw [eN] at HST hle ⊢
            have kw2 : IntKind.u64.wrap ((N : Int) + 1) = (N : Int) + 1 := by have := NB.out; rw [IntKind.wrap_u64]; omega
            clear eF eN hle
            by_cases hF : F = Q
            · subst hF
              go_wp2
              go_roundw
              case rel => exact ⟨m + 1, by omega, by rw [HST.out, if_pos rfl]; go_num, by go_num, trivial⟩
              case measure => simp [intOf]; omega
            · have hF2 : (F == Q) = false := by simp [hF]
              go_wp2
              go_roundw
              case rel => exact ⟨m + 1, by omega, by rw [HST.out, if_neg hF]; go_num, by go_num, trivial⟩
              case measure => simp [intOf]; omega
          · obtain rfl : m = k := by omega
            have kM : ¬ (m : Int) < (m : Int) := by omega
            obtain ⟨N, eN⟩ : ∃ N, lvN z Q m = N := ⟨_, rfl⟩
            obtain ⟨CH, eCH⟩ : ∃ CH, chuS X = CH := ⟨_, rfl⟩
            obtain ⟨L, eL⟩ : ∃ L, lvX X = L := ⟨_, rfl⟩
            rw [eN] at HLX ⊢
            rw [eCH] at HLX HCH
            rw [eL] at HLX HE
            clear HST eN eCH hle
            have ld1 := LD1.out
            by_cases hC : CH ≤ (N : Int)
            · have kq : IntKind.u64.wrap (Q + 1) = L := by have := HLX.out; rw [if_pos hC] at this; exact this.symm
              have kl : IntKind.u64.wrap (L + 2) = w64 (L + 2) := rfl
              go_upto_region 16 with (go_at_call 39; refine HCH.out.mono ?_; rintro e' w2 ⟨rfl, hb2⟩)
              have hB2 := HB1.out.below hb2
              have hv2 := hB2.vl HG.out
              have c2 := hv2.c11
              rw [EN.out, EC.out] at c2
              have ci := val_e6 (hv2.at_ i (by rw [EN.out]; exact HI.out))
              obtain ⟨RC, hRC⟩ := hv2.row
              have fi := row_frozen hRC (86 * i + 84)
              have ixi := fun W => IX.out W
              have hB3 := hB2.val (fun v => { v with f6 := L }) (.int .u64 L) (val_put6 _ L) (by omega) HG.out (by rw [EN.out]; exact HI.out)
              have HB3 := hid hB3
              clear hB2 hv2 hRC hB3 hb2 c1 ld1
              go_upto_region 17 with fail
              obtain ⟨W3, hW3⟩ : ∃ W, w2.setCell ⟨g, 86 * i + 84, none⟩ (.int .u64 L) = W := ⟨_, rfl⟩
              rw [hW3] at HB3 ⊢
              clear hW3 c2 ci fi
              have hv3 := HB3.out.vl (X := valS X i _) HG.out
              have c3 : W3.cell? ⟨y, 721, none⟩ = some (.slice (some ⟨g, 0, none⟩) m C) := by
                have := hv3.c11
                rw [show (valS X i fun v => { v with f6 := L }).f11.n = X.f11.n from rfl, show (valS X i fun v => { v with f6 := L }).f11.c = X.f11.c from rfl, EN.out, EC.out] at this
                exact this
              have hi3 : i < (valS X i fun v => { v with f6 := L }).f11.n := by show i < X.f11.n; rw [EN.out]; exact HI.out
              have ci := val_e7 (hv3.at_ i hi3)
              obtain ⟨RC, hRC⟩ := hv3.row
              have fi := row_frozen hRC (86 * i + 85)
              have hB4 := HB3.out.val (fun v => { v with f7 := w64 (L + 2) }) (.int .u64 (w64 (L + 2))) (val_put7 _ _) (by omega) HG.out hi3
              rw [valS_valS] at hB4
              have HB4 := hid hB4
              clear hv3 hRC hB4 HB3 hi3
              go_wp2
              go_end0
              refine ⟨rfl, ?_⟩
              rw [HE.out]
              exact HB4.out
            · have kq : Q = L := by have := HLX.out; rw [if_neg hC] at this; exact this.symm
              subst kq
              have kl : IntKind.u64.wrap (Q + 2) = w64 (Q + 2) := rfl
              go_upto_region 16 with (go_at_call 39; refine HCH.out.mono ?_; rintro e' w2 ⟨rfl, hb2⟩)
              have hB2 := HB1.out.below hb2
              have hv2 := hB2.vl HG.out
              have c2 := hv2.c11
              rw [EN.out, EC.out] at c2
              have ci := val_e6 (hv2.at_ i (by rw [EN.out]; exact HI.out))
              obtain ⟨RC, hRC⟩ := hv2.row
              have fi := row_frozen hRC (86 * i + 84)
              have ixi := fun W => IX.out W
              have hB3 := hB2.val (fun v => { v with f6 := Q }) (.int .u64 Q) (val_put6 _ Q) (by omega) HG.out (by rw [EN.out]; exact HI.out)
              have HB3 := hid hB3
              clear hB2 hv2 hRC hB3 hb2 c1 ld1
              go_upto_region 17 with fail
              obtain ⟨W3, hW3⟩ : ∃ W, w2.setCell ⟨g, 86 * i + 84, none⟩ (.int .u64 Q) = W := ⟨_, rfl⟩
              rw [hW3] at HB3 ⊢
              clear hW3 c2 ci fi
              have hv3 := HB3.out.vl (X := valS X i _) HG.out
              have c3 : W3.cell? ⟨y, 721, none⟩ = some (.slice (some ⟨g, 0, none⟩) m C) := by
                have := hv3.c11
                rw [show (valS X i fun v => { v with f6 := Q }).f11.n = X.f11.n from rfl, show (valS X i fun v => { v with f6 := Q }).f11.c = X.f11.c from rfl, EN.out, EC.out] at this
                exact this
              have hi3 : i < (valS X i fun v => { v with f6 := Q }).f11.n := by show i < X.f11.n; rw [EN.out]; exact HI.out
              have ci := val_e7 (hv3.at_ i hi3)
              obtain ⟨RC, hRC⟩ := hv3.row
              have fi := row_frozen hRC (86 * i + 85)
              have hB4 := HB3.out.val (fun v => { v with f7 := w64 (Q + 2) }) (.int .u64 (w64 (Q + 2))) (val_put7 _ _) (by omega) HG.out hi3
              rw [valS_valS] at hB4
              have HB4 := hid hB4
              clear hv3 hRC hB4 HB3 hi3
              go_wp2
              go_end0
              refine ⟨rfl, ?_⟩
              rw [HE.out]
              exact HB4.out
  · have hE : lvS X i = X := if_neg hf
    have HB := hid hb
    obtain ⟨F, eF⟩ : ∃ F, (X.f11.z i).f6 = F := ⟨_, rfl⟩
    rw [eF] at hf e0
    unfold far at hf
    have hf2 : (F != 18446744073709551615) = true := by simp [hf]
    rw [hE]
    clear hb hvl hE hR eF hg
    generalize X.f11.n = n at *
    generalize X.f11.c = C at *
    go_enter Tryz.func18, Tryz.ntmps18
    go_wp2
    exact bodyPost_ret (results_none rfl _ _ _) rfl ⟨rfl, HB.out⟩

end Go.Proofs.YtpnpmgeokicpjaaGreatDoor
