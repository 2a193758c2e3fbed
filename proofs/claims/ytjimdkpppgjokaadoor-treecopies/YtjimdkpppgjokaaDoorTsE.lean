/-
  What reckon leaves.
  What Root answers and leaves.
  Trees between their calls: what each call answers, and what it leaves.
-/
import Derived.Test.YtjimdkpppgjokaaDoorTsD
namespace Go.Proofs.YtjimdkpppgjokaaDoor
open Go.RowKit
set_option linter.unusedVariables false
set_option linter.unusedSimpArgs false

attribute [local go_sem ↓] sv24_eq lv24_eq ix22_eq slr_eq bd27_eq bs22_eq bd58_eq mk55_eq ix56_eq ix55_eq ix51_eq ix48_eq

theorem Tou.weak {LB LB' : Nat → Nat} {w a b : World} (h : Tou LB w a) (k : Tou LB' a b) (hl : ∀ i, i < w.heap.size → LB i = 0 → LB' i = 0) : Tou LB w b :=
  ⟨k.os.trans h.os, k.tape.trans h.tape, k.output.trans h.output, Nat.le_trans h.size k.size, fun i hi hn => (k.block i (Nat.lt_of_lt_of_le hi h.size) (hl i hi hn)).trans (h.block i hi hn)⟩
theorem own_tou {w w' : World} {LB : Nat → Nat} {B s : Nat} {e : TypeId} {v : Value} {n : Nat} {xs : List Value} (h : w.ownsRow B e s v n xs) (ht : Tou LB w w') (hl : Lab LB 0 v) : w'.ownsRow B e s v n xs := by
  refine ⟨h.1, ?_⟩
  rcases h.2 with h1 | ⟨g, cap, cur, h1, h2, h3, h4⟩
  · exact .inl h1
  · exact .inr ⟨g, cap, cur, h1, h2, (ht.block g (Array.getElem?_eq_some_iff.1 h3).1 (hl g (by rw [h1]; rfl))).trans h3, h4⟩
/-- What stands ahead of level d. -/
def Lvl (w : World) (LB : Nat → Nat) (t n D R : Nat) (ln : Nat → Nat) (rf : Nat → Nat → Int) (cn : Nat) (cs : Nat → Int) (iv : Value) (ib : Nat → Bool) (hs : Int) (d : Nat) (v : Value) (W : World) : Prop :=
  ∃ LBd rvd lnd rfd hsd zs, Tou LB w W ∧ (∀ k, k < w.heap.size → LB k = 0 → LBd k = 0) ∧ Lab LB 3 v ∧ PL W LBd v zs ∧ Tre W LBd t n D R rvd lnd rfd (.slice none 0 0) 0 cs iv (fun _ => false) hsd ∧ zs.length ≤ cn ∧ Plc ib (ln 0) (d - 1) zs ∧ (∀ e, e < d → e ≤ D → Rgt (rf 0) (ln 0) e (lnd e) (rfd e)) ∧ (∀ e, d ≤ e → e ≤ D → lnd e = ln e ∧ rfd e = rf e) ∧ lnd 0 = ln 0 ∧ rfd 0 = rf 0 ∧ hs ≤ hsd ∧ hsd ≤ hs + (((d - 1) * cn : Nat) : Int) ∧ hsd + (up (ln 0) (d - 1) : Int) ≤ hs + ((ln 0 + (d - 1) : Nat) : Int)

/-- One level: above, then reckonRow. -/
theorem Lvl.step {w : World} {LB : Nat → Nat} {t n D R : Nat} {ln : Nat → Nat} {rf : Nat → Nat → Int} {cn : Nat} {cs : Nat → Int} {iv : Value} {ib : Nat → Bool} {hs : Int} {N d : Nat} {v : Value} {W : World} (h : Lvl w LB t n D R ln rf cn cs iv ib hs d v W) (hi : Inv n D ln rf cn cs ib N) (hS : Sh w) (hS0 : LB 0 = 0) (hS1 : LB 1 = 0) (hn : n ≤ 1073741824) (hcn : cn ≤ 1073741824) (hd1 : 1 ≤ d) (hd : d ≤ D) (hD : D ≤ 30) (hh0 : 0 ≤ hs) (hh1 : hs ≤ 576460752303423488) :
    Calls Tryd.prog 43 #[v] W fun e w3 => ∃ v', e = .returned v' ∧ Calls Tryd.prog 44 #[.pointer (some ⟨t, 0, none⟩), .int .i64 d, v'] w3 fun e w4 => e = .returned (.tuple #[]) ∧ Lvl w LB t n D R ln rf cn cs iv ib hs (d + 1) v' w4 := by
  obtain ⟨LBd, rvd, lnd, rfd, hsd, zs, q1, q2, q3, q4, q5, q6, q7, q8, q9, q10, q11, q12, q13, q14⟩ := h
  have hlim := hi.lim
  have hmul : (d - 1) * cn ≤ 30 * 1073741824 := Nat.mul_le_mul (by omega) hcn
  have hmul2 : d * cn = (d - 1) * cn + cn := by
    obtain ⟨k, rfl⟩ : ∃ k, d = k + 1 := ⟨d - 1, by omega⟩
    rw [Nat.succ_mul, Nat.add_sub_cancel]
  have hup2 : 2 * up (ln 0) d ≤ up (ln 0) (d - 1) + 1 := by
    obtain ⟨k, rfl⟩ : ∃ k, d = k + 1 := ⟨d - 1, by omega⟩
    rw [Nat.add_sub_cancel]
    show 2 * ((up (ln 0) k + 1) / 2) ≤ _
    omega
  refine (above_pl q4 (by omega) (fun x hx => by
    have h1 := q7.bd x hx
    have h2 := up_le (ln 0) (d - 1)
    omega)).mono ?_
  rintro e w3 ⟨v', rfl, p1, p2, p3⟩
  refine ⟨v', rfl, ?_⟩
  have hT3 := q5.aside q4.2 p3
  have tou3 : Tou LB w w3 := q1.trans (p3.tou q3 (by omega))
  have hz0 : LBd 0 = 0 := q2 _ hS.1.1 hS0
  have hz1 : LBd 1 = 0 := q2 _ hS.2.1 hS1
  have hP : Plc ib (ln 0) d (Lib.compact (zs.map (· / 2))) := by
    have := q7.next
    rw [show d - 1 + 1 = d by omega] at this
    exact this
  have hcl := Lib.compact_length_le (zs.map (· / 2))
  rw [List.length_map] at hcl
  have hcu := hP.len
  have h9 := q9 d (Nat.le_refl _) hd
  have hb0 : ByB (rf 0) (32 * ln 0) := hi.byt 0 (Nat.zero_le _)
  have hlv := level_pl hT3 d (d - 1) hd (by omega) (hS.tou tou3 hS0 hS1) hz0 hz1 (rf 0) (ln 0) N hb0 (by omega) hi.old (q8 (d - 1) (by omega) (by omega)) (by rw [h9.1]; exact hi.len d hd1 hd) v' _ p1 hP.1 (fun x hx => hP.bd x hx) (fun i h1 h2 => by
    obtain ⟨m, m1, m2, m3⟩ := node_new N (ln 0) d i h1 h2
    exact (hP.2 _).2 ⟨m, m2, hi.new m m1 m2, by rw [m3]⟩) (fun i h1 h2 j hj => by
    rw [h9.2]
    refine hi.row d hd1 hd i (by rw [hi.len d hd1 hd]; exact h1) (fun m m1 m2 => ?_) j hj
    cases hb : ib m with
    | false => rfl
    | true => exact absurd ((hP.2 _).2 ⟨m, m1, hb, by rw [m2]⟩) h2) (by omega) (by omega)
  refine hlv.mono ?_
  rintro e w4 ⟨rfl, LB', rv', F', r1, r2, r3, r4⟩
  have hs3 := tou3.size
  refine ⟨rfl, LB', rv', _, _, _, Lib.compact (zs.map (· / 2)), tou3.weak r2 q2, fun k hk hl => (r1 k (by omega)).trans (q2 k hk hl), fun g hg => q3 g (by rw [← p2]; exact hg), ?_, r3, by omega, by rw [show d + 1 - 1 = d by omega]; exact hP, ?_, ?_, ?_, ?_, by omega, ?_, ?_⟩
  · refine ⟨?_, fun g hg => (r1 g (p1.1.lt g hg).2).trans (p1.2 g hg)⟩
    exact own_tou p1.1 r2 p1.2
  · intro e he1 he2
    by_cases hed : e = d
    · subst hed
      rw [upd_at, upd_at]
      exact r4
    · rw [upd_ne _ _ _ _ hed, upd_ne _ _ _ _ hed]
      exact q8 e (by omega) he2
  · intro e he1 he2
    rw [upd_ne _ _ _ _ (by omega), upd_ne _ _ _ _ (by omega)]
    exact q9 e (by omega) he2
  · rw [upd_ne _ _ _ _ (by omega)]; exact q10
  · rw [upd_ne _ _ _ _ (by omega)]; exact q11
  · rw [show d + 1 - 1 = d by omega, hmul2]
    generalize (d - 1) * cn = M at q13 ⊢
    omega
  · rw [show d + 1 - 1 = d by omega]
    omega

set_option maxRecDepth 20000 in
set_option maxHeartbeats 4000000 in
theorem treckon {w : World} {LB : Nat → Nat} {t n D R : Nat} {rv : Nat → Value} {ln : Nat → Nat} {rf : Nat → Nat → Int} {cv : Value} {cn : Nat} {cs : Nat → Int} {iv : Value} {ib : Nat → Bool} {hs : Int} {N : Nat} (h : Tre w LB t n D R rv ln rf cv cn cs iv ib hs) (hi : Inv n D ln rf cn cs ib N) (hS : Sh w) (hS0 : LB 0 = 0) (hS1 : LB 1 = 0) (hn : n ≤ 1073741824) (hcn : cn ≤ 1073741824) (hh0 : 0 ≤ hs) (hh1 : hs ≤ 576460752303423488) :
    Calls Tryd.prog 26 #[.pointer (some ⟨t, 0, none⟩)] w fun e w' => e = .returned (.tuple #[]) ∧ ∃ LB' rv' ln' rf' hs', Tou LB w w' ∧ (∀ k, k < w.heap.size → LB k = 0 → LB' k = 0) ∧ Tre w' LB' t n D R rv' ln' rf' (.slice none 0 0) 0 cs iv (fun _ => false) hs' ∧ ln' 0 = ln 0 ∧ rf' 0 = rf 0 ∧ (∀ d, d ≤ D → Rgt (rf 0) (ln 0) d (ln' d) (rf' d)) ∧ hs ≤ hs' ∧ hs' ≤ hs + ((D * cn : Nat) : Int) ∧ hs' ≤ hs + ((ln 0 + D : Nat) : Int) := by
  obtain ⟨a, cap, rfl⟩ := row_form h.chg.1
  have c0 := row_cell h.blk 994
  rw [trA_994] at c0
  have HS := hid hS
  have HI := hid hi
  have HT0 := hid h
  have hln : ln 0 ≤ 1073741824 := Nat.le_trans hi.lim hn
  clear hS hi h
  go_enter Tryd.func26, Tryd.ntmps26
  go_wp2
  go_loopw [11] (fun i wr => ∃ k : Nat, k ≤ cn ∧ i = .int .i64 k ∧ Tou LB w wr ∧ Tre wr LB t n D R rv ln rf (.slice a cn cap) cn cs iv (ibk ib cs k) hs) (fun i _ => cn - (intOf i).toNat)
  case atStart => exact ⟨0, by omega, rfl, Tou.refl _ _, HT0.out⟩
  case round =>
    clear HT0 c0
    obtain ⟨k, hk, rfl, tou, hT⟩ := hrel
    by_cases hlt : k < cn
    · have b3 : decide (k < cn) = true := by simp; omega
      obtain ⟨I, e1, e2, e3⟩ := HI.out.flag k hlt
      obtain ⟨gc, cap', hvc⟩ := owns_pos hT.chg.1 (by omega)
      cases hvc
      have c1 := hT.chg.1.cellAt k (by omega)
      rw [il_get _ _ _ hlt, e1] at c1
      have ixp := fun W => ix48_run W gc 0 cn cap k hlt
      rw [Nat.zero_add] at ixp
      obtain ⟨g, cap2, hv, c2, f2, hlg, gr, hT2⟩ := hT.flag I e2 false
      have c3 := row_cell hT.blk 995
      rw [trA_995, hv] at c3
      have ixb := fun W => ix51_run W g (ln 0) cap2 I e2
      have hIb : I ≤ 1073741824 := by omega
      have FIN : Hid (Tou LB w (wr.setCell ⟨g, I, none⟩ (.bool false)) ∧ Tre (wr.setCell ⟨g, I, none⟩ (.bool false)) LB t n D R rv ln rf (.slice (some ⟨gc, 0, none⟩) cn cap) cn cs iv (ibk ib cs (k + 1)) hs) := by
        refine ⟨tou.trans (Tou.ofGrown gr (by rw [hlg]; omega)), ?_⟩
        have ee : ibk ib cs (k + 1) = upb (ibk ib cs k) I false := by
          show upb (ibk ib cs k) (cs k).toNat false = _
          rw [e1, Int.toNat_natCast]
        rw [ee]
        exact hT2
      clear tou hT hT2 gr hv e1
      generalize hL : ln 0 = L at c3 ixb
      clear hL
      generalize ibk ib cs k I = bb at c2
      go_wp2
      go_roundw
      case rel => exact ⟨k + 1, by omega, by go_num, FIN.out⟩
      case measure => simp [intOf]; omega
    · obtain rfl : cn = k := by omega
      have b3 : decide (cn < cn) = false := by simp
      have hT' : Tre wr LB t n D R rv ln rf (.slice a cn cap) cn cs iv (fun _ => false) hs := ⟨hT.lt, hT.lR, hT.dep, hT.blk, hT.rws, hT.row, hT.chg, hT.isc.congr (fun m hm => HI.out.off m hm)⟩
      have hdep := hT.dep
      obtain ⟨gr, hO⟩ := hT'.out
      have c4 := row_cell hT.blk 994
      rw [trA_994] at c4
      have f4 := row_frozen hT.blk 994
      have hl3 : Lab LB 3 (.slice a cn cap) := hT.chg.2
      have hl0 : Lab (off3 LB) 0 (.slice a cn cap) := fun g hg => off3_is LB g (hl3 g hg)
      have lt := hT.lt
      have hPL : PL (wr.setCell ⟨t, 994, none⟩ (.slice none 0 0)) (off3 LB) (.slice a cn cap) (csl cs cn) := by
        refine ⟨?_, hl0⟩
        rw [csl_len, csl_iml]
        exact own_keep hT.chg.1 gr (fun b hb e => by
          cases e
          have := hl3 t hb
          omega)
      have tou1 : Tou LB w (wr.setCell ⟨t, 994, none⟩ (.slice none 0 0)) := tou.trans (Tou.ofGrown gr (by rw [lt]; omega))
      have hsort := sort_pl hPL (by rw [csl_len]; omega)
      have hfin : ∀ w2, PL w2 (off3 LB) (.slice a cn cap) (srt (csl cs cn)) → Aside (.slice a cn cap) (wr.setCell ⟨t, 994, none⟩ (.slice none 0 0)) w2 → Lvl w LB t n D R ln rf cn cs iv ib hs 1 (.slice a cn cap) w2 := fun w2 k1 k2 => by
        refine ⟨off3 LB, rv, ln, rf, hs, srt (csl cs cn), tou1.trans (k2.tou hl3 (by omega)), fun k _ hk => ?_, hl3, k1, hO.aside hl0 k2, by rw [srt_len, csl_len]; exact Nat.le_refl _, HI.out.plc, fun e he1 he2 => ?_, fun e he1 he2 => ⟨rfl, rfl⟩, rfl, rfl, Int.le_refl _, by rw [Nat.sub_self, Nat.zero_mul]; omega, by rw [Nat.sub_self]; show hs + ((ln 0 : Nat) : Int) ≤ _; omega⟩
        · unfold off3
          rw [hk]
          rfl
        · have e0 : e = 0 := by omega
          subst e0
          exact ⟨rfl, fun i hi j _ => row0_nd (rf 0) (ln 0) i hi j⟩
      obtain ⟨W1, hW1⟩ : ∃ W, wr.setCell ⟨t, 994, none⟩ (.slice none 0 0) = W := ⟨_, rfl⟩
      rw [hW1] at hsort hfin
      have HSORT := hid hsort
      have HFIN := hid hfin
      clear hT hT' gr hO hl3 hl0 lt hPL tou1 hsort hfin tou
      go_wp2_with (go_at_call 42; refine HSORT.out.mono ?_; rintro e w2 ⟨rfl, k1, k2⟩; have HL := hid (HFIN.out w2 k1 k2); clear k1 k2)
      clear HSORT HFIN c4 f4 hW1
      go_loopw [4, 5] (fun v dv W => ∃ d : Nat, 1 ≤ d ∧ d ≤ D + 1 ∧ dv = .int .i64 d ∧ Lvl w LB t n D R ln rf cn cs iv ib hs d v W) (fun _ dv _ => D + 1 - (intOf dv).toNat)
      case atStart => exact ⟨1, by omega, by omega, rfl, HL.out⟩
      case round =>
        clear HL
        obtain ⟨d, hd1, hd2, rfl, hlv⟩ := hrel
        have c1 : ∃ LBd rvd lnd rfd hsd, Tre wr LBd t n D R rvd lnd rfd (.slice none 0 0) 0 cs iv (fun _ => false) hsd := by
          obtain ⟨LBd, rvd, lnd, rfd, hsd, zs, q1, q2, q3, q4, q5, _⟩ := hlv
          exact ⟨_, _, _, _, _, q5⟩
        obtain ⟨LBd, rvd, lnd, rfd, hsd, hTd⟩ := c1
        have c2 := row_cell hTd.blk 1
        rw [trA_1] at c2
        clear hTd
        by_cases hlt2 : d < D + 1
        · have b4 : decide (d < D + 1) = true := by simp; omega
          have b5 : decide ((d : Int) < (D : Int) + 1) = true := by simp; omega
          have hst := hlv.step HI.out HS.out hS0 hS1 hn hcn hd1 (by omega) hdep hh0 hh1
          have HST := hid hst
          clear hst hlv
          go_wp2_with (first
            | (go_at_call 43; refine HST.out.mono ?_; rintro e w3 ⟨v', rfl, hrr⟩; have HRR := hid hrr; clear hrr)
            | (go_at_call 44; refine HRR.out.mono ?_; rintro e w4 ⟨rfl, hl4⟩))
          go_roundw
          case rel => exact ⟨d + 1, by omega, by omega, by go_num, hl4⟩
          case measure => simp [intOf]; omega
        · obtain rfl : d = D + 1 := by omega
          have b4 : decide (D + 1 < D + 1) = false := by simp
          have b5 : decide ((D : Int) + 1 < (D : Int) + 1) = false := by simp
          have HLV := hid hlv
          clear hlv
          go_wp2
          refine bodyPost_end (results_none rfl _ _ _) rfl ?_
          obtain ⟨LBd, rvd, lnd, rfd, hsd, zs, q1, q2, q3, q4, q5, q6, q7, q8, q9, q10, q11, q12, q13, q14⟩ := HLV.out
          rw [show D + 1 - 1 = D by omega] at q13 q14
          exact ⟨rfl, LBd, rvd, lnd, rfd, hsd, q1, q2, q5, q10, q11, fun d hd => q8 d (by omega) hd, q12, q13, by omega⟩

end Go.Proofs.YtjimdkpppgjokaaDoor

namespace Go.Proofs.YtjimdkpppgjokaaDoor
open Go.RowKit
set_option linter.unusedVariables false
set_option linter.unusedSimpArgs false

/-- New blocks bear no label. -/
theorem Tre.fresh {w : World} {LB : Nat → Nat} {t n D R : Nat} {rv : Nat → Value} {ln : Nat → Nat} {rf : Nat → Nat → Int} {cv : Value} {cn : Nat} {cs : Nat → Int} {iv : Value} {ib : Nat → Bool} {hs : Int} (h : Tre w LB t n D R rv ln rf cv cn cs iv ib hs) : Tre w (lab' w LB 0) t n D R rv ln rf cv cn cs iv ib hs :=
  ⟨(lab'_old _ _ _ _ (Array.getElem?_eq_some_iff.1 h.blk).1).trans h.lt, (lab'_old _ _ _ _ (Array.getElem?_eq_some_iff.1 h.rws).1).trans h.lR, h.dep, h.blk, h.rws, fun d hd => ⟨(h.row d hd).1, Lab.more (h.row d hd).1 (h.row d hd).2 0⟩, ⟨h.chg.1, Lab.more h.chg.1 h.chg.2 0⟩, ⟨h.isc.1, Lab.more h.isc.1 h.isc.2 0⟩⟩

/-- Behind reckon the tree remembers all. -/
theorem Inv.done {n D : Nat} {ln : Nat → Nat} {rf : Nat → Nat → Int} {cn : Nat} {cs : Nat → Int} {ib : Nat → Bool} {N : Nat} (h : Inv n D ln rf cn cs ib N) {ln' : Nat → Nat} {rf' : Nat → Nat → Int} (h0 : ln' 0 = ln 0) (h1 : rf' 0 = rf 0) (h2 : ∀ d, d ≤ D → Rgt (rf 0) (ln 0) d (ln' d) (rf' d)) : Inv n D ln' rf' 0 cs (fun _ => false) (ln 0) := by
  refine ⟨?_, ?_, fun k hk => absurd hk (by omega), fun i _ hb => absurd hb (by simp), fun k l hk => absurd hk (by omega), fun i h3 h4 => ?_, fun d _ hd => (h2 d hd).1, fun d _ hd i hi _ j hj => ?_, fun d hd => (h2 d hd).byt (h.byt 0 (Nat.zero_le _))⟩
  · rw [h0]; exact h.lim
  · rw [h0]; exact Nat.le_refl _
  · rw [h0] at h4
    omega
  · rw [h0, h1]
    refine (h2 d hd).2 i ?_ j hj
    rw [← (h2 d hd).1]
    exact hi

attribute [local go_sem ↓] sv24_eq lv24_eq ix22_eq slr_eq bd27_eq bs22_eq bd58_eq mk55_eq ix56_eq ix55_eq ix51_eq ix48_eq

set_option maxRecDepth 20000 in
set_option maxHeartbeats 2000000 in
theorem troot {w : World} {LB : Nat → Nat} {t n D R : Nat} {rv : Nat → Value} {ln : Nat → Nat} {rf : Nat → Nat → Int} {cv : Value} {cn : Nat} {cs : Nat → Int} {iv : Value} {ib : Nat → Bool} {hs : Int} {N : Nat} (h : Tre w LB t n D R rv ln rf cv cn cs iv ib hs) (hi : Inv n D ln rf cn cs ib N) (hS : Sh w) (hS0 : LB 0 = 0) (hS1 : LB 1 = 0) (hn : n ≤ 1073741824) (hcn : cn ≤ 1073741824) (hh0 : 0 ≤ hs) (hh1 : hs ≤ 576460752303423488) :
    Calls Tryd.prog 12 #[.pointer (some ⟨t, 0, none⟩)] w fun e w' => e = .returned (.agg (vs .u8 32 (nd (rf 0) (ln 0) D 0))) ∧ ∃ LB' rv' ln' rf' hs', Tou LB w w' ∧ (∀ k, k < w.heap.size → LB k = 0 → LB' k = 0) ∧ Tre w' LB' t n D R rv' ln' rf' (.slice none 0 0) 0 cs iv (fun _ => false) hs' ∧ ln' 0 = ln 0 ∧ rf' 0 = rf 0 ∧ (∀ d, d ≤ D → Rgt (rf 0) (ln 0) d (ln' d) (rf' d)) ∧ hs ≤ hs' ∧ hs' ≤ hs + ((D * cn : Nat) : Int) ∧ hs' ≤ hs + ((ln 0 + D : Nat) : Int) := by
  have z := zero_root
  have hB0 : Below w.heap.size w (w.alloc (.cells (vs .u8 32 fun _ => 0) 33)) := (Below.refl _ _).alloc (Nat.le_refl _) _
  have hy : (w.alloc (.cells (vs .u8 32 fun _ => 0) 33)).heap[w.heap.size]? = some (.cells (vs .u8 32 fun _ => 0) 33) := heap_new rfl
  have hz : (w.alloc (.cells (vs .u8 32 fun _ => 0) 33)).heap.size = w.heap.size + 1 := by simp
  obtain ⟨W0, hW0⟩ : ∃ W, w.alloc (.cells (vs .u8 32 fun _ => 0) 33) = W := ⟨_, rfl⟩
  rw [hW0] at hB0 hy hz
  have hl0 : ∀ k, LB k = 0 → lab' w LB 0 k = 0 := fun k hk => by
    unfold lab'
    by_cases h : k < w.heap.size
    · rw [if_pos h]; exact hk
    · rw [if_neg h]
  have hrk := treckon (h.fresh.below hB0) hi (hS.below hB0) (hl0 _ hS0) (hl0 _ hS1) hn hcn hh0 hh1
  have hdep := h.dep
  have ht := (Array.getElem?_eq_some_iff.1 h.blk).1
  have HRK := hid hrk
  have HY := hid hy
  have HB0 := hid hB0
  clear h hi hS hrk hy hB0
  go_enter Tryd.func12, Tryd.ntmps12
  go_upto_region 4 with (go_at_call 26; refine HRK.out.mono ?_; rintro e w1 ⟨rfl, hq⟩)
  obtain ⟨LB', rv', ln', rf', hs', q1, q2, q3, q4, q5, q6, q7, q8⟩ := hq
  have hs1 := q1.size
  have c1 := row_cell q3.blk 1
  rw [trA_1] at c1
  have hat := tat_any q3 D 0 (Nat.le_refl _) (by omega)
  have ev : vs .u8 32 (tat ln' rf' D 0) = vs .u8 32 (nd (rf 0) (ln 0) D 0) := vs_congr fun j hj => by
    unfold tat
    rw [(q6 D (Nat.le_refl _)).1]
    exact gt32_nd (rf 0) (rf' D) (ln 0) D (q6 D (Nat.le_refl _)).2 0 j hj
  rw [ev, show ((0 : Nat) : Int) = 0 from rfl] at hat
  have ry1 : w1.heap[w.heap.size]? = some (.cells (vs .u8 32 fun _ => 0) 33) := (q1.block _ (by omega) (lab'_new _ _ _ _ (Nat.le_refl _))).trans HY.out
  obtain ⟨V, eV⟩ : ∃ V, nd (rf 0) (ln 0) D 0 = V := ⟨_, rfl⟩
  rw [eV] at hat
  have HAT := hid hat
  have EV := hid eV
  have hLy : LB' w.heap.size = 0 := q2 _ (by omega) (lab'_new _ _ _ _ (Nat.le_refl _))
  have FIN : Hid (∀ w2, Below w1.heap.size w1 w2 → (Tou LB w (w2.setRow w.heap.size (vs .u8 32 V)) ∧ (∀ k, k < w.heap.size → LB k = 0 → LB' k = 0) ∧ Tre (w2.setRow w.heap.size (vs .u8 32 V)) LB' t n D R rv' ln' rf' (.slice none 0 0) 0 cs iv (fun _ => false) hs')) := fun w2 hb => by
    have gr : w2.grownBy (w2.setRow w.heap.size (vs .u8 32 V)) (some w.heap.size) := ⟨rfl, rfl, rfl, by simp, fun k _ hk => setRow_other w2 w.heap.size k _ (fun e => hk (by rw [e]))⟩
    have hb0 := HB0.out
    refine ⟨⟨hb.os.trans (q1.os.trans hb0.os), hb.tape.trans (q1.tape.trans hb0.tape), hb.output.trans (q1.output.trans hb0.output), ?_, fun k hk hl => ?_⟩, fun k hk hl => q2 k (by omega) ((lab'_old _ _ _ _ hk).trans hl), (q3.below hb).else gr hLy⟩
    · have := hb.size
      have := gr.size
      omega
    · exact (setRow_other _ _ _ _ (by omega)).trans ((hb.block k (by omega)).trans ((q1.block k (by omega) ((lab'_old _ _ _ _ hk).trans hl)).trans (hb0.block k hk)))
  have Q := hid (And.intro q4 (And.intro q5 (And.intro q6 (And.intro q7 q8))))
  clear hat ev eV q1 q2 q3 q4 q5 q6 q7 q8 hLy
  go_wp2_with (go_at_call 27; refine HAT.out.mono ?_; rintro e w2 ⟨rfl, hb2⟩; have sv := sv24_run ((hb2.block w.heap.size (by omega)).trans ry1) V)
  have hf := FIN.out w2 hb2
  refine ret24 2 w.heap.size _ 33 rfl rfl rfl (setRow_at ((hb2.block w.heap.size (by omega)).trans ry1)) ⟨by rw [EV.out], LB', rv', ln', rf', hs', hf.1, hf.2.1, hf.2.2, Q.out⟩

end Go.Proofs.YtjimdkpppgjokaaDoor

namespace Go.Proofs.YtjimdkpppgjokaaDoor
open Go.RowKit
set_option linter.unusedVariables false
set_option linter.unusedSimpArgs false

/-- A tree at block t of limit n with L leaves f; cn of them changed since the last root; hs hashes. Blocks below B bear no label. -/
structure TT (w : World) (LB : Nat → Nat) (B t n L : Nat) (f : Nat → Int) (cn : Nat) (hs : Int) : Prop where
  base : ∀ k, k < B → LB k = 0
  room : B ≤ w.heap.size
  pos : 1 ≤ n
  lim : n ≤ 1073741824
  has : ∃ D R rv ln rf cv cs iv ib N, dpt n = D ∧ ln 0 = L ∧ (∀ q, q < 32 * L → rf 0 q = f q) ∧ Tre w LB t n D R rv ln rf cv cn cs iv ib hs ∧ Inv n D ln rf cn cs ib N
/-- What a call on a tree leaves: blocks without a label stay, and get none. -/
def Stp (LB LB' : Nat → Nat) (w w' : World) : Prop := Tou LB w w' ∧ ∀ k, k < w.heap.size → LB k = 0 → LB' k = 0
theorem Stp.refl (LB : Nat → Nat) (w : World) : Stp LB LB w w := ⟨Tou.refl _ _, fun _ _ h => h⟩
theorem Stp.trans {LB LB' LB'' : Nat → Nat} {a b c : World} (h : Stp LB LB' a b) (k : Stp LB' LB'' b c) : Stp LB LB'' a c :=
  ⟨h.1.weak k.1 h.2, fun i hi h0 => k.2 i (Nat.lt_of_lt_of_le hi h.1.size) (h.2 i hi h0)⟩
theorem Stp.ofBelow {LB : Nat → Nat} {a b : World} (h : Below a.heap.size a b) : Stp LB LB a b := ⟨Tou.ofBelow h, fun _ _ h => h⟩
theorem Stp.fresh (LB : Nat → Nat) (w : World) : Stp LB (lab' w LB 0) w w := ⟨Tou.refl _ _, fun k hk h => (lab'_old _ _ _ _ hk).trans h⟩
theorem Stp.below {LB LB' : Nat → Nat} {B : Nat} {w w' : World} (h : Stp LB LB' w w') (hb : ∀ k, k < B → LB k = 0) (hr : B ≤ w.heap.size) : Below B w w' :=
  ⟨h.1.os, h.1.tape, h.1.output, h.1.size, fun k hk => h.1.block k (by omega) (hb k hk)⟩
theorem TT.below {w w' : World} {LB : Nat → Nat} {B t n L : Nat} {f : Nat → Int} {cn : Nat} {hs : Int} (h : TT w LB B t n L f cn hs) (hb : Below w.heap.size w w') : TT w' LB B t n L f cn hs := by
  obtain ⟨D, R, rv, ln, rf, cv, cs, iv, ib, N, h1, h2, h3, h4, h5⟩ := h.has
  exact ⟨h.base, Nat.le_trans h.room hb.size, h.pos, h.lim, D, R, rv, ln, rf, cv, cs, iv, ib, N, h1, h2, h3, h4.below hb, h5⟩
theorem TT.fresh {w : World} {LB : Nat → Nat} {B t n L : Nat} {f : Nat → Int} {cn : Nat} {hs : Int} (h : TT w LB B t n L f cn hs) : TT w (lab' w LB 0) B t n L f cn hs := by
  obtain ⟨D, R, rv, ln, rf, cv, cs, iv, ib, N, h1, h2, h3, h4, h5⟩ := h.has
  have hr := h.room
  exact ⟨fun k hk => (lab'_old _ _ _ _ (by omega)).trans (h.base k hk), h.room, h.pos, h.lim, D, R, rv, ln, rf, cv, cs, iv, ib, N, h1, h2, h3, h4.fresh, h5⟩
theorem TT.else {w w' : World} {LB : Nat → Nat} {B t n L : Nat} {f : Nat → Int} {cn : Nat} {hs : Int} (h : TT w LB B t n L f cn hs) {g : Nat} (hg : w.grownBy w' (some g)) (hl : LB g = 0) : TT w' LB B t n L f cn hs := by
  obtain ⟨D, R, rv, ln, rf, cv, cs, iv, ib, N, h1, h2, h3, h4, h5⟩ := h.has
  exact ⟨h.base, Nat.le_trans h.room hg.size, h.pos, h.lim, D, R, rv, ln, rf, cv, cs, iv, ib, N, h1, h2, h3, h4.else hg hl, h5⟩
/-- What another tree's call leaves of this one. -/
theorem Tre.tou {w w' : World} {LB LB2 : Nat → Nat} {t n D R : Nat} {rv : Nat → Value} {ln : Nat → Nat} {rf : Nat → Nat → Int} {cv : Value} {cn : Nat} {cs : Nat → Int} {iv : Value} {ib : Nat → Bool} {hs : Int} (h : Tre w LB t n D R rv ln rf cv cn cs iv ib hs) (ht : Tou LB2 w w') (hl : ∀ k, k < w.heap.size → LB k ≠ 0 → LB2 k = 0) : Tre w' LB t n D R rv ln rf cv cn cs iv ib hs := by
  have hb : ∀ {k : Nat} {o : Obj}, w.heap[k]? = some o → LB k ≠ 0 → w'.heap[k]? = some o := fun hk h0 => by
    have := (Array.getElem?_eq_some_iff.1 hk).1
    exact (ht.block _ this (hl _ this h0)).trans hk
  have ho : ∀ {s : Nat} {e : TypeId} {v : Value} {m l : Nat} {xs : List Value}, w.ownsRow 0 e s v m xs → Lab LB l v → l ≠ 0 → w'.ownsRow 0 e s v m xs := fun hw hv h0 => own_tou hw ht (fun g hg => hl g (hw.lt g hg).2 (by rw [hv g hg]; exact h0))
  exact ⟨h.lt, h.lR, h.dep, hb h.blk (by rw [h.lt]; omega), hb h.rws (by rw [h.lR]; omega), fun d hd => ⟨ho (h.row d hd).1 (h.row d hd).2 (by omega), (h.row d hd).2⟩, ⟨ho h.chg.1 h.chg.2 (by omega), h.chg.2⟩, ⟨ho h.isc.1 h.isc.2 (by omega), h.isc.2⟩⟩
theorem TT.tou {w w' : World} {LB LB2 : Nat → Nat} {B t n L : Nat} {f : Nat → Int} {cn : Nat} {hs : Int} (h : TT w LB B t n L f cn hs) (ht : Tou LB2 w w') (hl : ∀ k, k < w.heap.size → LB k ≠ 0 → LB2 k = 0) : TT w' LB B t n L f cn hs := by
  obtain ⟨D, R, rv, ln, rf, cv, cs, iv, ib, N, h1, h2, h3, h4, h5⟩ := h.has
  exact ⟨h.base, Nat.le_trans h.room ht.size, h.pos, h.lim, D, R, rv, ln, rf, cv, cs, iv, ib, N, h1, h2, h3, h4.tou ht hl, h5⟩
theorem TT.few {w : World} {LB : Nat → Nat} {B t n L : Nat} {f : Nat → Int} {cn : Nat} {hs : Int} (h : TT w LB B t n L f cn hs) : L ≤ n ∧ cn ≤ L ∧ ByB f (32 * L) ∧ t < w.heap.size := by
  obtain ⟨D, R, rv, ln, rf, cv, cs, iv, ib, N, h1, h2, h3, h4, h5⟩ := h.has
  have h6 : ByB f (32 * L) := fun q hq => by
    rw [← h3 q hq]
    exact h5.byt 0 (Nat.zero_le _) q (by rw [h2]; exact hq)
  have h7 := h5.few
  have h8 := h5.lim
  rw [h2] at h7 h8
  exact ⟨h8, h7, h6, (Array.getElem?_eq_some_iff.1 h4.blk).1⟩

theorem TT.congr {w : World} {LB : Nat → Nat} {B t n L : Nat} {f g : Nat → Int} {cn : Nat} {hs : Int} (h : TT w LB B t n L f cn hs) (hg : ∀ q, q < 32 * L → f q = g q) : TT w LB B t n L g cn hs := by
  obtain ⟨D, R, rv, ln, rf, cv, cs, iv, ib, N, h1, h2, h3, h4, h5⟩ := h.has
  exact ⟨h.base, h.room, h.pos, h.lim, D, R, rv, ln, rf, cv, cs, iv, ib, N, h1, h2, fun q hq => (h3 q hq).trans (hg q hq), h4, h5⟩
theorem nd_same (f g : Nat → Int) (L d i : Nat) (h : ∀ q, q < 32 * L → f q = g q) (j : Nat) (hj : j < 32) : nd f L d i j = nd g L d i j := by
  refine nd_kept f g L L d i (fun m _ j hj => ?_) j hj
  unfold nd
  by_cases hm : m < L
  · rw [if_pos hm, if_pos hm]
    unfold rt32
    exact h _ (by omega)
  · rw [if_neg hm, if_neg hm]
theorem treeV_same (f g : Nat → Int) (L : Nat) (n : Int) (h : ∀ q, q < 32 * L → f q = g q) (j : Nat) (hj : j < 32) : treeV f L n j = treeV g L n j := by
  unfold treeV
  by_cases hn : okL n ∧ (L : Int) ≤ n
  · rw [if_pos hn, if_pos hn]; exact nd_same f g L _ _ h j hj
  · rw [if_neg hn, if_neg hn]

/-- New. -/
theorem tt_new (B m : Nat) (w : World) (hS : Sh w) (hm : 1 ≤ m) (hm2 : m ≤ 1073741824) (hB : B ≤ w.heap.size) :
    Calls Tryd.prog 9 #[.int .i64 m] w fun e w' => e = .returned (.pointer (some ⟨w.heap.size + 1, 0, none⟩)) ∧ Below w.heap.size w w' ∧ ∃ LB, (∀ k, k < w.heap.size → LB k = 0) ∧ TT w' LB B (w.heap.size + 1) m 0 (fun _ => 0) 0 0 := by
  have hD : dpt m ≤ 30 := by
    by_cases h : dpt m ≤ 30
    · exact h
    · have := dpt_lt m 30 (by omega) (by omega)
      omega
  refine (tnew_ok m (dpt m) w hS hm hm2 rfl hD).mono ?_
  rintro e w' ⟨rfl, hb, hz, h1, h2⟩
  have hR : w.heap.size ≠ w.heap.size + 1 := by omega
  refine ⟨rfl, hb, fun k => if k = w.heap.size + 1 then 1 else if k = w.heap.size then 2 else 0, fun k hk => ?_, fun k hk => ?_, ?_, hm, hm2, dpt m, w.heap.size, fun _ => .slice none 0 0, fun _ => 0, fun _ _ => 0, .slice none 0 0, fun _ => 0, .slice none 0 0, fun _ => false, 0, rfl, rfl, fun _ _ => rfl, ⟨if_pos rfl, ?_, hD, h2, ?_, fun d _ => ⟨World.ownsRow_nil _ _ _ _, fun g hg => by cases hg⟩, ⟨World.ownsRow_nil _ _ _ _, fun g hg => by cases hg⟩, ⟨World.ownsRow_nil _ _ _ _, fun g hg => by cases hg⟩⟩, Inv.begin _ _ _ _ _⟩
  · show (if k = w.heap.size + 1 then 1 else if k = w.heap.size then 2 else 0) = 0
    rw [if_neg (by omega), if_neg (by omega)]
  · show (if k = w.heap.size + 1 then 1 else if k = w.heap.size then 2 else 0) = 0
    rw [if_neg (by omega), if_neg (by omega)]
  · omega
  · show (if w.heap.size = w.heap.size + 1 then 1 else if w.heap.size = w.heap.size then 2 else 0) = 2
    rw [if_neg hR, if_pos rfl]
  · rw [h1, nilR_rA]

theorem TT.len {w : World} {LB : Nat → Nat} {B t n L : Nat} {f : Nat → Int} {cn : Nat} {hs : Int} (h : TT w LB B t n L f cn hs) :
    Calls Tryd.prog 11 #[.pointer (some ⟨t, 0, none⟩)] w fun e w' => e = .returned (.int .i64 L) ∧ w' = w := by
  obtain ⟨D, R, rv, ln, rf, cv, cs, iv, ib, N, h1, rfl, hf, h4, h5⟩ := h.has
  exact tlen_any h4

theorem TT.get {w : World} {LB : Nat → Nat} {B t n L : Nat} {f : Nat → Int} {cn : Nat} {hs : Int} (h : TT w LB B t n L f cn hs) (i : Int) (h0 : -9223372036854775808 ≤ i) (h1 : i ≤ 9223372036854775807) :
    Calls Tryd.prog 19 #[.pointer (some ⟨t, 0, none⟩), .int .i64 i] w fun e w' => e = .returned (.tuple #[.agg (vs .u8 32 (getV L f i)), .int .i64 (getE L i)]) ∧ Below w.heap.size w w' := by
  obtain ⟨D, R, rv, ln, rf, cv, cs, iv, ib, N, _, rfl, hf, h4, h5⟩ := h.has
  have e : vs .u8 32 (getV (ln 0) f i) = vs .u8 32 (getV (ln 0) (rf 0) i) := vs_congr fun j hj => by
    unfold getV
    by_cases hi : 0 ≤ i ∧ i < (ln 0 : Int)
    · rw [if_pos hi, if_pos hi]
      unfold rt32
      exact (hf _ (by omega)).symm
    · rw [if_neg hi, if_neg hi]
  rw [e]
  exact tget_any h4 i h0 h1

theorem TT.hashes {w : World} {LB : Nat → Nat} {B t n L : Nat} {f : Nat → Int} {cn : Nat} {hs : Int} (h : TT w LB B t n L f cn hs) :
    Calls Tryd.prog 16 #[.pointer (some ⟨t, 0, none⟩)] w fun e w' => e = .returned (.int .i64 hs) ∧ w' = w := by
  obtain ⟨D, R, rv, ln, rf, cv, cs, iv, ib, N, h1, rfl, hf, h4, h5⟩ := h.has
  exact thashes_any h4

/-- Set: the leaves behind it, and the error. -/
def setV (f : Nat → Int) (L : Nat) (i : Int) (c : Nat → Int) : Nat → Int := if 0 ≤ i ∧ i < (L : Int) then over f c (32 * i.toNat) 32 else f

theorem TT.set {w : World} {LB : Nat → Nat} {B t n L : Nat} {f : Nat → Int} {cn : Nat} {hs : Int} (h : TT w LB B t n L f cn hs) (i : Int) (c : Nat → Int) (hc : ∀ j, j < 32 → 0 ≤ c j ∧ c j < 256) (h0 : -9223372036854775808 ≤ i) (h1 : i ≤ 9223372036854775807) :
    Calls Tryd.prog 14 #[.pointer (some ⟨t, 0, none⟩), .int .i64 i, .agg (vs .u8 32 c)] w fun e w' => e = .returned (.int .i64 (getE L i)) ∧ ∃ LB' cn', Stp LB LB' w w' ∧ TT w' LB' B t n L (setV f L i c) cn' hs ∧ cn' ≤ cn + 1 := by
  have hfew := h.few
  have hroom := h.room
  have hlim := h.lim
  obtain ⟨D, R, rv, ln, rf, cv, cs, iv, ib, N, g1, rfl, hf, h4, h5⟩ := h.has
  by_cases hi : 0 ≤ i ∧ i < (ln 0 : Int)
  · obtain ⟨I, rfl⟩ : ∃ I : Nat, i = (I : Int) := ⟨i.toNat, by omega⟩
    have hI : I < ln 0 := by omega
    have ev : ∀ q, q < 32 * ln 0 → setF rf I c 0 q = setV f (ln 0) (I : Int) c q := fun q hq => by
      rw [setF_0]
      unfold setV
      rw [if_pos hi, Int.toNat_natCast]
      unfold over
      by_cases h2 : 32 * I ≤ q ∧ q < 32 * I + 32
      · rw [if_pos h2, if_pos h2]
      · rw [if_neg h2, if_neg h2]; exact hf q hq
    have ee : getE (ln 0) (I : Int) = 0 := if_pos hi
    rw [ee]
    cases heq : eqR (rt32 (rf 0) I) c with
    | true =>
      refine (tset_same h4 I c hI (by omega) heq).mono ?_
      rintro e w' ⟨rfl, hb⟩
      rw [setF_same heq] at ev
      exact ⟨rfl, LB, cn, Stp.ofBelow hb, (h.below hb).congr (fun q hq => (hf q hq).symm.trans (ev q hq)), by omega⟩
    | false =>
      refine tset_new h4 I c hI (by omega) heq _ (fun W tou hT => ?_)
      have hsz := tou.size
      cases hb : ib I with
      | true =>
        refine (tmark_old hT I hI hb).mono ?_
        rintro e w' ⟨rfl, rfl⟩
        exact ⟨rfl, LB, cn, ⟨tou, fun _ _ h => h⟩, ⟨h.base, by omega, h.pos, h.lim, D, R, rv, ln, setF rf I c, cv, cs, iv, ib, N, g1, rfl, ev, hT, h5.set I hI hb c hc⟩, by omega⟩
      | false =>
        refine (tmark_new hT I hI hb (by omega)).mono ?_
        rintro e w' ⟨rfl, cv', tou2, hT2⟩
        have hsz2 := tou2.size
        refine ⟨rfl, lab' W LB 3, cn + 1, ⟨tou.trans tou2, fun k hk h => (lab'_old _ _ _ _ (by omega)).trans h⟩, ⟨fun k hk => (lab'_old _ _ _ _ (by omega)).trans (h.base k hk), by omega, h.pos, h.lim, D, R, rv, ln, setF rf I c, cv', upc cs cn I, iv, upb ib I true, N, g1, rfl, ev, hT2, ?_⟩, Nat.le_refl _⟩
        exact (h5.mark I hI hb).set I hI (if_pos rfl) c hc
  · have ev : setV f (ln 0) i c = f := if_neg hi
    have ee : getE (ln 0) i = 1 := if_neg hi
    rw [ev, ee]
    refine (tset_none h4 i c hi h0 h1).mono ?_
    rintro e w' ⟨rfl, hb⟩
    exact ⟨rfl, LB, cn, Stp.ofBelow hb, h.below hb, by omega⟩

/-- Append: the leaves behind it, and the error. -/
def appE (n L : Nat) : Int := if L < n then 0 else 6
def appL (n L : Nat) : Nat := if L < n then L + 1 else L
def appV (n L : Nat) (f c : Nat → Int) : Nat → Int := if L < n then upr f L c else f

theorem TT.app {w : World} {LB : Nat → Nat} {B t n L : Nat} {f : Nat → Int} {cn : Nat} {hs : Int} (h : TT w LB B t n L f cn hs) (c : Nat → Int) (hc : ∀ j, j < 32 → 0 ≤ c j ∧ c j < 256) :
    Calls Tryd.prog 15 #[.pointer (some ⟨t, 0, none⟩), .agg (vs .u8 32 c)] w fun e w' => e = .returned (.int .i64 (appE n L)) ∧ ∃ LB' cn', Stp LB LB' w w' ∧ TT w' LB' B t n (appL n L) (appV n L f c) cn' hs ∧ cn' ≤ cn + 1 := by
  have hfew := h.few
  have hroom := h.room
  have hlim := h.lim
  obtain ⟨D, R, rv, ln, rf, cv, cs, iv, ib, N, g1, rfl, hf, h4, h5⟩ := h.has
  unfold appE appL appV
  by_cases hl : ln 0 < n
  · rw [if_pos hl, if_pos hl, if_pos hl]
    refine tapp_new h4 c hl hlim _ (fun W LB' rv' iv' tou hlb hT => ?_)
    have hsz := tou.size
    have hb : upb ib (ln 0) false (ln 0) = false := if_pos rfl
    refine (tmark_new hT (ln 0) (by rw [up0_0]; omega) hb (by omega)).mono ?_
    rintro e w' ⟨rfl, cv', tou2, hT2⟩
    have hsz2 := tou2.size
    have hlab : ∀ k, k < w.heap.size → LB k = 0 → lab' W LB' 3 k = 0 := fun k hk h0 => (lab'_old _ _ _ _ (by omega)).trans ((hlb k hk).trans h0)
    refine ⟨rfl, lab' W LB' 3, cn + 1, ⟨tou.label tou2 hlb, hlab⟩, ⟨fun k hk => hlab k (by omega) (h.base k hk), by omega, h.pos, h.lim, D, R, rv', _, _, cv', _, iv', _, N, g1, up0_0 _ _, fun q hq => ?_, hT2, h5.app hl c hc⟩, Nat.le_refl _⟩
    rw [up0_0]
    unfold upr
    by_cases h2 : q < 32 * ln 0
    · rw [if_pos h2, if_pos h2]; exact hf q h2
    · rw [if_neg h2, if_neg h2]
  · rw [if_neg hl, if_neg hl, if_neg hl]
    refine (tapp_full h4 c (by omega)).mono ?_
    rintro e w' ⟨rfl, hb⟩
    exact ⟨rfl, LB, cn, Stp.ofBelow hb, h.below hb, by omega⟩

theorem TT.root {w : World} {LB : Nat → Nat} {B t n L : Nat} {f : Nat → Int} {cn : Nat} {hs : Int} (h : TT w LB B t n L f cn hs) (hS : Sh w) (hB0 : 0 < B) (hB1 : 1 < B) (hh0 : 0 ≤ hs) (hh1 : hs ≤ 576460752303423488) :
    Calls Tryd.prog 12 #[.pointer (some ⟨t, 0, none⟩)] w fun e w' => e = .returned (.agg (vs .u8 32 (treeV f L (n : Nat)))) ∧ ∃ LB' hs', Stp LB LB' w w' ∧ TT w' LB' B t n L f 0 hs' ∧ hs ≤ hs' ∧ hs' ≤ hs + ((dpt n * cn : Nat) : Int) ∧ hs' ≤ hs + ((L + dpt n : Nat) : Int) := by
  have hfew := h.few
  have hroom := h.room
  have hlim := h.lim
  obtain ⟨D, R, rv, ln, rf, cv, cs, iv, ib, N, rfl, rfl, hf, h4, h5⟩ := h.has
  have ev : vs .u8 32 (treeV f (ln 0) (n : Nat)) = vs .u8 32 (nd (rf 0) (ln 0) (dpt n) 0) := vs_congr fun j hj => by
    rw [← treeV_same (rf 0) f (ln 0) (n : Nat) hf j hj]
    unfold treeV
    rw [if_pos ⟨⟨by omega, by omega⟩, by omega⟩, Int.toNat_natCast]
  rw [ev]
  refine (troot h4 h5 hS (h.base _ hB0) (h.base _ hB1) hlim (by omega) hh0 hh1).mono ?_
  rintro e w' ⟨rfl, LB', rv', ln', rf', hs', q1, q2, q3, q4, q5, q6, q7, q8, q9⟩
  have hsz := q1.size
  exact ⟨rfl, LB', hs', ⟨q1, q2⟩, ⟨fun k hk => q2 k (by omega) (h.base k hk), by omega, h.pos, h.lim, _, R, rv', ln', rf', _, cs, iv, _, ln 0, rfl, q4, fun q hq => by rw [q5]; exact hf q hq, q3, h5.done q4 q5 q6⟩, q7, q8, q9⟩

end Go.Proofs.YtjimdkpppgjokaaDoor
