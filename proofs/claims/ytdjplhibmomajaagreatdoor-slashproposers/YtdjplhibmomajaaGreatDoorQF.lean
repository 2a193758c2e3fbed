/- A part. -/
import Derived.Test.YtdjplhibmomajaaGreatDoorQD
import Derived.Laws.AppendOwnNone
import Derived.BigQuiet
import Derived.Deep.QuietTactic
import Derived.Deep.RegionHeld3
namespace Go.Proofs.YtdjplhibmomajaaGreatDoor
open Go.RowKit
set_option linter.unusedVariables false
set_option linter.unusedSimpArgs false
section
open Go.RowKit
set_option linter.unusedVariables false
set_option linter.unusedSimpArgs false
set_option maxRecDepth 20000
attribute [local go_sem ↓] aAq aAr aAz aAi aAl aAw
def aFl (v:aA5):Bool:=decide (v.f2 % 1000000000=0) && (decide (v.f2≤32000000000) && (epB v.f4 && (epB v.f5 && (epB v.f6 && epB v.f7))))
def aFs (z:Nat→aA5) (n:Nat):Bool:=(List.range n).all fun i=>aFl (z i)
theorem aJJ {z:Nat→aA5} {n:Nat} (h:∀ i,i < n→aFl (z i)=true):aFs z n=true:=by
 unfold aFs
 rw [List.all_eq_true]
 intro i hi
 exact h i (List.mem_range.1 hi)
theorem aI3 {z:Nat→aA5} {n i:Nat} (hi:i < n) (h:aFl (z i)=false):aFs z n=false:=by
 unfold aFs
 rw [List.all_eq_false]
 exact ⟨i,List.mem_range.2 hi,by simp [h]⟩
set_option maxHeartbeats 2000000 in
theorem aNH (z : Nat → aA5) (a : Option Addr) (n c : Nat) (w : World) (hn : Els w a n 86 (fun i => aAW (aA3 (z i)))) (hz : ∀ j, j < n → aBi (z j)) (hnb : n ≤ 9223372036854775807) :
    Calls Tryz.prog 38 #[.slice a n c] w fun e w'=>e=.returned (.bool (aFs z n))∧Below w.heap.size w w':=by
 have HN:=hid hn
 have HZ:=hid hz
 have zv:=aBP
 clear hn hz
 go_enter Tryz.func38,Tryz.ntmps38
 go_wp2
 go_loopw [7] (fun i wr=>∃ (k:Nat),k≤n∧i=.int .i64 k∧Below w.heap.size w wr∧∀ j,j < k→aFl (z j)=true) (fun i _=>n - (intOf i).toNat)
 case atStart=>exact ⟨0,by omega,rfl,Below.refl _ _,fun j hj=>by omega⟩
 case round =>
  obtain ⟨k,hk,rfl,hB,hL⟩:=hrel
  have HL:=hid hL
  have HB:=hid hB
  by_cases hlt:k < n
  ·have b1:decide (k < n)=true:=by simp;omega
   have k1:(k:Int) < (n:Int):=by omega
   have k2:(0:Int)≤(k:Int):=by omega
   rcases HN.out.below hB with h | ⟨b,off,rfl,hb1,hc⟩
   ·omega
   have lv:=aB2 (hc k hlt)
   have ix:=fun W=>aB7 W b off n c k hlt
   obtain ⟨P,eP⟩:∃ P,off+86*k=P:=⟨_,rfl⟩
   rw [eP] at lv
   simp only [eP] at ix
   have HV:=hid (HZ.out k hlt)
   have HF:=hid (fun h=>aI3 (z:=z) hlt h)
   have HT:=hid (show aFl (z k)=true→∀ j,j < k+1→aFl (z j)=true from fun h j hj=>by
    by_cases e:j=k
    ·rw [e];exact h
    ·exact HL.out j (by omega))
   obtain ⟨v,ev⟩:∃ v,z k=v:=⟨_,rfl⟩
   rw [ev] at lv HV HF HT
   have sv:=aBj wr aBe v
   obtain ⟨W1,hW1⟩:∃ W,wr.alloc (.cells (cel (aA3 v)) 65)=W:=⟨_,rfl⟩
   rw [hW1] at sv
   have r1:W1.heap[wr.heap.size]?=some (.cells (cel (aA3 v)) 65):=by rw [←hW1];exact aA2 rfl
   have hB1:Below w.heap.size w W1:=by rw [←hW1];exact hB.alloc hB.size _
   have HB1:=hid hB1
   obtain ⟨y,ey⟩:∃ y,wr.heap.size=y:=⟨_,rfl⟩
   rw [ey] at sv r1
   have l2:=aAH r1 2 v.f2 rfl 80 rfl
   have l4:=aAH r1 4 v.f4 rfl 82 rfl
   have l5:=aAH r1 5 v.f5 rfl 83 rfl
   have l6:=aAH r1 6 v.f6 rfl 84 rfl
   have l7:=aAH r1 7 v.f7 rfl 85 rfl
   have hv2:=HV.out.2.2.1
   obtain ⟨hv0,hv1⟩:=hv2
   clear hL hB hc hb1 eP ev hB1 r1
   by_cases d1:v.f2 % 1000000000=0
   ·have e1:(v.f2 % 1000000000 != 0)=false:=by simp;exact d1
    by_cases d2:v.f2≤32000000000
    ·have n2:¬ 32000000000 < v.f2:=by omega
     obtain ⟨g4,eg4⟩:∃ g,v.f4=g:=⟨_,rfl⟩
     obtain ⟨g5,eg5⟩:∃ g,v.f5=g:=⟨_,rfl⟩
     obtain ⟨g6,eg6⟩:∃ g,v.f6=g:=⟨_,rfl⟩
     obtain ⟨g7,eg7⟩:∃ g,v.f7=g:=⟨_,rfl⟩
     have EV:=hid (show aFl v=(epB g4 && (epB g5 && (epB g6 && epB g7))) from by
      unfold aFl
      rw [eg4,eg5,eg6,eg7,decide_eq_true d1,decide_eq_true d2]
      rfl)
     rw [eg4] at l4
     rw [eg5] at l5
     rw [eg6] at l6
     rw [eg7] at l7
     clear eg4 eg5 eg6 eg7 d1 d2
     go_upto_region 6 with fail
     clear hW1
     cases pE4:epB g4
     ·have F:=hid (HF.out (by rw [EV.out,pE4];rfl))
      go_wp2_with (go_at_call 75;refine (aGG _ _).mono ?_;rintro e w9 ⟨rfl,hw9⟩;obtain rfl:=hw9.symm)
      go_ret
      exact ⟨by rw [F.out];rfl,HB1.out⟩
     cases pE5:epB g5
     ·have F:=hid (HF.out (by rw [EV.out,pE4,pE5];rfl))
      go_wp2_with (go_at_call 75;refine (aGG _ _).mono ?_;rintro e w9 ⟨rfl,hw9⟩;obtain rfl:=hw9.symm)
      go_ret
      exact ⟨by rw [F.out];rfl,HB1.out⟩
     cases pE6:epB g6
     ·have F:=hid (HF.out (by rw [EV.out,pE4,pE5,pE6];rfl))
      go_wp2_with (go_at_call 75;refine (aGG _ _).mono ?_;rintro e w9 ⟨rfl,hw9⟩;obtain rfl:=hw9.symm)
      go_ret
      exact ⟨by rw [F.out];rfl,HB1.out⟩
     cases pE7:epB g7
     ·have F:=hid (HF.out (by rw [EV.out,pE4,pE5,pE6,pE7];rfl))
      go_wp2_with (go_at_call 75;refine (aGG _ _).mono ?_;rintro e w9 ⟨rfl,hw9⟩;obtain rfl:=hw9.symm)
      go_ret
      exact ⟨by rw [F.out];rfl,HB1.out⟩
     have F:=hid (HT.out (by rw [EV.out,pE4,pE5,pE6,pE7];rfl))
     go_wp2_with (go_at_call 75;refine (aGG _ _).mono ?_;rintro e w9 ⟨rfl,hw9⟩;obtain rfl:=hw9.symm)
     go_roundw
     case rel=>exact ⟨k+1,by omega,by go_num,HB1.out,F.out⟩
     case measure=>simp [intOf];omega
    ·have n2:32000000000 < v.f2:=by omega
     have F:=hid (HF.out (by unfold aFl;simp [d2]))
     clear d2
     go_wp2
     go_ret
     exact ⟨by rw [F.out];rfl,HB1.out⟩
   ·have e1:(v.f2 % 1000000000 != 0)=true:=by simp;exact d1
    have F:=hid (HF.out (by unfold aFl;simp [d1]))
    clear d1
    go_wp2
    go_ret
    exact ⟨by rw [F.out];rfl,HB1.out⟩
  ·have b1:decide (k < n)=false:=by simp;omega
   have k1:¬ (k:Int) < (n:Int):=by omega
   have F:Hid (aFs z n=true):=aJJ fun i hi=>HL.out i (by omega)
   go_wp2
   go_ret
   exact ⟨by rw [F.out];rfl,HB.out⟩
structure OkR (x:aA1):Prop where
 o2:0≤x.f2∧x.f2 < 18446744073709551616
 o11:∀ j,j < x.f11.n→aBi (x.f11.z j)
 o12:∀ j,j < x.f12.n→0≤x.f12.z j∧x.f12.z j < 18446744073709551616
 o14:∀ j,j < 8→0≤x.f14 j∧x.f14 j < 18446744073709551616
 o21:∀ j,j < x.f21.n→0≤x.f21.z j∧x.f21.z j < 18446744073709551616
structure InR (w:World) (x:aA1):Prop where
 i11:Els w x.f11.a x.f11.n 86 (fun i=>aAW (aA3 (x.f11.z i)))
 i12:Z.Nms .u64 w x.f12.a x.f12.n x.f12.z
 i21:Z.Nms .u64 w x.f21.a x.f21.n x.f21.z
theorem InR.below {w w':World} {x:aA1} (h:InR w x) (hb:Below w.heap.size w w'):InR w' x:=⟨h.i11.below hb,h.i12.below hb,h.i21.below hb⟩
theorem InW.r {w:World} {x:aA1} (h:InW w x):InR w x:=⟨h.i11,h.i12,h.i21⟩
theorem aAD.r {x:aA1} (h:aAD x):OkR x:=⟨h.o2,h.o11,h.o12,h.o14,h.o21⟩
def aAN (x:aA1):Bool:=aD9 x && (aDQ x && (aGy x && (decide (x.f10 < 1099511627776) && (aFs x.f11.z x.f11.n && (aLr x.f21.z x.f21.n && (aEH x.f12.z x.f12.n 144115188075855872 && aEH x.f14 8 144115188075855872))))))
set_option maxHeartbeats 4000000 in
theorem aEc (x : aA1) (w : World) (hx : OkR x) (hw : InR w x) (hl : x.f11.n ≤ 9223372036854775807 ∧ x.f21.n ≤ 9223372036854775807 ∧ x.f12.n ≤ 9223372036854775807) :
    Calls Tryz.prog 12 #[.agg (cel (aA0 x))] w fun e w'=>e=.returned (.bool (aAN x))∧Below w.heap.size w w':=by
 obtain ⟨W0,hW0⟩:∃ W,w.alloc (.cells (cel (aA0 x)) 49)=W:=⟨_,rfl⟩
 have hB0:Below w.heap.size w W0:=by rw [←hW0];exact (Below.refl _ _).alloc (Nat.le_refl _) _
 have r0:W0.heap[w.heap.size]?=some (.cells (cel (aA0 x)) 49):=by rw [←hW0];exact aA2 rfl
 have z0:w.heap.size < W0.heap.size:=by rw [←hW0];simp
 obtain ⟨y,ey⟩:∃ y,w.heap.size=y:=⟨_,rfl⟩
 have hry:∀ X,Below W0.heap.size W0 X→X.heap[y]?=some (.cells (cel (aA0 x)) 49):=fun X h=>by rw [←ey];exact (h.block _ z0).trans r0
 have HRY:=hid hry
 have HIN:Hid (∀ X,Below W0.heap.size W0 X→InR X x):=fun X h=>hw.below (hB0.trans (h.mono hB0.size))
 have HB0w:=hid hB0
 have HX:=hid hx
 have HL:=hid hl
 obtain ⟨B1,e1⟩:∃ B,aD9 x=B:=⟨_,rfl⟩
 obtain ⟨B2,e2⟩:∃ B,aDQ x=B:=⟨_,rfl⟩
 obtain ⟨B3,e3⟩:∃ B,aGy x=B:=⟨_,rfl⟩
 obtain ⟨B5,e5⟩:∃ B,aFs x.f11.z x.f11.n=B:=⟨_,rfl⟩
 obtain ⟨B6,e6⟩:∃ B,aLr x.f21.z x.f21.n=B:=⟨_,rfl⟩
 obtain ⟨B7,e7⟩:∃ B,aEH x.f12.z x.f12.n 144115188075855872=B:=⟨_,rfl⟩
 obtain ⟨B8,e8⟩:∃ B,aEH x.f14 8 144115188075855872=B:=⟨_,rfl⟩
 obtain ⟨B4,e4⟩:∃ B,decide (x.f10 < 1099511627776)=B:=⟨_,rfl⟩
 have ER:=hid (show aAN x=(B1 && (B2 && (B3 && (B4 && (B5 && (B6 && (B7 && B8))))))) from by unfold aAN;rw [e1,e2,e3,e4,e5,e6,e7,e8])
 have C1:Hid (∀ X,Calls Tryz.prog 35 #[.agg (cel (aA0 x))] X fun e w'=>e=.returned (.bool B1)∧Below X.heap.size X w'):=fun X=>by rw [←e1];exact aPg x X
 have C2:Hid (∀ X,Calls Tryz.prog 36 #[.agg (cel (aA0 x))] X fun e w'=>e=.returned (.bool B2)∧Below X.heap.size X w'):=fun X=>by rw [←e2];exact aMT x X
 have C3:Hid (∀ X,Calls Tryz.prog 37 #[.agg (cel (aA0 x))] X fun e w'=>e=.returned (.bool B3)∧Below X.heap.size X w'):=fun X=>by rw [←e3];exact aQv x X HX.out.o2
 have C5:Hid (∀ X,Below W0.heap.size W0 X→Calls Tryz.prog 38 #[.slice x.f11.a x.f11.n x.f11.c] X fun e w'=>e=.returned (.bool B5)∧Below X.heap.size X w'):=fun X h=>by rw [←e5];exact aNH x.f11.z x.f11.a x.f11.n x.f11.c X (HIN.out X h).i11 HX.out.o11 HL.out.1
 have C6:Hid (∀ X,Below W0.heap.size W0 X→Calls Tryz.prog 39 #[.slice x.f21.a x.f21.n x.f21.c] X fun e w'=>e=.returned (.bool B6)∧w'=X):=fun X h=>by rw [←e6];exact aPW x.f21.z x.f21.a x.f21.n x.f21.c X (HIN.out X h).i21 HX.out.o21 HL.out.2.1
 have C7:Hid (∀ X,Below W0.heap.size W0 X→Calls Tryz.prog 40 #[.slice x.f12.a x.f12.n x.f12.c,.int .u64 144115188075855872] X fun e w'=>e=.returned (.bool B7)∧w'=X):=fun X h=>by rw [←e7];exact aLG x.f12.z x.f12.a x.f12.n x.f12.c 144115188075855872 X (HIN.out X h).i12 HX.out.o12 (by omega) (by omega) HL.out.2.2
 have C8:Hid (∀ X,Below W0.heap.size W0 X→Calls Tryz.prog 40 #[.slice (some ⟨y,979,none⟩) 8 8,.int .u64 144115188075855872] X fun e w'=>e=.returned (.bool B8)∧w'=X):=fun X h=>by rw [←e8];exact aLG x.f14 (some ⟨y,979,none⟩) 8 8 144115188075855872 X (aLv (HRY.out X h)) HX.out.o14 (by omega) (by omega) (by omega)
 have lvw:=aAg (HRY.out _ (Below.refl _ _))
 have S0:=hid (Below.refl W0.heap.size W0)
 rw [ER.out]
 clear hB0 r0 hry hx hw hl e1 e2 e3 e5 e6 e7 e8
 go_enter Tryz.func12,Tryz.ntmps12
 go_upto_region 1 with fail
 clear hW0 ey z0
 have HLV:Hid (∀ X,Below W0.heap.size W0 X→(aCc ⟨y,0,none⟩).run Tryz.prog X=.ok (.agg (cel (aA0 x))) X):=fun X h=>aAg (HRY.out X h)
 have HD:Hid (∀ X,Below W0.heap.size W0 X→X.cell? ⟨y,720,none⟩=some (.int .u64 x.f10)):=fun X h=>aTn (HRY.out X h)
 have HV:Hid (∀ X,Below W0.heap.size W0 X→X.cell? ⟨y,721,none⟩=some (.slice x.f11.a x.f11.n x.f11.c)):=fun X h=>aFv (HRY.out X h)
 have HSC:Hid (∀ X,Below W0.heap.size W0 X→X.cell? ⟨y,1092,none⟩=some (.slice x.f21.a x.f21.n x.f21.c)):=fun X h=>aO8 (HRY.out X h)
 have HBA:Hid (∀ X,Below W0.heap.size W0 X→X.cell? ⟨y,722,none⟩=some (.slice x.f12.a x.f12.n x.f12.c)):=fun X h=>aMz (HRY.out X h)
 cases B1
 ·skip
  go_wp2_with (first
   | (go_at_call 35; refine (C1.out _).mono ?_; rintro e w1 ⟨rfl, hb⟩; have S1 := hid (S0.out.trans (hb.mono S0.out.size)); have lv1 := HLV.out _ S1.out; clear hb))
  go_ret
  exact ⟨rfl,HB0w.out.trans (S1.out.mono HB0w.out.size)⟩
 cases B2
 ·skip
  go_wp2_with (first
   | (go_at_call 35; refine (C1.out _).mono ?_; rintro e w1 ⟨rfl, hb⟩; have S1 := hid (S0.out.trans (hb.mono S0.out.size)); have lv1 := HLV.out _ S1.out; clear hb)
   | (go_at_call 36; refine (C2.out _).mono ?_; rintro e w2 ⟨rfl, hb⟩; have S2 := hid (S1.out.trans (hb.mono S1.out.size)); have lv2 := HLV.out _ S2.out; clear hb))
  go_ret
  exact ⟨rfl,HB0w.out.trans (S2.out.mono HB0w.out.size)⟩
 cases B3
 ·skip
  go_wp2_with (first
   | (go_at_call 35; refine (C1.out _).mono ?_; rintro e w1 ⟨rfl, hb⟩; have S1 := hid (S0.out.trans (hb.mono S0.out.size)); have lv1 := HLV.out _ S1.out; clear hb)
   | (go_at_call 36; refine (C2.out _).mono ?_; rintro e w2 ⟨rfl, hb⟩; have S2 := hid (S1.out.trans (hb.mono S1.out.size)); have lv2 := HLV.out _ S2.out; clear hb)
   | (go_at_call 37; refine (C3.out _).mono ?_; rintro e w3 ⟨rfl, hb⟩; have S3 := hid (S2.out.trans (hb.mono S2.out.size)); have ld := HD.out _ S3.out; have lv := HV.out _ S3.out; clear hb))
  go_ret
  exact ⟨rfl,HB0w.out.trans (S3.out.mono HB0w.out.size)⟩
 cases B4
 ·have nd:=of_decide_eq_false e4
  clear e4
  go_wp2_with (first
   | (go_at_call 35; refine (C1.out _).mono ?_; rintro e w1 ⟨rfl, hb⟩; have S1 := hid (S0.out.trans (hb.mono S0.out.size)); have lv1 := HLV.out _ S1.out; clear hb)
   | (go_at_call 36; refine (C2.out _).mono ?_; rintro e w2 ⟨rfl, hb⟩; have S2 := hid (S1.out.trans (hb.mono S1.out.size)); have lv2 := HLV.out _ S2.out; clear hb)
   | (go_at_call 37; refine (C3.out _).mono ?_; rintro e w3 ⟨rfl, hb⟩; have S3 := hid (S2.out.trans (hb.mono S2.out.size)); have ld := HD.out _ S3.out; have lv := HV.out _ S3.out; clear hb))
  go_ret
  exact ⟨rfl,HB0w.out.trans (S3.out.mono HB0w.out.size)⟩
 have nd:=of_decide_eq_true e4
 clear e4
 cases B5
 ·skip
  go_wp2_with (first
   | (go_at_call 35; refine (C1.out _).mono ?_; rintro e w1 ⟨rfl, hb⟩; have S1 := hid (S0.out.trans (hb.mono S0.out.size)); have lv1 := HLV.out _ S1.out; clear hb)
   | (go_at_call 36; refine (C2.out _).mono ?_; rintro e w2 ⟨rfl, hb⟩; have S2 := hid (S1.out.trans (hb.mono S1.out.size)); have lv2 := HLV.out _ S2.out; clear hb)
   | (go_at_call 37; refine (C3.out _).mono ?_; rintro e w3 ⟨rfl, hb⟩; have S3 := hid (S2.out.trans (hb.mono S2.out.size)); have ld := HD.out _ S3.out; have lv := HV.out _ S3.out; clear hb)
   | (go_at_call 38; refine (C5.out _ S3.out).mono ?_; rintro e w4 ⟨rfl, hb⟩; have S4 := hid (S3.out.trans (hb.mono S3.out.size)); have ls := HSC.out _ S4.out; have lb := HBA.out _ S4.out; clear hb))
  go_ret
  exact ⟨rfl,HB0w.out.trans (S4.out.mono HB0w.out.size)⟩
 cases B6
 ·skip
  go_wp2_with (first
   | (go_at_call 35; refine (C1.out _).mono ?_; rintro e w1 ⟨rfl, hb⟩; have S1 := hid (S0.out.trans (hb.mono S0.out.size)); have lv1 := HLV.out _ S1.out; clear hb)
   | (go_at_call 36; refine (C2.out _).mono ?_; rintro e w2 ⟨rfl, hb⟩; have S2 := hid (S1.out.trans (hb.mono S1.out.size)); have lv2 := HLV.out _ S2.out; clear hb)
   | (go_at_call 37; refine (C3.out _).mono ?_; rintro e w3 ⟨rfl, hb⟩; have S3 := hid (S2.out.trans (hb.mono S2.out.size)); have ld := HD.out _ S3.out; have lv := HV.out _ S3.out; clear hb)
   | (go_at_call 38; refine (C5.out _ S3.out).mono ?_; rintro e w4 ⟨rfl, hb⟩; have S4 := hid (S3.out.trans (hb.mono S3.out.size)); have ls := HSC.out _ S4.out; have lb := HBA.out _ S4.out; clear hb)
   | (go_at_call 39; refine (C6.out _ S4.out).mono ?_; rintro e w5 ⟨rfl, hw⟩; obtain rfl := hw.symm))
  go_ret
  exact ⟨rfl,HB0w.out.trans (S4.out.mono HB0w.out.size)⟩
 cases B7
 ·skip
  go_wp2_with (first
   | (go_at_call 35; refine (C1.out _).mono ?_; rintro e w1 ⟨rfl, hb⟩; have S1 := hid (S0.out.trans (hb.mono S0.out.size)); have lv1 := HLV.out _ S1.out; clear hb)
   | (go_at_call 36; refine (C2.out _).mono ?_; rintro e w2 ⟨rfl, hb⟩; have S2 := hid (S1.out.trans (hb.mono S1.out.size)); have lv2 := HLV.out _ S2.out; clear hb)
   | (go_at_call 37; refine (C3.out _).mono ?_; rintro e w3 ⟨rfl, hb⟩; have S3 := hid (S2.out.trans (hb.mono S2.out.size)); have ld := HD.out _ S3.out; have lv := HV.out _ S3.out; clear hb)
   | (go_at_call 38; refine (C5.out _ S3.out).mono ?_; rintro e w4 ⟨rfl, hb⟩; have S4 := hid (S3.out.trans (hb.mono S3.out.size)); have ls := HSC.out _ S4.out; have lb := HBA.out _ S4.out; clear hb)
   | (go_at_call 39; refine (C6.out _ S4.out).mono ?_; rintro e w5 ⟨rfl, hw⟩; obtain rfl := hw.symm)
   | (go_at_call 40; have k8 := K7; refine (C8.out _ S4.out).mono ?_; rintro e w7 ⟨rfl, hw⟩; obtain rfl := hw.symm)
   | (go_at_call 40; refine (C7.out _ S4.out).mono ?_; rintro e w6 ⟨rfl, hw⟩; obtain rfl := hw.symm; have K7 := True.intro))
  go_ret
  exact ⟨rfl,HB0w.out.trans (S4.out.mono HB0w.out.size)⟩
 cases B8
 ·skip
  go_wp2_with (first
   | (go_at_call 35; refine (C1.out _).mono ?_; rintro e w1 ⟨rfl, hb⟩; have S1 := hid (S0.out.trans (hb.mono S0.out.size)); have lv1 := HLV.out _ S1.out; clear hb)
   | (go_at_call 36; refine (C2.out _).mono ?_; rintro e w2 ⟨rfl, hb⟩; have S2 := hid (S1.out.trans (hb.mono S1.out.size)); have lv2 := HLV.out _ S2.out; clear hb)
   | (go_at_call 37; refine (C3.out _).mono ?_; rintro e w3 ⟨rfl, hb⟩; have S3 := hid (S2.out.trans (hb.mono S2.out.size)); have ld := HD.out _ S3.out; have lv := HV.out _ S3.out; clear hb)
   | (go_at_call 38; refine (C5.out _ S3.out).mono ?_; rintro e w4 ⟨rfl, hb⟩; have S4 := hid (S3.out.trans (hb.mono S3.out.size)); have ls := HSC.out _ S4.out; have lb := HBA.out _ S4.out; clear hb)
   | (go_at_call 39; refine (C6.out _ S4.out).mono ?_; rintro e w5 ⟨rfl, hw⟩; obtain rfl := hw.symm)
   | (go_at_call 40; have k8 := K7; refine (C8.out _ S4.out).mono ?_; rintro e w7 ⟨rfl, hw⟩; obtain rfl := hw.symm)
   | (go_at_call 40; refine (C7.out _ S4.out).mono ?_; rintro e w6 ⟨rfl, hw⟩; obtain rfl := hw.symm; have K7 := True.intro))
  go_ret
  exact ⟨rfl,HB0w.out.trans (S4.out.mono HB0w.out.size)⟩
 go_wp2_with (first
     | (go_at_call 35; refine (C1.out _).mono ?_; rintro e w1 ⟨rfl, hb⟩; have S1 := hid (S0.out.trans (hb.mono S0.out.size)); have lv1 := HLV.out _ S1.out; clear hb)
     | (go_at_call 36; refine (C2.out _).mono ?_; rintro e w2 ⟨rfl, hb⟩; have S2 := hid (S1.out.trans (hb.mono S1.out.size)); have lv2 := HLV.out _ S2.out; clear hb)
     | (go_at_call 37; refine (C3.out _).mono ?_; rintro e w3 ⟨rfl, hb⟩; have S3 := hid (S2.out.trans (hb.mono S2.out.size)); have ld := HD.out _ S3.out; have lv := HV.out _ S3.out; clear hb)
     | (go_at_call 38; refine (C5.out _ S3.out).mono ?_; rintro e w4 ⟨rfl, hb⟩; have S4 := hid (S3.out.trans (hb.mono S3.out.size)); have ls := HSC.out _ S4.out; have lb := HBA.out _ S4.out; clear hb)
     | (go_at_call 39; refine (C6.out _ S4.out).mono ?_; rintro e w5 ⟨rfl, hw⟩; obtain rfl := hw.symm)
     | (go_at_call 40; have k8 := K7; refine (C8.out _ S4.out).mono ?_; rintro e w7 ⟨rfl, hw⟩; obtain rfl := hw.symm)
     | (go_at_call 40; refine (C7.out _ S4.out).mono ?_; rintro e w6 ⟨rfl, hw⟩; obtain rfl := hw.symm; have K7 := True.intro))
 go_ret
 exact ⟨rfl,HB0w.out.trans (S4.out.mono HB0w.out.size)⟩
end
section
open Go.RowKit
set_option linter.unusedVariables false
set_option linter.unusedSimpArgs false
set_option maxRecDepth 20000
def aEz (v:aA5) (e:Int):Bool:=decide (v.f5≤e) && decide (e < v.f6)
def aMn (v:aA5) (e:Int):Bool:=!v.f3 && (decide (v.f5≤e) && decide (e < v.f7))
def acL (z:Nat→aA5) (e:Int):Nat→List Int
 | 0 => []
 | k + 1 => if aEz (z k) e = true then acL z e k ++ [(k : Int)] else acL z e k
theorem aEQ (z:Nat→aA5) (e:Int) (k:Nat):(acL z e k).length≤k:=by
 induction k with
 | zero => exact Nat.le_refl _
 | succ k ih =>
  unfold acL
  split
  ·simp;omega
  ·omega
theorem aQV (z:Nat→aA5) (e:Int) (k:Nat):∀ v ∈ acL z e k,0≤v∧v < (k:Int):=by
 induction k with
 | zero => intro v hv; cases hv
 | succ k ih =>
  intro v hv
  unfold acL at hv
  split at hv
  ·rcases List.mem_append.1 hv with h | h
   ·have:=ih v h;omega
   ·simp at h;omega
  ·have:=ih v hv;omega
def iv6 (l:List Int):List Value:=l.map (Value.int .u64)
theorem aRs:(Tryz.prog.info? 22).map (fun i=>(i.zero,i.size,i.bytes))=some (some (.int .u64 0),1,8):=by kernel_rfl
theorem aB5 (w : World) {ops : Array Oper} {rest : List Oper} {o : Oper} {a : Act} {Q : Exit → Act → World → Prop} (hgd : o.guard = none) (s x : Operand)
    (ho:o.op=.call { callee:=.builtin .append,args:=#[s,x],argTypes:=#[37,37] })
    (base:Nat) (v:Value) (l:List Int) (z:Int) (hs:a.eval s=v) (hown:w.ownsRow base 22 1 v l.length (iv6 l))
    (hx:a.eval x=.slice (some ⟨w.heap.size,0,none⟩) 1 1) (hbd:l.length+1≤17592186044416) (hbase:base≤w.heap.size)
    (h:∀ v' w',w'.ownsRow base 22 1 v' (l++[z]).length (iv6 (l++[z]))→w.grownBy w' v.ownBlock→wpList Tryz.prog ops Q rest (a.put o.dst v') w') :
    wpList Tryz.prog ops Q (o :: rest) a (w.alloc (.cells #[.int .u64 z] 22)):=by
 obtain ⟨i,hi,hz0,hz1,hz2⟩:=info_parts aRs
 refine wpList_append_own _ hgd s x 37 ho base 22 i (.int .u64 0) 1 8 Tryz.underlying37 hi hz0 hz1 hz2 rfl (by decide) v l.length (iv6 l) hs (hown.alloc _) ⟨w.heap.size,0,none⟩ 1 1 [.int .u64 z] hx rfl (cell_one_new _ _ _)
  (fun u hu=>by simp at hu;subst hu;rfl) (by unfold maxLen;omega) (by omega) (by simp;omega) (fun v' w' h1 h2 _=>?_)
 have e:iv6 l++[.int .u64 z]=iv6 (l++[z]):=by simp [iv6]
 rw [e] at h1
 refine h v' w' (by rw [List.length_append];exact h1) ⟨h2.os,h2.tape,h2.output,?_,fun k hk hne=>?_⟩
 ·have:=h2.size
  simp at this
  omega
 ·exact (h2.block k (by simp;omega) hne).trans (aAc hk)
def Nml (w:World) (a:Option Addr) (l:List Int):Prop:=Z.Nms .u64 w a l.length (fun j=>l.getD j 0)
theorem aCd {w:World} {B:Nat} {v:Value} {l:List Int} (h:w.ownsRow B 22 1 v l.length (iv6 l)):∃ a C,v=.slice a l.length C∧Nml w a l:=by
 rcases h.2 with ⟨h1,h2⟩ | ⟨g,cap,cur,h1,_,_,h2,h3,_⟩
 ·subst h1
  exact ⟨none,0,by rw [h2],.inl h2⟩
 ·subst h1
  refine ⟨some ⟨g,0,none⟩,cap,rfl,.inr ⟨g,0,rfl,(h.lt g rfl).2,fun j hj=>?_⟩⟩
  have hj':(iv6 l)[j]?=some (.int .u64 (l.getD j 0)):=by
   unfold iv6
   rw [List.getElem?_map,List.getElem?_eq_getElem hj,List.getD_eq_getElem?_getD,List.getElem?_eq_getElem hj]
   rfl
  have:=h.cells (g:=g) rfl j _ hj'
  rw [addr_add] at this
  exact this
theorem own_below {w w':World} {B:Nat} {e:TypeId} {v:Value} {n:Nat} {xs:List Value} (h:w.ownsRow B e 1 v n xs) (hb:Below w.heap.size w w'):w'.ownsRow B e 1 v n xs:=by
 refine ⟨h.1,?_⟩
 rcases h.2 with h | ⟨g,cap,cur,e1,e2,e3,e4⟩
 ·exact .inl h
 ·exact .inr ⟨g,cap,cur,e1,e2,(hb.block _ (Array.getElem?_eq_some_iff.1 e3).1).trans e3,e4⟩
theorem aJ8 (w:World):∀ q,(w.drewN q).heap=w.heap∧(w.drewN q).os=w.os∧(w.drewN q).tape=w.tape∧(w.drewN q).output=w.output:=by
 intro q
 induction q with
 | zero => exact ⟨rfl, rfl, rfl, rfl⟩
 | succ q ih => exact ih
theorem below_drewN {B:Nat} {w w':World} (h:Below B w w') (q:Nat):Below B w (w'.drewN q):=by
 obtain ⟨h1,h2,h3,h4⟩:=aJ8 w' q
 exact ⟨h2.trans h.os,h3.trans h.tape,h4.trans h.output,by rw [h1];exact h.size,fun k hk=>by rw [h1];exact h.block k hk⟩
theorem aB9 {k:IntKind} {a b:Int} (h:a=b):Ending.returned (.int k a)=.returned (.int k b):=by rw [h]
theorem aBX {a b:Bool} (h:a=b):Ending.returned (.bool a)=.returned (.bool b):=by rw [h]
theorem aDj {w:World} {b o:Nat} {v:aA5} (h:w.rangeAt b o (aAW (aA3 v))):w.cell? ⟨b,o+80,none⟩=some (.int .u64 v.f2):=h 80 _ rfl
end
section
open Go.RowKit
set_option linter.unusedVariables false
set_option linter.unusedSimpArgs false
set_option maxRecDepth 20000
structure Lk (w:World) (x:aA1):Prop where
 el:Els w x.f11.a x.f11.n 86 (fun i=>aAW (aA3 (x.f11.z i)))
 nb:x.f11.n≤65536
 ef:∀ j,j < x.f11.n→0≤(x.f11.z j).f2∧(x.f11.z j).f2≤32000000000
 sl:0≤x.f2∧x.f2 < 1099511627776
theorem Lk.below {w w':World} {x:aA1} (h:Lk w x) (hb:Below w.heap.size w w'):Lk w' x:=⟨h.el.below hb,h.nb,h.ef,h.sl⟩
attribute [local go_sem ↓] aAq aAr aAz aAi aAl aAw
theorem aBf (w:World) (b off len cap i:Nat) (h:i < len):(aC1 (.slice (some ⟨b,off,none⟩) len cap) (.int .u64 i)).run Tryz.prog w=.ok (.pointer (some ⟨b,off+86*i,none⟩)) w:=by
 unfold aC1 Instr.indexAt
 have h1:(0:Int)≤(i:Int)∧(i:Int) < (len:Int):=by omega
 simp only [asIntOf,Sem.run_bind,Sem.run_pure,Result.andThen_ok,run_underlying Tryz.underlying36,if_pos h1,aEf,Addr.add_mid,Int.toNat_natCast]
 rw [Nat.mul_comm]
set_option maxHeartbeats 1000000 in
theorem aHT (v : aA5) (e : Int) (w : World) :
    Calls Tryz.prog 123 #[.agg (cel (aA3 v)),.int .u64 e] w fun e' w'=>e'=.returned (.bool (aEz v e))∧Below w.heap.size w w':=by
 obtain ⟨W0,hW0⟩:∃ W,w.alloc (.cells (cel (aA3 v)) 65)=W:=⟨_,rfl⟩
 have r0:W0.heap[w.heap.size]?=some (.cells (cel (aA3 v)) 65):=by rw [←hW0];exact aA2 rfl
 have hB0:Below w.heap.size w W0:=by rw [←hW0];exact (Below.refl _ _).alloc (Nat.le_refl _) _
 have l5:=aAH r0 5 v.f5 rfl 83 rfl
 have l6:=aAH r0 6 v.f6 rfl 84 rfl
 have hE:aEz v e=(decide (v.f5≤e) && decide (e < v.f6)):=rfl
 generalize v.f5=p at *
 generalize v.f6=q at *
 have HB:=hid hB0
 have HW:=hid hW0
 have HE:=hid hE
 clear hB0 hW0 r0 hE
 by_cases h:p≤e
 ·have d1:decide (p≤e)=true:=by simp [h]
  go_enter Tryz.func123,Tryz.ntmps123
  go_upto_region 1 with fail
  rw [HW.out]
  clear HW
  go_wp2
  go_ret
  exact ⟨aBX (by rw [HE.out,d1,Bool.true_and]),HB.out⟩
 ·have d1:decide (p≤e)=false:=by simp [h]
  go_enter Tryz.func123,Tryz.ntmps123
  go_upto_region 1 with fail
  rw [HW.out]
  clear HW
  go_wp2
  go_ret
  exact ⟨aBX (by rw [HE.out,d1,Bool.false_and]),HB.out⟩
set_option maxHeartbeats 1000000 in
theorem aJw (v : aA5) (e : Int) (w : World) :
    Calls Tryz.prog 21 #[.agg (cel (aA3 v)),.int .u64 e] w fun e' w'=>e'=.returned (.bool (aMn v e))∧Below w.heap.size w w':=by
 obtain ⟨W0,hW0⟩:∃ W,w.alloc (.cells (cel (aA3 v)) 65)=W:=⟨_,rfl⟩
 have r0:W0.heap[w.heap.size]?=some (.cells (cel (aA3 v)) 65):=by rw [←hW0];exact aA2 rfl
 have hB0:Below w.heap.size w W0:=by rw [←hW0];exact (Below.refl _ _).alloc (Nat.le_refl _) _
 have l3:=aEF r0 3 v.f3 rfl 81 rfl
 have l5:=aAH r0 5 v.f5 rfl 83 rfl
 have l7:=aAH r0 7 v.f7 rfl 85 rfl
 have hE:aMn v e=(!v.f3 && (decide (v.f5≤e) && decide (e < v.f7))):=rfl
 generalize v.f3=s at *
 generalize v.f5=p at *
 generalize v.f7=q at *
 have HB:=hid hB0
 have HW:=hid hW0
 have HE:=hid hE
 clear hB0 hW0 r0 hE
 cases s
 ·by_cases h:p≤e
  ·have d1:decide (p≤e)=true:=by simp [h]
   go_enter Tryz.func21,Tryz.ntmps21
   go_upto_region 1 with fail
   rw [HW.out]
   clear HW
   go_wp2
   go_ret
   exact ⟨aBX (by rw [HE.out,d1];rfl),HB.out⟩
  ·have d1:decide (p≤e)=false:=by simp [h]
   go_enter Tryz.func21,Tryz.ntmps21
   go_upto_region 1 with fail
   rw [HW.out]
   clear HW
   go_wp2
   go_ret
   exact ⟨aBX (by rw [HE.out,d1];rfl),HB.out⟩
 ·go_enter Tryz.func21,Tryz.ntmps21
  go_upto_region 1 with fail
  rw [HW.out]
  clear HW
  go_wp2
  go_ret
  exact ⟨aBX (by rw [HE.out];rfl),HB.out⟩
set_option maxHeartbeats 1000000 in
theorem aD6 (x : aA1) (w : World) (h0 : 0 ≤ x.f2) (h1 : x.f2 < 1099511627776) :
    Calls Tryz.prog 22 #[.agg (cel (aA0 x))] w fun e' w'=>e'=.returned (.int .u64 (x.f2 / 4))∧Below w.heap.size w w':=by
 obtain ⟨W0,hW0⟩:∃ W,w.alloc (.cells (cel (aA0 x)) 49)=W:=⟨_,rfl⟩
 have r0:W0.heap[w.heap.size]?=some (.cells (cel (aA0 x)) 49):=by rw [←hW0];exact aA2 rfl
 have hB0:Below w.heap.size w W0:=by rw [←hW0];exact (Below.refl _ _).alloc (Nat.le_refl _) _
 have l2:=cS2 r0
 generalize x.f2=p at *
 have HB:=hid hB0
 have HW:=hid hW0
 clear hB0 hW0 r0
 go_enter Tryz.func22,Tryz.ntmps22
 go_upto_region 1 with fail
 rw [HW.out]
 clear HW
 go_wp2
 go_ret
 exact ⟨aB9 rfl,HB.out⟩
theorem aBO {w:World} {B B':Nat} {e:TypeId} {s n:Nat} {v:Value} {xs:List Value} (h:w.ownsRow B e s v n xs) (hB:B'≤B):w.ownsRow B' e s v n xs:=by
 refine ⟨h.1,?_⟩
 rcases h.2 with h | ⟨g,cap,cur,e1,e2,e3⟩
 ·exact .inl h
 ·exact .inr ⟨g,cap,cur,e1,Nat.le_trans hB e2,e3⟩
set_option maxHeartbeats 2000000 in
theorem aEC (x : aA1) (e : Int) (w : World) (hx : Lk w x) :
    Calls Tryz.prog 98 #[.agg (cel (aA0 x)),.int .u64 e] w fun e' w'=>∃ v,e'=.returned v∧w'.ownsRow w.heap.size 22 1 v (acL x.f11.z e x.f11.n).length (iv6 (acL x.f11.z e x.f11.n))∧Below w.heap.size w w':=by
 obtain ⟨W0,hW0⟩:∃ W,w.alloc (.cells (cel (aA0 x)) 49)=W:=⟨_,rfl⟩
 have r0:W0.heap[w.heap.size]?=some (.cells (cel (aA0 x)) 49):=by rw [←hW0];exact aA2 rfl
 have hB0:Below w.heap.size w W0:=by rw [←hW0];exact (Below.refl _ _).alloc (Nat.le_refl _) _
 have z0:w.heap.size < W0.heap.size:=(Array.getElem?_eq_some_iff.1 r0).1
 have hcs:∀ W:World,Below W0.heap.size W0 W→W.cell? ⟨w.heap.size,721,none⟩=some (.slice x.f11.a x.f11.n x.f11.c):=fun W h=>aFv ((h.block _ z0).trans r0)
 have hel:=hx.el.below hB0
 have hnb:=hx.nb
 generalize x.f11.a=A at *
 generalize x.f11.n=n at *
 generalize x.f11.c=C at *
 generalize x.f11.z=z at *
 have HB:=hid hB0
 have HW:=hid hW0
 have HC:=hid hcs
 have HE:=hid hel
 clear hB0 hW0 r0 hcs hel hx
 go_enter Tryz.func98,Tryz.ntmps98
 go_upto_region 1 with fail
 rw [HW.out]
 clear HW
 go_wp2
 go_loopw [5,6] (fun v c wr=>∃ (k:Nat) (v':Value),k≤n∧v=v'∧c=.int .i64 k∧wr.ownsRow W0.heap.size 22 1 v' (acL z e k).length (iv6 (acL z e k))∧Below W0.heap.size W0 wr) (fun _ c _=>n - (intOf c).toNat)
 case atStart=>exact ⟨0,_,by omega,rfl,rfl,World.ownsRow_nil _ _ _ _,Below.refl _ _⟩
 case round =>
  obtain ⟨k,v,hk,ev,rfl,ho,hw⟩:=hrel
  obtain rfl:=ev.symm
  clear ev
  have c0:=HC.out wr hw
  by_cases hkn:k < n
  ·have k1:(k:Int) < (n:Int):=by omega
   have k2:(0:Int)≤(k:Int):=by omega
   have kw:IntKind.u64.wrap (k:Int)=(k:Int):=by rw [IntKind.wrap_u64];omega
   rcases HE.out.below hw with h0 | ⟨b,off,ea,hbl,hc⟩
   ·omega
   subst ea
   have lv:=aB2 (hc k hkn)
   have ix:=fun W=>aB7 W b off n C k hkn
   obtain ⟨P,eP⟩:∃ P,off+86*k=P:=⟨_,rfl⟩
   rw [eP] at lv
   simp only [eP] at ix
   have hact:=fun W:World=>aHT (z k) e W
   have hln:=aEQ z e k
   have hstep:acL z e (k+1)=if aEz (z k) e=true then acL z e k++[(k:Int)] else acL z e k:=rfl
   obtain ⟨b',hb'⟩:∃ b,aEz (z k) e=b:=⟨_,rfl⟩
   rw [hb'] at hact hstep
   obtain ⟨V,hV⟩:∃ V,z k=V:=⟨_,rfl⟩
   rw [hV] at lv hact
   have HACT:=hid hact
   have HO:=hid ho
   have HW:=hid hw
   have HST:=hid hstep
   clear hact ho hw hstep hc hbl eP hb' hV
   cases b'
   ·go_wp2_with (go_at_call 123;refine (HACT.out _).mono ?_;rintro e' w1 ⟨rfl,hb1⟩)
    have ho1:=own_below HO.out hb1
    have hw1:=HW.out.trans (hb1.mono HW.out.size)
    go_roundw
    case rel=>exact ⟨k+1,_,by omega,rfl,by go_num,by rw [HST.out];exact ho1,hw1⟩
    case measure=>simp [intOf];omega
   ·go_upto_region 6 with (go_at_call 123;refine (HACT.out _).mono ?_;rintro e' w1 ⟨rfl,hb1⟩)
    have ho1:=own_below HO.out hb1
    have hw1:=HW.out.trans (hb1.mono HW.out.size)
    have HO1:=hid ho1
    have HW1:=hid hw1
    clear ho1 hw1 hb1 HO HW lv c0
    go_wp2_with (at_builtin;(refine aB5 w1 rfl _ _ rfl W0.heap.size v (acL z e k) (k:Int) rfl HO1.out rfl (by omega) HW1.out.size ?_);intro v2 w2 ho2 hg2)
    have hb2:=below_grown HW1.out HO1.out HW1.out.size hg2
    go_roundw
    case rel=>exact ⟨k+1,_,by omega,rfl,by go_num,by rw [HST.out];exact ho2,hb2⟩
    case measure=>simp [intOf];omega
  ·obtain rfl:k=n:=by omega
   have HW:=hid hw
   have HO:=hid ho
   clear hw ho
   go_wp2
   go_ret
   exact ⟨v,rfl,aBO HO.out HB.out.size,HB.out.trans (HW.out.mono (by omega))⟩
theorem aGX (x : aA1) (e : Int) (w : World) (hx : Lk w x) :
    Calls Tryz.prog 98 #[.agg (cel (aA0 x)),.int .u64 e] w fun e' w'=>∃ a c,e'=.returned (.slice a (acL x.f11.z e x.f11.n).length c)∧Nml w' a (acL x.f11.z e x.f11.n)∧Below w.heap.size w w':=by
 refine (aEC x e w hx).mono ?_
 rintro e' w' ⟨v,rfl,ho,hb⟩
 obtain ⟨a',C',rfl,hn⟩:=aCd ho
 exact ⟨a',C',rfl,hn,hb⟩
end
end Go.Proofs.YtdjplhibmomajaaGreatDoor
