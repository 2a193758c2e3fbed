/- A part. -/
import Derived.Test.YtdjplhibmomajaaGreatDoorQC
import Derived.Test.YtdjplhibmomajaaGreatDoorQB
import Derived.Test.YtdjplhibmomajaaGreatDoorShelf
namespace Go.Proofs.YtdjplhibmomajaaGreatDoor
open Go.RowKit
set_option linter.unusedVariables false
set_option linter.unusedSimpArgs false
set_option maxRecDepth 20000
attribute [local go_sem ↓] aAq aAr aAz aAi aAl
def aD9 (x:aA1):Bool:=decide ((x.f7.n:Int)≤1024) && decide ((x.f9.n:Int)≤8) && decide ((x.f11.n:Int)≤65536) && decide ((x.f12.n:Int)≤65536) && decide ((x.f15.n:Int)≤65536) && decide ((x.f16.n:Int)≤65536) && decide ((x.f21.n:Int)≤65536)
set_option maxHeartbeats 1000000 in
theorem aPg (x : aA1) (w : World) :
    Calls Tryz.prog 35 #[.agg (cel (aA0 x))] w fun e w'=>e=.returned (.bool (aD9 x))∧Below w.heap.size w w':=by
 obtain ⟨W0,hW0⟩:∃ W,w.alloc (.cells (cel (aA0 x)) 49)=W:=⟨_,rfl⟩
 have hB0:Below w.heap.size w W0:=by rw [←hW0];exact (Below.refl _ _).alloc (Nat.le_refl _) _
 have r0:W0.heap[w.heap.size]?=some (.cells (cel (aA0 x)) 49):=by rw [←hW0];exact aA2 rfl
 have z0:w.heap.size < W0.heap.size:=by rw [←hW0];simp
 obtain ⟨y,ey⟩:∃ y,w.heap.size=y:=⟨_,rfl⟩
 have l7:W0.cell? ⟨y,653,none⟩=some (.slice x.f7.a x.f7.n x.f7.c):=by rw [←ey];exact cS7 r0
 have l9:W0.cell? ⟨y,719,none⟩=some (.slice x.f9.a x.f9.n x.f9.c):=by rw [←ey];exact cS9 r0
 have l11:W0.cell? ⟨y,721,none⟩=some (.slice x.f11.a x.f11.n x.f11.c):=by rw [←ey];exact aFv r0
 have l12:W0.cell? ⟨y,722,none⟩=some (.slice x.f12.a x.f12.n x.f12.c):=by rw [←ey];exact aMz r0
 have l15:W0.cell? ⟨y,987,none⟩=some (.slice x.f15.a x.f15.n x.f15.c):=by rw [←ey];exact aQP r0
 have l16:W0.cell? ⟨y,988,none⟩=some (.slice x.f16.a x.f16.n x.f16.c):=by rw [←ey];exact aQQ r0
 have l21:W0.cell? ⟨y,1092,none⟩=some (.slice x.f21.a x.f21.n x.f21.c):=by rw [←ey];exact aO8 r0
 have HB0w:=hid hB0
 clear hB0 r0
 by_cases h0:(x.f7.n:Int)≤1024
 ·skip
  by_cases h1:(x.f9.n:Int)≤8
  ·skip
   by_cases h2:(x.f11.n:Int)≤65536
   ·skip
    by_cases h3:(x.f12.n:Int)≤65536
    ·skip
     by_cases h4:(x.f15.n:Int)≤65536
     ·skip
      by_cases h5:(x.f16.n:Int)≤65536
      ·skip
       by_cases h6:(x.f21.n:Int)≤65536
       ·skip
        have FB:=hid (show aD9 x=true from by unfold aD9;rw [decide_eq_true h0,decide_eq_true h1,decide_eq_true h2,decide_eq_true h3,decide_eq_true h4,decide_eq_true h5,decide_eq_true h6];simp only [Bool.and_false,Bool.false_and,Bool.true_and,Bool.and_true])
        go_enter Tryz.func35,Tryz.ntmps35
        go_upto_region 1 with fail
        clear hW0 ey z0
        go_wp2
        go_ret
        exact ⟨by rw [FB.out];rfl,HB0w.out⟩
       ·skip
        have FB:=hid (show aD9 x=false from by unfold aD9;rw [decide_eq_true h0,decide_eq_true h1,decide_eq_true h2,decide_eq_true h3,decide_eq_true h4,decide_eq_true h5,decide_eq_false h6];simp only [Bool.and_false,Bool.false_and,Bool.true_and,Bool.and_true])
        go_enter Tryz.func35,Tryz.ntmps35
        go_upto_region 1 with fail
        clear hW0 ey z0
        go_wp2
        go_ret
        exact ⟨by rw [FB.out];rfl,HB0w.out⟩
      ·skip
       have FB:=hid (show aD9 x=false from by unfold aD9;rw [decide_eq_true h0,decide_eq_true h1,decide_eq_true h2,decide_eq_true h3,decide_eq_true h4,decide_eq_false h5];simp only [Bool.and_false,Bool.false_and,Bool.true_and,Bool.and_true])
       go_enter Tryz.func35,Tryz.ntmps35
       go_upto_region 1 with fail
       clear hW0 ey z0
       go_wp2
       go_ret
       exact ⟨by rw [FB.out];rfl,HB0w.out⟩
     ·skip
      have FB:=hid (show aD9 x=false from by unfold aD9;rw [decide_eq_true h0,decide_eq_true h1,decide_eq_true h2,decide_eq_true h3,decide_eq_false h4];simp only [Bool.and_false,Bool.false_and,Bool.true_and,Bool.and_true])
      go_enter Tryz.func35,Tryz.ntmps35
      go_upto_region 1 with fail
      clear hW0 ey z0
      go_wp2
      go_ret
      exact ⟨by rw [FB.out];rfl,HB0w.out⟩
    ·skip
     have FB:=hid (show aD9 x=false from by unfold aD9;rw [decide_eq_true h0,decide_eq_true h1,decide_eq_true h2,decide_eq_false h3];simp only [Bool.and_false,Bool.false_and,Bool.true_and,Bool.and_true])
     go_enter Tryz.func35,Tryz.ntmps35
     go_upto_region 1 with fail
     clear hW0 ey z0
     go_wp2
     go_ret
     exact ⟨by rw [FB.out];rfl,HB0w.out⟩
   ·skip
    have FB:=hid (show aD9 x=false from by unfold aD9;rw [decide_eq_true h0,decide_eq_true h1,decide_eq_false h2];simp only [Bool.and_false,Bool.false_and,Bool.true_and,Bool.and_true])
    go_enter Tryz.func35,Tryz.ntmps35
    go_upto_region 1 with fail
    clear hW0 ey z0
    go_wp2
    go_ret
    exact ⟨by rw [FB.out];rfl,HB0w.out⟩
  ·skip
   have FB:=hid (show aD9 x=false from by unfold aD9;rw [decide_eq_true h0,decide_eq_false h1];simp only [Bool.and_false,Bool.false_and,Bool.true_and,Bool.and_true])
   go_enter Tryz.func35,Tryz.ntmps35
   go_upto_region 1 with fail
   clear hW0 ey z0
   go_wp2
   go_ret
   exact ⟨by rw [FB.out];rfl,HB0w.out⟩
 ·skip
  have FB:=hid (show aD9 x=false from by unfold aD9;rw [decide_eq_false h0];simp only [Bool.and_false,Bool.false_and,Bool.true_and,Bool.and_true])
  go_enter Tryz.func35,Tryz.ntmps35
  go_upto_region 1 with fail
  clear hW0 ey z0
  go_wp2
  go_ret
  exact ⟨by rw [FB.out];rfl,HB0w.out⟩
def aDQ (x:aA1):Bool:=decide ((x.f12.n:Int)=(x.f11.n:Int)) && decide ((x.f15.n:Int)=(x.f11.n:Int)) && decide ((x.f16.n:Int)=(x.f11.n:Int)) && decide ((x.f21.n:Int)=(x.f11.n:Int))
set_option maxHeartbeats 1000000 in
theorem aMT (x : aA1) (w : World) :
    Calls Tryz.prog 36 #[.agg (cel (aA0 x))] w fun e w'=>e=.returned (.bool (aDQ x))∧Below w.heap.size w w':=by
 obtain ⟨W0,hW0⟩:∃ W,w.alloc (.cells (cel (aA0 x)) 49)=W:=⟨_,rfl⟩
 have hB0:Below w.heap.size w W0:=by rw [←hW0];exact (Below.refl _ _).alloc (Nat.le_refl _) _
 have r0:W0.heap[w.heap.size]?=some (.cells (cel (aA0 x)) 49):=by rw [←hW0];exact aA2 rfl
 have z0:w.heap.size < W0.heap.size:=by rw [←hW0];simp
 obtain ⟨y,ey⟩:∃ y,w.heap.size=y:=⟨_,rfl⟩
 have l11:W0.cell? ⟨y,721,none⟩=some (.slice x.f11.a x.f11.n x.f11.c):=by rw [←ey];exact aFv r0
 have l12:W0.cell? ⟨y,722,none⟩=some (.slice x.f12.a x.f12.n x.f12.c):=by rw [←ey];exact aMz r0
 have l15:W0.cell? ⟨y,987,none⟩=some (.slice x.f15.a x.f15.n x.f15.c):=by rw [←ey];exact aQP r0
 have l16:W0.cell? ⟨y,988,none⟩=some (.slice x.f16.a x.f16.n x.f16.c):=by rw [←ey];exact aQQ r0
 have l21:W0.cell? ⟨y,1092,none⟩=some (.slice x.f21.a x.f21.n x.f21.c):=by rw [←ey];exact aO8 r0
 have HB0w:=hid hB0
 clear hB0 r0
 by_cases h0:(x.f12.n:Int)=(x.f11.n:Int)
 ·skip
  by_cases h1:(x.f15.n:Int)=(x.f11.n:Int)
  ·skip
   by_cases h2:(x.f16.n:Int)=(x.f11.n:Int)
   ·skip
    by_cases h3:(x.f21.n:Int)=(x.f11.n:Int)
    ·skip
     have FB:=hid (show aDQ x=true from by unfold aDQ;rw [decide_eq_true h0,decide_eq_true h1,decide_eq_true h2,decide_eq_true h3];simp only [Bool.and_false,Bool.false_and,Bool.true_and,Bool.and_true])
     go_enter Tryz.func36,Tryz.ntmps36
     go_upto_region 1 with fail
     clear hW0 ey z0
     go_wp2
     go_ret
     exact ⟨by rw [FB.out];rfl,HB0w.out⟩
    ·skip
     have nb:((x.f21.n:Int) == (x.f11.n:Int))=false:=beq_eq_false_iff_ne.2 h3
     have FB:=hid (show aDQ x=false from by unfold aDQ;rw [decide_eq_true h0,decide_eq_true h1,decide_eq_true h2,decide_eq_false h3];simp only [Bool.and_false,Bool.false_and,Bool.true_and,Bool.and_true])
     go_enter Tryz.func36,Tryz.ntmps36
     go_upto_region 1 with fail
     clear hW0 ey z0
     go_wp2
     go_ret
     exact ⟨by rw [FB.out];rfl,HB0w.out⟩
   ·skip
    have nb:((x.f16.n:Int) == (x.f11.n:Int))=false:=beq_eq_false_iff_ne.2 h2
    have FB:=hid (show aDQ x=false from by unfold aDQ;rw [decide_eq_true h0,decide_eq_true h1,decide_eq_false h2];simp only [Bool.and_false,Bool.false_and,Bool.true_and,Bool.and_true])
    go_enter Tryz.func36,Tryz.ntmps36
    go_upto_region 1 with fail
    clear hW0 ey z0
    go_wp2
    go_ret
    exact ⟨by rw [FB.out];rfl,HB0w.out⟩
  ·skip
   have nb:((x.f15.n:Int) == (x.f11.n:Int))=false:=beq_eq_false_iff_ne.2 h1
   have FB:=hid (show aDQ x=false from by unfold aDQ;rw [decide_eq_true h0,decide_eq_false h1];simp only [Bool.and_false,Bool.false_and,Bool.true_and,Bool.and_true])
   go_enter Tryz.func36,Tryz.ntmps36
   go_upto_region 1 with fail
   clear hW0 ey z0
   go_wp2
   go_ret
   exact ⟨by rw [FB.out];rfl,HB0w.out⟩
 ·skip
  have nb:((x.f12.n:Int) == (x.f11.n:Int))=false:=beq_eq_false_iff_ne.2 h0
  have FB:=hid (show aDQ x=false from by unfold aDQ;rw [decide_eq_false h0];simp only [Bool.and_false,Bool.false_and,Bool.true_and,Bool.and_true])
  go_enter Tryz.func36,Tryz.ntmps36
  go_upto_region 1 with fail
  clear hW0 ey z0
  go_wp2
  go_ret
  exact ⟨by rw [FB.out];rfl,HB0w.out⟩
def aGy (x:aA1):Bool:=decide (x.f2 < 1099511627776) && decide (x.f4.f0≤x.f2) && decide (x.f18.f0≤x.f2 / 4) && decide (x.f19.f0≤x.f2 / 4) && decide (x.f20.f0≤x.f2 / 4)
set_option maxHeartbeats 1000000 in
theorem aQv (x : aA1) (w : World) (hx : 0 ≤ x.f2 ∧ x.f2 < 18446744073709551616) :
    Calls Tryz.prog 37 #[.agg (cel (aA0 x))] w fun e w'=>e=.returned (.bool (aGy x))∧Below w.heap.size w w':=by
 obtain ⟨W0,hW0⟩:∃ W,w.alloc (.cells (cel (aA0 x)) 49)=W:=⟨_,rfl⟩
 have hB0:Below w.heap.size w W0:=by rw [←hW0];exact (Below.refl _ _).alloc (Nat.le_refl _) _
 have r0:W0.heap[w.heap.size]?=some (.cells (cel (aA0 x)) 49):=by rw [←hW0];exact aA2 rfl
 have z0:w.heap.size < W0.heap.size:=by rw [←hW0];simp
 obtain ⟨y,ey⟩:∃ y,w.heap.size=y:=⟨_,rfl⟩
 have l2:W0.cell? ⟨y,33,none⟩=some (.int .u64 x.f2):=by rw [←ey];exact cS2 r0
 have l4:W0.cell? ⟨y,43,none⟩=some (.int .u64 x.f4.f0):=by rw [←ey];exact cS4 r0
 have l18:W0.cell? ⟨y,993,none⟩=some (.int .u64 x.f18.f0):=by rw [←ey];exact aV4 r0
 have l19:W0.cell? ⟨y,1026,none⟩=some (.int .u64 x.f19.f0):=by rw [←ey];exact aV5 r0
 have l20:W0.cell? ⟨y,1059,none⟩=some (.int .u64 x.f20.f0):=by rw [←ey];exact aV6 r0
 have HB0w:=hid hB0
 obtain ⟨hx0,hx1⟩:=hx
 clear hB0 r0
 by_cases h0:x.f2 < 1099511627776
 ·skip
  by_cases h1:x.f4.f0≤x.f2
  ·skip
   by_cases h2:x.f18.f0≤x.f2 / 4
   ·skip
    by_cases h3:x.f19.f0≤x.f2 / 4
    ·skip
     by_cases h4:x.f20.f0≤x.f2 / 4
     ·skip
      have FB:=hid (show aGy x=true from by unfold aGy;rw [decide_eq_true h0,decide_eq_true h1,decide_eq_true h2,decide_eq_true h3,decide_eq_true h4];simp only [Bool.and_false,Bool.false_and,Bool.true_and,Bool.and_true])
      go_enter Tryz.func37,Tryz.ntmps37
      go_upto_region 1 with fail
      clear hW0 ey z0
      go_wp2
      go_ret
      exact ⟨by rw [FB.out];rfl,HB0w.out⟩
     ·skip
      have FB:=hid (show aGy x=false from by unfold aGy;rw [decide_eq_true h0,decide_eq_true h1,decide_eq_true h2,decide_eq_true h3,decide_eq_false h4];simp only [Bool.and_false,Bool.false_and,Bool.true_and,Bool.and_true])
      go_enter Tryz.func37,Tryz.ntmps37
      go_upto_region 1 with fail
      clear hW0 ey z0
      go_wp2
      go_ret
      exact ⟨by rw [FB.out];rfl,HB0w.out⟩
    ·skip
     have FB:=hid (show aGy x=false from by unfold aGy;rw [decide_eq_true h0,decide_eq_true h1,decide_eq_true h2,decide_eq_false h3];simp only [Bool.and_false,Bool.false_and,Bool.true_and,Bool.and_true])
     go_enter Tryz.func37,Tryz.ntmps37
     go_upto_region 1 with fail
     clear hW0 ey z0
     go_wp2
     go_ret
     exact ⟨by rw [FB.out];rfl,HB0w.out⟩
   ·skip
    have FB:=hid (show aGy x=false from by unfold aGy;rw [decide_eq_true h0,decide_eq_true h1,decide_eq_false h2];simp only [Bool.and_false,Bool.false_and,Bool.true_and,Bool.and_true])
    go_enter Tryz.func37,Tryz.ntmps37
    go_upto_region 1 with fail
    clear hW0 ey z0
    go_wp2
    go_ret
    exact ⟨by rw [FB.out];rfl,HB0w.out⟩
  ·skip
   have FB:=hid (show aGy x=false from by unfold aGy;rw [decide_eq_true h0,decide_eq_false h1];simp only [Bool.and_false,Bool.false_and,Bool.true_and,Bool.and_true])
   go_enter Tryz.func37,Tryz.ntmps37
   go_upto_region 1 with fail
   clear hW0 ey z0
   go_wp2
   go_ret
   exact ⟨by rw [FB.out];rfl,HB0w.out⟩
 ·skip
  have FB:=hid (show aGy x=false from by unfold aGy;rw [decide_eq_false h0];simp only [Bool.and_false,Bool.false_and,Bool.true_and,Bool.and_true])
  go_enter Tryz.func37,Tryz.ntmps37
  go_upto_region 1 with fail
  clear hW0 ey z0
  go_wp2
  go_ret
  exact ⟨by rw [FB.out];rfl,HB0w.out⟩
end Go.Proofs.YtdjplhibmomajaaGreatDoor
namespace Go.Proofs.YtdjplhibmomajaaGreatDoor
open Go.RowKit
set_option linter.unusedVariables false
set_option linter.unusedSimpArgs false
set_option maxRecDepth 20000
attribute [local go_sem ↓] aAq aAr aAz aAi aAl
def epB (n:Int):Bool:=decide (n=18446744073709551615) || decide (n < 2199023255552)
set_option maxHeartbeats 1000000 in
theorem aGG (n : Int) (w : World) :
    Calls Tryz.prog 75 #[.int .u64 n] w fun e w'=>e=.returned (.bool (epB n))∧w'=w:=by
 by_cases h:n=18446744073709551615
 ·have hb:(n == 18446744073709551615)=true:=by simp;exact h
  have e:epB n=true:=by unfold epB;simp [h]
  have E:=hid e
  clear h e
  go_enter Tryz.func75,Tryz.ntmps75
  go_wp2
  go_ret
  exact ⟨by rw [E.out];rfl,rfl⟩
 ·have hb:(n == 18446744073709551615)=false:=by simp;exact h
  have e:epB n=decide (n < 2199023255552):=by unfold epB;simp [h]
  have E:=hid e
  clear h e
  go_enter Tryz.func75,Tryz.ntmps75
  go_wp2
  go_ret
  exact ⟨by rw [E.out];rfl,rfl⟩
def aHn (z:Nat→Int):Nat→Int
 | 0 => 0
 | k + 1 => aHn z k + z k
theorem aIS {z:Nat→Int} {n:Nat} (h:∀ j,j < n→0≤z j):∀ k,k≤n→0≤aHn z k
 | 0, _ => Int.le_refl 0
 | k + 1, hk => Int.add_nonneg (aIS h k (by omega)) (h k (by omega))
theorem aFi {z:Nat→Int} {n:Nat} (h:∀ j,j < n→0≤z j) (k:Nat) (hk:k≤n):∀ d,k+d≤n→aHn z k≤aHn z (k+d)
 | 0, _ => Int.le_refl _
 | d + 1, hd => Int.le_trans (aFi h k hk d (by omega)) (by
  show aHn z (k+d)≤aHn z (k+d)+z (k+d)
  have:=h (k+d) (by omega)
  omega)
def aEH (z:Nat→Int) (n:Nat) (most:Int):Bool:=decide (aHn z n≤most)
set_option maxHeartbeats 1000000 in
theorem aLG (z : Nat → Int) (a : Option Addr) (n c : Nat) (most : Int) (w : World) (hn : Z.Nms .u64 w a n z) (hz : ∀ j, j < n → 0 ≤ z j ∧ z j < 18446744073709551616) (h0 : 0 ≤ most) (h1 : most < 18446744073709551616) (hnb : n ≤ 9223372036854775807) :
    Calls Tryz.prog 40 #[.slice a n c,.int .u64 most] w fun e w'=>e=.returned (.bool (aEH z n most))∧w'=w:=by
 have HN:=hid hn
 have HZ:=hid hz
 clear hn hz
 go_enter Tryz.func40,Tryz.ntmps40
 go_wp2
 go_loop [5,11] (fun l i=>∃ (k:Nat) (L:Int),k≤n∧i=.int .i64 k∧l=.int .u64 L∧0≤L∧L=most - aHn z k) (fun _ i=>n - (intOf i).toNat)
 case atStart=>exact ⟨0,most,by omega,rfl,rfl,h0,by simp [aHn]⟩
 case round =>
  obtain ⟨k,L,hk,rfl,rfl,hL,eL⟩:=hrel
  have EL:=hid eL
  clear eL
  have hp:=aIS (fun j hj=>(HZ.out j hj).1) k hk
  have hL1:L < 18446744073709551616:=by have:=EL.out;omega
  clear hp
  by_cases hlt:k < n
  ·have b1:decide (k < n)=true:=by simp;omega
   have k1:(k:Int) < (n:Int):=by omega
   have k2:(0:Int)≤(k:Int):=by omega
   rcases HN.out with h | ⟨b,off,rfl,hb1,hc⟩
   ·omega
   have ck:=hc k hlt
   have hzk:=HZ.out k hlt
   have hs:Hid (aHn z (k+1)=aHn z k+z k):=rfl
   obtain ⟨Z,eZ⟩:∃ Z,z k=Z:=⟨_,rfl⟩
   rw [eZ] at ck hzk hs
   obtain ⟨hz0,hz1⟩:=hzk
   clear hc eZ
   by_cases hle:Z≤L
   ·have hng:¬ L < Z:=by omega
    go_wp2
    go_round
    case rel=>exact ⟨k+1,L - Z,by omega,by go_num,rfl,by omega,by rw [hs.out,EL.out];omega⟩
    case measure=>simp [intOf];omega
   ·have hgt:L < Z:=by omega
    have F:Hid (aEH z n most=false):=by
     have hm:=aFi (fun j hj=>(HZ.out j hj).1) (k+1) (by omega) (n - (k+1)) (by omega)
     rw [show k+1+(n - (k+1))=n by omega,hs.out] at hm
     have e:=EL.out
     unfold aEH
     exact decide_eq_false (by omega)
    go_wp2
    go_ret
    exact ⟨by rw [F.out];rfl,rfl⟩
  ·have b1:decide (k < n)=false:=by simp;omega
   have k1:¬ (k:Int) < (n:Int):=by omega
   have F:Hid (aEH z n most=true):=by
    have e:=EL.out
    rw [show k=n by omega] at e
    unfold aEH
    exact decide_eq_true (by omega)
   go_wp2
   go_ret
   exact ⟨by rw [F.out];rfl,rfl⟩
def aLr (z:Nat→Int) (n:Nat):Bool:=(List.range n).all fun i=>decide (z i≤1099511627776)
theorem aLs {z:Nat→Int} {n:Nat} (h:∀ i,i < n→z i≤1099511627776):aLr z n=true:=by
 unfold aLr
 rw [List.all_eq_true]
 intro i hi
 exact decide_eq_true (h i (List.mem_range.1 hi))
theorem aJC {z:Nat→Int} {n i:Nat} (hi:i < n) (h:¬ z i≤1099511627776):aLr z n=false:=by
 unfold aLr
 rw [List.all_eq_false]
 exact ⟨i,List.mem_range.2 hi,by simpa using h⟩
set_option maxHeartbeats 1000000 in
theorem aPW (z : Nat → Int) (a : Option Addr) (n c : Nat) (w : World) (hn : Z.Nms .u64 w a n z) (hz : ∀ j, j < n → 0 ≤ z j ∧ z j < 18446744073709551616) (hnb : n ≤ 9223372036854775807) :
    Calls Tryz.prog 39 #[.slice a n c] w fun e w'=>e=.returned (.bool (aLr z n))∧w'=w:=by
 have HN:=hid hn
 have HZ:=hid hz
 clear hn hz
 go_enter Tryz.func39,Tryz.ntmps39
 go_wp2
 go_loop [7] (fun i=>∃ (k:Nat),k≤n∧i=.int .i64 k∧∀ j,j < k→z j≤1099511627776) (fun i=>n - (intOf i).toNat)
 case atStart=>exact ⟨0,by omega,rfl,fun j hj=>by omega⟩
 case round =>
  obtain ⟨k,hk,rfl,hL⟩:=hrel
  have HL:=hid hL
  clear hL
  by_cases hlt:k < n
  ·have b1:decide (k < n)=true:=by simp;omega
   have k1:(k:Int) < (n:Int):=by omega
   have k2:(0:Int)≤(k:Int):=by omega
   rcases HN.out with h | ⟨b,off,rfl,hb1,hc⟩
   ·omega
   have ck:=hc k hlt
   by_cases hle:z k≤1099511627776
   ·have HE:=hid hle
    have hng:¬ 1099511627776 < z k:=by omega
    clear hle
    go_wp2
    go_round
    case rel=>exact ⟨k+1,by omega,by go_num,fun j hj=>by
     by_cases e:j=k
     ·rw [e];exact HE.out
     ·exact HL.out j (by omega)⟩
    case measure=>simp [intOf];omega
   ·have hgt:1099511627776 < z k:=by omega
    have F:Hid (aLr z n=false):=aJC hlt hle
    clear hle
    go_wp2
    go_ret
    exact ⟨by rw [F.out];rfl,rfl⟩
  ·have b1:decide (k < n)=false:=by simp;omega
   have k1:¬ (k:Int) < (n:Int):=by omega
   have F:Hid (aLr z n=true):=aLs fun i hi=>HL.out i (by omega)
   go_wp2
   go_ret
   exact ⟨by rw [F.out];rfl,rfl⟩
end Go.Proofs.YtdjplhibmomajaaGreatDoor
namespace Go.Proofs.YtdjplhibmomajaaGreatDoor
open Go.RowKit
set_option linter.unusedVariables false
set_option linter.unusedSimpArgs false
set_option maxRecDepth 20000
attribute [local go_sem ↓] aAu aAt aAF aBJ
def eB (K:Nat) (g:Nat→Nat→Int) (q:Nat):Int:=g (q / K) (q % K)
theorem aR5 (f:Nat→Int) (n k:Nat):bl f n++bl (fun q=>f (n+q)) k=bl f (n+k):=by
 unfold bl
 rw [List.range_add,List.map_append,List.map_map]
 rfl
theorem aET (K:Nat) (hK:0 < K) (g:Nat→Nat→Int) (k:Nat):bl (eB K g) (K*k)++bl (g k) K=bl (eB K g) (K*(k+1)):=by
 have h:bl (g k) K=bl (fun q=>eB K g (K*k+q)) K:=aCE fun i hi=>by
  show g k i=g ((K*k+i) / K) ((K*k+i) % K)
  rw [Nat.mul_add_div hK,Nat.div_eq_of_lt hi,Nat.add_zero,Nat.mul_add_mod,Nat.mod_eq_of_lt hi]
 rw [h,aR5,Nat.mul_add,Nat.mul_one]
def aKw (x i:Value):Sem Value:=Instr.indexAt 35 x i
theorem aE8 (x i:Value):Instr.indexAt 35 x i=aKw x i:=rfl
theorem aNr (w:World):(sizeOf 34).run Tryz.prog w=.ok 65 w:=by
 have hi:(Tryz.prog.info? 34).map (·.size)=some 65:=by kernel_rfl
 cases hq:Tryz.prog.info? 34 with
 | none => simp [hq] at hi
 | some i => simp [hq] at hi; simp [sizeOf, typeInfo, hq, hi]
theorem aJb (w:World) (b off len cap i:Nat) (h:i < len):(aKw (.slice (some ⟨b,off,none⟩) len cap) (.int .i64 i)).run Tryz.prog w=.ok (.pointer (some ⟨b,off+65*i,none⟩)) w:=by
 unfold aKw Instr.indexAt
 have h1:(0:Int)≤(i:Int)∧(i:Int) < (len:Int):=by omega
 simp only [asIntOf,Sem.run_bind,Sem.run_pure,Result.andThen_ok,run_underlying Tryz.underlying35,if_pos h1,aNr,Addr.add_mid,Int.toNat_natCast]
 rw [Nat.mul_comm]
theorem aKF {w:World} {g o:Nat} {x:aDW} (h:w.rangeAt g o (aAW (aBx x))):(aGK ⟨g,o,none⟩).run Tryz.prog w=.ok (.agg (cel (aBx x))) w :=
 aAP (run_loadAt_mid w g o 34 _ _ h Tryz.underlying34 rfl (by rw [aAC,show aCa (aBx x)=65 from rfl];kernel_rfl))
attribute [local go_sem ↓] aC9 aCR aE8
def aC1 (x i:Value):Sem Value:=Instr.indexAt 36 x i
theorem aAw (x i:Value):Instr.indexAt 36 x i=aC1 x i:=rfl
theorem aEf (w:World):(sizeOf 65).run Tryz.prog w=.ok 86 w:=by
 have hi:(Tryz.prog.info? 65).map (·.size)=some 86:=by kernel_rfl
 cases hq:Tryz.prog.info? 65 with
 | none => simp [hq] at hi
 | some i => simp [hq] at hi; simp [sizeOf, typeInfo, hq, hi]
theorem aB7 (w:World) (b off len cap i:Nat) (h:i < len):(aC1 (.slice (some ⟨b,off,none⟩) len cap) (.int .i64 i)).run Tryz.prog w=.ok (.pointer (some ⟨b,off+86*i,none⟩)) w:=by
 unfold aC1 Instr.indexAt
 have h1:(0:Int)≤(i:Int)∧(i:Int) < (len:Int):=by omega
 simp only [asIntOf,Sem.run_bind,Sem.run_pure,Result.andThen_ok,run_underlying Tryz.underlying36,if_pos h1,aEf,Addr.add_mid,Int.toNat_natCast]
 rw [Nat.mul_comm]
theorem aB2 {w:World} {g o:Nat} {x:aA5} (h:w.rangeAt g o (aAW (aA3 x))):(aDc ⟨g,o,none⟩).run Tryz.prog w=.ok (.agg (cel (aA3 x))) w :=
 aAP (run_loadAt_mid w g o 65 _ _ h Tryz.underlying65 rfl (by rw [aAC,show aCa (aA3 x)=86 from rfl];kernel_rfl))
attribute [local go_sem ↓] aAi aAl aAw
end Go.Proofs.YtdjplhibmomajaaGreatDoor
namespace Go.Proofs.YtdjplhibmomajaaGreatDoor.Z
open Go.RowKit
set_option linter.unusedVariables false
set_option linter.unusedSimpArgs false
def bo (g:Nat→Bool):Nat→Nat
 | 0 => 0
 | k + 1 => bo g k + (if g k = true then 2 ^ k else 0)
theorem aR8 (g:Nat→Bool) (k:Nat):bo g k < 2 ^ k:=by
 induction k with
 | zero => simp [bo]
 | succ k ih =>
  unfold bo
  rw [Nat.pow_succ]
  split<;>omega
theorem aR7 (g:Nat→Bool) (n k:Nat):(bo g n).testBit k=(decide (k < n) && g k):=by
 induction n with
 | zero => simp [bo]
 | succ n ih =>
  have hl:=aR8 g n
  unfold bo
  by_cases hg:g n=true
  ·rw [if_pos hg,Nat.add_comm]
   by_cases h:k < n
   ·rw [Nat.testBit_two_pow_add_gt h,ih]
    simp [h,Nat.lt_succ_of_lt h]
   ·by_cases e:k=n
    ·subst e
     rw [Nat.testBit_two_pow_add_eq,Nat.testBit_lt_two_pow hl]
     simp [hg]
    ·rw [Nat.testBit_lt_two_pow]
     ·simp [show ¬ k < n+1 by omega]
     ·have:2 ^ (n+1)≤2 ^ k:=Nat.pow_le_pow_right (by omega) (by omega)
      rw [Nat.pow_succ] at this
      omega
  ·rw [if_neg hg,Nat.add_zero,ih]
   by_cases e:k=n
   ·subst e
    simp at hg
    simp [hg]
   ·have:k < n+1↔k < n:=by omega
    simp [this]
def byt (f:Nat→Bool) (n q:Nat):Nat:=bo (fun k=>decide (8*q+k < n) && f (8*q+k)) 8
theorem aRg (f:Nat→Bool) (n q:Nat):byt f n q < 256:=aR8 _ 8
theorem aDs (f:Nat→Bool) (n q k:Nat):(byt f n q).testBit k=(decide (k < 8) && (decide (8*q+k < n) && f (8*q+k))):=aR7 _ 8 k
theorem aMy (f:Nat→Bool) (q:Nat):byt f 0 q=0:=by
 apply Nat.eq_of_testBit_eq
 intro k
 rw [aDs]
 simp
theorem aK3 (f:Nat→Bool) (n q:Nat) (h:q≠n / 8):byt f (n+1) q=byt f n q:=by
 apply Nat.eq_of_testBit_eq
 intro k
 rw [aDs,aDs]
 by_cases hk:k < 8
 ·have:8*q+k < n+1↔8*q+k < n:=by omega
  simp [this]
 ·simp [hk]
theorem aMx (f:Nat→Bool) (n q:Nat) (h:f n=false):byt f (n+1) q=byt f n q:=by
 apply Nat.eq_of_testBit_eq
 intro k
 rw [aDs,aDs]
 by_cases e:8*q+k=n
 ·rw [e,h]
  simp
 ·have:8*q+k < n+1↔8*q+k < n:=by omega
  simp [this]
theorem aRh (f:Nat→Bool) (n:Nat) (h:f n=true):byt f n (n / 8) ||| 2 ^ (n % 8)=byt f (n+1) (n / 8):=by
 apply Nat.eq_of_testBit_eq
 intro k
 rw [Nat.testBit_or,aDs,aDs,Nat.testBit_two_pow]
 by_cases hk:k < 8
 ·by_cases e:n % 8=k
  ·have e2:8*(n / 8)+k=n:=by omega
   rw [e2,h]
   simp [e,hk]
  ·have:8*(n / 8)+k < n+1↔8*(n / 8)+k < n:=by omega
   simp [this,e]
 ·have:¬ n % 8=k:=by omega
  simp [hk,this]
theorem aP2 (f:Nat→Bool) (n:Nat):byt f n (n / 8) < 2 ^ (n % 8):=by
 apply Nat.lt_pow_two_of_testBit
 intro k hk
 rw [aDs]
 simp [show ¬ 8*(n / 8)+k < n by omega]
theorem aP1 (f:Nat→Bool) (n:Nat) (h:f n=true):byt f n (n / 8)+2 ^ (n % 8)=byt f (n+1) (n / 8):=by
 rw [←aRh f n h,Nat.or_comm,Nat.add_comm]
 have:=Nat.two_pow_add_eq_or_of_lt (aP2 f n) 1
 simpa using this
end Go.Proofs.YtdjplhibmomajaaGreatDoor.Z
namespace Go.Proofs.YtdjplhibmomajaaGreatDoor.Z
open Go.RowKit
set_option linter.unusedVariables false
set_option linter.unusedSimpArgs false
def Bls (w:World) (a:Option Addr) (len cap:Nat) (f:Nat→Bool):Prop :=
 (a=none∧len=0∧cap=0)∨(∃ x,a=some x∧len=0)∨∃ b off,a=some ⟨b,off,none⟩∧len≤cap∧cap≤9223372036854775807∧b < w.heap.size∧∀ j,j < len→w.cell? ⟨b,off+j,none⟩=some (.bool (f j))
theorem Bls.below {w w':World} {a:Option Addr} {len cap:Nat} {f:Nat→Bool} (h:Bls w a len cap f) (hb:Below w.heap.size w w'):Bls w' a len cap f:=by
 rcases h with h | h | ⟨b,off,h1,h2,h3,h4,h5⟩
 ·exact .inl h
 ·exact .inr (.inl h)
 ·exact .inr (.inr ⟨b,off,h1,h2,h3,Nat.lt_of_lt_of_le h4 hb.size,fun j hj=>(aAk hb h4).trans (h5 j hj)⟩)
theorem aR6 {w:World} {a:Option Addr} {len cap:Nat} {f:Nat→Bool} (h:Bls w a len cap f) (j:Nat) (hj:j < len):∃ b off,a=some ⟨b,off,none⟩∧b < w.heap.size∧w.cell? ⟨b,off+j,none⟩=some (.bool (f j)):=by
 rcases h with ⟨_,h,_⟩ | ⟨_,_,h⟩ | ⟨b,off,h1,h2,h3,h4,h5⟩
 ·omega
 ·omega
 ·exact ⟨b,off,h1,h4,h5 j hj⟩
end Go.Proofs.YtdjplhibmomajaaGreatDoor.Z
namespace Go.Proofs.YtdjplhibmomajaaGreatDoor.Z
open Go.RowKit
set_option linter.unusedVariables false
set_option linter.unusedSimpArgs false
theorem aKK (z:Value) (n:Nat):madeCells #[z] n=vals n (fun _=>z):=by
 apply Array.ext_getElem?
 intro j
 by_cases hj:j < n
 ·rw [aNI _ _ _ hj]
  simp [madeCells,hj,Nat.mod_one]
 ·rw [Array.getElem?_eq_none (by rw [size_madeCells];omega),Array.getElem?_eq_none (by rw [aLK];omega)]
theorem aKL (n:Nat):madeCells #[.int .u8 0] n=vs .u8 n (fun _=>0):=aKK _ n
theorem aJg (W:World) (n:Nat) (hn:n≤140737488355328):(Instr.makeSlice 39 (.int .i64 n) (.int .i64 n)).run Tryz.prog W=.ok (.slice (some ⟨W.heap.size,0,none⟩) n n) (W.alloc (.cells (vs .u8 n (fun _=>0)) 5)):=by
 obtain ⟨i,hi,hz0,hz1,hz2⟩:=info_parts aDb
 have h:=run_make (P:=Tryz.prog) W 39 5 i (.int .u8 0) Tryz.underlying39 hi hz0 .i64 .i64 n n (by omega) (Int.le_refl _) (by rw [hz2];omega) (by omega)
 rw [hz1,Int.toNat_natCast,Nat.mul_one] at h
 rw [h,←aKL]
 rfl
theorem aIb {w:World} {a:Option Addr} {len cap:Nat} {m:Nat→Int} (h:Bys w a len cap m) (j:Nat) (hj:j < len):∃ b off,a=some ⟨b,off,none⟩∧b < w.heap.size∧w.cell? ⟨b,off+j,none⟩=some (.int .u8 (m j)):=by
 rcases h with ⟨_,h,_⟩ | ⟨_,_,h⟩ | ⟨b,off,h1,h2,h3,h4,h5⟩
 ·omega
 ·omega
 ·exact ⟨b,off,h1,h4,h5 j hj⟩
end Go.Proofs.YtdjplhibmomajaaGreatDoor.Z
namespace Go.Proofs.YtdjplhibmomajaaGreatDoor.Z
open Go.RowKit
set_option linter.unusedVariables false
set_option linter.unusedSimpArgs false
theorem vs0 (f:Nat→Bool) (N:Nat):vs .u8 N (fun _=>0)=vs .u8 N (fun q=>(byt f 0 q:Int)):=aAO fun q _=>by rw [aMy];rfl
end Go.Proofs.YtdjplhibmomajaaGreatDoor.Z
namespace Go.Proofs.YtdjplhibmomajaaGreatDoor.Z
open Go.RowKit
set_option linter.unusedVariables false
set_option linter.unusedSimpArgs false
def slB (x:Value) (lo hi:Option Value):Sem Value:=Instr.sliceAt 110 x lo hi none
theorem aSJ (x:Value) (lo hi:Option Value):Instr.sliceAt 110 x lo hi none=slB x lo hi:=rfl
end Go.Proofs.YtdjplhibmomajaaGreatDoor.Z
namespace Go.Proofs.YtdjplhibmomajaaGreatDoor.Z
open Go.RowKit
set_option linter.unusedVariables false
set_option linter.unusedSimpArgs false
theorem aOR (B r:Nat) (hr:r < 8) (hs:B+2 ^ r < 256):((B:Int)+2 ^ r) % 256=((B+2 ^ r:Nat):Int):=by
 rw [show ((2:Int) ^ r)=((2 ^ r:Nat):Int) by simp,←Int.natCast_add]
 exact Int.emod_eq_of_lt (Int.natCast_nonneg _) (Int.ofNat_lt.2 hs)
set_option maxHeartbeats 400000 in
theorem aHV (f : Nat → Bool) (a : Option Addr) (n cap : Nat) (w : World) (h : Bls w a n cap f) (hnb : n ≤ 140737488355328) :
    Calls Tryz.prog 65 #[.slice a n cap] w fun e w'=>e=.returned (.slice (some ⟨w.heap.size,0,none⟩) ((n+7) / 8) ((n+7) / 8))∧w'.heap[w.heap.size]?=some (.cells (vs .u8 ((n+7) / 8) (fun q=>(byt f n q:Int))) 5)∧Below w.heap.size w w'∧w'.heap.size=w.heap.size+1:=by
 have hmk:=aJg w ((n+7) / 8) (by omega)
 obtain ⟨N,eN⟩:∃ N,(n+7) / 8=N:=⟨_,rfl⟩
 have eN':((n:Int)+7) / 8=(N:Int):=by omega
 have hN:n≤8*N:=by omega
 rw [eN] at hmk ⊢
 have H:=hid h
 have hn:(n:Int)≤140737488355328:=by omega
 have n0:(0:Int)≤(n:Int):=by omega
 clear h eN
 go_enter Tryz.func65,Tryz.ntmps65
 go_wp2
 go_loopw [4] (fun v wr=>∃ k:Nat,k≤n∧v=.int .i64 k∧wr.heap[w.heap.size]?=some (.cells (vs .u8 N (fun q=>(byt f k q:Int))) 5)∧Below w.heap.size w wr∧wr.heap.size=w.heap.size+1) (fun v _=>n - (intOf v).toNat)
 case atStart=>exact ⟨0,by omega,rfl,(aA2 rfl).trans (by rw [vs0 f]),(Below.refl _ _).alloc (Nat.le_refl _) _,by simp⟩
 case round =>
  obtain ⟨k,hk,rfl,hr,hb,hz⟩:=hrel
  clear hmk
  by_cases hkn:k < n
  ·obtain ⟨b,off,rfl,hbb,ck0⟩:=aR6 H.out k hkn
   have ck:=(aAk hb hbb).trans ck0
   obtain ⟨x,ex⟩:∃ x,f k=x:=⟨_,rfl⟩
   rw [ex] at ck
   have k1:(k:Int) < (n:Int):=by omega
   have k2:(0:Int)≤(k:Int):=by omega
   have HR:=hid hr
   have HB:=hid hb
   have HZ:=hid hz
   have EX:=hid ex
   clear ck0 ex
   cases x
   ·clear hr hb hz
    go_wp2
    go_roundw
    case rel =>
     refine ⟨k+1,by omega,by go_num,?_,HB.out,HZ.out⟩
     rw [HR.out]
     exact congrArg (fun c=>some (Obj.cells c 5)) (aAO fun q _=>by rw [aMx f k q EX.out])
    case measure=>simp [intOf];omega
   ·have cq:=aA8 hr (k / 8) (by omega)
    have fq:=aAa hr (k / 8)
    obtain ⟨q,eq⟩:∃ q,k / 8=q:=⟨_,rfl⟩
    obtain ⟨B,eB⟩:∃ B,byt f k q=B:=⟨_,rfl⟩
    obtain ⟨r,er⟩:∃ r,k % 8=r:=⟨_,rfl⟩
    have e1:(k:Int) / 8=(q:Int):=by omega
    have e2:(k:Int) % 8=(r:Int):=by omega
    have q1:(q:Int) < (N:Int):=by omega
    have q2:(0:Int)≤(q:Int):=by omega
    have r1:(r:Int) < 8:=by omega
    have r2:(0:Int)≤(r:Int):=by omega
    rw [eq] at cq fq
    rw [eB] at cq
    have EE:=hid (And.intro eq (And.intro er eB))
    clear hr hb hz eq er eB
    go_wp2
    go_roundw
    case rel =>
     obtain ⟨eq,er,eB⟩:=EE.out
     refine ⟨k+1,by omega,by go_num,?_,HB.out.setCell (by simp) _,?_⟩
     ·refine (aAI HR.out q _).trans ?_
      rw [aBZ]
      refine congrArg (fun c=>some (Obj.cells c 5)) (aAO fun i _=>?_)
      by_cases hi:i=q
      ·have e3:=aP1 f k EX.out
       have e4:=aRg f (k+1) (k / 8)
       rw [←e3,eq,er,eB] at e4
       rw [eq,er,eB] at e3
       rw [if_pos hi,aOR B r (by omega) e4,hi,e3]
      ·rw [if_neg hi,aK3 f k i (by omega)]
     ·exact (aNu _ _ _).trans HZ.out
    case measure=>simp [intOf];omega
  ·have ek:k=n:=by omega
   subst ek
   have HR:=hid hr
   have HB:=hid hb
   clear hr hb
   go_wp2
   go_ret
   exact ⟨rfl,HR.out,HB.out,hz⟩
end Go.Proofs.YtdjplhibmomajaaGreatDoor.Z
namespace Go.Proofs.YtdjplhibmomajaaGreatDoor.Z
open Go.RowKit
set_option linter.unusedVariables false
set_option linter.unusedSimpArgs false
end Go.Proofs.YtdjplhibmomajaaGreatDoor.Z
namespace Go.Proofs.YtdjplhibmomajaaGreatDoor.Z
open Go.RowKit
set_option linter.unusedVariables false
set_option linter.unusedSimpArgs false
attribute [local go_sem ↓] aSJ
end Go.Proofs.YtdjplhibmomajaaGreatDoor.Z
namespace Go.Proofs.YtdjplhibmomajaaGreatDoor
open Go.RowKit
set_option linter.unusedVariables false
set_option linter.unusedSimpArgs false
set_option maxRecDepth 20000
def zS (r:Nat):Int:=[8,32,8,16,112,256,256,0,72,0,8,0,0,256,64,0,0,1,40,40,40,0,432,432].getD r 0
def qS (x:aA1):List (Nat × (Nat→Int)):=[(8,nmB x.f0),(32,x.f1),(8,nmB x.f2),(16,ct7 (aHw x.f3)),(112,ct7 (aDY x.f4)),(256,x.f5),(256,x.f6),(32*x.f7.n,x.f7.z),(72,ct7 (aDP x.f8)),(72*x.f9.n,eB 72 fun i=>ct7 (aDP (x.f9.z i))),(8,nmB x.f10),(121*x.f11.n,eB 121 fun i=>ct7 (aBF (x.f11.z i))),(8*x.f12.n,eB 8 fun i=>nmB (x.f12.z i)),(256,x.f13),(64,eB 8 fun i=>nmB (x.f14 i)),(x.f15.n,x.f15.z),(x.f16.n,x.f16.z),(1,fun q=>(Z.byt x.f17 4 q:Int)),(40,ct7 (aAZ x.f18)),(40,ct7 (aAZ x.f19)),(40,ct7 (aAZ x.f20)),(8*x.f21.n,eB 8 fun i=>nmB (x.f21.z i)),(432,ct7 (aBr x.f22)),(432,ct7 (aBr x.f23))]
def aTE:Nat × (Nat→Int):=(0,fun _=>0)
def pL (x:aA1) (r:Nat):Nat:=((qS x).getD r aTE).1
def pF (x:aA1) (r:Nat):Nat→Int:=((qS x).getD r aTE).2
def tL (x:aA1):Nat:=Z.hdL zS 24+Z.loL zS (pL x) 24
theorem aTU (x:aA1):tL x=2101+32*x.f7.n+72*x.f9.n+121*x.f11.n+8*x.f12.n+x.f15.n+x.f16.n+8*x.f21.n:=by
 show 2101+(0+0+0+0+0+0+0+0+32*x.f7.n+0+72*x.f9.n+0+121*x.f11.n+8*x.f12.n+0+0+x.f15.n+x.f16.n+0+0+0+0+8*x.f21.n+0+0)=_
 omega
theorem aRc (W:World) (p0 p1 p2 p3 p4 p5 p6 p7 p8 p9 p10 p11 p12 p13 p14 p15 p16 p17 p18 p19 p20 p21 p22 p23:Pt):(bsP 24 #[(0,ptv p0),(1,ptv p1),(2,ptv p2),(3,ptv p3),(4,ptv p4),(5,ptv p5),(6,ptv p6),(7,ptv p7),(8,ptv p8),(9,ptv p9),(10,ptv p10),(11,ptv p11),(12,ptv p12),(13,ptv p13),(14,ptv p14),(15,ptv p15),(16,ptv p16),(17,ptv p17),(18,ptv p18),(19,ptv p19),(20,ptv p20),(21,ptv p21),(22,ptv p22),(23,ptv p23)]).run Tryz.prog W=.ok (.slice (some ⟨W.heap.size,0,none⟩) 24 24) (W.alloc (.cells ([p0,p1,p2,p3,p4,p5,p6,p7,p8,p9,p10,p11,p12,p13,p14,p15,p16,p17,p18,p19,p20,p21,p22,p23].map ptv).toArray 39)):=by kernel_rfl
attribute [local go_sem ↓] aC8 aCx
theorem aIn (ps:List Pt) (r:Nat):(ps.map ptb).getD r aTE=ptb (ps.getD r aDJ):=by
 rw [List.getD_eq_getElem?_getD,List.getD_eq_getElem?_getD,List.getElem?_map]
 cases ps[r]?<;>rfl
theorem aLv {w:World} {g:Nat} {t:TypeId} {x:aA1} (h:w.heap[g]?=some (.cells (cel (aA0 x)) t)):Z.Nms .u64 w (some ⟨g,979,none⟩) 8 x.f14 :=
 .inr ⟨g,979,rfl,(Array.getElem?_eq_some_iff.1 h).1,fun j hj=>by
  rcases (by omega:j=0∨j=1∨j=2∨j=3∨j=4∨j=5∨j=6∨j=7) with rfl | rfl | rfl | rfl | rfl | rfl | rfl | rfl
  ·exact aO0 h
  ·exact aO1 h
  ·exact aO2 h
  ·exact aO3 h
  ·exact aO4 h
  ·exact aO5 h
  ·exact aO6 h
  ·exact aO7 h⟩
theorem aNp {w:World} {g:Nat} {t:TypeId} {x:aA1} (h:w.heap[g]?=some (.cells (cel (aA0 x)) t)):Z.Bls w (some ⟨g,989,none⟩) 4 4 x.f17 :=
 .inr (.inr ⟨g,989,rfl,Nat.le_refl _,by omega,(Array.getElem?_eq_some_iff.1 h).1,fun j hj=>by
  rcases (by omega:j=0∨j=1∨j=2∨j=3) with rfl | rfl | rfl | rfl
  ·exact aRi h
  ·exact aRj h
  ·exact aRk h
  ·exact aRl h⟩)
attribute [local go_sem ↓] aC8 aCx aAq aAr aCK aB8 aC9 aAG aCW
end Go.Proofs.YtdjplhibmomajaaGreatDoor
namespace Go.Proofs.YtdjplhibmomajaaGreatDoor
open Go.RowKit
set_option linter.unusedVariables false
set_option linter.unusedSimpArgs false
set_option maxRecDepth 20000
theorem aBN {P:Program} {t:TypeId} {z:Value} {s b:Nat} (h:(P.info? t).map (fun i=>(i.zero,i.size,i.bytes))=some (some z,s,b)):∃ i,P.info? t=some i∧i.zero=some z∧i.size=s∧i.bytes=b:=by
 cases hq:P.info? t with
 | none => simp [hq] at h
 | some i => simp [hq] at h; exact ⟨i, rfl, h.1, h.2.1, h.2.2⟩
attribute [local go_sem ↓] aAF aCe
theorem aRT (x:aA1) (k:Nat) (hk:k < 8) (n:Int):(cel (aA0 x)).setIfInBounds (979+k) (.int .u64 n)=cel (aA0 { x with f14:=fun j=>if j=k then n else x.f14 j }):=by
 rcases (by omega:k=0∨k=1∨k=2∨k=3∨k=4∨k=5∨k=6∨k=7) with rfl | rfl | rfl | rfl | rfl | rfl | rfl | rfl
 ·exact aQf x n
 ·exact aQg x n
 ·exact aQh x n
 ·exact aQi x n
 ·exact aQj x n
 ·exact aQk x n
 ·exact aQl x n
 ·exact aQm x n
def ixU (x i:Value):Sem Value:=Instr.indexAt 37 x i
theorem aF1 (x i:Value):Instr.indexAt 37 x i=ixU x i:=rfl
theorem aIQ (w:World):(sizeOf 22).run Tryz.prog w=.ok 1 w:=by
 obtain ⟨i,hi,_,hs,_⟩:=aBN (P:=Tryz.prog) (t:=22) (z:=.int .u64 0) (s:=1) (b:=8) (by kernel_rfl)
 simp [sizeOf,typeInfo,hi,hs]
theorem aFY (w:World) (b off len cap i:Nat) (h:i < len):(ixU (.slice (some ⟨b,off,none⟩) len cap) (.int .i64 i)).run Tryz.prog w=.ok (.pointer (some ⟨b,off+i,none⟩)) w:=by
 unfold ixU Instr.indexAt
 have h1:(0:Int)≤(i:Int)∧(i:Int) < (len:Int):=by omega
 simp only [asIntOf,Sem.run_bind,Sem.run_pure,Result.andThen_ok,run_underlying Tryz.underlying37,if_pos h1,aIQ,Addr.add_mid,Int.toNat_natCast,Nat.mul_one]
attribute [local go_sem ↓] aF1
end Go.Proofs.YtdjplhibmomajaaGreatDoor
