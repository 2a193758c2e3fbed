/- A part. -/
import Derived.Test.YtdjplhibmomajaaGreatDoorQK
import Derived.Test.YtdjplhibmomajaaGreatDoorStQ
import Derived.Test.YtdjplhibmomajaaGreatDoorQL
import Derived.Test.YtdjplhibmomajaaGreatDoorQS
import Derived.Test.YtdjplhibmomajaaGreatDoorStP
import Derived.Test.YtdjplhibmomajaaGreatDoorHaA
import Derived.Test.YtdjplhibmomajaaGreatDoorPkD
import Derived.Test.YtdjplhibmomajaaGreatDoorQG
import Derived.Test.YtdjplhibmomajaaGreatDoorQF
import Derived.Test.YtdjplhibmomajaaGreatDoorQJ
import Derived.Test.YtdjplhibmomajaaGreatDoorPkP
import Derived.BigRegion
namespace Go.Proofs.YtdjplhibmomajaaGreatDoor
open Go.RowKit
set_option linter.unusedVariables false
set_option linter.unusedSimpArgs false
section
open Go.RowKit
set_option linter.unusedVariables false
set_option linter.unusedSimpArgs false
set_option maxRecDepth 20000
theorem BF.give {w V:World} {y b:Nat} {Y:aA1} {C:Array Value} (h:BF w y V Y) (r:V.heap[b]?=some (.cells C 49)) (c:Array Value):Res w.heap.size (V.setRow b c) Y Y:=by
 have hk:Kept b V (V.setRow b c):=(Kept.refl b V).setRow c
 have cp:aEJ w.heap.size (V.setRow b c) Y:=⟨aA9 h.cpd.o7 hk (aAx h.cpd.o7 r (by decide)),aA9 h.cpd.o9 hk (aAx h.cpd.o9 r (by decide)),aA9 h.cpd.o11 hk (aAx h.cpd.o11 r (by decide)),aA9 h.cpd.o12 hk (aAx h.cpd.o12 r (by decide)),aA9 h.cpd.o15 hk (aAx h.cpd.o15 r (by decide)),aA9 h.cpd.o16 hk (aAx h.cpd.o16 r (by decide)),aA9 h.cpd.o21 hk (aAx h.cpd.o21 r (by decide)),h.cpd.d15,h.cpd.d12⟩
 exact ⟨.refl _,⟨aCD cp.o7,aCY cp.o9 (fun i=>by rw [aAC];rfl),aCY cp.o11 (fun i=>by rw [aAC];rfl),aCZ cp.o12,aCO cp.o15,aCO cp.o16,aCZ cp.o21⟩,cp.nil,cp.nw⟩
theorem BF.make {w w' V:World} {X:aA1} (hb:Below w.heap.size w w') (hc:aEJ w.heap.size w' X) (hV:w'.alloc (.cells (cel (aA0 X)) 49)=V):BF w w'.heap.size V X:=by
 have hbv:Below w'.heap.size w' V:=by rw [←hV];exact (Below.refl _ _).alloc (Nat.le_refl _) _
 refine ⟨hb.trans (hbv.mono hb.size),?_,hc.below hbv⟩
 rw [←hV]
 exact aA2 rfl
def bsE (n:Nat) (ps:Array (Nat × Value)):Sem Value:=Instr.buildSlice 35 n ps
theorem aNX (n:Nat) (ps:Array (Nat × Value)):Instr.buildSlice 35 n ps=bsE n ps:=rfl
def svE (a:Addr) (v:Value):Sem Unit:=storeVar 34 a v
theorem aOL (a:Addr) (v:Value):storeVar 34 a v=svE a v:=rfl
theorem aDf {x:aA1} (h:aAN x=true):x.f7.n≤65536∧x.f9.n≤8∧x.f11.n≤65536∧x.f12.n≤65536∧x.f15.n≤65536∧x.f16.n≤65536∧x.f21.n≤65536:=by
 unfold aAN at h
 rw [Bool.and_eq_true] at h
 have:=h.1
 unfold aD9 at this
 simp only [Bool.and_eq_true,decide_eq_true_eq] at this
 omega
theorem aEh {x:aA1} (h:aAN x=true):Rch x:=by
 have:=aDf h
 unfold Rch
 omega
attribute [local go_sem ↓] aAq aAr aAz aC9 aE8 aNX aOL aKm
end
section
open Go.RowKit
set_option linter.unusedVariables false
set_option linter.unusedSimpArgs false
set_option maxRecDepth 20000
attribute [local go_sem ↓] aAq aAr aAz aAu aAt
def aRN (a:Addr):Sem Value:=loadVar 51 a
theorem aF3 (a:Addr):loadVar 51 a=aRN a:=rfl
def aVX (a:Addr) (v:Value):Sem Unit:=storeVar 51 a v
theorem aQr (a:Addr) (v:Value):storeVar 51 a v=aVX a v:=rfl
attribute [local go_sem ↓] aF3 aQr
end
section
open Go.RowKit
set_option linter.unusedVariables false
abbrev Up (W V:World):Prop:=Below W.heap.size W V
theorem upT {W V X:World} (h:Up W V) (k:Up V X):Up W X:=h.trans (k.mono h.size)
theorem upR {V X:World} {y:Nat} {o:Obj} (k:Up V X) (r:V.heap[y]?=some o):X.heap[y]?=some o:=(k.block _ (Array.getElem?_eq_some_iff.1 r).1).trans r
theorem aD1 {W V:World} (h:Up W V) (o:Obj):∃ X y,V.alloc o=X∧V.heap.size=y∧X.heap[y]?=some o∧Up V X∧W.heap.size≤y:=⟨_,_,rfl,rfl,aA2 rfl,(Below.refl _ _).alloc (Nat.le_refl _) _,h.size⟩
theorem sh1 {P:Program} {ops:Array Oper} {Q:Exit→Act→World→Prop} {md:Region.Mode} {S:World→Prop} {fuel fuel':Nat} {listed listed':Array Bool} {a:Act} {w:World} {α:Type} {act:α→Act} (F:α→World→Prop) (hm:Hid (∀ x V,F x V→wpAnyH P md ops Q S fuel' listed' (act x) V)→wpAnyH P md ops Q S fuel listed a w) (ht:∀ x V,F x V→wpAnyH P md ops Q S fuel' listed' (act x) V):wpAnyH P md ops Q S fuel listed a w:=hm ht
theorem sh2 {P:Program} {ops:Array Oper} {Q:Exit→Act→World→Prop} {md:Region.Mode} {S:World→Prop} {fuel fuel':Nat} {listed listed':Array Bool} {a:Act} {w:World} {α β:Type} {act:α→β→Act} (F:α→β→World→Prop) (hm:Hid (∀ x y V,F x y V→wpAnyH P md ops Q S fuel' listed' (act x y) V)→wpAnyH P md ops Q S fuel listed a w) (ht:∀ x y V,F x y V→wpAnyH P md ops Q S fuel' listed' (act x y) V):wpAnyH P md ops Q S fuel listed a w:=hm ht
theorem rd1 {P:Program} {ops:Array Oper} {Q:Exit→Act→World→Prop} {md:Region.Mode} {S:World→Prop} {fuel:Nat} {listed:Array Bool} {a:Act} {w:World} (i:Nat) {o:Oper} (h:∀ K':Act→World→Prop,Shut (∀ a w,S w→(S w→wpAnyH P md ops Q S fuel (listed.setIfInBounds i true) a w)→K' a w)→if Region.wanted o (yielded ops a.tmps)=true then Oper.wp P o a w K' Q else K' (a.put o.dst undef) w) (ho:ops[i]?=some o:=by rfl) (hr:Region.ready md ops listed=[i]:=by kernel_rfl):wpAnyH P md ops Q S (fuel+1) listed a w :=
 wpAnyH_ready hr (by simp) (AllReadyH.cons ho h AllReadyH.nil)
theorem rd2 {P:Program} {ops:Array Oper} {Q:Exit→Act→World→Prop} {md:Region.Mode} {S:World→Prop} {fuel:Nat} {listed:Array Bool} {a:Act} {w:World} (i j:Nat) {o p:Oper} (h:∀ K':Act→World→Prop,Shut (∀ a w,S w→(S w→wpAnyH P md ops Q S fuel (listed.setIfInBounds i true) a w)→K' a w)→if Region.wanted o (yielded ops a.tmps)=true then Oper.wp P o a w K' Q else K' (a.put o.dst undef) w) (h2:∀ K':Act→World→Prop,Shut (∀ a w,S w→(S w→wpAnyH P md ops Q S fuel (listed.setIfInBounds j true) a w)→K' a w)→if Region.wanted p (yielded ops a.tmps)=true then Oper.wp P p a w K' Q else K' (a.put p.dst undef) w) (ho:ops[i]?=some o:=by rfl) (hp:ops[j]?=some p:=by rfl) (hr:Region.ready md ops listed=[i,j]:=by kernel_rfl):wpAnyH P md ops Q S (fuel+1) listed a w :=
 wpAnyH_ready hr (by simp) (AllReadyH.cons ho h (AllReadyH.cons hp h2 AllReadyH.nil))
theorem rd3 {P:Program} {ops:Array Oper} {Q:Exit→Act→World→Prop} {md:Region.Mode} {S:World→Prop} {fuel:Nat} {listed:Array Bool} {a:Act} {w:World} (i j k:Nat) {o p q:Oper} (h:∀ K':Act→World→Prop,Shut (∀ a w,S w→(S w→wpAnyH P md ops Q S fuel (listed.setIfInBounds i true) a w)→K' a w)→if Region.wanted o (yielded ops a.tmps)=true then Oper.wp P o a w K' Q else K' (a.put o.dst undef) w) (h2:∀ K':Act→World→Prop,Shut (∀ a w,S w→(S w→wpAnyH P md ops Q S fuel (listed.setIfInBounds j true) a w)→K' a w)→if Region.wanted p (yielded ops a.tmps)=true then Oper.wp P p a w K' Q else K' (a.put p.dst undef) w) (h3:∀ K':Act→World→Prop,Shut (∀ a w,S w→(S w→wpAnyH P md ops Q S fuel (listed.setIfInBounds k true) a w)→K' a w)→if Region.wanted q (yielded ops a.tmps)=true then Oper.wp P q a w K' Q else K' (a.put q.dst undef) w) (ho:ops[i]?=some o:=by rfl) (hp:ops[j]?=some p:=by rfl) (hq:ops[k]?=some q:=by rfl) (hr:Region.ready md ops listed=[i,j,k]:=by kernel_rfl):wpAnyH P md ops Q S (fuel+1) listed a w :=
 wpAnyH_ready hr (by simp) (AllReadyH.cons ho h (AllReadyH.cons hp h2 (AllReadyH.cons hq h3 AllReadyH.nil)))
end
section
open Go.RowKit
set_option linter.unusedVariables false
set_option linter.unusedSimpArgs false
set_option maxRecDepth 20000
def bsK (n:Nat) (ps:Array (Nat × Value)):Sem Value:=Instr.buildSlice 80 n ps
theorem aK0 (n:Nat) (ps:Array (Nat × Value)):Instr.buildSlice 80 n ps=bsK n ps:=rfl
theorem aHt (W:World) (c:Nat→Int):(bsK 1 #[(0,.agg (vs .u8 48 c))]).run Tryz.prog W=.ok (.slice (some ⟨W.heap.size,0,none⟩) 1 1) (W.alloc (.cells (vs .u8 48 c) 44)):=by kernel_rfl
theorem aBu {fn : Func} {R : Ending → World → Prop} {a : Act} {w' : World} (t s s2 : Tmp) (b : Nat) (c : aA1) (ty : TypeId) (v v2 : Value) (h : fn.results = #[.cell t 49, .tmp s, .tmp s2]) (hd : a.defers = []) (ht : a.tmps.getD t undef = .pointer (some ⟨b, 0, none⟩)) (hs : a.tmps.getD s undef = v) (hs2 : a.tmps.getD s2 undef = v2) (hr : w'.heap[b]? = some (.cells (cel (aA0 c)) ty))
    (hR:R (.returned (.tuple #[.agg (cel (aA0 c)),v,v2])) w'):bodyPost Tryz.prog fn R .ret a w':=by
 refine bodyPost_ret ?_ hd hR
 have hl:=aAP (aBh (P:=Tryz.prog) hr 49 _ Tryz.underlying49 rfl (by rw [aAT,aCQ];kernel_rfl))
 rw [Array.getD_eq_getD_getElem?] at ht hs hs2
 simp [results,h,ht,hs,hs2,hl,asAddr]
theorem aG9 {w:World} {a b:Nat} {C D:Array Value} {t u:TypeId} (h:w.heap[a]?=some (.cells C t)) (k:w.heap[b]?=some (.cells D u)) (hne:t≠u):a≠b:=fun e=>by
 subst e
 rw [h] at k
 exact hne (Obj.cells.inj (Option.some.inj k)).2.1
theorem twB (a b:Nat→Int) (j:Nat):0≤tw a b j∧tw a b j < 256:=aBU ..
theorem aV8 (x:aA1) (k e:Int) (j:Nat):0≤aEK x k e j∧aEK x k e j < 256:=by
 unfold aEK dmV
 split
 ·unfold kdB nmB;omega
 ·exact twB ..
attribute [local go_sem ↓] aAq aAr aAz aAu aAt aBJ aAF aAL aK0 aF3 aDx aAw
theorem aLJ {w:World} {b o:Nat} {v:aA5} (h:w.rangeAt b o (aAW (aA3 v))) (j:Nat) (hj:j < 48):w.cell? ⟨b,o+j,none⟩=some (.int .u8 (v.f0 j)):=by
 refine h j _ ?_
 show ((List.range 48).map (Seg.get (.by 48 v.f0))++aAW _)[j]?=_
 rw [List.getElem?_append_left (by simp;exact hj),List.getElem?_map,List.getElem?_range hj]
 rfl
end
section
open Go.RowKit
set_option linter.unusedVariables false
set_option linter.unusedSimpArgs false
set_option maxRecDepth 20000
theorem aKl (w:World) (a:Option Addr) (l c:Nat):(binOp .eql 32 (.slice a l c) (.slice none 0 0)).run Tryz.prog w=.ok (.bool a.isNone) w:=by
 simp only [binOp]
 simp [run_equal_slice_nil w 32 24 a l c Tryz.underlying32]
set_option maxHeartbeats 1000000 in
theorem clR (a : Option Addr) (n c : Nat) (news : List Value) (w : World) (hs : Src w 32 a n c news) (hb : n * 32 ≤ 140737488351232) :
    Calls Tryz.prog 69 #[.slice a n c] w fun e w'=>∃ a' c',e=.returned (.slice a' n c')∧w'.ownsRow w.heap.size 24 32 (.slice a' n c') n news∧Below w.heap.size w w':=by
 cases a with
 | none =>
  obtain ⟨rfl,rfl⟩:=hs.1 rfl
  obtain rfl:news=[]:=List.length_eq_zero_iff.1 (by rw [hs.2.1,Nat.zero_mul])
  have q:=aKl w none 0 0
  go_enter Tryz.func69,Tryz.ntmps69
  go_wp2
  go_ret
  exact ⟨none,0,rfl,World.ownsRow_nil _ _ _ _,Below.refl _ _⟩
 | some x =>
  obtain ⟨i,hi,hz0,hz1,hz2⟩:=aBN (P:=Tryz.prog) (t:=24) (z:=.agg (vs .u8 32 fun _=>0)) (s:=32) (b:=32) (by kernel_rfl)
  have II:=hid (And.intro hi (And.intro hz0 (And.intro hz1 hz2)))
  have HS:=hid (hs.below ((Below.refl w.heap.size w).alloc (Nat.le_refl _) (.cells #[] 24)))
  have q:=aKl w (some x) n c
  clear hs hi hz0 hz1 hz2
  go_enter Tryz.func69,Tryz.ntmps69
  go_wp2_with (at_builtin;refine aCg _ rfl _ _ 32 rfl w.heap.size 24 i (.agg (vs .u8 32 fun _=>0)) 32 32 Tryz.underlying32 II.out.1 II.out.2.1 II.out.2.2.1 II.out.2.2.2 (by simp [Value.cells,aAp]) (by omega) _ 0 [] rfl (World.ownsRow_made _ #[] 0 (Nat.le_refl _) (Nat.zero_le _) rfl) _ _ _ news rfl HS.out (by unfold maxLen;omega) (by omega) (by simp) ?_;intro v6 w6 ho hg;obtain ⟨a6,c6,rfl⟩:=aBb ho)
  go_ret
  rw [Nat.zero_add,List.nil_append] at ho
  exact ⟨a6,c6,rfl,ho,aB1 ((Below.refl _ _).alloc (Nat.le_refl _) _) (World.ownsRow_made (e:=24) (size:=32) _ #[] 0 (Nat.le_refl _) (Nat.zero_le _) rfl) (by simp) hg⟩
theorem aOd (w:World) (a:Option Addr) (l c:Nat):(binOp .eql 35 (.slice a l c) (.slice none 0 0)).run Tryz.prog w=.ok (.bool a.isNone) w:=by
 simp only [binOp]
 simp [run_equal_slice_nil w 35 34 a l c Tryz.underlying35]
set_option maxHeartbeats 1000000 in
theorem clE (a : Option Addr) (n c : Nat) (news : List Value) (w : World) (hs : Src w 65 a n c news) (hb : n * 72 ≤ 140737488351232) :
    Calls Tryz.prog 70 #[.slice a n c] w fun e w'=>∃ a' c',e=.returned (.slice a' n c')∧w'.ownsRow w.heap.size 34 65 (.slice a' n c') n news∧Below w.heap.size w w':=by
 cases a with
 | none =>
  obtain ⟨rfl,rfl⟩:=hs.1 rfl
  obtain rfl:news=[]:=List.length_eq_zero_iff.1 (by rw [hs.2.1,Nat.zero_mul])
  have q:=aOd w none 0 0
  go_enter Tryz.func70,Tryz.ntmps70
  go_wp2
  go_ret
  exact ⟨none,0,rfl,World.ownsRow_nil _ _ _ _,Below.refl _ _⟩
 | some x =>
  obtain ⟨i,hi,hz0,hz1,hz2⟩:=aBN (P:=Tryz.prog) (t:=34) (z:=.agg (cel (aBx aGO))) (s:=65) (b:=72) (by kernel_rfl)
  have II:=hid (And.intro hi (And.intro hz0 (And.intro hz1 hz2)))
  have HS:=hid (hs.below ((Below.refl w.heap.size w).alloc (Nat.le_refl _) (.cells #[] 34)))
  have q:=aOd w (some x) n c
  clear hs hi hz0 hz1 hz2
  go_enter Tryz.func70,Tryz.ntmps70
  go_wp2_with (at_builtin;refine aCg _ rfl _ _ 35 rfl w.heap.size 34 i (.agg (cel (aBx aGO))) 65 72 Tryz.underlying35 II.out.1 II.out.2.1 II.out.2.2.1 II.out.2.2.2 (by show (cel _).size=_;rw [aAT];rfl) (by omega) _ 0 [] rfl (World.ownsRow_made _ #[] 0 (Nat.le_refl _) (Nat.zero_le _) rfl) _ _ _ news rfl HS.out (by unfold maxLen;omega) (by omega) (by simp) ?_;intro v6 w6 ho hg;obtain ⟨a6,c6,rfl⟩:=aBb ho)
  go_ret
  rw [Nat.zero_add,List.nil_append] at ho
  exact ⟨a6,c6,rfl,ho,aB1 ((Below.refl _ _).alloc (Nat.le_refl _) _) (World.ownsRow_made (e:=34) (size:=65) _ #[] 0 (Nat.le_refl _) (Nat.zero_le _) rfl) (by simp) hg⟩
theorem aOg (w:World) (a:Option Addr) (l c:Nat):(binOp .eql 36 (.slice a l c) (.slice none 0 0)).run Tryz.prog w=.ok (.bool a.isNone) w:=by
 simp only [binOp]
 simp [run_equal_slice_nil w 36 65 a l c Tryz.underlying36]
set_option maxHeartbeats 1000000 in
theorem clV (a : Option Addr) (n c : Nat) (news : List Value) (w : World) (hs : Src w 86 a n c news) (hb : n * 128 ≤ 140737488351232) :
    Calls Tryz.prog 71 #[.slice a n c] w fun e w'=>∃ a' c',e=.returned (.slice a' n c')∧w'.ownsRow w.heap.size 65 86 (.slice a' n c') n news∧Below w.heap.size w w':=by
 cases a with
 | none =>
  obtain ⟨rfl,rfl⟩:=hs.1 rfl
  obtain rfl:news=[]:=List.length_eq_zero_iff.1 (by rw [hs.2.1,Nat.zero_mul])
  have q:=aOg w none 0 0
  go_enter Tryz.func71,Tryz.ntmps71
  go_wp2
  go_ret
  exact ⟨none,0,rfl,World.ownsRow_nil _ _ _ _,Below.refl _ _⟩
 | some x =>
  obtain ⟨i,hi,hz0,hz1,hz2⟩:=aBN (P:=Tryz.prog) (t:=65) (z:=.agg (cel (aA3 aBe))) (s:=86) (b:=128) (by kernel_rfl)
  have II:=hid (And.intro hi (And.intro hz0 (And.intro hz1 hz2)))
  have HS:=hid (hs.below ((Below.refl w.heap.size w).alloc (Nat.le_refl _) (.cells #[] 65)))
  have q:=aOg w (some x) n c
  clear hs hi hz0 hz1 hz2
  go_enter Tryz.func71,Tryz.ntmps71
  go_wp2_with (at_builtin;refine aCg _ rfl _ _ 36 rfl w.heap.size 65 i (.agg (cel (aA3 aBe))) 86 128 Tryz.underlying36 II.out.1 II.out.2.1 II.out.2.2.1 II.out.2.2.2 (by show (cel _).size=_;rw [aAT];rfl) (by omega) _ 0 [] rfl (World.ownsRow_made _ #[] 0 (Nat.le_refl _) (Nat.zero_le _) rfl) _ _ _ news rfl HS.out (by unfold maxLen;omega) (by omega) (by simp) ?_;intro v6 w6 ho hg;obtain ⟨a6,c6,rfl⟩:=aBb ho)
  go_ret
  rw [Nat.zero_add,List.nil_append] at ho
  exact ⟨a6,c6,rfl,ho,aB1 ((Below.refl _ _).alloc (Nat.le_refl _) _) (World.ownsRow_made (e:=65) (size:=86) _ #[] 0 (Nat.le_refl _) (Nat.zero_le _) rfl) (by simp) hg⟩
theorem aOf (w:World) (a:Option Addr) (l c:Nat):(binOp .eql 37 (.slice a l c) (.slice none 0 0)).run Tryz.prog w=.ok (.bool a.isNone) w:=by
 simp only [binOp]
 simp [run_equal_slice_nil w 37 22 a l c Tryz.underlying37]
set_option maxHeartbeats 1000000 in
theorem clU (a : Option Addr) (n c : Nat) (news : List Value) (w : World) (hs : Src w 1 a n c news) (hb : n * 8 ≤ 140737488351232) :
    Calls Tryz.prog 72 #[.slice a n c] w fun e w'=>∃ a' c',e=.returned (.slice a' n c')∧w'.ownsRow w.heap.size 22 1 (.slice a' n c') n news∧Below w.heap.size w w':=by
 cases a with
 | none =>
  obtain ⟨rfl,rfl⟩:=hs.1 rfl
  obtain rfl:news=[]:=List.length_eq_zero_iff.1 (by rw [hs.2.1,Nat.zero_mul])
  have q:=aOf w none 0 0
  go_enter Tryz.func72,Tryz.ntmps72
  go_wp2
  go_ret
  exact ⟨none,0,rfl,World.ownsRow_nil _ _ _ _,Below.refl _ _⟩
 | some x =>
  obtain ⟨i,hi,hz0,hz1,hz2⟩:=aBN (P:=Tryz.prog) (t:=22) (z:=.int .u64 0) (s:=1) (b:=8) (by kernel_rfl)
  have II:=hid (And.intro hi (And.intro hz0 (And.intro hz1 hz2)))
  have HS:=hid (hs.below ((Below.refl w.heap.size w).alloc (Nat.le_refl _) (.cells #[] 22)))
  have q:=aOf w (some x) n c
  clear hs hi hz0 hz1 hz2
  go_enter Tryz.func72,Tryz.ntmps72
  go_wp2_with (at_builtin;refine aCg _ rfl _ _ 37 rfl w.heap.size 22 i (.int .u64 0) 1 8 Tryz.underlying37 II.out.1 II.out.2.1 II.out.2.2.1 II.out.2.2.2 (by rfl) (by omega) _ 0 [] rfl (World.ownsRow_made _ #[] 0 (Nat.le_refl _) (Nat.zero_le _) rfl) _ _ _ news rfl HS.out (by unfold maxLen;omega) (by omega) (by simp) ?_;intro v6 w6 ho hg;obtain ⟨a6,c6,rfl⟩:=aBb ho)
  go_ret
  rw [Nat.zero_add,List.nil_append] at ho
  exact ⟨a6,c6,rfl,ho,aB1 ((Below.refl _ _).alloc (Nat.le_refl _) _) (World.ownsRow_made (e:=22) (size:=1) _ #[] 0 (Nat.le_refl _) (Nat.zero_le _) rfl) (by simp) hg⟩
theorem aOc (w:World) (a:Option Addr) (l c:Nat):(binOp .eql 39 (.slice a l c) (.slice none 0 0)).run Tryz.prog w=.ok (.bool a.isNone) w:=by
 simp only [binOp]
 simp [run_equal_slice_nil w 39 5 a l c Tryz.underlying39]
set_option maxHeartbeats 1000000 in
theorem clB (a : Option Addr) (n c : Nat) (news : List Value) (w : World) (hs : Src w 1 a n c news) (hb : n * 1 ≤ 140737488351232) :
    Calls Tryz.prog 73 #[.slice a n c] w fun e w'=>∃ a' c',e=.returned (.slice a' n c')∧w'.ownsRow w.heap.size 5 1 (.slice a' n c') n news∧Below w.heap.size w w':=by
 cases a with
 | none =>
  obtain ⟨rfl,rfl⟩:=hs.1 rfl
  obtain rfl:news=[]:=List.length_eq_zero_iff.1 (by rw [hs.2.1,Nat.zero_mul])
  have q:=aOc w none 0 0
  go_enter Tryz.func73,Tryz.ntmps73
  go_wp2
  go_ret
  exact ⟨none,0,rfl,World.ownsRow_nil _ _ _ _,Below.refl _ _⟩
 | some x =>
  obtain ⟨i,hi,hz0,hz1,hz2⟩:=aBN (P:=Tryz.prog) (t:=5) (z:=.int .u8 0) (s:=1) (b:=1) (by kernel_rfl)
  have II:=hid (And.intro hi (And.intro hz0 (And.intro hz1 hz2)))
  have HS:=hid (hs.below ((Below.refl w.heap.size w).alloc (Nat.le_refl _) (.cells #[] 5)))
  have q:=aOc w (some x) n c
  clear hs hi hz0 hz1 hz2
  go_enter Tryz.func73,Tryz.ntmps73
  go_wp2_with (at_builtin;refine aCg _ rfl _ _ 39 rfl w.heap.size 5 i (.int .u8 0) 1 1 Tryz.underlying39 II.out.1 II.out.2.1 II.out.2.2.1 II.out.2.2.2 (by rfl) (by omega) _ 0 [] rfl (World.ownsRow_made _ #[] 0 (Nat.le_refl _) (Nat.zero_le _) rfl) _ _ _ news rfl HS.out (by unfold maxLen;omega) (by omega) (by simp) ?_;intro v6 w6 ho hg;obtain ⟨a6,c6,rfl⟩:=aBb ho)
  go_ret
  rw [Nat.zero_add,List.nil_append] at ho
  exact ⟨a6,c6,rfl,ho,aB1 ((Below.refl _ _).alloc (Nat.le_refl _) _) (World.ownsRow_made (e:=5) (size:=1) _ #[] 0 (Nat.le_refl _) (Nat.zero_le _) rfl) (by simp) hg⟩
end
section
open Go.RowKit
set_option linter.unusedVariables false
set_option linter.unusedSimpArgs false
set_option maxRecDepth 20000
theorem aIE {w:World} {B k n c:Nat} {t:TypeId} {ad:Addr} {xs:List Value} (h:w.ownsRow B t k (.slice (some ad) n c) n xs):B≤ad.block∧ad.block < w.heap.size:=h.lt ad.block rfl
attribute [local go_sem ↓] aAq aAr
end
section
open Go.RowKit
set_option linter.unusedVariables false
set_option linter.unusedSimpArgs false
set_option maxRecDepth 20000
attribute [local go_sem ↓] aAq aAr aAz
set_option maxHeartbeats 4000000 in
theorem aNF (a b : aA1) (p q : Option Addr) (n cp cq : Nat) (f : Nat → Int) (e : Int) (w : World) (ha : aAD a) (ia : InW w a) (ib : InW w b) (h : aBQ a b) (hp : Rts w p n cp f) (hq : Rts w q n cq f) (hn : n ≤ 140737488355328) :
    Calls Tryz.prog 8 #[.agg (cel (aA0 a)),.agg (cel (aA0 b)),.slice p n cp,.slice q n cq,.int .i64 e,.int .i64 e] w fun e' w'=>e'=.returned (.bool true)∧Below w.heap.size w w':=by
 obtain ⟨W0,hW0⟩:∃ W,(w.alloc (.cells (cel (aA0 a)) 49)).alloc (.cells (cel (aA0 b)) 49)=W:=⟨_,rfl⟩
 have r0:W0.heap[w.heap.size]?=some (.cells (cel (aA0 a)) 49):=by rw [←hW0];exact (aAc (by simp)).trans (aA2 rfl)
 have r1:W0.heap[w.heap.size+1]?=some (.cells (cel (aA0 b)) 49):=by rw [←hW0];exact aA2 (by simp)
 have hB0:Below w.heap.size w W0:=by rw [←hW0];exact ((Below.refl _ _).alloc (Nat.le_refl _) _).alloc (by simp) _
 have hsr:=aJu p q n cp cq f f W0 (hp.below hB0) (hq.below hB0) (fun _ _=>rfl) hn
 have hss:∀ W,Up W0 W→Calls Tryz.prog 9 #[.agg (cel (aA0 a)),.agg (cel (aA0 b))] W fun e w'=>e=.returned (.bool true)∧Below W.heap.size W w':=fun W hW=>aHa a b W ha (ia.below (upT hB0 hW)) (ib.below (upT hB0 hW)) h
 have hla:∀ W,Up W0 W→(aCc ⟨w.heap.size,0,none⟩).run Tryz.prog W=.ok (.agg (cel (aA0 a))) W:=fun W hW=>aAg (upR hW r0)
 have hlb:∀ W,Up W0 W→(aCc ⟨w.heap.size+1,0,none⟩).run Tryz.prog W=.ok (.agg (cel (aA0 b))) W:=fun W hW=>aAg (upR hW r1)
 have HB:=hid hB0
 have HWo:=hid hW0
 have HSR:=hid hsr
 have HSS:=hid hss
 have HLA:=hid hla
 have HLB:=hid hlb
 clear hB0 hW0 hsr hss hla hlb r0 r1 ha ia ib h hp hq
 go_enter Tryz.func8,Tryz.ntmps8
 go_upto_region 1 with fail
 rw [HWo.out]
 clear HWo
 go_wp2_with (first
  | (go_at_call 30; refine HSR.out.mono ?_; rintro e' w1 ⟨rfl, hb1⟩; have la := HLA.out w1 hb1; have lb := HLB.out w1 hb1; have HB1 := hid hb1; clear hb1)
  | (go_at_call 9; refine (HSS.out w1 HB1.out).mono ?_; rintro e' w2 ⟨rfl, hb2⟩))
 go_ret
 exact ⟨rfl,upT HB.out (upT HB1.out hb2)⟩
def Lns (x:aA1):Prop:=x.f11.n≤9223372036854775807∧x.f21.n≤9223372036854775807∧x.f12.n≤9223372036854775807
def bdE (ps:Array (Nat × Value)):Sem Value:=Instr.build 34 ps
theorem aR0 (ps:Array (Nat × Value)):Instr.build 34 ps=bdE ps:=rfl
def aVr (ps:Array (Nat × Value)):Sem Value:=Instr.build 51 ps
theorem aOX (ps:Array (Nat × Value)):Instr.build 51 ps=aVr ps:=rfl
theorem aTA:Lns aAn:=⟨Nat.zero_le _,Nat.zero_le _,Nat.zero_le _⟩
attribute [local go_sem ↓] aR0 aOX
end
section
open Go.RowKit
set_option linter.unusedVariables false
set_option linter.unusedSimpArgs false
set_option maxRecDepth 20000
theorem aEJ.down {B C:Nat} {w:World} {X:aA1} (h:aEJ B w X) (hC:C≤B):aEJ C w X:=⟨aBO h.o7 hC,aBO h.o9 hC,aBO h.o11 hC,aBO h.o12 hC,aBO h.o15 hC,aBO h.o16 hC,aBO h.o21 hC,h.d15,h.d12⟩
theorem BF.own {w w1 w2:World} {y:Nat} {C:Array Value} {X:aA1} (hy:w.heap.size≤y) (h1:Up w w1) (h2:Up w1 w2) (r:w2.heap[y]?=some (.cells C 49)) (hc:aEJ w1.heap.size w2 X) (hz:C.size=(cel (aA0 X)).size):BF w y (w2.setRow y (cel (aA0 X))) X∧aEJ w1.heap.size (w2.setRow y (cel (aA0 X))) X:=by
 have hk:Kept y w2 (w2.setRow y (cel (aA0 X))):=(Kept.refl y w2).setRow _
 have hc2:aEJ w1.heap.size (w2.setRow y (cel (aA0 X))) X:=⟨aA9 hc.o7 hk (aAx hc.o7 r (by decide)),aA9 hc.o9 hk (aAx hc.o9 r (by decide)),aA9 hc.o11 hk (aAx hc.o11 r (by decide)),aA9 hc.o12 hk (aAx hc.o12 r (by decide)),aA9 hc.o15 hk (aAx hc.o15 r (by decide)),aA9 hc.o16 hk (aAx hc.o16 r (by decide)),aA9 hc.o21 hk (aAx hc.o21 r (by decide)),hc.d15,hc.d12⟩
 exact ⟨⟨aA6 (upT h1 h2) hy _,aA4 r,hc2.down h1.size⟩,hc2⟩
attribute [local go_sem ↓] aAq aAr aAz aC9 aE8 aNX aOL aKm
end
section
open Go.RowKit
set_option linter.unusedVariables false
set_option linter.unusedSimpArgs false
set_option maxRecDepth 20000
theorem aOS (W : World) (B : Nat) (v : Value) (n : Nat) (m : Nat → Int) (ho : W.ownsRow B 24 32 v n (bl m (32 * n))) (ao : Option Addr) (len cap : Nat) (f : Nat → Int) (hb : Rts W ao len cap f) (hbd : (n + len) * 32 ≤ 140737488355328) (hB : B ≤ W.heap.size)
    (m':Nat→Int) (hm1:∀ q,q < 32*n→m' q=m q) (hm2:∀ q,q < 32*len→m' (32*n+q)=f q) (ty:TypeId) :
    ∃ v' w',(apR ty v (.slice ao len cap)).run Tryz.prog W=.ok v' w'∧w'.ownsRow B 24 32 v' (n+len) (bl m' (32*(n+len)))∧W.grownBy w' v.ownBlock:=by
 obtain ⟨i,hi,hz0,hz1,hz2⟩:=aMN
 have hzz:(Value.agg (vs .u8 32 fun _=>0)).cells.size=32:=by simp [Value.cells,aAp]
 have e:bl m (32*n)++bl f (32*len)=bl m' (32*(n+len)):=by
  unfold bl
  rw [Nat.mul_add,List.range_add,List.map_append,List.map_map]
  congr 1
  ·exact List.map_congr_left fun j hj=>by rw [hm1 j (List.mem_range.1 hj)]
  ·refine List.map_congr_left fun j hj=>?_
   show Value.int .u8 (f j)=Value.int .u8 (m' (32*n+j))
   rw [hm2 j (List.mem_range.1 hj)]
 rcases hb with ⟨rfl,rfl,rfl⟩ | ⟨x0,rfl,rfl⟩ | ⟨b,off,rfl,hlc,hbl,hc⟩
 ·have h:=run_append_owned_none (P:=Tryz.prog) (w:=W) B 32 ty 24 i 32 Tryz.underlying32 hi _ n _ ho
  refine ⟨_,_,h,?_,⟨rfl,rfl,rfl,Nat.le_refl _,fun _ _ _=>rfl⟩⟩
  rw [←e]
  simpa [bl] using ho
 ·obtain ⟨v',w',hrun,ho',hg,_⟩:=run_append_own_at (P:=Tryz.prog) W B 32 ty 24 i _ 32 32 Tryz.underlying32 hi hz0 hz1 hz2 hzz (by decide) _ n _ ho x0 0 cap (bl f (32*0)) (by rw [aAV])
   (fun j u hj=>by
    have:=(aBD f (32*0) j u hj).1
    omega) (aC0 f _) (by unfold maxLen;omega) (by omega) hB
  exact ⟨v',w',hrun,by rw [←e];exact ho',hg⟩
 ·obtain ⟨v',w',hrun,ho',hg,_⟩:=run_append_own_at (P:=Tryz.prog) W B 32 ty 24 i _ 32 32 Tryz.underlying32 hi hz0 hz1 hz2 hzz (by decide) _ n _ ho ⟨b,off,none⟩ len cap (bl f (32*len)) (by rw [aAV];omega)
   (fun j u hj=>by
    obtain ⟨h1,rfl⟩:=aBD f (32*len) j u hj
    rw [addr_add]
    exact hc j h1) (aC0 f _) (by unfold maxLen;omega) (by omega) hB
  exact ⟨v',w',hrun,by rw [←e];exact ho',hg⟩
attribute [local go_sem ↓] aF0 aDx aEx aAu aAt aF3 aAL
end
end Go.Proofs.YtdjplhibmomajaaGreatDoor
