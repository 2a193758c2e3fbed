/- A part. -/
import Derived.Test.YtfgmddnfhphdeaaGreatDoorQI
import Derived.Test.YtfgmddnfhphdeaaGreatDoorQL
import Derived.Test.YtfgmddnfhphdeaaGreatDoorQH
import Derived.Test.YtfgmddnfhphdeaaGreatDoorQN
import Derived.Test.YtfgmddnfhphdeaaGreatDoorQD
import Derived.Test.YtfgmddnfhphdeaaGreatDoorStY
import Derived.BigRegion
namespace Go.Proofs.YtfgmddnfhphdeaaGreatDoor
open Go.RowKit
set_option linter.unusedVariables false
set_option linter.unusedSimpArgs false
section
open Go.RowKit
set_option linter.unusedVariables false
set_option linter.unusedSimpArgs false
set_option maxRecDepth 20000
def cor (x:VState):VState:={ x with f7:=⟨none,x.f7.n,0,x.f7.z⟩,f9:=⟨none,x.f9.n,0,x.f9.z⟩,f11:=⟨none,x.f11.n,0,x.f11.z⟩,f12:=⟨none,x.f12.n,0,x.f12.z⟩,f15:=⟨none,x.f15.n,0,x.f15.z⟩,f16:=⟨none,x.f16.n,0,x.f16.z⟩,f21:=⟨none,x.f21.n,0,x.f21.z⟩ }
theorem SimF.cor {x X:VState} (h:SimF x X):cor X=cor x:=by
 unfold Go.Proofs.YtfgmddnfhphdeaaGreatDoor.cor
 rw [h.e0,h.e1,h.e2,h.e3,h.e4,h.e5,h.e6,h.l7,h.z7,h.e8,h.l9,h.z9,h.e10,h.l11,h.z11,h.l12,h.z12,h.e13,h.e14,h.l15,h.z15,h.l16,h.z16,h.e17,h.e18,h.e19,h.e20,h.l21,h.z21,h.e22,h.e23]
theorem cor_sim {x X:VState} (h:cor X=cor x):SimF x X:=⟨(congrArg VState.f0 h :),(congrArg VState.f1 h :),(congrArg VState.f2 h :),(congrArg VState.f3 h :),(congrArg VState.f4 h :),(congrArg VState.f5 h :),(congrArg VState.f6 h :),(congrArg (fun s:VState=>s.f7.n) h :),(congrArg (fun s:VState=>s.f7.z) h :),(congrArg VState.f8 h :),(congrArg (fun s:VState=>s.f9.n) h :),(congrArg (fun s:VState=>s.f9.z) h :),(congrArg VState.f10 h :),(congrArg (fun s:VState=>s.f11.n) h :),(congrArg (fun s:VState=>s.f11.z) h :),(congrArg (fun s:VState=>s.f12.n) h :),(congrArg (fun s:VState=>s.f12.z) h :),(congrArg VState.f13 h :),(congrArg VState.f14 h :),(congrArg (fun s:VState=>s.f15.n) h :),(congrArg (fun s:VState=>s.f15.z) h :),(congrArg (fun s:VState=>s.f16.n) h :),(congrArg (fun s:VState=>s.f16.z) h :),(congrArg VState.f17 h :),(congrArg VState.f18 h :),(congrArg VState.f19 h :),(congrArg VState.f20 h :),(congrArg (fun s:VState=>s.f21.n) h :),(congrArg (fun s:VState=>s.f21.z) h :),(congrArg VState.f22 h :),(congrArg VState.f23 h :)⟩
theorem sim_by {F:VState→VState} (hF:∀ x,cor (F x)=cor (F (cor x))) {x X:VState} (h:SimF x X):SimF (F x) (F X):=cor_sim (by rw [hF X,hF x,h.cor])
def far:Int:=18446744073709551615
def w64 (n:Int):Int:=IntKind.u64.wrap n
theorem w64_bd (n:Int):0≤w64 n∧w64 n < 18446744073709551616:=by unfold w64;rw [IntKind.wrap_u64];omega
def lvQ (z:Nat→VValidator) (e:Int):Nat→Int
 | 0 => e + 3
 | k + 1 => if ¬ (z k).f6 = far ∧ lvQ z e k < (z k).f6 then (z k).f6 else lvQ z e k
def lvN (z:Nat→VValidator) (q:Int):Nat→Nat
 | 0 => 0
 | k + 1 => lvN z q k + (if (z k).f6 = q then 1 else 0)
theorem lvN_le (z:Nat→VValidator) (q:Int):∀ k,lvN z q k≤k
 | 0 => Nat.le_refl _
 | k + 1 => by
  show lvN z q k+(if (z k).f6=q then 1 else 0)≤k+1
  have:=lvN_le z q k
  split<;>omega
theorem lvQ_bd (z:Nat→VValidator) (e:Int) (h0:0≤e) (h1:e+3 < 18446744073709551616):∀ k,(∀ j,j < k→0≤(z j).f6∧(z j).f6 < 18446744073709551616)→e+3≤lvQ z e k∧lvQ z e k < 18446744073709551616
 | 0, _ => ⟨Int.le_refl _, h1⟩
 | k + 1, h => by
  have:=lvQ_bd z e h0 h1 k fun j hj=>h j (by omega)
  have hk:=h k (by omega)
  show e+3≤(if ¬ (z k).f6=far∧lvQ z e k < (z k).f6 then (z k).f6 else lvQ z e k)∧(if ¬ (z k).f6=far∧lvQ z e k < (z k).f6 then (z k).f6 else lvQ z e k) < _
  split<;>omega
def lvX (x:VState):Int:=if chuS x≤(lvN x.f11.z (lvQ x.f11.z (x.f2 / 4) x.f11.n) x.f11.n:Int) then w64 (lvQ x.f11.z (x.f2 / 4) x.f11.n+1) else lvQ x.f11.z (x.f2 / 4) x.f11.n
def lvV (q:Int) (v:VValidator):VValidator:={ v with f6:=q,f7:=w64 (q+2) }
def lvS (x:VState) (i:Nat):VState:=if (x.f11.z i).f6=far then valS x i (lvV (lvX x)) else x
def slV (e:Int) (v:VValidator):VValidator:={ v with f3:=true,f7:=if v.f7 < e+8 then e+8 else v.f7 }
def effS (x:VState) (i:Nat):Int:=(x.f11.z i).f2
def s14 (x:VState) (p:Nat) (v:Int):VState:={ x with f14:=fun j=>if j=p then v else x.f14 j }
def slA (x:VState) (i:Nat):VState:=valS (lvS x i) i (slV (x.f2 / 4))
def slB (x:VState) (i:Nat):VState:=s14 (slA x i) (x.f2 / 4 % 8).toNat (w64 ((slA x i).f14 (x.f2 / 4 % 8).toNat+effS x i))
def slC (x:VState) (i:Nat):VState:=balS (slB x i) i (lesV ((slB x i).f12.z i) (effS x i / 64))
def slE (x:VState) (i:Nat):Int:=prE (slC x i)
def slP (x:VState) (i:Nat):Nat:=(prV (slC x i)).toNat
def slS (x:VState) (i:Nat):VState:=if slE x i=0 then balS (slC x i) (slP x i) (w64 ((slC x i).f12.z (slP x i)+effS x i / 512)) else slC x i
theorem lvS_cor (i:Nat) (x:VState):cor (lvS x i)=cor (lvS (cor x) i):=by
 unfold lvS
 by_cases h:(x.f11.z i).f6=far
 ·rw [if_pos h,if_pos (show ((cor x).f11.z i).f6=far from h)];rfl
 ·rw [if_neg h,if_neg (show ¬ ((cor x).f11.z i).f6=far from h)];rfl
theorem lvS_sim {x X:VState} (i:Nat) (h:SimF x X):SimF (lvS x i) (lvS X i):=sim_by (lvS_cor i) h
theorem ok_val {x:VState} (h:OkState x) (i:Nat) (f:VValidator→VValidator) (hf:i < x.f11.n→OkValidator (f (x.f11.z i))):OkState (valS x i f) :=
 { h with
  o11:=fun j hj=>by
   show OkValidator (if j=i then f (x.f11.z i) else x.f11.z j)
   by_cases e:j=i
   ·rw [if_pos e];subst e;exact hf hj
   ·rw [if_neg e];exact h.o11 j hj }
theorem ok_bal {x:VState} (h:OkState x) (i:Nat) (v:Int) (hv:0≤v∧v < 18446744073709551616):OkState (balS x i v) :=
 { h with
  o12:=fun j hj=>by
   show 0≤(if j=i then v else x.f12.z j)∧(if j=i then v else x.f12.z j) < _
   by_cases e:j=i
   ·rw [if_pos e];exact hv
   ·rw [if_neg e];exact h.o12 j hj }
theorem ok_14 {x:VState} (h:OkState x) (p:Nat) (v:Int) (hv:0≤v∧v < 18446744073709551616):OkState (s14 x p v) :=
 { h with
  o14:=fun j hj=>by
   show 0≤(if j=p then v else x.f14 j)∧(if j=p then v else x.f14 j) < _
   by_cases e:j=p
   ·rw [if_pos e];exact hv
   ·rw [if_neg e];exact h.o14 j hj }
theorem lvX_bd {x:VState} (h:OkState x) (h2:x.f2 < 1099511627776):0≤lvX x∧lvX x < 18446744073709551616:=by
 have h0:=h.o2.1
 have:=lvQ_bd x.f11.z (x.f2 / 4) (by omega) (by omega) x.f11.n fun j hj=>(h.o11 j hj).2.2.2.2.2.2.1
 unfold lvX
 split
 ·exact w64_bd _
 ·omega
theorem ok_lv {x:VState} (h:OkState x) (h2:x.f2 < 1099511627776) (i:Nat):OkState (lvS x i):=by
 unfold lvS
 split
 ·exact ok_val h i _ fun hi=>by
   obtain ⟨a,b,c,d,e,f,g,k⟩:=h.o11 i hi
   exact ⟨a,b,c,d,e,f,lvX_bd h h2,w64_bd _⟩
 ·exact h
theorem ok_slA {x:VState} (h:OkState x) (h2:x.f2 < 1099511627776) (i:Nat):OkState (slA x i):=by
 unfold slA
 refine ok_val (ok_lv h h2 i) i _ fun hi=>?_
 obtain ⟨a,b,c,d,e,f,g,k⟩:=(ok_lv h h2 i).o11 i hi
 have h0:=h.o2.1
 refine ⟨a,b,c,trivial,e,f,g,?_⟩
 show 0≤(if ((lvS x i).f11.z i).f7 < x.f2 / 4+8 then x.f2 / 4+8 else ((lvS x i).f11.z i).f7)∧(if ((lvS x i).f11.z i).f7 < x.f2 / 4+8 then x.f2 / 4+8 else ((lvS x i).f11.z i).f7) < _
 split<;>omega
theorem les_bd {a b:Int} (h0:0≤a) (h1:a < 18446744073709551616) (hb:0≤b):0≤lesV a b∧lesV a b < 18446744073709551616:=by
 unfold lesV
 split<;>omega
end
section
open Go.RowKit
set_option linter.unusedVariables false
set_option linter.unusedSimpArgs false
set_option maxRecDepth 20000
theorem valS_valS (X:VState) (i:Nat) (f g:VValidator→VValidator):valS (valS X i f) i g=valS X i fun v=>g (f v):=by
 unfold valS
 congr 2
 funext j
 show (if j=i then g (if i=i then f (X.f11.z i) else X.f11.z i) else if j=i then f (X.f11.z i) else X.f11.z j)=_
 by_cases hj:j=i
 ·rw [if_pos hj,if_pos hj,if_pos rfl]
 ·rw [if_neg hj,if_neg hj,if_neg hj]
theorem valS_at (X:VState) (i:Nat) (f:VValidator→VValidator):(valS X i f).f11.z i=f (X.f11.z i):=if_pos rfl
theorem valS_off (X:VState) (i j:Nat) (f:VValidator→VValidator) (h:j≠i):(valS X i f).f11.z j=X.f11.z j:=if_neg h
structure Rg (x:VState):Prop where
 ok:OkState x
 nb:x.f11.n≤65536
 ln:x.f12.n=x.f11.n
 ef:∀ j,j < x.f11.n→0≤(x.f11.z j).f2∧(x.f11.z j).f2≤32000000000
 sl:x.f2 < 1099511627776
theorem Rg.lk {x:VState} {w:World} (h:Rg x) (hw:InW w x):Lk w x:=⟨hw.i11,h.nb,h.ef,h.ok.o2.1,h.sl⟩
theorem RtO.rg {x:VState} (h:RtO x) (ho:OkState x):Rg x:=by
 refine ⟨ho,h.c0,h.c1,fun j hj=>?_,h.c7⟩
 have:=h.cv j hj
 unfold vldB at this
 simp only [Bool.and_eq_true,decide_eq_true_eq] at this
 exact ⟨(ho.o11 j hj).2.2.1.1,this.2.1⟩
theorem Rg.sim {x X:VState} (h:Rg x) (s:SimF x X):Rg X:=⟨okF_sim s h.ok,by rw [s.l11];exact h.nb,by rw [s.l12,s.l11];exact h.ln,by rw [s.l11,s.z11];exact h.ef,by rw [s.e2];exact h.sl⟩
theorem eff_valS (X:VState) (i:Nat) (f:VValidator→VValidator) (hf:(f (X.f11.z i)).f2=(X.f11.z i).f2) (j:Nat):((valS X i f).f11.z j).f2=(X.f11.z j).f2:=by
 by_cases h:j=i
 ·subst h;rw [valS_at];exact hf
 ·rw [valS_off _ _ _ _ h]
theorem eff_lvS (X:VState) (i j:Nat):((lvS X i).f11.z j).f2=(X.f11.z j).f2:=by
 unfold lvS
 split
 ·exact eff_valS X i (lvV (lvX X)) rfl j
 ·rfl
theorem eff_slA (X:VState) (i j:Nat):((slA X i).f11.z j).f2=(X.f11.z j).f2:=by
 unfold slA
 rw [eff_valS _ _ _ rfl,eff_lvS]
theorem lvS_o (X:VState) (i:Nat):(lvS X i).f2=X.f2∧(lvS X i).f13=X.f13∧(lvS X i).f11.n=X.f11.n∧(lvS X i).f12=X.f12∧(lvS X i).f14=X.f14∧(lvS X i).f11.a=X.f11.a∧(lvS X i).f11.c=X.f11.c:=by
 unfold lvS
 split<;>exact ⟨rfl,rfl,rfl,rfl,rfl,rfl,rfl⟩
theorem slA_o (X:VState) (i:Nat):(slA X i).f2=X.f2∧(slA X i).f13=X.f13∧(slA X i).f11.n=X.f11.n∧(slA X i).f12=X.f12∧(slA X i).f14=X.f14∧(slA X i).f11.a=X.f11.a∧(slA X i).f11.c=X.f11.c:=lvS_o X i
theorem Rg.lv {X:VState} (h:Rg X) (i:Nat):Rg (lvS X i):=by
 obtain ⟨a,b,c,d,e,f,g⟩:=lvS_o X i
 exact ⟨ok_lv h.ok h.sl i,by rw [c];exact h.nb,by rw [c,d];exact h.ln,fun j hj=>by rw [eff_lvS];exact h.ef j (by rw [←c];exact hj),by rw [a];exact h.sl⟩
theorem Rg.a {X:VState} (h:Rg X) (i:Nat):Rg (slA X i):=by
 obtain ⟨a,b,c,d,e,f,g⟩:=slA_o X i
 exact ⟨ok_slA h.ok h.sl i,by rw [c];exact h.nb,by rw [c,d];exact h.ln,fun j hj=>by rw [eff_slA];exact h.ef j (by rw [←c];exact hj),by rw [a];exact h.sl⟩
theorem Rg.b {X:VState} (h:Rg X) (i:Nat):Rg (slB X i):=⟨ok_14 (h.a i).ok _ _ (w64_bd _),(h.a i).nb,(h.a i).ln,(h.a i).ef,(h.a i).sl⟩
theorem Rg.bal {X:VState} (h:Rg X) (i:Nat) (v:Int) (hv:0≤v∧v < 18446744073709551616):Rg (balS X i v):=⟨ok_bal h.ok i v hv,h.nb,h.ln,h.ef,h.sl⟩
theorem Rg.c {X:VState} (h:Rg X) (i:Nat) (hi:i < X.f11.n):Rg (slC X i):=by
 have hb:=h.b i
 have hi2:i < (slB X i).f12.n:=by
  have e1:=hb.ln
  have e2:(slB X i).f11.n=X.f11.n:=(slA_o X i).2.2.1
  omega
 have e:=h.ef i hi
 exact hb.bal i _ (les_bd (hb.ok.o12 i hi2).1 (hb.ok.o12 i hi2).2 (by unfold effS;omega))
def sloS (X:VState) (i p:Nat):VState:=balS (slC X i) p (w64 ((slC X i).f12.z p+effS X i / 512))
theorem Rg.o {X:VState} (h:Rg X) (i p:Nat) (hi:i < X.f11.n):Rg (sloS X i p):=(h.c i hi).bal p _ (w64_bd _)
theorem Rg.s {X:VState} (h:Rg X) (i:Nat) (hi:i < X.f11.n):Rg (slS X i):=by
 unfold slS
 split
 ·exact (h.c i hi).bal _ _ (w64_bd _)
 ·exact h.c i hi
def lqE (x:VState) (i:Int):Int:=if rightB x=true∧i < (x.f11.n:Int) then (if rightB (lvS x i.toNat)=true then 0 else 2) else 1
def lqS (x:VState) (i:Int):VState:=if lqE x i=0 then lvS x i.toNat else oState
theorem right_lns {x:VState} (h:rightB x=true):Lns x:=by
 have:=right_small h
 unfold Lns
 omega
end
section
open Go.RowKit
set_option linter.unusedVariables false
set_option linter.unusedSimpArgs false
set_option maxRecDepth 20000
structure Vl (y g:Nat) (W:World) (X:VState):Prop where
 c11:W.cell? ⟨y,721,none⟩=some (.slice (some ⟨g,0,none⟩) X.f11.n X.f11.c)
 row:∃ C,W.heap[g]?=some (.cells C 74)
 at_:∀ k,k < X.f11.n→W.rangeAt g (86*k) (celL (sValidator (X.f11.z k)))
theorem BK.vl {w V:World} {y g:Nat} {X:VState} (h:BK w y V X) (hg:X.f11.a=some ⟨g,0,none⟩):Vl y g V X:=by
 have c:=cS11 h.row
 rw [hg] at c
 have o:=h.cpd.o11
 rw [hg] at o
 refine ⟨c,(own_row o).2,fun k hk=>?_⟩
 rcases h.inW.i11 with h0 | ⟨b,off,ea,_,hr⟩
 ·omega
 ·rw [hg] at ea
  cases ea
  have:=hr k hk
  rw [Nat.zero_add] at this
  exact this
theorem ixV_u (W:World) (g n c k:Nat) (h:k < n):(ixValidator (.slice (some ⟨g,0,none⟩) n c) (.int .u64 k)).run Tryz.prog W=.ok (.pointer (some ⟨g,86*k,none⟩)) W:=by
 have:=ixValidator_u W g 0 n c k h
 rw [Nat.zero_add] at this
 exact this
theorem val_e6 {w:World} {b o:Nat} {v:VValidator} (h:w.rangeAt b o (celL (sValidator v))):w.cell? ⟨b,o+84,none⟩=some (.int .u64 v.f6):=h 84 _ rfl
theorem val_e7 {w:World} {b o:Nat} {v:VValidator} (h:w.rangeAt b o (celL (sValidator v))):w.cell? ⟨b,o+85,none⟩=some (.int .u64 v.f7):=h 85 _ rfl
attribute [local go_sem ↓] lvState_eq svState_eq lvValidator_eq svValidator_eq ixValidator_eq
end
section
open Go.RowKit
set_option linter.unusedVariables false
set_option linter.unusedSimpArgs false
set_option maxRecDepth 20000
structure Bl12 (y g:Nat) (W:World) (X:VState):Prop where
 c12:W.cell? ⟨y,722,none⟩=some (.slice (some ⟨g,0,none⟩) X.f12.n X.f12.c)
 row:∃ C,W.heap[g]?=some (.cells C 22)
 at_:∀ k,k < X.f12.n→W.cell? ⟨g,k,none⟩=some (.int .u64 (X.f12.z k))
theorem BK.bl12 {w V:World} {y g:Nat} {X:VState} (h:BK w y V X) (hg:X.f12.a=some ⟨g,0,none⟩):Bl12 y g V X:=by
 have c:=cS12 h.row
 rw [hg] at c
 have o:=h.cpd.o12
 rw [hg] at o
 refine ⟨c,(own_row o).2,fun k hk=>?_⟩
 rcases h.inW.i12 with h0 | ⟨b,off,ea,_,hr⟩
 ·omega
 ·rw [hg] at ea
  cases ea
  have:=hr k hk
  rw [Nat.zero_add] at this
  exact this
attribute [local go_sem ↓] lvState_eq svState_eq bdState_eq lvValidator_eq svValidator_eq ixValidator_eq ixU_eq
theorem BK.res {w V:World} {y:Nat} {Y:VState} (h:BK w y V Y):Res w.heap.size V Y Y:=⟨.refl _,h.inW,h.cpd.nil,h.cpd.nw⟩
end
section
open Go.RowKit
set_option linter.unusedVariables false
set_option linter.unusedSimpArgs false
set_option maxRecDepth 20000
def dnE (x:VState) (e:Int):Int:=if e=0 then (if rightB x=true then 0 else 2) else e
def dnS (x:VState) (e:Int):VState:=if dnE x e=0 then x else oState
theorem BK.give {w V:World} {y b:Nat} {Y:VState} {C:Array Value} (h:BK w y V Y) (r:V.heap[b]?=some (.cells C 49)) (c:Array Value):Res w.heap.size (V.setRow b c) Y Y:=by
 have hk:Kept b V (V.setRow b c):=(Kept.refl b V).setRow c
 have cp:CpdF w.heap.size (V.setRow b c) Y:=⟨own_keptB h.cpd.o7 hk (own_ne h.cpd.o7 r (by decide)),own_keptB h.cpd.o9 hk (own_ne h.cpd.o9 r (by decide)),own_keptB h.cpd.o11 hk (own_ne h.cpd.o11 r (by decide)),own_keptB h.cpd.o12 hk (own_ne h.cpd.o12 r (by decide)),own_keptB h.cpd.o15 hk (own_ne h.cpd.o15 r (by decide)),own_keptB h.cpd.o16 hk (own_ne h.cpd.o16 r (by decide)),own_keptB h.cpd.o21 hk (own_ne h.cpd.o21 r (by decide)),h.cpd.d15,h.cpd.d12⟩
 exact ⟨.refl _,⟨own_rtF cp.o7,own_els cp.o9 (fun i=>by rw [celL_len];rfl),own_els cp.o11 (fun i=>by rw [celL_len];rfl),own_nms cp.o12,own_byF cp.o15,own_byF cp.o16,own_nms cp.o21⟩,cp.nil,cp.nw⟩
attribute [local go_sem ↓] lvState_eq svState_eq bdState_eq
set_option maxHeartbeats 4000000 in
theorem rdone_any (x : VState) (e : Int) (w : World) (hx : OkState x) (hw : InW w x) :
    Calls Tryz.prog 22 #[.agg (cel (sState x)),.int .i64 e] w fun e' w'=>e'=.returned (.tuple #[.agg (cel (sState (dnS x e))),.int .i64 (dnE x e)])∧Below w.heap.size w w':=by
 obtain ⟨W0,hW0⟩:∃ W,(w.alloc (.cells (cel (sState x)) 49)).alloc (.cells (cel (sState oState)) 49)=W:=⟨_,rfl⟩
 have r0:W0.heap[w.heap.size]?=some (.cells (cel (sState x)) 49):=by rw [←hW0];exact (heap_old (by simp)).trans (heap_new rfl)
 have r1:W0.heap[w.heap.size+1]?=some (.cells (cel (sState oState)) 49):=by rw [←hW0];exact heap_new (by simp)
 have hB0:Up w W0:=by rw [←hW0];exact ((Below.refl _ _).alloc (Nat.le_refl _) _).alloc (by simp) _
 have hri:=rright_any x W0 hx.r' (hw.below hB0).r' ⟨hx.o10.1,hx.o4.1.1,hx.o18.1.1,hx.o19.1.1,hx.o20.1.1⟩
 have lx:=lvState_run r0
 have z:=zeroState
 have bz:=bdState_0
 have HB:=hid hB0
 have HW:=hid hW0
 have R0:=hid r0
 have R1:=hid r1
 have HRI:=hid hri
 clear hri hB0 hW0 r0 r1 hx hw
 by_cases he:e=0
 ·subst he
  cases hR:rightB x
  ·rw [hR] at HRI
   have eE:dnE x 0=2:=by unfold dnE;rw [hR];rfl
   have eS:dnS x 0=oState:=by unfold dnS;rw [eE];rfl
   rw [eE,eS]
   clear eE eS hR R0
   go_enter Tryz.func22,Tryz.ntmps22
   go_upto_region 1 with fail
   rw [HW.out]
   clear HW z
   go_wp2_with (go_at_call 19;refine HRI.out.mono ?_;rintro e' w1 ⟨rfl,hb1⟩;have s1:=svState_run (upR hb1 R1.out) oState)
   exact retState 4 5 (w.heap.size+1) oState 49 (.int .i64 2) rfl rfl rfl rfl (setRow_at (upR hb1 R1.out)) ⟨rfl,below_row (upT HB.out hb1) (by omega) _⟩
  ·rw [hR] at HRI
   have eE:dnE x 0=0:=by unfold dnE;rw [hR];rfl
   have eS:dnS x 0=x:=by unfold dnS;rw [eE];rfl
   rw [eE,eS]
   clear eE eS hR
   go_enter Tryz.func22,Tryz.ntmps22
   go_upto_region 1 with fail
   rw [HW.out]
   clear HW z
   go_wp2_with (go_at_call 19;refine HRI.out.mono ?_;rintro e' w1 ⟨rfl,hb1⟩;have lx1:=lvState_run (upR hb1 R0.out);have s1:=svState_run (upR hb1 R1.out) x)
   exact retState 4 5 (w.heap.size+1) x 49 (.int .i64 0) rfl rfl rfl rfl (setRow_at (upR hb1 R1.out)) ⟨rfl,below_row (upT HB.out hb1) (by omega) _⟩
 ·have eE:dnE x e=e:=if_neg he
  have eS:dnS x e=oState:=by unfold dnS;rw [eE,if_neg he]
  rw [eE,eS]
  have s1:=svState_run R1.out oState
  have he1:(e == 0)=false:=by simp [he]
  have he2:(e != 0)=true:=by simp [he]
  clear eE eS HRI R0
  go_enter Tryz.func22,Tryz.ntmps22
  go_upto_region 1 with fail
  rw [HW.out]
  clear HW z
  go_wp2
  exact retState 4 5 (w.heap.size+1) oState 49 (.int .i64 e) rfl rfl rfl rfl (setRow_at R1.out) ⟨rfl,below_row HB.out (by omega) _⟩
end
end Go.Proofs.YtfgmddnfhphdeaaGreatDoor
