/- A part. -/
import Derived.Test.YtdamhdnljnifcaaGreatDoorQJ
import Derived.Test.YtdamhdnljnifcaaGreatDoorQH
import Derived.Test.YtdamhdnljnifcaaGreatDoorQI
import Derived.Test.YtdamhdnljnifcaaGreatDoorQM
import Derived.Test.YtdamhdnljnifcaaGreatDoorQF
namespace Go.Proofs.YtdamhdnljnifcaaGreatDoor
open Go.RowKit
set_option linter.unusedVariables false
set_option linter.unusedSimpArgs false
section
open Go.RowKit
set_option linter.unusedVariables false
set_option linter.unusedSimpArgs false
set_option maxRecDepth 20000
def cor (x:VState):VState:={ x with f7:=⟨none,x.f7.n,0,x.f7.z⟩,f9:=⟨none,x.f9.n,0,x.f9.z⟩,f11:=⟨none,x.f11.n,0,x.f11.z⟩,f12:=⟨none,x.f12.n,0,x.f12.z⟩,f15:=⟨none,x.f15.n,0,x.f15.z⟩,f16:=⟨none,x.f16.n,0,x.f16.z⟩,f21:=⟨none,x.f21.n,0,x.f21.z⟩ }
theorem SimF.cor {x X:VState} (h:SimF x X):cor X=cor x:=by
 unfold Go.Proofs.YtdamhdnljnifcaaGreatDoor.cor
 rw [h.e0,h.e1,h.e2,h.e3,h.e4,h.e5,h.e6,h.l7,h.z7,h.e8,h.l9,h.z9,h.e10,h.l11,h.z11,h.l12,h.z12,h.e13,h.e14,h.l15,h.z15,h.l16,h.z16,h.e17,h.e18,h.e19,h.e20,h.l21,h.z21,h.e22,h.e23]
theorem cor_sim {x X:VState} (h:cor X=cor x):SimF x X:=⟨(congrArg VState.f0 h :),(congrArg VState.f1 h :),(congrArg VState.f2 h :),(congrArg VState.f3 h :),(congrArg VState.f4 h :),(congrArg VState.f5 h :),(congrArg VState.f6 h :),(congrArg (fun s:VState=>s.f7.n) h :),(congrArg (fun s:VState=>s.f7.z) h :),(congrArg VState.f8 h :),(congrArg (fun s:VState=>s.f9.n) h :),(congrArg (fun s:VState=>s.f9.z) h :),(congrArg VState.f10 h :),(congrArg (fun s:VState=>s.f11.n) h :),(congrArg (fun s:VState=>s.f11.z) h :),(congrArg (fun s:VState=>s.f12.n) h :),(congrArg (fun s:VState=>s.f12.z) h :),(congrArg VState.f13 h :),(congrArg VState.f14 h :),(congrArg (fun s:VState=>s.f15.n) h :),(congrArg (fun s:VState=>s.f15.z) h :),(congrArg (fun s:VState=>s.f16.n) h :),(congrArg (fun s:VState=>s.f16.z) h :),(congrArg VState.f17 h :),(congrArg VState.f18 h :),(congrArg VState.f19 h :),(congrArg VState.f20 h :),(congrArg (fun s:VState=>s.f21.n) h :),(congrArg (fun s:VState=>s.f21.z) h :),(congrArg VState.f22 h :),(congrArg VState.f23 h :)⟩
theorem sim_by {F:VState→VState} (hF:∀ x,cor (F x)=cor (F (cor x))) {x X:VState} (h:SimF x X):SimF (F x) (F X):=cor_sim (by rw [hF X,hF x,h.cor])
def far:Int:=18446744073709551615
def w64 (n:Int):Int:=IntKind.u64.wrap n
theorem w64_bd (n:Int):0≤w64 n∧w64 n < 18446744073709551616:=by unfold w64;rw [IntKind.wrap_u64];omega
def lvQ (z:Nat→VValidator) (e:Int):Nat→Int
 | 0 => e + 3
 | k + 1 => if ¬ (z k).f6 = far ∧ lvQ z e k < (z k).f6 then (z k).f6 else lvQ z e k
def lvN (z:Nat→VValidator) (q:Int):Nat→Nat
 | 0 => 0
 | k + 1 => lvN z q k + (if (z k).f6 = q then 1 else 0)
theorem lvN_le (z:Nat→VValidator) (q:Int):∀ k,lvN z q k≤k
 | 0 => Nat.le_refl _
 | k + 1 => by
  show lvN z q k+(if (z k).f6=q then 1 else 0)≤k+1
  have:=lvN_le z q k
  split<;>omega
theorem lvQ_bd (z:Nat→VValidator) (e:Int) (h0:0≤e) (h1:e+3 < 18446744073709551616):∀ k,(∀ j,j < k→0≤(z j).f6∧(z j).f6 < 18446744073709551616)→e+3≤lvQ z e k∧lvQ z e k < 18446744073709551616
 | 0, _ => ⟨Int.le_refl _, h1⟩
 | k + 1, h => by
  have:=lvQ_bd z e h0 h1 k fun j hj=>h j (by omega)
  have hk:=h k (by omega)
  show e+3≤(if ¬ (z k).f6=far∧lvQ z e k < (z k).f6 then (z k).f6 else lvQ z e k)∧(if ¬ (z k).f6=far∧lvQ z e k < (z k).f6 then (z k).f6 else lvQ z e k) < _
  split<;>omega
def lvX (x:VState):Int:=if chuS x≤(lvN x.f11.z (lvQ x.f11.z (x.f2 / 4) x.f11.n) x.f11.n:Int) then w64 (lvQ x.f11.z (x.f2 / 4) x.f11.n+1) else lvQ x.f11.z (x.f2 / 4) x.f11.n
def lvV (q:Int) (v:VValidator):VValidator:={ v with f6:=q,f7:=w64 (q+2) }
def lvS (x:VState) (i:Nat):VState:=if (x.f11.z i).f6=far then valS x i (lvV (lvX x)) else x
def slV (e:Int) (v:VValidator):VValidator:={ v with f3:=true,f7:=if v.f7 < e+8 then e+8 else v.f7 }
def effS (x:VState) (i:Nat):Int:=(x.f11.z i).f2
def s14 (x:VState) (p:Nat) (v:Int):VState:={ x with f14:=fun j=>if j=p then v else x.f14 j }
def slA (x:VState) (i:Nat):VState:=valS (lvS x i) i (slV (x.f2 / 4))
def slB (x:VState) (i:Nat):VState:=s14 (slA x i) (x.f2 / 4 % 8).toNat (w64 ((slA x i).f14 (x.f2 / 4 % 8).toNat+effS x i))
def slC (x:VState) (i:Nat):VState:=balS (slB x i) i (lesV ((slB x i).f12.z i) (effS x i / 64))
def slE (x:VState) (i:Nat):Int:=prE (slC x i)
def slP (x:VState) (i:Nat):Nat:=(prV (slC x i)).toNat
def slS (x:VState) (i:Nat):VState:=if slE x i=0 then balS (slC x i) (slP x i) (w64 ((slC x i).f12.z (slP x i)+effS x i / 512)) else slC x i
theorem lvS_cor (i:Nat) (x:VState):cor (lvS x i)=cor (lvS (cor x) i):=by
 unfold lvS
 by_cases h:(x.f11.z i).f6=far
 ·rw [if_pos h,if_pos (show ((cor x).f11.z i).f6=far from h)];rfl
 ·rw [if_neg h,if_neg (show ¬ ((cor x).f11.z i).f6=far from h)];rfl
theorem lvS_sim {x X:VState} (i:Nat) (h:SimF x X):SimF (lvS x i) (lvS X i):=sim_by (lvS_cor i) h
theorem ok_val {x:VState} (h:OkState x) (i:Nat) (f:VValidator→VValidator) (hf:i < x.f11.n→OkValidator (f (x.f11.z i))):OkState (valS x i f) :=
 { h with
  o11:=fun j hj=>by
   show OkValidator (if j=i then f (x.f11.z i) else x.f11.z j)
   by_cases e:j=i
   ·rw [if_pos e];subst e;exact hf hj
   ·rw [if_neg e];exact h.o11 j hj }
theorem ok_bal {x:VState} (h:OkState x) (i:Nat) (v:Int) (hv:0≤v∧v < 18446744073709551616):OkState (balS x i v) :=
 { h with
  o12:=fun j hj=>by
   show 0≤(if j=i then v else x.f12.z j)∧(if j=i then v else x.f12.z j) < _
   by_cases e:j=i
   ·rw [if_pos e];exact hv
   ·rw [if_neg e];exact h.o12 j hj }
theorem ok_14 {x:VState} (h:OkState x) (p:Nat) (v:Int) (hv:0≤v∧v < 18446744073709551616):OkState (s14 x p v) :=
 { h with
  o14:=fun j hj=>by
   show 0≤(if j=p then v else x.f14 j)∧(if j=p then v else x.f14 j) < _
   by_cases e:j=p
   ·rw [if_pos e];exact hv
   ·rw [if_neg e];exact h.o14 j hj }
theorem lvX_bd {x:VState} (h:OkState x) (h2:x.f2 < 1099511627776):0≤lvX x∧lvX x < 18446744073709551616:=by
 have h0:=h.o2.1
 have:=lvQ_bd x.f11.z (x.f2 / 4) (by omega) (by omega) x.f11.n fun j hj=>(h.o11 j hj).2.2.2.2.2.2.1
 unfold lvX
 split
 ·exact w64_bd _
 ·omega
theorem ok_lv {x:VState} (h:OkState x) (h2:x.f2 < 1099511627776) (i:Nat):OkState (lvS x i):=by
 unfold lvS
 split
 ·exact ok_val h i _ fun hi=>by
   obtain ⟨a,b,c,d,e,f,g,k⟩:=h.o11 i hi
   exact ⟨a,b,c,d,e,f,lvX_bd h h2,w64_bd _⟩
 ·exact h
theorem ok_slA {x:VState} (h:OkState x) (h2:x.f2 < 1099511627776) (i:Nat):OkState (slA x i):=by
 unfold slA
 refine ok_val (ok_lv h h2 i) i _ fun hi=>?_
 obtain ⟨a,b,c,d,e,f,g,k⟩:=(ok_lv h h2 i).o11 i hi
 have h0:=h.o2.1
 refine ⟨a,b,c,trivial,e,f,g,?_⟩
 show 0≤(if ((lvS x i).f11.z i).f7 < x.f2 / 4+8 then x.f2 / 4+8 else ((lvS x i).f11.z i).f7)∧(if ((lvS x i).f11.z i).f7 < x.f2 / 4+8 then x.f2 / 4+8 else ((lvS x i).f11.z i).f7) < _
 split<;>omega
theorem les_bd {a b:Int} (h0:0≤a) (h1:a < 18446744073709551616) (hb:0≤b):0≤lesV a b∧lesV a b < 18446744073709551616:=by
 unfold lesV
 split<;>omega
end
section
open Go.RowKit
set_option linter.unusedVariables false
set_option linter.unusedSimpArgs false
set_option maxRecDepth 20000
theorem valS_valS (X:VState) (i:Nat) (f g:VValidator→VValidator):valS (valS X i f) i g=valS X i fun v=>g (f v):=by
 unfold valS
 congr 2
 funext j
 show (if j=i then g (if i=i then f (X.f11.z i) else X.f11.z i) else if j=i then f (X.f11.z i) else X.f11.z j)=_
 by_cases hj:j=i
 ·rw [if_pos hj,if_pos hj,if_pos rfl]
 ·rw [if_neg hj,if_neg hj,if_neg hj]
theorem valS_at (X:VState) (i:Nat) (f:VValidator→VValidator):(valS X i f).f11.z i=f (X.f11.z i):=if_pos rfl
theorem valS_off (X:VState) (i j:Nat) (f:VValidator→VValidator) (h:j≠i):(valS X i f).f11.z j=X.f11.z j:=if_neg h
structure Rg (x:VState):Prop where
 ok:OkState x
 nb:x.f11.n≤65536
 ln:x.f12.n=x.f11.n
 ef:∀ j,j < x.f11.n→0≤(x.f11.z j).f2∧(x.f11.z j).f2≤32000000000
 sl:x.f2 < 1099511627776
theorem Rg.lk {x:VState} {w:World} (h:Rg x) (hw:InW w x):Lk w x:=⟨hw.i11,h.nb,h.ef,h.ok.o2.1,h.sl⟩
theorem RtO.rg {x:VState} (h:RtO x) (ho:OkState x):Rg x:=by
 refine ⟨ho,h.c0,h.c1,fun j hj=>?_,h.c7⟩
 have:=h.cv j hj
 unfold vldB at this
 simp only [Bool.and_eq_true,decide_eq_true_eq] at this
 exact ⟨(ho.o11 j hj).2.2.1.1,this.2.1⟩
theorem Rg.sim {x X:VState} (h:Rg x) (s:SimF x X):Rg X:=⟨okF_sim s h.ok,by rw [s.l11];exact h.nb,by rw [s.l12,s.l11];exact h.ln,by rw [s.l11,s.z11];exact h.ef,by rw [s.e2];exact h.sl⟩
theorem eff_valS (X:VState) (i:Nat) (f:VValidator→VValidator) (hf:(f (X.f11.z i)).f2=(X.f11.z i).f2) (j:Nat):((valS X i f).f11.z j).f2=(X.f11.z j).f2:=by
 by_cases h:j=i
 ·subst h;rw [valS_at];exact hf
 ·rw [valS_off _ _ _ _ h]
theorem eff_lvS (X:VState) (i j:Nat):((lvS X i).f11.z j).f2=(X.f11.z j).f2:=by
 unfold lvS
 split
 ·exact eff_valS X i (lvV (lvX X)) rfl j
 ·rfl
theorem eff_slA (X:VState) (i j:Nat):((slA X i).f11.z j).f2=(X.f11.z j).f2:=by
 unfold slA
 rw [eff_valS _ _ _ rfl,eff_lvS]
theorem lvS_o (X:VState) (i:Nat):(lvS X i).f2=X.f2∧(lvS X i).f13=X.f13∧(lvS X i).f11.n=X.f11.n∧(lvS X i).f12=X.f12∧(lvS X i).f14=X.f14∧(lvS X i).f11.a=X.f11.a∧(lvS X i).f11.c=X.f11.c:=by
 unfold lvS
 split<;>exact ⟨rfl,rfl,rfl,rfl,rfl,rfl,rfl⟩
theorem slA_o (X:VState) (i:Nat):(slA X i).f2=X.f2∧(slA X i).f13=X.f13∧(slA X i).f11.n=X.f11.n∧(slA X i).f12=X.f12∧(slA X i).f14=X.f14∧(slA X i).f11.a=X.f11.a∧(slA X i).f11.c=X.f11.c:=lvS_o X i
theorem Rg.lv {X:VState} (h:Rg X) (i:Nat):Rg (lvS X i):=by
 obtain ⟨a,b,c,d,e,f,g⟩:=lvS_o X i
 exact ⟨ok_lv h.ok h.sl i,by rw [c];exact h.nb,by rw [c,d];exact h.ln,fun j hj=>by rw [eff_lvS];exact h.ef j (by rw [←c];exact hj),by rw [a];exact h.sl⟩
theorem Rg.a {X:VState} (h:Rg X) (i:Nat):Rg (slA X i):=by
 obtain ⟨a,b,c,d,e,f,g⟩:=slA_o X i
 exact ⟨ok_slA h.ok h.sl i,by rw [c];exact h.nb,by rw [c,d];exact h.ln,fun j hj=>by rw [eff_slA];exact h.ef j (by rw [←c];exact hj),by rw [a];exact h.sl⟩
theorem Rg.b {X:VState} (h:Rg X) (i:Nat):Rg (slB X i):=⟨ok_14 (h.a i).ok _ _ (w64_bd _),(h.a i).nb,(h.a i).ln,(h.a i).ef,(h.a i).sl⟩
theorem Rg.bal {X:VState} (h:Rg X) (i:Nat) (v:Int) (hv:0≤v∧v < 18446744073709551616):Rg (balS X i v):=⟨ok_bal h.ok i v hv,h.nb,h.ln,h.ef,h.sl⟩
theorem Rg.c {X:VState} (h:Rg X) (i:Nat) (hi:i < X.f11.n):Rg (slC X i):=by
 have hb:=h.b i
 have hi2:i < (slB X i).f12.n:=by
  have e1:=hb.ln
  have e2:(slB X i).f11.n=X.f11.n:=(slA_o X i).2.2.1
  omega
 have e:=h.ef i hi
 exact hb.bal i _ (les_bd (hb.ok.o12 i hi2).1 (hb.ok.o12 i hi2).2 (by unfold effS;omega))
def sloS (X:VState) (i p:Nat):VState:=balS (slC X i) p (w64 ((slC X i).f12.z p+effS X i / 512))
theorem Rg.o {X:VState} (h:Rg X) (i p:Nat) (hi:i < X.f11.n):Rg (sloS X i p):=(h.c i hi).bal p _ (w64_bd _)
theorem Rg.s {X:VState} (h:Rg X) (i:Nat) (hi:i < X.f11.n):Rg (slS X i):=by
 unfold slS
 split
 ·exact (h.c i hi).bal _ _ (w64_bd _)
 ·exact h.c i hi
def lqE (x:VState) (i:Int):Int:=if rightB x=true∧i < (x.f11.n:Int) then (if rightB (lvS x i.toNat)=true then 0 else 2) else 1
def lqS (x:VState) (i:Int):VState:=if lqE x i=0 then lvS x i.toNat else oState
theorem lqE_sim {x X:VState} (h:SimF x X) (i:Int):lqE X i=lqE x i:=by unfold lqE;rw [rightF h,h.l11,rightF (lvS_sim i.toNat h)]
theorem lqS_sim {x X:VState} (h:SimF x X) (i:Int):SimF (lqS x i) (lqS X i):=by
 unfold lqS
 rw [lqE_sim h]
 split
 ·exact lvS_sim _ h
 ·exact SimF.refl _
theorem right_lns {x:VState} (h:rightB x=true):Lns x:=by
 have:=right_small h
 unfold Lns
 omega
end
section
open Go.RowKit
set_option linter.unusedVariables false
set_option linter.unusedSimpArgs false
set_option maxRecDepth 20000
structure Vl (y g:Nat) (W:World) (X:VState):Prop where
 c11:W.cell? ⟨y,721,none⟩=some (.slice (some ⟨g,0,none⟩) X.f11.n X.f11.c)
 row:∃ C,W.heap[g]?=some (.cells C 75)
 at_:∀ k,k < X.f11.n→W.rangeAt g (86*k) (celL (sValidator (X.f11.z k)))
theorem BK.vl {w V:World} {y g:Nat} {X:VState} (h:BK w y V X) (hg:X.f11.a=some ⟨g,0,none⟩):Vl y g V X:=by
 have c:=cS11 h.row
 rw [hg] at c
 have o:=h.cpd.o11
 rw [hg] at o
 refine ⟨c,(own_row o).2,fun k hk=>?_⟩
 rcases h.inW.i11 with h0 | ⟨b,off,ea,_,hr⟩
 ·omega
 ·rw [hg] at ea
  cases ea
  have:=hr k hk
  rw [Nat.zero_add] at this
  exact this
theorem ixV_i (W:World) (g n c k:Nat) (h:k < n):(ixValidator (.slice (some ⟨g,0,none⟩) n c) (.int .i64 k)).run Tryz.prog W=.ok (.pointer (some ⟨g,86*k,none⟩)) W:=by
 have:=ixValidator_run W g 0 n c k h
 rw [Nat.zero_add] at this
 exact this
theorem ixV_u (W:World) (g n c k:Nat) (h:k < n):(ixValidator (.slice (some ⟨g,0,none⟩) n c) (.int .u64 k)).run Tryz.prog W=.ok (.pointer (some ⟨g,86*k,none⟩)) W:=by
 have:=ixValidator_u W g 0 n c k h
 rw [Nat.zero_add] at this
 exact this
theorem val_e6 {w:World} {b o:Nat} {v:VValidator} (h:w.rangeAt b o (celL (sValidator v))):w.cell? ⟨b,o+84,none⟩=some (.int .u64 v.f6):=h 84 _ rfl
theorem val_e7 {w:World} {b o:Nat} {v:VValidator} (h:w.rangeAt b o (celL (sValidator v))):w.cell? ⟨b,o+85,none⟩=some (.int .u64 v.f7):=h 85 _ rfl
attribute [local go_sem ↓] lvState_eq svState_eq lvValidator_eq svValidator_eq ixValidator_eq
set_option maxHeartbeats 4000000 in
theorem rleaving_any (X : VState) (i y : Nat) (w V : World) (hb : BK w y V X) (hR : Rg X) (hi : i < X.f11.n) :
    Calls Tryz.prog 89 #[.pointer (some ⟨y,0,none⟩),.int .u64 i] V fun e' V'=>e'=.returned (.tuple #[])∧BK w y V' (lvS X i):=by
 obtain ⟨g,hg⟩:=own_some hb.cpd.o11 (by omega)
 have hvl:=hb.vl hg
 have c0:=hvl.c11
 have e0:=val_e6 (hvl.at_ i hi)
 have ix:=fun W=>ixV_u W g X.f11.n X.f11.c i hi
 by_cases hf:(X.f11.z i).f6=far
 ·have hE:lvS X i=valS X i (lvV (lvX X)):=if_pos hf
  have hep:=repoch_any X V hR.ok.o2.1 hR.sl
  have ld:=lvState_run hb.row
  have h2:=hR.ok.o2.1
  have h2':=hR.sl
  rw [hf] at e0
  unfold far at e0
  have HB:=hid hb
  have HR:=hid hR
  have HG:=hid hg
  have HE:=hid hE
  obtain ⟨E,eE⟩:∃ E,X.f2 / 4=E:=⟨_,rfl⟩
  have hE0:0≤E:=by omega
  have hE1:E < 274877906944:=by omega
  rw [eE] at hep
  have EE:=hid eE
  have HEP:=hid hep
  have k1:IntKind.u64.wrap (E+1)=E+1:=by rw [IntKind.wrap_u64];omega
  have k2:IntKind.u64.wrap (E+1+2)=E+3:=by rw [IntKind.wrap_u64];omega
  clear hb hvl hf hE hep hg eE h2 h2' hR
  go_enter Tryz.func89,Tryz.ntmps89
  go_upto_region 2 with (go_at_call 36;refine HEP.out.mono ?_;rintro e' w1 ⟨rfl,hb1⟩)
  have hB1:=HB.out.below hb1
  have hvl:=hB1.vl HG.out
  have c1:=hvl.c11
  have cel:=fun k (hk:k < X.f11.n)=>val_e6 (hvl.at_ k hk)
  have ixi:=fun W k (hk:k < X.f11.n)=>ixV_i W g X.f11.n X.f11.c k hk
  have nb:=HR.out.nb
  have hq:∀ k,k≤X.f11.n→E+3≤lvQ X.f11.z E k∧lvQ X.f11.z E k < 18446744073709551616:=fun k hk=>lvQ_bd X.f11.z E hE0 (by omega) k fun j hj=>(HR.out.ok.o11 j (by omega)).2.2.2.2.2.2.1
  have HB1:=hid hB1
  have HC1:=hid c1
  have CEL:=hid cel
  have IXI:=hid ixi
  have HQ:=hid hq
  have NB:=hid nb
  have IX:=hid ix
  have hlx:lvX X=if chuS X≤(lvN X.f11.z (lvQ X.f11.z E X.f11.n) X.f11.n:Int) then w64 (lvQ X.f11.z E X.f11.n+1) else lvQ X.f11.z E X.f11.n:=by rw [←EE.out];rfl
  have HLX:=hid hlx
  have hch:=rchurn_any X w1 (HR.out.lk hB1.inW)
  have HCH:=hid hch
  have ld1:=lvState_run hB1.row
  have LD1:=hid ld1
  have HI:=hid hi
  obtain ⟨n,en⟩:∃ n,X.f11.n=n:=⟨_,rfl⟩
  obtain ⟨z,ez⟩:∃ z,X.f11.z=z:=⟨_,rfl⟩
  obtain ⟨C,eC⟩:∃ C,X.f11.c=C:=⟨_,rfl⟩
  rw [en,ez] at HLX HQ CEL
  rw [en,eC] at HC1 IXI IX
  rw [en] at NB HI
  have EN:=hid en
  have EZ:=hid ez
  have EC:=hid eC
  clear hB1 hvl c1 cel ixi hq nb ix hlx hch ld1 hi e0 c0 ld hb1 en ez eC HEP k1 k2
  have c1:=HC1.out
  go_wp2
  go_loopw [4,5] (fun q c wr=>∃ k:Nat,k≤n∧q=.int .u64 (lvQ z E k)∧c=.int .i64 k∧wr=w1) (fun _ c _=>n - (intOf c).toNat)
  case atStart=>exact ⟨0,by omega,rfl,rfl,rfl⟩
  case round =>
   obtain ⟨k,hk,rfl,rfl,hw⟩:=hrel
   obtain rfl:=hw.symm
   have hst:lvQ z E (k+1)=if ¬ (z k).f6=far∧lvQ z E k < (z k).f6 then (z k).f6 else lvQ z E k:=rfl
   have HST:=hid hst
   clear hst
   by_cases hkn:k < n
   ·have k1:(k:Int) < (n:Int):=by omega
    have kw:IntKind.i64.wrap ((k:Int)+1)=(k:Int)+1:=by have:=NB.out;rw [IntKind.wrap_i64];omega
    have ck:=CEL.out k hkn
    have ik:=fun W=>IXI.out W k hkn
    obtain ⟨F,eF⟩:∃ F,(z k).f6=F:=⟨_,rfl⟩
    obtain ⟨Q,eQ⟩:∃ Q,lvQ z E k=Q:=⟨_,rfl⟩
    rw [eF] at ck HST
    rw [eQ] at HST ⊢
    clear eF eQ
    unfold far at HST
    by_cases hF:F=18446744073709551615
    ·subst hF
     go_wp2
     go_roundw
     case rel=>exact ⟨k+1,by omega,by rw [HST.out,if_neg (fun h=>h.1 rfl)],by go_num,trivial⟩
     case measure=>simp [intOf];omega
    ·have hF2:(F != 18446744073709551615)=true:=by simp [hF]
     by_cases hG:Q < F
     ·go_wp2
      go_roundw
      case rel=>exact ⟨k+1,by omega,by rw [HST.out,if_pos ⟨hF,hG⟩],by go_num,trivial⟩
      case measure=>simp [intOf];omega
     ·have hG2:F≤Q:=by omega
      go_wp2
      go_roundw
      case rel=>exact ⟨k+1,by omega,by rw [HST.out,if_neg (fun h=>hG h.2)],by go_num,trivial⟩
      case measure=>simp [intOf];omega
   ·obtain rfl:k=n:=by omega
    have kN:¬ (k:Int) < (k:Int):=by omega
    obtain ⟨Q,eQ⟩:∃ Q,lvQ z E k=Q:=⟨_,rfl⟩
    have hQb:=HQ.out k (Nat.le_refl _)
    rw [eQ] at hQb HLX ⊢
    clear HST eQ HQ
    have HQB:=hid hQb
    clear hQb
    go_wp2
    go_loopw [7,8] (fun q c wr=>∃ m:Nat,m≤k∧q=.int .u64 (lvN z Q m:Nat)∧c=.int .i64 m∧wr=w1) (fun _ c _=>k - (intOf c).toNat)
    case atStart=>exact ⟨0,by omega,rfl,rfl,rfl⟩
    case round =>
     obtain ⟨m,hm,rfl,rfl,hw⟩:=hrel
     obtain rfl:=hw.symm
     have hst:lvN z Q (m+1)=lvN z Q m+(if (z m).f6=Q then 1 else 0):=rfl
     have hle:=lvN_le z Q m
     have HST:=hid hst
     clear hst
     by_cases hmn:m < k
     ·have k1:(m:Int) < (k:Int):=by omega
      have kw:IntKind.i64.wrap ((m:Int)+1)=(m:Int)+1:=by have:=NB.out;rw [IntKind.wrap_i64];omega
      have ck:=CEL.out m hmn
      have ik:=fun W=>IXI.out W m hmn
      obtain ⟨F,eF⟩:∃ F,(z m).f6=F:=⟨_,rfl⟩
      obtain ⟨N,eN⟩:∃ N,lvN z Q m=N:=⟨_,rfl⟩
      rw [eF] at ck HST
      rw [eN] at HST hle ⊢
      have kw2:IntKind.u64.wrap ((N:Int)+1)=(N:Int)+1:=by have:=NB.out;rw [IntKind.wrap_u64];omega
      clear eF eN hle
      by_cases hF:F=Q
      ·subst hF
       go_wp2
       go_roundw
       case rel=>exact ⟨m+1,by omega,by rw [HST.out,if_pos rfl];go_num,by go_num,trivial⟩
       case measure=>simp [intOf];omega
      ·have hF2:(F == Q)=false:=by simp [hF]
       go_wp2
       go_roundw
       case rel=>exact ⟨m+1,by omega,by rw [HST.out,if_neg hF];go_num,by go_num,trivial⟩
       case measure=>simp [intOf];omega
     ·obtain rfl:m=k:=by omega
      have kM:¬ (m:Int) < (m:Int):=by omega
      obtain ⟨N,eN⟩:∃ N,lvN z Q m=N:=⟨_,rfl⟩
      obtain ⟨CH,eCH⟩:∃ CH,chuS X=CH:=⟨_,rfl⟩
      obtain ⟨L,eL⟩:∃ L,lvX X=L:=⟨_,rfl⟩
      rw [eN] at HLX ⊢
      rw [eCH] at HLX HCH
      rw [eL] at HLX HE
      clear HST eN eCH hle
      have ld1:=LD1.out
      by_cases hC:CH≤(N:Int)
      ·have kq:IntKind.u64.wrap (Q+1)=L:=by have:=HLX.out;rw [if_pos hC] at this;exact this.symm
       have kl:IntKind.u64.wrap (L+2)=w64 (L+2):=rfl
       go_upto_region 16 with (go_at_call 110;refine HCH.out.mono ?_;rintro e' w2 ⟨rfl,hb2⟩)
       have hB2:=HB1.out.below hb2
       have hv2:=hB2.vl HG.out
       have c2:=hv2.c11
       rw [EN.out,EC.out] at c2
       have ci:=val_e6 (hv2.at_ i (by rw [EN.out];exact HI.out))
       obtain ⟨RC,hRC⟩:=hv2.row
       have fi:=row_frozen hRC (86*i+84)
       have ixi:=fun W=>IX.out W
       have hB3:=hB2.val (fun v=>{ v with f6:=L }) (.int .u64 L) (val_put6 _ L) (by omega) HG.out (by rw [EN.out];exact HI.out)
       have HB3:=hid hB3
       clear hB2 hv2 hRC hB3 hb2 c1 ld1
       go_upto_region 17 with fail
       obtain ⟨W3,hW3⟩:∃ W,w2.setCell ⟨g,86*i+84,none⟩ (.int .u64 L)=W:=⟨_,rfl⟩
       rw [hW3] at HB3 ⊢
       clear hW3 c2 ci fi
       have hv3:=HB3.out.vl (X:=valS X i _) HG.out
       have c3:W3.cell? ⟨y,721,none⟩=some (.slice (some ⟨g,0,none⟩) m C):=by
        have:=hv3.c11
        rw [show (valS X i fun v=>{ v with f6:=L }).f11.n=X.f11.n from rfl,show (valS X i fun v=>{ v with f6:=L }).f11.c=X.f11.c from rfl,EN.out,EC.out] at this
        exact this
       have hi3:i < (valS X i fun v=>{ v with f6:=L }).f11.n:=by show i < X.f11.n;rw [EN.out];exact HI.out
       have ci:=val_e7 (hv3.at_ i hi3)
       obtain ⟨RC,hRC⟩:=hv3.row
       have fi:=row_frozen hRC (86*i+85)
       have hB4:=HB3.out.val (fun v=>{ v with f7:=w64 (L+2) }) (.int .u64 (w64 (L+2))) (val_put7 _ _) (by omega) HG.out hi3
       rw [valS_valS] at hB4
       have HB4:=hid hB4
       clear hv3 hRC hB4 HB3 hi3
       go_wp2
       go_end0
       refine ⟨rfl,?_⟩
       rw [HE.out]
       exact HB4.out
      ·have kq:Q=L:=by have:=HLX.out;rw [if_neg hC] at this;exact this.symm
       subst kq
       have kl:IntKind.u64.wrap (Q+2)=w64 (Q+2):=rfl
       go_upto_region 16 with (go_at_call 110;refine HCH.out.mono ?_;rintro e' w2 ⟨rfl,hb2⟩)
       have hB2:=HB1.out.below hb2
       have hv2:=hB2.vl HG.out
       have c2:=hv2.c11
       rw [EN.out,EC.out] at c2
       have ci:=val_e6 (hv2.at_ i (by rw [EN.out];exact HI.out))
       obtain ⟨RC,hRC⟩:=hv2.row
       have fi:=row_frozen hRC (86*i+84)
       have ixi:=fun W=>IX.out W
       have hB3:=hB2.val (fun v=>{ v with f6:=Q }) (.int .u64 Q) (val_put6 _ Q) (by omega) HG.out (by rw [EN.out];exact HI.out)
       have HB3:=hid hB3
       clear hB2 hv2 hRC hB3 hb2 c1 ld1
       go_upto_region 17 with fail
       obtain ⟨W3,hW3⟩:∃ W,w2.setCell ⟨g,86*i+84,none⟩ (.int .u64 Q)=W:=⟨_,rfl⟩
       rw [hW3] at HB3 ⊢
       clear hW3 c2 ci fi
       have hv3:=HB3.out.vl (X:=valS X i _) HG.out
       have c3:W3.cell? ⟨y,721,none⟩=some (.slice (some ⟨g,0,none⟩) m C):=by
        have:=hv3.c11
        rw [show (valS X i fun v=>{ v with f6:=Q }).f11.n=X.f11.n from rfl,show (valS X i fun v=>{ v with f6:=Q }).f11.c=X.f11.c from rfl,EN.out,EC.out] at this
        exact this
       have hi3:i < (valS X i fun v=>{ v with f6:=Q }).f11.n:=by show i < X.f11.n;rw [EN.out];exact HI.out
       have ci:=val_e7 (hv3.at_ i hi3)
       obtain ⟨RC,hRC⟩:=hv3.row
       have fi:=row_frozen hRC (86*i+85)
       have hB4:=HB3.out.val (fun v=>{ v with f7:=w64 (Q+2) }) (.int .u64 (w64 (Q+2))) (val_put7 _ _) (by omega) HG.out hi3
       rw [valS_valS] at hB4
       have HB4:=hid hB4
       clear hv3 hRC hB4 HB3 hi3
       go_wp2
       go_end0
       refine ⟨rfl,?_⟩
       rw [HE.out]
       exact HB4.out
 ·have hE:lvS X i=X:=if_neg hf
  have HB:=hid hb
  obtain ⟨F,eF⟩:∃ F,(X.f11.z i).f6=F:=⟨_,rfl⟩
  rw [eF] at hf e0
  unfold far at hf
  have hf2:(F != 18446744073709551615)=true:=by simp [hf]
  rw [hE]
  clear hb hvl hE hR eF hg
  generalize X.f11.n=n at *
  generalize X.f11.c=C at *
  go_enter Tryz.func89,Tryz.ntmps89
  go_wp2
  exact bodyPost_ret (results_none rfl _ _ _) rfl ⟨rfl,HB.out⟩
end
end Go.Proofs.YtdamhdnljnifcaaGreatDoor
