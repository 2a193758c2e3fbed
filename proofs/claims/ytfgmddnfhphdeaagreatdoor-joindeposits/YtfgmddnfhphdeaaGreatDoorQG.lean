/- A part. -/
import Derived.Test.YtfgmddnfhphdeaaGreatDoorQD
import Derived.Test.YtfgmddnfhphdeaaGreatDoorQL
import Derived.BigRegion
import Derived.ScopeJumps
import Derived.Laws.MakeOwn
import Derived.Laws.CopyRow
import Derived.ArgAppend
namespace Go.Proofs.YtfgmddnfhphdeaaGreatDoor
open Go.RowKit
set_option linter.unusedVariables false
set_option linter.unusedSimpArgs false
section
open Go.RowKit
set_option linter.unusedVariables false
set_option linter.unusedSimpArgs false
set_option maxRecDepth 20000
def Src (w:World) (k:Nat) (a:Option Addr) (n c:Nat) (news:List Value):Prop :=
 (a=none→n=0∧c=0)∧news.length=n*k∧(∀ u ∈ news,u.oneCell'=true)∧(n=0∨∃ b off,a=some ⟨b,off,none⟩∧b < w.heap.size∧w.rangeAt b off news)
theorem Src.below {w w':World} {k:Nat} {a:Option Addr} {n c:Nat} {news:List Value} (h:Src w k a n c news) (hb:Below w.heap.size w w'):Src w' k a n c news:=by
 refine ⟨h.1,h.2.1,h.2.2.1,?_⟩
 rcases h.2.2.2 with h0 | ⟨b,off,e,hl,hr⟩
 ·exact .inl h0
 ·exact .inr ⟨b,off,e,Nat.lt_of_lt_of_le hl hb.size,rangeAt_below hr hl hb⟩
theorem app_src {P : Program} (w : World) {ops : Array Oper} {rest : List Oper} {o : Oper} {a : Act} {Q : Exit → Act → World → Prop} (hgd : o.guard = none) (s x : Operand) (t : TypeId)
    (ho:o.op=.call { callee:=.builtin .append,args:=#[s,x],argTypes:=#[t,t] })
    (base:Nat) (e:TypeId) (i:TypeInfo) (z:Value) (size bytes:Nat) (ht:P.underlying t=some (.slice e)) (hi:P.info? e=some i) (hz:i.zero=some z)
    (hsize:i.size=size) (hby:i.bytes=bytes) (hzs:z.cells.size=size) (hsz:0 < size)
    (v:Value) (n:Nat) (xs:List Value) (hs:a.eval s=v) (hown:w.ownsRow base e size v n xs)
    (ao:Option Addr) (len cap:Nat) (news:List Value) (hx:a.eval x=.slice ao len cap) (hsrc:Src w size ao len cap news)
    (h63:n+len≤maxLen) (hbytes:(n+len)*bytes≤140737488355328) (hbase:base≤w.heap.size)
    (h:∀ v' w',w'.ownsRow base e size v' (n+len) (xs++news)→w.grownBy w' v.ownBlock→wpList P ops Q rest (a.put o.dst v') w'):wpList P ops Q (o :: rest) a w:=by
 obtain ⟨h1,h2,h3,h4⟩:=hsrc
 cases ao with
 | none =>
  obtain ⟨rfl,rfl⟩:=h1 rfl
  obtain rfl:news=[]:=List.length_eq_zero_iff.1 (by rw [h2,Nat.zero_mul])
  refine wpList_append_own_none hgd s x t ho base e i size ht hi v n xs hs hown hx (h v w ?_ ⟨rfl,rfl,rfl,Nat.le_refl _,fun _ _ _=>rfl⟩)
  rw [Nat.add_zero,List.append_nil]
  exact hown
 | some ad =>
  refine wpList_append_own w hgd s x t ho base e i z size bytes ht hi hz hsize hby hzs hsz v n xs hs hown ad len cap news hx h2 (fun j u hj=>?_) h3 h63 hbytes hbase (fun v' w' g1 g2 _=>h v' w' g1 g2)
  rcases h4 with rfl | ⟨b,off,e',_,hr⟩
  ·have:=(List.getElem?_eq_some_iff.1 hj).1
   rw [h2,Nat.zero_mul] at this
   omega
  ·cases e'
   rw [addr_add]
   exact hr j u hj
theorem grown_new {B s:Nat} {w w':World} {v:Value} {n:Nat} {xs:List Value} {e:TypeId} (hb:Below B w w) (ho:(w.alloc (.cells #[] e)).ownsRow w.heap.size e s v n xs) (hg:(w.alloc (.cells #[] e)).grownBy w' v.ownBlock):Below w.heap.size w w' :=
 ⟨hg.os,hg.tape,hg.output,Nat.le_trans (by simp) hg.size,fun k hk=>(hg.block k (by simp;omega) (fun e=>by have:=(ho.lt k e.symm).1;omega)).trans (heap_old hk)⟩
theorem owns_form {w:World} {B:Nat} {e:TypeId} {k:Nat} {v:Value} {n:Nat} {xs:List Value} (h:w.ownsRow B e k v n xs):∃ a c,v=.slice a n c:=by
 rcases h.2 with ⟨rfl,rfl⟩ | ⟨g,cap,cur,rfl,_⟩
 ·exact ⟨none,0,rfl⟩
 ·exact ⟨_,cap,rfl⟩
def flat (e:Nat→List Value):Nat→List Value
 | 0 => []
 | n + 1 => flat e n ++ e n
theorem flat_len {e:Nat→List Value} {k:Nat} (h:∀ i,(e i).length=k):∀ n,(flat e n).length=n*k
 | 0 => by simp [flat]
 | n + 1 => by
  show (flat e n++e n).length=_
  rw [List.length_append,flat_len h n,h n,Nat.succ_mul]
theorem flat_at {e:Nat→List Value} {k:Nat} (h:∀ i,(e i).length=k) (i j:Nat) (hj:j < k):∀ n,i < n→(flat e n)[i*k+j]?=(e i)[j]?
 | 0, hi => absurd hi (Nat.not_lt_zero _)
 | n + 1, hi => by
  show (flat e n++e n)[i*k+j]?=_
  by_cases hn:i < n
  ·rw [List.getElem?_append_left (by rw [flat_len h n];have:(i+1)*k≤n*k:=Nat.mul_le_mul_right k hn;rw [Nat.succ_mul] at this;omega),flat_at h i j hj n hn]
  ·obtain rfl:i=n:=by omega
   rw [List.getElem?_append_right (by rw [flat_len h];omega),flat_len h,Nat.add_sub_cancel_left]
theorem flat_one {e:Nat→List Value} (h:∀ i,∀ u ∈ e i,u.oneCell'=true):∀ n,∀ u ∈ flat e n,u.oneCell'=true
 | 0, u, hu => by cases hu
 | n + 1, u, hu => by
  rcases List.mem_append.1 (show u ∈ flat e n++e n from hu) with h1 | h1
  ·exact flat_one h n u h1
  ·exact h n u h1
def nl (z:Nat→Int) (n:Nat):List Value:=(List.range n).map fun i=>Value.int .u64 (z i)
theorem nl_len (z:Nat→Int) (n:Nat):(nl z n).length=n:=by simp [nl]
theorem nl_at (z:Nat→Int) (n j:Nat) (hj:j < n):(nl z n)[j]?=some (.int .u64 (z j)):=by simp [nl,List.getElem?_range hj]
theorem nl_get (z:Nat→Int) (n j:Nat) (u:Value) (h:(nl z n)[j]?=some u):j < n∧u=.int .u64 (z j):=by
 have hj:j < n:=by have:=(List.getElem?_eq_some_iff.1 h).1;rwa [nl_len] at this
 rw [nl_at z n j hj] at h
 exact ⟨hj,(Option.some.inj h).symm⟩
theorem nl_one (z:Nat→Int) (n:Nat):∀ u ∈ nl z n,u.oneCell'=true:=fun u hu=>by
 obtain ⟨i,_,rfl⟩:=List.mem_map.1 hu
 rfl
theorem src_rts {w:World} {a:Option Addr} {n c:Nat} {f:Nat→Int} (h:Rts w a n c f):Src w 32 a n c (bl f (32*n)):=by
 refine ⟨fun ha=>?_,by rw [bl_len,Nat.mul_comm],bl_one _ _,?_⟩
 ·rcases h with ⟨_,h1,h2⟩ | ⟨_,h1,_⟩ | ⟨_,_,h1,_⟩
  ·exact ⟨h1,h2⟩
  ·rw [ha] at h1
   cases h1
  ·rw [ha] at h1
   cases h1
 ·rcases h with ⟨_,h1,_⟩ | ⟨_,_,h1⟩ | ⟨b,off,h1,_,h2,h3⟩
  ·exact .inl h1
  ·exact .inl h1
  ·exact .inr ⟨b,off,h1,h2,fun j u hj=>by
    obtain ⟨k1,rfl⟩:=bl_get f (32*n) j u hj
    exact h3 j k1⟩
theorem src_bys {w:World} {a:Option Addr} {n c:Nat} {f:Nat→Int} (h:Bys w a n c f):Src w 1 a n c (bl f n):=by
 refine ⟨fun ha=>?_,by rw [bl_len,Nat.mul_one],bl_one _ _,?_⟩
 ·rcases h with ⟨_,h1,h2⟩ | ⟨_,h1,_⟩ | ⟨_,_,h1,_⟩
  ·exact ⟨h1,h2⟩
  ·rw [ha] at h1
   cases h1
  ·rw [ha] at h1
   cases h1
 ·rcases h with ⟨_,h1,_⟩ | ⟨_,_,h1⟩ | ⟨b,off,h1,_,_,h2,h3⟩
  ·exact .inl h1
  ·exact .inl h1
  ·exact .inr ⟨b,off,h1,h2,fun j u hj=>by
    obtain ⟨k1,rfl⟩:=bl_get f n j u hj
    exact h3 j k1⟩
theorem src_nms {w:World} {a:Option Addr} {n c:Nat} {f:Nat→Int} (h:Z.Nms .u64 w a n f) (hn:a=none→n=0∧c=0):Src w 1 a n c (nl f n):=by
 refine ⟨hn,by rw [nl_len,Nat.mul_one],nl_one _ _,?_⟩
 rcases h with h1 | ⟨b,off,h1,h2,h3⟩
 ·exact .inl h1
 ·exact .inr ⟨b,off,h1,h2,fun j u hj=>by
   obtain ⟨k1,rfl⟩:=nl_get f n j u hj
   exact h3 j k1⟩
theorem src_els {w:World} {a:Option Addr} {n c k:Nat} {e:Nat→List Value} (h:Els w a n k e) (hn:a=none→n=0∧c=0) (hk:∀ i,(e i).length=k) (h1:∀ i,∀ u ∈ e i,u.oneCell'=true):Src w k a n c (flat e n):=by
 refine ⟨hn,flat_len hk n,flat_one h1 n,?_⟩
 rcases h with h0 | ⟨b,off,e1,h2,h3⟩
 ·exact .inl h0
 ·refine .inr ⟨b,off,e1,h2,fun j u hj=>?_⟩
  have hlt:j < n*k:=by have:=(List.getElem?_eq_some_iff.1 hj).1;rwa [flat_len hk] at this
  have hkp:0 < k:=by
   rcases Nat.eq_zero_or_pos k with h0 | h0
   ·rw [h0,Nat.mul_zero] at hlt
    omega
   ·exact h0
  have hi:j / k < n:=Nat.div_lt_of_lt_mul (by rw [Nat.mul_comm];exact hlt)
  have hm:=Nat.mod_lt j hkp
  have ej:j=j / k*k+j % k:=by rw [Nat.mul_comm];exact (Nat.div_add_mod j k).symm
  rw [ej,flat_at hk _ _ hm n hi] at hj
  have:=h3 (j / k) hi (j % k) u hj
  rw [show off+k*(j / k)+j % k=off+j by rw [Nat.add_assoc,Nat.div_add_mod]] at this
  exact this
theorem own_range {w:World} {B:Nat} {e:TypeId} {k:Nat} {a:Option Addr} {n c:Nat} {xs:List Value} (h:w.ownsRow B e k (.slice a n c) n xs):n=0∨∃ g,a=some ⟨g,0,none⟩∧B≤g∧g < w.heap.size∧w.rangeAt g 0 xs:=by
 rcases h.2 with ⟨_,h0⟩ | ⟨g,cap,cur,hv,hB,hg,_,_,hs,ht⟩
 ·exact .inl h0
 ·cases hv
  refine .inr ⟨g,rfl,hB,some_lt hg,fun j u hj=>?_⟩
  rw [Nat.zero_add,row_cell hg,←hj,←ht]
  have hlt:=(List.getElem?_eq_some_iff.1 hj).1
  rw [h.1] at hlt
  rw [List.getElem?_take_of_lt hlt,Array.getElem?_toList]
theorem own_nms {w:World} {B:Nat} {a:Option Addr} {n c:Nat} {z:Nat→Int} (h:w.ownsRow B 22 1 (.slice a n c) n (nl z n)):Z.Nms .u64 w a n z:=by
 rcases own_range h with h0 | ⟨g,e,_,hg,hr⟩
 ·exact .inl h0
 ·exact .inr ⟨g,0,e,hg,fun j hj=>hr j _ (nl_at z n j hj)⟩
theorem own_els {w:World} {B k:Nat} {t:TypeId} {a:Option Addr} {n c:Nat} {e:Nat→List Value} (h:w.ownsRow B t k (.slice a n c) n (flat e n)) (hk:∀ i,(e i).length=k):Els w a n k e:=by
 rcases own_range h with h0 | ⟨g,e1,_,hg,hr⟩
 ·exact .inl h0
 ·refine .inr ⟨g,0,e1,hg,fun i hi j u hj=>?_⟩
  have hlt:j < k:=by have:=(List.getElem?_eq_some_iff.1 hj).1;rwa [hk i] at this
  have:=hr (i*k+j) u (by rw [flat_at hk i j hlt n hi];exact hj)
  rw [Nat.mul_comm i k] at this
  rw [Nat.zero_add] at this ⊢
  exact this
theorem owns_keptY {w w':World} {B k y:Nat} {t:TypeId} {v:Value} {n:Nat} {xs:List Value} (h:w.ownsRow B t k v n xs) (hk:Kept y w w') (hy:y < B):w'.ownsRow B t k v n xs:=by
 refine ⟨h.1,?_⟩
 rcases h.2 with h1 | ⟨g,cap,cur,h1,h2,h3,h4⟩
 ·exact .inl h1
 ·exact .inr ⟨g,cap,cur,h1,h2,(hk.block g (some_lt h3) (by omega)).trans h3,h4⟩
structure NilW (x:VState):Prop where
 n9:x.f9.a=none→x.f9.n=0∧x.f9.c=0
 n11:x.f11.a=none→x.f11.n=0∧x.f11.c=0
 n12:x.f12.a=none→x.f12.n=0∧x.f12.c=0
 n21:x.f21.a=none→x.f21.n=0∧x.f21.c=0
attribute [local go_sem ↓] lvState_eq svState_eq
theorem retState1 {fn : Func} {R : Ending → World → Prop} {a : Act} {w' : World} (t : Tmp) (b : Nat) (c : VState) (ty : TypeId) (h : fn.results = #[.cell t 49]) (hd : a.defers = []) (ht : a.tmps.getD t undef = .pointer (some ⟨b, 0, none⟩)) (hr : w'.heap[b]? = some (.cells (cel (sState c)) ty))
    (hR:R (.returned (.agg (cel (sState c)))) w'):bodyPost Tryz.prog fn R .ret a w' :=
 bodyPost_ret (results_cell h a.tmps _ b _ ht (load_row hr 49 _ Tryz.underlying49 rfl (by rw [cel_size,slState];kernel_rfl))) hd hR
end
section
open Go.RowKit
set_option linter.unusedVariables false
set_option linter.unusedSimpArgs false
def plV (s:Nat→Int) (n:Int):Nat→Int→Int
 | 0, i => i
 | k + 1, i => rdV s (k : Int) n (plV s n k i)
attribute [local go_sem ↓] sv24_eq lv24_eq sv8_eq
end
section
open Go.RowKit
set_option linter.unusedVariables false
set_option linter.unusedSimpArgs false
def cnt (n:Nat):Nat:=if n / 8 < 1 then 1 else if 2 < n / 8 then 2 else n / 8
def cut (n k:Nat):Nat:=n*k / (4*cnt n)
def mbr (L:List Int) (s:Nat→Int) (j:Nat):Int:=L.getD (plV s L.length 6 j).toNat 0
end
section
open Go.RowKit
set_option linter.unusedVariables false
set_option linter.unusedSimpArgs false
theorem Kept.thenBelow {g:Nat} {a b c:World} (h:Kept g a b) (hb:Below b.heap.size b c):Kept g a c:=h.trans (Kept.ofBelow hb)
attribute [local go_sem ↓] sv24_eq lv24_eq sv8_eq
end
section
open Go.RowKit
set_option linter.unusedVariables false
set_option linter.unusedSimpArgs false
set_option maxRecDepth 20000
attribute [local go_sem ↓] lvState_eq svState_eq bdState_eq lvValidator_eq svValidator_eq ixValidator_eq sv24_eq lv24_eq
def acE (x:VState) (e:Int):List Int:=acL x.f11.z e x.f11.n
end
section
open Go.RowKit
set_option linter.unusedVariables false
set_option linter.unusedSimpArgs false
def sd8 (s:Nat→Int) (q:Int) (j:Nat):Int:=if j < 32 then s j else nmB q (j - 32)
def lotV (s:Nat→Int) (i:Nat):Int:=shaV KW HW (sd8 s ((i / 32:Nat):Int)) 40 (i % 32)
def cdV (L:List Int) (s:Nat→Int) (i:Nat):Int:=mbr L s (i % L.length)
def tkB (z:Nat→VValidator) (L:List Int) (s:Nat→Int) (i:Nat):Bool:=decide (32000000000*lotV s i≤(z (cdV L s i).toNat).f2*255)
def drL (z:Nat→VValidator) (L:List Int) (s:Nat→Int):Nat→List Int
 | 0 => []
 | i + 1 => if tkB z L s i = true then drL z L s i ++ [cdV L s i] else drL z L s i
def dwO (z:Nat→VValidator) (L:List Int) (s:Nat→Int) (want:Nat):Bool:=decide (L≠[]) && decide (want≤(drL z L s 256).length)
def dwL (z:Nat→VValidator) (L:List Int) (s:Nat→Int) (want:Nat):List Int:=if dwO z L s want=true then (drL z L s 256).take want else []
def dwE (z:Nat→VValidator) (L:List Int) (s:Nat→Int) (want:Nat):Int:=if dwO z L s want=true then 0 else 7
end
section
open Go.RowKit
set_option linter.unusedVariables false
set_option linter.unusedSimpArgs false
set_option maxRecDepth 100000
def oV2:VValidator:=⟨fun _=>0,fun _=>0,32000000000,false,0,0,18446744073709551615,18446744073709551615⟩
structure FS where
 a11:Option Addr
 n11:Nat
 c11:Nat
 a12:Option Addr
 n12:Nat
 c12:Nat
 a15:Option Addr
 n15:Nat
 c15:Nat
 a16:Option Addr
 n16:Nat
 c16:Nat
 a21:Option Addr
 n21:Nat
 c21:Nat
def fX (s:FS):VState:={ oState with f11:=⟨s.a11,s.n11,s.c11,fun _=>oV2⟩,f12:=⟨s.a12,s.n12,s.c12,fun _=>32000000000⟩,f15:=⟨s.a15,s.n15,s.c15,fun _=>0⟩,f16:=⟨s.a16,s.n16,s.c16,fun _=>0⟩,f21:=⟨s.a21,s.n21,s.c21,fun _=>0⟩ }
def fs0:FS:=⟨none,0,0,none,0,0,none,0,0,none,0,0,none,0,0⟩
theorem okCz:OkState (fX fs0):=by
 have z:(0:Int)≤0∧(0:Int) < 256:=by decide
 have zz:(0:Int)≤0∧(0:Int) < 18446744073709551616:=by decide
 exact ⟨zz,fun _ _=>z,zz,⟨fun _ _=>z,fun _ _=>z,zz⟩,⟨zz,zz,fun _ _=>z,fun _ _=>z,fun _ _=>z⟩,fun _ _=>z,fun _ _=>z,fun _ h=>absurd h (Nat.not_lt_zero _),⟨fun _ _=>z,zz,fun _ _=>z⟩,fun _ h=>absurd h (Nat.not_lt_zero _),zz,fun _ h=>absurd h (Nat.not_lt_zero _),fun _ h=>absurd h (Nat.not_lt_zero _),fun _ _=>z,fun _ _=>zz,fun _ h=>absurd h (Nat.not_lt_zero _),fun _ h=>absurd h (Nat.not_lt_zero _),⟨zz,fun _ _=>z⟩,⟨zz,fun _ _=>z⟩,⟨zz,fun _ _=>z⟩,fun _ h=>absurd h (Nat.not_lt_zero _),⟨fun _ _=>z,fun _ _=>z⟩,⟨fun _ _=>z,fun _ _=>z⟩⟩
attribute [local go_sem ↓] lvState_eq svState_eq bdState_eq bvV_eq bsV_eq
end
end Go.Proofs.YtfgmddnfhphdeaaGreatDoor
