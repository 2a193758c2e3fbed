/- A part. -/
import Derived.Test.YtdjplhibmomajaaGreatDoorHaE
import Derived.Lib.BitFns
namespace Go.Proofs.YtdjplhibmomajaaGreatDoor
open Go.RowKit
set_option linter.unusedVariables false
set_option linter.unusedSimpArgs false
section
open Go.RowKit
set_option linter.unusedVariables false
set_option linter.unusedSimpArgs false
def tw (a b:Nat→Int):Nat→Int:=aCH KW HW (cat a b) 64
theorem aQD (a b:Nat→Int) (j:Nat):0≤tw a b j∧tw a b j < 256:=aBU _ _ _ _ _
theorem aGq {a a' b b':Nat→Int} (ha:∀ j,j < 32→a j=a' j) (hb:∀ j,j < 32→b j=b' j) (j:Nat) (hj:j < 32):tw a b j=tw a' b' j :=
 aJD (fun i hi=>by
  unfold cat
  by_cases h:i < 32
  ·rw [if_pos h,if_pos h,ha i h]
  ·rw [if_neg h,if_neg h,hb _ (by omega)]) j hj
def zr:Nat→Nat→Int
 | 0 => fun _ => 0
 | n + 1 => tw (zr n) (zr n)
theorem aI5 (n j:Nat):0≤zr n j∧zr n j < 256:=by
 cases n with
 | zero => unfold zr; omega
 | succ n => exact aQD _ _ _
def aCT (f:Nat→Int) (i:Nat):Nat→Int:=fun j=>f (32*i+j)
def nd (f:Nat→Int) (len:Nat):Nat→Nat→Nat→Int
 | 0, i => if i < len then aCT f i else fun _ => 0
 | d + 1, i => tw (nd f len d (2 * i)) (nd f len d (2 * i + 1))
def ByB (f:Nat→Int) (n:Nat):Prop:=∀ q,q < n→0≤f q∧f q < 256
theorem aRU {f:Nat→Int} {len:Nat} (hf:ByB f (32*len)) (d i j:Nat) (hj:j < 32):0≤nd f len d i j∧nd f len d i j < 256:=by
 cases d with
 | zero =>
  unfold nd
  by_cases h:i < len
  ·rw [if_pos h];exact hf _ (by omega)
  ·rw [if_neg h];omega
 | succ d => exact aQD _ _ _
def up (len:Nat):Nat→Nat
 | 0 => len
 | d + 1 => (up len d + 1) / 2
theorem aSZ (len d:Nat):up len d≤len:=by
 induction d with
 | zero => exact Nat.le_refl _
 | succ d ih => show (up len d + 1) / 2 ≤ len; omega
theorem aG4 (f:Nat→Int) (len:Nat):∀ d i,up len d≤i→nd f len d i=zr d
 | 0, i, h => by
  unfold nd zr
  rw [if_neg (by show ¬ i < len;exact Nat.not_lt.2 h)]
 | d + 1, i, h => by
  have h:(up len d+1) / 2≤i:=h
  show tw _ _=tw _ _
  rw [aG4 f len d (2*i) (by omega),aG4 f len d (2*i+1) (by omega)]
def dpt (n:Nat):Nat:=if n=0 then 0 else Lib.bitLen (n - 1)
theorem aJV (x:Nat) (hx:x < 2 ^ 64):x < 2 ^ Lib.bitLen x:=by
 induction x using Nat.strongRecOn with
 | _ x ih =>
  by_cases h0:x=0
  ·subst h0;exact Nat.two_pow_pos _
  ·rw [Lib.bitLen_half x h0 hx,Nat.add_comm,Nat.pow_succ]
   have:=ih (x / 2) (by omega) (by omega)
   omega
theorem aJU (x k:Nat) (hx:x < 2 ^ 64) (h:k < Lib.bitLen x):2 ^ k≤x:=by
 induction x using Nat.strongRecOn generalizing k with
 | _ x ih =>
  by_cases h0:x=0
  ·subst h0
   have:Lib.bitLen 0=0:=by decide
   omega
  ·rw [Lib.bitLen_half x h0 hx] at h
   cases k with
   | zero => simp; omega
   | succ k =>
    have:=ih (x / 2) (by omega) k (by omega) (by omega)
    rw [Nat.pow_succ]
    omega
theorem aKe (n:Nat) (hn:n≤2 ^ 40):n≤2 ^ dpt n:=by
 unfold dpt
 by_cases h:n=0
 ·rw [h];exact Nat.zero_le _
 ·rw [if_neg h]
  have:=aJV (n - 1) (by omega)
  omega
theorem aOa (n k:Nat) (hn:n≤2 ^ 40) (hk:k < dpt n):2 ^ k < n:=by
 unfold dpt at hk
 by_cases h:n=0
 ·rw [if_pos h] at hk;omega
 ·rw [if_neg h] at hk
  have:=aJU (n - 1) k (by omega) hk
  omega
theorem aKf (n:Nat) (hn:n≤2 ^ 40):dpt n≤40:=by
 by_cases h:dpt n≤40
 ·exact h
 ·have:=aOa n 40 hn (by omega)
  omega
end
section
open Go.RowKit
set_option linter.unusedVariables false
set_option linter.unusedSimpArgs false
def aMP (x i:Value):Sem Value:=Instr.indexAt 32 x i
theorem aAF (x i:Value):Instr.indexAt 32 x i=aMP x i:=rfl
theorem aHe (w:World):(sizeOf 24).run Tryz.prog w=.ok 32 w:=by
 have hi:(Tryz.prog.info? 24).map (·.size)=some 32:=by kernel_rfl
 cases hq:Tryz.prog.info? 24 with
 | none => simp [hq] at hi
 | some i => simp [hq] at hi; simp [sizeOf, typeInfo, hq, hi]
theorem aDI (w:World) (b off len cap i:Nat) (h:i < len):(aMP (.slice (some ⟨b,off,none⟩) len cap) (.int .i64 i)).run Tryz.prog w=.ok (.pointer (some ⟨b,off+32*i,none⟩)) w:=by
 unfold aMP Instr.indexAt
 have h1:(0:Int)≤(i:Int)∧(i:Int) < (len:Int):=by omega
 simp only [asIntOf,Sem.run_bind,Sem.run_pure,Result.andThen_ok,run_underlying Tryz.underlying32,if_pos h1,aHe,Addr.add_mid,Int.toNat_natCast]
 rw [Nat.mul_comm]
theorem aBa {w:World} {b o:Nat} {c:Nat→Int} (h:∀ j,j < 32→w.cell? ⟨b,o+j,none⟩=some (.int .u8 (c j))):(aDZ ⟨b,o,none⟩).run Tryz.prog w=.ok (.agg (vs .u8 32 c)) w:=by
 have hr:w.rangeAt b o ((List.range 32).map fun i=>Value.int .u8 (c i)):=by
  intro j v hj
  have hlt:j < 32:=by
   have:=(List.getElem?_eq_some_iff.1 hj).1
   simpa using this
  rw [h j hlt]
  simp [hlt] at hj
  rw [hj]
 exact aAP (run_loadAt_mid w b o 24 _ _ hr Tryz.underlying24 rfl (by rw [List.length_map,List.length_range];kernel_rfl))
def aL5 (C:Array Value):Nat→List Value→Array Value
 | _, [] => C
 | o, v :: r => aL5 (C.setIfInBounds o v) (o + 1) r
theorem aGW (o:Nat) (l:List Value):∀ C,(aL5 C o l).size=C.size:=by
 induction l generalizing o with
 | nil => intro C; rfl
 | cons v r ih => intro C; show (aL5 _ _ r).size = _; rw [ih]; simp
theorem aDd (l:List Value):∀ (C:Array Value) (o j:Nat),o+l.length≤C.size→(aL5 C o l)[j]?=if o≤j∧j < o+l.length then l[j - o]? else C[j]?:=by
 induction l with
 | nil => intro C o j h; rw [if_neg (by simp)]; rfl
 | cons v r ih =>
  intro C o j h
  rw [List.length_cons] at h
  show (aL5 _ _ r)[j]?=_
  rw [ih _ _ _ (by simp;omega),List.length_cons]
  by_cases h1:o+1≤j∧j < o+1+r.length
  ·rw [if_pos h1,if_pos (by omega),show j - o=(j - (o+1))+1 by omega,List.getElem?_cons_succ]
  ·rw [if_neg h1,Array.getElem?_setIfInBounds]
   by_cases h2:o=j
   ·subst h2
    rw [if_pos rfl,if_pos (by omega),if_pos (by omega),Nat.sub_self]
    rfl
   ·rw [if_neg h2,if_neg (by omega)]
theorem aCz {b:Nat} {t:TypeId} (l:List Value):∀ {w:World} {C:Array Value} (o:Nat),w.heap[b]?=some (.cells C t)→(w.setCells b o l).heap[b]?=some (.cells (aL5 C o l) t):=by
 induction l with
 | nil => intro w C o h; exact h
 | cons v r ih => intro w C o h; exact ih (o + 1) (aAI h o v)
theorem aBk {b:Nat} {w0:World} (l:List Value):∀ {w:World} (o:Nat),Kept b w0 w→Kept b w0 (w.setCells b o l):=by
 induction l with
 | nil => intro w o h; exact h
 | cons v r ih => intro w o h; exact ih (o + 1) (h.setCell o v)
theorem aHj {w:World} {b:Nat} {C:Array Value} {t:TypeId} (h:w.heap[b]?=some (.cells C t)) (o n:Nat) (hn:o+n≤C.size):w.there b o n:=by
 intro j hj
 refine ⟨?_,aAa h _⟩
 rw [aAs h,Array.getElem?_eq_getElem (by omega)]
 rfl
theorem aGo {w : World} {b : Nat} {C : Array Value} {t : TypeId} (h : w.heap[b]? = some (.cells C t)) (o : Nat) (c : Nat → Int) (hn : o + 32 ≤ C.size) :
    (aOK ⟨b,o,none⟩ (.agg (vs .u8 32 c))).run Tryz.prog w=.ok () (w.setCells b o (bl c 32)):=by
 have h1:=run_storeVar_mid (P:=Tryz.prog) w b o 24 (vs .u8 32 c) (by rw [aAp];exact aHj h o 32 hn) (by rw [aAp];kernel_rfl) (aCB _ _ _)
 rw [aI4] at h1
 exact h1
def rwA (v:Value) (d:Int) (z:Nat→Int) (zd:Int):Array Value:=#[v,.int .i64 d]++vs .u8 32 z++#[.int .i64 zd]
theorem aBw (v:Value) (d:Int) (z:Nat→Int) (zd:Int):(rwA v d z zd).size=35:=by simp [rwA,aAp]
theorem aGd (v:Value) (d:Int) (z:Nat→Int) (zd:Int):(rwA v d z zd)[0]?=some v:=by
 unfold rwA
 rw [Array.getElem?_append_left (by simp [aAp]),Array.getElem?_append_left (by simp)]
 rfl
theorem aJy (v:Value) (d:Int) (z:Nat→Int) (zd:Int):(rwA v d z zd)[1]?=some (.int .i64 d):=by
 unfold rwA
 rw [Array.getElem?_append_left (by simp [aAp]),Array.getElem?_append_left (by simp)]
 rfl
theorem aJz (v:Value) (d:Int) (z:Nat→Int) (zd:Int) (j:Nat) (h:j < 32):(rwA v d z zd)[2+j]?=some (.int .u8 (z j)):=by
 unfold rwA
 rw [Array.getElem?_append_left (by simp [aAp];omega),Array.getElem?_append_right (by simp)]
 simp [aBB _ _ _ _ h]
theorem aFe (v:Value) (d:Int) (z:Nat→Int) (zd:Int):(rwA v d z zd)[34]?=some (.int .i64 zd):=by
 unfold rwA
 rw [Array.getElem?_append_right (by simp [aAp])]
 simp [aAp]
theorem aGe {v:Value} {d:Int} {z:Nat→Int} {zd:Int} (C:Array Value) (hc:C.size=35) (h0:C[0]?=some v) (h1:C[1]?=some (.int .i64 d)) (hz:∀ j,j < 32→C[2+j]?=some (.int .u8 (z j))) (h34:C[34]?=some (.int .i64 zd)):C=rwA v d z zd:=by
 apply Array.ext_getElem?
 intro i
 by_cases e:i < 35
 ·rcases (by omega:i=0∨i=1∨i=34∨(2≤i∧i < 34)) with rfl | rfl | rfl | ⟨e1,e2⟩
  ·rw [h0,aGd]
  ·rw [h1,aJy]
  ·rw [h34,aFe]
  ·have:=hz (i - 2) (by omega)
   have k:=aJz v d z zd (i - 2) (by omega)
   rw [show 2+(i - 2)=i by omega] at this k
   rw [this,k]
 ·rw [Array.getElem?_eq_none (by omega),Array.getElem?_eq_none (by rw [aBw];omega)]
theorem aNm (v v':Value) (d:Int) (z:Nat→Int) (zd:Int):(rwA v d z zd).setIfInBounds 0 v'=rwA v' d z zd:=by
 refine aGe _ (by simp [aBw]) ?_ ?_ (fun j hj=>?_) ?_
 ·rw [Array.getElem?_setIfInBounds,if_pos rfl,if_pos (by rw [aBw];omega)]
 ·rw [Array.getElem?_setIfInBounds,if_neg (by omega),aJy]
 ·rw [Array.getElem?_setIfInBounds,if_neg (by omega),aJz _ _ _ _ _ hj]
 ·rw [Array.getElem?_setIfInBounds,if_neg (by omega),aFe]
theorem aNn (v:Value) (d d':Int) (z:Nat→Int) (zd:Int):(rwA v d z zd).setIfInBounds 1 (.int .i64 d')=rwA v d' z zd:=by
 refine aGe _ (by simp [aBw]) ?_ ?_ (fun j hj=>?_) ?_
 ·rw [Array.getElem?_setIfInBounds,if_neg (by omega),aGd]
 ·rw [Array.getElem?_setIfInBounds,if_pos rfl,if_pos (by rw [aBw];omega)]
 ·rw [Array.getElem?_setIfInBounds,if_neg (by omega),aJz _ _ _ _ _ hj]
 ·rw [Array.getElem?_setIfInBounds,if_neg (by omega),aFe]
theorem aHb (v:Value) (d:Int) (z:Nat→Int) (zd zd':Int):(rwA v d z zd).setIfInBounds 34 (.int .i64 zd')=rwA v d z zd':=by
 refine aGe _ (by simp [aBw]) ?_ ?_ (fun j hj=>?_) ?_
 ·rw [Array.getElem?_setIfInBounds,if_neg (by omega),aGd]
 ·rw [Array.getElem?_setIfInBounds,if_neg (by omega),aJy]
 ·rw [Array.getElem?_setIfInBounds,if_neg (by omega),aJz _ _ _ _ _ hj]
 ·rw [Array.getElem?_setIfInBounds,if_pos rfl,if_pos (by rw [aBw];omega)]
theorem aPV (v:Value) (d:Int) (z c:Nat→Int) (zd:Int):aL5 (rwA v d z zd) 2 (bl c 32)=rwA v d c zd:=by
 have hs:2+(bl c 32).length≤(rwA v d z zd).size:=by rw [aAV,aBw];omega
 refine aGe _ (by rw [aGW,aBw]) ?_ ?_ (fun j hj=>?_) ?_
 ·rw [aDd _ _ _ _ hs,if_neg (by omega),aGd]
 ·rw [aDd _ _ _ _ hs,if_neg (by omega),aJy]
 ·rw [aDd _ _ _ _ hs,aAV,if_pos (by omega),show 2+j - 2=j by omega,aE5 _ _ _ hj]
 ·rw [aDd _ _ _ _ hs,aAV,if_neg (by omega),aFe]
def Rts (w:World) (a:Option Addr) (len cap:Nat) (f:Nat→Int):Prop :=
 (a=none∧len=0∧cap=0)∨(∃ x,a=some x∧len=0)∨∃ b off,a=some ⟨b,off,none⟩∧len≤cap∧b < w.heap.size∧∀ j,j < 32*len→w.cell? ⟨b,off+j,none⟩=some (.int .u8 (f j))
theorem Rts.below {w w':World} {a:Option Addr} {len cap:Nat} {f:Nat→Int} (h:Rts w a len cap f) (hb:Below w.heap.size w w'):Rts w' a len cap f:=by
 rcases h with h | h | ⟨b,off,h1,h2,h3,h4⟩
 ·exact .inl h
 ·exact .inr (.inl h)
 ·exact .inr (.inr ⟨b,off,h1,h2,Nat.lt_of_lt_of_le h3 hb.size,fun j hj=>(aAk hb h3).trans (h4 j hj)⟩)
theorem Rts.at {w : World} {a : Option Addr} {len cap : Nat} {f : Nat → Int} (h : Rts w a len cap f) (i : Nat) (hi : i < len) :
    ∃ b o,b < w.heap.size∧(∀ W:World,(aMP (.slice a len cap) (.int .i64 i)).run Tryz.prog W=.ok (.pointer (some ⟨b,o,none⟩)) W)∧∀ j,j < 32→w.cell? ⟨b,o+j,none⟩=some (.int .u8 (aCT f i j)):=by
 rcases h with ⟨_,h,_⟩ | ⟨_,_,h⟩ | ⟨b,off,rfl,h2,h3,h4⟩
 ·omega
 ·omega
 ·exact ⟨b,off+32*i,h3,fun W=>aDI W b off len cap i hi,fun j hj=>by rw [Nat.add_assoc];exact h4 _ (by omega)⟩
end
section
open Go.RowKit
set_option linter.unusedVariables false
set_option linter.unusedSimpArgs false
attribute [local go_sem ↓] aAu aAt aAF
def Sh (w:World):Prop:=Tab w 0 8 HW∧Tab w 2 64 KW
theorem Sh.below {w w':World} (h:Sh w) (hb:Below w.heap.size w w'):Sh w':=⟨h.1.below hb,h.2.below hb⟩
theorem Sh.kept {w w':World} {g:Nat} (h:Sh w) (hb:Kept g w w') (h0:0≠g) (h1:2≠g):Sh w':=⟨hb.tab h.1 h0,hb.tab h.2 h1⟩
theorem aIW (a b : Nat → Int) (w : World) (hS : Sh w) (ha : ∀ j, j < 32 → 0 ≤ a j ∧ a j < 256) (hb : ∀ j, j < 32 → 0 ≤ b j ∧ b j < 256) :
    Calls Tryz.prog 77 #[.agg (vs .u8 32 a),.agg (vs .u8 32 b)] w fun e w'=>e=.returned (.agg (vs .u8 32 (tw a b)))∧Below w.heap.size w w' :=
 aQE KW HW a b w hS.1 hS.2 aHo ha hb
theorem Kept.setNew {g k:Nat} {a b:World} (h:Kept g a b) (hk:a.heap.size≤k) (c:Array Value):Kept g a (b.setRow k c) :=
 ⟨h.os,h.tape,h.output,by have:=h.size;simpa using this,fun i hi hn=>(setRow_other b k i c (by omega)).trans (h.block i hi hn)⟩
def aT6 (w:World) (g:Nat):Nat:=match w.cell? ⟨g,34,none⟩ with | some (.int _ z)=>z.toNat | _=>0
set_option maxRecDepth 20000 in
set_option maxHeartbeats 1000000 in
theorem aQX (g : Nat) (a : Option Addr) (len cap d zd i : Nat) (w : World) (hS : Sh w) (hg : w.heap[g]? = some (.cells (rwA (.slice a len cap) d (zr zd) zd) 165)) (h0 : 0 ≠ g) (h1 : 2 ≠ g)
    (hi:len≤i) (hm:i≤9223372036854775807) (hz:zd≤d) (hd:d≤1000) :
    Calls Tryz.prog 130 #[.pointer (some ⟨g,0,none⟩),.int .i64 i] w fun e w'=>e=.returned (.agg (vs .u8 32 (zr d)))∧Kept g w w'∧w'.heap[g]?=some (.cells (rwA (.slice a len cap) d (zr d) d) 165):=by
 have hgl:g < w.heap.size:=(Array.getElem?_eq_some_iff.1 hg).1
 have c0:=aAs hg 0
 rw [aGd] at c0
 have HG:=hid hg
 have HS:=hid hS
 have hb:decide (i < len)=false:=by simp;omega
 clear hg hS
 go_enter Tryz.func130,Tryz.ntmps130
 go_wp2
 change Code.wp _ _ _ _ (w.alloc (.cells (vs .u8 32 fun _=>0) 24))
 go_loopw [46] (fun _ wr=>∃ z:Nat,z≤d∧Kept g w wr∧w.heap.size < wr.heap.size∧wr.heap[w.heap.size]?=some (.cells (vs .u8 32 fun _=>0) 24)∧wr.heap[g]?=some (.cells (rwA (.slice a len cap) d (zr z) z) 165)) (fun _ wr=>d - aT6 wr g)
 case atStart =>
  refine ⟨zd,hz,Kept.ofBelow ((Below.refl _ _).alloc (Nat.le_refl _) _),by simp,aA2 rfl,(aAc hgl).trans HG.out⟩
 case round =>
  clear HG c0
  obtain ⟨z,hzd,hkp,hsz,r0,rg⟩:=hrel
  have c1:=aAs rg 1
  rw [aJy] at c1
  have c34:=aAs rg 34
  rw [aFe] at c34
  have HKP:=hid hkp
  have R0:=hid r0
  have RG:=hid rg
  clear hkp r0 rg
  by_cases hlt:z < d
  ·have hb2:decide (z < d)=true:=by simp;omega
   go_wp2
   go_region
   go_upto_region 4 with fail
   have l2:=aBa (w:=wr.drew.drew) (b:=g) (o:=2) (c:=zr z) (fun j hj=>(aAs (w:=wr.drew.drew) RG.out (2+j)).trans (aJz _ _ _ _ j hj))
   have hs2:Sh wr.drew.drew:=(HS.out.kept HKP.out.drew.drew h0 h1)
   have hgl2:g < wr.drew.drew.heap.size:=Nat.lt_of_lt_of_le hgl HKP.out.size
   have HS2:=hid hs2
   have HZ2:=hid hgl2
   clear hs2 hgl2
   go_region_with (go_at_call 77;refine (aIW (zr z) (zr z) _ HS2.out (fun j _=>aI5 z j) (fun j _=>aI5 z j)).mono ?_;rintro e w1 ⟨rfl,hb1⟩;have s2:=aGo ((hb1.block g HZ2.out).trans RG.out) 2 (tw (zr z) (zr z)) (by rw [aBw];omega))
   all_goals
    have rg1:w1.heap[g]?=some (.cells (rwA (.slice a len cap) d (zr z) z) 165):=(hb1.block g HZ2.out).trans RG.out
    have rg2:=aCz (bl (tw (zr z) (zr z)) 32) 2 rg1
    rw [aPV] at rg2
    have hk1:Kept g w w1:=(HKP.out.drew.drew).trans (Kept.ofBelow hb1)
    have hk2:=aBk (bl (tw (zr z) (zr z)) 32) 2 hk1
    have r01:(w1.setCells g 2 (bl (tw (zr z) (zr z)) 32)).heap[w.heap.size]?=some (.cells (vs .u8 32 fun _=>0) 24):=((aBk (bl (tw (zr z) (zr z)) 32) 2 (Kept.ofBelow hb1)).block w.heap.size hsz (by omega)).trans R0.out
    have hz2:w.heap.size < (w1.setCells g 2 (bl (tw (zr z) (zr z)) 32)).heap.size:=Nat.lt_of_lt_of_le hsz (aBk (bl (tw (zr z) (zr z)) 32) 2 (Kept.ofBelow (g:=g) hb1)).size
    obtain ⟨W2,hW2⟩:∃ W,w1.setCells g 2 (bl (tw (zr z) (zr z)) 32)=W:=⟨_,rfl⟩
    rw [hW2] at rg2 hk2 r01 hz2 ⊢
    have d34:=aAs rg2 34
    rw [aFe] at d34
    have f34:=aAa rg2 34
    have HRG2:=hid rg2
    have HK2:=hid hk2
    have HR2:=hid r01
    clear rg1 rg2 hk1 hk2 r01 l2 s2 hW2
    go_wp2
    go_roundw
    case rel =>
     refine ⟨z+1,by omega,HK2.out.setCell 34 _,by rw [aFH];exact hz2,(aAK (by omega)).trans HR2.out,?_⟩
     refine (aAI HRG2.out 34 _).trans ?_
     rw [aHb]
     rfl
    case measure =>
     have e1:aT6 (W2.setCell ⟨g,34,none⟩ (.int .i64 ((z:Int)+1))) g=z+1:=by
      unfold aT6
      rw [aAs (aAI HRG2.out 34 _),aHb,aFe]
      show ((z:Int)+1).toNat=z+1
      omega
     have e2:aT6 wr g=z:=by
      unfold aT6
      rw [c34]
      show ((z:Int)).toNat=z
      omega
     rw [e1,e2]
     omega
  ·have ez:z=d:=by omega
   subst ez
   have hb2:decide (z < z)=false:=by simp
   go_wp2
   go_region
   go_upto_region 6 with fail
   have l2:=aBa (w:=wr.drew) (b:=g) (o:=2) (c:=zr z) (fun j hj=>(aAs (w:=wr.drew) RG.out (2+j)).trans (aJz _ _ _ _ j hj))
   have s2:=aAv (w:=wr.drew) R0.out (zr z)
   go_wp2
   refine aC4 4 w.heap.size _ 24 rfl rfl rfl (aA4 (w:=wr.drew) R0.out) ⟨rfl,?_,?_⟩
   ·exact HKP.out.drew.setNew (Nat.le_refl _) _
   ·exact (setRow_other _ _ _ _ (by omega)).trans RG.out
end
section
open Go.RowKit
set_option linter.unusedVariables false
set_option linter.unusedSimpArgs false
attribute [local go_sem ↓] aAu aAt aAF
set_option maxRecDepth 20000 in
set_option maxHeartbeats 1000000 in
theorem aTc (g : Nat) (a : Option Addr) (len cap i : Nat) (d zd : Int) (z f : Nat → Int) (w : World) (hg : w.heap[g]? = some (.cells (rwA (.slice a len cap) d z zd) 165)) (hr : Rts w a len cap f) (hi : i < len) (hm : i ≤ 9223372036854775807) :
    Calls Tryz.prog 130 #[.pointer (some ⟨g,0,none⟩),.int .i64 i] w fun e w'=>e=.returned (.agg (vs .u8 32 (aCT f i)))∧Below w.heap.size w w':=by
 obtain ⟨b,o,hb,hx,hc⟩:=hr.at i hi
 have hgl:g < w.heap.size:=(Array.getElem?_eq_some_iff.1 hg).1
 have c0:=aAs hg 0
 rw [aGd] at c0
 have hbt:decide (i < len)=true:=by simp;omega
 have HG:=hid hg
 have HC:=hid hc
 clear hg hc hr
 go_enter Tryz.func130,Tryz.ntmps130
 go_upto_region 2 with fail
 change Code.wp _ _ _ _ (w.alloc (.cells (vs .u8 32 fun _=>0) 24))
 obtain ⟨W,hW⟩:∃ W,w.alloc (.cells (vs .u8 32 fun _=>0) 24)=W:=⟨_,rfl⟩
 have hB:Below w.heap.size w W:=by rw [←hW];exact (Below.refl _ _).alloc (Nat.le_refl _) _
 have r0:W.heap[w.heap.size]?=some (.cells (vs .u8 32 fun _=>0) 24):=by rw [←hW];exact aA2 rfl
 rw [hW]
 have c1:W.cell? ⟨g,0,none⟩=some (.slice a len cap):=(aAk hB hgl).trans c0
 have l2:=aBa (w:=W) (b:=b) (o:=o) (c:=aCT f i) (fun j hj=>(aAk hB hb).trans (HC.out j hj))
 have s2:=aAv r0 (aCT f i)
 have HB:=hid hB
 have R0:=hid r0
 clear hB r0 hW c0
 go_wp2
 refine aC4 4 w.heap.size _ 24 rfl rfl rfl (aA4 R0.out) ⟨rfl,?_⟩
 exact aA6 HB.out (Nat.le_refl _) _
def aGx (f:Nat→Int) (len d i:Nat):Nat→Int:=if i < len then aCT f i else zr d
theorem aKq {f:Nat→Int} {len:Nat} (hf:ByB f (32*len)) (d i:Nat):∀ j,j < 32→0≤aGx f len d i j∧aGx f len d i j < 256:=by
 intro j hj
 unfold aGx
 by_cases h:i < len
 ·rw [if_pos h];exact hf _ (by omega)
 ·rw [if_neg h];exact aI5 _ _
theorem aNT (g : Nat) (a : Option Addr) (len cap d zd i : Nat) (f : Nat → Int) (w : World) (hS : Sh w) (hg : w.heap[g]? = some (.cells (rwA (.slice a len cap) d (zr zd) zd) 165)) (h0 : 0 ≠ g) (h1 : 2 ≠ g)
    (hr:Rts w a len cap f) (hm:i≤9223372036854775807) (hz:zd≤d) (hd:d≤1000) :
    Calls Tryz.prog 130 #[.pointer (some ⟨g,0,none⟩),.int .i64 i] w fun e w'=>e=.returned (.agg (vs .u8 32 (aGx f len d i)))∧Kept g w w'∧∃ z,z≤d∧w'.heap[g]?=some (.cells (rwA (.slice a len cap) d (zr z) z) 165):=by
 by_cases hi:i < len
 ·refine (aTc g a len cap i d zd (zr zd) f w hg hr hi hm).mono ?_
  rintro e w' ⟨rfl,hb⟩
  refine ⟨by unfold aGx;rw [if_pos hi],Kept.ofBelow hb,zd,hz,(hb.block g (Array.getElem?_eq_some_iff.1 hg).1).trans hg⟩
 ·refine (aQX g a len cap d zd i w hS hg h0 h1 (by omega) hm hz hd).mono ?_
  rintro e w' ⟨rfl,hk,hg'⟩
  exact ⟨by unfold aGx;rw [if_neg hi],hk,d,Nat.le_refl _,hg'⟩
def slr (x:Value) (lo hi:Option Value):Sem Value:=Instr.sliceAt 32 x lo hi none
theorem aB3 (x:Value) (lo hi:Option Value):Instr.sliceAt 32 x lo hi none=slr x lo hi:=rfl
def ofs (a:Option Addr) (cap lo:Nat):Option Addr:=if cap=lo then a else a.map (·.add (lo*32))
theorem aHX (W : World) (ao : Option Addr) (len cap lo hi : Nat) (l h : Option Value) (hl : l = some (.int .i64 lo) ∨ l = none ∧ lo = 0) (hh : h = some (.int .i64 hi) ∨ h = none ∧ hi = len) (h1 : lo ≤ hi) (h2 : hi ≤ len) (h3 : len ≤ cap) :
    (slr (.slice ao len cap) l h).run Tryz.prog W=.ok (.slice (ofs ao cap lo) (hi - lo) (cap - lo)) W:=by
 have b1:∀ (k n:Nat) (c:BoundsCode),k≤n→(Instr.sliceBound (.int .i64 (k:Int)) n c).run Tryz.prog W=.ok k W:=by
  intro k n c hk
  have h0:(k:Int)≤(n:Int):=by omega
  simp [Instr.sliceBound,asIntOf,h0]
 have c1:=fun c=>b1 lo hi c h1
 have c2:=fun c=>b1 hi cap c (by omega)
 unfold slr Instr.sliceAt ofs
 rcases hl with rfl | ⟨rfl,rfl⟩<;>rcases hh with rfl | ⟨rfl,rfl⟩ <;>
  simp [run_underlying Tryz.underlying32,Instr.slice,Instr.sliceBounds,c1,c2,aHe]
theorem Rts.part {w : World} {a : Option Addr} {len cap : Nat} {f : Nat → Int} (h : Rts w a len cap f) (lo hi : Nat) (h1 : lo ≤ hi) (h2 : hi ≤ len) :
    Rts w (ofs a cap lo) (hi - lo) (cap - lo) (fun q=>f (32*lo+q)):=by
 unfold ofs
 rcases h with ⟨rfl,rfl,rfl⟩ | ⟨x,rfl,rfl⟩ | ⟨b,off,rfl,h3,h4,h5⟩
 ·exact .inl ⟨by simp,by omega,by omega⟩
 ·by_cases hc:cap=lo
  ·rw [if_pos hc];exact .inr (.inl ⟨x,rfl,by omega⟩)
  ·rw [if_neg hc];exact .inr (.inl ⟨x.add (lo*32),rfl,by omega⟩)
 ·by_cases hc:cap=lo
  ·rw [if_pos hc];exact .inr (.inl ⟨_,rfl,by omega⟩)
  ·rw [if_neg hc]
   refine .inr (.inr ⟨b,off+lo*32,by rw [Option.map_some,Addr.add_mid],by omega,h4,fun j hj=>?_⟩)
   rw [show off+lo*32+j=off+(32*lo+j) by omega]
   exact h5 _ (by omega)
def aD2 (w:World) (B g:Nat) (a:Option Addr) (len cap:Nat) (f:Nat→Int):Prop :=
 len≤cap∧(len=0∧(a=none→cap=0)∨∃ b C,a=some ⟨b,0,none⟩∧B≤b∧b≠g∧w.heap[b]?=some (.cells C 24)∧32*len≤C.size∧∀ q,q < 32*len→C[q]?=some (.int .u8 (f q)))
theorem aD2.rts {w:World} {B g:Nat} {a:Option Addr} {len cap:Nat} {f:Nat→Int} (h:aD2 w B g a len cap f):Rts w a len cap f:=by
 rcases h with ⟨hc,⟨h1,h2⟩ | ⟨b,C,rfl,h2,h3,h4,h5,h6⟩⟩
 ·cases a with
  | none => exact .inl ⟨rfl, h1, h2 rfl⟩
  | some x => exact .inr (.inl ⟨x, rfl, h1⟩)
 ·exact .inr (.inr ⟨b,0,rfl,hc,(Array.getElem?_eq_some_iff.1 h4).1,fun j hj=>by rw [Nat.zero_add,aAs h4];exact h6 j hj⟩)
theorem aD2.kept {w w':World} {B g:Nat} {a:Option Addr} {len cap:Nat} {f:Nat→Int} (h:aD2 w B g a len cap f) (hk:Kept g w w'):aD2 w' B g a len cap f:=by
 rcases h with ⟨hc,h | ⟨b,C,h1,h2,h3,h4,h5,h6⟩⟩
 ·exact ⟨hc,.inl h⟩
 ·exact ⟨hc,.inr ⟨b,C,h1,h2,h3,(hk.block b (Array.getElem?_eq_some_iff.1 h4).1 h3).trans h4,h5,h6⟩⟩
theorem aD2.below {w w':World} {B g:Nat} {a:Option Addr} {len cap:Nat} {f:Nat→Int} (h:aD2 w B g a len cap f) (hk:Below w.heap.size w w'):aD2 w' B g a len cap f:=h.kept (Kept.ofBelow hk)
theorem aD2.cut {w:World} {B g:Nat} {a:Option Addr} {len cap n:Nat} {f:Nat→Int} (h:aD2 w B g a len cap f) (hn:n≤len):aD2 w B g a n cap f:=by
 rcases h with ⟨hc,⟨h1,h2⟩ | ⟨b,C,h1,h2,h3,h4,h5,h6⟩⟩
 ·exact ⟨by omega,.inl ⟨by omega,h2⟩⟩
 ·exact ⟨by omega,.inr ⟨b,C,h1,h2,h3,h4,by omega,fun q hq=>h6 q (by omega)⟩⟩
theorem aD2.congr {w:World} {B g:Nat} {a:Option Addr} {len cap:Nat} {f f':Nat→Int} (h:aD2 w B g a len cap f) (hf:∀ q,q < 32*len→f q=f' q):aD2 w B g a len cap f':=by
 rcases h with ⟨hc,h | ⟨b,C,h1,h2,h3,h4,h5,h6⟩⟩
 ·exact ⟨hc,.inl h⟩
 ·exact ⟨hc,.inr ⟨b,C,h1,h2,h3,h4,h5,fun q hq=>by rw [h6 q hq,hf q hq]⟩⟩
theorem aFG (b:Nat) (l:List Value):∀ (o:Nat) (w:World),(w.setCells b o l).heap.size=w.heap.size:=by
 induction l with
 | nil => intro o w; rfl
 | cons v r ih => intro o w; show ((w.setCell _ v).setCells b (o + 1) r).heap.size = _; rw [ih, aFH]
theorem aD2.store {w : World} {B g : Nat} {a : Option Addr} {len cap i : Nat} {f : Nat → Int} (h : aD2 w B g a len cap f) (hi : i < len) (c : Nat → Int) (hBw : B ≤ w.heap.size) :
    ∃ b w',(∀ W:World,(aMP (.slice a len cap) (.int .i64 i)).run Tryz.prog W=.ok (.pointer (some ⟨b,32*i,none⟩)) W)∧(aOK ⟨b,32*i,none⟩ (.agg (vs .u8 32 c))).run Tryz.prog w=.ok () w'∧Below B w w'∧aD2 w' B g a len cap (over f c (32*i) 32)∧w'.heap[g]?=w.heap[g]?∧w'.heap.size=w.heap.size:=by
 rcases h with ⟨hc,⟨h1,h2⟩ | ⟨b,C,rfl,h2,h3,h4,h5,h6⟩⟩
 ·omega
 ·have hb:=(Array.getElem?_eq_some_iff.1 h4).1
  have hk:=aBk (bl c 32) (32*i) (Kept.refl b w)
  refine ⟨b,w.setCells b (32*i) (bl c 32),fun W=>by rw [aDI W b 0 len cap i hi,Nat.zero_add],aGo h4 (32*i) c (by omega),hk.below h2 hBw,?_,?_,?_⟩
  ·refine ⟨hc,.inr ⟨b,aL5 C (32*i) (bl c 32),rfl,h2,h3,aCz (bl c 32) (32*i) h4,by rw [aGW];exact h5,fun q hq=>?_⟩⟩
   rw [aDd _ _ _ _ (by rw [aAV];omega),aAV]
   unfold over
   by_cases hq2:32*i≤q∧q < 32*i+32
   ·rw [if_pos hq2,if_pos hq2,aE5 _ _ _ (by omega)]
   ·rw [if_neg hq2,if_neg hq2,h6 q hq]
  ·by_cases hg:g < w.heap.size
   ·exact hk.block g hg (fun h=>h3 h.symm)
   ·rw [Array.getElem?_eq_none (by rw [aFG];omega),Array.getElem?_eq_none (by omega)]
  ·exact aFG _ _ _ _
end
end Go.Proofs.YtdjplhibmomajaaGreatDoor
