/- A part. -/
import Derived.Test.YtfgmddnfhphdeaaGreatDoorZaA
import Derived.Laws.Cover3
import Derived.ScopeJumps
namespace Go.Proofs.YtfgmddnfhphdeaaGreatDoor.Z
open Go.RowKit
set_option linter.unusedVariables false
set_option linter.unusedSimpArgs false
def ordAt (os:Nat→Int) (L:Int) (i:Nat):Prop:=(if i=0 then 0 else os (i - 1))≤os i∧os i≤L
instance (os:Nat→Int) (L:Int) (i:Nat):Decidable (ordAt os L i):=by unfold ordAt;infer_instance
def sm22 (x:Value) (lo hi mx:Option Value):Sem Value:=Instr.sliceAt 39 x lo hi mx
theorem sm22_eq (x:Value) (lo hi mx:Value):Instr.sliceAt 39 x (some lo) (some hi) (some mx)=sm22 x (some lo) (some hi) (some mx):=rfl
attribute [local go_sem ↓] sm22_eq
end Go.Proofs.YtfgmddnfhphdeaaGreatDoor.Z
namespace Go.Proofs.YtfgmddnfhphdeaaGreatDoor.Z
open Go.RowKit
set_option linter.unusedVariables false
set_option linter.unusedSimpArgs false
def vals (n:Nat) (f:Nat→Value):Array Value:=((List.range n).map f).toArray
theorem vals_size (n:Nat) (f:Nat→Value):(vals n f).size=n:=by simp [vals]
theorem vals_get (n:Nat) (f:Nat→Value) (i:Nat) (h:i < n):(vals n f)[i]?=some (f i):=by simp [vals,h]
theorem size_set (w:World) (a:Addr) (v:Value):(w.setCell a v).heap.size=w.heap.size:=by simp [World.setCell]
end Go.Proofs.YtfgmddnfhphdeaaGreatDoor.Z
namespace Go.Proofs.YtfgmddnfhphdeaaGreatDoor.Z
open Go.RowKit
set_option linter.unusedVariables false
set_option linter.unusedSimpArgs false
end Go.Proofs.YtfgmddnfhphdeaaGreatDoor.Z
namespace Go.Proofs.YtfgmddnfhphdeaaGreatDoor.Z
open Go.RowKit
set_option linter.unusedVariables false
set_option linter.unusedSimpArgs false
end Go.Proofs.YtfgmddnfhphdeaaGreatDoor.Z
namespace Go.Proofs.YtfgmddnfhphdeaaGreatDoor.Z
open Go.RowKit
set_option linter.unusedVariables false
set_option linter.unusedSimpArgs false
set_option maxHeartbeats 400000 in
theorem rsizes_any (zs : Nat → Int) (a : Option Addr) (n cap : Nat) (w : World) (hn : Nms .i64 w a n zs) (hnb : n ≤ 9223372036854775807) :
    Calls Tryz.prog 96 #[.slice a n cap] w fun e w'=>e=.returned (.bool (szB zs n))∧w'=w:=by
 by_cases h1:n < 1
 ·have e:=szB_false (zs:=zs) (n:=n) (.inl (by omega))
  have h1':(n:Int) < 1:=by omega
  have E:=hid e
  clear e hn
  go_enter Tryz.func96,Tryz.ntmps96
  go_wp2
  go_ret
  exact ⟨E.out ▸ rfl,rfl⟩
 ·by_cases h2:64 < n
  ·have e:=szB_false (zs:=zs) (n:=n) (.inr (.inl h2))
   have h1':¬ (n:Int) < 1:=by omega
   have h2':(64:Int) < (n:Int):=by omega
   have E:=hid e
   clear e hn
   go_enter Tryz.func96,Tryz.ntmps96
   go_wp2
   go_ret
   exact ⟨E.out ▸ rfl,rfl⟩
  ·have h1':¬ (n:Int) < 1:=by omega
   have h2':¬ (64:Int) < (n:Int):=by omega
   rcases hn with h | ⟨b,off,rfl,hb,hc⟩
   ·omega
   have HC:=hid hc
   clear hc
   go_enter Tryz.func96,Tryz.ntmps96
   go_wp2
   go_loopw [3] (fun v wr=>∃ k:Nat,k≤n∧v=.int .i64 k∧wr=w∧∀ i,i < k→okS (zs i)) (fun v _=>n - (intOf v).toNat)
   case atStart=>exact ⟨0,by omega,rfl,rfl,fun i hi=>by omega⟩
   case round =>
    obtain ⟨k,hk,rfl,rfl,hok⟩:=hrel
    by_cases hkn:k < n
    ·have ck:=HC.out k hkn
     obtain ⟨z,hz⟩:∃ z,zs k=z:=⟨_,rfl⟩
     rw [hz] at ck
     have k1:(k:Int) < (n:Int):=by omega
     have k2:(0:Int)≤(k:Int):=by omega
     have HOK:=hid hok
     have HZ:=hid hz
     clear hok hz
     by_cases hlo:z < 0
     ·have e:=szB_false (zs:=zs) (n:=n) (.inr (.inr ⟨k,hkn,by rw [HZ.out];unfold okS;omega⟩))
      have E:=hid e
      clear e
      go_wp2
      go_ret
      exact ⟨E.out ▸ rfl,rfl⟩
     ·by_cases hhi:65536 < z
      ·have e:=szB_false (zs:=zs) (n:=n) (.inr (.inr ⟨k,hkn,by rw [HZ.out];unfold okS;omega⟩))
       have E:=hid e
       clear e
       go_wp2
       go_ret
       exact ⟨E.out ▸ rfl,rfl⟩
      ·have hlo':0≤z:=by omega
       have hhi':z≤65536:=by omega
       go_wp2
       go_roundw
       case rel =>
        refine ⟨k+1,by omega,by go_num,trivial,fun i hi=>?_⟩
        by_cases hik:i=k
        ·subst hik;rw [HZ.out];exact ⟨hlo',hhi'⟩
        ·exact HOK.out i (by omega)
       case measure=>simp [intOf];omega
    ·have ek:k=n:=by omega
     subst ek
     have e:=szB_true (zs:=zs) (n:=k) (by omega) (by omega) hok
     have E:=hid e
     clear e hok
     go_wp2
     go_ret
     exact ⟨E.out ▸ rfl,rfl⟩
set_option maxHeartbeats 400000 in
theorem rhead_any (zs : Nat → Int) (a : Option Addr) (n cap : Nat) (w : World) (hn : Nms .i64 w a n zs) (hn1 : 1 ≤ n) (hnb : n ≤ 64) (hok : ∀ i, i < n → okS (zs i)) :
    Calls Tryz.prog 97 #[.slice a n cap] w fun e w'=>e=.returned (.int .i64 (hdL zs n))∧w'=w:=by
 rcases hn with h | ⟨b,off,rfl,hb,hc⟩
 ·omega
 have HC:=hid hc
 have HOK:=hid hok
 clear hc hok
 go_enter Tryz.func97,Tryz.ntmps97
 go_wp2
 go_loopw [3,4] (fun s v wr=>∃ k:Nat,k≤n∧v=.int .i64 k∧wr=w∧s=.int .i64 ((hdL zs k:Nat):Int)) (fun _ v _=>n - (intOf v).toNat)
 case atStart=>exact ⟨0,by omega,rfl,rfl,rfl⟩
 case round =>
  obtain ⟨k,hk,rfl,rfl,rfl⟩:=hrel
  by_cases hkn:k < n
  ·have ck:=HC.out k hkn
   have hbd:=hdL_bd (zs:=zs) k (fun i hi=>HOK.out i (by omega))
   have hokk:=HOK.out k hkn
   have hsu:hdL zs (k+1)=hdL zs k+inH (zs k):=rfl
   obtain ⟨z,ez⟩:∃ z,zs k=z:=⟨_,rfl⟩
   obtain ⟨S,eS⟩:∃ S,hdL zs k=S:=⟨_,rfl⟩
   rw [ez] at ck hokk hsu
   rw [eS] at hbd hsu ⊢
   obtain ⟨z1,z2⟩:=hokk
   have k1:(k:Int) < (n:Int):=by omega
   have k2:(0:Int)≤(k:Int):=by omega
   have s1:(S:Int)≤4194304:=by omega
   have HSU:=hid hsu
   clear hsu ez eS hbd
   by_cases h0:z=0
   ·subst h0
    go_wp2
    go_roundw
    case rel =>
     refine ⟨k+1,by omega,by go_num,trivial,?_⟩
     rw [HSU.out]
     rfl
    case measure=>simp [intOf];omega
   ·go_wp2
    go_roundw
    case rel =>
     refine ⟨k+1,by omega,by go_num,trivial,?_⟩
     rw [HSU.out]
     unfold inH
     rw [if_neg h0]
     congr 1
     omega
    case measure=>simp [intOf];omega
  ·have ek:k=n:=by omega
   subst ek
   go_wp2
   go_ret
   exact ⟨rfl,rfl⟩
end Go.Proofs.YtfgmddnfhphdeaaGreatDoor.Z
namespace Go.Proofs.YtfgmddnfhphdeaaGreatDoor.Z
open Go.RowKit
set_option linter.unusedVariables false
set_option linter.unusedSimpArgs false
end Go.Proofs.YtfgmddnfhphdeaaGreatDoor.Z
namespace Go.Proofs.YtfgmddnfhphdeaaGreatDoor.Z
open Go.RowKit
set_option linter.unusedVariables false
set_option linter.unusedSimpArgs false
def bt (n:Int):Nat→Int
 | 0 => n % 256
 | 1 => n / 256 % 256
 | 2 => n / 65536 % 256
 | 3 => n / 16777216 % 256
 | 4 => n / 4294967296 % 256
 | 5 => n / 1099511627776 % 256
 | 6 => n / 281474976710656 % 256
 | _ => n / 72057594037927936 % 256
set_option maxHeartbeats 1000000 in
theorem bytes_any (n : Int) (w : World) (h0 : 0 ≤ n) (h1 : n < 18446744073709551616) :
    Calls Tryz.prog 113 #[.int .u64 n] w fun e w'=>e=.returned (.agg #[.int .u8 (bt n 0),.int .u8 (bt n 1),.int .u8 (bt n 2),.int .u8 (bt n 3),.int .u8 (bt n 4),.int .u8 (bt n 5),.int .u8 (bt n 6),.int .u8 (bt n 7)])∧Below w.heap.size w w':=by
 show Calls Tryz.prog 113 #[.int .u64 n] w fun e w'=>e=.returned (.agg #[.int .u8 (n % 256),.int .u8 (n / 256 % 256),.int .u8 (n / 65536 % 256),.int .u8 (n / 16777216 % 256),.int .u8 (n / 4294967296 % 256),.int .u8 (n / 1099511627776 % 256),.int .u8 (n / 281474976710656 % 256),.int .u8 (n / 72057594037927936 % 256)])∧Below w.heap.size w w'
 go_enter Tryz.func113,Tryz.ntmps113
 go_wp2
 go_rounds 9
 go_returns
 have e7:n / 72057594037927936 % 256=n / 72057594037927936:=by omega
 rw [e7]
 refine ⟨rfl,?_⟩
 go_grown
def iv (l:List Int):List Value:=l.map (Value.int .u8)
theorem iv_len (l:List Int):(iv l).length=l.length:=by simp [iv]
theorem iv_append (l r:List Int):iv (l++r)=iv l++iv r:=by simp [iv]
def fourL (x:Nat):List Int:=[bt x 0,bt x 1,bt x 2,bt x 3]
theorem bl_four (x:Nat):bl (fun j=>bt x j) 4=iv (fourL x):=rfl
end Go.Proofs.YtfgmddnfhphdeaaGreatDoor.Z
namespace Go.Proofs.YtfgmddnfhphdeaaGreatDoor.Z
open Go.RowKit
set_option linter.unusedVariables false
set_option linter.unusedSimpArgs false
def Parts (w:World) (a:Option Addr) (n:Nat) (A:Nat→Option Addr) (L C:Nat→Nat) (f:Nat→Nat→Int):Prop :=
 n=0∨∃ b off,a=some ⟨b,off,none⟩∧b < w.heap.size∧∀ r,r < n→w.cell? ⟨b,off+r,none⟩=some (.slice (A r) (L r) (C r))∧Bys w (A r) (L r) (C r) (f r)
theorem Parts.below {w w':World} {a:Option Addr} {n:Nat} {A:Nat→Option Addr} {L C:Nat→Nat} {f:Nat→Nat→Int} (h:Parts w a n A L C f) (hb:Below w.heap.size w w'):Parts w' a n A L C f:=by
 rcases h with h | ⟨b,off,h1,h2,h3⟩
 ·exact .inl h
 ·exact .inr ⟨b,off,h1,Nat.lt_of_lt_of_le h2 hb.size,fun r hr=>⟨(below_cell hb h2).trans (h3 r hr).1,(h3 r hr).2.below hb⟩⟩
theorem parts_at {w : World} {a : Option Addr} {n : Nat} {A : Nat → Option Addr} {L C : Nat → Nat} {f : Nat → Nat → Int} (h : Parts w a n A L C f) (r : Nat) (hr : r < n) :
    ∃ b off,a=some ⟨b,off,none⟩∧b < w.heap.size∧w.cell? ⟨b,off+r,none⟩=some (.slice (A r) (L r) (C r))∧Bys w (A r) (L r) (C r) (f r):=by
 rcases h with h | ⟨b,off,h1,h2,h3⟩
 ·omega
 ·exact ⟨b,off,h1,h2,(h3 r hr).1,(h3 r hr).2⟩
end Go.Proofs.YtfgmddnfhphdeaaGreatDoor.Z
namespace Go.Proofs.YtfgmddnfhphdeaaGreatDoor.Z
open Go.RowKit
set_option linter.unusedVariables false
set_option linter.unusedSimpArgs false
def prt (f:Nat→Nat→Int) (L:Nat→Nat) (r:Nat):List Int:=(List.range (L r)).map (f r)
theorem prt_len (f:Nat→Nat→Int) (L:Nat→Nat) (r:Nat):(prt f L r).length=L r:=by simp [prt]
theorem bl_prt (f:Nat→Nat→Int) (L:Nat→Nat) (r:Nat):bl (f r) (L r)=iv (prt f L r):=by simp [bl,iv,prt]
end Go.Proofs.YtfgmddnfhphdeaaGreatDoor.Z
namespace Go.Proofs.YtfgmddnfhphdeaaGreatDoor.Z
open Go.RowKit
set_option linter.unusedVariables false
set_option linter.unusedSimpArgs false
theorem rfour_any (x : Nat) (w : World) (hx : x < 4611686018427387904) :
    Calls Tryz.prog 98 #[.int .i64 x] w fun e w'=>e=.returned (.slice (some ⟨w.heap.size,0,none⟩) 4 4)∧w'=w.alloc (.cells #[.int .u8 (bt x 0),.int .u8 (bt x 1),.int .u8 (bt x 2),.int .u8 (bt x 3)] 5):=by
 have h1:(x:Int) < 4611686018427387904:=by omega
 have h0:(0:Int)≤(x:Int):=by omega
 show Calls Tryz.prog 98 #[.int .i64 x] w fun e w'=>e=.returned (.slice (some ⟨w.heap.size,0,none⟩) 4 4)∧w'=w.alloc (.cells #[.int .u8 ((x:Int) % 256),.int .u8 ((x:Int) / 256 % 256),.int .u8 ((x:Int) / 65536 % 256),.int .u8 ((x:Int) / 16777216 % 256)] 5)
 go_enter Tryz.func98,Tryz.ntmps98
 go_wp2
 go_ret
 exact ⟨rfl,rfl⟩
theorem row4_bys (w:World) (x:Nat):Bys (w.alloc (.cells #[.int .u8 (bt x 0),.int .u8 (bt x 1),.int .u8 (bt x 2),.int .u8 (bt x 3)] 5)) (some ⟨w.heap.size,0,none⟩) 4 4 (fun j=>bt x j):=by
 refine .inr (.inr ⟨w.heap.size,0,rfl,by omega,by omega,by simp,fun j hj=>?_⟩)
 rw [Nat.zero_add,row_cell (heap_new rfl) j]
 rcases (by omega:j=0∨j=1∨j=2∨j=3) with rfl | rfl | rfl | rfl<;>rfl
end Go.Proofs.YtfgmddnfhphdeaaGreatDoor.Z
namespace Go.Proofs.YtfgmddnfhphdeaaGreatDoor.Z
open Go.RowKit
set_option linter.unusedVariables false
set_option linter.unusedSimpArgs false
theorem iv_bl (l:List Int):iv l=bl (fun j=>l.getD j 0) l.length:=by
 unfold iv bl
 apply List.ext_getElem?
 intro j
 by_cases hj:j < l.length
 ·simp [List.getD_eq_getElem?_getD,hj]
 ·simp [hj]
theorem owns_bys {w:World} {B:Nat} {v:Value} {n:Nat} {l:List Int} (h:w.ownsRow B 5 1 v n (iv l)):n=l.length∧∃ a C,v=.slice a n C∧n≤C∧C≤9223372036854775807∧Bys w a n C (fun j=>l.getD j 0):=by
 have hl:n=l.length:=by have:=h.1;rw [iv_len] at this;omega
 refine ⟨hl,?_⟩
 subst hl
 rw [iv_bl] at h
 rcases h.2 with ⟨h1,h0⟩ | ⟨g,cap,cur,h1,h2,h3,h4,h5,h6,h7⟩
 ·rw [h0]
  exact ⟨none,0,by rw [h1],Nat.le_refl _,by omega,.inl ⟨rfl,rfl,rfl⟩⟩
 ·subst h1
  obtain ⟨_,hb,hc,hd,hcell⟩:=own_cells h
  exact ⟨_,cap,rfl,hc,hd,.inr (.inr ⟨g,0,rfl,hc,hd,hb,fun j hj=>by rw [Nat.zero_add];exact hcell j hj⟩)⟩
end Go.Proofs.YtfgmddnfhphdeaaGreatDoor.Z
namespace Go.Proofs.YtfgmddnfhphdeaaGreatDoor.Z
open Go.RowKit
set_option linter.unusedVariables false
set_option linter.unusedSimpArgs false
def loL (zs:Nat→Int) (L:Nat→Nat):Nat→Nat
 | 0 => 0
 | k + 1 => loL zs L k + (if zs k = 0 then L k else 0)
def loB (zs:Nat→Int) (f:Nat→Nat→Int) (L:Nat→Nat):Nat→List Int
 | 0 => []
 | k + 1 => loB zs f L k ++ (if zs k = 0 then prt f L k else [])
def hdB (zs:Nat→Int) (f:Nat→Nat→Int) (L:Nat→Nat) (H:Nat):Nat→List Int
 | 0 => []
 | k + 1 => hdB zs f L H k ++ (if zs k = 0 then fourL (H + loL zs L k) else prt f L k)
theorem loB_len (zs:Nat→Int) (f:Nat→Nat→Int) (L:Nat→Nat) (k:Nat):(loB zs f L k).length=loL zs L k:=by
 induction k with
 | zero => rfl
 | succ k ih =>
  unfold loB loL
  rw [List.length_append,ih]
  by_cases h:zs k=0
  ·rw [if_pos h,if_pos h,prt_len]
  ·rw [if_neg h,if_neg h]
   rfl
theorem loL_mono (zs:Nat→Int) (L:Nat→Nat) {i j:Nat} (h:i≤j):loL zs L i≤loL zs L j:=by
 induction j with
 | zero => have : i = 0 := by omega
           subst this
           exact Nat.le_refl _
 | succ j ih =>
  by_cases hj:i≤j
  ·have:=ih hj
   show loL zs L i≤loL zs L j+_
   omega
  ·have:i=j+1:=by omega
   subst this
   exact Nat.le_refl _
def Fits (zs:Nat→Int) (L:Nat→Nat) (n:Nat):Prop:=∀ r,r < n→zs r≠0→(L r:Int)=zs r
theorem hdB_len (zs:Nat→Int) (f:Nat→Nat→Int) (L:Nat→Nat) (H k:Nat) (hf:Fits zs L k):(hdB zs f L H k).length=hdL zs k:=by
 induction k with
 | zero => rfl
 | succ k ih =>
  unfold hdB hdL
  rw [List.length_append,ih fun r hr=>hf r (by omega)]
  by_cases h:zs k=0
  ·rw [if_pos h]
   unfold inH
   rw [if_pos h]
   rfl
  ·rw [if_neg h,prt_len]
   unfold inH
   rw [if_neg h]
   have:=hf k (by omega) h
   omega
def layC (zs:Nat→Int) (f:Nat→Nat→Int) (L:Nat→Nat) (n:Nat):List Int:=hdB zs f L (hdL zs n) n++loB zs f L n
theorem layC_len (zs:Nat→Int) (f:Nat→Nat→Int) (L:Nat→Nat) (n:Nat) (hf:Fits zs L n):(layC zs f L n).length=hdL zs n+loL zs L n:=by
 unfold layC
 rw [List.length_append,hdB_len _ _ _ _ _ hf,loB_len]
end Go.Proofs.YtfgmddnfhphdeaaGreatDoor.Z
namespace Go.Proofs.YtfgmddnfhphdeaaGreatDoor.Z
open Go.RowKit
set_option linter.unusedVariables false
set_option linter.unusedSimpArgs false
end Go.Proofs.YtfgmddnfhphdeaaGreatDoor.Z
