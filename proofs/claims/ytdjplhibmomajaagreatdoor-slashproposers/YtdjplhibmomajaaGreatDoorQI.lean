/- A part. -/
import Derived.Test.YtdjplhibmomajaaGreatDoorQF
import Derived.Test.YtdjplhibmomajaaGreatDoorQH
import Derived.Test.YtdjplhibmomajaaGreatDoorVfF
import Derived.Test.YtdjplhibmomajaaGreatDoorQG
namespace Go.Proofs.YtdjplhibmomajaaGreatDoor
open Go.RowKit
set_option linter.unusedVariables false
set_option linter.unusedSimpArgs false
section
open Go.RowKit
set_option linter.unusedVariables false
set_option linter.unusedSimpArgs false
theorem aJO (z:Nat→aA5) (e:Int) (k:Nat) (v:Int):v ∈ acL z e k↔0≤v∧v < (k:Int)∧aEz (z v.toNat) e=true:=by
 induction k with
 | zero => exact ⟨fun h => (List.not_mem_nil h).elim, fun h => by omega⟩
 | succ k ih =>
  unfold acL
  cases hb:aEz (z k) e
  ·rw [if_neg (by simp),ih]
   constructor
   ·rintro ⟨h0,h1,h2⟩;exact ⟨h0,by omega,h2⟩
   ·rintro ⟨h0,h1,h2⟩
    refine ⟨h0,?_,h2⟩
    by_cases hv:v=(k:Int)
    ·subst hv
     rw [Int.toNat_natCast,hb] at h2
     cases h2
    ·omega
  ·rw [if_pos rfl,List.mem_append,ih,List.mem_singleton]
   constructor
   ·rintro (⟨h0,h1,h2⟩ | rfl)
    ·exact ⟨h0,by omega,h2⟩
    ·exact ⟨by omega,by omega,by rw [Int.toNat_natCast];exact hb⟩
   ·rintro ⟨h0,h1,h2⟩
    by_cases hv:v=(k:Int)
    ·exact .inr hv
    ·exact .inl ⟨h0,by omega,h2⟩
def cnt (n:Nat):Nat:=if n / 8 < 1 then 1 else if 2 < n / 8 then 2 else n / 8
def cut (n k:Nat):Nat:=n*k / (4*cnt n)
def mbr (L:List Int) (s:Nat→Int) (j:Nat):Int:=L.getD (plV s L.length 6 j).toNat 0
theorem aFX (L:List Int) (i:Nat) (h:i < L.length):L.getD i 0 ∈ L:=by
 rw [List.getD_eq_getElem?_getD,List.getElem?_eq_getElem h]
 exact List.getElem_mem h
theorem aHJ (L:List Int) (s:Nat→Int) {j:Nat} (h:j < L.length):mbr L s j ∈ L:=by
 have:=aGT s (n:=L.length) (i:=j) (by omega) (by omega) 6
 exact aFX L _ (by omega)
end
section
open Go.RowKit
set_option linter.unusedVariables false
set_option linter.unusedSimpArgs false
def N64 (w:World) (a:Option Addr) (n:Nat) (f:Nat→Int):Prop :=
 n=0∨∃ b off,a=some ⟨b,off,none⟩∧b < w.heap.size∧∀ j,j < n→w.cell? ⟨b,off+j,none⟩=some (.int .u64 (f j))
theorem N64.below {w w':World} {a:Option Addr} {n:Nat} {f:Nat→Int} (h:N64 w a n f) (hb:Below w.heap.size w w'):N64 w' a n f:=by
 rcases h with h | ⟨b,off,h1,h2,h3⟩
 ·exact .inl h
 ·exact .inr ⟨b,off,h1,Nat.lt_of_lt_of_le h2 hb.size,fun j hj=>(aAk hb h2).trans (h3 j hj)⟩
attribute [local go_sem ↓] aAu aAt aBJ
end
section
open Go.RowKit
set_option linter.unusedVariables false
set_option linter.unusedSimpArgs false
theorem N64.congr {w:World} {a:Option Addr} {n:Nat} {f g:Nat→Int} (h:N64 w a n f) (hf:∀ j,j < n→f j=g j):N64 w a n g:=by
 rcases h with h | ⟨b,off,h1,h2,h3⟩
 ·exact .inl h
 ·exact .inr ⟨b,off,h1,h2,fun j hj=>by rw [h3 j hj,hf j hj]⟩
attribute [local go_sem ↓] aAu aAt aBJ aAQ
end
section
open Go.RowKit
set_option linter.unusedVariables false
set_option linter.unusedSimpArgs false
set_option maxRecDepth 20000
attribute [local go_sem ↓] aAq aAr aAz aAi aAl aAw aAu aAt
def acE (x:aA1) (e:Int):List Int:=acL x.f11.z e x.f11.n
theorem aJN {x:aA1} {e:Int} (h:x.f11.n≤65536):(acE x e).length≤65536:=Nat.le_trans (aEQ _ _ _) h
theorem aIP (x:aA1) (e k:Int) (j:Nat):0≤aCP x e k j∧aCP x e k j < 256:=aBU ..
end
section
open Go.RowKit
set_option linter.unusedVariables false
set_option linter.unusedSimpArgs false
def sd8 (s:Nat→Int) (q:Int) (j:Nat):Int:=if j < 32 then s j else nmB q (j - 32)
def aGJ (s:Nat→Int) (i:Nat):Int:=aCH KW HW (sd8 s ((i / 32:Nat):Int)) 40 (i % 32)
def cdV (L:List Int) (s:Nat→Int) (i:Nat):Int:=mbr L s (i % L.length)
def tkB (z:Nat→aA5) (L:List Int) (s:Nat→Int) (i:Nat):Bool:=decide (32000000000*aGJ s i≤(z (cdV L s i).toNat).f2*255)
def drL (z:Nat→aA5) (L:List Int) (s:Nat→Int):Nat→List Int
 | 0 => []
 | i + 1 => if tkB z L s i = true then drL z L s i ++ [cdV L s i] else drL z L s i
theorem aLu {s:Nat→Int} (hs:∀ j,j < 32→0≤s j∧s j < 256) (q:Int) (j:Nat):0≤sd8 s q j∧sd8 s q j < 256:=by
 unfold sd8
 split
 ·exact hs j ‹_›
 ·unfold nmB
  omega
theorem aG1 (s:Nat→Int) (i:Nat):0≤aGJ s i∧aGJ s i < 256:=aBU ..
theorem aKg (z:Nat→aA5) (L:List Int) (s:Nat→Int) (i:Nat):(drL z L s i).length≤i:=by
 induction i with
 | zero => exact Nat.le_refl _
 | succ i ih =>
  unfold drL
  split
  ·rw [List.length_append]
   show _+1≤_
   omega
  ·omega
theorem aPc (z:Nat→aA5) (L:List Int) (s:Nat→Int) (i k:Nat):drL z L s i <+: drL z L s (i+k):=by
 induction k with
 | zero => exact List.prefix_refl _
 | succ k ih =>
  have e:drL z L s (i+(k+1))=if tkB z L s (i+k)=true then drL z L s (i+k)++[cdV L s (i+k)] else drL z L s (i+k):=rfl
  rw [e]
  split
  ·exact ih.trans (List.prefix_append _ _)
  ·exact ih
theorem aME (z:Nat→aA5) (L:List Int) (s:Nat→Int) {i n:Nat} (h:i≤n):(drL z L s n).take (drL z L s i).length=drL z L s i:=by
 obtain ⟨k,rfl⟩:=Nat.exists_eq_add_of_le h
 exact (List.prefix_iff_eq_take.1 (aPc z L s i k)).symm
theorem aPb (z:Nat→aA5) (L:List Int) (s:Nat→Int) (h:L≠[]) (i:Nat):∀ v ∈ drL z L s i,v ∈ L:=by
 have hL:0 < L.length:=List.length_pos_iff.2 h
 induction i with
 | zero => exact fun v hv => (List.not_mem_nil hv).elim
 | succ i ih =>
  intro v hv
  unfold drL at hv
  split at hv
  ·rcases List.mem_append.1 hv with h1 | h1
   ·exact ih v h1
   ·rw [List.mem_singleton] at h1
    rw [h1]
    exact aHJ L s (Nat.mod_lt _ hL)
  ·exact ih v hv
def dwO (z:Nat→aA5) (L:List Int) (s:Nat→Int) (want:Nat):Bool:=decide (L≠[]) && decide (want≤(drL z L s 256).length)
def dwL (z:Nat→aA5) (L:List Int) (s:Nat→Int) (want:Nat):List Int:=if dwO z L s want=true then (drL z L s 256).take want else []
def dwE (z:Nat→aA5) (L:List Int) (s:Nat→Int) (want:Nat):Int:=if dwO z L s want=true then 0 else 7
theorem aKh {z:Nat→aA5} {L:List Int} {s:Nat→Int} {want i:Nat} (hL:L≠[]) (hi:i≤256) (h:(drL z L s i).length=want):dwL z L s want=drL z L s i∧dwE z L s want=0:=by
 have hp:=aME z L s hi
 have hl:want≤(drL z L s 256).length:=by
  have:=congrArg List.length hp
  rw [List.length_take] at this
  omega
 have ho:dwO z L s want=true:=by unfold dwO;simp [hL,hl]
 unfold dwL dwE
 rw [if_pos ho,if_pos ho,←h]
 exact ⟨hp,rfl⟩
theorem aFU {z:Nat→aA5} {L:List Int} {s:Nat→Int} {want:Nat} (h:L=[]∨(drL z L s 256).length < want):dwL z L s want=[]∧dwE z L s want=7:=by
 have ho:¬ dwO z L s want=true:=by
  unfold dwO
  rw [Bool.and_eq_true,decide_eq_true_eq,decide_eq_true_eq]
  rintro ⟨h1,h2⟩
  rcases h with h | h
  ·exact h1 h
  ·omega
 unfold dwL dwE
 rw [if_neg ho,if_neg ho]
 exact ⟨rfl,rfl⟩
end
end Go.Proofs.YtdjplhibmomajaaGreatDoor
