/-
  Indexed: the reference's Read where it reads.
-/
import Derived.Test.YtokbhcgooboocaaGreatDoorOpEp
import Derived.Test.YtokbhcgooboocaaGreatDoorOpFp
import Derived.Test.YtokbhcgooboocaaGreatDoorTyDatap
namespace Go.Proofs.YtokbhcgooboocaaGreatDoor
open Go.RowKit
set_option linter.unusedVariables false
set_option linter.unusedSimpArgs false
set_option maxRecDepth 20000

theorem infoU8 : (Tryz.prog.info? 23).map (fun i => (i.zero, i.size, i.bytes)) = some (some (.int .u64 0), 1, 8) := by kernel_rfl
theorem wpList_append_u64 (w : World) {ops : Array Oper} {rest : List Oper} {o : Oper} {a : Act} {Q : Exit → Act → World → Prop} (hgd : o.guard = none) (s x : Operand)
    (ho : o.op = .call { callee := .builtin .append, args := #[s, x], argTypes := #[44, 44] })
    (base : Nat) (v : Value) (n : Nat) (xs : List Value) (z : Value) (hz : z.oneCell' = true) (hs : a.eval s = v) (hown : w.ownsRow base 23 1 v n xs)
    (hx : a.eval x = .slice (some ⟨w.heap.size, 0, none⟩) 1 1) (hbd : n ≤ 1000000000000) (hbase : base ≤ w.heap.size)
    (h : ∀ v' w', w'.ownsRow base 23 1 v' (n + 1) (xs ++ [z]) → w.grownBy w' v.ownBlock → wpList Tryz.prog ops Q rest (a.put o.dst v') w') :
    wpList Tryz.prog ops Q (o :: rest) a (w.alloc (.cells #[z] 23)) := by
  obtain ⟨i, hi, hz0, hz1, hz2⟩ := info_parts infoU8
  refine wpList_append_own _ hgd s x 44 ho base 23 i (.int .u64 0) 1 8 Tryz.underlying44 hi hz0 hz1 hz2 rfl (by decide) v n xs hs (hown.alloc _) ⟨w.heap.size, 0, none⟩ 1 1 [z] hx rfl (cell_one_new _ _ _)
    (fun u hu => by simp at hu; subst hu; exact hz) (by unfold maxLen; omega) (by omega) (by simp; omega) (fun v' w' h1 h2 _ => ?_)
  refine h v' w' h1 ⟨h2.os, h2.tape, h2.output, ?_, fun k hk hne => ?_⟩
  · have := h2.size
    simp at this
    omega
  · exact (h2.block k (by simp; omega) hne).trans (heap_old hk)
theorem owns_u64s {w : World} {base : Nat} {v : Value} {n : Nat} {L : List Int} (h : w.ownsRow base 23 1 v n (L.map (Value.int .u64))) : n = L.length ∧ ∃ a C, v = .slice a n C ∧ Z.Nms .u64 w a n (fun j => L.getD j 0) := by
  have hl : n = L.length := by have := h.1; rw [List.length_map] at this; omega
  refine ⟨hl, ?_⟩
  rcases h.2 with ⟨h1, h2⟩ | ⟨g, cap, cur, h1, h2, h3, h4, h5, h6, h7⟩
  · subst h2
    exact ⟨none, 0, h1, .inl rfl⟩
  · subst h1
    refine ⟨_, cap, rfl, .inr ⟨g, 0, rfl, (Array.getElem?_eq_some_iff.1 h3).1, fun j hj => ?_⟩⟩
    have := h.cells (g := g) rfl j (.int .u64 (L.getD j 0)) (by rw [List.getElem?_map, List.getElem?_eq_getElem (by omega), List.getD_eq_getElem?_getD, List.getElem?_eq_getElem (by omega)]; rfl)
    rw [addr_add] at this
    exact this
theorem bys_lc {w : World} {a : Option Addr} {len cap : Nat} {f : Nat → Int} (h : Bys w a len cap f) : len ≤ cap := by
  rcases h with ⟨_, h1, h2⟩ | ⟨_, _, h1⟩ | ⟨_, _, _, h1, _⟩
  · omega
  · omega
  · exact h1
theorem own_ne {w : World} {B g n : Nat} {v : Value} {xs : List Value} {e : TypeId} (h : w.ownsRow B e 1 v n xs) (hg : g < B) : v.ownBlock ≠ some g := fun he => by
  have := (h.lt g he).1
  omega
theorem kept_grown {g : Nat} {w2 wr w5 : World} {v : Value} {n : Nat} {xs : List Value} {e : TypeId} (hK : Kept g w2 wr) (ho : wr.ownsRow w2.heap.size e 1 v n xs) (hg : wr.grownBy w5 v.ownBlock) : Kept g w2 w5 :=
  ⟨hg.os.trans hK.os, hg.tape.trans hK.tape, hg.output.trans hK.output, Nat.le_trans hK.size hg.size, fun i hi hn => (hg.block i (Nat.lt_of_lt_of_le hi hK.size) (fun e => by have := (ho.lt i e.symm).1; omega)).trans (hK.block i hi hn)⟩
theorem setI_who (a a' : Option Addr) (n n' c c' : Nat) (R : Nat → Int) : (cel (sIndexed ⟨a, n, c, R, oData, fun _ => 0⟩)).setIfInBounds 0 (.slice a' n' c') = cel (sIndexed ⟨a', n', c', R, oData, fun _ => 0⟩) := by kernel_rfl
/-- An address that is new. -/
def Frs (B : Nat) (a : Option Addr) : Prop := ∀ b off, a = some ⟨b, off, none⟩ → B ≤ b
/-- The numbers of a list, in a row. -/
def rwU (R : Nat → Int) (k : Nat) : List Int := (List.range k).map R
theorem rwU_step (R : Nat → Int) (k : Nat) : (rwU R k).map (Value.int .u64) ++ [.int .u64 (R k)] = (rwU R (k + 1)).map (Value.int .u64) := by
  unfold rwU
  rw [List.range_succ, List.map_append, List.map_append]
  rfl
theorem rwU_get (R : Nat → Int) (k j : Nat) (hj : j < k) : (rwU R k).getD j 0 = R j := by
  unfold rwU
  rw [List.getD_eq_getElem?_getD, List.getElem?_map, List.getElem?_range hj]
  rfl

theorem nms_own {w : World} {B : Nat} {a : Option Addr} {k c : Nat} {R : Nat → Int} (h : w.ownsRow B 23 1 (.slice a k c) k ((rwU R k).map (Value.int .u64))) (X : World) (hz : w.heap.size ≤ X.heap.size) (hX : ∀ b, B ≤ b → b < w.heap.size → X.heap[b]? = w.heap[b]?) : Z.Nms .u64 X a k R := by
  obtain ⟨_, a', C, e, hn⟩ := owns_u64s h
  cases e
  rcases hn with h0 | ⟨b, off, rfl, h1, h2⟩
  · exact .inl h0
  · have h3 := (h.lt b rfl).1
    refine .inr ⟨b, off, rfl, Nat.lt_of_lt_of_le h1 hz, fun j hj => ?_⟩
    rw [World.cell?_of_block (w := w) (hX b h3 h1), h2 j hj]
    exact congrArg (fun z => some (Value.int .u64 z)) (rwU_get R k j hj)

attribute [local go_sem ↓] ixP_eq bsI_eq lvData_eq svData_eq lvIndexed_eq svIndexed_eq bdIndexed_eq

set_option maxHeartbeats 2000000 in
theorem rreadIndexed_ok (m : Nat → Int) (ao : Option Addr) (len cap : Nat) (w : World) (hb : Bys w ao len cap m) (hm : ∀ j, 0 ≤ m j ∧ m j < 256) (hlc : len ≤ cap) (hcap : cap ≤ 9223372036854775807) (hlen : len ≤ 140737488351232) (h228 : 228 ≤ len) (hoff : oN m = 228) (n : Nat) (hn : len = 228 + n * 8) (hn64 : n ≤ 64) :
    Calls Tryz.prog 47 #[.slice ao len cap] w fun e w' => ∃ a c, e = .returned (.tuple #[.agg (cel (sIndexed ⟨a, n, c, rN (fun q => m (228 + q)), pData (fun q => m (4 + q)), fun q => m (132 + q)⟩)), .int .i64 0]) ∧ Z.Nms .u64 w' a n (rN (fun q => m (228 + q))) ∧ Frs w.heap.size a ∧ Below w.heap.size w w' := by
  obtain ⟨R, eR⟩ : ∃ R, rN (fun q => m (228 + q)) = R := ⟨_, rfl⟩
  obtain ⟨N1, eN1⟩ : ∃ N, pData (fun q => m (4 + q)) = N := ⟨_, rfl⟩
  rw [eR, eN1]
  have ER := hid eR
  have EN1 := hid eN1
  clear eR eN1
  have z := zeroIndexed
  obtain ⟨y, ey⟩ : ∃ y, w.heap.size = y := ⟨_, rfl⟩
  obtain ⟨W1, hW1⟩ : ∃ W, w.alloc (.cells (cel (sIndexed oIndexed)) 46) = W := ⟨_, rfl⟩
  obtain ⟨W2, hW2⟩ : ∃ W, W1.alloc (.cells (cel (sIndexed oIndexed)) 46) = W := ⟨_, rfl⟩
  obtain ⟨W3, hW3⟩ : ∃ W, W2.alloc (.cells (vs .i64 3 zI) 3) = W := ⟨_, rfl⟩
  have z1 : W1.heap.size = y + 1 := by rw [← hW1, ← ey]; simp
  have z2 : W2.heap.size = y + 2 := by rw [← hW2]; simp [z1]
  have z3 : W3.heap.size = y + 3 := by rw [← hW3]; simp [z2]
  have hB3 : Below w.heap.size w W3 := by rw [← hW3, ← hW2, ← hW1]; exact (((Below.refl _ _).alloc (Nat.le_refl _) _).alloc (by simp) _).alloc (by simp; omega) _
  have r1 : W3.heap[y]? = some (.cells (cel (sIndexed oIndexed)) 46) := by rw [← hW3]; refine (heap_old (by omega)).trans ?_; rw [← hW2]; refine (heap_old (by omega)).trans ?_; rw [← hW1]; exact heap_new ey.symm
  have r2 : W3.heap[y + 1]? = some (.cells (cel (sIndexed oIndexed)) 46) := by rw [← hW3]; refine (heap_old (by omega)).trans ?_; rw [← hW2]; exact heap_new z1.symm
  have g3 : W3.heap[y + 2]? = some (.cells (vs .i64 3 zI) 3) := by rw [← hW3]; exact heap_new z2.symm
  have bsi := bsI_zI W2
  rw [hW3, z2] at bsi
  have hcut := rcutI_ok m ao len cap (y + 2) W3 (hb.below hB3) hm hlen hlc hcap g3 h228 hoff
  obtain ⟨g, eg⟩ : ∃ g, y + 1 = g := ⟨_, rfl⟩
  obtain ⟨u, eu⟩ : ∃ u, y + 2 = u := ⟨_, rfl⟩
  rw [eu] at bsi hcut
  rw [eg] at r2
  have HCUT := hid hcut
  have R1 := hid r1
  have R2 := hid r2
  have HB3 := hid hB3
  have EY := hid ey
  have EG := hid eg
  have Z3 := hid z3
  clear hcut r1 r2 hB3 g3 z3 hlc hcap hb
  have HNN := hid hn
  have H64 := hid hn64
  clear hlen h228 hoff hn hn64
  go_enter Tryz.func47, Tryz.ntmps47
  go_upto_region 3 with (go_at_call 40; refine HCUT.out.mono ?_; rintro e w1 ⟨gp, o, cp, rfl, hgp, ⟨⟨A0, c0, l0, q0, f0⟩, ⟨b1, p1, c1, l1, q1, f1⟩, ⟨b2, p2, c2, l2, q2, f2⟩⟩, hb1⟩)
  clear hW1 hW2 hW3 ey eg eu bsi z1 z2
  have ix0 : ∀ X : World, (ixP (.slice (some ⟨gp, o, none⟩) 3 cp) (.int .i64 0)).run Tryz.prog X = .ok (.pointer (some ⟨gp, o, none⟩)) X := fun X => ixP_run X gp o 3 cp 0 (by omega)
  have ix1 : ∀ X : World, (ixP (.slice (some ⟨gp, o, none⟩) 3 cp) (.int .i64 1)).run Tryz.prog X = .ok (.pointer (some ⟨gp, o + 1, none⟩)) X := fun X => ixP_run X gp o 3 cp 1 (by omega)
  have ix2 : ∀ X : World, (ixP (.slice (some ⟨gp, o, none⟩) 3 cp) (.int .i64 2)).run Tryz.prog X = .ok (.pointer (some ⟨gp, o + 2, none⟩)) X := fun X => ixP_run X gp o 3 cp 2 (by omega)
  obtain ⟨o1, eo1⟩ : ∃ p, o + 1 = p := ⟨_, rfl⟩
  obtain ⟨o2, eo2⟩ : ∃ p, o + 2 = p := ⟨_, rfl⟩
  rw [eo1] at ix1 l1
  rw [eo2] at ix2 l2
  obtain ⟨L0, eL0⟩ : ∃ L, len - 228 = L := ⟨_, rfl⟩
  rw [eL0] at l0 q0
  have z3 := Z3.out
  have e0 := EG.out
  have rx : w1.heap[g]? = some (.cells (cel (sIndexed oIndexed)) 46) := (hb1.block g (by omega)).trans R2.out
  have hgw : g < w1.heap.size := by have := hb1.size; omega
  have hne : gp ≠ g := cel_noI rx l1
  have nb1 : b1 ≠ g := by omega
  have nb2 : b2 ≠ g := by omega
  have hre : Calls Tryz.prog 89 #[.slice A0 L0 c0, .int .i64 8, .int .i64 64] w1 (Z.LAnsF n 0 (fun _ => 8) (fun i q => m (228 + (i * 8 + q))) w1) := Z.reach_okF (fun q => m (228 + q)) A0 L0 c0 8 n 64 w1 q0 (bys_lc q0) (by have := HNN.out; have := H64.out; omega) (by omega) (by omega) (by have := HNN.out; omega) (by have := H64.out; omega) (by have := H64.out; omega) (by omega)
  have HQ1 : Hid (∀ X, Kept g w1 X → Bys X (some ⟨b1, p1, none⟩) 128 c1 (fun q => m (4 + q))) := fun X h => by
    obtain ⟨b', o', e', h1, h2, h3⟩ := bys_at q1 (by omega)
    cases e'
    exact .inr (.inr ⟨_, _, rfl, h2, bys_cap q1 (by omega), Nat.lt_of_lt_of_le h1 h.size, fun j hj => (h.cell h1 nb1).trans (h3 j hj)⟩)
  have HQ2 : Hid (∀ X, Kept g w1 X → ∀ j, j < 96 → X.cell? ⟨b2, p2 + j, none⟩ = some (.int .u8 (m (132 + j)))) := fun X h j hj => by
    obtain ⟨b', o', e', h1, h2, h3⟩ := bys_at q2 (by omega)
    cases e'
    exact (h.cell h1 nb2).trans (h3 j hj)
  have HL1 : Hid (∀ X, Kept g w1 X → X.cell? ⟨gp, o1, none⟩ = some (.slice (some ⟨b1, p1, none⟩) 128 c1)) := fun X h => (h.cell hgp hne).trans l1
  have HL2 : Hid (∀ X, Kept g w1 X → X.cell? ⟨gp, o2, none⟩ = some (.slice (some ⟨b2, p2, none⟩) 96 c2)) := fun X h => (h.cell hgp hne).trans l2
  have HN1 : Hid (∀ X, Kept g w1 X → Calls Tryz.prog 42 #[.slice (some ⟨b1, p1, none⟩) 128 c1] X fun e w' => e = .returned (.tuple #[.agg (cel (sData N1)), .int .i64 0]) ∧ Below X.heap.size X w') := fun X h => by
    rw [← EN1.out]
    exact rreadData_ok _ _ c1 X (HQ1.out X h) (fun j => hm _) (bys_le (HQ1.out X h) (by omega)) (bys_cap (HQ1.out X h) (by omega))
  have HRE := hid hre
  have HRX := hid rx
  have HGW := hid hgw
  have HB1 := hid hb1
  clear hre rx hgw hb1 hne nb1 nb2 q0 q1 q2 f0 f1 f2 hgp l1 l2 eo1 eo2 eL0 z3 e0
  go_upto_region 8 with (go_at_call 89; refine HRE.out.mono ?_; rintro e w2 ⟨la, lc, PA, PC, rfl, hpa, hb2, hfr⟩; have HPA := hid hpa; have HB2 := hid hb2; have HFR := hid hfr; clear hpa hb2 hfr)
  clear l0 ix0 HRE z
  have rx2 : w2.heap[g]? = some (.cells (cel (sIndexed oIndexed)) 46) := (HB2.out.block g HGW.out).trans HRX.out
  have HG2 : Hid (g < w2.heap.size) := Nat.lt_of_lt_of_le HGW.out HB2.out.size
  have HPT : Hid (∀ k, k < n → ∃ gl ol b off, la = some ⟨gl, ol, none⟩ ∧ ∀ X, Kept g w2 X → X.cell? ⟨gl, ol + k, none⟩ = some (.slice (some ⟨b, off, none⟩) 8 (PC k)) ∧ Bys X (some ⟨b, off, none⟩) 8 (PC k) (fun q => m (228 + (k * 8 + q)))) := fun k hk => by
    rcases HPA.out with h | ⟨gl, ol, h1, h2, h3⟩
    · omega
    obtain ⟨h4, h5⟩ := h3 k hk
    replace h4 : w2.cell? ⟨gl, ol + k, none⟩ = some (.slice (PA k) 8 (PC k)) := h4
    replace h5 : Bys w2 (PA k) 8 (PC k) (fun q => m (228 + (k * 8 + q))) := h5
    obtain ⟨b, off, e1, h6, h7, h8⟩ := bys_at h5 (by omega)
    have h9 := HFR.out k hk b off e1
    rw [e1] at h4 h5
    have hng : gl ≠ g := cel_noI rx2 h4
    have hnb : b ≠ g := by have := HGW.out; omega
    exact ⟨gl, ol, b, off, h1, fun X h => ⟨(h.cell h2 hng).trans h4, .inr (.inr ⟨b, off, rfl, h7, bys_cap h5 (by omega), Nat.lt_of_lt_of_le h6 h.size, fun j hj => (h.cell h6 hnb).trans (h8 j hj)⟩)⟩⟩
  have RX2 : Hid (w2.heap[g]? = some (.cells (cel (sIndexed ⟨none, 0, 0, R, oData, fun _ => 0⟩)) 46)) := rx2
  have n0 : (0 : Int) ≤ (n : Int) := by omega
  have n1 : (n : Int) ≤ 64 := by have := H64.out; omega
  clear rx2
  go_upto_region 9 with fail
  go_loopw [9] (fun i wr => ∃ (k : Nat) (a : Option Addr) (c : Nat), k ≤ n ∧ i = .int .i64 k ∧ wr.ownsRow w2.heap.size 23 1 (.slice a k c) k ((rwU R k).map (Value.int .u64)) ∧ wr.heap[g]? = some (.cells (cel (sIndexed ⟨a, k, c, R, oData, fun _ => 0⟩)) 46) ∧ Kept g w2 wr) (fun i _ => n - (intOf i).toNat)
  case atStart => exact ⟨0, none, 0, by omega, rfl, World.ownsRow_nil _ _ _ _, RX2.out, Kept.refl _ _⟩
  case round =>
    obtain ⟨k, a, c, hk, rfl, hown, hrg, hkp⟩ := hrel
    by_cases hlt : k < n
    · have bq : decide (k < n) = true := by simp; omega
      have k1 : (k : Int) < (n : Int) := by omega
      have k2 : (0 : Int) ≤ (k : Int) := by omega
      obtain ⟨gl, ol, b, off, rfl, hpt⟩ := HPT.out k hlt
      obtain ⟨lk, qk⟩ := hpt wr hkp
      have ixk : ∀ X : World, (ixP (.slice (some ⟨gl, ol, none⟩) n lc) (.int .i64 k)).run Tryz.prog X = .ok (.pointer (some ⟨gl, ol + k, none⟩)) X := fun X => ixP_run X gl ol n lc k hlt
      obtain ⟨pk', epk⟩ : ∃ p, ol + k = p := ⟨_, rfl⟩
      rw [epk] at ixk lk
      have hrd := rrd7 (some ⟨b, off, none⟩) (PC k) _ wr qk (fun j _ => hm _)
      have erk : rdN (fun q => m (228 + (k * 8 + q))) = R k := by rw [← ER.out]; rfl
      rw [erk] at hrd
      have ES := hid (rwU_step R k)
      obtain ⟨X, eX⟩ : ∃ X, R k = X := ⟨_, rfl⟩
      rw [eX] at hrd ES
      have cs : wr.cell? ⟨g, 0, none⟩ = some (.slice a k c) := seg_sl hrg 0 a k c rfl 0 rfl
      have hzz := hkp.size
      have HRD := hid hrd
      have HO := hid hown
      have HK := hid hkp
      have RG := hid hrg
      clear hown hrg hkp hpt qk hrd erk eX epk
      go_wp2_with (first
        | (go_at_call 86; refine HRD.out.mono ?_; rintro e w3 ⟨rfl, hw3⟩; obtain rfl := hw3.symm)
        | (at_builtin; refine wpList_append_u64 wr rfl _ _ rfl w2.heap.size (.slice a k c) k _ (.int .u64 X) rfl rfl HO.out rfl (by omega) hzz ?_; intro v5 w5 ho5 hg5; obtain ⟨a5, c5, rfl⟩ := Z.owns_form ho5; have hgo := own_ne HO.out HG2.out; have rg5 := (hg5.block g (Array.getElem?_eq_some_iff.1 RG.out).1 (fun e => hgo e.symm)).trans RG.out; have hk5 := kept_grown HK.out HO.out hg5; have cs5 : w5.cell? ⟨g, 0, none⟩ = some (.slice a k c) := seg_sl rg5 0 a k c rfl 0 rfl; have fs5 := row_frozen rg5 0; have RG5 := hid rg5; have HK5 := hid hk5; have HO5 := hid ho5; clear rg5 hk5 ho5 hg5 hgo))
      go_roundw
      case rel =>
        refine ⟨k + 1, a5, c5, by omega, by go_num, ?_, (row_set RG5.out _ _).trans (congrArg (fun c => some (Obj.cells c 46)) (setI_who _ _ _ _ _ _ _)), HK5.out.setCell _ _⟩
        rw [← ES.out]
        exact HO5.out.kept (row := some g) ⟨rfl, rfl, rfl, by simp [World.setCell], fun i _ hi => heap_set_other (fun e => hi (by rw [e]))⟩ (.inr (own_ne HO5.out HG2.out))
      case measure => simp [intOf]; omega
    · obtain rfl : k = n := by omega
      have bq : decide (k < k) = false := by simp
      have hnx := nms_own hown
      have HFA : Hid (Frs w2.heap.size a) := fun b off e => by
        subst e
        exact (hown.lt b rfl).1
      obtain ⟨wo, rfl⟩ : ∃ W, W = wr := ⟨_, rfl⟩
      have HNX : Hid (∀ X : World, wo.heap.size ≤ X.heap.size → (∀ b, w2.heap.size ≤ b → b < wo.heap.size → X.heap[b]? = wo.heap[b]?) → Z.Nms .u64 X a k R) := hnx
      have KW := hid ((Kept.ofBelow (g := g) HB2.out).trans hkp)
      have RW := hid hrg
      have HZW : Hid (w2.heap.size ≤ wo.heap.size) := hkp.size
      have ld := HL1.out _ KW.out
      clear hown hrg hkp hk hlt hnx HPT HPA HFR
      go_upto_region 17 with (go_at_call 42; refine (HN1.out _ KW.out).mono ?_; rintro e w4 ⟨rfl, hbc⟩; have rg := (hbc.block g (Array.getElem?_eq_some_iff.1 RW.out).1).trans RW.out; have sv := svData_mid rg 1 N1 (by rw [cel_size, slIndexed]; omega); have RG := hid rg; have HBC := hid hbc; clear rg hbc)
      obtain ⟨V2, hV⟩ : ∃ V, w4.setCells g 1 (celL (sData N1)) = V := ⟨_, rfl⟩
      have RV2 : Hid (V2.heap[g]? = some (.cells (cel (sIndexed ⟨a, k, c, R, N1, fun _ => 0⟩)) 46)) := by rw [← hV]; refine (setCells_row _ _ RG.out).trans (congrArg (fun c => some (Obj.cells c 46)) ?_); kernel_rfl
      have KV2 : Hid (Kept g wo V2) := by rw [← hV]; exact setCells_kept _ _ (Kept.ofBelow HBC.out)
      rw [hV]
      clear hV ld sv RG HBC bq RW
      go_upto_region 18 with fail
      go_loopw [11] (fun i wr => ∃ j : Nat, j ≤ 96 ∧ i = .int .i64 j ∧ Kept g wo wr ∧ wr.heap[g]? = some (.cells (cel (sIndexed ⟨a, k, c, R, N1, fun q => if q < j then m (132 + q) else 0⟩)) 46)) (fun i _ => 96 - (intOf i).toNat)
      case atStart => exact ⟨0, by omega, rfl, KV2.out, RV2.out.trans (congrArg (fun c => some (Obj.cells c 46)) (by kernel_rfl))⟩
      case round =>
        obtain ⟨j, hj, rfl, hkp, rn⟩ := hrel
        by_cases hlt : j < 96
        · have bq : decide (j < 96) = true := by simp; omega
          have k1 : (j : Int) < 96 := by omega
          have k2 : (0 : Int) ≤ (j : Int) := by omega
          have cs : wr.cell? ⟨g, 101 + j, none⟩ = some (.int .u8 (if j < j then m (132 + j) else 0)) := (row_cell rn _).trans (cel_at (sIndexed ⟨a, k, c, R, N1, fun q => if q < j then m (132 + q) else 0⟩) 8 j (Seg.by 96 (fun q => if q < j then m (132 + q) else 0)) rfl hlt)
          have fs := row_frozen rn (101 + j)
          have ld := HL2.out _ (KW.out.trans hkp)
          have lc : wr.cell? ⟨b2, p2 + j, none⟩ = some (.int .u8 (m (132 + j))) := HQ2.out _ (KW.out.trans hkp) j hlt
          have RN := hid rn
          have HK := hid hkp
          obtain ⟨M, eM⟩ : ∃ M, m (132 + j) = M := ⟨_, rfl⟩
          rw [eM] at lc
          have EM := hid eM
          clear rn hkp eM
          go_wp2
          go_roundw
          case rel =>
            refine ⟨j + 1, by omega, by go_num, HK.out.setCell _ _, (row_set RN.out _ _).trans (congrArg (fun c => some (Obj.cells c 46)) ?_)⟩
            refine Eq.trans ?_ ((cel_set (l := sIndexed ⟨a, k, c, R, N1, fun q => if q < j then m (132 + q) else 0⟩) 8 96 j (fun q => if q < j then m (132 + q) else 0) M rfl hlt).trans ?_)
            · rfl
            · rw [← EM.out, up_step]
              rfl
          case measure => simp [intOf]; omega
        · obtain rfl : j = 96 := by omega
          have bq : decide (96 < 96) = false := by decide
          obtain ⟨vv, ev⟩ : ∃ v : VIndexed, ⟨a, k, c, R, N1, fun q => m (132 + q)⟩ = v := ⟨_, rfl⟩
          have rv : wr.heap[g]? = some (.cells (cel (sIndexed vv)) 46) := by
            rw [← ev]
            exact rn.trans (congrArg (fun c => some (Obj.cells c 46)) (by kernel_rfl))
          have z3 := Z3.out
          have e0 := EG.out
          have e2 := HB1.out.size
          have rr : wr.heap[y]? = some (.cells (cel (sIndexed oIndexed)) 46) := ((KW.out.trans hkp).block y (by omega) (by omega)).trans ((HB1.out.block y (by omega)).trans R1.out)
          have sv := svIndexed_run rr vv
          have lv := lvIndexed_mid (x := vv) rv 0 (take_all _) rfl
          have RR := hid rr
          have EV := hid ev
          have HKP := hid hkp
          clear rr rv ev z3 e0 e2 rn hkp
          go_wp2
          refine retIndexed _ _ y vv 46 _ rfl rfl rfl rfl (setRow_at RR.out) ⟨a, c, ?_, ?_, ?_, ?_⟩
          · rw [← EV.out]
            rfl
          · have h1 := HKP.out.size
            have h2 := HG2.out
            have h3 := EG.out
            exact HNX.out _ (by simpa using h1) (fun b hb1 hb2 => (setRow_other _ y b _ (by omega)).trans (HKP.out.block b hb2 (by omega)))
          · intro b off e
            have h1 := HFA.out b off e
            have h2 := EY.out
            have h3 := HB3.out.size
            have h4 := HB1.out.size
            have h5 := HB2.out.size
            omega
          have e0 := EY.out
          have e1 := HB3.out.size
          have e2 := HB1.out.size
          have e3 := EG.out
          have z3 := Z3.out
          exact below_row (HB3.out.trans ((HB1.out.mono (by omega)).trans ((KW.out.trans HKP.out).below (by omega) (by omega)))) (by omega) _

end Go.Proofs.YtokbhcgooboocaaGreatDoor

namespace Go.Proofs.YtokbhcgooboocaaGreatDoor
open Go.RowKit
set_option linter.unusedVariables false
set_option linter.unusedSimpArgs false
set_option maxRecDepth 20000

/-- The bytes of what was read are the bytes. -/
theorem off_bytes {m : Nat → Int} (hm : ∀ j, 0 ≤ m j ∧ m j < 256) (h : oN m = 228) : m 0 = 228 ∧ m 1 = 0 ∧ m 2 = 0 ∧ m 3 = 0 := by
  have h0 := hm 0
  have h1 := hm 1
  have h2 := hm 2
  have h3 := hm 3
  have h4 : (Z.o4 m 0).toNat = 228 := h
  have h5 : Z.o4 m 0 = m 0 + m (0 + 1) * 256 + m (0 + 2) * 65536 + m (0 + 3) * 16777216 := rfl
  simp only [Nat.zero_add] at h5
  omega
theorem bytes_off {m : Nat → Int} (h0 : m 0 = 228) (h1 : m 1 = 0) (h2 : m 2 = 0) (h3 : m 3 = 0) : oN m = 228 := by
  have h5 : Z.o4 m 0 = m 0 + m (0 + 1) * 256 + m (0 + 2) * 65536 + m (0 + 3) * 16777216 := rfl
  simp only [Nat.zero_add, h0, h1, h2, h3] at h5
  show (Z.o4 m 0).toNat = 228
  omega
theorem nB_rN (f : Nat → Int) (hf : ∀ j, 0 ≤ f j ∧ f j < 256) (q : Nat) : nB (rN f) q = f q := by
  unfold nB rN
  rw [nm_rd _ (fun j _ => hf _) _ (Nat.mod_lt _ (by omega))]
  exact congrArg f (by omega)
theorem ct7_cons (p : Nat × (Nat → Int)) (r : List (Nat × (Nat → Int))) (q : Nat) : ct7 (p :: r) q = if q < p.1 then p.2 q else ct7 r (q - p.1) := rfl
theorem frs_none (B : Nat) : Frs B none := fun b off e => by cases e
theorem frs_some {B g : Nat} (h : B ≤ g) : Frs B (some ⟨g, 0, none⟩) := fun b off e => by
  cases e
  exact h
/-- The value that bytes are. -/
def pIndexed (m : Nat → Int) (n : Nat) (a : Option Addr) (c : Nat) : VIndexed := ⟨a, n, c, rN (fun q => m (228 + q)), pData (fun q => m (4 + q)), fun q => m (132 + q)⟩
theorem okpIndexed (m : Nat → Int) (hm : ∀ j, 0 ≤ m j ∧ m j < 256) (n : Nat) (a : Option Addr) (c : Nat) : OkIndexed (pIndexed m n a c) :=
  ⟨fun j hj => rN_bd (m := fun q => m (228 + q)) (n := n) (fun j _ => hm (228 + j)) j hj, okpData (fun q => m (4 + q)) (fun j => hm (4 + j)), fun j _ => hm (132 + j)⟩
theorem epIndexed (m : Nat → Int) (hm : ∀ j, 0 ≤ m j ∧ m j < 256) (h : oN m = 228) (n : Nat) (a : Option Addr) (c : Nat) (q : Nat) (hq : q < 228 + 8 * n) : ct7 (eIndexed (pIndexed m n a c)) q = m q := by
  obtain ⟨o0, o1, o2, o3⟩ := off_bytes hm h
  unfold eIndexed pIndexed
  rw [ct7_cons]
  dsimp only
  by_cases h0 : q < 4
  · rw [if_pos h0]
    rcases (by omega : q = 0 ∨ q = 1 ∨ q = 2 ∨ q = 3) with rfl | rfl | rfl | rfl
    · exact o0.symm
    · exact o1.symm
    · exact o2.symm
    · exact o3.symm
  rw [if_neg h0, ct7_cons]
  dsimp only
  by_cases h1 : q - 4 < 128
  · rw [if_pos h1, epData _ (fun j => hm _) _ h1]
    exact congrArg m (by omega)
  rw [if_neg h1, ct7_cons]
  dsimp only
  by_cases h2 : q - 4 - 128 < 96
  · rw [if_pos h2]
    exact congrArg m (by omega)
  rw [if_neg h2, ct7_cons]
  dsimp only
  rw [if_pos (by omega), nB_rN _ (fun j => hm _)]
  exact congrArg m (by omega)
theorem okoIndexed : OkIndexed oIndexed := ⟨fun _ _ => z64, okoData, fun _ _ => z256⟩
/-- A value with its numbers elsewhere. -/
def ati (v : VIndexed) (a : Option Addr) (c : Nat) : VIndexed := ⟨a, v.n, c, v.zs, v.f1, v.f2⟩
/-- Both Reads, of any bytes. -/
theorem rdV (m : Nat → Int) (hm : ∀ j, 0 ≤ m j ∧ m j < 256) (len : Nat) (hlen : len ≤ 140737488351232) : ∃ (v : VIndexed) (E : Int), OkIndexed v ∧ v.n ≤ 64 ∧ (E = 0 → len = 228 + 8 * v.n ∧ ∀ q, q < len → ct7 (eIndexed v) q = m q) ∧ (∀ n, n ≤ 64 → len = 228 + 8 * n → oN m = 228 → E = 0) ∧
    (∀ W a c, Bys W a len c m → len ≤ c → c ≤ 9223372036854775807 → Calls Tryz.prog 19 #[.slice a len c] W fun e w' => ∃ a' c', e = .returned (.tuple #[.agg (cel (sIndexed (ati v a' c'))), .int .i64 E]) ∧ Z.Nms .u64 w' a' v.n v.zs ∧ Frs W.heap.size a' ∧ Below W.heap.size W w') ∧
    (∀ W a c, Bys W a len c m → len ≤ c → (0 < len → c ≤ 9223372036854775807) → Calls Tryz.prog 47 #[.slice a len c] W fun e w' => ∃ a' c', e = .returned (.tuple #[.agg (cel (sIndexed (ati v a' c'))), .int .i64 E]) ∧ Z.Nms .u64 w' a' v.n v.zs ∧ Frs W.heap.size a' ∧ Below W.heap.size W w') := by
  by_cases hc : cI m len = 0
  · have hcc : 228 ≤ len ∧ oN m = 228 := by
      unfold cI at hc
      by_cases h1 : len < 228
      · rw [if_pos h1] at hc
        exact absurd hc (by decide)
      · rw [if_neg h1] at hc
        by_cases h2 : oN m = 228
        · exact ⟨by omega, h2⟩
        · rw [if_neg h2] at hc
          exact absurd hc (by decide)
    obtain ⟨h228, ho⟩ := hcc
    by_cases h8 : (len - 228) % 8 = 0
    · obtain ⟨n, en⟩ : ∃ n, n = (len - 228) / 8 := ⟨_, rfl⟩
      have hl : len = 228 + 8 * n := by omega
      by_cases h64 : n ≤ 64
      · subst hl
        refine ⟨pIndexed m n none 0, 0, okpIndexed m hm n _ _, h64, fun _ => ⟨rfl, fun q hq => epIndexed m hm ho n _ _ q hq⟩, fun _ _ _ _ => rfl, fun W a c hb h1 h2 => ?_, fun W a c hb h1 h2 => ?_⟩
        · refine (readIndexed_ok m a (228 + 8 * n) c W hb hm h1 h2 hlen (by omega) ho n (by omega) h64).mono ?_
          rintro e w' ⟨g, rfl, hg, hr, hbw⟩
          exact ⟨some ⟨g, 0, none⟩, n, rfl, .inr ⟨g, 0, rfl, (Array.getElem?_eq_some_iff.1 hr).1, fun j hj => by rw [Nat.zero_add]; exact row_int hr j hj⟩, frs_some hg, hbw⟩
        · refine (rreadIndexed_ok m a (228 + 8 * n) c W hb hm h1 (h2 (by omega)) hlen (by omega) ho n (by omega) h64).mono ?_
          rintro e w' ⟨a', c', rfl, hr, hf, hbw⟩
          exact ⟨a', c', rfl, hr, hf, hbw⟩
      · refine ⟨oIndexed, 6, okoIndexed, by show 0 ≤ 64; omega, fun h => absurd h (by decide), fun k h1 h2 _ => by omega, fun W a c hb h1 h2 => ?_, fun W a c hb h1 h2 => ?_⟩
        · refine (readIndexed_bad m a len c W hb hm h1 h2 hlen h228 ho 6 (by decide) (fun X A => rn_long A (len - 228) (len - 228) n X (by omega) (by omega) (by omega))).mono ?_
          rintro e w' ⟨rfl, hbw⟩
          exact ⟨none, 0, rfl, .inl rfl, frs_none _, hbw⟩
        · refine (rreadIndexed_bad m a len c W hb hm h1 (h2 (by omega)) hlen h228 ho 6 (by decide) (fun X A C => (Z.reach_long (fun _ => 0) (fun _ _ => 0) A (len - 228) C 8 64 X (by omega) (by decide) (by decide) n (by omega) (by decide) (by omega) (by omega)).mono ?_)).mono ?_
          · rintro e w' ⟨a', c', _, _, rfl, _, hbw⟩
            exact ⟨a', c', rfl, hbw⟩
          · rintro e w' ⟨rfl, hbw⟩
            exact ⟨none, 0, rfl, .inl rfl, frs_none _, hbw⟩
    · refine ⟨oIndexed, 4, okoIndexed, by show 0 ≤ 64; omega, fun h => absurd h (by decide), fun k h1 h2 _ => by omega, fun W a c hb h1 h2 => ?_, fun W a c hb h1 h2 => ?_⟩
      · refine (readIndexed_bad m a len c W hb hm h1 h2 hlen h228 ho 4 (by decide) (fun X A => rn_size A (len - 228) (len - 228) X (by omega) h8)).mono ?_
        rintro e w' ⟨rfl, hbw⟩
        exact ⟨none, 0, rfl, .inl rfl, frs_none _, hbw⟩
      · refine (rreadIndexed_bad m a len c W hb hm h1 (h2 (by omega)) hlen h228 ho 4 (by decide) (fun X A C => (Z.reach_size (fun _ => 0) (fun _ _ => 0) A (len - 228) C 8 64 X (by omega) (by decide) (by decide) (by omega) (by decide)).mono ?_)).mono ?_
        · rintro e w' ⟨a', c', _, _, rfl, _, hbw⟩
          exact ⟨a', c', rfl, hbw⟩
        · rintro e w' ⟨rfl, hbw⟩
          exact ⟨none, 0, rfl, .inl rfl, frs_none _, hbw⟩
  · refine ⟨oIndexed, cI m len, okoIndexed, by show 0 ≤ 64; omega, fun h => absurd h hc, fun k h1 h2 h3 => by
      exfalso
      apply hc
      unfold cI
      rw [if_neg (by omega), if_pos h3], fun W a c hb h1 h2 => ?_, fun W a c hb h1 h2 => ?_⟩
    · refine (readIndexed_no m a len c W hb hm h1 h2 hlen hc).mono ?_
      rintro e w' ⟨rfl, hbw⟩
      exact ⟨none, 0, rfl, .inl rfl, frs_none _, hbw⟩
    · refine (rreadIndexed_no m a len c W hb hm h1 h2 hlen hc).mono ?_
      rintro e w' ⟨rfl, hbw⟩
      exact ⟨none, 0, rfl, .inl rfl, frs_none _, hbw⟩

end Go.Proofs.YtokbhcgooboocaaGreatDoor
