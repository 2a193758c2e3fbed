/-
  Cut by the sizes of an Indexed's fields; the value that bytes are.
-/
import Derived.Test.YtokbhcgooboocaaGreatDoorOpCp
namespace Go.Proofs.YtokbhcgooboocaaGreatDoor
open Go.RowKit
set_option linter.unusedVariables false
set_option linter.unusedSimpArgs false
set_option maxRecDepth 20000

/-- The offset that bytes tell; what Cut answers. -/
def oN (m : Nat → Int) : Nat := (Z.o4 m 0).toNat
def cI (m : Nat → Int) (len : Nat) : Int := if len < 228 then 4 else if oN m = 228 then 0 else 5
theorem cutI (m : Nat → Int) (len : Nat) : Z.cutE zI m 3 len = cI m len := by
  have h1 : Z.hdL zI 3 = 228 := rfl
  have h2 : Z.zn zI 3 = 1 := rfl
  have h3 : Z.offN zI m 3 0 = oN m := rfl
  have h4 : Z.szB zI 3 = true := by decide
  unfold Z.cutE cI
  rw [h1, h2, h3, h4, if_neg (by decide : ¬ true = false)]
  by_cases a : len < 228
  · rw [if_pos a, if_pos a]
  · rw [if_neg a, if_neg a, if_neg (by omega : ¬ ((1 : Nat) = 0 ∧ 228 < len))]
    by_cases b : oN m = 228
    · rw [if_neg (fun h => h.2 b), if_pos b]
      have ho : Z.ordB (fun i => (Z.offN zI m 3 i : Int)) (len : Int) 1 = true := Z.ordB_true fun i hi => by
        obtain rfl : i = 0 := by omega
        unfold Z.ordAt
        rw [if_pos rfl]
        dsimp only
        rw [h3, b]
        omega
      rw [ho, if_neg (by decide : ¬ true = false)]
    · rw [if_pos ⟨by omega, b⟩, if_neg b]
theorem lnI0 (m : Nat → Int) (len : Nat) : Z.cLn zI m 3 len 0 = len - oN m := rfl
theorem lnI1 (m : Nat → Int) (len : Nat) : Z.cLn zI m 3 len 1 = 128 := rfl
theorem lnI2 (m : Nat → Int) (len : Nat) : Z.cLn zI m 3 len 2 = 96 := rfl
theorem fnI0 (m : Nat → Int) : Z.cFn zI m 3 0 = fun q => m (oN m + q) := rfl
theorem fnI1 (m : Nat → Int) : Z.cFn zI m 3 1 = fun q => m (4 + q) := rfl
theorem fnI2 (m : Nat → Int) : Z.cFn zI m 3 2 = fun q => m (132 + q) := rfl

theorem nmsI {w : World} {sa : Nat} (g2 : w.heap[sa]? = some (.cells (vs .i64 3 zI) 3)) : Z.Nms .i64 w (some ⟨sa, 0, none⟩) 3 zI :=
  .inr ⟨sa, 0, rfl, (Array.getElem?_eq_some_iff.1 g2).1, fun j hj => by rw [Nat.zero_add]; exact row_int g2 j hj⟩

theorem cutI_no (m : Nat → Int) (ao : Option Addr) (len cap sa : Nat) (w : World) (hb : Bys w ao len cap m) (hm : ∀ j, 0 ≤ m j ∧ m j < 256) (hlen : len ≤ 140737488351232) (hlc : len ≤ cap) (hcap : cap ≤ 9223372036854775807) (g2 : w.heap[sa]? = some (.cells (vs .i64 3 zI) 3)) (h : cI m len ≠ 0) :
    Calls Tryz.prog 37 #[.slice ao len cap, .slice (some ⟨sa, 0, none⟩) 3 3] w fun e w' => ∃ a1, e = .returned (.tuple #[.slice a1 0 0, .int .i64 (cI m len)]) ∧ Below w.heap.size w w' := by
  have hc := Z.cut_any zI m ao len cap (some ⟨sa, 0, none⟩) 3 3 w hb hm hlen hlc hcap (nmsI g2) (by omega)
  rw [cutI] at hc
  refine hc.mono ?_
  rintro e w' ⟨a', N', A', rfl, hN, _, hbw⟩
  rw [if_neg h] at hN
  subst hN
  exact ⟨a', rfl, hbw⟩

/-- Three parts, where they lie, what they hold. -/
def CutsI (m : Nat → Int) (len : Nat) (w : World) (gp o : Nat) : Prop :=
  (∃ A, w.cell? ⟨gp, o, none⟩ = some (.slice A (len - 228) (len - 228)) ∧ Bys w A (len - 228) (len - 228) (fun q => m (228 + q))) ∧
  (∃ A, w.cell? ⟨gp, o + 1, none⟩ = some (.slice A 128 128) ∧ Bys w A 128 128 (fun q => m (4 + q))) ∧
  (∃ A, w.cell? ⟨gp, o + 2, none⟩ = some (.slice A 96 96) ∧ Bys w A 96 96 (fun q => m (132 + q)))

theorem cutI_ok (m : Nat → Int) (ao : Option Addr) (len cap sa : Nat) (w : World) (hb : Bys w ao len cap m) (hm : ∀ j, 0 ≤ m j ∧ m j < 256) (hlen : len ≤ 140737488351232) (hlc : len ≤ cap) (hcap : cap ≤ 9223372036854775807) (g2 : w.heap[sa]? = some (.cells (vs .i64 3 zI) 3)) (h1 : 228 ≤ len) (h2 : oN m = 228) :
    Calls Tryz.prog 37 #[.slice ao len cap, .slice (some ⟨sa, 0, none⟩) 3 3] w fun e w' => ∃ gp o, e = .returned (.tuple #[.slice (some ⟨gp, o, none⟩) 3 3, .int .i64 0]) ∧ gp < w'.heap.size ∧ CutsI m len w' gp o ∧ Below w.heap.size w w' := by
  have hc := Z.cut_any zI m ao len cap (some ⟨sa, 0, none⟩) 3 3 w hb hm hlen hlc hcap (nmsI g2) (by omega)
  have e0 : cI m len = 0 := by unfold cI; rw [if_neg (by omega), if_pos h2]
  rw [cutI, e0] at hc
  refine hc.mono ?_
  rintro e w' ⟨a', N', A', rfl, hN, hp, hbw⟩
  rw [if_pos rfl] at hN
  subst hN
  obtain ⟨b0, o0, ea, hb0, c0, y0⟩ := Z.parts_at hp 0 (by omega)
  obtain ⟨b1, o1, ea1, _, c1, y1⟩ := Z.parts_at hp 1 (by omega)
  obtain ⟨b2, o2, ea2, _, c2, y2⟩ := Z.parts_at hp 2 (by omega)
  subst ea
  cases ea1
  cases ea2
  rw [lnI0, h2, Nat.add_zero] at c0
  rw [lnI0, fnI0, h2] at y0
  rw [lnI1] at c1
  rw [lnI1, fnI1] at y1
  rw [lnI2] at c2
  rw [lnI2, fnI2] at y2
  exact ⟨b0, o0, rfl, hb0, ⟨⟨_, c0, y0⟩, ⟨_, c1, y1⟩, ⟨_, c2, y2⟩⟩, hbw⟩

/-- The value of nothing but zeros. -/
def oIndexed : VIndexed := ⟨none, 0, 0, fun _ => 0, oData, fun _ => 0⟩
def svIndexed (a : Addr) (v : Value) : Sem Unit := storeVar 46 a v
theorem svIndexed_eq (a : Addr) (v : Value) : storeVar 46 a v = svIndexed a v := rfl
def bdIndexed (ps : Array (Nat × Value)) : Sem Value := Instr.build 46 ps
theorem bdIndexed_eq (ps : Array (Nat × Value)) : Instr.build 46 ps = bdIndexed ps := rfl
theorem bdIndexed_0 (W : World) : (bdIndexed #[]).run Tryz.prog W = .ok (.agg (cel (sIndexed oIndexed))) W := by kernel_rfl
theorem zeroIndexed (W : World) : (zeroValue 46).run Tryz.prog W = .ok (.agg (cel (sIndexed oIndexed))) W := by kernel_rfl
theorem slIndexed (x : VIndexed) : slen (sIndexed x) = 197 := rfl
theorem svIndexed_run {w : World} {b : Nat} {o : VIndexed} {t : TypeId} (h : w.heap[b]? = some (.cells (cel (sIndexed o)) t)) (c : VIndexed) : (svIndexed ⟨b, 0, none⟩ (.agg (cel (sIndexed c)))).run Tryz.prog w = .ok () (w.setRow b (cel (sIndexed c))) :=
  run_storeVar_row w b t 46 _ _ h (by rw [cel_size, slIndexed]; kernel_rfl) (by rw [cel_size, cel_size, slIndexed, slIndexed]) (cel_one _)
theorem svIndexed_newv (W : World) (o c : VIndexed) : (svIndexed ⟨W.heap.size, 0, none⟩ (.agg (cel (sIndexed c)))).run Tryz.prog (W.alloc (.cells (cel (sIndexed o)) 46)) = .ok () (W.alloc (.cells (cel (sIndexed c)) 46)) :=
  run_storeVar_new W 46 _ _ (by rw [cel_size, slIndexed]; kernel_rfl) (by rw [cel_size, cel_size, slIndexed, slIndexed]) (cel_one _)
theorem retIndexed {fn : Func} {R : Ending → World → Prop} {a : Act} {w' : World} (t s : Tmp) (b : Nat) (c : VIndexed) (ty : TypeId) (v : Value) (h : fn.results = #[.cell t 46, .tmp s]) (hd : a.defers = []) (ht : a.tmps.getD t undef = .pointer (some ⟨b, 0, none⟩)) (hs : a.tmps.getD s undef = v) (hr : w'.heap[b]? = some (.cells (cel (sIndexed c)) ty))
    (hR : R (.returned (.tuple #[.agg (cel (sIndexed c)), v])) w') : bodyPost Tryz.prog fn R .ret a w' := by
  refine bodyPost_ret ?_ hd hR
  have hl := loadAt_var (load_row (P := Tryz.prog) hr 46 _ Tryz.underlying46 rfl (by rw [cel_size, slIndexed]; kernel_rfl))
  rw [Array.getD_eq_getD_getElem?] at ht hs
  simp [results, h, ht, hs, hl, asAddr]
theorem bdIndexed_1 (W : World) (a : Option Addr) (n c : Nat) (zs : Nat → Int) : (bdIndexed #[(0, .slice a n c)]).run Tryz.prog W = .ok (.agg (cel (sIndexed ⟨a, n, c, zs, oData, fun _ => 0⟩))) W := by kernel_rfl
def lvIndexed (a : Addr) : Sem Value := loadVar 46 a
theorem lvIndexed_eq (a : Addr) : loadVar 46 a = lvIndexed a := rfl
theorem lvIndexed_mid {w : World} {g : Nat} {C : Array Value} {t : TypeId} {x : VIndexed} (h : w.heap[g]? = some (.cells C t)) (o : Nat) (hl : (C.toList.drop o).take (celL (sIndexed x)).length = celL (sIndexed x)) (hs : slen (sIndexed x) = 197) : (lvIndexed ⟨g, o, none⟩).run Tryz.prog w = .ok (.agg (cel (sIndexed x))) w :=
  loadAt_var (run_loadAt_mid w g o 46 _ _ (sub_range h hl) Tryz.underlying46 rfl (by rw [celL_len, hs]; kernel_rfl))

end Go.Proofs.YtokbhcgooboocaaGreatDoor
