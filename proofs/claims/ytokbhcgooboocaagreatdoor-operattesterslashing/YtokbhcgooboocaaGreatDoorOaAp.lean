/-
  AttesterSlashing: its values, parts laid.
-/
import Derived.Test.YtokbhcgooboocaaGreatDoorOiBp
import Derived.Test.YtokbhcgooboocaaGreatDoorOpFp
namespace Go.Proofs.YtokbhcgooboocaaGreatDoor
open Go.RowKit
set_option linter.unusedVariables false
set_option linter.unusedSimpArgs false
set_option maxRecDepth 20000

/-- An AttesterSlashing. -/
structure VAttesterSlashing where
  f0 : VIndexed
  f1 : VIndexed
def sAttesterSlashing (x : VAttesterSlashing) : List Seg := sIndexed x.f0 ++ sIndexed x.f1
def OkAttesterSlashing (x : VAttesterSlashing) : Prop := OkIndexed x.f0 ∧ OkIndexed x.f1
def lnX (v : VIndexed) : Nat := 228 + 8 * v.n
def b4 (n : Nat) (q : Nat) : Int := Z.bt n q
def eAttesterSlashing (x : VAttesterSlashing) : List (Nat × (Nat → Int)) := [(4, b4 8), (4, b4 (8 + lnX x.f0)), (lnX x.f0, ct7 (eIndexed x.f0)), (lnX x.f1, ct7 (eIndexed x.f1))]
def oAttesterSlashing : VAttesterSlashing := ⟨oIndexed, oIndexed⟩
def svAttesterSlashing (a : Addr) (v : Value) : Sem Unit := storeVar 48 a v
theorem svAttesterSlashing_eq (a : Addr) (v : Value) : storeVar 48 a v = svAttesterSlashing a v := rfl
def bdAttesterSlashing (ps : Array (Nat × Value)) : Sem Value := Instr.build 48 ps
theorem bdAttesterSlashing_eq (ps : Array (Nat × Value)) : Instr.build 48 ps = bdAttesterSlashing ps := rfl
theorem bdAttesterSlashing_0 (W : World) : (bdAttesterSlashing #[]).run Tryz.prog W = .ok (.agg (cel (sAttesterSlashing oAttesterSlashing))) W := by kernel_rfl
theorem bdAttesterSlashing_2 (W : World) (u v : VIndexed) : (bdAttesterSlashing #[(0, .agg (cel (sIndexed u))), (1, .agg (cel (sIndexed v)))]).run Tryz.prog W = .ok (.agg (cel (sAttesterSlashing ⟨u, v⟩))) W := by kernel_rfl
theorem zeroAttesterSlashing (W : World) : (zeroValue 48).run Tryz.prog W = .ok (.agg (cel (sAttesterSlashing oAttesterSlashing))) W := by kernel_rfl
theorem slAttesterSlashing (x : VAttesterSlashing) : slen (sAttesterSlashing x) = 394 := by kernel_rfl
theorem svAttesterSlashing_run {w : World} {b : Nat} {o : VAttesterSlashing} {t : TypeId} (h : w.heap[b]? = some (.cells (cel (sAttesterSlashing o)) t)) (c : VAttesterSlashing) : (svAttesterSlashing ⟨b, 0, none⟩ (.agg (cel (sAttesterSlashing c)))).run Tryz.prog w = .ok () (w.setRow b (cel (sAttesterSlashing c))) :=
  run_storeVar_row w b t 48 _ _ h (by rw [cel_size, slAttesterSlashing]; kernel_rfl) (by rw [cel_size, cel_size, slAttesterSlashing, slAttesterSlashing]) (cel_one _)
theorem svAttesterSlashing_newv (W : World) (o c : VAttesterSlashing) : (svAttesterSlashing ⟨W.heap.size, 0, none⟩ (.agg (cel (sAttesterSlashing c)))).run Tryz.prog (W.alloc (.cells (cel (sAttesterSlashing o)) 48)) = .ok () (W.alloc (.cells (cel (sAttesterSlashing c)) 48)) :=
  run_storeVar_new W 48 _ _ (by rw [cel_size, slAttesterSlashing]; kernel_rfl) (by rw [cel_size, cel_size, slAttesterSlashing, slAttesterSlashing]) (cel_one _)
theorem retAttesterSlashing {fn : Func} {R : Ending → World → Prop} {a : Act} {w' : World} (t s : Tmp) (b : Nat) (c : VAttesterSlashing) (ty : TypeId) (v : Value) (h : fn.results = #[.cell t 48, .tmp s]) (hd : a.defers = []) (ht : a.tmps.getD t undef = .pointer (some ⟨b, 0, none⟩)) (hs : a.tmps.getD s undef = v) (hr : w'.heap[b]? = some (.cells (cel (sAttesterSlashing c)) ty))
    (hR : R (.returned (.tuple #[.agg (cel (sAttesterSlashing c)), v])) w') : bodyPost Tryz.prog fn R .ret a w' := by
  refine bodyPost_ret ?_ hd hR
  have hl := loadAt_var (load_row (P := Tryz.prog) hr 48 _ Tryz.underlying48 rfl (by rw [cel_size, slAttesterSlashing]; kernel_rfl))
  rw [Array.getD_eq_getD_getElem?] at ht hs
  simp [results, h, ht, hs, hl, asAddr]
def lvAttesterSlashing (a : Addr) : Sem Value := loadVar 48 a
theorem lvAttesterSlashing_eq (a : Addr) : loadVar 48 a = lvAttesterSlashing a := rfl
theorem lvAttesterSlashing_mid {w : World} {g : Nat} {C : Array Value} {t : TypeId} {x : VAttesterSlashing} (h : w.heap[g]? = some (.cells C t)) (o : Nat) (hl : (C.toList.drop o).take (celL (sAttesterSlashing x)).length = celL (sAttesterSlashing x)) (hs : slen (sAttesterSlashing x) = 394) : (lvAttesterSlashing ⟨g, o, none⟩).run Tryz.prog w = .ok (.agg (cel (sAttesterSlashing x))) w :=
  loadAt_var (run_loadAt_mid w g o 48 _ _ (sub_range h hl) Tryz.underlying48 rfl (by rw [celL_len, hs]; kernel_rfl))
theorem svIndexed_mid {w : World} {b : Nat} {C : Array Value} {t : TypeId} (h : w.heap[b]? = some (.cells C t)) (o : Nat) (c : VIndexed) (hn : o + 197 ≤ C.size) :
    (svIndexed ⟨b, o, none⟩ (.agg (cel (sIndexed c)))).run Tryz.prog w = .ok () (w.setCells b o (celL (sIndexed c))) := by
  have h1 := run_storeVar_mid (P := Tryz.prog) w b o 46 (cel (sIndexed c)) (by rw [cel_size, slIndexed]; exact there_row h o 197 hn) (by rw [cel_size, slIndexed]; kernel_rfl) (cel_one _)
  exact h1
def zA (r : Nat) : Int := [0, 0].getD r 0

theorem aasz_any (w : World) :
    Calls Tryz.prog 43 #[] w fun e w' => e = .returned (.slice (some ⟨w.heap.size, 0, none⟩) 2 2) ∧ w' = w.alloc (.cells (vs .i64 2 zA) 3) := by
  go_enter Tryz.func43, Tryz.ntmps43
  go_wp2
  go_ret
  exact ⟨rfl, rfl⟩

theorem bsI_zA (W : World) : (bsI 2 #[(0, .int .i64 0), (1, .int .i64 0)]).run Tryz.prog W = .ok (.slice (some ⟨W.heap.size, 0, none⟩) 2 2) (W.alloc (.cells (vs .i64 2 zA) 3)) := by kernel_rfl
theorem layA (p0 p1 : Pt) :
    Z.hdL zA 2 + Z.loL zA (fun r => ([p0, p1].getD r nilP).2.1) 2 = 8 + p0.2.1 + p1.2.1 ∧ Z.layC zA (fun r => ([p0, p1].getD r nilP).2.2.2) (fun r => ([p0, p1].getD r nilP).2.1) 2 = cl7 [(4, b4 8), (4, b4 (8 + p0.2.1)), (p0.2.1, p0.2.2.2), (p1.2.1, p1.2.2.2)] := by
  constructor
  · show 8 + (0 + p0.2.1 + p1.2.1) = 8 + p0.2.1 + p1.2.1
    omega
  · show (([] ++ Z.fourL (8 + 0)) ++ Z.fourL (8 + (0 + p0.2.1))) ++ (([] ++ (List.range p0.2.1).map p0.2.2.2) ++ (List.range p1.2.1).map p1.2.2.2) = (List.range 4).map (b4 8) ++ ((List.range 4).map (b4 (8 + p0.2.1)) ++ ((List.range p0.2.1).map p0.2.2.2 ++ ((List.range p1.2.1).map p1.2.2.2 ++ [])))
    rw [Nat.zero_add, show Z.fourL (8 + 0) = (List.range 4).map (b4 8) from rfl, show Z.fourL (8 + p0.2.1) = (List.range 4).map (b4 (8 + p0.2.1)) from rfl]
    simp only [List.nil_append, List.append_nil, List.append_assoc]
theorem olayA (p0 p1 : Pt) (g sa : Nat) (w : World) (h0 : p0.2.1 ≤ 65536) (h1 : p1.2.1 ≤ 65536) (hg : w.heap[g]? = some (.cells ([p0, p1].map ptv).toArray 34)) (hs : w.heap[sa]? = some (.cells (vs .i64 2 zA) 3)) (b0 : Bys w p0.1 p0.2.1 p0.2.2.1 p0.2.2.2) (b1 : Bys w p1.1 p1.2.1 p1.2.2.1 p1.2.2.2) :
    Calls Tryz.prog 20 #[.slice (some ⟨g, 0, none⟩) 2 2, .slice (some ⟨sa, 0, none⟩) 2 2] w fun e w' => ∃ v, e = .returned (.tuple #[v, .int .i64 0]) ∧ w'.ownsRow w.heap.size 5 1 v (8 + p0.2.1 + p1.2.1) (bl (ct7 [(4, b4 8), (4, b4 (8 + p0.2.1)), (p0.2.1, p0.2.2.2), (p1.2.1, p1.2.2.2)]) (8 + p0.2.1 + p1.2.1)) ∧ Below w.heap.size w w' := by
  obtain ⟨e1, e2⟩ := layA p0 p1
  have c2 : ∀ (P : Nat → Prop), P 0 → P 1 → ∀ r, r < 2 → P r := fun P q0 q1 r hr => by
    rcases (by omega : r = 0 ∨ r = 1) with rfl | rfl
    · exact q0
    · exact q1
  have h := olay [p0, p1] zA 2 g sa w rfl (by decide) hg hs (c2 _ b0 b1) (c2 _ h0 h1) (c2 _ (fun h => absurd rfl h) (fun h => absurd rfl h)) (by rw [e1]; omega)
  rw [e1, e2, ← bl_ct7] at h
  have e3 : ln7 [(4, b4 8), (4, b4 (8 + p0.2.1)), (p0.2.1, p0.2.2.2), (p1.2.1, p1.2.2.2)] = 8 + p0.2.1 + p1.2.1 := by
    show 4 + (4 + (p0.2.1 + (p1.2.1 + 0))) = _
    omega
  rw [e3] at h
  exact h
theorem rolayA (p0 p1 : Pt) (g sa : Nat) (w : World) (h0 : p0.2.1 ≤ 65536) (h1 : p1.2.1 ≤ 65536) (hg : w.heap[g]? = some (.cells ([p0, p1].map ptv).toArray 34)) (hs : w.heap[sa]? = some (.cells (vs .i64 2 zA) 3)) (b0 : Bys w p0.1 p0.2.1 p0.2.2.1 p0.2.2.2) (b1 : Bys w p1.1 p1.2.1 p1.2.2.1 p1.2.2.2) :
    Calls Tryz.prog 31 #[.slice (some ⟨g, 0, none⟩) 2 2, .slice (some ⟨sa, 0, none⟩) 2 2] w fun e w' => ∃ v, e = .returned (.tuple #[v, .int .i64 0]) ∧ w'.ownsRow w.heap.size 5 1 v (8 + p0.2.1 + p1.2.1) (bl (ct7 [(4, b4 8), (4, b4 (8 + p0.2.1)), (p0.2.1, p0.2.2.2), (p1.2.1, p1.2.2.2)]) (8 + p0.2.1 + p1.2.1)) ∧ Below w.heap.size w w' := by
  obtain ⟨e1, e2⟩ := layA p0 p1
  have c2 : ∀ (P : Nat → Prop), P 0 → P 1 → ∀ r, r < 2 → P r := fun P q0 q1 r hr => by
    rcases (by omega : r = 0 ∨ r = 1) with rfl | rfl
    · exact q0
    · exact q1
  have h := rolay [p0, p1] zA 2 g sa w rfl (by decide) hg hs (c2 _ b0 b1) (c2 _ h0 h1) (c2 _ (fun h => absurd rfl h) (fun h => absurd rfl h)) (by rw [e1]; omega)
  rw [e1, e2, ← bl_ct7] at h
  have e3 : ln7 [(4, b4 8), (4, b4 (8 + p0.2.1)), (p0.2.1, p0.2.2.2), (p1.2.1, p1.2.2.2)] = 8 + p0.2.1 + p1.2.1 := by
    show 4 + (4 + (p0.2.1 + (p1.2.1 + 0))) = _
    omega
  rw [e3] at h
  exact h

end Go.Proofs.YtokbhcgooboocaaGreatDoor
