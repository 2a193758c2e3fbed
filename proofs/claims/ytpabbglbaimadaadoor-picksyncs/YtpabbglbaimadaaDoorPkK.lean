/-
  Keys copied by append; PickSums.
-/

import Derived.Test.YtpabbglbaimadaaDoorPkE
import Derived.Test.YtpabbglbaimadaaDoorPkI
namespace Go.Proofs.YtpabbglbaimadaaDoor

open Go.RowKit

set_option linter.unusedVariables false

set_option linter.unusedSimpArgs false

set_option maxRecDepth 20000

theorem infoKy : ∃ i, Tryd.prog.info? 44 = some i ∧ i.zero = some (.agg (vs .u8 48 fun _ => 0)) ∧ i.size = 48 ∧ i.bytes = 48 := by
  have h : (Tryd.prog.info? 44).map (fun i => (i.zero, i.size, i.bytes)) = some (some (.agg (vs .u8 48 fun _ => 0)), 48, 48) := by kernel_rfl
  cases hq : Tryd.prog.info? 44 with
  | none => simp [hq] at h
  | some i => simp [hq] at h; exact ⟨i, rfl, h.1, h.2.1, h.2.2⟩

theorem wpList_append_kys (w : World) {ops : Array Oper} {rest : List Oper} {o : Oper} {a : Act} {Q : Exit → Act → World → Prop} (hgd : o.guard = none) (s x : Operand)
    (ho : o.op = .call { callee := .builtin .append, args := #[s, x], argTypes := #[63, 63] })
    (base : Nat) (v : Value) (n : Nat) (m : Nat → Int) (hs : a.eval s = v) (hown : w.ownsRow base 44 48 v n (bl m (48 * n)))
    (ao : Option Addr) (len cap : Nat) (f : Nat → Int) (hx : a.eval x = .slice ao len cap) (hb : Kys w ao len cap f) (hbd : (n + len) * 48 ≤ 140737488355328) (hbase : base ≤ w.heap.size)
    (m' : Nat → Int) (hm1 : ∀ q, q < 48 * n → m' q = m q) (hm2 : ∀ q, q < 48 * len → m' (48 * n + q) = f q)
    (h : ∀ v' w', w'.ownsRow base 44 48 v' (n + len) (bl m' (48 * (n + len))) → w.grownBy w' v.ownBlock → wpList Tryd.prog ops Q rest (a.put o.dst v') w') :
    wpList Tryd.prog ops Q (o :: rest) a w := by
  obtain ⟨i, hi, hz0, hz1, hz2⟩ := infoKy
  have hzz : (Value.agg (vs .u8 48 fun _ => 0)).cells.size = 48 := by simp [Value.cells, vs_size]
  have e : bl m (48 * n) ++ bl f (48 * len) = bl m' (48 * (n + len)) := by
    unfold bl
    rw [Nat.mul_add, List.range_add, List.map_append, List.map_map]
    congr 1
    · exact List.map_congr_left fun j hj => by rw [hm1 j (List.mem_range.1 hj)]
    · refine List.map_congr_left fun j hj => ?_
      show Value.int .u8 (f j) = Value.int .u8 (m' (48 * n + j))
      rw [hm2 j (List.mem_range.1 hj)]
  rcases hb with ⟨rfl, rfl, rfl⟩ | ⟨x0, rfl, rfl⟩ | ⟨b, off, rfl, hlc, hbl, hc⟩
  · refine wpList_append_own_none hgd s x 63 ho base 44 i 48 Tryd.underlying63 hi v n _ hs hown hx (h v w ?_ ⟨rfl, rfl, rfl, Nat.le_refl _, fun _ _ _ => rfl⟩)
    rw [← e]
    simpa [bl] using hown
  · exact wpList_append_own w hgd s x 63 ho base 44 i _ 48 48 Tryd.underlying63 hi hz0 hz1 hz2 hzz (by decide) v n _ hs hown x0 0 cap (bl f (48 * 0)) hx (by rw [bl_len])
      (fun j u hj => by
        have := (bl_get f (48 * 0) j u hj).1
        omega) (bl_one f _) (by unfold maxLen; omega) (by omega) hbase (fun v' w' h1 h2 _ => h v' w' (by rw [← e]; exact h1) h2)
  · exact wpList_append_own w hgd s x 63 ho base 44 i _ 48 48 Tryd.underlying63 hi hz0 hz1 hz2 hzz (by decide) v n _ hs hown ⟨b, off, none⟩ len cap (bl f (48 * len)) hx (by rw [bl_len]; omega)
      (fun j u hj => by
        obtain ⟨h1, rfl⟩ := bl_get f (48 * len) j u hj
        rw [addr_add]
        exact hc j h1) (bl_one f _) (by unfold maxLen; omega) (by omega) hbase (fun v' w' h1 h2 _ => h v' w' (by rw [← e]; exact h1) h2)

theorem below_grownK {B s : Nat} {w0 w w' : World} {v : Value} {n : Nat} {xs : List Value} {e : TypeId} (hb : Below B w0 w) (ho : w.ownsRow B e s v n xs) (hB : B ≤ w.heap.size) (hg : w.grownBy w' v.ownBlock) : Below B w0 w' :=
  ⟨hg.os.trans hb.os, hg.tape.trans hb.tape, hg.output.trans hb.output, Nat.le_trans hb.size hg.size, fun k hk => (hg.block k (by omega) (fun e => by have := (ho.lt k e.symm).1; omega)).trans (hb.block k hk)⟩

theorem own_kys {w : World} {B : Nat} {v : Value} {n : Nat} {f : Nat → Int} (h : w.ownsRow B 44 48 v n (bl f (48 * n))) : ∃ a cap, v = .slice a n cap ∧ Kys w a n cap f := by
  rcases h with ⟨_, ⟨rfl, rfl⟩ | ⟨g, cap, cur, rfl, h1, h2, h3, h4, h5, h6⟩⟩
  · exact ⟨none, 0, rfl, .inl ⟨rfl, rfl, rfl⟩⟩
  · have hg := (Array.getElem?_eq_some_iff.1 h2).1
    refine ⟨_, cap, rfl, .inr (.inr ⟨g, 0, rfl, h3, hg, fun q hq => ?_⟩)⟩
    have h7 : (cur.toList.take (n * 48))[q]? = (bl f (48 * n))[q]? := by rw [h6]
    have h8 : (bl f (48 * n))[q]? = some (.int .u8 (f q)) := by
      unfold bl
      rw [List.getElem?_map, List.getElem?_range hq]
      rfl
    rw [List.getElem?_take_of_lt (by omega), h8, Array.getElem?_toList] at h7
    rw [Nat.zero_add, row_cell h2]
    exact h7

/-- A key is equal to itself. -/
theorem eqK (w : World) (c : Nat → Int) (h : ∀ j, j < 48 → 0 ≤ c j ∧ c j < 256) : (Op.equalIn 10000 44 (.agg (vs .u8 48 c)) (.agg (vs .u8 48 c))).run Tryd.prog w = .ok true w := by
  obtain ⟨la, hla⟩ := lits_key 3 c h
  have hk : Tryd.prog.keyTypeAt 5 44 = true := by kernel_rfl
  have hf : (Value.agg (vs .u8 48 c)).formed Tryd.prog 44 = true := by
    simp only [Value.formed, Tryd.underlying44]
    rw [vs_size]
    kernel_rfl
  have hl : Tryd.prog.keyLits 5 44 (Value.agg (vs .u8 48 c)).cells.toList = some la := by
    show Tryd.prog.keyLits 5 44 (vs .u8 48 c).toList = some la
    rw [vs_list]
    exact hla
  obtain ⟨r, h1, h2⟩ := run_equalIn_deep (P := Tryd.prog) 9995 5 44 hk w 5 5 (.agg (vs .u8 48 c)) (.agg (vs .u8 48 c)) la la hf hf hl hl
  rw [h2.2 rfl] at h1
  exact h1

/-- What the program's Sum has to answer. -/
def PSum : Prop := ∀ (a : Option Addr) (n cap : Nat) (f : Nat → Int) (w : World), Kys w a n cap f → (∀ j, j < 48 * n → 0 ≤ f j ∧ f j < 256) → 48 * n ≤ 140737488351232 → Sh w → Calls Tryd.prog 17 #[.slice a n cap] w fun e' w' => e' = .returned (.agg (vs .u8 48 (smV f n))) ∧ Below w.heap.size w w'

attribute [local go_sem ↓] ixKy_eq lvKy_eq svKy_eq

set_option maxHeartbeats 4000000 in
theorem pickSums_law (pP : PProp) (pS : PSync) (pM : PSum) (a : Option Addr) (n cap : Nat) (f : Nat → Int) (w : World) (hk : Kys w a n cap f) (hf : ∀ j, j < 48 * n → 0 ≤ f j ∧ f j < 256) (hn : 48 * n ≤ 140737488351232) (hS : Sh w) (hC : Tab w 1 64 KW) :
    Calls Tryd.prog 5 #[.slice a n cap] w fun e' w' => e' = .returned (.bool true) ∧ Below w.heap.size w w' := by
  have haw := awake15 pP pS w hS
  have hk' : ∀ W : World, Below w.heap.size w W → Kys W a n cap f := fun W h => hk.below h
  have hps : ∀ (W : World) a c, Below w.heap.size w W → Kys W a n c f → Calls Tryd.prog 17 #[.slice a n c] W fun e' w' => e' = .returned (.agg (vs .u8 48 (smV f n))) ∧ Below W.heap.size W w' := fun W a c h hk => pM a n c f W hk hf hn (hS.below h)
  have hrs : ∀ W : World, Below w.heap.size w W → Calls Tryd.prog 18 #[.slice a n cap] W fun e' w' => e' = .returned (.agg (vs .u8 48 (smV f n))) ∧ Below W.heap.size W w' := fun W h => rsumK_any a n cap f W (hk' W h) hf hn (hC.below h)
  have hes := fun W => eqK W (smV f n) (fun j _ => smV_bd f n j)
  have hek : ∀ i, i < n → ∀ W, (Op.equalIn 10000 44 (.agg (vs .u8 48 fun j => f (48 * i + j))) (.agg (vs .u8 48 fun j => f (48 * i + j)))).run Tryd.prog W = .ok true W := fun i hi W => eqK W _ fun j hj => hf _ (by omega)
  generalize smV f n = SM at hps hrs hes
  have HAW := hid haw
  have HK := hid hk'
  have HPS := hid hps
  have HRS := hid hrs
  have HEK := hid hek
  clear haw hk' hps hrs hek hk hf hS hC pP pS pM
  go_enter Tryd.func5, Tryd.ntmps5
  go_upto_region 3 with (go_at_call 7; refine HAW.out.mono ?_; rintro e' w1 ⟨rfl, hb1⟩)
  have HB1 := hid hb1
  clear hb1
  go_upto_region 4 with (at_builtin; refine wpList_append_kys _ rfl _ _ rfl w1.heap.size _ 0 f rfl (World.ownsRow_made _ #[] 0 (Nat.le_refl _) (Nat.zero_le _) rfl) a n cap f rfl (HK.out _ (HB1.out.alloc HB1.out.size _)) (by omega) (by simp) f (fun q _ => rfl) (fun q _ => by rw [Nat.mul_zero, Nat.zero_add]) ?_; intro v' w2 ho hgr)
  rw [Nat.zero_add] at ho
  obtain ⟨a2, c2, rfl, hk2⟩ := own_kys ho
  have hb2 : Below w1.heap.size w1 w2 := below_grownK ((Below.refl _ _).alloc (Nat.le_refl _) _) (World.ownsRow_made (e := 44) (size := 48) _ #[] 0 (Nat.le_refl _) (Nat.zero_le _) rfl) (by simp) hgr
  have hB2 := HB1.out.trans (hb2.mono HB1.out.size)
  have HB2 := hid hB2
  have HK2 := hid hk2
  clear hB2 hk2 hb2 ho hgr HB1 HAW
  go_upto_region 6 with (first
    | (go_at_call 17; refine (HPS.out _ _ _ HB2.out HK2.out).mono ?_; rintro e' w3 ⟨rfl, hb3⟩; have hB3 := HB2.out.trans (hb3.mono HB2.out.size))
    | (go_at_call 18; refine (HRS.out _ hB3).mono ?_; rintro e' w4 ⟨rfl, hb4⟩; have hB4 := hB3.trans (hb4.mono hB3.size)))
  have hk4 := (HK2.out.below hb3).below hb4
  have HK4 := hid hk4
  have HB4 := hid hB4
  clear hk4 hB4 hB3 hb3 hb4 HB2 HK2 HPS HRS hes
  go_wp2
  go_loopg [4] (n + 1) (fun k c wr => ∃ i : Nat, c = .int .i64 i ∧ i ≤ n ∧ n - i < k ∧ Below w4.heap.size w4 wr)
  case atStart => exact ⟨0, rfl, by omega, by omega, Below.refl _ _⟩
  case round =>
    obtain ⟨i, rfl, hi, hk, hw⟩ := hrel
    by_cases hin : i < n
    · have hz : (i : Int) < (n : Int) := by omega
      have hwW := HB4.out.trans (hw.mono HB4.out.size)
      rcases HK.out wr hwW with ⟨_, h0, _⟩ | ⟨_, _, h0⟩ | ⟨b, off, ea, hlc, hbl, hc⟩
      · omega
      · omega
      rcases HK4.out.below hw with ⟨_, h0, _⟩ | ⟨_, _, h0⟩ | ⟨b', off', ea', hlc', hbl', hc'⟩
      · omega
      · omega
      subst ea ea'
      have ix1 := fun W => ixKy_run W b off n cap i hin
      have ix2 := fun W => ixKy_run W b' off' n c2 i hin
      have lk1 : ∀ q, (lvKy ⟨b, off + 48 * i, none⟩).run Tryd.prog (wr.drewN q) = .ok (.agg (vs .u8 48 fun j => f (48 * i + j))) (wr.drewN q) := fun q => lvKy_mid fun j hj => by rw [Nat.add_assoc]; exact hc (48 * i + j) (by omega)
      have lk2 : ∀ q, (lvKy ⟨b', off' + 48 * i, none⟩).run Tryd.prog (wr.drewN q) = .ok (.agg (vs .u8 48 fun j => f (48 * i + j))) (wr.drewN q) := fun q => lvKy_mid fun j hj => by rw [Nat.add_assoc]; exact hc' (48 * i + j) (by omega)
      have le1 := lk1 1
      have le2 := lk2 1
      have hek := HEK.out i hin
      generalize (vs .u8 48 fun j => f (48 * i + j)) = KV at lk1 lk2 le1 le2 hek
      obtain ⟨O, eO⟩ : ∃ O, off + 48 * i = O := ⟨_, rfl⟩
      obtain ⟨O', eO'⟩ : ∃ O, off' + 48 * i = O := ⟨_, rfl⟩
      simp only [eO] at ix1 lk1 le1
      simp only [eO'] at ix2 lk2 le2
      have HWW := hid hw
      clear hw hwW hc hc' hbl hbl' eO eO' lk1 lk2
      have le1' : (lvKy ⟨b, O, none⟩).run Tryd.prog wr.drew = .ok (.agg KV) wr.drew := le1
      have le2' : (lvKy ⟨b', O', none⟩).run Tryd.prog wr.drew = .ok (.agg KV) wr.drew := le2
      clear le1 le2
      go_wp2_with fail
      go_region
      all_goals go_wp2
      all_goals go_roundg (n - i)
      all_goals (first | (case measure => omega) | skip)
      all_goals exact ⟨i + 1, by simp, by omega, by omega, HWW.out.drew⟩
    · have hz : ¬ (i : Int) < (n : Int) := by omega
      have HWW := hid hw
      clear hw
      go_wp2
      go_ret
      exact ⟨rfl, HB4.out.trans (HWW.out.mono HB4.out.size)⟩

end Go.Proofs.YtpabbglbaimadaaDoor
