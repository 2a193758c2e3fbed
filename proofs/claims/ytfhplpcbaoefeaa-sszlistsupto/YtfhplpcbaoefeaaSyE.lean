/-
  Strings told apart; which bytes have which parts.
-/
import Derived.Test.YtfhplpcbaoefeaaSyD
namespace Go.Proofs.Ytfhplpcbaoefeaa
open Go.RowKit
set_option linter.unusedVariables false
set_option linter.unusedSimpArgs false

theorem loop_eq (bs : ByteArray) (k : Nat) : ∀ (i : Nat) (r : List UInt8), bs.size - i = k → ByteArray.toList.loop bs i r = r.reverse ++ bs.data.toList.drop i := by
  induction k with
  | zero =>
    intro i r h
    rw [ByteArray.toList.loop]
    rw [if_neg (by omega), List.drop_eq_nil_of_le, List.append_nil]
    have : bs.data.toList.length = bs.size := by rw [Array.length_toList]; rfl
    omega
  | succ k ih =>
    intro i r h
    have hi : i < bs.data.toList.length := by
      have : bs.data.toList.length = bs.size := by rw [Array.length_toList]; rfl
      omega
    rw [ByteArray.toList.loop]
    rw [if_pos (by omega), ih _ _ (by omega), List.drop_eq_getElem_cons hi, List.reverse_cons, List.append_assoc]
    congr 2
    have hi' : i < bs.data.size := by simpa using hi
    simp only [ByteArray.get!, Array.getElem_toList]
    rw [getElem!_pos bs.data i hi']
    rfl
theorem toList_data (bs : ByteArray) : bs.toList = bs.data.toList := by
  unfold ByteArray.toList
  rw [loop_eq bs _ 0 [] rfl]
  simp
theorem toList_inj {a b : ByteArray} (h : a.toList = b.toList) : a = b := by
  rw [toList_data, toList_data] at h
  cases a; cases b
  congr 1
  exact Array.toList_inj.1 h
theorem str_beq (a b : ByteArray) : (a.toList == b.toList) = decide (a = b) := by
  rw [Bool.eq_iff_iff, beq_iff_eq, decide_eq_true_eq]
  exact ⟨toList_inj, fun h => by rw [h]⟩
theorem foldl_push (l : List Int) (r : ByteArray) : (l.foldl (fun r n => r.push (UInt8.ofNat n.toNat)) r).data = r.data ++ (l.map fun n => UInt8.ofNat n.toNat).toArray := by
  induction l generalizing r with
  | nil => simp
  | cons x l ih =>
    rw [List.foldl_cons, ih]
    simp [ByteArray.push]
theorem strF_data (m : Nat → Int) (len : Nat) : (strF m len).data = ((List.range len).map fun i => UInt8.ofNat (m i).toNat).toArray := by
  unfold strF
  rw [foldl_push]
  simp [ByteArray.empty, ByteArray.emptyWithCapacity]
  rfl
theorem strF_same {m m' : Nat → Int} {len len' : Nat} (h1 : ∀ i, i < len → 0 ≤ m i ∧ m i < 256) (h2 : ∀ i, i < len' → 0 ≤ m' i ∧ m' i < 256) (h : (strF m len).toList = (strF m' len').toList) : len = len' ∧ ∀ i, i < len → m i = m' i := by
  rw [toList_data, toList_data, strF_data, strF_data] at h
  simp only [List.toList_toArray] at h
  have hl : len = len' := by simpa using congrArg List.length h
  subst hl
  refine ⟨rfl, fun i hi => ?_⟩
  have h := congrArg (fun l => l[i]?) h
  simp only [List.getElem?_map, List.getElem?_range hi, Option.map_some, Option.some.injEq] at h
  have h := congrArg UInt8.toNat h
  simp only [UInt8.toNat_ofNat'] at h
  have a := h1 i hi
  have b := h2 i hi
  rw [Nat.mod_eq_of_lt (by omega), Nat.mod_eq_of_lt (by omega)] at h
  omega
theorem strF_congr {m m' : Nat → Int} {len : Nat} (h : ∀ i, i < len → m i = m' i) : strF m len = strF m' len := by
  unfold strF
  rw [List.map_congr_left fun i hi => h i (List.mem_range.1 hi)]

theorem layC_congr {zs : Nat → Int} {f f' : Nat → Nat → Int} {L L' : Nat → Nat} {n : Nat} (hL : ∀ r, r < n → L r = L' r) (hf : ∀ r, r < n → ∀ q, q < L r → f r q = f' r q) : layC zs f L n = layC zs f' L' n := by
  have hp : ∀ r, r < n → prt f L r = prt f' L' r := by
    intro r hr
    unfold prt
    rw [← hL r hr]
    exact List.map_congr_left fun q hq => hf r hr q (List.mem_range.1 hq)
  have key : ∀ k, k ≤ n → loL zs L k = loL zs L' k ∧ loB zs f L k = loB zs f' L' k ∧ hdB zs f L (hdL zs n) k = hdB zs f' L' (hdL zs n) k := by
    intro k
    induction k with
    | zero => exact fun _ => ⟨rfl, rfl, rfl⟩
    | succ k ih =>
      intro hk
      obtain ⟨h1, h2, h3⟩ := ih (by omega)
      refine ⟨?_, ?_, ?_⟩
      · unfold loL; rw [h1, hL k (by omega)]
      · unfold loB; rw [h2, hp k (by omega)]
      · unfold hdB; rw [h3, h1, hp k (by omega)]
  obtain ⟨_, h2, h3⟩ := key n (Nat.le_refl _)
  unfold layC
  rw [h2, h3]
/-- Bytes that are cut into the same parts are the same bytes. -/
theorem cut_same {zs m : Nat → Int} {n len : Nat} {f : Nat → Nat → Int} {L : Nat → Nat} (hE : cutE zs m n len = 0) (hm : ∀ j, 0 ≤ m j ∧ m j < 256) (hb : ∀ r, r < n → ∀ q, q < L r → 0 ≤ f r q ∧ f r q < 256) (hs : samB n (cLn zs m n len) (cFn zs m n) n L f = true) : (List.range len).map m = layC zs f L n := by
  have hok := cutE_ok hE
  rw [← cut_again hok hm]
  have h := (samB_out hs).2
  have h' := fun r hr => strF_same (fun i _ => hm _) (fun i hi => hb r hr i hi) (h r hr)
  exact layC_congr (fun r hr => (h' r hr).1) (fun r hr q hq => (h' r hr).2 q hq)
theorem cut_other {zs m : Nat → Int} {n len : Nat} {f : Nat → Nat → Int} {L : Nat → Nat} (hE : cutE zs m n len = 0) (hm : ∀ j, 0 ≤ m j ∧ m j < 256) (hb : ∀ r, r < n → ∀ q, q < L r → 0 ≤ f r q ∧ f r q < 256) (hne : (List.range len).map m ≠ layC zs f L n) : samB n (cLn zs m n len) (cFn zs m n) n L f = false := by
  cases hs : samB n (cLn zs m n len) (cFn zs m n) n L f
  · rfl
  · exact absurd (cut_same hE hm hb hs) hne
theorem xor_same {B x : Nat} (h : B ^^^ x = B) : x = 0 := by
  have : B ^^^ (B ^^^ x) = B ^^^ B := by rw [h]
  rw [← Nat.xor_assoc, Nat.xor_self, Nat.zero_xor] at this
  exact this
theorem xor_lt {B x : Nat} (h1 : B < 256) (h2 : x < 256) : B ^^^ x < 256 := Nat.xor_lt_two_pow (n := 8) h1 h2

end Go.Proofs.Ytfhplpcbaoefeaa
