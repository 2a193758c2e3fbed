/-
  NARROWER THAN 'FOR EVERY INPUT', by the rows' own cells (each row's printed sentence says how): MerkleTrees: laid · MerkleBranches: laid · MerkleHolds: laid · MerkleHalves: laid · MerkleMixes: laid · MerklePacks: laid.
  DERIVED. THE GIVEN ROWS OF THIS SEAT. 6 by the template 'for every input the law returns true; each argument reads behind the call as it read before'; 0 by the template 'total and deterministic' (their statements: YtahnlfiahchdeaaDoorTotals.lean).
  GIVEN WITH THE SEED: the statements are not yours to turn. If you find one false, say at which input.
  Laid BY PROGRAM, IN A SANDBOX (cutbox-rows.mjs): the forced cells as the released guide's own fill.sh prints them over the translation e469cf01d80eb14d… (all of the seat's roots in one cut). By AI agents, Wed Nov 11 2026. No macro, syntax, notation, axiom, sorry.
-/
import Derived.Test.YtahnlfiahchdeaaDoorChecked
import GoSem.Claim
import GoSem.ClaimJoined
import GoSem.ClaimMapViews
import Derived.JoinedTies
import Derived.KernelRfl
namespace Go.Proofs.YtahnlfiahchdeaaDoor
/- THE CELL 'sum', in the pinned program and in every row, IS THE sha256 OF THE DUMP (.gsa) THAT YtahnlfiahchdeaaDoorProg.lean LOADS. Nothing in Lean hashes anything: it is a label: what it is worth is what the hold of that sum in a sandbox is worth. -/
noncomputable def Tryd.pinned : Pinned := { name := "ytahnlfiahchdeaadoor", sum := "e469cf01d80eb14dab0436f1be8779441c80ab274158bc49723374508cba41c9", checked := Tryd.checked }
namespace Rows
def none {H : Type} : Left H := { results := [], args := [] }

/- WHAT THE LISTED PACKAGE-LEVEL VARIABLES READ AS WHEN THE CALL BEGINS. Each datum BY PROGRAM (the guide's laid-datum.mjs) off the statement by which the dump's own 'gosem.cut.vars' lays the variable. In a bare row this is a premise. The card (YtahnlfiahchdeaaDoorCards.lean) ties it to the program's text. -/
def laid_pharos_pharosref02_constants {H : Type} : DataW H := .agg [.lit (.int .u32 1116352408), .lit (.int .u32 1899447441), .lit (.int .u32 3049323471), .lit (.int .u32 3921009573), .lit (.int .u32 961987163), .lit (.int .u32 1508970993), .lit (.int .u32 2453635748), .lit (.int .u32 2870763221), .lit (.int .u32 3624381080), .lit (.int .u32 310598401), .lit (.int .u32 607225278), .lit (.int .u32 1426881987), .lit (.int .u32 1925078388), .lit (.int .u32 2162078206), .lit (.int .u32 2614888103), .lit (.int .u32 3248222580), .lit (.int .u32 3835390401), .lit (.int .u32 4022224774), .lit (.int .u32 264347078), .lit (.int .u32 604807628), .lit (.int .u32 770255983), .lit (.int .u32 1249150122), .lit (.int .u32 1555081692), .lit (.int .u32 1996064986), .lit (.int .u32 2554220882), .lit (.int .u32 2821834349), .lit (.int .u32 2952996808), .lit (.int .u32 3210313671), .lit (.int .u32 3336571891), .lit (.int .u32 3584528711), .lit (.int .u32 113926993), .lit (.int .u32 338241895), .lit (.int .u32 666307205), .lit (.int .u32 773529912), .lit (.int .u32 1294757372), .lit (.int .u32 1396182291), .lit (.int .u32 1695183700), .lit (.int .u32 1986661051), .lit (.int .u32 2177026350), .lit (.int .u32 2456956037), .lit (.int .u32 2730485921), .lit (.int .u32 2820302411), .lit (.int .u32 3259730800), .lit (.int .u32 3345764771), .lit (.int .u32 3516065817), .lit (.int .u32 3600352804), .lit (.int .u32 4094571909), .lit (.int .u32 275423344), .lit (.int .u32 430227734), .lit (.int .u32 506948616), .lit (.int .u32 659060556), .lit (.int .u32 883997877), .lit (.int .u32 958139571), .lit (.int .u32 1322822218), .lit (.int .u32 1537002063), .lit (.int .u32 1747873779), .lit (.int .u32 1955562222), .lit (.int .u32 2024104815), .lit (.int .u32 2227730452), .lit (.int .u32 2361852424), .lit (.int .u32 2428436474), .lit (.int .u32 2756734187), .lit (.int .u32 3204031479), .lit (.int .u32 3329325298)]
def laid_pharos_sha_starts {H : Type} : DataW H := .agg [.lit (.int .u32 1779033703), .lit (.int .u32 3144134277), .lit (.int .u32 1013904242), .lit (.int .u32 2773480762), .lit (.int .u32 1359893119), .lit (.int .u32 2600822924), .lit (.int .u32 528734635), .lit (.int .u32 1541459225)]
def laid_pharos_sha_roundWords {H : Type} : DataW H := .agg [.lit (.int .u32 1116352408), .lit (.int .u32 1899447441), .lit (.int .u32 3049323471), .lit (.int .u32 3921009573), .lit (.int .u32 961987163), .lit (.int .u32 1508970993), .lit (.int .u32 2453635748), .lit (.int .u32 2870763221), .lit (.int .u32 3624381080), .lit (.int .u32 310598401), .lit (.int .u32 607225278), .lit (.int .u32 1426881987), .lit (.int .u32 1925078388), .lit (.int .u32 2162078206), .lit (.int .u32 2614888103), .lit (.int .u32 3248222580), .lit (.int .u32 3835390401), .lit (.int .u32 4022224774), .lit (.int .u32 264347078), .lit (.int .u32 604807628), .lit (.int .u32 770255983), .lit (.int .u32 1249150122), .lit (.int .u32 1555081692), .lit (.int .u32 1996064986), .lit (.int .u32 2554220882), .lit (.int .u32 2821834349), .lit (.int .u32 2952996808), .lit (.int .u32 3210313671), .lit (.int .u32 3336571891), .lit (.int .u32 3584528711), .lit (.int .u32 113926993), .lit (.int .u32 338241895), .lit (.int .u32 666307205), .lit (.int .u32 773529912), .lit (.int .u32 1294757372), .lit (.int .u32 1396182291), .lit (.int .u32 1695183700), .lit (.int .u32 1986661051), .lit (.int .u32 2177026350), .lit (.int .u32 2456956037), .lit (.int .u32 2730485921), .lit (.int .u32 2820302411), .lit (.int .u32 3259730800), .lit (.int .u32 3345764771), .lit (.int .u32 3516065817), .lit (.int .u32 3600352804), .lit (.int .u32 4094571909), .lit (.int .u32 275423344), .lit (.int .u32 430227734), .lit (.int .u32 506948616), .lit (.int .u32 659060556), .lit (.int .u32 883997877), .lit (.int .u32 958139571), .lit (.int .u32 1322822218), .lit (.int .u32 1537002063), .lit (.int .u32 1747873779), .lit (.int .u32 1955562222), .lit (.int .u32 2024104815), .lit (.int .u32 2227730452), .lit (.int .u32 2361852424), .lit (.int .u32 2428436474), .lit (.int .u32 2756734187), .lit (.int .u32 3204031479), .lit (.int .u32 3329325298)]

/-- 'pharoslaw05.MerkleTrees': WHATEVER THE INPUT: true; the input reads as it did. -/
def merkleTreesSpec : ChangeSpec := { name := "merkleTrees", fn := fun _ => fun
  | [d1, d2, d3, d4, d5] => { results := [.lit (.bool true)], args := [d1, d2, d3, d4, d5] }
  | _ => none }
def merkleTreesRow : OpenClaim := { program := "ytahnlfiahchdeaadoor", sum := "e469cf01d80eb14dab0436f1be8779441c80ab274158bc49723374508cba41c9", func := "pharos/pharoslaw05.MerkleTrees", spec := "merkleTrees", recurses := true, named := ["pharos/sha.starts", "pharos/sha.roundWords", "pharos/pharosref02.constants"], apart := false, laid := [("pharos/pharosref02.constants", laid_pharos_pharosref02_constants), ("pharos/sha.starts", laid_pharos_sha_starts), ("pharos/sha.roundWords", laid_pharos_sha_roundWords)] }
def MerkleTreesSaid : Prop := merkleTreesRow.holds Tryd.pinned (OpenSpec.ofChange merkleTreesSpec)

/-- ITS FALSE NEIGHBOUR: 'it returns false'. Refute it at one input. -/
def merkleTreesWrong : ChangeSpec := { name := "merkleTrees", fn := fun _ => fun
  | [d1, d2, d3, d4, d5] => { results := [.lit (.bool false)], args := [d1, d2, d3, d4, d5] }
  | _ => none }
def MerkleTreesWrongFalsely : Prop := merkleTreesRow.holds Tryd.pinned (OpenSpec.ofChange merkleTreesWrong)

/-- 'pharoslaw05.MerkleBranches': WHATEVER THE INPUT: true; the input reads as it did. -/
def merkleBranchesSpec : ChangeSpec := { name := "merkleBranches", fn := fun _ => fun
  | [d1, d2, d3, d4, d5] => { results := [.lit (.bool true)], args := [d1, d2, d3, d4, d5] }
  | _ => none }
def merkleBranchesRow : OpenClaim := { program := "ytahnlfiahchdeaadoor", sum := "e469cf01d80eb14dab0436f1be8779441c80ab274158bc49723374508cba41c9", func := "pharos/pharoslaw05.MerkleBranches", spec := "merkleBranches", recurses := true, named := ["pharos/sha.starts", "pharos/sha.roundWords", "pharos/pharosref02.constants"], apart := false, laid := [("pharos/pharosref02.constants", laid_pharos_pharosref02_constants), ("pharos/sha.starts", laid_pharos_sha_starts), ("pharos/sha.roundWords", laid_pharos_sha_roundWords)] }
def MerkleBranchesSaid : Prop := merkleBranchesRow.holds Tryd.pinned (OpenSpec.ofChange merkleBranchesSpec)

/-- ITS FALSE NEIGHBOUR: 'it returns false'. Refute it at one input. -/
def merkleBranchesWrong : ChangeSpec := { name := "merkleBranches", fn := fun _ => fun
  | [d1, d2, d3, d4, d5] => { results := [.lit (.bool false)], args := [d1, d2, d3, d4, d5] }
  | _ => none }
def MerkleBranchesWrongFalsely : Prop := merkleBranchesRow.holds Tryd.pinned (OpenSpec.ofChange merkleBranchesWrong)

/-- 'pharoslaw05.MerkleHolds': WHATEVER THE INPUT: true; the input reads as it did. -/
def merkleHoldsSpec : ChangeSpec := { name := "merkleHolds", fn := fun _ => fun
  | [d1, d2, d3, d4] => { results := [.lit (.bool true)], args := [d1, d2, d3, d4] }
  | _ => none }
def merkleHoldsRow : OpenClaim := { program := "ytahnlfiahchdeaadoor", sum := "e469cf01d80eb14dab0436f1be8779441c80ab274158bc49723374508cba41c9", func := "pharos/pharoslaw05.MerkleHolds", spec := "merkleHolds", recurses := true, named := ["pharos/sha.starts", "pharos/sha.roundWords", "pharos/pharosref02.constants"], apart := false, laid := [("pharos/pharosref02.constants", laid_pharos_pharosref02_constants), ("pharos/sha.starts", laid_pharos_sha_starts), ("pharos/sha.roundWords", laid_pharos_sha_roundWords)] }
def MerkleHoldsSaid : Prop := merkleHoldsRow.holds Tryd.pinned (OpenSpec.ofChange merkleHoldsSpec)

/-- ITS FALSE NEIGHBOUR: 'it returns false'. Refute it at one input. -/
def merkleHoldsWrong : ChangeSpec := { name := "merkleHolds", fn := fun _ => fun
  | [d1, d2, d3, d4] => { results := [.lit (.bool false)], args := [d1, d2, d3, d4] }
  | _ => none }
def MerkleHoldsWrongFalsely : Prop := merkleHoldsRow.holds Tryd.pinned (OpenSpec.ofChange merkleHoldsWrong)

/-- 'pharoslaw05.MerkleHalves': WHATEVER THE INPUT: true; the input reads as it did. -/
def merkleHalvesSpec : ChangeSpec := { name := "merkleHalves", fn := fun _ => fun
  | [d1, d2] => { results := [.lit (.bool true)], args := [d1, d2] }
  | _ => none }
def merkleHalvesRow : OpenClaim := { program := "ytahnlfiahchdeaadoor", sum := "e469cf01d80eb14dab0436f1be8779441c80ab274158bc49723374508cba41c9", func := "pharos/pharoslaw05.MerkleHalves", spec := "merkleHalves", recurses := true, named := ["pharos/sha.starts", "pharos/sha.roundWords"], apart := false, laid := [("pharos/sha.starts", laid_pharos_sha_starts), ("pharos/sha.roundWords", laid_pharos_sha_roundWords)] }
def MerkleHalvesSaid : Prop := merkleHalvesRow.holds Tryd.pinned (OpenSpec.ofChange merkleHalvesSpec)

/-- ITS FALSE NEIGHBOUR: 'it returns false'. Refute it at one input. -/
def merkleHalvesWrong : ChangeSpec := { name := "merkleHalves", fn := fun _ => fun
  | [d1, d2] => { results := [.lit (.bool false)], args := [d1, d2] }
  | _ => none }
def MerkleHalvesWrongFalsely : Prop := merkleHalvesRow.holds Tryd.pinned (OpenSpec.ofChange merkleHalvesWrong)

/-- 'pharoslaw05.MerkleMixes': WHATEVER THE INPUT: true; the input reads as it did. -/
def merkleMixesSpec : ChangeSpec := { name := "merkleMixes", fn := fun _ => fun
  | [d1, d2] => { results := [.lit (.bool true)], args := [d1, d2] }
  | _ => none }
def merkleMixesRow : OpenClaim := { program := "ytahnlfiahchdeaadoor", sum := "e469cf01d80eb14dab0436f1be8779441c80ab274158bc49723374508cba41c9", func := "pharos/pharoslaw05.MerkleMixes", spec := "merkleMixes", recurses := true, named := ["pharos/sha.starts", "pharos/sha.roundWords"], apart := false, laid := [("pharos/sha.starts", laid_pharos_sha_starts), ("pharos/sha.roundWords", laid_pharos_sha_roundWords)] }
def MerkleMixesSaid : Prop := merkleMixesRow.holds Tryd.pinned (OpenSpec.ofChange merkleMixesSpec)

/-- ITS FALSE NEIGHBOUR: 'it returns false'. Refute it at one input. -/
def merkleMixesWrong : ChangeSpec := { name := "merkleMixes", fn := fun _ => fun
  | [d1, d2] => { results := [.lit (.bool false)], args := [d1, d2] }
  | _ => none }
def MerkleMixesWrongFalsely : Prop := merkleMixesRow.holds Tryd.pinned (OpenSpec.ofChange merkleMixesWrong)

/-- 'pharoslaw05.MerklePacks': WHATEVER THE INPUT: true; the input reads as it did. -/
def merklePacksSpec : ChangeSpec := { name := "merklePacks", fn := fun _ => fun
  | [d1, d2] => { results := [.lit (.bool true)], args := [d1, d2] }
  | _ => none }
def merklePacksRow : OpenClaim := { program := "ytahnlfiahchdeaadoor", sum := "e469cf01d80eb14dab0436f1be8779441c80ab274158bc49723374508cba41c9", func := "pharos/pharoslaw05.MerklePacks", spec := "merklePacks", recurses := true, named := ["pharos/sha.starts", "pharos/sha.roundWords"], apart := false, laid := [("pharos/sha.starts", laid_pharos_sha_starts), ("pharos/sha.roundWords", laid_pharos_sha_roundWords)] }
def MerklePacksSaid : Prop := merklePacksRow.holds Tryd.pinned (OpenSpec.ofChange merklePacksSpec)

/-- ITS FALSE NEIGHBOUR: 'it returns false'. Refute it at one input. -/
def merklePacksWrong : ChangeSpec := { name := "merklePacks", fn := fun _ => fun
  | [d1, d2] => { results := [.lit (.bool false)], args := [d1, d2] }
  | _ => none }
def MerklePacksWrongFalsely : Prop := merklePacksRow.holds Tryd.pinned (OpenSpec.ofChange merklePacksWrong)

/- THE SECOND FORM. 'bulk': how many values and letters a reading holds, each counted each time it is reached (what is shared counts as often as it is met; a slice's spare places count too). A statement '..UptoSaid' is the law's where the arguments, and the package variables that the reading takes, are together of bulk at most 1048576: NARROWER than '..Said'. Prove '..Said' where nothing that the law and all that it calls make is longer than what came in: it says more and counts as full. Else prove '..UptoSaid'. A law counts once. -/
mutual
def uptoBulk {H : Type} : DataW H → Nat
  | .lit (.string bytes) => bytes.length + 1
  | .lit _ => 1
  | .nil => 1
  | .ptr d => uptoBulk d + 1
  | .slice elems spare => uptoBulkAll elems + uptoBulkAll spare + 1
  | .agg parts => uptoBulkAll parts + 1
  | .iface _ d => uptoBulk d + 1
  | .map entries => uptoBulkEntries entries + 1
  | .held _ => 1
def uptoBulkAll {H : Type} : List (DataW H) → Nat
  | [] => 0
  | d :: r => uptoBulk d + uptoBulkAll r
def uptoBulkEntries {H : Type} : List (Lit × DataW H) → Nat
  | [] => 0
  | x :: r => uptoBulkEntry x + uptoBulkEntries r
def uptoBulkEntry {H : Type} : Lit × DataW H → Nat
  | (.string bytes, d) => bytes.length + uptoBulk d + 1
  | (_, d) => uptoBulk d + 1
 end
def uptoSmall : (H : Type) → List (DataW H) → Bool := fun _ ds => decide (uptoBulkAll ds ≤ 1048576)
def OpenSpec.upto (s : _root_.Go.ChangeSpec) : _root_.Go.OpenSpec := { _root_.Go.OpenSpec.ofChange s with cond := some uptoSmall }

/-- 'pharoslaw05.MerkleTrees', WHERE WHAT IT READS IS OF BULK AT MOST 1048576: true; the input reads as it did. -/
def merkleTreesUptoRow : OpenClaim := { program := "ytahnlfiahchdeaadoor", sum := "e469cf01d80eb14dab0436f1be8779441c80ab274158bc49723374508cba41c9", func := "pharos/pharoslaw05.MerkleTrees", spec := "merkleTrees", recurses := true, named := ["pharos/sha.starts", "pharos/sha.roundWords", "pharos/pharosref02.constants"], apart := false, laid := [("pharos/pharosref02.constants", laid_pharos_pharosref02_constants), ("pharos/sha.starts", laid_pharos_sha_starts), ("pharos/sha.roundWords", laid_pharos_sha_roundWords)], narrowed := true }
def MerkleTreesUptoSaid : Prop := merkleTreesUptoRow.holds Tryd.pinned (OpenSpec.upto merkleTreesSpec)

/-- 'pharoslaw05.MerkleBranches', WHERE WHAT IT READS IS OF BULK AT MOST 1048576: true; the input reads as it did. -/
def merkleBranchesUptoRow : OpenClaim := { program := "ytahnlfiahchdeaadoor", sum := "e469cf01d80eb14dab0436f1be8779441c80ab274158bc49723374508cba41c9", func := "pharos/pharoslaw05.MerkleBranches", spec := "merkleBranches", recurses := true, named := ["pharos/sha.starts", "pharos/sha.roundWords", "pharos/pharosref02.constants"], apart := false, laid := [("pharos/pharosref02.constants", laid_pharos_pharosref02_constants), ("pharos/sha.starts", laid_pharos_sha_starts), ("pharos/sha.roundWords", laid_pharos_sha_roundWords)], narrowed := true }
def MerkleBranchesUptoSaid : Prop := merkleBranchesUptoRow.holds Tryd.pinned (OpenSpec.upto merkleBranchesSpec)

/-- 'pharoslaw05.MerkleHolds', WHERE WHAT IT READS IS OF BULK AT MOST 1048576: true; the input reads as it did. -/
def merkleHoldsUptoRow : OpenClaim := { program := "ytahnlfiahchdeaadoor", sum := "e469cf01d80eb14dab0436f1be8779441c80ab274158bc49723374508cba41c9", func := "pharos/pharoslaw05.MerkleHolds", spec := "merkleHolds", recurses := true, named := ["pharos/sha.starts", "pharos/sha.roundWords", "pharos/pharosref02.constants"], apart := false, laid := [("pharos/pharosref02.constants", laid_pharos_pharosref02_constants), ("pharos/sha.starts", laid_pharos_sha_starts), ("pharos/sha.roundWords", laid_pharos_sha_roundWords)], narrowed := true }
def MerkleHoldsUptoSaid : Prop := merkleHoldsUptoRow.holds Tryd.pinned (OpenSpec.upto merkleHoldsSpec)

/-- 'pharoslaw05.MerkleHalves', WHERE WHAT IT READS IS OF BULK AT MOST 1048576: true; the input reads as it did. -/
def merkleHalvesUptoRow : OpenClaim := { program := "ytahnlfiahchdeaadoor", sum := "e469cf01d80eb14dab0436f1be8779441c80ab274158bc49723374508cba41c9", func := "pharos/pharoslaw05.MerkleHalves", spec := "merkleHalves", recurses := true, named := ["pharos/sha.starts", "pharos/sha.roundWords"], apart := false, laid := [("pharos/sha.starts", laid_pharos_sha_starts), ("pharos/sha.roundWords", laid_pharos_sha_roundWords)], narrowed := true }
def MerkleHalvesUptoSaid : Prop := merkleHalvesUptoRow.holds Tryd.pinned (OpenSpec.upto merkleHalvesSpec)

/-- 'pharoslaw05.MerkleMixes', WHERE WHAT IT READS IS OF BULK AT MOST 1048576: true; the input reads as it did. -/
def merkleMixesUptoRow : OpenClaim := { program := "ytahnlfiahchdeaadoor", sum := "e469cf01d80eb14dab0436f1be8779441c80ab274158bc49723374508cba41c9", func := "pharos/pharoslaw05.MerkleMixes", spec := "merkleMixes", recurses := true, named := ["pharos/sha.starts", "pharos/sha.roundWords"], apart := false, laid := [("pharos/sha.starts", laid_pharos_sha_starts), ("pharos/sha.roundWords", laid_pharos_sha_roundWords)], narrowed := true }
def MerkleMixesUptoSaid : Prop := merkleMixesUptoRow.holds Tryd.pinned (OpenSpec.upto merkleMixesSpec)

/-- 'pharoslaw05.MerklePacks', WHERE WHAT IT READS IS OF BULK AT MOST 1048576: true; the input reads as it did. -/
def merklePacksUptoRow : OpenClaim := { program := "ytahnlfiahchdeaadoor", sum := "e469cf01d80eb14dab0436f1be8779441c80ab274158bc49723374508cba41c9", func := "pharos/pharoslaw05.MerklePacks", spec := "merklePacks", recurses := true, named := ["pharos/sha.starts", "pharos/sha.roundWords"], apart := false, laid := [("pharos/sha.starts", laid_pharos_sha_starts), ("pharos/sha.roundWords", laid_pharos_sha_roundWords)], narrowed := true }
def MerklePacksUptoSaid : Prop := merklePacksUptoRow.holds Tryd.pinned (OpenSpec.upto merklePacksSpec)

end Rows
end Go.Proofs.YtahnlfiahchdeaaDoor
