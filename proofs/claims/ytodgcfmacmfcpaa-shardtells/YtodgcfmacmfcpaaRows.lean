/-
  No cell of these rows narrows 'for every input' (looked for: loops, veiled, ifaces, maps, wideKeys, modest, calm, conditions, laid).
  DERIVED. THE GIVEN ROWS OF THIS SEAT. 5 by the template 'for every input the law returns true; each argument reads behind the call as it read before'; 0 by the template 'total and deterministic' (their statements: YtodgcfmacmfcpaaTotals.lean).
  GIVEN WITH THE SEED: the statements are not yours to turn. If you find one false, say at which input.
  Laid BY PROGRAM, IN A SANDBOX (cutbox-rows.mjs): the forced cells as the released guide's own fill.sh prints them over the translation 7a817f5797b15ccf… (all of the seat's roots in one cut). By AI agents, Wed Nov 11 2026. No macro, syntax, notation, axiom, sorry.
-/
import Derived.Test.YtodgcfmacmfcpaaChecked
import GoSem.Claim
import GoSem.ClaimJoined
import GoSem.ClaimMapViews
import Derived.JoinedTies
import Derived.KernelRfl
namespace Go.Proofs.Ytodgcfmacmfcpaa
/- THE CELL 'sum', in the pinned program and in every row, IS THE sha256 OF THE DUMP (.gsa) THAT YtodgcfmacmfcpaaProg.lean LOADS. Nothing in Lean hashes anything: it is a label: what it is worth is what the hold of that sum in a sandbox is worth. -/
noncomputable def Try.pinned : Pinned := { name := "ytodgcfmacmfcpaa", sum := "7a817f5797b15ccf1b1291ab00ee84321dca73ab6272fd87e0c2eddd55c82b08", checked := Try.checked }
namespace Rows
def none {H : Type} : Left H := { results := [], args := [] }

/-- 'osmosislaw8.ShardKnown': WHATEVER THE INPUT: true; the input reads as it did. -/
def shardKnownSpec : ChangeSpec := { name := "shardKnown", fn := fun _ => fun
  | [] => { results := [.lit (.bool true)], args := [] }
  | _ => none }
def shardKnownRow : OpenClaim := { program := "ytodgcfmacmfcpaa", sum := "7a817f5797b15ccf1b1291ab00ee84321dca73ab6272fd87e0c2eddd55c82b08", func := "osmosis/osmosislaw8.ShardKnown", spec := "shardKnown", inPlace := ["internal/bytealg.abigen_runtime_cmpstring"], unfollowed := true, recurses := true, apart := false }
def ShardKnownSaid : Prop := shardKnownRow.holds Try.pinned (OpenSpec.ofChange shardKnownSpec)

/-- ITS FALSE NEIGHBOUR: 'it returns false'. Refute it at one input. -/
def shardKnownWrong : ChangeSpec := { name := "shardKnown", fn := fun _ => fun
  | [] => { results := [.lit (.bool false)], args := [] }
  | _ => none }
def ShardKnownWrongFalsely : Prop := shardKnownRow.holds Try.pinned (OpenSpec.ofChange shardKnownWrong)

/-- 'osmosislaw8.ShardTells': WHATEVER THE INPUT: true; the input reads as it did. -/
def shardTellsSpec : ChangeSpec := { name := "shardTells", fn := fun _ => fun
  | [d1, d2, d3, d4, d5] => { results := [.lit (.bool true)], args := [d1, d2, d3, d4, d5] }
  | _ => none }
def shardTellsRow : OpenClaim := { program := "ytodgcfmacmfcpaa", sum := "7a817f5797b15ccf1b1291ab00ee84321dca73ab6272fd87e0c2eddd55c82b08", func := "osmosis/osmosislaw8.ShardTells", spec := "shardTells", inPlace := ["internal/bytealg.abigen_runtime_cmpstring"], unfollowed := true, recurses := true, apart := false }
def ShardTellsSaid : Prop := shardTellsRow.holds Try.pinned (OpenSpec.ofChange shardTellsSpec)

/-- ITS FALSE NEIGHBOUR: 'it returns false'. Refute it at one input. -/
def shardTellsWrong : ChangeSpec := { name := "shardTells", fn := fun _ => fun
  | [d1, d2, d3, d4, d5] => { results := [.lit (.bool false)], args := [d1, d2, d3, d4, d5] }
  | _ => none }
def ShardTellsWrongFalsely : Prop := shardTellsRow.holds Try.pinned (OpenSpec.ofChange shardTellsWrong)

/-- 'osmosislaw8.ShardOnce': WHATEVER THE INPUT: true; the input reads as it did. -/
def shardOnceSpec : ChangeSpec := { name := "shardOnce", fn := fun _ => fun
  | [d1, d2] => { results := [.lit (.bool true)], args := [d1, d2] }
  | _ => none }
def shardOnceRow : OpenClaim := { program := "ytodgcfmacmfcpaa", sum := "7a817f5797b15ccf1b1291ab00ee84321dca73ab6272fd87e0c2eddd55c82b08", func := "osmosis/osmosislaw8.ShardOnce", spec := "shardOnce", inPlace := ["internal/bytealg.abigen_runtime_cmpstring"], unfollowed := true, recurses := true, apart := false }
def ShardOnceSaid : Prop := shardOnceRow.holds Try.pinned (OpenSpec.ofChange shardOnceSpec)

/-- ITS FALSE NEIGHBOUR: 'it returns false'. Refute it at one input. -/
def shardOnceWrong : ChangeSpec := { name := "shardOnce", fn := fun _ => fun
  | [d1, d2] => { results := [.lit (.bool false)], args := [d1, d2] }
  | _ => none }
def ShardOnceWrongFalsely : Prop := shardOnceRow.holds Try.pinned (OpenSpec.ofChange shardOnceWrong)

/-- 'osmosislaw8.ShardImage': WHATEVER THE INPUT: true; the input reads as it did. -/
def shardImageSpec : ChangeSpec := { name := "shardImage", fn := fun _ => fun
  | [d1, d2, d3, d4] => { results := [.lit (.bool true)], args := [d1, d2, d3, d4] }
  | _ => none }
def shardImageRow : OpenClaim := { program := "ytodgcfmacmfcpaa", sum := "7a817f5797b15ccf1b1291ab00ee84321dca73ab6272fd87e0c2eddd55c82b08", func := "osmosis/osmosislaw8.ShardImage", spec := "shardImage", inPlace := ["internal/bytealg.abigen_runtime_cmpstring"], unfollowed := true, recurses := true, apart := false }
def ShardImageSaid : Prop := shardImageRow.holds Try.pinned (OpenSpec.ofChange shardImageSpec)

/-- ITS FALSE NEIGHBOUR: 'it returns false'. Refute it at one input. -/
def shardImageWrong : ChangeSpec := { name := "shardImage", fn := fun _ => fun
  | [d1, d2, d3, d4] => { results := [.lit (.bool false)], args := [d1, d2, d3, d4] }
  | _ => none }
def ShardImageWrongFalsely : Prop := shardImageRow.holds Try.pinned (OpenSpec.ofChange shardImageWrong)

/-- 'osmosislaw8.ShardFull': WHATEVER THE INPUT: true; the input reads as it did. -/
def shardFullSpec : ChangeSpec := { name := "shardFull", fn := fun _ => fun
  | [d1, d2, d3] => { results := [.lit (.bool true)], args := [d1, d2, d3] }
  | _ => none }
def shardFullRow : OpenClaim := { program := "ytodgcfmacmfcpaa", sum := "7a817f5797b15ccf1b1291ab00ee84321dca73ab6272fd87e0c2eddd55c82b08", func := "osmosis/osmosislaw8.ShardFull", spec := "shardFull", inPlace := ["internal/bytealg.abigen_runtime_cmpstring"], unfollowed := true, recurses := true, apart := false }
def ShardFullSaid : Prop := shardFullRow.holds Try.pinned (OpenSpec.ofChange shardFullSpec)

/-- ITS FALSE NEIGHBOUR: 'it returns false'. Refute it at one input. -/
def shardFullWrong : ChangeSpec := { name := "shardFull", fn := fun _ => fun
  | [d1, d2, d3] => { results := [.lit (.bool false)], args := [d1, d2, d3] }
  | _ => none }
def ShardFullWrongFalsely : Prop := shardFullRow.holds Try.pinned (OpenSpec.ofChange shardFullWrong)

/- THE SECOND FORM. 'bulk': how many values and letters a reading holds, each counted each time it is reached (what is shared counts as often as it is met; a slice's spare places count too). A statement '..UptoSaid' is the law's where the arguments, and the package variables that the reading takes, are together of bulk at most 1048576: NARROWER than '..Said'. Prove '..Said' where nothing that the law and all that it calls make is longer than what came in: it says more and counts as full. Else prove '..UptoSaid'. A law counts once. -/
mutual
def uptoBulk {H : Type} : DataW H → Nat
  | .lit (.string bytes) => bytes.length + 1
  | .lit _ => 1
  | .nil => 1
  | .ptr d => uptoBulk d + 1
  | .slice elems spare => uptoBulkAll elems + uptoBulkAll spare + 1
  | .agg parts => uptoBulkAll parts + 1
  | .iface _ d => uptoBulk d + 1
  | .map entries => uptoBulkEntries entries + 1
  | .held _ => 1
def uptoBulkAll {H : Type} : List (DataW H) → Nat
  | [] => 0
  | d :: r => uptoBulk d + uptoBulkAll r
def uptoBulkEntries {H : Type} : List (Lit × DataW H) → Nat
  | [] => 0
  | x :: r => uptoBulkEntry x + uptoBulkEntries r
def uptoBulkEntry {H : Type} : Lit × DataW H → Nat
  | (.string bytes, d) => bytes.length + uptoBulk d + 1
  | (_, d) => uptoBulk d + 1
 end
def uptoSmall : (H : Type) → List (DataW H) → Bool := fun _ ds => decide (uptoBulkAll ds ≤ 1048576)
def OpenSpec.upto (s : _root_.Go.ChangeSpec) : _root_.Go.OpenSpec := { _root_.Go.OpenSpec.ofChange s with cond := some uptoSmall }

/-- 'osmosislaw8.ShardKnown', WHERE WHAT IT READS IS OF BULK AT MOST 1048576: true; the input reads as it did. -/
def shardKnownUptoRow : OpenClaim := { program := "ytodgcfmacmfcpaa", sum := "7a817f5797b15ccf1b1291ab00ee84321dca73ab6272fd87e0c2eddd55c82b08", func := "osmosis/osmosislaw8.ShardKnown", spec := "shardKnown", inPlace := ["internal/bytealg.abigen_runtime_cmpstring"], unfollowed := true, recurses := true, apart := false, narrowed := true }
def ShardKnownUptoSaid : Prop := shardKnownUptoRow.holds Try.pinned (OpenSpec.upto shardKnownSpec)

/-- 'osmosislaw8.ShardTells', WHERE WHAT IT READS IS OF BULK AT MOST 1048576: true; the input reads as it did. -/
def shardTellsUptoRow : OpenClaim := { program := "ytodgcfmacmfcpaa", sum := "7a817f5797b15ccf1b1291ab00ee84321dca73ab6272fd87e0c2eddd55c82b08", func := "osmosis/osmosislaw8.ShardTells", spec := "shardTells", inPlace := ["internal/bytealg.abigen_runtime_cmpstring"], unfollowed := true, recurses := true, apart := false, narrowed := true }
def ShardTellsUptoSaid : Prop := shardTellsUptoRow.holds Try.pinned (OpenSpec.upto shardTellsSpec)

/-- 'osmosislaw8.ShardOnce', WHERE WHAT IT READS IS OF BULK AT MOST 1048576: true; the input reads as it did. -/
def shardOnceUptoRow : OpenClaim := { program := "ytodgcfmacmfcpaa", sum := "7a817f5797b15ccf1b1291ab00ee84321dca73ab6272fd87e0c2eddd55c82b08", func := "osmosis/osmosislaw8.ShardOnce", spec := "shardOnce", inPlace := ["internal/bytealg.abigen_runtime_cmpstring"], unfollowed := true, recurses := true, apart := false, narrowed := true }
def ShardOnceUptoSaid : Prop := shardOnceUptoRow.holds Try.pinned (OpenSpec.upto shardOnceSpec)

/-- 'osmosislaw8.ShardImage', WHERE WHAT IT READS IS OF BULK AT MOST 1048576: true; the input reads as it did. -/
def shardImageUptoRow : OpenClaim := { program := "ytodgcfmacmfcpaa", sum := "7a817f5797b15ccf1b1291ab00ee84321dca73ab6272fd87e0c2eddd55c82b08", func := "osmosis/osmosislaw8.ShardImage", spec := "shardImage", inPlace := ["internal/bytealg.abigen_runtime_cmpstring"], unfollowed := true, recurses := true, apart := false, narrowed := true }
def ShardImageUptoSaid : Prop := shardImageUptoRow.holds Try.pinned (OpenSpec.upto shardImageSpec)

/-- 'osmosislaw8.ShardFull', WHERE WHAT IT READS IS OF BULK AT MOST 1048576: true; the input reads as it did. -/
def shardFullUptoRow : OpenClaim := { program := "ytodgcfmacmfcpaa", sum := "7a817f5797b15ccf1b1291ab00ee84321dca73ab6272fd87e0c2eddd55c82b08", func := "osmosis/osmosislaw8.ShardFull", spec := "shardFull", inPlace := ["internal/bytealg.abigen_runtime_cmpstring"], unfollowed := true, recurses := true, apart := false, narrowed := true }
def ShardFullUptoSaid : Prop := shardFullUptoRow.holds Try.pinned (OpenSpec.upto shardFullSpec)

end Rows
end Go.Proofs.Ytodgcfmacmfcpaa
