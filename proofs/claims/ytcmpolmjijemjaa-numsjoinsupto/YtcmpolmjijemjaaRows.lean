/-
  No cell of these rows narrows 'for every input' (looked for: loops, veiled, ifaces, maps, wideKeys, modest, calm, conditions, laid).
  DERIVED. THE GIVEN ROWS OF THIS SEAT. 5 by the template 'for every input the law returns true; each argument reads behind the call as it read before'; 0 by the template 'total and deterministic' (their statements: YtcmpolmjijemjaaTotals.lean).
  GIVEN WITH THE SEED: the statements are not yours to turn. If you find one false, say at which input.
  Laid BY PROGRAM, IN A SANDBOX (cutbox-rows.mjs): the forced cells as the released guide's own fill.sh prints them over the translation cff1dc0195e3202c… (all of the seat's roots in one cut). By AI agents, Wed Nov 11 2026. No macro, syntax, notation, axiom, sorry.
-/
import Derived.Test.YtcmpolmjijemjaaChecked
import GoSem.Claim
import GoSem.ClaimJoined
import GoSem.ClaimMapViews
import Derived.JoinedTies
import Derived.KernelRfl
namespace Go.Proofs.Ytcmpolmjijemjaa
/- THE CELL 'sum', in the pinned program and in every row, IS THE sha256 OF THE DUMP (.gsa) THAT YtcmpolmjijemjaaProg.lean LOADS. Nothing in Lean hashes anything: it is a label: what it is worth is what the hold of that sum in a sandbox is worth. -/
noncomputable def Try.pinned : Pinned := { name := "ytcmpolmjijemjaa", sum := "cff1dc0195e3202ca4717fdfb39836815834d7186d0949d00f98141d0efbe6ad", checked := Try.checked }
namespace Rows
def none {H : Type} : Left H := { results := [], args := [] }

/-- 'osmosislaw1.NumsKnown': WHATEVER THE INPUT: true; the input reads as it did. -/
def numsKnownSpec : ChangeSpec := { name := "numsKnown", fn := fun _ => fun
  | [] => { results := [.lit (.bool true)], args := [] }
  | _ => none }
def numsKnownRow : OpenClaim := { program := "ytcmpolmjijemjaa", sum := "cff1dc0195e3202ca4717fdfb39836815834d7186d0949d00f98141d0efbe6ad", func := "osmosis/osmosislaw1.NumsKnown", spec := "numsKnown", unfollowed := true, recurses := true, apart := false }
def NumsKnownSaid : Prop := numsKnownRow.holds Try.pinned (OpenSpec.ofChange numsKnownSpec)

/-- ITS FALSE NEIGHBOUR: 'it returns false'. Refute it at one input. -/
def numsKnownWrong : ChangeSpec := { name := "numsKnown", fn := fun _ => fun
  | [] => { results := [.lit (.bool false)], args := [] }
  | _ => none }
def NumsKnownWrongFalsely : Prop := numsKnownRow.holds Try.pinned (OpenSpec.ofChange numsKnownWrong)

/-- 'osmosislaw1.NumsTells': WHATEVER THE INPUT: true; the input reads as it did. -/
def numsTellsSpec : ChangeSpec := { name := "numsTells", fn := fun _ => fun
  | [d1, d2, d3, d4, d5, d6] => { results := [.lit (.bool true)], args := [d1, d2, d3, d4, d5, d6] }
  | _ => none }
def numsTellsRow : OpenClaim := { program := "ytcmpolmjijemjaa", sum := "cff1dc0195e3202ca4717fdfb39836815834d7186d0949d00f98141d0efbe6ad", func := "osmosis/osmosislaw1.NumsTells", spec := "numsTells", unfollowed := true, recurses := true, apart := false }
def NumsTellsSaid : Prop := numsTellsRow.holds Try.pinned (OpenSpec.ofChange numsTellsSpec)

/-- ITS FALSE NEIGHBOUR: 'it returns false'. Refute it at one input. -/
def numsTellsWrong : ChangeSpec := { name := "numsTells", fn := fun _ => fun
  | [d1, d2, d3, d4, d5, d6] => { results := [.lit (.bool false)], args := [d1, d2, d3, d4, d5, d6] }
  | _ => none }
def NumsTellsWrongFalsely : Prop := numsTellsRow.holds Try.pinned (OpenSpec.ofChange numsTellsWrong)

/-- 'osmosislaw1.NumsBack': WHATEVER THE INPUT: true; the input reads as it did. -/
def numsBackSpec : ChangeSpec := { name := "numsBack", fn := fun _ => fun
  | [d1, d2, d3, d4] => { results := [.lit (.bool true)], args := [d1, d2, d3, d4] }
  | _ => none }
def numsBackRow : OpenClaim := { program := "ytcmpolmjijemjaa", sum := "cff1dc0195e3202ca4717fdfb39836815834d7186d0949d00f98141d0efbe6ad", func := "osmosis/osmosislaw1.NumsBack", spec := "numsBack", unfollowed := true, recurses := true, apart := false }
def NumsBackSaid : Prop := numsBackRow.holds Try.pinned (OpenSpec.ofChange numsBackSpec)

/-- ITS FALSE NEIGHBOUR: 'it returns false'. Refute it at one input. -/
def numsBackWrong : ChangeSpec := { name := "numsBack", fn := fun _ => fun
  | [d1, d2, d3, d4] => { results := [.lit (.bool false)], args := [d1, d2, d3, d4] }
  | _ => none }
def NumsBackWrongFalsely : Prop := numsBackRow.holds Try.pinned (OpenSpec.ofChange numsBackWrong)

/-- 'osmosislaw1.NumsShort': WHATEVER THE INPUT: true; the input reads as it did. -/
def numsShortSpec : ChangeSpec := { name := "numsShort", fn := fun _ => fun
  | [d1, d2] => { results := [.lit (.bool true)], args := [d1, d2] }
  | _ => none }
def numsShortRow : OpenClaim := { program := "ytcmpolmjijemjaa", sum := "cff1dc0195e3202ca4717fdfb39836815834d7186d0949d00f98141d0efbe6ad", func := "osmosis/osmosislaw1.NumsShort", spec := "numsShort", unfollowed := true, recurses := true, apart := false }
def NumsShortSaid : Prop := numsShortRow.holds Try.pinned (OpenSpec.ofChange numsShortSpec)

/-- ITS FALSE NEIGHBOUR: 'it returns false'. Refute it at one input. -/
def numsShortWrong : ChangeSpec := { name := "numsShort", fn := fun _ => fun
  | [d1, d2] => { results := [.lit (.bool false)], args := [d1, d2] }
  | _ => none }
def NumsShortWrongFalsely : Prop := numsShortRow.holds Try.pinned (OpenSpec.ofChange numsShortWrong)

/-- 'osmosislaw1.NumsJoins': WHATEVER THE INPUT: true; the input reads as it did. -/
def numsJoinsSpec : ChangeSpec := { name := "numsJoins", fn := fun _ => fun
  | [d1, d2, d3, d4, d5, d6] => { results := [.lit (.bool true)], args := [d1, d2, d3, d4, d5, d6] }
  | _ => none }
def numsJoinsRow : OpenClaim := { program := "ytcmpolmjijemjaa", sum := "cff1dc0195e3202ca4717fdfb39836815834d7186d0949d00f98141d0efbe6ad", func := "osmosis/osmosislaw1.NumsJoins", spec := "numsJoins", unfollowed := true, recurses := true, apart := false }
def NumsJoinsSaid : Prop := numsJoinsRow.holds Try.pinned (OpenSpec.ofChange numsJoinsSpec)

/-- ITS FALSE NEIGHBOUR: 'it returns false'. Refute it at one input. -/
def numsJoinsWrong : ChangeSpec := { name := "numsJoins", fn := fun _ => fun
  | [d1, d2, d3, d4, d5, d6] => { results := [.lit (.bool false)], args := [d1, d2, d3, d4, d5, d6] }
  | _ => none }
def NumsJoinsWrongFalsely : Prop := numsJoinsRow.holds Try.pinned (OpenSpec.ofChange numsJoinsWrong)

/- THE SECOND FORM. 'bulk': how many values and letters a reading holds, each counted each time it is reached (what is shared counts as often as it is met; a slice's spare places count too). A statement '..UptoSaid' is the law's where the arguments, and the package variables that the reading takes, are together of bulk at most 1048576: NARROWER than '..Said'. Prove '..Said' where nothing that the law and all that it calls make is longer than what came in: it says more and counts as full. Else prove '..UptoSaid'. A law counts once. -/
mutual
def uptoBulk {H : Type} : DataW H → Nat
  | .lit (.string bytes) => bytes.length + 1
  | .lit _ => 1
  | .nil => 1
  | .ptr d => uptoBulk d + 1
  | .slice elems spare => uptoBulkAll elems + uptoBulkAll spare + 1
  | .agg parts => uptoBulkAll parts + 1
  | .iface _ d => uptoBulk d + 1
  | .map entries => uptoBulkEntries entries + 1
  | .held _ => 1
def uptoBulkAll {H : Type} : List (DataW H) → Nat
  | [] => 0
  | d :: r => uptoBulk d + uptoBulkAll r
def uptoBulkEntries {H : Type} : List (Lit × DataW H) → Nat
  | [] => 0
  | x :: r => uptoBulkEntry x + uptoBulkEntries r
def uptoBulkEntry {H : Type} : Lit × DataW H → Nat
  | (.string bytes, d) => bytes.length + uptoBulk d + 1
  | (_, d) => uptoBulk d + 1
 end
def uptoSmall : (H : Type) → List (DataW H) → Bool := fun _ ds => decide (uptoBulkAll ds ≤ 1048576)
def OpenSpec.upto (s : _root_.Go.ChangeSpec) : _root_.Go.OpenSpec := { _root_.Go.OpenSpec.ofChange s with cond := some uptoSmall }

/-- 'osmosislaw1.NumsKnown', WHERE WHAT IT READS IS OF BULK AT MOST 1048576: true; the input reads as it did. -/
def numsKnownUptoRow : OpenClaim := { program := "ytcmpolmjijemjaa", sum := "cff1dc0195e3202ca4717fdfb39836815834d7186d0949d00f98141d0efbe6ad", func := "osmosis/osmosislaw1.NumsKnown", spec := "numsKnown", unfollowed := true, recurses := true, apart := false, narrowed := true }
def NumsKnownUptoSaid : Prop := numsKnownUptoRow.holds Try.pinned (OpenSpec.upto numsKnownSpec)

/-- 'osmosislaw1.NumsTells', WHERE WHAT IT READS IS OF BULK AT MOST 1048576: true; the input reads as it did. -/
def numsTellsUptoRow : OpenClaim := { program := "ytcmpolmjijemjaa", sum := "cff1dc0195e3202ca4717fdfb39836815834d7186d0949d00f98141d0efbe6ad", func := "osmosis/osmosislaw1.NumsTells", spec := "numsTells", unfollowed := true, recurses := true, apart := false, narrowed := true }
def NumsTellsUptoSaid : Prop := numsTellsUptoRow.holds Try.pinned (OpenSpec.upto numsTellsSpec)

/-- 'osmosislaw1.NumsBack', WHERE WHAT IT READS IS OF BULK AT MOST 1048576: true; the input reads as it did. -/
def numsBackUptoRow : OpenClaim := { program := "ytcmpolmjijemjaa", sum := "cff1dc0195e3202ca4717fdfb39836815834d7186d0949d00f98141d0efbe6ad", func := "osmosis/osmosislaw1.NumsBack", spec := "numsBack", unfollowed := true, recurses := true, apart := false, narrowed := true }
def NumsBackUptoSaid : Prop := numsBackUptoRow.holds Try.pinned (OpenSpec.upto numsBackSpec)

/-- 'osmosislaw1.NumsShort', WHERE WHAT IT READS IS OF BULK AT MOST 1048576: true; the input reads as it did. -/
def numsShortUptoRow : OpenClaim := { program := "ytcmpolmjijemjaa", sum := "cff1dc0195e3202ca4717fdfb39836815834d7186d0949d00f98141d0efbe6ad", func := "osmosis/osmosislaw1.NumsShort", spec := "numsShort", unfollowed := true, recurses := true, apart := false, narrowed := true }
def NumsShortUptoSaid : Prop := numsShortUptoRow.holds Try.pinned (OpenSpec.upto numsShortSpec)

/-- 'osmosislaw1.NumsJoins', WHERE WHAT IT READS IS OF BULK AT MOST 1048576: true; the input reads as it did. -/
def numsJoinsUptoRow : OpenClaim := { program := "ytcmpolmjijemjaa", sum := "cff1dc0195e3202ca4717fdfb39836815834d7186d0949d00f98141d0efbe6ad", func := "osmosis/osmosislaw1.NumsJoins", spec := "numsJoins", unfollowed := true, recurses := true, apart := false, narrowed := true }
def NumsJoinsUptoSaid : Prop := numsJoinsUptoRow.holds Try.pinned (OpenSpec.upto numsJoinsSpec)

end Rows
end Go.Proofs.Ytcmpolmjijemjaa
