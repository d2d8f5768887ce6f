/-
  No cell of these rows narrows 'for every input' (looked for: loops, veiled, ifaces, maps, wideKeys, modest, calm, conditions, laid).
  DERIVED. THE GIVEN ROWS OF THIS SEAT. 4 by the template 'for every input the law returns true; each argument reads behind the call as it read before'; 0 by the template 'total and deterministic' (their statements: YtaiacohnhhicpaaTotals.lean).
  GIVEN WITH THE SEED: the statements are not yours to turn. If you find one false, say at which input.
  Laid BY PROGRAM, IN A SANDBOX (cutbox-rows.mjs): the forced cells as the released guide's own fill.sh prints them over the translation 67ed908667d20884… (all of the seat's roots in one cut). By AI agents, Wed Nov 11 2026. No macro, syntax, notation, axiom, sorry.
-/
import Derived.Test.YtaiacohnhhicpaaChecked
import GoSem.Claim
import GoSem.ClaimJoined
import GoSem.ClaimMapViews
import Derived.JoinedTies
import Derived.KernelRfl
namespace Go.Proofs.Ytaiacohnhhicpaa
/- THE CELL 'sum', in the pinned program and in every row, IS THE sha256 OF THE DUMP (.gsa) THAT YtaiacohnhhicpaaProg.lean LOADS. Nothing in Lean hashes anything: it is a label: what it is worth is what the hold of that sum in a sandbox is worth. -/
noncomputable def Try.pinned : Pinned := { name := "ytaiacohnhhicpaa", sum := "67ed908667d208849135fd11a156fb5c7d1453b97a2d440f1f9fa5bb3058d5f4", checked := Try.checked }
namespace Rows
def none {H : Type} : Left H := { results := [], args := [] }

/-- 'foghornlaw16.DutyOrder': WHATEVER THE INPUT: true; the input reads as it did. -/
def dutyOrderSpec : ChangeSpec := { name := "dutyOrder", fn := fun _ => fun
  | [d1, d2, d3] => { results := [.lit (.bool true)], args := [d1, d2, d3] }
  | _ => none }
def dutyOrderRow : OpenClaim := { program := "ytaiacohnhhicpaa", sum := "67ed908667d208849135fd11a156fb5c7d1453b97a2d440f1f9fa5bb3058d5f4", func := "foghorn/foghornlaw16.DutyOrder", spec := "dutyOrder", inPlace := ["internal/bytealg.abigen_runtime_cmpstring"], unfollowed := true, recurses := true, apart := false }
def DutyOrderSaid : Prop := dutyOrderRow.holds Try.pinned (OpenSpec.ofChange dutyOrderSpec)

/-- ITS FALSE NEIGHBOUR: 'it returns false'. Refute it at one input. -/
def dutyOrderWrong : ChangeSpec := { name := "dutyOrder", fn := fun _ => fun
  | [d1, d2, d3] => { results := [.lit (.bool false)], args := [d1, d2, d3] }
  | _ => none }
def DutyOrderWrongFalsely : Prop := dutyOrderRow.holds Try.pinned (OpenSpec.ofChange dutyOrderWrong)

/-- 'foghornlaw16.DutyChain': WHATEVER THE INPUT: true; the input reads as it did. -/
def dutyChainSpec : ChangeSpec := { name := "dutyChain", fn := fun _ => fun
  | [d1, d2, d3, d4] => { results := [.lit (.bool true)], args := [d1, d2, d3, d4] }
  | _ => none }
def dutyChainRow : OpenClaim := { program := "ytaiacohnhhicpaa", sum := "67ed908667d208849135fd11a156fb5c7d1453b97a2d440f1f9fa5bb3058d5f4", func := "foghorn/foghornlaw16.DutyChain", spec := "dutyChain", inPlace := ["internal/bytealg.abigen_runtime_cmpstring"], unfollowed := true, recurses := true, apart := false }
def DutyChainSaid : Prop := dutyChainRow.holds Try.pinned (OpenSpec.ofChange dutyChainSpec)

/-- ITS FALSE NEIGHBOUR: 'it returns false'. Refute it at one input. -/
def dutyChainWrong : ChangeSpec := { name := "dutyChain", fn := fun _ => fun
  | [d1, d2, d3, d4] => { results := [.lit (.bool false)], args := [d1, d2, d3, d4] }
  | _ => none }
def DutyChainWrongFalsely : Prop := dutyChainRow.holds Try.pinned (OpenSpec.ofChange dutyChainWrong)

/-- 'foghornlaw16.DutyEnds': WHATEVER THE INPUT: true; the input reads as it did. -/
def dutyEndsSpec : ChangeSpec := { name := "dutyEnds", fn := fun _ => fun
  | [d1, d2, d3, d4, d5] => { results := [.lit (.bool true)], args := [d1, d2, d3, d4, d5] }
  | _ => none }
def dutyEndsRow : OpenClaim := { program := "ytaiacohnhhicpaa", sum := "67ed908667d208849135fd11a156fb5c7d1453b97a2d440f1f9fa5bb3058d5f4", func := "foghorn/foghornlaw16.DutyEnds", spec := "dutyEnds", inPlace := ["internal/bytealg.abigen_runtime_cmpstring"], unfollowed := true, recurses := true, apart := false }
def DutyEndsSaid : Prop := dutyEndsRow.holds Try.pinned (OpenSpec.ofChange dutyEndsSpec)

/-- ITS FALSE NEIGHBOUR: 'it returns false'. Refute it at one input. -/
def dutyEndsWrong : ChangeSpec := { name := "dutyEnds", fn := fun _ => fun
  | [d1, d2, d3, d4, d5] => { results := [.lit (.bool false)], args := [d1, d2, d3, d4, d5] }
  | _ => none }
def DutyEndsWrongFalsely : Prop := dutyEndsRow.holds Try.pinned (OpenSpec.ofChange dutyEndsWrong)

/-- 'foghornlaw16.DutyLate': WHATEVER THE INPUT: true; the input reads as it did. -/
def dutyLateSpec : ChangeSpec := { name := "dutyLate", fn := fun _ => fun
  | [d1, d2, d3, d4, d5, d6] => { results := [.lit (.bool true)], args := [d1, d2, d3, d4, d5, d6] }
  | _ => none }
def dutyLateRow : OpenClaim := { program := "ytaiacohnhhicpaa", sum := "67ed908667d208849135fd11a156fb5c7d1453b97a2d440f1f9fa5bb3058d5f4", func := "foghorn/foghornlaw16.DutyLate", spec := "dutyLate", inPlace := ["internal/bytealg.abigen_runtime_cmpstring"], unfollowed := true, recurses := true, apart := false }
def DutyLateSaid : Prop := dutyLateRow.holds Try.pinned (OpenSpec.ofChange dutyLateSpec)

/-- ITS FALSE NEIGHBOUR: 'it returns false'. Refute it at one input. -/
def dutyLateWrong : ChangeSpec := { name := "dutyLate", fn := fun _ => fun
  | [d1, d2, d3, d4, d5, d6] => { results := [.lit (.bool false)], args := [d1, d2, d3, d4, d5, d6] }
  | _ => none }
def DutyLateWrongFalsely : Prop := dutyLateRow.holds Try.pinned (OpenSpec.ofChange dutyLateWrong)

/- THE SECOND FORM. 'bulk': how many values and letters a reading holds, each counted each time it is reached (what is shared counts as often as it is met; a slice's spare places count too). A statement '..UptoSaid' is the law's where the arguments, and the package variables that the reading takes, are together of bulk at most 1048576: NARROWER than '..Said'. Prove '..Said' where nothing that the law and all that it calls make is longer than what came in: it says more and counts as full. Else prove '..UptoSaid'. A law counts once. -/
mutual
def uptoBulk {H : Type} : DataW H → Nat
  | .lit (.string bytes) => bytes.length + 1
  | .lit _ => 1
  | .nil => 1
  | .ptr d => uptoBulk d + 1
  | .slice elems spare => uptoBulkAll elems + uptoBulkAll spare + 1
  | .agg parts => uptoBulkAll parts + 1
  | .iface _ d => uptoBulk d + 1
  | .map entries => uptoBulkEntries entries + 1
  | .held _ => 1
def uptoBulkAll {H : Type} : List (DataW H) → Nat
  | [] => 0
  | d :: r => uptoBulk d + uptoBulkAll r
def uptoBulkEntries {H : Type} : List (Lit × DataW H) → Nat
  | [] => 0
  | x :: r => uptoBulkEntry x + uptoBulkEntries r
def uptoBulkEntry {H : Type} : Lit × DataW H → Nat
  | (.string bytes, d) => bytes.length + uptoBulk d + 1
  | (_, d) => uptoBulk d + 1
 end
def uptoSmall : (H : Type) → List (DataW H) → Bool := fun _ ds => decide (uptoBulkAll ds ≤ 1048576)
def OpenSpec.upto (s : _root_.Go.ChangeSpec) : _root_.Go.OpenSpec := { _root_.Go.OpenSpec.ofChange s with cond := some uptoSmall }

/-- 'foghornlaw16.DutyOrder', WHERE WHAT IT READS IS OF BULK AT MOST 1048576: true; the input reads as it did. -/
def dutyOrderUptoRow : OpenClaim := { program := "ytaiacohnhhicpaa", sum := "67ed908667d208849135fd11a156fb5c7d1453b97a2d440f1f9fa5bb3058d5f4", func := "foghorn/foghornlaw16.DutyOrder", spec := "dutyOrder", inPlace := ["internal/bytealg.abigen_runtime_cmpstring"], unfollowed := true, recurses := true, apart := false, narrowed := true }
def DutyOrderUptoSaid : Prop := dutyOrderUptoRow.holds Try.pinned (OpenSpec.upto dutyOrderSpec)

/-- 'foghornlaw16.DutyChain', WHERE WHAT IT READS IS OF BULK AT MOST 1048576: true; the input reads as it did. -/
def dutyChainUptoRow : OpenClaim := { program := "ytaiacohnhhicpaa", sum := "67ed908667d208849135fd11a156fb5c7d1453b97a2d440f1f9fa5bb3058d5f4", func := "foghorn/foghornlaw16.DutyChain", spec := "dutyChain", inPlace := ["internal/bytealg.abigen_runtime_cmpstring"], unfollowed := true, recurses := true, apart := false, narrowed := true }
def DutyChainUptoSaid : Prop := dutyChainUptoRow.holds Try.pinned (OpenSpec.upto dutyChainSpec)

/-- 'foghornlaw16.DutyEnds', WHERE WHAT IT READS IS OF BULK AT MOST 1048576: true; the input reads as it did. -/
def dutyEndsUptoRow : OpenClaim := { program := "ytaiacohnhhicpaa", sum := "67ed908667d208849135fd11a156fb5c7d1453b97a2d440f1f9fa5bb3058d5f4", func := "foghorn/foghornlaw16.DutyEnds", spec := "dutyEnds", inPlace := ["internal/bytealg.abigen_runtime_cmpstring"], unfollowed := true, recurses := true, apart := false, narrowed := true }
def DutyEndsUptoSaid : Prop := dutyEndsUptoRow.holds Try.pinned (OpenSpec.upto dutyEndsSpec)

/-- 'foghornlaw16.DutyLate', WHERE WHAT IT READS IS OF BULK AT MOST 1048576: true; the input reads as it did. -/
def dutyLateUptoRow : OpenClaim := { program := "ytaiacohnhhicpaa", sum := "67ed908667d208849135fd11a156fb5c7d1453b97a2d440f1f9fa5bb3058d5f4", func := "foghorn/foghornlaw16.DutyLate", spec := "dutyLate", inPlace := ["internal/bytealg.abigen_runtime_cmpstring"], unfollowed := true, recurses := true, apart := false, narrowed := true }
def DutyLateUptoSaid : Prop := dutyLateUptoRow.holds Try.pinned (OpenSpec.upto dutyLateSpec)

end Rows
end Go.Proofs.Ytaiacohnhhicpaa
