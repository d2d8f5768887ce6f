/-
  No cell of these rows narrows 'for every input' (looked for: loops, veiled, ifaces, maps, wideKeys, modest, calm, conditions, laid).
  DERIVED. THE GIVEN ROWS OF THIS SEAT. 4 by the template 'for every input the law returns true; each argument reads behind the call as it read before'; 0 by the template 'total and deterministic' (their statements: YtkckdombcnifnaaTotals.lean).
  GIVEN WITH THE SEED: the statements are not yours to turn. If you find one false, say at which input.
  Laid BY PROGRAM, IN A SANDBOX (cutbox-rows.mjs): the forced cells as the released guide's own fill.sh prints them over the translation 924048d30d309f6d… (all of the seat's roots in one cut). By AI agents, Wed Nov 11 2026. No macro, syntax, notation, axiom, sorry.
-/
import Derived.Test.YtkckdombcnifnaaChecked
import GoSem.Claim
import GoSem.ClaimJoined
import GoSem.ClaimMapViews
import Derived.JoinedTies
import Derived.KernelRfl
namespace Go.Proofs.Ytkckdombcnifnaa
/- THE CELL 'sum', in the pinned program and in every row, IS THE sha256 OF THE DUMP (.gsa) THAT YtkckdombcnifnaaProg.lean LOADS. Nothing in Lean hashes anything: it is a label: what it is worth is what the hold of that sum in a sandbox is worth. -/
noncomputable def Try.pinned : Pinned := { name := "ytkckdombcnifnaa", sum := "924048d30d309f6db384ab82fe0b3d2de4c5a16a7bf5db4054f572c7a7709ba8", checked := Try.checked }
namespace Rows
def none {H : Type} : Left H := { results := [], args := [] }

/-- 'foghornlaw14.HushTells': WHATEVER THE INPUT: true; the input reads as it did. -/
def hushTellsSpec : ChangeSpec := { name := "hushTells", fn := fun _ => fun
  | [d1, d2, d3, d4] => { results := [.lit (.bool true)], args := [d1, d2, d3, d4] }
  | _ => none }
def hushTellsRow : OpenClaim := { program := "ytkckdombcnifnaa", sum := "924048d30d309f6db384ab82fe0b3d2de4c5a16a7bf5db4054f572c7a7709ba8", func := "foghorn/foghornlaw14.HushTells", spec := "hushTells", inPlace := ["internal/bytealg.abigen_runtime_cmpstring"], unfollowed := true, recurses := true, apart := false }
def HushTellsSaid : Prop := hushTellsRow.holds Try.pinned (OpenSpec.ofChange hushTellsSpec)

/-- ITS FALSE NEIGHBOUR: 'it returns false'. Refute it at one input. -/
def hushTellsWrong : ChangeSpec := { name := "hushTells", fn := fun _ => fun
  | [d1, d2, d3, d4] => { results := [.lit (.bool false)], args := [d1, d2, d3, d4] }
  | _ => none }
def HushTellsWrongFalsely : Prop := hushTellsRow.holds Try.pinned (OpenSpec.ofChange hushTellsWrong)

/-- 'foghornlaw14.HushFrees': WHATEVER THE INPUT: true; the input reads as it did. -/
def hushFreesSpec : ChangeSpec := { name := "hushFrees", fn := fun _ => fun
  | [d1, d2, d3, d4] => { results := [.lit (.bool true)], args := [d1, d2, d3, d4] }
  | _ => none }
def hushFreesRow : OpenClaim := { program := "ytkckdombcnifnaa", sum := "924048d30d309f6db384ab82fe0b3d2de4c5a16a7bf5db4054f572c7a7709ba8", func := "foghorn/foghornlaw14.HushFrees", spec := "hushFrees", inPlace := ["internal/bytealg.abigen_runtime_cmpstring"], unfollowed := true, recurses := true, apart := false }
def HushFreesSaid : Prop := hushFreesRow.holds Try.pinned (OpenSpec.ofChange hushFreesSpec)

/-- ITS FALSE NEIGHBOUR: 'it returns false'. Refute it at one input. -/
def hushFreesWrong : ChangeSpec := { name := "hushFrees", fn := fun _ => fun
  | [d1, d2, d3, d4] => { results := [.lit (.bool false)], args := [d1, d2, d3, d4] }
  | _ => none }
def HushFreesWrongFalsely : Prop := hushFreesRow.holds Try.pinned (OpenSpec.ofChange hushFreesWrong)

/-- 'foghornlaw14.HushAdds': WHATEVER THE INPUT: true; the input reads as it did. -/
def hushAddsSpec : ChangeSpec := { name := "hushAdds", fn := fun _ => fun
  | [d1, d2, d3, d4, d5] => { results := [.lit (.bool true)], args := [d1, d2, d3, d4, d5] }
  | _ => none }
def hushAddsRow : OpenClaim := { program := "ytkckdombcnifnaa", sum := "924048d30d309f6db384ab82fe0b3d2de4c5a16a7bf5db4054f572c7a7709ba8", func := "foghorn/foghornlaw14.HushAdds", spec := "hushAdds", inPlace := ["internal/bytealg.abigen_runtime_cmpstring"], unfollowed := true, recurses := true, apart := false }
def HushAddsSaid : Prop := hushAddsRow.holds Try.pinned (OpenSpec.ofChange hushAddsSpec)

/-- ITS FALSE NEIGHBOUR: 'it returns false'. Refute it at one input. -/
def hushAddsWrong : ChangeSpec := { name := "hushAdds", fn := fun _ => fun
  | [d1, d2, d3, d4, d5] => { results := [.lit (.bool false)], args := [d1, d2, d3, d4, d5] }
  | _ => none }
def HushAddsWrongFalsely : Prop := hushAddsRow.holds Try.pinned (OpenSpec.ofChange hushAddsWrong)

/-- 'foghornlaw14.HushTurns': WHATEVER THE INPUT: true; the input reads as it did. -/
def hushTurnsSpec : ChangeSpec := { name := "hushTurns", fn := fun _ => fun
  | [d1, d2, d3, d4] => { results := [.lit (.bool true)], args := [d1, d2, d3, d4] }
  | _ => none }
def hushTurnsRow : OpenClaim := { program := "ytkckdombcnifnaa", sum := "924048d30d309f6db384ab82fe0b3d2de4c5a16a7bf5db4054f572c7a7709ba8", func := "foghorn/foghornlaw14.HushTurns", spec := "hushTurns", inPlace := ["internal/bytealg.abigen_runtime_cmpstring"], unfollowed := true, recurses := true, apart := false }
def HushTurnsSaid : Prop := hushTurnsRow.holds Try.pinned (OpenSpec.ofChange hushTurnsSpec)

/-- ITS FALSE NEIGHBOUR: 'it returns false'. Refute it at one input. -/
def hushTurnsWrong : ChangeSpec := { name := "hushTurns", fn := fun _ => fun
  | [d1, d2, d3, d4] => { results := [.lit (.bool false)], args := [d1, d2, d3, d4] }
  | _ => none }
def HushTurnsWrongFalsely : Prop := hushTurnsRow.holds Try.pinned (OpenSpec.ofChange hushTurnsWrong)

/- THE SECOND FORM. 'bulk': how many values and letters a reading holds, each counted each time it is reached (what is shared counts as often as it is met; a slice's spare places count too). A statement '..UptoSaid' is the law's where the arguments, and the package variables that the reading takes, are together of bulk at most 1048576: NARROWER than '..Said'. Prove '..Said' where nothing that the law and all that it calls make is longer than what came in: it says more and counts as full. Else prove '..UptoSaid'. A law counts once. -/
mutual
def uptoBulk {H : Type} : DataW H → Nat
  | .lit (.string bytes) => bytes.length + 1
  | .lit _ => 1
  | .nil => 1
  | .ptr d => uptoBulk d + 1
  | .slice elems spare => uptoBulkAll elems + uptoBulkAll spare + 1
  | .agg parts => uptoBulkAll parts + 1
  | .iface _ d => uptoBulk d + 1
  | .map entries => uptoBulkEntries entries + 1
  | .held _ => 1
def uptoBulkAll {H : Type} : List (DataW H) → Nat
  | [] => 0
  | d :: r => uptoBulk d + uptoBulkAll r
def uptoBulkEntries {H : Type} : List (Lit × DataW H) → Nat
  | [] => 0
  | x :: r => uptoBulkEntry x + uptoBulkEntries r
def uptoBulkEntry {H : Type} : Lit × DataW H → Nat
  | (.string bytes, d) => bytes.length + uptoBulk d + 1
  | (_, d) => uptoBulk d + 1
 end
def uptoSmall : (H : Type) → List (DataW H) → Bool := fun _ ds => decide (uptoBulkAll ds ≤ 1048576)
def OpenSpec.upto (s : _root_.Go.ChangeSpec) : _root_.Go.OpenSpec := { _root_.Go.OpenSpec.ofChange s with cond := some uptoSmall }

/-- 'foghornlaw14.HushTells', WHERE WHAT IT READS IS OF BULK AT MOST 1048576: true; the input reads as it did. -/
def hushTellsUptoRow : OpenClaim := { program := "ytkckdombcnifnaa", sum := "924048d30d309f6db384ab82fe0b3d2de4c5a16a7bf5db4054f572c7a7709ba8", func := "foghorn/foghornlaw14.HushTells", spec := "hushTells", inPlace := ["internal/bytealg.abigen_runtime_cmpstring"], unfollowed := true, recurses := true, apart := false, narrowed := true }
def HushTellsUptoSaid : Prop := hushTellsUptoRow.holds Try.pinned (OpenSpec.upto hushTellsSpec)

/-- 'foghornlaw14.HushFrees', WHERE WHAT IT READS IS OF BULK AT MOST 1048576: true; the input reads as it did. -/
def hushFreesUptoRow : OpenClaim := { program := "ytkckdombcnifnaa", sum := "924048d30d309f6db384ab82fe0b3d2de4c5a16a7bf5db4054f572c7a7709ba8", func := "foghorn/foghornlaw14.HushFrees", spec := "hushFrees", inPlace := ["internal/bytealg.abigen_runtime_cmpstring"], unfollowed := true, recurses := true, apart := false, narrowed := true }
def HushFreesUptoSaid : Prop := hushFreesUptoRow.holds Try.pinned (OpenSpec.upto hushFreesSpec)

/-- 'foghornlaw14.HushAdds', WHERE WHAT IT READS IS OF BULK AT MOST 1048576: true; the input reads as it did. -/
def hushAddsUptoRow : OpenClaim := { program := "ytkckdombcnifnaa", sum := "924048d30d309f6db384ab82fe0b3d2de4c5a16a7bf5db4054f572c7a7709ba8", func := "foghorn/foghornlaw14.HushAdds", spec := "hushAdds", inPlace := ["internal/bytealg.abigen_runtime_cmpstring"], unfollowed := true, recurses := true, apart := false, narrowed := true }
def HushAddsUptoSaid : Prop := hushAddsUptoRow.holds Try.pinned (OpenSpec.upto hushAddsSpec)

/-- 'foghornlaw14.HushTurns', WHERE WHAT IT READS IS OF BULK AT MOST 1048576: true; the input reads as it did. -/
def hushTurnsUptoRow : OpenClaim := { program := "ytkckdombcnifnaa", sum := "924048d30d309f6db384ab82fe0b3d2de4c5a16a7bf5db4054f572c7a7709ba8", func := "foghorn/foghornlaw14.HushTurns", spec := "hushTurns", inPlace := ["internal/bytealg.abigen_runtime_cmpstring"], unfollowed := true, recurses := true, apart := false, narrowed := true }
def HushTurnsUptoSaid : Prop := hushTurnsUptoRow.holds Try.pinned (OpenSpec.upto hushTurnsSpec)

end Rows
end Go.Proofs.Ytkckdombcnifnaa
