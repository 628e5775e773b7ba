/-
  No cell of these rows narrows 'for every input' (looked for: loops, veiled, ifaces, maps, wideKeys, modest, calm, conditions, laid).
  DERIVED. THE GIVEN ROWS OF THIS SEAT. 4 by the template 'for every input the law returns true; each argument reads behind the call as it read before'; 0 by the template 'total and deterministic' (their statements: YtjbhgjaklmpkjaaTotals.lean).
  GIVEN WITH THE SEED: the statements are not yours to turn. If you find one false, say at which input.
  Laid BY PROGRAM, IN A SANDBOX (cutbox-rows.mjs): the forced cells as the released guide's own fill.sh prints them over the translation 688e5dfe8f9e59aa… (all of the seat's roots in one cut). By AI agents, Wed Nov 11 2026. No macro, syntax, notation, axiom, sorry.
-/
import Derived.Test.YtjbhgjaklmpkjaaChecked
import GoSem.Claim
import GoSem.ClaimJoined
import GoSem.ClaimMapViews
import Derived.JoinedTies
import Derived.KernelRfl
namespace Go.Proofs.Ytjbhgjaklmpkjaa
/- THE CELL 'sum', in the pinned program and in every row, IS THE sha256 OF THE DUMP (.gsa) THAT YtjbhgjaklmpkjaaProg.lean LOADS. Nothing in Lean hashes anything: it is a label: what it is worth is what the hold of that sum in a sandbox is worth. -/
noncomputable def Try.pinned : Pinned := { name := "ytjbhgjaklmpkjaa", sum := "688e5dfe8f9e59aad235fe4ec7acd4896597b88127c6bcec245f7a40d53f6895", checked := Try.checked }
namespace Rows
def none {H : Type} : Left H := { results := [], args := [] }

/-- 'billiardlaw05.BodyMatchesReference': WHATEVER THE INPUT: true; the input reads as it did. -/
def bodyMatchesReferenceSpec : ChangeSpec := { name := "bodyMatchesReference", fn := fun _ => fun
  | [d1, d2] => { results := [.lit (.bool true)], args := [d1, d2] }
  | _ => none }
def bodyMatchesReferenceRow : OpenClaim := { program := "ytjbhgjaklmpkjaa", sum := "688e5dfe8f9e59aad235fe4ec7acd4896597b88127c6bcec245f7a40d53f6895", func := "billiard/billiardlaw05.BodyMatchesReference", spec := "bodyMatchesReference", unfollowed := true, recurses := true, apart := false }
def BodyMatchesReferenceSaid : Prop := bodyMatchesReferenceRow.holds Try.pinned (OpenSpec.ofChange bodyMatchesReferenceSpec)

/-- ITS FALSE NEIGHBOUR: 'it returns false'. Refute it at one input. -/
def bodyMatchesReferenceWrong : ChangeSpec := { name := "bodyMatchesReference", fn := fun _ => fun
  | [d1, d2] => { results := [.lit (.bool false)], args := [d1, d2] }
  | _ => none }
def BodyMatchesReferenceWrongFalsely : Prop := bodyMatchesReferenceRow.holds Try.pinned (OpenSpec.ofChange bodyMatchesReferenceWrong)

/-- 'billiardlaw05.BodyChecks': WHATEVER THE INPUT: true; the input reads as it did. -/
def bodyChecksSpec : ChangeSpec := { name := "bodyChecks", fn := fun _ => fun
  | [d1, d2, d3] => { results := [.lit (.bool true)], args := [d1, d2, d3] }
  | _ => none }
def bodyChecksRow : OpenClaim := { program := "ytjbhgjaklmpkjaa", sum := "688e5dfe8f9e59aad235fe4ec7acd4896597b88127c6bcec245f7a40d53f6895", func := "billiard/billiardlaw05.BodyChecks", spec := "bodyChecks", unfollowed := true, recurses := true, apart := false }
def BodyChecksSaid : Prop := bodyChecksRow.holds Try.pinned (OpenSpec.ofChange bodyChecksSpec)

/-- ITS FALSE NEIGHBOUR: 'it returns false'. Refute it at one input. -/
def bodyChecksWrong : ChangeSpec := { name := "bodyChecks", fn := fun _ => fun
  | [d1, d2, d3] => { results := [.lit (.bool false)], args := [d1, d2, d3] }
  | _ => none }
def BodyChecksWrongFalsely : Prop := bodyChecksRow.holds Try.pinned (OpenSpec.ofChange bodyChecksWrong)

/-- 'billiardlaw05.BodyEnds': WHATEVER THE INPUT: true; the input reads as it did. -/
def bodyEndsSpec : ChangeSpec := { name := "bodyEnds", fn := fun _ => fun
  | [d1, d2] => { results := [.lit (.bool true)], args := [d1, d2] }
  | _ => none }
def bodyEndsRow : OpenClaim := { program := "ytjbhgjaklmpkjaa", sum := "688e5dfe8f9e59aad235fe4ec7acd4896597b88127c6bcec245f7a40d53f6895", func := "billiard/billiardlaw05.BodyEnds", spec := "bodyEnds", unfollowed := true, recurses := true, apart := false }
def BodyEndsSaid : Prop := bodyEndsRow.holds Try.pinned (OpenSpec.ofChange bodyEndsSpec)

/-- ITS FALSE NEIGHBOUR: 'it returns false'. Refute it at one input. -/
def bodyEndsWrong : ChangeSpec := { name := "bodyEnds", fn := fun _ => fun
  | [d1, d2] => { results := [.lit (.bool false)], args := [d1, d2] }
  | _ => none }
def BodyEndsWrongFalsely : Prop := bodyEndsRow.holds Try.pinned (OpenSpec.ofChange bodyEndsWrong)

/-- 'billiardlaw05.BodyMirrors': WHATEVER THE INPUT: true; the input reads as it did. -/
def bodyMirrorsSpec : ChangeSpec := { name := "bodyMirrors", fn := fun _ => fun
  | [d1, d2] => { results := [.lit (.bool true)], args := [d1, d2] }
  | _ => none }
def bodyMirrorsRow : OpenClaim := { program := "ytjbhgjaklmpkjaa", sum := "688e5dfe8f9e59aad235fe4ec7acd4896597b88127c6bcec245f7a40d53f6895", func := "billiard/billiardlaw05.BodyMirrors", spec := "bodyMirrors", unfollowed := true, recurses := true, apart := false }
def BodyMirrorsSaid : Prop := bodyMirrorsRow.holds Try.pinned (OpenSpec.ofChange bodyMirrorsSpec)

/-- ITS FALSE NEIGHBOUR: 'it returns false'. Refute it at one input. -/
def bodyMirrorsWrong : ChangeSpec := { name := "bodyMirrors", fn := fun _ => fun
  | [d1, d2] => { results := [.lit (.bool false)], args := [d1, d2] }
  | _ => none }
def BodyMirrorsWrongFalsely : Prop := bodyMirrorsRow.holds Try.pinned (OpenSpec.ofChange bodyMirrorsWrong)

/- THE SECOND FORM. 'bulk': how many values and letters a reading holds, each counted each time it is reached (what is shared counts as often as it is met; a slice's spare places count too). A statement '..UptoSaid' is the law's where the arguments, and the package variables that the reading takes, are together of bulk at most 1048576: NARROWER than '..Said'. Prove '..Said' where nothing that the law and all that it calls make is longer than what came in: it says more and counts as full. Else prove '..UptoSaid'. A law counts once. -/
mutual
def uptoBulk {H : Type} : DataW H → Nat
  | .lit (.string bytes) => bytes.length + 1
  | .lit _ => 1
  | .nil => 1
  | .ptr d => uptoBulk d + 1
  | .slice elems spare => uptoBulkAll elems + uptoBulkAll spare + 1
  | .agg parts => uptoBulkAll parts + 1
  | .iface _ d => uptoBulk d + 1
  | .map entries => uptoBulkEntries entries + 1
  | .held _ => 1
def uptoBulkAll {H : Type} : List (DataW H) → Nat
  | [] => 0
  | d :: r => uptoBulk d + uptoBulkAll r
def uptoBulkEntries {H : Type} : List (Lit × DataW H) → Nat
  | [] => 0
  | x :: r => uptoBulkEntry x + uptoBulkEntries r
def uptoBulkEntry {H : Type} : Lit × DataW H → Nat
  | (.string bytes, d) => bytes.length + uptoBulk d + 1
  | (_, d) => uptoBulk d + 1
 end
def uptoSmall : (H : Type) → List (DataW H) → Bool := fun _ ds => decide (uptoBulkAll ds ≤ 1048576)
def OpenSpec.upto (s : _root_.Go.ChangeSpec) : _root_.Go.OpenSpec := { _root_.Go.OpenSpec.ofChange s with cond := some uptoSmall }

/-- 'billiardlaw05.BodyMatchesReference', WHERE WHAT IT READS IS OF BULK AT MOST 1048576: true; the input reads as it did. -/
def bodyMatchesReferenceUptoRow : OpenClaim := { program := "ytjbhgjaklmpkjaa", sum := "688e5dfe8f9e59aad235fe4ec7acd4896597b88127c6bcec245f7a40d53f6895", func := "billiard/billiardlaw05.BodyMatchesReference", spec := "bodyMatchesReference", unfollowed := true, recurses := true, apart := false, narrowed := true }
def BodyMatchesReferenceUptoSaid : Prop := bodyMatchesReferenceUptoRow.holds Try.pinned (OpenSpec.upto bodyMatchesReferenceSpec)

/-- 'billiardlaw05.BodyChecks', WHERE WHAT IT READS IS OF BULK AT MOST 1048576: true; the input reads as it did. -/
def bodyChecksUptoRow : OpenClaim := { program := "ytjbhgjaklmpkjaa", sum := "688e5dfe8f9e59aad235fe4ec7acd4896597b88127c6bcec245f7a40d53f6895", func := "billiard/billiardlaw05.BodyChecks", spec := "bodyChecks", unfollowed := true, recurses := true, apart := false, narrowed := true }
def BodyChecksUptoSaid : Prop := bodyChecksUptoRow.holds Try.pinned (OpenSpec.upto bodyChecksSpec)

/-- 'billiardlaw05.BodyEnds', WHERE WHAT IT READS IS OF BULK AT MOST 1048576: true; the input reads as it did. -/
def bodyEndsUptoRow : OpenClaim := { program := "ytjbhgjaklmpkjaa", sum := "688e5dfe8f9e59aad235fe4ec7acd4896597b88127c6bcec245f7a40d53f6895", func := "billiard/billiardlaw05.BodyEnds", spec := "bodyEnds", unfollowed := true, recurses := true, apart := false, narrowed := true }
def BodyEndsUptoSaid : Prop := bodyEndsUptoRow.holds Try.pinned (OpenSpec.upto bodyEndsSpec)

/-- 'billiardlaw05.BodyMirrors', WHERE WHAT IT READS IS OF BULK AT MOST 1048576: true; the input reads as it did. -/
def bodyMirrorsUptoRow : OpenClaim := { program := "ytjbhgjaklmpkjaa", sum := "688e5dfe8f9e59aad235fe4ec7acd4896597b88127c6bcec245f7a40d53f6895", func := "billiard/billiardlaw05.BodyMirrors", spec := "bodyMirrors", unfollowed := true, recurses := true, apart := false, narrowed := true }
def BodyMirrorsUptoSaid : Prop := bodyMirrorsUptoRow.holds Try.pinned (OpenSpec.upto bodyMirrorsSpec)

end Rows
end Go.Proofs.Ytjbhgjaklmpkjaa
