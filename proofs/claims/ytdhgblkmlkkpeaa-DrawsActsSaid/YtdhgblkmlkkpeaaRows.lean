/-
  No cell of these rows narrows 'for every input' (looked for: loops, veiled, ifaces, maps, wideKeys, modest, calm, conditions, laid).
  DERIVED. THE GIVEN ROWS OF THIS SEAT. 2 by the template 'for every input the law returns true; each argument reads behind the call as it read before'; 0 by the template 'total and deterministic' (their statements: YtdhgblkmlkkpeaaTotals.lean).
  GIVEN WITH THE SEED: the statements are not yours to turn. If you find one false, say at which input.
  Laid BY PROGRAM, IN A SANDBOX (cutbox-rows.mjs): the forced cells as the released guide's own fill.sh prints them over the translation 02800f81e0579447… (all of the seat's roots in one cut). By AI agents, Wed Nov 11 2026. No macro, syntax, notation, axiom, sorry.
-/
import Derived.Test.YtdhgblkmlkkpeaaChecked
import GoSem.Claim
import GoSem.ClaimJoined
import GoSem.ClaimMapViews
import Derived.JoinedTies
import Derived.KernelRfl
namespace Go.Proofs.Ytdhgblkmlkkpeaa
/- THE CELL 'sum', in the pinned program and in every row, IS THE sha256 OF THE DUMP (.gsa) THAT YtdhgblkmlkkpeaaProg.lean LOADS. Nothing in Lean hashes anything: it is a label: what it is worth is what the hold of that sum in a sandbox is worth. -/
noncomputable def Try.pinned : Pinned := { name := "ytdhgblkmlkkpeaa", sum := "02800f81e05794470b0ffd4545151e3ac94eb0b3e10090ae92b3655ec9395814", checked := Try.checked }
namespace Rows
def none {H : Type} : Left H := { results := [], args := [] }

/-- 'easementlaw15.DrawsActs': WHATEVER THE INPUT: true; the input reads as it did. -/
def drawsActsSpec : ChangeSpec := { name := "drawsActs", fn := fun _ => fun
  | [d1, d2] => { results := [.lit (.bool true)], args := [d1, d2] }
  | _ => none }
def drawsActsRow : OpenClaim := { program := "ytdhgblkmlkkpeaa", sum := "02800f81e05794470b0ffd4545151e3ac94eb0b3e10090ae92b3655ec9395814", func := "easement/easementlaw15.DrawsActs", spec := "drawsActs", unfollowed := true, recurses := true, apart := false }
def DrawsActsSaid : Prop := drawsActsRow.holds Try.pinned (OpenSpec.ofChange drawsActsSpec)

/-- ITS FALSE NEIGHBOUR: 'it returns false'. Refute it at one input. -/
def drawsActsWrong : ChangeSpec := { name := "drawsActs", fn := fun _ => fun
  | [d1, d2] => { results := [.lit (.bool false)], args := [d1, d2] }
  | _ => none }
def DrawsActsWrongFalsely : Prop := drawsActsRow.holds Try.pinned (OpenSpec.ofChange drawsActsWrong)

/-- 'easementlaw15.DrawsNil': WHATEVER THE INPUT: true; the input reads as it did. -/
def drawsNilSpec : ChangeSpec := { name := "drawsNil", fn := fun _ => fun
  | [d] => { results := [.lit (.bool true)], args := [d] }
  | _ => none }
def drawsNilRow : OpenClaim := { program := "ytdhgblkmlkkpeaa", sum := "02800f81e05794470b0ffd4545151e3ac94eb0b3e10090ae92b3655ec9395814", func := "easement/easementlaw15.DrawsNil", spec := "drawsNil", unfollowed := true, recurses := true, apart := false }
def DrawsNilSaid : Prop := drawsNilRow.holds Try.pinned (OpenSpec.ofChange drawsNilSpec)

/-- ITS FALSE NEIGHBOUR: 'it returns false'. Refute it at one input. -/
def drawsNilWrong : ChangeSpec := { name := "drawsNil", fn := fun _ => fun
  | [d] => { results := [.lit (.bool false)], args := [d] }
  | _ => none }
def DrawsNilWrongFalsely : Prop := drawsNilRow.holds Try.pinned (OpenSpec.ofChange drawsNilWrong)

/- THE SECOND FORM. 'bulk': how many values and letters a reading holds, each counted each time it is reached (what is shared counts as often as it is met; a slice's spare places count too). A statement '..UptoSaid' is the law's where the arguments, and the package variables that the reading takes, are together of bulk at most 1048576: NARROWER than '..Said'. Prove '..Said' where nothing that the law and all that it calls make is longer than what came in: it says more and counts as full. Else prove '..UptoSaid'. A law counts once. -/
mutual
def uptoBulk {H : Type} : DataW H → Nat
  | .lit (.string bytes) => bytes.length + 1
  | .lit _ => 1
  | .nil => 1
  | .ptr d => uptoBulk d + 1
  | .slice elems spare => uptoBulkAll elems + uptoBulkAll spare + 1
  | .agg parts => uptoBulkAll parts + 1
  | .iface _ d => uptoBulk d + 1
  | .map entries => uptoBulkEntries entries + 1
  | .held _ => 1
def uptoBulkAll {H : Type} : List (DataW H) → Nat
  | [] => 0
  | d :: r => uptoBulk d + uptoBulkAll r
def uptoBulkEntries {H : Type} : List (Lit × DataW H) → Nat
  | [] => 0
  | x :: r => uptoBulkEntry x + uptoBulkEntries r
def uptoBulkEntry {H : Type} : Lit × DataW H → Nat
  | (.string bytes, d) => bytes.length + uptoBulk d + 1
  | (_, d) => uptoBulk d + 1
 end
def uptoSmall : (H : Type) → List (DataW H) → Bool := fun _ ds => decide (uptoBulkAll ds ≤ 1048576)
def OpenSpec.upto (s : _root_.Go.ChangeSpec) : _root_.Go.OpenSpec := { _root_.Go.OpenSpec.ofChange s with cond := some uptoSmall }

/-- 'easementlaw15.DrawsActs', WHERE WHAT IT READS IS OF BULK AT MOST 1048576: true; the input reads as it did. -/
def drawsActsUptoRow : OpenClaim := { program := "ytdhgblkmlkkpeaa", sum := "02800f81e05794470b0ffd4545151e3ac94eb0b3e10090ae92b3655ec9395814", func := "easement/easementlaw15.DrawsActs", spec := "drawsActs", unfollowed := true, recurses := true, apart := false, narrowed := true }
def DrawsActsUptoSaid : Prop := drawsActsUptoRow.holds Try.pinned (OpenSpec.upto drawsActsSpec)

/-- 'easementlaw15.DrawsNil', WHERE WHAT IT READS IS OF BULK AT MOST 1048576: true; the input reads as it did. -/
def drawsNilUptoRow : OpenClaim := { program := "ytdhgblkmlkkpeaa", sum := "02800f81e05794470b0ffd4545151e3ac94eb0b3e10090ae92b3655ec9395814", func := "easement/easementlaw15.DrawsNil", spec := "drawsNil", unfollowed := true, recurses := true, apart := false, narrowed := true }
def DrawsNilUptoSaid : Prop := drawsNilUptoRow.holds Try.pinned (OpenSpec.upto drawsNilSpec)

end Rows
end Go.Proofs.Ytdhgblkmlkkpeaa
