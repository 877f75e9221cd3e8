/-
  No cell of these rows narrows 'for every input' (looked for: loops, veiled, ifaces, maps, wideKeys, modest, calm, conditions, laid).
  DERIVED. THE GIVEN ROWS OF THIS SEAT. 5 by the template 'for every input the law returns true; each argument reads behind the call as it read before'; 0 by the template 'total and deterministic' (their statements: YtghbbpbhbinioaaGreatTotals.lean).
  GIVEN WITH THE SEED: the statements are not yours to turn. If you find one false, say at which input.
  Laid BY PROGRAM, IN A SANDBOX (cutbox-rows.mjs): the forced cells as the released guide's own fill.sh prints them over the translation 8a00b22cd34f9db3… (all of the seat's roots in one cut). By AI agents, Wed Nov 11 2026. No macro, syntax, notation, axiom, sorry.
-/
import Derived.Test.YtghbbpbhbinioaaGreatChecked
import GoSem.Claim
import GoSem.ClaimJoined
import GoSem.ClaimMapViews
import Derived.JoinedTies
import Derived.KernelRfl
namespace Go.Proofs.YtghbbpbhbinioaaGreat
/- THE CELL 'sum', in the pinned program and in every row, IS THE sha256 OF THE DUMP (.gsa) THAT YtghbbpbhbinioaaGreatProg.lean LOADS. Nothing in Lean hashes anything: it is a label: what it is worth is what the hold of that sum in a sandbox is worth. -/
noncomputable def Tryz.pinned : Pinned := { name := "ytghbbpbhbinioaagreat", sum := "8a00b22cd34f9db3c6825b324a3cf495c4eb9a0df067e89465b62639853ee925", checked := Tryz.checked }
namespace Rows
def none {H : Type} : Left H := { results := [], args := [] }

/-- 'easementlaw08.HamtArgs': WHATEVER THE INPUT: true; the input reads as it did. -/
def hamtArgsSpec : ChangeSpec := { name := "hamtArgs", fn := fun _ => fun
  | [d] => { results := [.lit (.bool true)], args := [d] }
  | _ => none }
def hamtArgsRow : OpenClaim := { program := "ytghbbpbhbinioaagreat", sum := "8a00b22cd34f9db3c6825b324a3cf495c4eb9a0df067e89465b62639853ee925", func := "easement/easementlaw08.HamtArgs", spec := "hamtArgs", inPlace := ["sync/atomic.LoadUint32", "(*internal/sync.Mutex).Lock", "internal/race.Disable", "sync/atomic.CompareAndSwapInt32", "internal/race.Enable", "internal/race.Acquire", "(*internal/sync.Mutex).lockSlow", "internal/sync.runtime_canSpin", "internal/sync.runtime_doSpin", "internal/sync.throw", "internal/sync.runtime_nanotime", "internal/sync.runtime_SemacquireMutex", "sync/atomic.AddInt32", "(*internal/sync.Mutex).Unlock", "internal/race.ReleaseMerge", "(*internal/sync.Mutex).unlockSlow", "internal/sync.fatal", "internal/sync.runtime_Semrelease", "sync/atomic.StoreUint32", "sync/atomic.LoadInt64", "sync/atomic.AddInt64", "slices.overlaps[easement/value.Value]", "slices.overlaps[int]"], unfollowed := true, recurses := true, apart := false }
def HamtArgsSaid : Prop := hamtArgsRow.holds Tryz.pinned (OpenSpec.ofChange hamtArgsSpec)

/-- ITS FALSE NEIGHBOUR: 'it returns false'. Refute it at one input. -/
def hamtArgsWrong : ChangeSpec := { name := "hamtArgs", fn := fun _ => fun
  | [d] => { results := [.lit (.bool false)], args := [d] }
  | _ => none }
def HamtArgsWrongFalsely : Prop := hamtArgsRow.holds Tryz.pinned (OpenSpec.ofChange hamtArgsWrong)

/-- 'easementlaw10.HsetChanges': WHATEVER THE INPUT: true; the input reads as it did. -/
def hsetChangesSpec : ChangeSpec := { name := "hsetChanges", fn := fun _ => fun
  | [d1, d2, d3] => { results := [.lit (.bool true)], args := [d1, d2, d3] }
  | _ => none }
def hsetChangesRow : OpenClaim := { program := "ytghbbpbhbinioaagreat", sum := "8a00b22cd34f9db3c6825b324a3cf495c4eb9a0df067e89465b62639853ee925", func := "easement/easementlaw10.HsetChanges", spec := "hsetChanges", inPlace := ["sync/atomic.LoadUint32", "(*internal/sync.Mutex).Lock", "internal/race.Disable", "sync/atomic.CompareAndSwapInt32", "internal/race.Enable", "internal/race.Acquire", "(*internal/sync.Mutex).lockSlow", "internal/sync.runtime_canSpin", "internal/sync.runtime_doSpin", "internal/sync.throw", "internal/sync.runtime_nanotime", "internal/sync.runtime_SemacquireMutex", "sync/atomic.AddInt32", "(*internal/sync.Mutex).Unlock", "internal/race.ReleaseMerge", "(*internal/sync.Mutex).unlockSlow", "internal/sync.fatal", "internal/sync.runtime_Semrelease", "sync/atomic.StoreUint32", "sync/atomic.LoadInt64", "sync/atomic.AddInt64", "slices.overlaps[easement/value.Value]", "slices.overlaps[int]"], unfollowed := true, recurses := true, apart := false }
def HsetChangesSaid : Prop := hsetChangesRow.holds Tryz.pinned (OpenSpec.ofChange hsetChangesSpec)

/-- ITS FALSE NEIGHBOUR: 'it returns false'. Refute it at one input. -/
def hsetChangesWrong : ChangeSpec := { name := "hsetChanges", fn := fun _ => fun
  | [d1, d2, d3] => { results := [.lit (.bool false)], args := [d1, d2, d3] }
  | _ => none }
def HsetChangesWrongFalsely : Prop := hsetChangesRow.holds Tryz.pinned (OpenSpec.ofChange hsetChangesWrong)

/-- 'easementlaw11.TreapActs': WHATEVER THE INPUT: true; the input reads as it did. -/
def treapActsSpec : ChangeSpec := { name := "treapActs", fn := fun _ => fun
  | [d1, d2] => { results := [.lit (.bool true)], args := [d1, d2] }
  | _ => none }
def treapActsRow : OpenClaim := { program := "ytghbbpbhbinioaagreat", sum := "8a00b22cd34f9db3c6825b324a3cf495c4eb9a0df067e89465b62639853ee925", func := "easement/easementlaw11.TreapActs", spec := "treapActs", inPlace := ["sync/atomic.LoadInt64", "sync/atomic.AddInt64", "sync/atomic.LoadUint32", "(*internal/sync.Mutex).Lock", "internal/race.Disable", "sync/atomic.CompareAndSwapInt32", "internal/race.Enable", "internal/race.Acquire", "(*internal/sync.Mutex).lockSlow", "internal/sync.runtime_canSpin", "internal/sync.runtime_doSpin", "internal/sync.throw", "internal/sync.runtime_nanotime", "internal/sync.runtime_SemacquireMutex", "sync/atomic.AddInt32", "(*internal/sync.Mutex).Unlock", "internal/race.ReleaseMerge", "(*internal/sync.Mutex).unlockSlow", "internal/sync.fatal", "internal/sync.runtime_Semrelease", "sync/atomic.StoreUint32"], unfollowed := true, recurses := true, apart := false }
def TreapActsSaid : Prop := treapActsRow.holds Tryz.pinned (OpenSpec.ofChange treapActsSpec)

/-- ITS FALSE NEIGHBOUR: 'it returns false'. Refute it at one input. -/
def treapActsWrong : ChangeSpec := { name := "treapActs", fn := fun _ => fun
  | [d1, d2] => { results := [.lit (.bool false)], args := [d1, d2] }
  | _ => none }
def TreapActsWrongFalsely : Prop := treapActsRow.holds Tryz.pinned (OpenSpec.ofChange treapActsWrong)

/-- 'easementlaw11.TreapRoom': WHATEVER THE INPUT: true; the input reads as it did. -/
def treapRoomSpec : ChangeSpec := { name := "treapRoom", fn := fun _ => fun
  | [d1, d2, d3] => { results := [.lit (.bool true)], args := [d1, d2, d3] }
  | _ => none }
def treapRoomRow : OpenClaim := { program := "ytghbbpbhbinioaagreat", sum := "8a00b22cd34f9db3c6825b324a3cf495c4eb9a0df067e89465b62639853ee925", func := "easement/easementlaw11.TreapRoom", spec := "treapRoom", inPlace := ["sync/atomic.LoadInt64", "sync/atomic.AddInt64", "sync/atomic.LoadUint32", "(*internal/sync.Mutex).Lock", "internal/race.Disable", "sync/atomic.CompareAndSwapInt32", "internal/race.Enable", "internal/race.Acquire", "(*internal/sync.Mutex).lockSlow", "internal/sync.runtime_canSpin", "internal/sync.runtime_doSpin", "internal/sync.throw", "internal/sync.runtime_nanotime", "internal/sync.runtime_SemacquireMutex", "sync/atomic.AddInt32", "(*internal/sync.Mutex).Unlock", "internal/race.ReleaseMerge", "(*internal/sync.Mutex).unlockSlow", "internal/sync.fatal", "internal/sync.runtime_Semrelease", "sync/atomic.StoreUint32"], unfollowed := true, recurses := true, apart := false }
def TreapRoomSaid : Prop := treapRoomRow.holds Tryz.pinned (OpenSpec.ofChange treapRoomSpec)

/-- ITS FALSE NEIGHBOUR: 'it returns false'. Refute it at one input. -/
def treapRoomWrong : ChangeSpec := { name := "treapRoom", fn := fun _ => fun
  | [d1, d2, d3] => { results := [.lit (.bool false)], args := [d1, d2, d3] }
  | _ => none }
def TreapRoomWrongFalsely : Prop := treapRoomRow.holds Tryz.pinned (OpenSpec.ofChange treapRoomWrong)

/-- 'easementlaw11.TreapArgs': WHATEVER THE INPUT: true; the input reads as it did. -/
def treapArgsSpec : ChangeSpec := { name := "treapArgs", fn := fun _ => fun
  | [d] => { results := [.lit (.bool true)], args := [d] }
  | _ => none }
def treapArgsRow : OpenClaim := { program := "ytghbbpbhbinioaagreat", sum := "8a00b22cd34f9db3c6825b324a3cf495c4eb9a0df067e89465b62639853ee925", func := "easement/easementlaw11.TreapArgs", spec := "treapArgs", inPlace := ["sync/atomic.LoadInt64", "sync/atomic.AddInt64", "sync/atomic.LoadUint32", "(*internal/sync.Mutex).Lock", "internal/race.Disable", "sync/atomic.CompareAndSwapInt32", "internal/race.Enable", "internal/race.Acquire", "(*internal/sync.Mutex).lockSlow", "internal/sync.runtime_canSpin", "internal/sync.runtime_doSpin", "internal/sync.throw", "internal/sync.runtime_nanotime", "internal/sync.runtime_SemacquireMutex", "sync/atomic.AddInt32", "(*internal/sync.Mutex).Unlock", "internal/race.ReleaseMerge", "(*internal/sync.Mutex).unlockSlow", "internal/sync.fatal", "internal/sync.runtime_Semrelease", "sync/atomic.StoreUint32"], unfollowed := true, recurses := true, apart := false }
def TreapArgsSaid : Prop := treapArgsRow.holds Tryz.pinned (OpenSpec.ofChange treapArgsSpec)

/-- ITS FALSE NEIGHBOUR: 'it returns false'. Refute it at one input. -/
def treapArgsWrong : ChangeSpec := { name := "treapArgs", fn := fun _ => fun
  | [d] => { results := [.lit (.bool false)], args := [d] }
  | _ => none }
def TreapArgsWrongFalsely : Prop := treapArgsRow.holds Tryz.pinned (OpenSpec.ofChange treapArgsWrong)

/- THE SECOND FORM. 'bulk': how many values and letters a reading holds, each counted each time it is reached (what is shared counts as often as it is met; a slice's spare places count too). A statement '..UptoSaid' is the law's where the arguments, and the package variables that the reading takes, are together of bulk at most 1048576: NARROWER than '..Said'. Prove '..Said' where nothing that the law and all that it calls make is longer than what came in: it says more and counts as full. Else prove '..UptoSaid'. A law counts once. -/
mutual
def uptoBulk {H : Type} : DataW H → Nat
  | .lit (.string bytes) => bytes.length + 1
  | .lit _ => 1
  | .nil => 1
  | .ptr d => uptoBulk d + 1
  | .slice elems spare => uptoBulkAll elems + uptoBulkAll spare + 1
  | .agg parts => uptoBulkAll parts + 1
  | .iface _ d => uptoBulk d + 1
  | .map entries => uptoBulkEntries entries + 1
  | .held _ => 1
def uptoBulkAll {H : Type} : List (DataW H) → Nat
  | [] => 0
  | d :: r => uptoBulk d + uptoBulkAll r
def uptoBulkEntries {H : Type} : List (Lit × DataW H) → Nat
  | [] => 0
  | x :: r => uptoBulkEntry x + uptoBulkEntries r
def uptoBulkEntry {H : Type} : Lit × DataW H → Nat
  | (.string bytes, d) => bytes.length + uptoBulk d + 1
  | (_, d) => uptoBulk d + 1
 end
def uptoSmall : (H : Type) → List (DataW H) → Bool := fun _ ds => decide (uptoBulkAll ds ≤ 1048576)
def OpenSpec.upto (s : _root_.Go.ChangeSpec) : _root_.Go.OpenSpec := { _root_.Go.OpenSpec.ofChange s with cond := some uptoSmall }

/-- 'easementlaw08.HamtArgs', WHERE WHAT IT READS IS OF BULK AT MOST 1048576: true; the input reads as it did. -/
def hamtArgsUptoRow : OpenClaim := { program := "ytghbbpbhbinioaagreat", sum := "8a00b22cd34f9db3c6825b324a3cf495c4eb9a0df067e89465b62639853ee925", func := "easement/easementlaw08.HamtArgs", spec := "hamtArgs", inPlace := ["sync/atomic.LoadUint32", "(*internal/sync.Mutex).Lock", "internal/race.Disable", "sync/atomic.CompareAndSwapInt32", "internal/race.Enable", "internal/race.Acquire", "(*internal/sync.Mutex).lockSlow", "internal/sync.runtime_canSpin", "internal/sync.runtime_doSpin", "internal/sync.throw", "internal/sync.runtime_nanotime", "internal/sync.runtime_SemacquireMutex", "sync/atomic.AddInt32", "(*internal/sync.Mutex).Unlock", "internal/race.ReleaseMerge", "(*internal/sync.Mutex).unlockSlow", "internal/sync.fatal", "internal/sync.runtime_Semrelease", "sync/atomic.StoreUint32", "sync/atomic.LoadInt64", "sync/atomic.AddInt64", "slices.overlaps[easement/value.Value]", "slices.overlaps[int]"], unfollowed := true, recurses := true, apart := false, narrowed := true }
def HamtArgsUptoSaid : Prop := hamtArgsUptoRow.holds Tryz.pinned (OpenSpec.upto hamtArgsSpec)

/-- 'easementlaw10.HsetChanges', WHERE WHAT IT READS IS OF BULK AT MOST 1048576: true; the input reads as it did. -/
def hsetChangesUptoRow : OpenClaim := { program := "ytghbbpbhbinioaagreat", sum := "8a00b22cd34f9db3c6825b324a3cf495c4eb9a0df067e89465b62639853ee925", func := "easement/easementlaw10.HsetChanges", spec := "hsetChanges", inPlace := ["sync/atomic.LoadUint32", "(*internal/sync.Mutex).Lock", "internal/race.Disable", "sync/atomic.CompareAndSwapInt32", "internal/race.Enable", "internal/race.Acquire", "(*internal/sync.Mutex).lockSlow", "internal/sync.runtime_canSpin", "internal/sync.runtime_doSpin", "internal/sync.throw", "internal/sync.runtime_nanotime", "internal/sync.runtime_SemacquireMutex", "sync/atomic.AddInt32", "(*internal/sync.Mutex).Unlock", "internal/race.ReleaseMerge", "(*internal/sync.Mutex).unlockSlow", "internal/sync.fatal", "internal/sync.runtime_Semrelease", "sync/atomic.StoreUint32", "sync/atomic.LoadInt64", "sync/atomic.AddInt64", "slices.overlaps[easement/value.Value]", "slices.overlaps[int]"], unfollowed := true, recurses := true, apart := false, narrowed := true }
def HsetChangesUptoSaid : Prop := hsetChangesUptoRow.holds Tryz.pinned (OpenSpec.upto hsetChangesSpec)

/-- 'easementlaw11.TreapActs', WHERE WHAT IT READS IS OF BULK AT MOST 1048576: true; the input reads as it did. -/
def treapActsUptoRow : OpenClaim := { program := "ytghbbpbhbinioaagreat", sum := "8a00b22cd34f9db3c6825b324a3cf495c4eb9a0df067e89465b62639853ee925", func := "easement/easementlaw11.TreapActs", spec := "treapActs", inPlace := ["sync/atomic.LoadInt64", "sync/atomic.AddInt64", "sync/atomic.LoadUint32", "(*internal/sync.Mutex).Lock", "internal/race.Disable", "sync/atomic.CompareAndSwapInt32", "internal/race.Enable", "internal/race.Acquire", "(*internal/sync.Mutex).lockSlow", "internal/sync.runtime_canSpin", "internal/sync.runtime_doSpin", "internal/sync.throw", "internal/sync.runtime_nanotime", "internal/sync.runtime_SemacquireMutex", "sync/atomic.AddInt32", "(*internal/sync.Mutex).Unlock", "internal/race.ReleaseMerge", "(*internal/sync.Mutex).unlockSlow", "internal/sync.fatal", "internal/sync.runtime_Semrelease", "sync/atomic.StoreUint32"], unfollowed := true, recurses := true, apart := false, narrowed := true }
def TreapActsUptoSaid : Prop := treapActsUptoRow.holds Tryz.pinned (OpenSpec.upto treapActsSpec)

/-- 'easementlaw11.TreapRoom', WHERE WHAT IT READS IS OF BULK AT MOST 1048576: true; the input reads as it did. -/
def treapRoomUptoRow : OpenClaim := { program := "ytghbbpbhbinioaagreat", sum := "8a00b22cd34f9db3c6825b324a3cf495c4eb9a0df067e89465b62639853ee925", func := "easement/easementlaw11.TreapRoom", spec := "treapRoom", inPlace := ["sync/atomic.LoadInt64", "sync/atomic.AddInt64", "sync/atomic.LoadUint32", "(*internal/sync.Mutex).Lock", "internal/race.Disable", "sync/atomic.CompareAndSwapInt32", "internal/race.Enable", "internal/race.Acquire", "(*internal/sync.Mutex).lockSlow", "internal/sync.runtime_canSpin", "internal/sync.runtime_doSpin", "internal/sync.throw", "internal/sync.runtime_nanotime", "internal/sync.runtime_SemacquireMutex", "sync/atomic.AddInt32", "(*internal/sync.Mutex).Unlock", "internal/race.ReleaseMerge", "(*internal/sync.Mutex).unlockSlow", "internal/sync.fatal", "internal/sync.runtime_Semrelease", "sync/atomic.StoreUint32"], unfollowed := true, recurses := true, apart := false, narrowed := true }
def TreapRoomUptoSaid : Prop := treapRoomUptoRow.holds Tryz.pinned (OpenSpec.upto treapRoomSpec)

/-- 'easementlaw11.TreapArgs', WHERE WHAT IT READS IS OF BULK AT MOST 1048576: true; the input reads as it did. -/
def treapArgsUptoRow : OpenClaim := { program := "ytghbbpbhbinioaagreat", sum := "8a00b22cd34f9db3c6825b324a3cf495c4eb9a0df067e89465b62639853ee925", func := "easement/easementlaw11.TreapArgs", spec := "treapArgs", inPlace := ["sync/atomic.LoadInt64", "sync/atomic.AddInt64", "sync/atomic.LoadUint32", "(*internal/sync.Mutex).Lock", "internal/race.Disable", "sync/atomic.CompareAndSwapInt32", "internal/race.Enable", "internal/race.Acquire", "(*internal/sync.Mutex).lockSlow", "internal/sync.runtime_canSpin", "internal/sync.runtime_doSpin", "internal/sync.throw", "internal/sync.runtime_nanotime", "internal/sync.runtime_SemacquireMutex", "sync/atomic.AddInt32", "(*internal/sync.Mutex).Unlock", "internal/race.ReleaseMerge", "(*internal/sync.Mutex).unlockSlow", "internal/sync.fatal", "internal/sync.runtime_Semrelease", "sync/atomic.StoreUint32"], unfollowed := true, recurses := true, apart := false, narrowed := true }
def TreapArgsUptoSaid : Prop := treapArgsUptoRow.holds Tryz.pinned (OpenSpec.upto treapArgsSpec)

end Rows
end Go.Proofs.YtghbbpbhbinioaaGreat
