/- For any list of acts on several vectors, some of them owned (Push, Set and Pop, one vector more, one fewer, one owned, one not): each has what the document says, no other one changes, each error is the document's, and at last no cell is live (PvecActs returns true; the argument reads as it did). No condition. -/
import Derived.Test.YtgkhbnkbhcginaaRows
import Derived.Test.YtgkhbnkbhcginaaWalkA06
import Derived.Test.YtgkhbnkbhcginaaFits06
import Derived.OpenShut
import Derived.Lib.SmallJoins
import Derived.SizedLaws
namespace Go.Proofs.Ytgkhbnkbhcginaa.pvecActs
open Go.ChangeShapes Go.WideShapes Go.ChangeAt Go.RowKit Go.Joins Go.Deep

theorem own : ownKnob Try.prog.godebug = none := by kernel_rfl
theorem laidOut : laidOutB Try.prog = true := by kernel_rfl
theorem abytes : Try.prog.bytesOf 40 = 56 := by kernel_rfl

theorem walk (A : Option Addr) (l : List Ac) (c : Nat) (w : World) (h : Acts w A l) (hf : ∀ a ∈ l, a.Fits) (hl : l.length ≤ 140737488355328) :
    Calls Try.prog 3 #[.slice A l.length c] w fun e w' => e = .returned (.bool true) ∧ Below w.heap.size w w' := by
  cases hb : fitsB l with
  | true => exact walkA A l c w h hf hl hb
  | false => exact walkA_no A l c w h hf hl hb

set_option maxRecDepth 100000 in
theorem lifted (os : Os) (started : os.Started) (H : Type) (enc : TypeId × Value → H) :
    ReturnsInHanded {} Try.checked os 3 .any (Rows.pvecActsSpec.pre6 enc Try.prog Try.f3 Rows.pvecActsRow.domain false) (Rows.pvecActsSpec.post enc Try.prog Try.f3 false true false false) := by
  refine returnsInHanded_of_change_sized (C := Try.checked) own started (by kernel_rfl) Try.func3
    (ChangeSpec.witness6 (enc := enc) (C := Try.checked) false ⟨#[], #[.slice none 0 0], []⟩ 8 (by kernel_rfl) (by kernel_rfl) (by kernel_rfl) (by kernel_rfl)) ?_
  intro W base args ds gs before hval0 hW _ hsz0 _
  have hval : ∀ (j : Nat) t v, Try.f3.params[j]? = some t → args[j]? = some v → Value.okWide Try.prog W .any base t v := hval0
  have hsz : (DataW.weightsEach Try.prog (Try.f3.params.toList ++ Rows.pvecActsSpec.plain.varTypes Try.prog) (ds ++ gs)).all (· ≤ reachBytes) = true := hsz0
  have hW' := hW
  obtain ⟨p, q, hA0, hV, rfl, _, _⟩ := hW
  have hA : DataW.TrodAll enc Try.prog W 0 (fun _ => true) true Try.f3.params.toList args.toList ds p := hA0
  rw [Try.params3] at hA hval hsz
  obtain ⟨v0, vs0, d0, ds0, p0, q0, hargs, rfl, rfl, h0, r0⟩ := trodAll_cons hA
  obtain ⟨rfl, rfl, rfl⟩ := trodAll_nil r0
  obtain rfl : args = #[v0] := by cases args; simp_all
  obtain ⟨rfl, rfl⟩ := trodVars_none hV
  simp only [List.append_nil] at hW'
  obtain ⟨A, l, c, rfl, hl, hf, hxd⟩ := open_acts (hval 0 22 v0 rfl rfl) h0
  have hnx : l.length ≤ 140737488355328 := by
    rcases hxd with rfl | ⟨es, ss, rfl, he⟩
    · simp
    · have := sized_slice hsz (j := 0) (t := 22) (e := 40) rfl rfl Try.underlying22
      rw [abytes] at this
      unfold reachBytes at this
      omega
  clear hA0 hval0
  refine (walk A l c W hl hf hnx).mono fun e W' ⟨he, hg⟩ => ?_
  subst he
  have hlt : ∀ x ∈ p0, x.block < W.heap.size := fun x hx => by simpa using hW'.lt x (by simpa using hx)
  refine ⟨_, rfl, _, _, _, [], p0, [], by simpa using hW', ?_, ?_, ?_, hg.frame _, fun h => by cases h⟩
  · exact trodAll_cons_mk (shut_bool Try.underlying4 _) trodAll_mk0
  · have g0 := Below.trod laidOut (by kernel_rfl) (of_decide_eq_true (by kernel_rfl)) h0 hg (fun x hx => hlt x (by simp [hx]))
    have := trodAll_cons_mk g0 trodAll_mk0
    rw [List.append_nil] at this
    exact this
  · rfl

theorem over : Rows.pvecActsRow.holds Try.pinned (OpenSpec.ofChange Rows.pvecActsSpec) :=
  OpenClaim.holds_of_wide 3 Try.f3 rfl rfl rfl rfl rfl rfl rfl ⟨rfl, rfl, rfl, rfl, rfl⟩ rfl rfl rfl rfl rfl (by kernel_rfl) Try.func3 (by kernel_rfl)
    (of_decide_eq_true (by kernel_rfl)) (by unfold Func.isWrapper; first | (rw [if_pos (by decide +kernel)]; kernel_rfl) | (rw [if_neg (by decide +kernel)]; exact ⟨rfl, rfl⟩))
    (fun os started H enc _ => lifted os started H enc)

theorem proved : Rows.PvecActsSaid :=
  over
#print axioms proved

end Go.Proofs.Ytgkhbnkbhcginaa.pvecActs
