/- How a value is spelled, and what the document's Right tells: for every layer. -/
import Derived.Test.YtfmngoniofoiiaaProg
import Derived.Test.YtfmngoniofoiiaaWorld
import Derived.Test.YtfmngoniofoiiaaPlain01
import Derived.WalkLawsBesides
import Derived.WalkSpells
import Derived.Deep.RegionWith
namespace Go.Proofs.Ytfmngoniofoiiaa
open Go.RowKit

theorem ret_int {k : IntKind} {a b : Int} (h : a = b) : Ending.returned (.int k a) = .returned (.int k b) := by rw [h]
theorem ret_bool {a b : Bool} (h : a = b) : Ending.returned (.bool a) = .returned (.bool b) := by rw [h]
abbrev vv (k n : Int) (s : ByteArray) : Value := .agg #[.int .u8 k, .int .i64 n, .string s]

theorem bytes_empty {s : ByteArray} (h : s.toList = []) : s = ⟨#[]⟩ := by
  rw [ByteArray.toList_eq] at h
  obtain ⟨⟨l⟩⟩ := s
  simp at h
  rw [h]

set_option maxHeartbeats 400000 in
theorem ref_right (k n : Int) (s : ByteArray) (w : World) :
    Calls Try.prog 7 #[vv k n s] w fun e w' => e = .returned (.bool (rightB k n s)) ∧ Gw w w' := by
  go_enter Try.func7, Try.ntmps7
  go_wp2
  all_goals go_ret
  all_goals exact ⟨ret_bool (by simp_all [rightB]), (Gw.refl _).alloc _ _⟩

/-- A value that may be has few bytes. -/
theorem right_small {k n : Int} {s : ByteArray} (h : rightB k n s = true) : s.size ≤ 4096 := by
  have e : s.toList.isEmpty = true → s.size ≤ 4096 := fun h => by rw [← len_toList, List.isEmpty_iff.1 h]; simp
  unfold rightB at h
  split at h
  · exact e ((Bool.and_eq_true _ _).mp h).2
  · split at h
    · exact e ((Bool.and_eq_true _ _).mp h).2
    · split at h
      · exact e h
      · split at h
        · have := of_decide_eq_true ((Bool.and_eq_true _ _).mp h).2
          omega
        · cases h

end Go.Proofs.Ytfmngoniofoiiaa
