/- Layer 5's laws: the chapter's examples hold; the document's set and its count. -/
import Derived.Test.YtichfhnhocbenaaDigit05
import Derived.Laws.OwnMore
namespace Go.Proofs.Ytichfhnhocbenaa
open Go.RowKit

theorem lives5 (w : World) : Calls Try.prog 5 #[] w fun e w' => e = .returned (.bool true) ∧ w = w' := by
  go_enter Try.func5, Try.ntmps5
  go_wp2_with fail
  refine (at_run 33 1 (by decide) _).mono ?_
  rintro e w' ⟨rfl, rfl⟩
  go_wp2_with fail
  refine (levels_run 33 (by decide) (by decide) _).mono ?_
  rintro e w' ⟨⟨h, rfl, h1, h2⟩, rfl⟩
  obtain rfl : h = 2 := by
    have a : h ≤ 2 := Nat.le_of_not_lt fun h' => absurd (h2 2 h') (by decide)
    have : h = 0 ∨ h = 1 ∨ h = 2 := by omega
    rcases this with rfl | rfl | rfl
    · exact absurd h1 (by decide)
    · exact absurd h1 (by decide)
    · rfl
  go_wp2_with fail
  go_ret
  exact ⟨rfl, rfl⟩

end Go.Proofs.Ytichfhnhocbenaa
