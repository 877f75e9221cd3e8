/- PvecRoom: what the law's walk needs. -/
import Derived.Test.YtjdpgehmkcdmfaaLives06
import Derived.Test.YtjdpgehmkcdmfaaShare06
import Derived.Deep.RegionHeld3
namespace Go.Proofs.Ytjdpgehmkcdmfaa
open Go.RowKit

/-- The first numbers, as values. -/
def numL (k : Nat) : Vs := (List.range k).map fun (i : Nat) => ((2 : Int), (i : Int), (⟨#[]⟩ : ByteArray))
theorem numL_length (k : Nat) : (numL k).length = k := by simp [numL]
theorem numL_succ (k : Nat) : numL (k + 1) = numL k ++ [(2, (k : Int), ⟨#[]⟩)] := by simp [numL, List.range_succ]
theorem numL_at {k i : Nat} (h : i < k) : (numL k)[i]? = some (2, (i : Int), ⟨#[]⟩) := by simp [numL, h]
/-- In the loop: so many are in. -/
structure Rm (w wr : World) (b z : Nat) (j : Nat) : Prop where
  ex : ∃ v ks M F, Lone w wr b 4096 M F ∧ Mine (4096 + 1) (fun _ => none) M 1 v (numL j) ks ∧ C3 wr z 30 (.int .i64 (v.n : Int)) (.int .i64 (v.root : Int)) (.int .i64 (v.tail : Int)) ∧ ¬ F z ∧ w.heap.size ≤ z
theorem len6_of (n : Int) : ∃ k : Nat, k ≤ 1024 ∧ wrap64 ((IntKind.u64.wrap n).tmod 1025) = k := by
  have h0 : 0 ≤ IntKind.u64.wrap n := by rw [IntKind.wrap_u64]; omega
  rw [Int.tmod_eq_emod_of_nonneg h0]
  have h1 : 0 ≤ IntKind.u64.wrap n % 1025 := by omega
  have h2 : IntKind.u64.wrap n % 1025 < 1025 := by omega
  rw [IntWalk.wrap64_in (IntKind.u64.wrap n % 1025) (by omega)]
  exact ⟨(IntKind.u64.wrap n % 1025).toNat, by omega, by omega⟩

end Go.Proofs.Ytjdpgehmkcdmfaa
