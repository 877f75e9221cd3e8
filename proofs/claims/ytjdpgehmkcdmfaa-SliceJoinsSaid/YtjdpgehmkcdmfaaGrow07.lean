/- slices.Grow of nothing. -/
import Derived.Test.YtjdpgehmkcdmfaaOwn06
import Derived.Lib.AppendZerosOnto
namespace Go.Proofs.Ytjdpgehmkcdmfaa
open Go.RowKit

theorem zeroCells_len (z : Array Value) : ∀ n, (Builtin.zeroCells z n).size = n * z.size := by
  intro n
  simp [Builtin.zeroCells]
set_option maxRecDepth 100000 in
set_option maxHeartbeats 800000 in
theorem vgrow (n : Nat) (hn : n ≤ 100000) (w : World) : Calls Try.prog 63 #[.slice none 0 0, .int .i64 n] w fun e w' => ∃ v, e = .returned v ∧ w'.ownsRow w.heap.size 38 3 v 0 [] ∧ Below w.heap.size w w' := by
  obtain ⟨i0, hi, hz0, hz1, hz2⟩ := info_parts vinfo
  by_cases h0 : n = 0
  · subst h0
    go_enter Try.func63, Try.ntmps63
    go_wp2_with fail
    go_ret
    exact ⟨_, rfl, World.ownsRow_nil _ _ _ _, Below.refl _ _⟩
  · have hp : ¬ (n : Int) ≤ 0 := by omega
    have h1 : (0 : Int) < (n : Int) := by omega
    have hrz : ∀ ty, (Builtin.append_ #[31, 3] ty #[.slice none 0 0, .int .i64 n]).run Try.prog w =
        .ok (.slice (some ⟨w.heap.size, 0, none⟩) n (grownCap w n 0 38)) (w.drew.alloc (.cells (Builtin.zeroCells (Value.agg #[.int .u8 0, .int .i64 0, .string ⟨#[]⟩]).cells n ++ Builtin.zeroCells (Value.agg #[.int .u8 0, .int .i64 0, .string ⟨#[]⟩]).cells (grownCap w n 0 38 - n)) 38)) := fun ty =>
      Lib.run_append_nil_zeros w 31 3 ty 38 i0 _ .i64 .i64 Try.underlying31 Try.underlying3 hi hz0 n (by omega) (by rw [hz1]; decide) (by omega) (by rw [hz2]; omega)
    have hG := grownCap_ge w n 0 38
    have hG2 := grownCap_le_maxLen w n 0 38 (by unfold maxLen; omega)
    obtain ⟨G, hGG⟩ : ∃ G, G = grownCap w n 0 38 := ⟨_, rfl⟩
    rw [← hGG] at hrz hG hG2
    have hG63 : G ≤ 9223372036854775807 := by unfold maxLen at hG2; omega
    obtain ⟨cs, hcs⟩ : ∃ cs, cs = Builtin.zeroCells (Value.agg #[.int .u8 0, .int .i64 0, .string ⟨#[]⟩]).cells n ++ Builtin.zeroCells (Value.agg #[.int .u8 0, .int .i64 0, .string ⟨#[]⟩]).cells (G - n) := ⟨_, rfl⟩
    have hsz : cs.size = G * 3 := by
      rw [hcs, Array.size_append, zeroCells_len, zeroCells_len]
      have e : (Value.agg #[.int .u8 0, .int .i64 0, .string ⟨#[]⟩]).cells.size = 3 := rfl
      rw [e]
      omega
    rw [← hcs] at hrz
    have hown : (w.drew.alloc (.cells cs 38)).ownsRow w.heap.size 38 3 (.slice (some ⟨w.heap.size, 0, none⟩) 0 G) 0 [] := ⟨rfl, .inr ⟨w.heap.size, G, cs, rfl, Nat.le_refl _, heap_alloc_new w.drew _, Nat.zero_le _, hG2, hsz, by simp⟩⟩
    have HO := Lib.hid hown
    have HB := Lib.hid (show Below w.heap.size w (w.drew.alloc (.cells cs 38)) from ((Below.refl _ w).drew).alloc (Nat.le_refl _) _)
    clear hcs hsz hown hGG hG2
    go_enter Try.func63, Try.ntmps63
    go_wp2_with (at_builtin; refine Lib.wpList_append_run _ rfl _ _ _ _ rfl _ _ rfl rfl _ _ (hrz _) ?_)
    go_ret
    exact ⟨_, rfl, HO.out, HB.out⟩

end Go.Proofs.Ytjdpgehmkcdmfaa
