/- slices.Clone of numbers. -/
import Derived.Test.YtndbhcdiinpkkaaApart04
namespace Go.Proofs.Ytndbhcdiinpkkaa
open Go.RowKit

def Cloned (ks : List Int) (w : World) (e : Ending) (w' : World) : Prop :=
  ∃ v, e = .returned v ∧ w'.ownsRow w.heap.size 3 1 v ks.length (nums ks) ∧ Below w.heap.size w w'
set_option maxRecDepth 100000 in
theorem clone_ints (v : Value) (ks : List Int) (w : World) (hk : Rd w v ks.length (nums ks)) (nk : ks.length ≤ 4194304) : Calls Try.prog 43 #[v] w (Cloned ks w) := by
  obtain ⟨i1, hi1, hy0, hy1, hy2⟩ := info_parts iinfo
  have HK := Lib.hid hk
  rcases hk with ⟨rfl, hn, hx⟩ | ⟨b, o, c, rfl, _, _⟩
  · have he := Lib.run_eql_slice_nil (P := Try.prog) w 32 3 none 0 0 0 0 Try.underlying32
    go_enter Try.func43, Try.ntmps43
    go_wp2_with fail
    go_ret
    exact ⟨_, rfl, by rw [hn, hx]; exact World.ownsRow_nil _ _ _ _, Below.refl _ _⟩
  · have he := Lib.run_eql_slice_nil (P := Try.prog) w 32 3 (some ⟨b, o, none⟩) ks.length c 0 0 Try.underlying32
    go_enter Try.func43, Try.ntmps43
    go_wp2_with (at_builtin; refine wpList_append_rd rfl _ _ 32 rfl w.heap.size 3 i1 _ 1 8 Try.underlying32 hi1 hy0 hy1 hy2 rfl (by decide) _ 0 [] rfl (World.ownsRow_lit _ #[] 0 (by simp) (by decide) (by decide)) _ ks.length (nums ks) rfl (HK.out.alloc _) ?k1 (nums_one ks) ?k2 ?k3 ?k4 ?_)
    case k1 => rw [nums_length]; omega
    case k2 => unfold maxLen; omega
    case k3 => omega
    case k4 => simp
    intro v1 w1 hown hg hat
    have hb : Below w.heap.size w w1 := ⟨hg.os, hg.tape, hg.output, Nat.le_trans (by simp) hg.size, fun k hk => (hg.block k (by simp; omega) (by simp [Value.ownBlock]; omega)).trans (Below.heap_alloc w _ k hk)⟩
    have HO := Lib.hid (show w1.ownsRow w.heap.size 3 1 v1 ks.length (nums ks) by simpa using hown)
    have HB := Lib.hid hb
    clear hown hg hat hb
    go_wp2_with fail
    go_ret
    exact ⟨_, rfl, HO.out, HB.out⟩

end Go.Proofs.Ytndbhcdiinpkkaa
