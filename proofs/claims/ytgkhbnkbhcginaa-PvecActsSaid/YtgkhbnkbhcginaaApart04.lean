/- Package arena: a cell with lists of its own (apart); the atomic number. -/
import Derived.Test.YtgkhbnkbhcginaaProg
import Derived.Test.YtgkhbnkbhcginaaLst
import Derived.Test.YtgkhbnkbhcginaaBlocks
import Derived.Test.YtgkhbnkbhcginaaCount04
import Derived.WalkLawsBesides
import Derived.WalkSpells
import Derived.Deep.RegionWith
import Derived.RegionTactic
import Derived.RegionCalls
import Derived.BigQuiet
import Derived.Deep.QuietTactic
import Derived.Laws.LoneSync
import Derived.Laws.NewBlocks
import Derived.Laws.Pointers
namespace Go.Proofs.Ytgkhbnkbhcginaa
open Go.RowKit

theorem vinfo : (Try.prog.info? 38).map (fun i => (i.zero, i.size, i.bytes)) = some (some (.agg #[.int .u8 0, .int .i64 0, .string ⟨#[]⟩]), 3, 32) := by kernel_rfl
theorem iinfo : (Try.prog.info? 3).map (fun i => (i.zero, i.size, i.bytes)) = some (some (.int .i64 0), 1, 8) := by kernel_rfl
theorem hinfo : (Try.prog.info? 98).map (fun i => (i.zero, i.size, i.bytes)) = some (some (.pointer none), 1, 8) := by kernel_rfl

/-- Numbers as cells. -/
def nums (l : List Int) : List Value := l.map fun x => Value.int .i64 x
theorem nums_length (l : List Int) : (nums l).length = l.length := by simp [nums]
theorem nums_at (l : List Int) (j : Nat) : (nums l)[j]? = l[j]?.map fun x => Value.int .i64 x := by simp [nums]
theorem nums_one (l : List Int) : ∀ u ∈ nums l, u.oneCell' = true := by
  intro u hu
  obtain ⟨b, _, rfl⟩ := List.mem_map.1 hu
  rfl
theorem flat_one (l : List V3) : ∀ u ∈ l.flatMap cells3, u.oneCell' = true := by
  intro u hu
  obtain ⟨x, _, hx⟩ := List.mem_flatMap.1 hu
  simp [cells3] at hx
  rcases hx with rfl | rfl | rfl <;> rfl

/-- A cell, as it is handed in and out. -/
abbrev cagg (o a b : Int) (v k : Value) : Value := .agg #[.int .u32 o, .int .u32 a, .int .u32 b, v, k]

def Apart (o a b : Int) (vs : List V3) (ks : List Int) (w : World) (e : Ending) (w' : World) : Prop :=
  ∃ v k, e = .returned (cagg o a b v k) ∧ w'.ownsRow w.heap.size 38 3 v vs.length (vs.flatMap cells3) ∧ w'.ownsRow w.heap.size 3 1 k ks.length (nums ks) ∧ Below w.heap.size w w'

set_option maxHeartbeats 1600000 in
theorem apart (o a b : Int) (v k : Value) (vs : List V3) (ks : List Int) (w : World) (hv : Rd w v vs.length (vs.flatMap cells3)) (hk : Rd w k ks.length (nums ks)) (nv : vs.length ≤ 4194304) (nk : ks.length ≤ 4194304) :
    Calls Try.prog 59 #[cagg o a b v k] w (Apart o a b vs ks w) := by
  obtain ⟨i0, hi, hz0, hz1, hz2⟩ := info_parts vinfo
  obtain ⟨i1, hi1, hy0, hy1, hy2⟩ := info_parts iinfo
  obtain ⟨A, cv, rfl, _⟩ := hv.form
  obtain ⟨A', ck, rfl, _⟩ := hk.form
  have HV := Lib.hid hv
  have HK := Lib.hid hk
  clear hv hk
  go_enter Try.func59, Try.ntmps59
  go_wp2_with (at_builtin; refine wpList_append_rd rfl _ _ 31 rfl w.heap.size 38 i0 _ 3 32 Try.underlying31 hi hz0 hz1 hz2 rfl (by decide) _ 0 [] rfl (World.ownsRow_nil _ _ _ _) _ vs.length (vs.flatMap cells3) rfl ((HV.out.alloc _).alloc _) (flat_len vs) (flat_one vs) ?c1 ?c2 ?c3 ?_)
  case c1 => unfold maxLen; omega
  case c2 => omega
  case c3 => simp; omega
  intro v1 w1 hown1 hg1 _
  obtain ⟨X1, m1, rfl, _⟩ := (Rd.of_own hown1).form
  have r1 := ((C5.new w 59 (.int .u32 o) (.int .u32 a) (.int .u32 b) (.slice A vs.length cv) (.slice A' ks.length ck)).alloc _).grown hg1 (by simp [Value.ownBlock])
  have q1 := (C5.new (w.alloc _) 59 (.int .u32 0) (.int .u32 0) (.int .u32 0) (.slice none 0 0) (.slice none 0 0)).grown hg1 (by simp [Value.ownBlock])
  rw [show (w.alloc (.cells #[.int .u32 o, .int .u32 a, .int .u32 b, .slice A vs.length cv, .slice A' ks.length ck] 59)).heap.size = w.heap.size + 1 by simp] at q1
  have hb1 : Below w.heap.size w w1 := (((Below.refl _ w).alloc (Nat.le_refl _) _).alloc (by simp) _).grown hg1 (by simp; omega) (by simp [Value.ownBlock])
  have O1 := Lib.hid hown1
  have B1 := Lib.hid hb1
  have hs1 : w.heap.size + 1 < w1.heap.size := q1.lt
  clear hg1 hown1 hb1
  obtain ⟨c0, c1, c2, c3, c4, f0, f1, f2, f3, f4⟩ := r1.all
  have R1 := Lib.hid r1
  have Q1 := Lib.hid q1
  clear r1 q1
  go_wp2_with (at_builtin; refine wpList_append_rd rfl _ _ 57 rfl w.heap.size 3 i1 _ 1 8 Try.underlying57 hi1 hy0 hy1 hy2 rfl (by decide) _ 0 [] rfl (World.ownsRow_nil _ _ _ _) _ ks.length (nums ks) rfl ?k0 ?k1 (nums_one ks) ?k2 ?k3 ?k4 ?_)
  case k0 => exact HK.out.below (B1.out.setCell (Nat.le_refl _) _)
  case k1 => rw [nums_length]; omega
  case k2 => unfold maxLen; omega
  case k3 => omega
  case k4 => simp; omega
  intro v2 w2 hown2 hg2 hat2
  obtain ⟨X2, m2, rfl, _⟩ := (Rd.of_own hown2).form
  have r2 := (R1.out.set3 (.slice X1 vs.length m1)).grown hg2 (by simp [Value.ownBlock])
  have q2 := (Q1.out.other (g := w.heap.size) (o := 3) (by omega) (.slice X1 vs.length m1)).grown hg2 (by simp [Value.ownBlock])
  have hb2 : Below w.heap.size w w2 := (B1.out.setCell (p := ⟨w.heap.size, 3, none⟩) (Nat.le_refl _) _).grown hg2 (by simp; omega) (by simp [Value.ownBlock])
  have hv2 : w2.ownsRow w.heap.size 38 3 (.slice X1 vs.length m1) vs.length (vs.flatMap cells3) := by
    have hne := own_ne O1.out R1.out (by decide)
    exact (Kp.of_grown (F := fun _ => False) hg2 (by simp [Value.ownBlock])).own ((Kp.setCell (Kp.refl (fun k => k = w.heap.size) _) (.inl rfl) _).own O1.out hne) (fun _ _ => id)
  have hs2 : w.heap.size + 1 < w2.heap.size := q2.lt
  clear c0 c1 c2 c3 c4 f0 f1 f2 f3 f4 hg2 R1 Q1 B1
  have HB := Lib.hid hb2
  have HO := Lib.hid hown2
  have HW := Lib.hid hv2
  clear hb2 hown2 hv2 hat2
  obtain ⟨c0, c1, c2, c3, c4, f0, f1, f2, f3, f4⟩ := r2.all
  obtain ⟨d0, d1, d2, d3, d4, g0, g1, g2, g3, g4⟩ := q2.all
  have n1 := own_ne HW.out r2 (by decide)
  have n2 := own_ne HW.out q2 (by decide)
  have n3 := own_ne HO.out r2 (by decide)
  have n4 := own_ne HO.out q2 (by decide)
  have NE := Lib.hid (show (∀ k, (Value.slice X1 vs.length m1).ownBlock = some k → ¬ (k = w.heap.size ∨ k = w.heap.size + 1)) ∧ (∀ k, (Value.slice X2 ks.length m2).ownBlock = some k → ¬ (k = w.heap.size ∨ k = w.heap.size + 1)) from
    ⟨fun k hk => not_or.2 ⟨n1 k hk, n2 k hk⟩, fun k hk => not_or.2 ⟨n3 k hk, n4 k hk⟩⟩)
  clear r2 q2 n1 n2 n3 n4
  go_wp2_with fail
  refine bodyPost_ret (v := cagg o a b (.slice X1 vs.length m1) (.slice X2 ks.length m2)) (by simp [results, Try.results59, go_sem, d0, d1, d2, d3, d4]) rfl ⟨_, _, rfl, ?_, ?_, ?_⟩
  · exact (((((((Kp.refl (fun k => k = w.heap.size ∨ k = w.heap.size + 1) w2).setCell (.inl (.inl rfl)) _).setCell (.inl (.inr rfl)) _).setCell (.inl (.inr rfl)) _).setCell (.inl (.inr rfl)) _).setCell (.inl (.inr rfl)) _).setCell (.inl (.inr rfl)) _).own HW.out NE.out.1
  · exact (((((((Kp.refl (fun k => k = w.heap.size ∨ k = w.heap.size + 1) w2).setCell (.inl (.inl rfl)) _).setCell (.inl (.inr rfl)) _).setCell (.inl (.inr rfl)) _).setCell (.inl (.inr rfl)) _).setCell (.inl (.inr rfl)) _).setCell (.inl (.inr rfl)) _).own HO.out NE.out.2
  · exact (((((HB.out.setCell (Nat.le_refl _) _).setCell (Nat.le_succ _) _).setCell (Nat.le_succ _) _).setCell (Nat.le_succ _) _).setCell (Nat.le_succ _) _).setCell (Nat.le_succ _) _

end Go.Proofs.Ytgkhbnkbhcginaa
