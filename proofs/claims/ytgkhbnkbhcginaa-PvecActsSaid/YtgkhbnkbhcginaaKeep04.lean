/- Package arena: Get, Keep, and how an arena is laid anew where one cell has changed. -/
import Derived.Test.YtgkhbnkbhcginaaArena04
namespace Go.Proofs.Ytgkhbnkbhcginaa
open Go.RowKit

def Got (c : Hc) (w : World) (e : Ending) (w' : World) : Prop :=
  ∃ v k, e = .returned (.tuple #[cagg c.owner c.a c.b v k, .bool true]) ∧ w'.ownsRow w.heap.size 38 3 v c.vals.length (c.vals.flatMap cells3) ∧ w'.ownsRow w.heap.size 3 1 k c.kids.length (nums (ns c.kids)) ∧ Below w.heap.size w w'
theorem ns_length (l : List Nat) : (ns l).length = l.length := by simp [ns]

set_option maxRecDepth 100000 in
set_option maxHeartbeats 800000 in
theorem get_no (i : Int) (b most : Nat) (M : Cells) (F : Nat → Prop) (w : World) (h : Ar w b most M F) (hn : 1 ≤ i → M i.toNat = none) :
    Calls Try.prog 61 #[ap b, .int .i64 i] w fun e w' => e = .returned (.tuple #[cagg 0 0 0 (.slice none 0 0) (.slice none 0 0), .bool false]) ∧ Below w.heap.size w w' := by
  have h' := h.alloc (.cells #[.int .u32 0, .int .u32 0, .int .u32 0, .slice none 0 0, .slice none 0 0] 59)
  obtain ⟨n, vc, vf, fr, H, h⟩ := h'
  have hf := fptr_none M H hn
  go_enter Try.func61, Try.ntmps61
  go_wp2_with (go_at_call 71; refine (find _ _ h).mono ?_; rintro e w1 ⟨rfl, hw⟩; rw [hf]; have q1 : C5 w1 w.heap.size 59 (.int .u32 0) (.int .u32 0) (.int .u32 0) (.slice none 0 0) (.slice none 0 0) := hw ▸ C5.new w _ _ _ _ _ _; have B1 := Lib.hid (show Below w.heap.size w w1 from hw ▸ (Below.refl _ w).alloc (Nat.le_refl _) _); clear hw; obtain ⟨d0, d1, d2, d3, d4, g0, g1, g2, g3, g4⟩ := q1.all; clear q1)
  refine bodyPost_ret (v := .tuple #[cagg 0 0 0 (.slice none 0 0) (.slice none 0 0), .bool false]) (by simp [results, Try.results61, go_sem, d0, d1, d2, d3, d4]) rfl ⟨rfl, ?_⟩
  exact ((((B1.out.setCell (Nat.le_refl _) _).setCell (Nat.le_refl _) _).setCell (Nat.le_refl _) _).setCell (Nat.le_refl _) _).setCell (Nat.le_refl _) _
set_option maxRecDepth 100000 in
set_option maxHeartbeats 800000 in
theorem get_nil (i : Int) (w : World) :
    Calls Try.prog 61 #[.pointer none, .int .i64 i] w fun e w' => e = .returned (.tuple #[cagg 0 0 0 (.slice none 0 0) (.slice none 0 0), .bool false]) ∧ Below w.heap.size w w' := by
  go_enter Try.func61, Try.ntmps61
  go_wp2_with (go_at_call 71; refine (find_no _ _).mono ?_; rintro e w1 ⟨rfl, hw⟩; have q1 : C5 w1 w.heap.size 59 (.int .u32 0) (.int .u32 0) (.int .u32 0) (.slice none 0 0) (.slice none 0 0) := hw ▸ C5.new w _ _ _ _ _ _; have B1 := Lib.hid (show Below w.heap.size w w1 from hw ▸ (Below.refl _ w).alloc (Nat.le_refl _) _); clear hw; obtain ⟨d0, d1, d2, d3, d4, g0, g1, g2, g3, g4⟩ := q1.all; clear q1)
  refine bodyPost_ret (v := .tuple #[cagg 0 0 0 (.slice none 0 0) (.slice none 0 0), .bool false]) (by simp [results, Try.results61, go_sem, d0, d1, d2, d3, d4]) rfl ⟨rfl, ?_⟩
  exact ((((B1.out.setCell (Nat.le_refl _) _).setCell (Nat.le_refl _) _).setCell (Nat.le_refl _) _).setCell (Nat.le_refl _) _).setCell (Nat.le_refl _) _

set_option maxRecDepth 100000 in
set_option maxHeartbeats 1600000 in
theorem get (i : Nat) (c : Hc) (r : Nat) (b most : Nat) (M : Cells) (F : Nat → Prop) (w : World) (h : Ar w b most M F) (hi : M i = some (c, r)) :
    Calls Try.prog 61 #[ap b, .int .i64 i] w (Got c w) := by
  have h' := h.alloc (.cells #[.int .u32 0, .int .u32 0, .int .u32 0, .slice none 0 0, .slice none 0 0] 59)
  obtain ⟨n, vc, vf, fr, H, h⟩ := h'
  obtain ⟨h1, _, _, v, k, r6, hv, hk, _, _, _, nv, nk⟩ := h.cel i c r hi
  have hf := fptr_some M H h1 hi
  obtain ⟨A, cv, rfl, _⟩ := (Rd.of_own hv).form
  obtain ⟨A', ck, rfl, _⟩ := (Rd.of_own hk).form
  have c0 := r6.c0
  have c1 := r6.c1
  have c2 := r6.c2
  have c3 := r6.c3
  have c4 := r6.c4
  clear r6 h1
  go_enter Try.func61, Try.ntmps61
  go_wp2_with (first | (go_at_call 71; refine (find _ _ h).mono ?_; rintro e w' ⟨rfl, rfl⟩; rw [hf]) | (go_at_call 59; refine (apart c.owner c.a c.b _ _ c.vals (ns c.kids) _ (Rd.of_own hv) (by rw [ns_length]; exact Rd.of_own hk) nv (by rw [ns_length]; exact nk)).mono ?_; rintro e w1 ⟨v1, k1, rfl, ho1, ho2, hb1⟩; obtain ⟨X1, m1, rfl, _⟩ := (Rd.of_own ho1).form; rw [ns_length] at ho2; obtain ⟨X2, m2, rfl, _⟩ := (Rd.of_own ho2).form; have q1 := (C5.new w 59 (.int .u32 0) (.int .u32 0) (.int .u32 0) (.slice none 0 0) (.slice none 0 0)).below hb1; obtain ⟨d0, d1, d2, d3, d4, g0, g1, g2, g3, g4⟩ := q1.all; have N1 := Lib.hid (own_ne ho1 q1 (by decide)); have N2 := Lib.hid (own_ne ho2 q1 (by decide)); have O1 := Lib.hid ho1; have O2 := Lib.hid ho2; have B1 := Lib.hid hb1; clear q1 ho1 ho2 hb1))
  refine bodyPost_ret (v := .tuple #[cagg c.owner c.a c.b (.slice X1 c.vals.length m1) (.slice X2 c.kids.length m2), .bool true]) (by simp [results, Try.results61, go_sem, d0, d1, d2, d3, d4]) rfl ⟨_, _, rfl, ?_, ?_, ?_⟩
  · exact (((((((Kp.refl (fun k => k = w.heap.size) w1).setCell (.inl rfl) _).setCell (.inl rfl) _).setCell (.inl rfl) _).setCell (.inl rfl) _).setCell (.inl rfl) _).own (own_less O1.out (by simp)) N1.out)
  · exact (((((((Kp.refl (fun k => k = w.heap.size) w1).setCell (.inl rfl) _).setCell (.inl rfl) _).setCell (.inl rfl) _).setCell (.inl rfl) _).setCell (.inl rfl) _).own (own_less O2.out (by simp)) N2.out)
  · have hb : Below w.heap.size w w1 := ((Below.refl _ w).alloc (Nat.le_refl _) _).trans (B1.out.mono (by simp))
    exact ((((hb.setCell (Nat.le_refl _) _).setCell (Nat.le_refl _) _).setCell (Nat.le_refl _) _).setCell (Nat.le_refl _) _).setCell (Nat.le_refl _) _

end Go.Proofs.Ytgkhbnkbhcginaa
