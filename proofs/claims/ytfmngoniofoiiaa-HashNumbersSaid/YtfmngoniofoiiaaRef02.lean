/- What the document's writers return (package easementref02: Number, Text, Value), and the law's own 'of'. -/
import Derived.Test.YtfmngoniofoiiaaPack02
namespace Go.Proofs.Ytfmngoniofoiiaa
open Go.RowKit

set_option maxHeartbeats 1000000 in
theorem ref_number (n : Nat) (k : Nat) (w : World) (hn : n < 18446744073709551616) (hk : k ≤ 8) :
    Calls Try.prog 21 #[.int .u64 n, .int .i64 k] w (Made w (Lib.leBytes k n)) := by
  obtain ⟨i0, hi, hz0, hz1, hz2⟩ := info_parts u8_info
  go_enter Try.func21, Try.ntmps21
  go_wp2_with fail
  go_loopw [0, 5, 6] (fun nv ov i wr => ∃ j : Nat, j ≤ k ∧ i = .int .i64 j ∧ nv = .int .u64 (n / 256 ^ j : Nat) ∧ Own wr w.heap.size ov (Lib.leBytes j n) ∧ Below w.heap.size w wr) (fun _ _ i _ => k - (intOf i).toNat)
  case atStart => exact ⟨0, Nat.zero_le _, rfl, by simp, Own.nil _ _, Below.refl _ _⟩
  case round =>
    obtain ⟨j, hj, rfl, rfl, hown, hb⟩ := hrel
    obtain ⟨q, hq⟩ : ∃ q, q = n / 256 ^ j := ⟨_, rfl⟩
    have hqn : q < 18446744073709551616 := by rw [hq]; exact Nat.lt_of_le_of_lt (Nat.div_le_self _ _) hn
    rw [← hq]
    have HQ := Lib.hid hq
    clear hq
    by_cases h1 : j < k
    · go_wp2_with ((at_builtin; refine wpList_append_bs rfl (.tmp 16) (.tmp 20) 57 rfl w.heap.size i0 Try.underlying57 hi hz0 hz1 hz2 _ _ rfl (hown.alloc _) _ [(q % 256).toUInt8] rfl (Bs.single _ _ _ _ ?c5 _ rfl) ?c6 ?c7 ?_))
      case c5 => rw [Lib.toUInt8_mod]; omega
      case c6 => simp [Lib.leBytes_length]; omega
      case c7 => have := hb.size; simp; omega
      intro v' w2 hown2 hg2
      go_wp2_with fail
      go_roundw
      case rel => exact ⟨j + 1, by omega, by go_num, by rw [← div_pow_succ, ← HQ.out]; go_num, by rw [leBytes_snoc, ← HQ.out]; exact hown2, below_own (hb.alloc hb.size _) (hown.alloc _) hg2⟩
      case measure => simp [intOf]; omega
    · obtain rfl : j = k := by omega
      go_wp2_with fail
      go_ret
      exact ⟨_, rfl, hown, hb⟩

theorem ref_text (s : ByteArray) (w : World) (h47 : 8 + s.size ≤ 140737488355328) :
    Calls Try.prog 22 #[.string s] w (Made w (txtB s)) := by
  obtain ⟨i0, hi, hz0, hz1, hz2⟩ := info_parts u8_info
  go_enter Try.func22, Try.ntmps22
  go_wp2_with fail
  refine (ref_number s.size 2 w (by omega) (by omega)).mono ?_
  rintro e w1 ⟨v1, rfl, hown1, hb1⟩
  go_wp2_with ((at_builtin; refine wpList_append_str rfl (.tmp 6) (.tmp 7) 57 9 rfl w.heap.size i0 Try.underlying57 Try.underlying9 hi hz0 hz1 hz2 _ _ rfl hown1 s rfl ?c6 hb1.size ?_))
  case c6 => simp [Lib.leBytes_length]; omega
  intro v2 w2 hown2 hg2
  go_wp2_with fail
  go_ret
  exact ⟨_, rfl, hown2, below_own hb1 hown1 hg2⟩

theorem le1 (m : Nat) : Lib.leBytes 1 m = [(m % 256).toUInt8] := rfl
theorem byte_of (n : Int) : IntKind.u8.wrap n = (((u64of n) % 256).toUInt8.toNat : Int) := by
  rw [IntKind.wrap_u8, Lib.toUInt8_mod]; unfold u64of; omega

set_option maxHeartbeats 1000000 in
theorem ref_value1 (n : Int) (s : ByteArray) (w : World) : Calls Try.prog 17 #[vv 1 n s] w (Made w (valB 1 n s)) := by
  obtain ⟨i0, hi, hz0, hz1, hz2⟩ := info_parts u8_info
  go_enter Try.func17, Try.ntmps17
  go_wp2_with ((at_builtin; refine wpList_append_bs rfl (.tmp 11) (.tmp 15) 57 rfl w.heap.size i0 Try.underlying57 hi hz0 hz1 hz2 _ _ rfl ((Own.boxed _ _ _ 1 rfl).alloc _) _ [(u64of n % 256).toUInt8] rfl (Bs.single _ _ _ _ ?c5 _ ?c3) ?c6 ?c7 ?_))
  case c3 => simp
  case c5 => exact byte_of n
  case c6 => simp
  case c7 => simp; omega
  intro v' w2 hown2 hg2
  go_wp2_with fail
  go_ret
  refine ⟨_, rfl, hown2, ?_⟩
  exact (((((Below.refl _ _).alloc (Nat.le_refl _) _).alloc (by simp) _).alloc (by simp; omega) _).grown hg2 (by simp; omega) (fun k hk => by simp [Value.ownBlock] at hk; omega))
set_option maxHeartbeats 1000000 in
theorem ref_value2 (n : Int) (s : ByteArray) (w : World) : Calls Try.prog 17 #[vv 2 n s] w (Made w (valB 2 n s)) := by
  obtain ⟨i0, hi, hz0, hz1, hz2⟩ := info_parts u8_info
  go_enter Try.func17, Try.ntmps17
  go_wp2_with fail
  rw [wrap_u64of]
  refine (ref_number (u64of n) 8 _ (u64of_lt n) (by omega)).mono ?_
  rintro e w1 ⟨v1, rfl, hown1, hb1⟩
  have hown := (Own.boxed w (.cells #[.int .u8 2, .int .i64 n, .string s] 29) 2 2 rfl).below hb1
  have hbel := below_box (below_box hb1)
  go_wp2_with ((at_builtin; refine wpList_append_bs rfl (.tmp 19) (.tmp 23) 57 rfl w.heap.size i0 Try.underlying57 hi hz0 hz1 hz2 _ _ rfl hown _ _ rfl hown1.bs ?c6 hbel.size ?_))
  case c6 => simp [Lib.leBytes_length]
  intro v' w2 hown2 hg2
  go_wp2_with fail
  go_ret
  exact ⟨_, rfl, hown2, below_own hbel hown hg2⟩
set_option maxHeartbeats 1000000 in
theorem ref_value3 (n : Int) (s : ByteArray) (w : World) (h47 : 17 + s.size ≤ 140737488355328) : Calls Try.prog 17 #[vv 3 n s] w (Made w (valB 3 n s)) := by
  obtain ⟨i0, hi, hz0, hz1, hz2⟩ := info_parts u8_info
  go_enter Try.func17, Try.ntmps17
  go_wp2_with fail
  with_reducible refine (ref_text s _ (by omega)).mono ?_
  rintro e w1 ⟨v1, rfl, hown1, hb1⟩
  have hown := (Own.boxed w (.cells #[.int .u8 3, .int .i64 n, .string s] 29) 3 3 rfl).below hb1
  have hbel := below_box (below_box hb1)
  go_wp2_with ((at_builtin; refine wpList_append_bs rfl (.tmp 27) (.tmp 30) 57 rfl w.heap.size i0 Try.underlying57 hi hz0 hz1 hz2 _ _ rfl hown _ _ rfl hown1.bs ?c6 hbel.size ?_))
  case c6 => rw [txtB_length]; simp; omega
  intro v' w2 hown2 hg2
  go_wp2_with fail
  go_ret
  exact ⟨_, rfl, hown2, below_own hbel hown hg2⟩
set_option maxHeartbeats 1000000 in
theorem ref_value0 (k : Nat) (n : Int) (s : ByteArray) (w : World) (hk : k < 256) (h1 : ¬ (k : Int) = 1) (h2 : ¬ (k : Int) = 2) (h3 : ¬ (k : Int) = 3) : Calls Try.prog 17 #[vv k n s] w (Made w (valB k n s)) := by
  have hvB : valB k n s = Lib.leBytes 1 k := by simp [valB, h1, h2, h3]
  rw [hvB]
  clear hvB
  go_enter Try.func17, Try.ntmps17
  go_wp2_with fail
  go_ret
  exact ⟨_, rfl, Own.boxed _ _ _ _ (by rw [Lib.toUInt8_mod]; omega), ((Below.refl _ _).alloc (Nat.le_refl _) _).alloc (by simp) _⟩
theorem ref_value (k n : Int) (s : ByteArray) (w : World) (hk : 0 ≤ k) (hk' : k < 256) (h47 : 17 + s.size ≤ 140737488355328) :
    Calls Try.prog 17 #[vv k n s] w (Made w (valB k n s)) := by
  by_cases h1 : k = 1
  · subst h1; exact ref_value1 n s w
  · by_cases h2 : k = 2
    · subst h2; exact ref_value2 n s w
    · by_cases h3 : k = 3
      · subst h3; exact ref_value3 n s w h47
      · obtain ⟨k, rfl⟩ := Int.eq_ofNat_of_zero_le hk
        exact ref_value0 k n s w (by omega) h1 h2 h3

end Go.Proofs.Ytfmngoniofoiiaa
