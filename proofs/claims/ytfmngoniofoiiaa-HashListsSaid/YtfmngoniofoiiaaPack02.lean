/- What layer 2's writers return (package packed: Put, Text, Value): their contracts. -/
import Derived.Test.YtfmngoniofoiiaaBase01
import Derived.Test.YtfmngoniofoiiaaBytes
import Derived.Laws.CopyOwn
import Derived.Lib.Hide
import Derived.Outline
namespace Go.Proofs.Ytfmngoniofoiiaa
open Go.RowKit

/-- A size as it counts. -/
def szd (n : Int) : Nat := (min (max n 0) 8).toNat
theorem szd_le (n : Int) : szd n ≤ 8 := by unfold szd; omega
theorem szd_of {k : Nat} (h : k ≤ 8) : szd k = k := by unfold szd; omega

/-- What is returned is a new row of these bytes, and nothing old has changed. -/
def Made (w : World) (l : List UInt8) (e : Ending) (w' : World) : Prop := ∃ v', e = .returned v' ∧ Own w' w.heap.size v' l ∧ Below w.heap.size w w'

theorem sized (n : Int) (w : World) : Calls Try.prog 29 #[.int .i64 n] w fun e w' => e = .returned (.int .i64 (szd n)) ∧ w = w' := by
  by_cases h0 : n < 0
  · go_enter Try.func29, Try.ntmps29
    go_wp2
    go_ret
    exact ⟨ret_int (by unfold szd; omega), rfl⟩
  · by_cases h8 : n ≤ 8
    · go_enter Try.func29, Try.ntmps29
      go_wp2
      go_ret
      exact ⟨ret_int (by unfold szd; omega), rfl⟩
    · go_enter Try.func29, Try.ntmps29
      go_wp2
      go_ret
      exact ⟨ret_int (by unfold szd; omega), rfl⟩

/-- One byte more. -/
theorem leBytes_snoc : ∀ (j n : Nat), Lib.leBytes (j + 1) n = Lib.leBytes j n ++ [(n / 256 ^ j % 256).toUInt8]
  | 0, n => by simp [Lib.leBytes]
  | j + 1, n => by
    rw [Lib.leBytes, leBytes_snoc j (n / 256), Lib.leBytes, List.cons_append, Nat.div_div_eq_div_mul, Nat.pow_succ, Nat.mul_comm 256]
theorem div_pow_succ (n j : Nat) : n / 256 ^ j / 256 = n / 256 ^ (j + 1) := by rw [Nat.div_div_eq_div_mul, Nat.pow_succ]

/-- A row that was made, and into whose head a list was copied. -/
theorem own_copied {w : World} {B g cap : Nat} {l : List UInt8} {cur : List Value} (hB : B ≤ g) (hc : cur.length = cap) (hl : l.length ≤ cap) (hm : cap ≤ maxLen) (h : w.heap[g]? = some (.cells (splice cur 0 (bc l)).toArray 5 (0, 0))) :
    Own w B (.slice (some ⟨g, 0, none⟩) l.length cap) l := by
  refine ⟨by simp [bc_length], .inr ⟨g, cap, _, rfl, hB, h, hl, hm, ?_, ?_⟩⟩
  · rw [List.size_toArray, length_splice _ _ _ (by rw [bc_length]; omega)]; omega
  · simp [splice, ← bc_length l]

set_option maxHeartbeats 1000000 in
theorem put (v : Value) (l : List UInt8) (n : Nat) (size : Int) (w : World) (hv : Bs w v l) (hn : n < 18446744073709551616) (h47 : l.length + 8 ≤ 140737488355328) :
    Calls Try.prog 25 #[v, .int .u64 n, .int .i64 size] w (Made w (l ++ Lib.leBytes (szd size) n)) := by
  obtain ⟨i0, hi, hz0, hz1, hz2⟩ := info_parts u8_info
  obtain ⟨A, c, rfl, hc⟩ := hv.form
  have hk8 := szd_le size
  obtain ⟨k, hk⟩ : ∃ k, k = szd size := ⟨_, rfl⟩
  rw [← hk] at hk8 ⊢
  have HK := Lib.hid hk
  clear hk
  have hmk : ∀ W : World, (Instr.makeSlice 57 (.int .i64 (l.length : Int)) (.int .i64 ((l.length : Int) + (k : Int)))).run Try.prog W = .ok (.slice (some ⟨W.heap.size, 0, none⟩) l.length (l.length + k)) (W.alloc (.cells (madeCells #[.int .u8 0] (l.length + k)) 5)) := fun W => by
    have := run_make (P := Try.prog) W 57 5 i0 (.int .u8 0) Try.underlying57 hi hz0 .i64 .i64 (l.length : Int) ((l.length : Int) + (k : Int)) (by omega) (by omega) (by rw [hz2]; omega) (by omega)
    rw [this, hz1]
    have e : ((l.length : Int) + (k : Int)).toNat = l.length + k := by omega
    simp [e, Value.cells]
  have hlen : (madeCells #[.int .u8 0] (l.length + k)).toList.length = l.length + k := by simp [size_madeCells]
  have HL := Lib.hid hlen
  clear hlen
  have hsz : (Try.prog.info? 5).map (·.size) = some 1 := by kernel_rfl
  have HS := Lib.hid hsz
  clear hsz
  go_enter Try.func25, Try.ntmps25
  go_wp2_with (first | (go_at_call 29; rw [HK.out]; refine (sized _ _).mono ?_; rintro e w' ⟨rfl, rfl⟩; rw [← HK.out]) | (with_reducible refine wpList_copy_splice rfl (.tmp 17) (.tmp 18) 57 57 rfl 5 Try.underlying57 HS.out (some ⟨w.heap.size, 0, none⟩) A l.length (l.length + k) l.length c rfl rfl w.heap.size 0 (madeCells #[.int .u8 0] (l.length + k)).toList 5 ?c1 (bc l) ?c2 ?c3 ?c4 (bc_one l) w.heap.size w ((Below.refl _ _).alloc (Nat.le_refl _) _) (Nat.le_refl _) ?_))
  case c1 => rw [Array.toArray_toList]; exact heap_alloc_new w _
  case c2 => rw [bc_length]; exact (Nat.min_self _).symm
  case c3 =>
    intro hp
    rw [bc_length] at hp
    exact (hv.alloc _).src hp
  case c4 => rw [HL.out, bc_length]; omega
  intro w1 HW hb1
  have hown0 := own_copied (Nat.le_refl w.heap.size) HL.out (Nat.le_add_right l.length k) (by unfold maxLen; omega) HW.out
  clear HW HL hmk
  go_wp2_with fail
  go_loopw [1, 7, 21] (fun nv ov i wr => ∃ j : Nat, j ≤ k ∧ i = .int .i64 j ∧ nv = .int .u64 (n / 256 ^ j : Nat) ∧ Own wr w.heap.size ov (l ++ Lib.leBytes j n) ∧ Below w.heap.size w wr) (fun _ _ i _ => k - (intOf i).toNat)
  case atStart => exact ⟨0, Nat.zero_le _, rfl, by simp, by simpa [Lib.leBytes] using hown0, hb1⟩
  case round =>
    obtain ⟨j, hj, rfl, rfl, hown, hb⟩ := hrel
    obtain ⟨q, hq⟩ : ∃ q, q = n / 256 ^ j := ⟨_, rfl⟩
    have hqn : q < 18446744073709551616 := by rw [hq]; exact Nat.lt_of_le_of_lt (Nat.div_le_self _ _) hn
    rw [← hq]
    have HQ := Lib.hid hq
    clear hq
    by_cases h1 : j < k
    · go_wp2_with ((at_builtin; refine wpList_append_bs rfl (.tmp 23) (.tmp 26) 57 rfl w.heap.size i0 Try.underlying57 hi hz0 hz1 hz2 _ _ rfl (hown.alloc _) _ [(q % 256).toUInt8] rfl (Bs.single _ _ _ _ ?c5 _ rfl) ?c6 ?c7 ?_))
      case c5 => rw [Lib.toUInt8_mod]; omega
      case c6 => simp [Lib.leBytes_length]; omega
      case c7 => have := hb.size; simp; omega
      intro v' w2 hown2 hg2
      go_wp2_with fail
      go_roundw
      case rel => exact ⟨j + 1, by omega, by go_num, by rw [← div_pow_succ, ← HQ.out]; go_num, by rw [leBytes_snoc, ← HQ.out]; exact hown2, below_own (hb.alloc hb.size _) (hown.alloc _) hg2⟩
      case measure => simp [intOf]; omega
    · obtain rfl : j = k := by omega
      go_wp2_with fail
      go_ret
      exact ⟨_, rfl, hown, hb⟩


/-- The bytes of a text. -/
def txtB (s : ByteArray) : List UInt8 := Lib.leBytes 2 s.size ++ s.data.toList
theorem txtB_length (s : ByteArray) : (txtB s).length = 2 + s.size := by simp [txtB, Lib.leBytes_length]

theorem ptext (v : Value) (l : List UInt8) (s : ByteArray) (w : World) (hv : Bs w v l) (h47 : l.length + 8 + s.size ≤ 140737488355328) :
    Calls Try.prog 26 #[v, .string s] w (Made w (l ++ txtB s)) := by
  obtain ⟨i0, hi, hz0, hz1, hz2⟩ := info_parts u8_info
  go_enter Try.func26, Try.ntmps26
  go_wp2_with fail
  refine (put v l s.size 2 w hv (by omega) (by omega)).mono ?_
  rintro e w1 ⟨v1, rfl, hown1, hb1⟩
  go_wp2_with ((at_builtin; refine wpList_append_str rfl (.tmp 9) (.tmp 10) 57 9 rfl w.heap.size i0 Try.underlying57 Try.underlying9 hi hz0 hz1 hz2 _ _ rfl hown1 s rfl ?c6 hb1.size ?_))
  case c6 => simp [Lib.leBytes_length, szd]; omega
  intro v2 w2 hown2 hg2
  go_wp2_with fail
  go_ret
  exact ⟨_, rfl, hown2, below_own hb1 hown1 hg2⟩

/-- A number of 64 bits, taken as one without a sign. -/
def u64of (n : Int) : Nat := (n % 18446744073709551616).toNat
theorem u64of_lt (n : Int) : u64of n < 18446744073709551616 := by unfold u64of; omega
theorem wrap_u64of (n : Int) : IntKind.u64.wrap n = (u64of n : Int) := by rw [IntKind.wrap_u64]; unfold u64of; omega
/-- The bytes of a value. -/
def valB (k n : Int) (s : ByteArray) : List UInt8 :=
  Lib.leBytes 1 k.toNat ++ (if k = 1 then Lib.leBytes 1 (u64of n) else if k = 2 then Lib.leBytes 8 (u64of n) else if k = 3 then txtB s else [])

/-- A boxed struct of three fields, in a world that has grown. -/
theorem box3 {w w1 : World} {a0 a1 a2 : Value} {t : TypeId} (h : Below (w.alloc (.cells #[a0, a1, a2] t)).heap.size (w.alloc (.cells #[a0, a1, a2] t)) w1) :
    w1.cell? ⟨w.heap.size, 0, none⟩ = some a0 ∧ w1.cell? ⟨w.heap.size, 1, none⟩ = some a1 ∧ w1.cell? ⟨w.heap.size, 2, none⟩ = some a2 := by
  refine ⟨?_, ?_, ?_⟩ <;> (rw [h.cell (p := ⟨w.heap.size, _, none⟩) (by simp)]; simp [go_sem])
theorem below_box {w w1 : World} {o : Obj} (h : Below (w.alloc o).heap.size (w.alloc o) w1) : Below w.heap.size w w1 := below_trans ((Below.refl _ _).alloc (Nat.le_refl _) o) h
theorem own_box {w w1 : World} {o : Obj} {v : Value} {l : List UInt8} (h : Own w1 (w.alloc o).heap.size v l) : Own w1 w.heap.size v l := h.less (by simp)

set_option maxHeartbeats 1000000 in
theorem pvalue1 (v : Value) (l : List UInt8) (n : Int) (s : ByteArray) (w : World) (hv : Bs w v l) (h47 : l.length + 17 ≤ 140737488355328) :
    Calls Try.prog 19 #[v, vv 1 n s] w (Made w (l ++ valB 1 n s)) := by
  go_enter Try.func19, Try.ntmps19
  go_wp2_with fail
  refine (put v l 1 1 _ (hv.alloc _) (by omega) (by omega)).mono ?_
  rintro e w1 ⟨v1, rfl, hown1, hb1⟩
  obtain ⟨b0, b1, b2⟩ := box3 hb1
  go_wp2_with fail
  rw [wrap_u64of]
  with_reducible refine (put v1 _ (u64of n) 1 _ hown1.bs (u64of_lt n) (by simp [Lib.leBytes_length, szd]; omega)).mono ?_
  rintro e w2 ⟨v2, rfl, hown2, hb2⟩
  go_wp2_with fail
  go_ret
  exact ⟨_, rfl, by rw [List.append_assoc] at hown2; exact hown2.less (Nat.le_trans (below_box hb1).size (Nat.le_refl _)), below_trans (below_box hb1) hb2⟩

set_option maxHeartbeats 1000000 in
theorem pvalue2 (v : Value) (l : List UInt8) (n : Int) (s : ByteArray) (w : World) (hv : Bs w v l) (h47 : l.length + 17 ≤ 140737488355328) :
    Calls Try.prog 19 #[v, vv 2 n s] w (Made w (l ++ valB 2 n s)) := by
  go_enter Try.func19, Try.ntmps19
  go_wp2_with fail
  refine (put v l 2 1 _ (hv.alloc _) (by omega) (by omega)).mono ?_
  rintro e w1 ⟨v1, rfl, hown1, hb1⟩
  obtain ⟨b0, b1, b2⟩ := box3 hb1
  go_wp2_with fail
  rw [wrap_u64of]
  with_reducible refine (put v1 _ (u64of n) 8 _ hown1.bs (u64of_lt n) (by simp [Lib.leBytes_length, szd]; omega)).mono ?_
  rintro e w2 ⟨v2, rfl, hown2, hb2⟩
  go_wp2_with fail
  go_ret
  exact ⟨_, rfl, by rw [List.append_assoc] at hown2; exact hown2.less (Nat.le_trans (below_box hb1).size (Nat.le_refl _)), below_trans (below_box hb1) hb2⟩
set_option maxHeartbeats 1000000 in
theorem pvalue3 (v : Value) (l : List UInt8) (n : Int) (s : ByteArray) (w : World) (hv : Bs w v l) (h47 : l.length + 17 + s.size ≤ 140737488355328) :
    Calls Try.prog 19 #[v, vv 3 n s] w (Made w (l ++ valB 3 n s)) := by
  go_enter Try.func19, Try.ntmps19
  go_wp2_with fail
  refine (put v l 3 1 _ (hv.alloc _) (by omega) (by omega)).mono ?_
  rintro e w1 ⟨v1, rfl, hown1, hb1⟩
  obtain ⟨b0, b1, b2⟩ := box3 hb1
  go_wp2_with fail
  with_reducible refine (ptext v1 _ s _ hown1.bs (by simp [Lib.leBytes_length, szd]; omega)).mono ?_
  rintro e w2 ⟨v2, rfl, hown2, hb2⟩
  go_wp2_with fail
  go_ret
  exact ⟨_, rfl, by rw [List.append_assoc] at hown2; exact hown2.less (Nat.le_trans (below_box hb1).size (Nat.le_refl _)), below_trans (below_box hb1) hb2⟩
set_option maxHeartbeats 1000000 in
theorem pvalue0 (v : Value) (l : List UInt8) (k : Nat) (n : Int) (s : ByteArray) (w : World) (hv : Bs w v l) (hk : k < 256) (h1 : ¬ (k : Int) = 1) (h2 : ¬ (k : Int) = 2) (h3 : ¬ (k : Int) = 3) (h47 : l.length + 17 ≤ 140737488355328) :
    Calls Try.prog 19 #[v, vv k n s] w (Made w (l ++ valB k n s)) := by
  have hvB : valB k n s = Lib.leBytes 1 k := by simp [valB, h1, h2, h3]
  rw [hvB]
  clear hvB
  go_enter Try.func19, Try.ntmps19
  go_wp2_with fail
  refine (put v l k 1 _ (hv.alloc _) (by omega) (by omega)).mono ?_
  rintro e w1 ⟨v1, rfl, hown1, hb1⟩
  obtain ⟨b0, b1, b2⟩ := box3 hb1
  go_wp2_with fail
  go_ret
  exact ⟨_, rfl, own_box hown1, below_box hb1⟩
theorem pvalue (v : Value) (l : List UInt8) (k n : Int) (s : ByteArray) (w : World) (hv : Bs w v l) (hk : 0 ≤ k) (hk' : k < 256) (h47 : l.length + 17 + s.size ≤ 140737488355328) :
    Calls Try.prog 19 #[v, vv k n s] w (Made w (l ++ valB k n s)) := by
  by_cases h1 : k = 1
  · subst h1; exact pvalue1 v l n s w hv (by omega)
  · by_cases h2 : k = 2
    · subst h2; exact pvalue2 v l n s w hv (by omega)
    · by_cases h3 : k = 3
      · subst h3; exact pvalue3 v l n s w hv h47
      · obtain ⟨k, rfl⟩ := Int.eq_ofNat_of_zero_le hk
        exact pvalue0 v l k n s w hv (by omega) h1 h2 h3 (by omega)

end Go.Proofs.Ytfmngoniofoiiaa
