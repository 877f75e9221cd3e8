/- Several texts in one. -/
import Derived.Test.YtacoingheieceaaGreatMA12
import Derived.Test.YtacoingheieceaaGreatMA23
import Derived.Laws.CopyOwn
import Derived.Lib.Hide
import Derived.Outline
/- What layer 2's writers return (package packed: Put, Text, Value): their contracts. -/
namespace Go.Proofs.YtacoingheieceaaGreat
open Go.RowKit

/-- A size as it counts. -/
def szd (n : Int) : Nat := (min (max n 0) 8).toNat
theorem szd_le (n : Int) : szd n ≤ 8 := by unfold szd; omega
theorem szd_of {k : Nat} (h : k ≤ 8) : szd k = k := by unfold szd; omega

/-- What is returned is a new row of these bytes, and nothing old has changed. -/
def MadeB (w : World) (l : List UInt8) (e : Ending) (w' : World) : Prop := ∃ v', e = .returned v' ∧ Own w' w.heap.size v' l ∧ Below w.heap.size w w'

theorem sized (n : Int) (w : World) : Calls Tryz.prog 177 #[.int .i64 n] w fun e w' => e = .returned (.int .i64 (szd n)) ∧ w = w' := by
  by_cases h0 : n < 0
  · go_enter Tryz.func177, Tryz.ntmps177
    go_wp2
    go_ret
    exact ⟨ret_int (by unfold szd; omega), rfl⟩
  · by_cases h8 : n ≤ 8
    · go_enter Tryz.func177, Tryz.ntmps177
      go_wp2
      go_ret
      exact ⟨ret_int (by unfold szd; omega), rfl⟩
    · go_enter Tryz.func177, Tryz.ntmps177
      go_wp2
      go_ret
      exact ⟨ret_int (by unfold szd; omega), rfl⟩

/-- One byte more. -/
theorem leBytes_snoc : ∀ (j n : Nat), Lib.leBytes (j + 1) n = Lib.leBytes j n ++ [(n / 256 ^ j % 256).toUInt8]
  | 0, n => by simp [Lib.leBytes]
  | j + 1, n => by
    rw [Lib.leBytes, leBytes_snoc j (n / 256), Lib.leBytes, List.cons_append, Nat.div_div_eq_div_mul, Nat.pow_succ, Nat.mul_comm 256]
theorem div_pow_succ (n j : Nat) : n / 256 ^ j / 256 = n / 256 ^ (j + 1) := by rw [Nat.div_div_eq_div_mul, Nat.pow_succ]

/-- A row that was made, and into whose head a list was copied. -/
theorem own_copied {w : World} {B g cap : Nat} {l : List UInt8} {cur : List Value} (hB : B ≤ g) (hc : cur.length = cap) (hl : l.length ≤ cap) (hm : cap ≤ maxLen) (h : w.heap[g]? = some (.cells (splice cur 0 (bc l)).toArray 5 (0, 0))) :
    Own w B (.slice (some ⟨g, 0, none⟩) l.length cap) l := by
  refine ⟨by simp [bc_length], .inr ⟨g, cap, _, rfl, hB, h, hl, hm, ?_, ?_⟩⟩
  · rw [List.size_toArray, length_splice _ _ _ (by rw [bc_length]; omega)]; omega
  · simp [splice, ← bc_length l]

set_option maxHeartbeats 1000000 in
theorem put (v : Value) (l : List UInt8) (n : Nat) (size : Int) (w : World) (hv : Bs w v l) (hn : n < 18446744073709551616) (h47 : l.length + 8 ≤ 140737488355328) :
    Calls Tryz.prog 155 #[v, .int .u64 n, .int .i64 size] w (MadeB w (l ++ Lib.leBytes (szd size) n)) := by
  obtain ⟨i0, hi, hz0, hz1, hz2⟩ := info_parts u8_info
  obtain ⟨A, c, rfl, hc⟩ := hv.form
  have hk8 := szd_le size
  obtain ⟨k, hk⟩ : ∃ k, k = szd size := ⟨_, rfl⟩
  rw [← hk] at hk8 ⊢
  have HK := Lib.hid hk
  clear hk
  have hmk : ∀ W : World, (Instr.makeSlice 194 (.int .i64 (l.length : Int)) (.int .i64 ((l.length : Int) + (k : Int)))).run Tryz.prog W = .ok (.slice (some ⟨W.heap.size, 0, none⟩) l.length (l.length + k)) (W.alloc (.cells (madeCells #[.int .u8 0] (l.length + k)) 5)) := fun W => by
    have := run_make (P := Tryz.prog) W 194 5 i0 (.int .u8 0) Tryz.underlying194 hi hz0 .i64 .i64 (l.length : Int) ((l.length : Int) + (k : Int)) (by omega) (by omega) (by rw [hz2]; omega) (by omega)
    rw [this, hz1]
    have e : ((l.length : Int) + (k : Int)).toNat = l.length + k := by omega
    simp [e, Value.cells]
  have hlen : (madeCells #[.int .u8 0] (l.length + k)).toList.length = l.length + k := by simp [size_madeCells]
  have HL := Lib.hid hlen
  clear hlen
  have hsz : (Tryz.prog.info? 5).map (·.size) = some 1 := by kernel_rfl
  have HS := Lib.hid hsz
  clear hsz
  go_enter Tryz.func155, Tryz.ntmps155
  go_wp2_with (first | (go_at_call 177; rw [HK.out]; refine (sized _ _).mono ?_; rintro e w' ⟨rfl, rfl⟩; rw [← HK.out]) | (with_reducible refine wpList_copy_splice rfl (.tmp 17) (.tmp 18) 194 194 rfl 5 Tryz.underlying194 HS.out (some ⟨w.heap.size, 0, none⟩) A l.length (l.length + k) l.length c rfl rfl w.heap.size 0 (madeCells #[.int .u8 0] (l.length + k)).toList 5 ?c1 (bc l) ?c2 ?c3 ?c4 (bc_one l) w.heap.size w ((Below.refl _ _).alloc (Nat.le_refl _) _) (Nat.le_refl _) ?_))
  case c1 => rw [Array.toArray_toList]; exact heap_alloc_new w _
  case c2 => rw [bc_length]; exact (Nat.min_self _).symm
  case c3 =>
    intro hp
    rw [bc_length] at hp
    exact (hv.alloc _).src hp
  case c4 => rw [HL.out, bc_length]; omega
  intro w1 HW hb1
  have hown0 := own_copied (Nat.le_refl w.heap.size) HL.out (Nat.le_add_right l.length k) (by unfold maxLen; omega) HW.out
  clear HW HL hmk
  go_wp2_with fail
  go_loopw [1, 7, 21] (fun nv ov i wr => ∃ j : Nat, j ≤ k ∧ i = .int .i64 j ∧ nv = .int .u64 (n / 256 ^ j : Nat) ∧ Own wr w.heap.size ov (l ++ Lib.leBytes j n) ∧ Below w.heap.size w wr) (fun _ _ i _ => k - (intOf i).toNat)
  case atStart => exact ⟨0, Nat.zero_le _, rfl, by simp, by simpa [Lib.leBytes] using hown0, hb1⟩
  case round =>
    obtain ⟨j, hj, rfl, rfl, hown, hb⟩ := hrel
    obtain ⟨q, hq⟩ : ∃ q, q = n / 256 ^ j := ⟨_, rfl⟩
    have hqn : q < 18446744073709551616 := by rw [hq]; exact Nat.lt_of_le_of_lt (Nat.div_le_self _ _) hn
    rw [← hq]
    have HQ := Lib.hid hq
    clear hq
    by_cases h1 : j < k
    · go_wp2_with ((at_builtin; refine wpList_append_bs rfl (.tmp 23) (.tmp 26) 194 rfl w.heap.size i0 Tryz.underlying194 hi hz0 hz1 hz2 _ _ rfl (hown.alloc _) _ [(q % 256).toUInt8] rfl (Bs.single _ _ _ _ ?c5 _ rfl) ?c6 ?c7 ?_))
      case c5 => rw [Lib.toUInt8_mod]; omega
      case c6 => simp [Lib.leBytes_length]; omega
      case c7 => have := hb.size; simp; omega
      intro v' w2 hown2 hg2
      go_wp2_with fail
      go_roundw
      case rel => exact ⟨j + 1, by omega, by go_num, by rw [← div_pow_succ, ← HQ.out]; go_num, by rw [leBytes_snoc, ← HQ.out]; exact hown2, below_ownB (hb.alloc hb.size _) (hown.alloc _) hg2⟩
      case measure => simp [intOf]; omega
    · obtain rfl : j = k := by omega
      go_wp2_with fail
      go_ret
      exact ⟨_, rfl, hown, hb⟩


/-- The bytes of a text. -/
def txtB (s : ByteArray) : List UInt8 := Lib.leBytes 2 s.size ++ s.data.toList
theorem txtB_length (s : ByteArray) : (txtB s).length = 2 + s.size := by simp [txtB, Lib.leBytes_length]

theorem ptext (v : Value) (l : List UInt8) (s : ByteArray) (w : World) (hv : Bs w v l) (h47 : l.length + 8 + s.size ≤ 140737488355328) :
    Calls Tryz.prog 156 #[v, .string s] w (MadeB w (l ++ txtB s)) := by
  obtain ⟨i0, hi, hz0, hz1, hz2⟩ := info_parts u8_info
  go_enter Tryz.func156, Tryz.ntmps156
  go_wp2_with fail
  refine (put v l s.size 2 w hv (by omega) (by omega)).mono ?_
  rintro e w1 ⟨v1, rfl, hown1, hb1⟩
  go_wp2_with ((at_builtin; refine wpList_append_str rfl (.tmp 9) (.tmp 10) 194 9 rfl w.heap.size i0 Tryz.underlying194 Tryz.underlying9 hi hz0 hz1 hz2 _ _ rfl hown1 s rfl ?c6 hb1.size ?_))
  case c6 => simp [Lib.leBytes_length, szd]; omega
  intro v2 w2 hown2 hg2
  go_wp2_with fail
  go_ret
  exact ⟨_, rfl, hown2, below_ownB hb1 hown1 hg2⟩

/-- A number of 64 bits, taken as one without a sign. -/
def u64of (n : Int) : Nat := (n % 18446744073709551616).toNat
theorem u64of_lt (n : Int) : u64of n < 18446744073709551616 := by unfold u64of; omega
theorem wrap_u64of (n : Int) : IntKind.u64.wrap n = (u64of n : Int) := by rw [IntKind.wrap_u64]; unfold u64of; omega
/-- The bytes of a value. -/
def valB (k n : Int) (s : ByteArray) : List UInt8 :=
  Lib.leBytes 1 k.toNat ++ (if k = 1 then Lib.leBytes 1 (u64of n) else if k = 2 then Lib.leBytes 8 (u64of n) else if k = 3 then txtB s else [])

/-- A boxed struct of three fields, in a world that has grown. -/
theorem box3 {w w1 : World} {a0 a1 a2 : Value} {t : TypeId} (h : Below (w.alloc (.cells #[a0, a1, a2] t)).heap.size (w.alloc (.cells #[a0, a1, a2] t)) w1) :
    w1.cell? ⟨w.heap.size, 0, none⟩ = some a0 ∧ w1.cell? ⟨w.heap.size, 1, none⟩ = some a1 ∧ w1.cell? ⟨w.heap.size, 2, none⟩ = some a2 := by
  refine ⟨?_, ?_, ?_⟩ <;> (rw [h.cell (p := ⟨w.heap.size, _, none⟩) (by simp)]; simp [go_sem])
theorem below_box {w w1 : World} {o : Obj} (h : Below (w.alloc o).heap.size (w.alloc o) w1) : Below w.heap.size w w1 := below_trans ((Below.refl _ _).alloc (Nat.le_refl _) o) h
theorem own_box {w w1 : World} {o : Obj} {v : Value} {l : List UInt8} (h : Own w1 (w.alloc o).heap.size v l) : Own w1 w.heap.size v l := h.less (by simp)

set_option maxHeartbeats 1000000 in
theorem pvalue1 (v : Value) (l : List UInt8) (n : Int) (s : ByteArray) (w : World) (hv : Bs w v l) (h47 : l.length + 17 ≤ 140737488355328) :
    Calls Tryz.prog 124 #[v, vv 1 n s] w (MadeB w (l ++ valB 1 n s)) := by
  go_enter Tryz.func124, Tryz.ntmps124
  go_wp2_with fail
  refine (put v l 1 1 _ (hv.alloc _) (by omega) (by omega)).mono ?_
  rintro e w1 ⟨v1, rfl, hown1, hb1⟩
  obtain ⟨b0, b1, b2⟩ := box3 hb1
  go_wp2_with fail
  rw [wrap_u64of]
  with_reducible refine (put v1 _ (u64of n) 1 _ hown1.bs (u64of_lt n) (by simp [Lib.leBytes_length, szd]; omega)).mono ?_
  rintro e w2 ⟨v2, rfl, hown2, hb2⟩
  go_wp2_with fail
  go_ret
  exact ⟨_, rfl, by rw [List.append_assoc] at hown2; exact hown2.less (Nat.le_trans (below_box hb1).size (Nat.le_refl _)), below_trans (below_box hb1) hb2⟩

set_option maxHeartbeats 1000000 in
theorem pvalue2 (v : Value) (l : List UInt8) (n : Int) (s : ByteArray) (w : World) (hv : Bs w v l) (h47 : l.length + 17 ≤ 140737488355328) :
    Calls Tryz.prog 124 #[v, vv 2 n s] w (MadeB w (l ++ valB 2 n s)) := by
  go_enter Tryz.func124, Tryz.ntmps124
  go_wp2_with fail
  refine (put v l 2 1 _ (hv.alloc _) (by omega) (by omega)).mono ?_
  rintro e w1 ⟨v1, rfl, hown1, hb1⟩
  obtain ⟨b0, b1, b2⟩ := box3 hb1
  go_wp2_with fail
  rw [wrap_u64of]
  with_reducible refine (put v1 _ (u64of n) 8 _ hown1.bs (u64of_lt n) (by simp [Lib.leBytes_length, szd]; omega)).mono ?_
  rintro e w2 ⟨v2, rfl, hown2, hb2⟩
  go_wp2_with fail
  go_ret
  exact ⟨_, rfl, by rw [List.append_assoc] at hown2; exact hown2.less (Nat.le_trans (below_box hb1).size (Nat.le_refl _)), below_trans (below_box hb1) hb2⟩
set_option maxHeartbeats 1000000 in
theorem pvalue3 (v : Value) (l : List UInt8) (n : Int) (s : ByteArray) (w : World) (hv : Bs w v l) (h47 : l.length + 17 + s.size ≤ 140737488355328) :
    Calls Tryz.prog 124 #[v, vv 3 n s] w (MadeB w (l ++ valB 3 n s)) := by
  go_enter Tryz.func124, Tryz.ntmps124
  go_wp2_with fail
  refine (put v l 3 1 _ (hv.alloc _) (by omega) (by omega)).mono ?_
  rintro e w1 ⟨v1, rfl, hown1, hb1⟩
  obtain ⟨b0, b1, b2⟩ := box3 hb1
  go_wp2_with fail
  with_reducible refine (ptext v1 _ s _ hown1.bs (by simp [Lib.leBytes_length, szd]; omega)).mono ?_
  rintro e w2 ⟨v2, rfl, hown2, hb2⟩
  go_wp2_with fail
  go_ret
  exact ⟨_, rfl, by rw [List.append_assoc] at hown2; exact hown2.less (Nat.le_trans (below_box hb1).size (Nat.le_refl _)), below_trans (below_box hb1) hb2⟩
set_option maxHeartbeats 1000000 in
theorem pvalue0 (v : Value) (l : List UInt8) (k : Nat) (n : Int) (s : ByteArray) (w : World) (hv : Bs w v l) (hk : k < 256) (h1 : ¬ (k : Int) = 1) (h2 : ¬ (k : Int) = 2) (h3 : ¬ (k : Int) = 3) (h47 : l.length + 17 ≤ 140737488355328) :
    Calls Tryz.prog 124 #[v, vv k n s] w (MadeB w (l ++ valB k n s)) := by
  have hvB : valB k n s = Lib.leBytes 1 k := by simp [valB, h1, h2, h3]
  rw [hvB]
  clear hvB
  go_enter Tryz.func124, Tryz.ntmps124
  go_wp2_with fail
  refine (put v l k 1 _ (hv.alloc _) (by omega) (by omega)).mono ?_
  rintro e w1 ⟨v1, rfl, hown1, hb1⟩
  obtain ⟨b0, b1, b2⟩ := box3 hb1
  go_wp2_with fail
  go_ret
  exact ⟨_, rfl, own_box hown1, below_box hb1⟩
theorem pvalue (v : Value) (l : List UInt8) (k n : Int) (s : ByteArray) (w : World) (hv : Bs w v l) (hk : 0 ≤ k) (hk' : k < 256) (h47 : l.length + 17 + s.size ≤ 140737488355328) :
    Calls Tryz.prog 124 #[v, vv k n s] w (MadeB w (l ++ valB k n s)) := by
  by_cases h1 : k = 1
  · subst h1; exact pvalue1 v l n s w hv (by omega)
  · by_cases h2 : k = 2
    · subst h2; exact pvalue2 v l n s w hv (by omega)
    · by_cases h3 : k = 3
      · subst h3; exact pvalue3 v l n s w hv h47
      · obtain ⟨k, rfl⟩ := Int.eq_ofNat_of_zero_le hk
        exact pvalue0 v l k n s w hv (by omega) h1 h2 h3 (by omega)

end Go.Proofs.YtacoingheieceaaGreat

/- What the document's writers return (package easementref02: Number, Text, Value), and the law's own 'of'. -/
namespace Go.Proofs.YtacoingheieceaaGreat
set_option maxRecDepth 100000
open Go.RowKit

set_option maxHeartbeats 1000000 in
theorem ref_number (n : Nat) (k : Nat) (w : World) (hn : n < 18446744073709551616) (hk : k ≤ 8) :
    Calls Tryz.prog 161 #[.int .u64 n, .int .i64 k] w (MadeB w (Lib.leBytes k n)) := by
  obtain ⟨i0, hi, hz0, hz1, hz2⟩ := info_parts u8_info
  go_enter Tryz.func161, Tryz.ntmps161
  go_wp2_with fail
  go_loopw [0, 5, 6] (fun nv ov i wr => ∃ j : Nat, j ≤ k ∧ i = .int .i64 j ∧ nv = .int .u64 (n / 256 ^ j : Nat) ∧ Own wr w.heap.size ov (Lib.leBytes j n) ∧ Below w.heap.size w wr) (fun _ _ i _ => k - (intOf i).toNat)
  case atStart => exact ⟨0, Nat.zero_le _, rfl, by simp, Own.nil _ _, Below.refl _ _⟩
  case round =>
    obtain ⟨j, hj, rfl, rfl, hown, hb⟩ := hrel
    obtain ⟨q, hq⟩ : ∃ q, q = n / 256 ^ j := ⟨_, rfl⟩
    have hqn : q < 18446744073709551616 := by rw [hq]; exact Nat.lt_of_le_of_lt (Nat.div_le_self _ _) hn
    rw [← hq]
    have HQ := Lib.hid hq
    clear hq
    by_cases h1 : j < k
    · go_wp2_with ((at_builtin; refine wpList_append_bs rfl (.tmp 16) (.tmp 20) 194 rfl w.heap.size i0 Tryz.underlying194 hi hz0 hz1 hz2 _ _ rfl (hown.alloc _) _ [(q % 256).toUInt8] rfl (Bs.single _ _ _ _ ?c5 _ rfl) ?c6 ?c7 ?_))
      case c5 => rw [Lib.toUInt8_mod]; omega
      case c6 => simp [Lib.leBytes_length]; omega
      case c7 => have := hb.size; simp; omega
      intro v' w2 hown2 hg2
      go_wp2_with fail
      go_roundw
      case rel => exact ⟨j + 1, by omega, by go_num, by rw [← div_pow_succ, ← HQ.out]; go_num, by rw [leBytes_snoc, ← HQ.out]; exact hown2, below_ownB (hb.alloc hb.size _) (hown.alloc _) hg2⟩
      case measure => simp [intOf]; omega
    · obtain rfl : j = k := by omega
      go_wp2_with fail
      go_ret
      exact ⟨_, rfl, hown, hb⟩

theorem ref_text (s : ByteArray) (w : World) (h47 : 8 + s.size ≤ 140737488355328) :
    Calls Tryz.prog 162 #[.string s] w (MadeB w (txtB s)) := by
  obtain ⟨i0, hi, hz0, hz1, hz2⟩ := info_parts u8_info
  go_enter Tryz.func162, Tryz.ntmps162
  go_wp2_with fail
  refine (ref_number s.size 2 w (by omega) (by omega)).mono ?_
  rintro e w1 ⟨v1, rfl, hown1, hb1⟩
  go_wp2_with ((at_builtin; refine wpList_append_str rfl (.tmp 6) (.tmp 7) 194 9 rfl w.heap.size i0 Tryz.underlying194 Tryz.underlying9 hi hz0 hz1 hz2 _ _ rfl hown1 s rfl ?c6 hb1.size ?_))
  case c6 => simp [Lib.leBytes_length]; omega
  intro v2 w2 hown2 hg2
  go_wp2_with fail
  go_ret
  exact ⟨_, rfl, hown2, below_ownB hb1 hown1 hg2⟩

theorem le1 (m : Nat) : Lib.leBytes 1 m = [(m % 256).toUInt8] := rfl
theorem byte_of (n : Int) : IntKind.u8.wrap n = (((u64of n) % 256).toUInt8.toNat : Int) := by
  rw [IntKind.wrap_u8, Lib.toUInt8_mod]; unfold u64of; omega

set_option maxHeartbeats 1000000 in
theorem ref_value1 (n : Int) (s : ByteArray) (w : World) : Calls Tryz.prog 130 #[vv 1 n s] w (MadeB w (valB 1 n s)) := by
  obtain ⟨i0, hi, hz0, hz1, hz2⟩ := info_parts u8_info
  go_enter Tryz.func130, Tryz.ntmps130
  go_wp2_with ((at_builtin; refine wpList_append_bs rfl (.tmp 11) (.tmp 15) 194 rfl w.heap.size i0 Tryz.underlying194 hi hz0 hz1 hz2 _ _ rfl ((Own.boxed _ _ _ 1 rfl).alloc _) _ [(u64of n % 256).toUInt8] rfl (Bs.single _ _ _ _ ?c5 _ ?c3) ?c6 ?c7 ?_))
  case c3 => simp
  case c5 => exact byte_of n
  case c6 => simp
  case c7 => simp; omega
  intro v' w2 hown2 hg2
  go_wp2_with fail
  go_ret
  refine ⟨_, rfl, hown2, ?_⟩
  exact (((((Below.refl _ _).alloc (Nat.le_refl _) _).alloc (by simp) _).alloc (by simp; omega) _).grown hg2 (by simp; omega) (fun k hk => by simp [Value.ownBlock] at hk; omega))
set_option maxHeartbeats 1000000 in
theorem ref_value2 (n : Int) (s : ByteArray) (w : World) : Calls Tryz.prog 130 #[vv 2 n s] w (MadeB w (valB 2 n s)) := by
  obtain ⟨i0, hi, hz0, hz1, hz2⟩ := info_parts u8_info
  go_enter Tryz.func130, Tryz.ntmps130
  go_wp2_with fail
  rw [wrap_u64of]
  refine (ref_number (u64of n) 8 _ (u64of_lt n) (by omega)).mono ?_
  rintro e w1 ⟨v1, rfl, hown1, hb1⟩
  have hown := (Own.boxed w (.cells #[.int .u8 2, .int .i64 n, .string s] 74) 2 2 rfl).below hb1
  have hbel := below_box (below_box hb1)
  go_wp2_with ((at_builtin; refine wpList_append_bs rfl (.tmp 19) (.tmp 23) 194 rfl w.heap.size i0 Tryz.underlying194 hi hz0 hz1 hz2 _ _ rfl hown _ _ rfl hown1.bs ?c6 hbel.size ?_))
  case c6 => simp [Lib.leBytes_length]
  intro v' w2 hown2 hg2
  go_wp2_with fail
  go_ret
  exact ⟨_, rfl, hown2, below_ownB hbel hown hg2⟩
set_option maxHeartbeats 1000000 in
theorem ref_value3 (n : Int) (s : ByteArray) (w : World) (h47 : 17 + s.size ≤ 140737488355328) : Calls Tryz.prog 130 #[vv 3 n s] w (MadeB w (valB 3 n s)) := by
  obtain ⟨i0, hi, hz0, hz1, hz2⟩ := info_parts u8_info
  go_enter Tryz.func130, Tryz.ntmps130
  go_wp2_with fail
  with_reducible refine (ref_text s _ (by omega)).mono ?_
  rintro e w1 ⟨v1, rfl, hown1, hb1⟩
  have hown := (Own.boxed w (.cells #[.int .u8 3, .int .i64 n, .string s] 74) 3 3 rfl).below hb1
  have hbel := below_box (below_box hb1)
  go_wp2_with ((at_builtin; refine wpList_append_bs rfl (.tmp 27) (.tmp 30) 194 rfl w.heap.size i0 Tryz.underlying194 hi hz0 hz1 hz2 _ _ rfl hown _ _ rfl hown1.bs ?c6 hbel.size ?_))
  case c6 => rw [txtB_length]; simp; omega
  intro v' w2 hown2 hg2
  go_wp2_with fail
  go_ret
  exact ⟨_, rfl, hown2, below_ownB hbel hown hg2⟩
set_option maxHeartbeats 1000000 in
theorem ref_value0 (k : Nat) (n : Int) (s : ByteArray) (w : World) (hk : k < 256) (h1 : ¬ (k : Int) = 1) (h2 : ¬ (k : Int) = 2) (h3 : ¬ (k : Int) = 3) : Calls Tryz.prog 130 #[vv k n s] w (MadeB w (valB k n s)) := by
  have hvB : valB k n s = Lib.leBytes 1 k := by simp [valB, h1, h2, h3]
  rw [hvB]
  clear hvB
  go_enter Tryz.func130, Tryz.ntmps130
  go_wp2_with fail
  go_ret
  exact ⟨_, rfl, Own.boxed _ _ _ _ (by rw [Lib.toUInt8_mod]; omega), ((Below.refl _ _).alloc (Nat.le_refl _) _).alloc (by simp) _⟩
theorem ref_value (k n : Int) (s : ByteArray) (w : World) (hk : 0 ≤ k) (hk' : k < 256) (h47 : 17 + s.size ≤ 140737488355328) :
    Calls Tryz.prog 130 #[vv k n s] w (MadeB w (valB k n s)) := by
  by_cases h1 : k = 1
  · subst h1; exact ref_value1 n s w
  · by_cases h2 : k = 2
    · subst h2; exact ref_value2 n s w
    · by_cases h3 : k = 3
      · subst h3; exact ref_value3 n s w h47
      · obtain ⟨k, rfl⟩ := Int.eq_ofNat_of_zero_le hk
        exact ref_value0 k n s w (by omega) h1 h2 h3

end Go.Proofs.YtacoingheieceaaGreat

/- What layer 3 returns (package hash: New, Of, All), and the document's Of: their contracts, for every state of a hasher. -/
namespace Go.Proofs.YtacoingheieceaaGreat
set_option maxRecDepth 100000
open Go.RowKit

def byteStep (n : Nat) (c : UInt8) : Nat := (n ^^^ c.toNat) * 1099511628211 % 18446744073709551616
/-- Bytes' number, ahead of the last mixing. -/
def bytesN : Nat → List UInt8 → Nat
  | key, [] => key
  | key, c :: l => bytesN (byteStep key c) l
/-- A value's hash. -/
def hashN (seed : Nat) (k n : Int) (s : ByteArray) : Nat := mixN (bytesN (keyN seed) (valB k n s))
theorem hashN_lt (seed : Nat) (k n : Int) (s : ByteArray) : hashN seed k n s < 18446744073709551616 := mixN_lt _
theorem byteStep_lt (n : Nat) (c : UInt8) : byteStep n c < 18446744073709551616 := Nat.mod_lt _ (by decide)
theorem bytesN_lt : ∀ (l : List UInt8) {key : Nat}, key < 18446744073709551616 → bytesN key l < 18446744073709551616
  | [], _, h => h
  | c :: l, key, _ => by rw [bytesN]; exact bytesN_lt l (byteStep_lt key c)
theorem bytesN_snoc : ∀ (l : List UInt8) (key : Nat) (c : UInt8), bytesN key (l ++ [c]) = byteStep (bytesN key l) c
  | [], _, _ => rfl
  | d :: l, key, c => by rw [List.cons_append, bytesN, bytesN, bytesN_snoc l]
theorem bytesN_take {key : Nat} {l : List UInt8} {j : Nat} (hj : j < l.length) : bytesN key (l.take (j + 1)) = byteStep (bytesN key (l.take j)) l[j] := by
  rw [List.take_add_one, List.getElem?_eq_getElem hj, Option.toList_some, bytesN_snoc]
theorem byteStep_run {n : Nat} (hn : n < 18446744073709551616) (c : UInt8) : IntKind.u64.wrap (bits .xor .u64 (n : Int) (IntKind.u64.wrap (c.toNat : Int)) * 1099511628211) = ((byteStep n c : Nat) : Int) := by
  have : c.toNat < 256 := c.toNat_lt
  rw [show IntKind.u64.wrap (c.toNat : Int) = (c.toNat : Int) by rw [IntKind.wrap_u64]; omega, bits_xor_u64_nat n c.toNat hn (by omega), IntKind.wrap_u64]
  unfold byteStep
  omega

theorem valB_le (k n : Int) (s : ByteArray) : (valB k n s).length ≤ 17 + s.size := by
  unfold valB
  rw [List.length_append, Lib.leBytes_length]
  split
  · rw [Lib.leBytes_length]; omega
  · split
    · rw [Lib.leBytes_length]; omega
    · split
      · rw [txtB_length]; omega
      · simp; omega

/-- Block b is a hasher of the seed. -/
def Hs (w : World) (b seed : Nat) : Prop := ∃ (d : Int) (q key : Nat), Row w b seed d 0 q key ∧ (d = 0 ∨ d = 1 ∧ key = keyN seed)
section
variable {w w' : World} {b seed : Nat}
theorem Hs.lt (h : Hs w b seed) : b < w.heap.size := by obtain ⟨_, _, _, h, _⟩ := h; exact h.lt
theorem Hs.below (h : Hs w b seed) (hb : Below w.heap.size w w') : Hs w' b seed := by obtain ⟨d, q, key, h, k⟩ := h; exact ⟨d, q, key, h.below hb, k⟩
theorem Hs.grown (h : Hs w b seed) {row : Option Nat} (hg : w.grownBy w' row) (hb : some b ≠ row) : Hs w' b seed := by obtain ⟨d, q, key, h, k⟩ := h; exact ⟨d, q, key, h.grown hg hb, k⟩
theorem Hs.alloc (h : Hs w b seed) (o : Obj) : Hs (w.alloc o) b seed := h.below ((Below.refl _ _).alloc (Nat.le_refl _) o)
end

theorem hnew (seed : Nat) (w : World) : Calls Tryz.prog 34 #[.int .u64 seed] w fun e w' => e = .returned (.pointer (some ⟨w.heap.size, 0, none⟩)) ∧ Hs w' w.heap.size seed ∧ Gw w w' := by
  go_enter Tryz.func34, Tryz.ntmps34
  go_wp2
  go_ret
  exact ⟨rfl, ⟨0, 0, 0, heap_alloc_new w _, .inl rfl⟩, (Gw.refl _).alloc _ _⟩

set_option maxRecDepth 100000 in
set_option maxHeartbeats 1600000 in
theorem do_first (b seed q key : Nat) (pl : Addr) (hpb : ¬ b = pl.block) (w : World) (hp : w.cell? pl = some (.pointer (some ⟨b, 0, none⟩))) (h : Row w b seed 0 0 q key) :
    Calls Tryz.prog 153 #[.pointer (some ⟨b, 1, none⟩), .func (.func 154) #[] #[.pointer (some pl)]] w fun e w' => e = .returned (.tuple #[]) ∧
      w' = ((((w.setCell ⟨b, 2, none⟩ (.int .i32 1)).drew.setCell ⟨b, 4, none⟩ (.int .u64 (keyN seed))).drew.setCell ⟨b, 1, none⟩ (.int .u32 1)).setCell ⟨b, 2, none⟩ (.int .i32 0)) := by
  have hl := run_call_load (P := Tryz.prog) Tryz.func186 (by kernel_rfl) (by kernel_rfl) (by kernel_rfl) .u32 (by kernel_rfl) h.c1
  have hnot : ∀ (x : Bool) (w : World), (Op.unary .not (.bool x)).run Tryz.prog w = .ok (.bool (!x)) w := fun _ _ => rfl
  go_enter Tryz.func153, Tryz.ntmps153
  go_wp2_with (first | (go_at_call 176; refine (slow b seed q key pl hpb w hp h).mono ?_; rintro e w' ⟨rfl, rfl⟩) | (go_at_call 175; go_in))
  go_end0
  exact ⟨rfl, rfl⟩
theorem do_done (b seed q key : Nat) (fv : Value) (w : World) (h : Row w b seed 1 0 q key) :
    Calls Tryz.prog 153 #[.pointer (some ⟨b, 1, none⟩), fv] w fun e w' => e = .returned (.tuple #[]) ∧ w' = w := by
  have hl := run_call_load (P := Tryz.prog) Tryz.func186 (by kernel_rfl) (by kernel_rfl) (by kernel_rfl) .u32 (by kernel_rfl) h.c1
  have hnot : ∀ (x : Bool) (w : World), (Op.unary .not (.bool x)).run Tryz.prog w = .ok (.bool (!x)) w := fun _ _ => rfl
  go_enter Tryz.func153, Tryz.ntmps153
  go_wp2
  go_end0
  exact ⟨rfl, rfl⟩

/-- The world behind the first need of the key. -/
theorem first_row {w : World} {b seed q key : Nat} (h : Row w b seed 0 0 q key) : Row ((((w.setCell ⟨b, 2, none⟩ (.int .i32 1)).drew.setCell ⟨b, 4, none⟩ (.int .u64 (keyN seed))).drew.setCell ⟨b, 1, none⟩ (.int .u32 1)).setCell ⟨b, 2, none⟩ (.int .i32 0)) b seed 1 0 q (keyN seed) :=
  ((((h.set2 1).drew.set4 (keyN seed)).drew.set1 1).set2 0)
theorem first_grown (w : World) (b : Nat) (x y z u : Value) : w.grownBy ((((w.setCell ⟨b, 2, none⟩ x).drew.setCell ⟨b, 4, none⟩ y).drew.setCell ⟨b, 1, none⟩ z).setCell ⟨b, 2, none⟩ u) (some b) := by
  have d : ∀ v : World, v.grownBy v.drew (some b) := fun v => ⟨rfl, rfl, rfl, Nat.le_refl _, fun _ _ _ => rfl⟩
  exact (((((grownBy_setCell w b 2 x).trans (d _)).trans (grownBy_setCell _ b 4 y)).trans (d _)).trans (grownBy_setCell _ b 1 z)).trans (grownBy_setCell _ b 2 u)

abbrev hp (b : Nat) : Value := .pointer (some ⟨b, 0, none⟩)
set_option maxHeartbeats 1600000 in
theorem start (b seed : Nat) (w : World) (h : Hs w b seed) : Calls Tryz.prog 123 #[hp b] w fun e w' => e = .returned (.int .u64 (keyN seed)) ∧ Hs w' b seed ∧ w.grownBy w' (some b) := by
  obtain ⟨d, q, key, hr, hd⟩ := h
  have hmf : ∀ (fn : Go.Fn) (first cap : Array Value) (w : World), (Instr.makeFunc fn first cap).run Tryz.prog w = .ok (.func fn first cap) w := fun _ _ _ _ => rfl
  have hlt := hr.lt
  have hr' : Row (w.alloc (.cells #[hp b] 28)) b seed d 0 q key := hr.below ((Below.refl _ _).alloc (Nat.le_refl _) _)
  have hpl : (w.alloc (.cells #[hp b] 28)).cell? ⟨w.heap.size, 0, none⟩ = some (hp b) := by simp [go_sem]
  have hal : w.grownBy (w.alloc (.cells #[hp b] 28)) (some b) := World.grownBy_alloc _ _ _
  rcases hd with rfl | ⟨rfl, rfl⟩
  · have hr2 := first_row hr'
    have hg2 := first_grown (w.alloc (.cells #[hp b] 28)) b (.int .i32 1) (.int .u64 (keyN seed)) (.int .u32 1) (.int .i32 0)
    have hp2 := hg2.cell hpl (by simp; omega)
    have c4 := hr2.c4
    have hres : Hs _ b seed := ⟨1, q, keyN seed, hr2, .inr ⟨rfl, rfl⟩⟩
    have HG := Lib.hid (hal.trans hg2)
    have HR := Lib.hid hres
    clear hr2 hg2 hres
    go_enter Tryz.func123, Tryz.ntmps123
    go_wp2_with (go_at_call 153; refine (do_first b seed q key ⟨w.heap.size, 0, none⟩ (by simp; omega) _ hpl hr').mono ?_; rintro e w' ⟨rfl, hw⟩; rw [← hw] at hp2 c4 HG HR; clear hw)
    go_ret
    exact ⟨rfl, HR.out, HG.out⟩
  · have c4 := hr'.c4
    go_enter Tryz.func123, Tryz.ntmps123
    go_wp2_with (go_at_call 153; refine (do_done b seed q _ _ _ hr').mono ?_; rintro e w' ⟨rfl, rfl⟩)
    go_ret
    exact ⟨rfl, ⟨1, q, _, hr', .inr ⟨rfl, rfl⟩⟩, hal⟩

/-- No hasher. -/
theorem nof (k n : Int) (s : ByteArray) (w : World) : Calls Tryz.prog 85 #[.pointer none, vv k n s] w fun e w' => e = .returned (.int .u64 0) ∧ Gw w w' := by
  go_enter Tryz.func85, Tryz.ntmps85
  go_wp2_with fail
  go_ret
  exact ⟨rfl, (Gw.refl _).alloc _ _⟩

/-- A boxed struct of three fields, where only an older block changed. -/
theorem box3g {w w1 : World} {a0 a1 a2 : Value} {t : TypeId} {b : Nat} (h : (w.alloc (.cells #[a0, a1, a2] t)).grownBy w1 (some b)) (hb : b < w.heap.size) :
    w1.cell? ⟨w.heap.size, 0, none⟩ = some a0 ∧ w1.cell? ⟨w.heap.size, 1, none⟩ = some a1 ∧ w1.cell? ⟨w.heap.size, 2, none⟩ = some a2 := by
  refine ⟨h.cell ?_ ?_, h.cell ?_ ?_, h.cell ?_ ?_⟩ <;> first | (simp; omega) | simp [go_sem]

set_option maxHeartbeats 1600000 in
theorem hof (b seed : Nat) (k n : Int) (s : ByteArray) (w : World) (h : Hs w b seed) (hk : 0 ≤ k) (hk' : k ≤ 255) (h47 : 17 + s.size ≤ 140737488355328) :
    Calls Tryz.prog 85 #[hp b, vv k n s] w fun e w' => e = .returned (.int .u64 (hashN seed k n s)) ∧ Hs w' b seed ∧ w.grownBy w' (some b) := by
  have hlt := h.lt
  go_enter Tryz.func85, Tryz.ntmps85
  go_wp2_with fail
  refine (start b seed _ (h.alloc _)).mono ?_
  rintro e w1 ⟨rfl, h1, g1⟩
  obtain ⟨c0, c1, c2⟩ := box3g g1 hlt
  have hg1 : w.grownBy w1 (some b) := World.grownBy.trans (World.grownBy_alloc _ _ _) g1
  clear g1
  go_wp2_with fail
  refine (pvalue _ [] k n s w1 (Bs.nil _) hk (by omega) (by simp; omega)).mono ?_
  rintro e w2 ⟨v2, rfl, hown, hb2⟩
  rw [List.nil_append] at hown
  have hres : Hs w2 b seed ∧ w.grownBy w2 (some b) := ⟨h1.below hb2, grownBy_then hg1 hb2⟩
  have HB := Lib.hid hown.bs
  have HR := Lib.hid hres
  obtain ⟨A, c, rfl, hc⟩ := hown.bs.form
  have hlen : (valB k n s).length ≤ 140737488355328 := by have := valB_le k n s; omega
  obtain ⟨l, hl⟩ : ∃ l, l = valB k n s := ⟨_, rfl⟩
  rw [← hl] at HB hc hlen ⊢
  have HL := Lib.hid hl
  clear hl hown hb2 hg1 h1 c0 c1 c2 hres h
  go_wp2_with fail
  go_loopw [5, 15] (fun nv i wr => ∃ j : Nat, j ≤ l.length ∧ i = .int .i64 j ∧ nv = .int .u64 (bytesN (keyN seed) (l.take j)) ∧ w2 = wr) (fun _ i _ => l.length - (intOf i).toNat)
  case atStart => exact ⟨0, Nat.zero_le _, rfl, by simp [bytesN], rfl⟩
  case round =>
    obtain ⟨j, hj, rfl, rfl, rfl⟩ := hrel
    obtain ⟨m, hm⟩ : ∃ m, m = bytesN (keyN seed) (l.take j) := ⟨_, rfl⟩
    have hmn : m < 18446744073709551616 := by rw [hm]; exact bytesN_lt _ (keyN_lt _)
    rw [← hm]
    have HM := Lib.hid hm
    clear hm
    by_cases h1 : j < l.length
    · obtain ⟨b', o', c', e', hx⟩ := HB.out.at h1
      injection e' with eA _ _
      subst eA
      obtain ⟨x, hxl⟩ : ∃ x, x = l[j] := ⟨_, rfl⟩
      rw [← hxl] at hx
      have HX := Lib.hid hxl
      clear hxl
      go_wp2_with fail
      go_roundw
      case rel => exact ⟨j + 1, by omega, by go_num, by rw [bytesN_take h1, ← HM.out, ← HX.out, byteStep_run hmn], trivial⟩
      case measure => simp [intOf]; omega
    · obtain rfl : j = l.length := by omega
      rw [List.take_length] at HM
      go_wp2_with fail
      refine (mix m hmn _).mono ?_
      rintro e w' ⟨rfl, rfl⟩
      go_wp2_with fail
      go_ret
      exact ⟨ret_int (by rw [HM.out, HL.out]; rfl), HR.out⟩

set_option maxHeartbeats 1600000 in
theorem ref_of (seed : Nat) (k n : Int) (s : ByteArray) (w : World) (hk : 0 ≤ k) (hk' : k ≤ 255) (h47 : 17 + s.size ≤ 140737488355328) :
    Calls Tryz.prog 88 #[.int .u64 seed, vv k n s] w fun e w' => e = .returned (.int .u64 (hashN seed k n s)) ∧ Below w.heap.size w w' := by
  go_enter Tryz.func88, Tryz.ntmps88
  go_wp2_with fail
  refine (ref_key seed _).mono ?_
  rintro e w1 ⟨rfl, rfl⟩
  go_wp2_with fail
  refine (ref_value k n s _ hk (by omega) h47).mono ?_
  rintro e w2 ⟨v2, rfl, hown, hb2⟩
  have HR := Lib.hid (below_box hb2)
  have HB := Lib.hid hown.bs
  obtain ⟨A, c, rfl, hc⟩ := hown.bs.form
  have hlen : (valB k n s).length ≤ 140737488355328 := by have := valB_le k n s; omega
  obtain ⟨l, hl⟩ : ∃ l, l = valB k n s := ⟨_, rfl⟩
  rw [← hl] at HB hc hlen ⊢
  have HL := Lib.hid hl
  clear hl hown hb2
  go_wp2_with fail
  go_loopw [5, 7] (fun nv i wr => ∃ j : Nat, j ≤ l.length ∧ i = .int .i64 j ∧ nv = .int .u64 (bytesN (keyN seed) (l.take j)) ∧ w2 = wr) (fun _ i _ => l.length - (intOf i).toNat)
  case atStart => exact ⟨0, Nat.zero_le _, rfl, by simp [bytesN], rfl⟩
  case round =>
    obtain ⟨j, hj, rfl, rfl, rfl⟩ := hrel
    obtain ⟨m, hm⟩ : ∃ m, m = bytesN (keyN seed) (l.take j) := ⟨_, rfl⟩
    have hmn : m < 18446744073709551616 := by rw [hm]; exact bytesN_lt _ (keyN_lt _)
    rw [← hm]
    have HM := Lib.hid hm
    clear hm
    by_cases h1 : j < l.length
    · obtain ⟨b', o', c', e', hx⟩ := HB.out.at h1
      injection e' with eA _ _
      subst eA
      obtain ⟨x, hxl⟩ : ∃ x, x = l[j] := ⟨_, rfl⟩
      rw [← hxl] at hx
      have HX := Lib.hid hxl
      clear hxl
      go_wp2_with fail
      go_roundw
      case rel => exact ⟨j + 1, by omega, by go_num, by rw [bytesN_take h1, ← HM.out, ← HX.out, byteStep_run hmn], trivial⟩
      case measure => simp [intOf]; omega
    · obtain rfl : j = l.length := by omega
      rw [List.take_length] at HM
      go_wp2_with fail
      refine (ref_mix m hmn _).mono ?_
      rintro e w' ⟨rfl, rfl⟩
      go_wp2_with fail
      go_ret
      exact ⟨ret_int (by rw [HM.out, HL.out]; rfl), HR.out⟩

end Go.Proofs.YtacoingheieceaaGreat
