/- For any set of digits and any list of numbers: With has what was there or is listed, Without what was there and is not listed (DigitChanges returns true; the arguments read as they did). No condition. -/
import Derived.Test.YtichfhnhocbenaaRows
import Derived.Test.YtichfhnhocbenaaLaw05
import Derived.OpenShut
import Derived.Lib.SmallJoins
import Derived.SizedLaws
import Derived.ChangeSlices
namespace Go.Proofs.Ytichfhnhocbenaa.digitChanges
open Go.ChangeShapes Go.WideShapes Go.ChangeAt Go.RowKit Go.Joins Go.Deep

theorem own : ownKnob Try.prog.godebug = none := by kernel_rfl
theorem laidOut : laidOutB Try.prog = true := by kernel_rfl

theorem walk_big (n : Nat) (A : Option Addr) (l : List Int) (c : Nat) (w : World) (hlen : l.length ≤ 4611686018427387904) (hbig : 60 < l.length) :
    Calls Try.prog 4 #[.int .u32 n, .slice A l.length c] w fun e w' => e = .returned (.bool true) ∧ w = w' := by
  go_enter Try.func4, Try.ntmps4
  go_wp2_with fail
  refine (lives5 _).mono ?_
  rintro e w' ⟨rfl, rfl⟩
  go_wp2_with fail
  refine (lives5 _).mono ?_
  rintro e w' ⟨rfl, rfl⟩
  go_wp2_with fail
  go_ret
  exact ⟨rfl, rfl⟩

theorem or_bit (n k : Nat) (hk : k < 32) (l : List Int) : (n ||| ofN l).testBit k = (n.testBit k || decide ((k : Int) ∈ l)) := by rw [Nat.testBit_or, ofN_bit k hk]
theorem and_bit (n k : Nat) (hk : k < 32) (l : List Int) : (n &&& (4294967295 - ofN l)).testBit k = (n.testBit k && !decide ((k : Int) ∈ l)) := by rw [Nat.testBit_and, not_bit _ k (ofN_lt l) hk, ofN_bit k hk]
theorem mem_snoc (x k : Int) (l : List Int) : decide (k ∈ l ++ [x]) = (decide (k ∈ l) || decide (x = k)) := by
  rw [Bool.eq_iff_iff]
  simp only [decide_eq_true_eq, List.mem_append, List.mem_singleton, Bool.or_eq_true]
  exact or_congr Iff.rfl eq_comm

set_option maxHeartbeats 1600000 in
theorem walk_small (n : Nat) (hn : n < 4294967296) (A : Option Addr) (l : List Int) (c : Nat) (w : World) (hl : Ints w A l) (hle : l.length ≤ 60) :
    Calls Try.prog 4 #[.int .u32 n, .slice A l.length c] w fun e w' => e = .returned (.bool true) ∧ w = w' := by
  obtain ⟨a, ha⟩ : ∃ a, a = n ||| ofN l := ⟨_, rfl⟩
  obtain ⟨b, hb⟩ : ∃ b, b = n &&& (4294967295 - ofN l) := ⟨_, rfl⟩
  have ha32 : a < 4294967296 := by rw [ha]; exact Nat.or_lt_two_pow (n := 32) hn (ofN_lt l)
  have hb32 : b < 4294967296 := by rw [hb]; exact Nat.lt_of_le_of_lt Nat.and_le_left hn
  have HA := Lib.hid (fun k (hk : k < 32) => ha ▸ or_bit n k hk l)
  have HB := Lib.hid (fun k (hk : k < 32) => hb ▸ and_bit n k hk l)
  go_enter Try.func4, Try.ntmps4
  go_wp2_with fail
  refine (lives5 _).mono ?_
  rintro e w' ⟨rfl, rfl⟩
  go_wp2_with fail
  refine (with_run n hn A l c _ hl (by omega)).mono ?_
  rintro e w' ⟨rfl, rfl⟩
  rw [← ha]
  clear ha
  go_wp2_with fail
  refine (without_run n hn A l c _ hl (by omega)).mono ?_
  rintro e w' ⟨rfl, rfl⟩
  rw [← hb]
  clear hb
  go_wp2_with fail
  go_loopw [27] (fun i wr => ∃ k : Nat, k ≤ 32 ∧ i = .int .i64 k ∧ w = wr) (fun i _ => 32 - (intOf i).toNat)
  case atStart => exact ⟨0, by decide, rfl, rfl⟩
  case round =>
    obtain ⟨k, hk, rfl, rfl⟩ := hrel
    by_cases h1 : k < 32
    · go_wp2_with fail
      go_loopw [9, 32] (fun m i wr => ∃ j : Nat, j ≤ l.length ∧ i = .int .i64 j ∧ m = .bool (decide ((k : Int) ∈ l.take j)) ∧ w = wr) (fun _ i _ => l.length - (intOf i).toNat)
      case atStart => exact ⟨0, Nat.zero_le _, rfl, by simp, rfl⟩
      case round =>
        obtain ⟨j, hj, rfl, rfl, rfl⟩ := hrel
        obtain ⟨m, hm⟩ : ∃ m, m = decide ((k : Int) ∈ l.take j) := ⟨_, rfl⟩
        rw [← hm]
        have HM := Lib.hid hm
        clear hm
        by_cases h2 : j < l.length
        · obtain ⟨x, hx⟩ : ∃ x, l[j]? = some x := ⟨_, List.getElem?_eq_getElem h2⟩
          obtain ⟨bb, o, rfl, hc⟩ := hl.at hx
          have HX := Lib.hid hx
          clear hx
          cases m
          · go_wp2_with fail
            go_roundw
            case rel => exact ⟨j + 1, by omega, by go_num, by rw [take_snoc HX.out, mem_snoc, ← HM.out]; simp; rfl, trivial⟩
            case measure => simp [intOf]; omega
          · go_wp2_with fail
            go_roundw
            case rel => exact ⟨j + 1, by omega, by go_num, by rw [take_snoc HX.out, mem_snoc, ← HM.out]; simp, trivial⟩
            case measure => simp [intOf]; omega
        · obtain rfl : j = l.length := by omega
          have hA := HA.out k h1
          have hB := HB.out k h1
          have hM := HM.out
          rw [List.take_length] at hM
          rw [← hM] at hA hB
          clear hM HM
          obtain ⟨s, hs⟩ : ∃ s, s = n.testBit k := ⟨_, rfl⟩
          rw [← hs] at hA hB
          have HAk := Lib.hid hA
          have HBk := Lib.hid hB
          have HSk := Lib.hid hs
          clear hA hB hs
          go_wp2_with fail
          refine (has a ha32 k h1 _).mono ?_
          rintro e w' ⟨rfl, rfl⟩
          rw [HAk.out]
          go_wp2_with fail
          refine (has n hn k h1 _).mono ?_
          rintro e w' ⟨rfl, rfl⟩
          rw [← HSk.out]
          cases s <;> cases m <;> (
            go_wp2_with fail
            refine (has b hb32 k h1 _).mono ?_
            rintro e w' ⟨rfl, rfl⟩
            rw [HBk.out]
            go_wp2_with fail
            refine (has n hn k h1 _).mono ?_
            rintro e w' ⟨rfl, rfl⟩
            rw [← HSk.out]
            go_wp2_with fail
            go_roundw
            case rel => exact ⟨k + 1, by omega, by go_num, trivial⟩
            case measure => simp [intOf]; omega)
    · obtain rfl : k = 32 := by omega
      go_wp2_with fail
      go_ret
      exact ⟨rfl, rfl⟩

theorem walk (n : Nat) (hn : n < 4294967296) (A : Option Addr) (l : List Int) (c : Nat) (w : World) (hl : Ints w A l) (hlen : l.length ≤ 4611686018427387904) :
    Calls Try.prog 4 #[.int .u32 n, .slice A l.length c] w fun e w' => e = .returned (.bool true) ∧ w = w' := by
  by_cases h : l.length ≤ 60
  · exact walk_small n hn A l c w hl h
  · exact walk_big n A l c w hlen (by omega)

theorem ibytes : Try.prog.bytesOf 3 = 8 := by kernel_rfl
theorem icells : Try.prog.cellsOf 3 = 1 := by kernel_rfl

section
variable {H : Type} {enc : TypeId × Value → H} {W : World}
/-- A slice of numbers, opened: the list that it holds. -/
theorem open_numbers {v : Value} {d : DataW H} {p : List MemPlace} {r : Reach} {b0 : Nat} (hv : Value.okWide Try.prog W r b0 27 v) (h : DataW.Trod enc Try.prog W 0 (fun _ => true) true 27 v d p) :
    ∃ (A : Option Addr) (l : List Int) (c : Nat), v = .slice A l.length c ∧ Ints W A l ∧ (l = [] ∨ ∃ es ss, d = .slice es ss ∧ es.length = l.length) := by
  obtain ⟨a, len, cap, rfl⟩ := okWide_slice Try.underlying27 hv
  obtain ⟨fuel, hf⟩ := h
  rcases open_ints Try.underlying27 Try.underlying3 icells hf with ⟨hcs, _⟩ | ⟨a', len', cap', zs, hcs, _, hl, _, hz, hx, hc, _⟩
  · simp [Value.cells] at hcs
    obtain ⟨rfl, rfl, rfl⟩ := hcs
    exact ⟨none, [], 0, rfl, .inl rfl, .inl rfl⟩
  · simp [Value.cells] at hcs
    obtain ⟨rfl, rfl, rfl⟩ := hcs
    simp only [if_true] at hz
    have hlen : (zs.take len).length = len := by rw [List.length_take]; omega
    refine ⟨some a', zs.take len, cap, by rw [hlen], ?_, .inr ⟨_, _, by rw [Prod.mk.injEq] at hx; exact hx.1, by simp [lits]⟩⟩
    by_cases h0 : len = 0
    · subst h0; exact .inl rfl
    · right
      obtain ⟨b, o, spot⟩ := a'
      obtain rfl : spot = none := by simpa [Addr.add] using World.cell?_spot (hc 0 (by omega))
      refine ⟨b, o, rfl, World.block_lt_of_cell? W ⟨b, o, none⟩ (by simpa [Addr.add] using hc 0 (by omega)), fun i x hx => ?_⟩
      obtain ⟨hlt, hxe⟩ := List.getElem?_eq_some_iff.1 hx
      have hlt' : i < zs.length := by rw [List.length_take] at hlt; omega
      have := hc i hlt'
      rw [add_plain, List.getD_eq_getElem?_getD, List.getElem?_eq_getElem hlt', Option.getD_some] at this
      rw [List.getElem_take] at hxe
      rw [this, hxe]
end

set_option maxRecDepth 100000 in
theorem lifted (os : Os) (started : os.Started) (H : Type) (enc : TypeId × Value → H) :
    ReturnsInHanded {} Try.checked os 4 .any (Rows.digitChangesSpec.pre6 enc Try.prog Try.f4 Rows.digitChangesRow.domain false) (Rows.digitChangesSpec.post enc Try.prog Try.f4 false true false false) := by
  refine returnsInHanded_of_change_sized (C := Try.checked) own started (by kernel_rfl) Try.func4
    (ChangeSpec.witness6 (enc := enc) (C := Try.checked) false ⟨#[], #[.int .u32 0, .slice none 0 0], []⟩ 8 (by kernel_rfl) (by kernel_rfl) (by kernel_rfl) (by kernel_rfl)) ?_
  intro W base args ds gs before hval0 hW _ hsz0 _
  have hval : ∀ (j : Nat) t v, Try.f4.params[j]? = some t → args[j]? = some v → Value.okWide Try.prog W .any base t v := hval0
  have hsz : (DataW.weightsEach Try.prog (Try.f4.params.toList ++ Rows.digitChangesSpec.plain.varTypes Try.prog) (ds ++ gs)).all (· ≤ reachBytes) = true := hsz0
  have hW' := hW
  obtain ⟨p, q, hA0, hV, rfl, _, _⟩ := hW
  have hA : DataW.TrodAll enc Try.prog W 0 (fun _ => true) true Try.f4.params.toList args.toList ds p := hA0
  rw [Try.params4] at hA hval hsz
  obtain ⟨v0, vs0, d0, ds0, p0, q0, hargs, rfl, rfl, h0, r0⟩ := trodAll_cons hA
  obtain ⟨v1, vs1, d1, ds1, p1, q1, rfl, rfl, rfl, h1, r1⟩ := trodAll_cons r0
  obtain ⟨rfl, rfl, rfl⟩ := trodAll_nil r1
  obtain rfl : args = #[v0, v1] := by cases args; simp_all
  obtain ⟨rfl, rfl⟩ := trodVars_none hV
  simp only [List.append_nil] at hW'
  obtain ⟨a0, rfl, rfl, rfl, w0⟩ := open_int Try.underlying22 (hval 0 22 v0 rfl rfl) h0
  obtain ⟨A, l, c, rfl, hl, hd⟩ := open_numbers (hval 1 27 v1 rfl rfl) h1
  have hn : l.length ≤ 4611686018427387904 := by
    rcases hd with rfl | ⟨es, ss, rfl, he⟩
    · simp
    · have := sized_slice hsz (j := 1) (t := 27) (e := 3) rfl rfl Try.underlying27
      rw [ibytes] at this
      unfold reachBytes at this
      omega
  clear hA0 hval0
  have b0 := bounds_u32 w0
  obtain ⟨a0, rfl⟩ := Int.eq_ofNat_of_zero_le b0.1
  refine (walk a0 (by omega) A l c W hl hn).mono fun e W' ⟨he, hg⟩ => ?_
  subst he hg
  have hlt : ∀ x ∈ p1, x.block < W.heap.size := fun x hx => by simpa using hW'.lt x (by simpa using hx)
  refine ⟨_, rfl, _, _, _, [], p1, [], by simpa using hW', ?_, ?_, ?_, (Below.refl W.heap.size W).frame _, fun h => by cases h⟩
  · exact trodAll_cons_mk (shut_bool Try.underlying4 _) trodAll_mk0
  · have g2 := Below.trod laidOut (by kernel_rfl) (of_decide_eq_true (by kernel_rfl)) h1 (Below.refl W.heap.size W) hlt
    have := trodAll_cons_mk (shut_int Try.underlying22 w0) (trodAll_cons_mk g2 trodAll_mk0)
    rw [List.append_nil] at this
    exact this
  · rfl

theorem over : Rows.digitChangesRow.holds Try.pinned (OpenSpec.ofChange Rows.digitChangesSpec) :=
  OpenClaim.holds_of_wide 4 Try.f4 rfl rfl rfl rfl rfl rfl rfl ⟨rfl, rfl, rfl, rfl, rfl⟩ rfl rfl rfl rfl rfl (by kernel_rfl) Try.func4 (by kernel_rfl)
    (of_decide_eq_true (by kernel_rfl)) (by unfold Func.isWrapper; first | (rw [if_pos (by decide +kernel)]; kernel_rfl) | (rw [if_neg (by decide +kernel)]; exact ⟨rfl, rfl⟩))
    (fun os started H enc _ => lifted os started H enc)

theorem proved : Rows.DigitChangesSaid :=
  over
#print axioms proved
end Go.Proofs.Ytichfhnhocbenaa.digitChanges
