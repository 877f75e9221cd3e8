/- For every two numbers: in an arena of any room from 1 to 60 a vector of any length up to 1024 is made, and has its values, or the error is that there is no room and nothing is held (SliceRoom returns true). No condition. -/
import Derived.Test.YtjdpgehmkcdmfaaRows
import Derived.Test.YtjdpgehmkcdmfaaLives07
namespace Go.Proofs.Ytjdpgehmkcdmfaa.sliceRoom
open Go.ChangeShapes Go.WideShapes Go.ChangeAt Go.RowKit Go.Joins Go.Deep

theorem own : ownKnob Try.prog.godebug = none := by kernel_rfl

theorem size_of (n : Int) : ∃ k : Nat, 1 ≤ k ∧ k ≤ 60 ∧ wrap64 (1 + wrap64 ((IntKind.u64.wrap n).tmod 60)) = k := by
  have h0 : 0 ≤ IntKind.u64.wrap n := by rw [IntKind.wrap_u64]; omega
  rw [Int.tmod_eq_emod_of_nonneg h0]
  have h1 : 0 ≤ IntKind.u64.wrap n % 60 := by omega
  have h2 : IntKind.u64.wrap n % 60 < 60 := by omega
  rw [IntWalk.wrap64_in (IntKind.u64.wrap n % 60) (by omega), IntWalk.wrap64_in _ (by omega)]
  exact ⟨(1 + IntKind.u64.wrap n % 60).toNat, by omega, by omega, by omega⟩
theorem len_of (n : Int) : ∃ k : Nat, k ≤ 1024 ∧ wrap64 ((IntKind.u64.wrap n).tmod 1025) = k := by
  have h0 : 0 ≤ IntKind.u64.wrap n := by rw [IntKind.wrap_u64]; omega
  rw [Int.tmod_eq_emod_of_nonneg h0]
  have h1 : 0 ≤ IntKind.u64.wrap n % 1025 := by omega
  have h2 : IntKind.u64.wrap n % 1025 < 1025 := by omega
  rw [IntWalk.wrap64_in (IntKind.u64.wrap n % 1025) (by omega)]
  exact ⟨(IntKind.u64.wrap n % 1025).toNat, by omega, by omega⟩

set_option maxRecDepth 100000 in
set_option maxHeartbeats 1000000 in
theorem walk (n room : Int) (w : World) : Calls Try.prog 7 #[.int .i64 n, .int .i64 room] w fun e w' => e = .returned (.bool true) ∧ Below w.heap.size w w' := by
  go_enter Try.func7, Try.ntmps7
  go_wp2_with fail
  refine (lives7 _).mono ?_
  rintro e w1 ⟨rfl, hb1⟩
  have HB1 := Lib.hid hb1
  clear hb1
  obtain ⟨k, hk1, hk2, hk⟩ := size_of room
  obtain ⟨m, hm1, hm⟩ := len_of n
  go_wp2_with fail
  rw [hk]
  refine (anew k w1 hk1 (by omega)).mono ?_
  rintro e w2 ⟨rfl, ha, hb⟩
  have HL2 := Lib.hid (show Lone w w2 w1.heap.size k (fun _ => none) (fun q => q = w1.heap.size) from ⟨ha, HB1.out.trans (hb.mono HB1.out.size), fun q e => by have := HB1.out.size; omega⟩)
  obtain ⟨b, hbb⟩ : ∃ b, b = w1.heap.size := ⟨_, rfl⟩
  rw [← hbb] at HL2 ⊢
  clear hbb ha hb hk
  go_wp2_with fail
  rw [hm]
  refine (vfill [] m none 0 w2 (.inl rfl) (by omega) (by decide)).mono ?_
  rintro e w3 ⟨x, rfl, ho, hb3⟩
  have HL3 := Lib.hid (HL2.out.below hb3)
  have hlen := fillN_length [] m
  have HO := Lib.hid (show w3.ownsRow w2.heap.size 38 3 x (fillN [] m).length ((fillN [] m).flatMap cells3) by rw [hlen]; exact ho)
  have HH := Lib.hid hlen
  generalize fillN [] m = lv at HO HH
  obtain ⟨A1, m1, rfl, _⟩ := (Rd.of_own ho).form
  clear ho hb3 hm hlen
  have HOF := Lib.hid (show ∀ q, (Value.slice A1 m m1).ownBlock = some q → ¬ q = b from fun q hq hf => by have := (HO.out.lt q hq).1; have := HL2.out.ar.lt hf; omega)
  clear HL2
  go_wp2_with fail
  refine (vfrom lv _ w3 HL3.out.ar (by have := Rd.of_own HO.out; exact this) HOF.out (fun _ => Nat.zero_le _)).mono ?_
  rintro e w4 (⟨v, ks, M', rfl, hM, hs⟩ | ⟨er, rfl, hs, he⟩)
  · have HL4 := Lib.hid (HL3.out.stp hs)
    generalize Fn _ _ _ = F5 at HL4
    have HM := Lib.hid hM
    have HR := Lib.hid ((Kp.rd hs.kp (Rd.of_own HO.out) HOF.out))
    clear hs hM HOF
    go_wp2_with fail
    refine (vall v lv _ (HL4.out.alloc _).ar HM.out.vec).mono ?_
    rintro e w5 ⟨y, rfl, hy, hb5⟩
    have HL5 := Lib.hid ((HL4.out.alloc _).below hb5)
    have HY := Lib.hid (Rd.of_own hy)
    have HR5 := Lib.hid ((HR.out.alloc _).below hb5)
    have hll : lv.length ≤ 1000000 := by rw [HH.out]; omega
    clear hy hb5 HL4 HR HO HM HL3
    go_wp2_with fail
    refine (vequal lv y (.slice A1 m m1) w5 HY.out HR5.out hll).mono ?_
    rintro e w6 ⟨rfl, hb6⟩
    have HL6 := Lib.hid (HL5.out.below hb6)
    clear hb6 HL5
    go_wp2_with fail
    go_ret
    exact ⟨rfl, HL6.out.bel⟩
  · obtain rfl : er = 5 := by
      rcases he with he | he
      · have := HH.out; omega
      · exact he.1
    have HL4 := Lib.hid (HL3.out.stp hs)
    generalize Fn _ _ _ = F5 at HL4
    clear hs he HOF HO HL3
    go_wp2_with fail
    refine (alive b k (fun _ => none) F5 _ (HL4.out.alloc _).ar).mono ?_
    rintro e w' ⟨rfl, rfl⟩
    rw [live_zero fun _ => rfl]
    go_wp2_with fail
    go_ret
    exact ⟨rfl, (HL4.out.alloc _).bel⟩

set_option maxRecDepth 100000 in
theorem lifted (os : Os) (started : os.Started) (H : Type) (enc : TypeId × Value → H) :
    ReturnsInHanded {} Try.checked os 7 .any (Rows.sliceRoomSpec.pre6 enc Try.prog Try.f7 Rows.sliceRoomRow.domain false) (Rows.sliceRoomSpec.post enc Try.prog Try.f7 false true false false) := by
  refine returnsInHanded_of_change (C := Try.checked) own started (by kernel_rfl) Try.func7
    (ChangeSpec.witness6 (enc := enc) (C := Try.checked) false ⟨#[], #[.int .i64 0, .int .i64 0], []⟩ 8 (by kernel_rfl) (by kernel_rfl) (by kernel_rfl) (by kernel_rfl)) ?_
  intro W base args ds gs before hval0 hW _ _
  have hval : ∀ (j : Nat) t v, Try.f7.params[j]? = some t → args[j]? = some v → Value.okWide Try.prog W .any base t v := hval0
  have hW' := hW
  obtain ⟨p, q, hA0, hV, rfl, _, _⟩ := hW
  have hA : DataW.TrodAll enc Try.prog W 0 (fun _ => true) true Try.f7.params.toList args.toList ds p := hA0
  rw [Try.params7] at hA hval
  obtain ⟨v0, vs0, d0, ds0, p0, q0, hargs, rfl, rfl, h0, r0⟩ := trodAll_cons hA
  obtain ⟨v1, vs1, d1, ds1, p1, q1, rfl, rfl, rfl, h1, r1⟩ := trodAll_cons r0
  obtain ⟨rfl, rfl, rfl⟩ := trodAll_nil r1
  obtain rfl : args = #[v0, v1] := by cases args; simp_all
  obtain ⟨rfl, rfl⟩ := trodVars_none hV
  obtain ⟨a0, rfl, rfl, rfl, w0⟩ := open_int Try.underlying3 (hval 0 3 v0 rfl rfl) h0
  obtain ⟨a1, rfl, rfl, rfl, w1⟩ := open_int Try.underlying3 (hval 1 3 v1 rfl rfl) h1
  clear hA0 hval0
  simp only [List.append_nil] at hW'
  refine (walk a0 a1 W).mono fun e W' ⟨he, hg⟩ => ?_
  subst he
  refine ⟨_, rfl, _, _, _, [], [], [], hW', ?_, ?_, ?_, hg.frame _, fun h => by cases h⟩
  · exact trodAll_cons_mk (shut_bool Try.underlying4 _) trodAll_mk0
  · exact trodAll_cons_mk (shut_int Try.underlying3 w0) (trodAll_cons_mk (shut_int Try.underlying3 w1) trodAll_mk0)
  · rfl

theorem over : Rows.sliceRoomRow.holds Try.pinned (OpenSpec.ofChange Rows.sliceRoomSpec) :=
  OpenClaim.holds_of_wide 7 Try.f7 rfl rfl rfl rfl rfl rfl rfl ⟨rfl, rfl, rfl, rfl, rfl⟩ rfl rfl rfl rfl rfl (by kernel_rfl) Try.func7 (by kernel_rfl)
    (of_decide_eq_true (by kernel_rfl)) (by unfold Func.isWrapper; first | (rw [if_pos (by decide +kernel)]; kernel_rfl) | (rw [if_neg (by decide +kernel)]; exact ⟨rfl, rfl⟩))
    (fun os started H enc _ => lifted os started H enc)

theorem proved : Rows.SliceRoomSaid :=
  over
#print axioms proved
end Go.Proofs.Ytjdpgehmkcdmfaa.sliceRoom
