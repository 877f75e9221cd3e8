/- For every truth, number and string: package value makes the values that the chapter says, and tells rightly whether they may be (ValueMakes returns true; the arguments read as they did). No condition. -/
import Derived.Test.YtnneklajmkalaaaRows
import Derived.Test.YtnneklajmkalaaaRef01
import Derived.OpenShut
import Derived.ShutString
namespace Go.Proofs.Ytnneklajmkalaaa.valueMakes
open Go.ChangeShapes Go.WideShapes Go.ChangeAt Go.RowKit
open Go.ChangeMaps (open_string shut_string)

theorem own : ownKnob Try.prog.godebug = none := by kernel_rfl

set_option maxHeartbeats 1000000 in
theorem walk_t (n : Int) (s : ByteArray) (w : World) :
    Calls Try.prog 5 #[.bool true, .int .i64 n, .string s] w fun e w' => e = .returned (.bool true) ∧ Gw w w' := by
  go_enter Try.func5, Try.ntmps5
  go_wp2_with fail
  refine (lives _).mono ?_
  rintro e w1 ⟨rfl, g1⟩
  go_wp2_with fail
  obtain ⟨b0, b1, b2⟩ := Gr.box3 w1 (.int .u8 1) (.int .i64 1) (.string ⟨#[]⟩) 24
  refine region_grown (by kernel_rfl) (by kernel_rfl) ?_
  repeat (go_big_quiet_step (first | (go_at_call 16; exact Gr.calls _ (truth_t _)) | (go_at_call 17; exact Gr.calls _ (number _ _)) | (go_at_call 18; exact Gr.calls _ (text _ _)) | (go_at_call_of 11 (vv 1 1 ⟨#[]⟩); exact Gr.calls _ (right1_1 _)) | (go_at_call_of 11 (vv 2 n ⟨#[]⟩); exact Gr.calls _ (right2_e _ _)) | (go_at_call_of 11 (vv 3 0 s); exact Gr.calls _ (right3_0 _ _))))
  refine wpQuiet_nil ?_
  rintro _ ⟨g, rfl⟩
  go_wp2_with fail
  go_ret
  exact ⟨rfl, g1.trans (((Gw.refl _).alloc _ _).trans g.grown)⟩
set_option maxHeartbeats 1000000 in
theorem walk_f (n : Int) (s : ByteArray) (w : World) :
    Calls Try.prog 5 #[.bool false, .int .i64 n, .string s] w fun e w' => e = .returned (.bool true) ∧ Gw w w' := by
  go_enter Try.func5, Try.ntmps5
  go_wp2_with fail
  refine (lives _).mono ?_
  rintro e w1 ⟨rfl, g1⟩
  go_wp2_with fail
  obtain ⟨b0, b1, b2⟩ := Gr.box3 w1 (.int .u8 1) (.int .i64 0) (.string ⟨#[]⟩) 24
  refine region_grown (by kernel_rfl) (by kernel_rfl) ?_
  repeat (go_big_quiet_step (first | (go_at_call 16; exact Gr.calls _ (truth_f _)) | (go_at_call 17; exact Gr.calls _ (number _ _)) | (go_at_call 18; exact Gr.calls _ (text _ _)) | (go_at_call_of 11 (vv 1 0 ⟨#[]⟩); exact Gr.calls _ (right1_0 _)) | (go_at_call_of 11 (vv 2 n ⟨#[]⟩); exact Gr.calls _ (right2_e _ _)) | (go_at_call_of 11 (vv 3 0 s); exact Gr.calls _ (right3_0 _ _))))
  refine wpQuiet_nil ?_
  rintro _ ⟨g, rfl⟩
  go_wp2_with fail
  go_ret
  exact ⟨rfl, g1.trans (((Gw.refl _).alloc _ _).trans g.grown)⟩
theorem walk (b : Bool) (n : Int) (s : ByteArray) (w : World) :
    Calls Try.prog 5 #[.bool b, .int .i64 n, .string s] w fun e w' => e = .returned (.bool true) ∧ Gw w w' := by
  cases b
  · exact walk_f n s w
  · exact walk_t n s w

set_option maxRecDepth 100000 in
theorem lifted (os : Os) (started : os.Started) (H : Type) (enc : TypeId × Value → H) :
    ReturnsInHanded {} Try.checked os 5 .any (Rows.valueMakesSpec.pre6 enc Try.prog Try.f5 Rows.valueMakesRow.domain false) (Rows.valueMakesSpec.post enc Try.prog Try.f5 false true false false) := by
  refine returnsInHanded_of_change (C := Try.checked) own started (by kernel_rfl) Try.func5
    (ChangeSpec.witness6 (enc := enc) (C := Try.checked) false ⟨#[], #[.bool false, .int .i64 0, .string ByteArray.empty], []⟩ 8 (by kernel_rfl) (by kernel_rfl) (by kernel_rfl) (by kernel_rfl)) ?_
  intro W base args ds gs before hval0 hW _ _
  have hval : ∀ (j : Nat) t v, Try.f5.params[j]? = some t → args[j]? = some v → Value.okWide Try.prog W .any base t v := hval0
  have hW' := hW
  obtain ⟨p, q, hA0, hV, rfl, _, _⟩ := hW
  have hA : DataW.TrodAll enc Try.prog W 0 (fun _ => true) true Try.f5.params.toList args.toList ds p := hA0
  rw [Try.params5] at hA hval
  obtain ⟨v0, vs0, d0, ds0, p0, q0, hargs, rfl, rfl, h0, r0⟩ := trodAll_cons hA
  obtain ⟨v1, vs1, d1, ds1, p1, q1, rfl, rfl, rfl, h1, r1⟩ := trodAll_cons r0
  obtain ⟨v2, vs2, d2, ds2, p2, q2, rfl, rfl, rfl, h2, r2⟩ := trodAll_cons r1
  obtain ⟨rfl, rfl, rfl⟩ := trodAll_nil r2
  obtain rfl : args = #[v0, v1, v2] := by cases args; simp_all
  obtain ⟨rfl, rfl⟩ := trodVars_none hV
  obtain ⟨a0, rfl, rfl, rfl⟩ := open_bool Try.underlying4 (hval 0 4 v0 rfl rfl) h0
  obtain ⟨a1, rfl, rfl, rfl, w1⟩ := open_int Try.underlying2 (hval 1 2 v1 rfl rfl) h1
  obtain ⟨a2, rfl, rfl, rfl, w2⟩ := open_string Try.underlying9 (hval 2 9 v2 rfl rfl) h2
  clear hA0 hval0
  simp only [List.append_nil] at hW'
  refine (walk a0 a1 a2 W).mono fun e W' ⟨he, hg⟩ => ?_
  subst he
  exact ⟨_, rfl, post_of_same (pa := []) (pv := []) hW' (fun _ _ _ => (trodAll_cons_mk (shut_bool Try.underlying4 _) trodAll_mk0)) (fun sp _ => (trodAll_cons_mk (shut_bool Try.underlying4 _) (trodAll_cons_mk (shut_int Try.underlying2 w1) (trodAll_cons_mk (shut_string Try.underlying9 w2) trodAll_mk0)))) (fun _ _ => rfl) rfl
    (hg.frame _) hg.frozen (ok_one (by kernel_rfl) rfl (okWide_bool_mk Try.underlying4 _))⟩

theorem over : Rows.valueMakesRow.holds Try.pinned (OpenSpec.ofChange Rows.valueMakesSpec) :=
  OpenClaim.holds_of_wide 5 Try.f5 rfl rfl rfl rfl rfl rfl rfl ⟨rfl, rfl, rfl, rfl, rfl⟩ rfl rfl rfl rfl rfl (by kernel_rfl) Try.func5 (by kernel_rfl)
    (of_decide_eq_true (by kernel_rfl)) (by unfold Func.isWrapper; first | (rw [if_pos (by decide +kernel)]; kernel_rfl) | (rw [if_neg (by decide +kernel)]; exact ⟨rfl, rfl⟩))
    (fun os started H enc _ => lifted os started H enc)

theorem proved : Rows.ValueMakesSaid :=
  over
#print axioms proved
end Go.Proofs.Ytnneklajmkalaaa.valueMakes
