/- For any two values: Compare tells their order as the document does, either way round, and 0 just where they are one value; Right tells whether a value may be (ValueOrder returns true; the arguments read as they did). No condition. -/
import Derived.Test.YtnneklajmkalaaaRows
import Derived.Test.YtnneklajmkalaaaRef01
import Derived.OpenShut
import Derived.ShutString
import Derived.Lib.SmallJoins
namespace Go.Proofs.Ytnneklajmkalaaa.valueOrder
open Go.ChangeShapes Go.WideShapes Go.ChangeAt Go.RowKit Go.Joins
open Go.ChangeMaps (open_string shut_string)

theorem own : ownKnob Try.prog.godebug = none := by kernel_rfl

set_option maxHeartbeats 1000000 in
theorem walk_k (k n : Int) (s : ByteArray) (k' n' : Int) (s' : ByteArray) (w : World) (hk : 0 ≤ k) (hs : s.size ≤ 9223372036854775807) (hs' : s'.size ≤ 9223372036854775807) (h : ¬ k = k') :
    Calls Try.prog 3 #[vv k n s, vv k' n' s'] w fun e w' => e = .returned (.bool true) ∧ Gw w w' := by
  have HN := Lib.hid (fun e => h ((vcmp_zero k n s k' n' s').1 e).1)
  go_enter Try.func3, Try.ntmps3
  go_wp2_with fail
  refine (lives _).mono ?_
  rintro e w1 ⟨rfl, g1⟩
  obtain ⟨a0, a1, a2, b0, b1, b2⟩ := g1.two3
  go_wp2_with fail
  · refine (lives _).mono ?_
    rintro e w2 ⟨rfl, g2⟩
    go_wp2_with fail
    go_ret
    exact ⟨rfl, (((Gw.refl _).alloc _ _).alloc _ _).trans (g1.trans g2)⟩
  · clear a0 a1 a2 b0 b1 b2
    obtain ⟨a0, a1, a2, b0, b1, b2⟩ := Gr.two3 g1
    have sw := vcmp_swap k n s k' n' s'
    have r1 := (vcmp_range k n s k' n' s').1
    have r2 := (vcmp_range k n s k' n' s').2
    have hn : (vcmp k n s k' n' s' == 0) = false := by simpa using HN.out
    refine region_grown (by kernel_rfl) (by kernel_rfl) ?_
    repeat (go_big_quiet_step (first | (go_at_call 8; exact Gr.calls _ (compare _ _ _ _ _ _ _)) | (go_at_call 10; exact Gr.calls _ (of_ _ _ _ _)) | (go_at_call 9; exact Gr.calls _ (ref_compare _ _ _ _ _ _ _ hs hs')) | (go_at_call 11; exact Gr.calls _ (right _ _ _ _ hk)) | (go_at_call 12; exact Gr.calls _ (ref_right _ _ _ _))))
    refine wpQuiet_nil ?_
    rintro _ ⟨g, rfl⟩
    go_wp2_with fail
    go_ret
    exact ⟨rfl, (((Gw.refl _).alloc _ _).alloc _ _).trans (g1.trans g.grown)⟩
set_option maxHeartbeats 1000000 in
theorem walk_n (k n : Int) (s : ByteArray) (n' : Int) (s' : ByteArray) (w : World) (hk : 0 ≤ k) (hs : s.size ≤ 9223372036854775807) (hs' : s'.size ≤ 9223372036854775807) (h : ¬ n = n') :
    Calls Try.prog 3 #[vv k n s, vv k n' s'] w fun e w' => e = .returned (.bool true) ∧ Gw w w' := by
  have HN := Lib.hid (fun e => h ((vcmp_zero k n s k n' s').1 e).2.1)
  go_enter Try.func3, Try.ntmps3
  go_wp2_with fail
  refine (lives _).mono ?_
  rintro e w1 ⟨rfl, g1⟩
  obtain ⟨a0, a1, a2, b0, b1, b2⟩ := g1.two3
  go_wp2_with fail
  · refine (lives _).mono ?_
    rintro e w2 ⟨rfl, g2⟩
    go_wp2_with fail
    go_ret
    exact ⟨rfl, (((Gw.refl _).alloc _ _).alloc _ _).trans (g1.trans g2)⟩
  · clear a0 a1 a2 b0 b1 b2
    obtain ⟨a0, a1, a2, b0, b1, b2⟩ := Gr.two3 g1
    have sw := vcmp_swap k n s k n' s'
    have r1 := (vcmp_range k n s k n' s').1
    have r2 := (vcmp_range k n s k n' s').2
    have hn : (vcmp k n s k n' s' == 0) = false := by simpa using HN.out
    refine region_grown (by kernel_rfl) (by kernel_rfl) ?_
    repeat (go_big_quiet_step (first | (go_at_call 8; exact Gr.calls _ (compare _ _ _ _ _ _ _)) | (go_at_call 10; exact Gr.calls _ (of_ _ _ _ _)) | (go_at_call 9; exact Gr.calls _ (ref_compare _ _ _ _ _ _ _ hs hs')) | (go_at_call 11; exact Gr.calls _ (right _ _ _ _ hk)) | (go_at_call 12; exact Gr.calls _ (ref_right _ _ _ _))))
    refine wpQuiet_nil ?_
    rintro _ ⟨g, rfl⟩
    go_wp2_with fail
    go_ret
    exact ⟨rfl, (((Gw.refl _).alloc _ _).alloc _ _).trans (g1.trans g.grown)⟩
set_option maxHeartbeats 1000000 in
theorem walk_s (k n : Int) (s : ByteArray) (s' : ByteArray) (w : World) (hk : 0 ≤ k) (hs : s.size ≤ 9223372036854775807) (hs' : s'.size ≤ 9223372036854775807) (h : ¬ s.toList = s'.toList) :
    Calls Try.prog 3 #[vv k n s, vv k n s'] w fun e w' => e = .returned (.bool true) ∧ Gw w w' := by
  have HN := Lib.hid (fun e => h ((vcmp_zero k n s k n s').1 e).2.2)
  go_enter Try.func3, Try.ntmps3
  go_wp2_with fail
  refine (lives _).mono ?_
  rintro e w1 ⟨rfl, g1⟩
  obtain ⟨a0, a1, a2, b0, b1, b2⟩ := g1.two3
  go_wp2_with fail
  · refine (lives _).mono ?_
    rintro e w2 ⟨rfl, g2⟩
    go_wp2_with fail
    go_ret
    exact ⟨rfl, (((Gw.refl _).alloc _ _).alloc _ _).trans (g1.trans g2)⟩
  · clear a0 a1 a2 b0 b1 b2
    obtain ⟨a0, a1, a2, b0, b1, b2⟩ := Gr.two3 g1
    have sw := vcmp_swap k n s k n s'
    have r1 := (vcmp_range k n s k n s').1
    have r2 := (vcmp_range k n s k n s').2
    have hn : (vcmp k n s k n s' == 0) = false := by simpa using HN.out
    refine region_grown (by kernel_rfl) (by kernel_rfl) ?_
    repeat (go_big_quiet_step (first | (go_at_call 8; exact Gr.calls _ (compare _ _ _ _ _ _ _)) | (go_at_call 10; exact Gr.calls _ (of_ _ _ _ _)) | (go_at_call 9; exact Gr.calls _ (ref_compare _ _ _ _ _ _ _ hs hs')) | (go_at_call 11; exact Gr.calls _ (right _ _ _ _ hk)) | (go_at_call 12; exact Gr.calls _ (ref_right _ _ _ _))))
    refine wpQuiet_nil ?_
    rintro _ ⟨g, rfl⟩
    go_wp2_with fail
    go_ret
    exact ⟨rfl, (((Gw.refl _).alloc _ _).alloc _ _).trans (g1.trans g.grown)⟩
set_option maxHeartbeats 1000000 in
theorem walk_e (k n : Int) (s : ByteArray) (w : World) (hk : 0 ≤ k) (hs : s.size ≤ 9223372036854775807) :
    Calls Try.prog 3 #[vv k n s, vv k n s] w fun e w' => e = .returned (.bool true) ∧ Gw w w' := by
  go_enter Try.func3, Try.ntmps3
  go_wp2_with fail
  refine (lives _).mono ?_
  rintro e w1 ⟨rfl, g1⟩
  obtain ⟨a0, a1, a2, b0, b1, b2⟩ := g1.two3
  go_wp2_with fail
  · refine (lives _).mono ?_
    rintro e w2 ⟨rfl, g2⟩
    go_wp2_with fail
    go_ret
    exact ⟨rfl, (((Gw.refl _).alloc _ _).alloc _ _).trans (g1.trans g2)⟩
  · clear a0 a1 a2 b0 b1 b2
    obtain ⟨a0, a1, a2, b0, b1, b2⟩ := Gr.two3 g1
    have ve := vcmp_self k n s
    refine region_grown (by kernel_rfl) (by kernel_rfl) ?_
    repeat (go_big_quiet_step (first | (go_at_call 8; exact Gr.calls _ (compare _ _ _ _ _ _ _)) | (go_at_call 10; exact Gr.calls _ (of_ _ _ _ _)) | (go_at_call 9; exact Gr.calls _ (ref_compare _ _ _ _ _ _ _ hs hs)) | (go_at_call 11; exact Gr.calls _ (right _ _ _ _ hk)) | (go_at_call 12; exact Gr.calls _ (ref_right _ _ _ _))))
    refine wpQuiet_nil ?_
    rintro _ ⟨g, rfl⟩
    go_wp2_with fail
    go_ret
    exact ⟨rfl, (((Gw.refl _).alloc _ _).alloc _ _).trans (g1.trans g.grown)⟩

theorem walk (k n : Int) (s : ByteArray) (k' n' : Int) (s' : ByteArray) (w : World) (hk : 0 ≤ k) (hs : s.size ≤ 9223372036854775807) (hs' : s'.size ≤ 9223372036854775807) :
    Calls Try.prog 3 #[vv k n s, vv k' n' s'] w fun e w' => e = .returned (.bool true) ∧ Gw w w' := by
  by_cases h : k = k'
  · subst h
    by_cases h2 : n = n'
    · subst h2
      by_cases h3 : s.toList = s'.toList
      · obtain rfl : s = s' := bytes_ext h3
        exact walk_e k n s w hk hs
      · exact walk_s k n s s' w hk hs hs' h3
    · exact walk_n k n s n' s' w hk hs hs' h2
  · exact walk_k k n s k' n' s' w hk hs hs' h

theorem cells : Try.prog.cellsOf 24 = 3 := by kernel_rfl

theorem reads {H : Type} {enc : TypeId × Value → H} {k n : Int} {s : ByteArray} (wk : (Lit.int .u8 k).wf = true) (wn : (Lit.int .i64 n).wf = true) (ws : s.size ≤ maxLen) (W : World) (sp : Nat → Bool) :
    DataW.Trod enc Try.prog W 0 sp true 24 (vv k n s) (.agg [.lit (.int .u8 k), .lit (.int .i64 n), .lit (.string s.data.toList)]) [] :=
  shut_agg3 (y0 := (.lit (.int .u8 k), [])) (y1 := (.lit (.int .i64 n), [])) (y2 := (.lit (.string s.data.toList), [])) Try.underlying24 (by kernel_rfl) cells
    ⟨1, by simp [DataW.trod, Try.underlying22, wk]⟩ ⟨1, by simp [DataW.trod, Try.underlying2, wn]⟩ ⟨1, by simp [DataW.trod, Try.underlying9, ws]⟩

set_option maxRecDepth 100000 in
theorem lifted (os : Os) (started : os.Started) (H : Type) (enc : TypeId × Value → H) :
    ReturnsInHanded {} Try.checked os 3 .any (Rows.valueOrderSpec.pre6 enc Try.prog Try.f3 Rows.valueOrderRow.domain false) (Rows.valueOrderSpec.post enc Try.prog Try.f3 false true false false) := by
  refine returnsInHanded_of_change (C := Try.checked) own started (by kernel_rfl) Try.func3
    (ChangeSpec.witness6 (enc := enc) (C := Try.checked) false ⟨#[], #[.agg #[.int .u8 0, .int .i64 0, .string ByteArray.empty], .agg #[.int .u8 0, .int .i64 0, .string ByteArray.empty]], []⟩ 8 (by kernel_rfl) (by kernel_rfl) (by kernel_rfl) (by kernel_rfl)) ?_
  intro W base args ds gs before hval0 hW _ _
  have hval : ∀ (j : Nat) t v, Try.f3.params[j]? = some t → args[j]? = some v → Value.okWide Try.prog W .any base t v := hval0
  have hW' := hW
  obtain ⟨p, q, hA0, hV, rfl, _, _⟩ := hW
  have hA : DataW.TrodAll enc Try.prog W 0 (fun _ => true) true Try.f3.params.toList args.toList ds p := hA0
  rw [Try.params3] at hA hval
  obtain ⟨v0, vs0, d0, ds0, p0, q0, hargs, rfl, rfl, h0, r0⟩ := trodAll_cons hA
  obtain ⟨v1, vs1, d1, ds1, p1, q1, rfl, rfl, rfl, h1, r1⟩ := trodAll_cons r0
  obtain ⟨rfl, rfl, rfl⟩ := trodAll_nil r1
  obtain rfl : args = #[v0, v1] := by cases args; simp_all
  obtain ⟨rfl, rfl⟩ := trodVars_none hV
  obtain ⟨c0, c1, c2, y0, y1, y2, m, rfl, rfl, rfl, hy0, hy1, hy2⟩ := open_agg3 Try.underlying24 (by kernel_rfl) cells (hval 0 24 v0 rfl rfl) h0
  obtain ⟨k, e0, rfl, wk⟩ := DataW.trod_int Try.underlying22 hy0
  obtain ⟨n, e1, rfl, wn⟩ := DataW.trod_int Try.underlying2 hy1
  obtain ⟨s, e2, rfl, ws⟩ := DataW.trod_string Try.underlying9 hy2
  simp at e0 e1 e2
  subst e0 e1 e2
  obtain ⟨c0, c1, c2, y0, y1, y2, m', rfl, rfl, rfl, hz0, hz1, hz2⟩ := open_agg3 Try.underlying24 (by kernel_rfl) cells (hval 1 24 v1 rfl rfl) h1
  obtain ⟨k', e0, rfl, wk'⟩ := DataW.trod_int Try.underlying22 hz0
  obtain ⟨n', e1, rfl, wn'⟩ := DataW.trod_int Try.underlying2 hz1
  obtain ⟨s', e2, rfl, ws'⟩ := DataW.trod_string Try.underlying9 hz2
  simp at e0 e1 e2
  subst e0 e1 e2
  clear hA0 hval0
  simp only [List.append_nil] at hW'
  have hk : 0 ≤ k := (bounds_u8 wk).1
  refine (walk k n s k' n' s' W hk (by unfold maxLen at ws; omega) (by unfold maxLen at ws'; omega)).mono fun e W' ⟨he, hg⟩ => ?_
  subst he
  exact ⟨_, rfl, post_of_same (pa := []) (pv := []) hW' (fun _ _ _ => (trodAll_cons_mk (shut_bool Try.underlying4 _) trodAll_mk0)) (fun sp _ => (trodAll_cons_mk (reads wk wn ws _ sp) (trodAll_cons_mk (reads wk' wn' ws' _ sp) trodAll_mk0))) (fun _ _ => rfl) rfl
    (hg.frame _) hg.frozen (ok_one (by kernel_rfl) rfl (okWide_bool_mk Try.underlying4 _))⟩

theorem over : Rows.valueOrderRow.holds Try.pinned (OpenSpec.ofChange Rows.valueOrderSpec) :=
  OpenClaim.holds_of_wide 3 Try.f3 rfl rfl rfl rfl rfl rfl rfl ⟨rfl, rfl, rfl, rfl, rfl⟩ rfl rfl rfl rfl rfl (by kernel_rfl) Try.func3 (by kernel_rfl)
    (of_decide_eq_true (by kernel_rfl)) (by unfold Func.isWrapper; first | (rw [if_pos (by decide +kernel)]; kernel_rfl) | (rw [if_neg (by decide +kernel)]; exact ⟨rfl, rfl⟩))
    (fun os started H enc _ => lifted os started H enc)

theorem proved : Rows.ValueOrderSaid :=
  over
#print axioms proved
end Go.Proofs.Ytnneklajmkalaaa.valueOrder
