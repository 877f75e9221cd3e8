/- For every size and number: New returns an arena just where the size may be; Make of a cell that holds a number that is no cell's returns an error, of one that holds none a cell; no arena returns what the document says (ArenaArgs returns true). No condition. -/
import Derived.Test.YtfnclcehkdlikaaRows
import Derived.Test.YtfnclcehkdlikaaLaw04
namespace Go.Proofs.Ytfnclcehkdlikaa.arenaArgs
open Go.ChangeShapes Go.WideShapes Go.ChangeAt Go.RowKit Go.Joins Go.Deep

theorem own : ownKnob Try.prog.godebug = none := by kernel_rfl

theorem below_then {a b c : World} (h : Below a.heap.size a b) (k : Below b.heap.size b c) : Below a.heap.size a c := h.trans (k.mono h.size)

set_option maxRecDepth 100000 in
set_option maxHeartbeats 1000000 in
theorem walk_no (most kid : Int) (w : World) (h : most < 1 ∨ 1048576 < most) : Calls Try.prog 4 #[.int .i64 most, .int .i64 kid] w fun e w' => e = .returned (.bool true) ∧ Below w.heap.size w w' := by
  have hd : ¬ (1 ≤ most ∧ most ≤ 1048576) := by omega
  rcases h with h | h
  · have h1 : decide (1 ≤ most) = false := by simpa using h
    go_enter Try.func4, Try.ntmps4
    go_wp2_with fail
    refine (lives4 _).mono ?_
    rintro e w1 ⟨rfl, hb1⟩
    go_wp2_with fail
    refine (anew_no most w1 (.inl h)).mono ?_
    rintro e w' ⟨rfl, rfl⟩
    go_wp2_with (first | (go_at_call 14; refine (make_nil _ 0 0 0 _ _ rfl _).mono ?_; rintro e w2 ⟨rfl, hb2⟩) | (go_at_call 15; refine (get_nil _ _).mono ?_; rintro e w3 ⟨rfl, hb3⟩) | (go_at_call 12; refine (alive_no _).mono ?_; rintro e w' ⟨rfl, rfl⟩) | (go_at_call 13; refine (aroom_no _).mono ?_; rintro e w' ⟨rfl, rfl⟩) | (go_at_call 16; refine (arefs_no _ _).mono ?_; rintro e w' ⟨rfl, rfl⟩) | (go_at_call 17; refine (akeep_nil _ _).mono ?_; rintro e w' ⟨rfl, rfl⟩) | (go_at_call 11; refine (adrop_nil _ _).mono ?_; rintro e w' ⟨rfl, rfl⟩) | (go_at_call 18; refine (aedit_nil _ _ 0 0 0 _ _ _).mono ?_; rintro e w4 ⟨rfl, hb4⟩))
    go_ret
    exact ⟨rfl, below_then hb1 (below_then hb2 (below_then (below_then hb3 ((Below.refl _ _).alloc (Nat.le_refl _) _)) hb4))⟩
  · have h1 : decide (1 ≤ most) = true := by simp; omega
    have h2 : decide (most ≤ 1048576) = false := by simp; omega
    go_enter Try.func4, Try.ntmps4
    go_wp2_with fail
    refine (lives4 _).mono ?_
    rintro e w1 ⟨rfl, hb1⟩
    go_wp2_with fail
    refine (anew_no most w1 (.inr h)).mono ?_
    rintro e w' ⟨rfl, rfl⟩
    go_wp2_with (first | (go_at_call 14; refine (make_nil _ 0 0 0 _ _ rfl _).mono ?_; rintro e w2 ⟨rfl, hb2⟩) | (go_at_call 15; refine (get_nil _ _).mono ?_; rintro e w3 ⟨rfl, hb3⟩) | (go_at_call 12; refine (alive_no _).mono ?_; rintro e w' ⟨rfl, rfl⟩) | (go_at_call 13; refine (aroom_no _).mono ?_; rintro e w' ⟨rfl, rfl⟩) | (go_at_call 16; refine (arefs_no _ _).mono ?_; rintro e w' ⟨rfl, rfl⟩) | (go_at_call 17; refine (akeep_nil _ _).mono ?_; rintro e w' ⟨rfl, rfl⟩) | (go_at_call 11; refine (adrop_nil _ _).mono ?_; rintro e w' ⟨rfl, rfl⟩) | (go_at_call 18; refine (aedit_nil _ _ 0 0 0 _ _ _).mono ?_; rintro e w4 ⟨rfl, hb4⟩))
    go_ret
    exact ⟨rfl, below_then hb1 (below_then hb2 (below_then (below_then hb3 ((Below.refl _ _).alloc (Nat.le_refl _) _)) hb4))⟩

def c2 : Hc := ⟨0, 0, 0, [], [0, 0]⟩
theorem make0 (b most : Nat) (F : Nat → Prop) (w : World) (h : Ar w b most (fun _ => none) F) (hm : 1 ≤ most) :
    Calls Try.prog 14 #[ap b, cagg 0 0 0 (.slice none 0 0) (.slice (some ⟨w.heap.size, 0, none⟩) 2 2)] (w.alloc (.cells #[.int .i64 0, .int .i64 0] 3)) (Made c2 b most (fun _ => none) F (w.alloc (.cells #[.int .i64 0, .int .i64 0] 3))) := by
  have r1 : Rd (w.alloc (.cells #[.int .i64 0, .int .i64 0] 3)) (.slice none 0 0) c2.vals.length (c2.vals.flatMap cells3) := Rd.nil _
  have r2 : Rd (w.alloc (.cells #[.int .i64 0, .int .i64 0] 3)) (.slice (some ⟨w.heap.size, 0, none⟩) 2 2) c2.kids.length (nums (ns c2.kids)) := Rd.two w _ _ _
  have n1 : c2.vals.length ≤ 4194304 := Nat.zero_le _
  have n2 : c2.kids.length ≤ 4194304 := by show 2 ≤ 4194304; decide
  have f1 : ∀ k, (Value.slice none 0 0).ownBlock = some k → ¬ F k := fun k e => by cases e
  have f2 : ∀ k, (Value.slice (some ⟨w.heap.size, 0, none⟩) 2 2).ownBlock = some k → ¬ F k := fun k e hf => by cases e; exact absurd (h.lt hf) (Nat.lt_irrefl _)
  have hl : live (most + 1) (fun _ => none) < most := by rw [live_zero fun _ => rfl]; omega
  exact amake c2 _ _ b most _ F _ (h.alloc _) r1 r2 n1 n2 f1 f2 rfl hl
theorem makeX (kid : Int) (hk : ¬ kid = 0) (b most : Nat) (F : Nat → Prop) (w : World) (h : Ar w b most (fun _ => none) F) :
    Calls Try.prog 14 #[ap b, cagg 0 0 0 (.slice none 0 0) (.slice (some ⟨w.heap.size, 0, none⟩) 2 2)] (w.alloc (.cells #[.int .i64 0, .int .i64 kid] 3)) fun e w' => e = .returned (.tuple #[.int .i64 0, .int .i64 1]) ∧ Below (w.alloc (.cells #[.int .i64 0, .int .i64 kid] 3)).heap.size (w.alloc (.cells #[.int .i64 0, .int .i64 kid] 3)) w' := by
  have r2 : Rd (w.alloc (.cells #[.int .i64 0, .int .i64 kid] 3)) (.slice (some ⟨w.heap.size, 0, none⟩) 2 2) [0, kid].length (nums [0, kid]) := Rd.two w _ _ _
  exact make_bad 0 0 0 _ _ [0, kid] b most _ F _ (h.alloc _) r2 (by show 2 ≤ 4194304; decide) (by simp [goodB, hk])

set_option maxRecDepth 100000 in
set_option maxHeartbeats 1000000 in
theorem walk_yes (most : Nat) (kid : Int) (w : World) (h1 : 1 ≤ most) (h2 : most ≤ 1048576) : Calls Try.prog 4 #[.int .i64 most, .int .i64 kid] w fun e w' => e = .returned (.bool true) ∧ Below w.heap.size w w' := by
  have d1 : decide ((1 : Int) ≤ most) = true := by simp; omega
  have d2 : decide ((most : Int) ≤ 1048576) = true := by simp; omega
  go_enter Try.func4, Try.ntmps4
  go_wp2_with fail
  refine (lives4 _).mono ?_
  rintro e w1 ⟨rfl, hb1⟩
  go_wp2_with fail
  refine (anew most w1 h1 h2).mono ?_
  rintro e w1' ⟨rfl, ha, hb⟩
  have L1 : Lone w w1' w1.heap.size most (fun _ => none) (fun k => k = w1.heap.size) := ⟨ha, hb1.trans (hb.mono hb1.size), fun k e => by have := hb1.size; omega⟩
  obtain ⟨b, hbb⟩ : ∃ b, b = w1.heap.size := ⟨_, rfl⟩
  rw [← hbb] at L1 ⊢
  clear hbb ha hb hb1
  go_wp2_with fail
  refine (make_nil _ 0 0 0 _ _ rfl _).mono ?_
  rintro e w2 ⟨rfl, hb2⟩
  have L2 := L1.below hb2
  clear L1 hb2
  go_wp2_with fail
  refine (get_nil _ _).mono ?_
  rintro e w3 ⟨rfl, hb3⟩
  have L3 := L2.below hb3
  clear L2 hb3
  go_wp2_with (first | (go_at_call 12; refine (alive_no _).mono ?_; rintro e w' ⟨rfl, rfl⟩) | (go_at_call 13; refine (aroom_no _).mono ?_; rintro e w' ⟨rfl, rfl⟩) | (go_at_call 16; refine (arefs_no _ _).mono ?_; rintro e w' ⟨rfl, rfl⟩) | (go_at_call 17; refine (akeep_nil _ _).mono ?_; rintro e w' ⟨rfl, rfl⟩) | (go_at_call 11; refine (adrop_nil _ _).mono ?_; rintro e w' ⟨rfl, rfl⟩))
  refine (aedit_nil _ _ 0 0 0 _ _ _).mono ?_
  rintro e w4 ⟨rfl, hb4⟩
  have L4 := (L3.alloc _).below hb4
  clear L3 hb4
  by_cases hk : kid = 0
  · subst hk
    go_wp2_with fail
    refine (make0 b most _ _ L4.ar h1).mono ?_
    rintro e w5 ⟨i, rfl, i1, i2, i3, ha, hk⟩
    have L5 := (L4.alloc _).step ha hk
    have hlv : live (most + 1) (upd (fun _ => none) i (some (c2, 1))) = 1 := by
      have := live_upd (N := most + 1) (M := fun _ => none) i (some (c2, 1)) (by omega)
      rw [live_zero fun _ => rfl] at this
      simpa [one] using this
    have HV := Lib.hid hlv
    clear L4 ha hk i3 hlv
    go_wp2_with fail
    refine (alive b most _ _ _ L5.ar).mono ?_
    rintro e w' ⟨rfl, rfl⟩
    rw [HV.out]
    go_wp2_with fail
    go_ret
    exact ⟨rfl, L5.bel⟩
  · go_wp2_with fail
    refine (makeX kid hk b most _ _ L4.ar).mono ?_
    rintro e w5 ⟨rfl, hb5⟩
    have L5 := (L4.alloc _).below hb5
    have HV := Lib.hid (show live (most + 1) (fun _ => none) = 0 from live_zero fun _ => rfl)
    have hkb : (kid == 0) = false := by simpa using hk
    clear L4 hb5
    go_wp2_with fail
    refine (alive b most _ _ _ L5.ar).mono ?_
    rintro e w' ⟨rfl, rfl⟩
    rw [HV.out]
    go_wp2_with fail
    go_ret
    exact ⟨rfl, L5.bel⟩

theorem walk (most kid : Int) (w : World) : Calls Try.prog 4 #[.int .i64 most, .int .i64 kid] w fun e w' => e = .returned (.bool true) ∧ Below w.heap.size w w' := by
  by_cases h : most < 1 ∨ 1048576 < most
  · exact walk_no most kid w h
  · obtain ⟨m, rfl⟩ : ∃ m : Nat, most = m := ⟨most.toNat, by omega⟩
    exact walk_yes m kid w (by omega) (by omega)

set_option maxRecDepth 100000 in
theorem lifted (os : Os) (started : os.Started) (H : Type) (enc : TypeId × Value → H) :
    ReturnsInHanded {} Try.checked os 4 .any (Rows.arenaArgsSpec.pre6 enc Try.prog Try.f4 Rows.arenaArgsRow.domain false) (Rows.arenaArgsSpec.post enc Try.prog Try.f4 false true false false) := by
  refine returnsInHanded_of_change (C := Try.checked) own started (by kernel_rfl) Try.func4
    (ChangeSpec.witness6 (enc := enc) (C := Try.checked) false ⟨#[], #[.int .i64 0, .int .i64 0], []⟩ 8 (by kernel_rfl) (by kernel_rfl) (by kernel_rfl) (by kernel_rfl)) ?_
  intro W base args ds gs before hval0 hW _ _
  have hval : ∀ (j : Nat) t v, Try.f4.params[j]? = some t → args[j]? = some v → Value.okWide Try.prog W .any base t v := hval0
  have hW' := hW
  obtain ⟨p, q, hA0, hV, rfl, _, _⟩ := hW
  have hA : DataW.TrodAll enc Try.prog W 0 (fun _ => true) true Try.f4.params.toList args.toList ds p := hA0
  rw [Try.params4] at hA hval
  obtain ⟨v0, vs0, d0, ds0, p0, q0, hargs, rfl, rfl, h0, r0⟩ := trodAll_cons hA
  obtain ⟨v1, vs1, d1, ds1, p1, q1, rfl, rfl, rfl, h1, r1⟩ := trodAll_cons r0
  obtain ⟨rfl, rfl, rfl⟩ := trodAll_nil r1
  obtain rfl : args = #[v0, v1] := by cases args; simp_all
  obtain ⟨rfl, rfl⟩ := trodVars_none hV
  obtain ⟨a0, rfl, rfl, rfl, w0⟩ := open_int Try.underlying3 (hval 0 3 v0 rfl rfl) h0
  obtain ⟨a1, rfl, rfl, rfl, w1⟩ := open_int Try.underlying3 (hval 1 3 v1 rfl rfl) h1
  clear hA0 hval0
  simp only [List.append_nil] at hW'
  refine (walk a0 a1 W).mono fun e W' ⟨he, hg⟩ => ?_
  subst he
  refine ⟨_, rfl, _, _, _, [], [], [], hW', ?_, ?_, ?_, hg.frame _, fun h => by cases h⟩
  · exact trodAll_cons_mk (shut_bool Try.underlying4 _) trodAll_mk0
  · exact trodAll_cons_mk (shut_int Try.underlying3 w0) (trodAll_cons_mk (shut_int Try.underlying3 w1) trodAll_mk0)
  · rfl

theorem over : Rows.arenaArgsRow.holds Try.pinned (OpenSpec.ofChange Rows.arenaArgsSpec) :=
  OpenClaim.holds_of_wide 4 Try.f4 rfl rfl rfl rfl rfl rfl rfl ⟨rfl, rfl, rfl, rfl, rfl⟩ rfl rfl rfl rfl rfl (by kernel_rfl) Try.func4 (by kernel_rfl)
    (of_decide_eq_true (by kernel_rfl)) (by unfold Func.isWrapper; first | (rw [if_pos (by decide +kernel)]; kernel_rfl) | (rw [if_neg (by decide +kernel)]; exact ⟨rfl, rfl⟩))
    (fun os started H enc _ => lifted os started H enc)

theorem proved : Rows.ArenaArgsSaid :=
  over
#print axioms proved
end Go.Proofs.Ytfnclcehkdlikaa.arenaArgs
