/- What the makers of values and Right return (package value), and the document's Right: their contracts. -/
import Derived.Test.YtbfnlpooocaeiaaProg
import Derived.Test.YtbfnlpooocaeiaaWorld
import Derived.Test.YtbfnlpooocaeiaaPlain01
import Derived.WalkLawsBesides
import Derived.WalkSpells
import Derived.Deep.RegionWith
namespace Go.Proofs.Ytbfnlpooocaeiaa
open Go.RowKit

theorem ret_int {k : IntKind} {a b : Int} (h : a = b) : Ending.returned (.int k a) = .returned (.int k b) := by rw [h]
theorem ret_bool {a b : Bool} (h : a = b) : Ending.returned (.bool a) = .returned (.bool b) := by rw [h]
abbrev vv (k n : Int) (s : ByteArray) : Value := .agg #[.int .u8 k, .int .i64 n, .string s]

theorem truth_f (w : World) : Calls Try.prog 26 #[.bool false] w fun e w' => e = .returned (vv 1 0 ⟨#[]⟩) ∧ Gw w w' := by
  go_enter Try.func26, Try.ntmps26
  go_wp2
  exact bodyPost_ret (v := vv 1 0 ⟨#[]⟩) (by simp [results, Try.results26, go_sem]) rfl ⟨rfl, (Gw.refl _).alloc _ _⟩
theorem truth_t (w : World) : Calls Try.prog 26 #[.bool true] w fun e w' => e = .returned (vv 1 1 ⟨#[]⟩) ∧ Gw w w' := by
  go_enter Try.func26, Try.ntmps26
  go_wp2
  exact bodyPost_ret (v := vv 1 1 ⟨#[]⟩) (by simp [results, Try.results26, go_sem]) rfl ⟨rfl, (Gw.refl _).alloc _ _⟩
theorem number (n : Int) (w : World) : Calls Try.prog 27 #[.int .i64 n] w fun e w' => e = .returned (vv 2 n ⟨#[]⟩) ∧ Gw w w' := by
  go_enter Try.func27, Try.ntmps27
  go_wp2
  exact bodyPost_ret (v := vv 2 n ⟨#[]⟩) (by simp [results, Try.results27, go_sem]) rfl ⟨rfl, (Gw.refl _).alloc _ _⟩
theorem text (s : ByteArray) (w : World) : Calls Try.prog 28 #[.string s] w fun e w' => e = .returned (vv 3 0 s) ∧ Gw w w' := by
  go_enter Try.func28, Try.ntmps28
  go_wp2
  exact bodyPost_ret (v := vv 3 0 s) (by simp [results, Try.results28, go_sem]) rfl ⟨rfl, (Gw.refl _).alloc _ _⟩

theorem right0 (n : Int) (s : ByteArray) (w : World) : Calls Try.prog 24 #[vv 0 n s] w fun e w' => e = .returned (.bool (decide (n = 0) && s.toList.isEmpty)) ∧ Gw w w' := by
  go_enter Try.func24, Try.ntmps24
  go_wp2
  all_goals go_ret
  all_goals exact ⟨ret_bool (by simp_all), (Gw.refl _).alloc _ _⟩
theorem right1_nn (n : Int) (s : ByteArray) (w : World) (h0 : ¬ n = 0) (h1 : ¬ n = 1) : Calls Try.prog 24 #[vv 1 n s] w fun e w' => e = .returned (.bool false) ∧ Gw w w' := by
  go_enter Try.func24, Try.ntmps24
  go_wp2
  obtain ⟨b0, b1, b2⟩ := Gr.box3 w (.int .u8 1) (.int .i64 n) (.string s) 28
  refine region_grown (by kernel_rfl) (by kernel_rfl) ?_
  repeat (go_big_quiet_step (first | (go_at_call_of 26 (Value.bool false); exact Gr.calls _ (truth_f _)) | (go_at_call_of 26 (Value.bool true); exact Gr.calls _ (truth_t _))))
  refine wpQuiet_nil ?_
  rintro _ ⟨g, rfl⟩
  go_wp2
  go_ret
  exact ⟨rfl, ((Gw.refl _).alloc _ _).trans g.grown⟩
theorem right1_0  (w : World) : Calls Try.prog 24 #[vv 1 0 ⟨#[]⟩] w fun e w' => e = .returned (.bool true) ∧ Gw w w' := by
  go_enter Try.func24, Try.ntmps24
  go_wp2
  obtain ⟨b0, b1, b2⟩ := Gr.box3 w (.int .u8 1) (.int .i64 0) (.string ⟨#[]⟩) 28
  refine region_grown (by kernel_rfl) (by kernel_rfl) ?_
  repeat (go_big_quiet_step (first | (go_at_call_of 26 (Value.bool false); exact Gr.calls _ (truth_f _)) | (go_at_call_of 26 (Value.bool true); exact Gr.calls _ (truth_t _))))
  refine wpQuiet_nil ?_
  rintro _ ⟨g, rfl⟩
  go_wp2
  go_ret
  exact ⟨rfl, ((Gw.refl _).alloc _ _).trans g.grown⟩
theorem right1_1  (w : World) : Calls Try.prog 24 #[vv 1 1 ⟨#[]⟩] w fun e w' => e = .returned (.bool true) ∧ Gw w w' := by
  go_enter Try.func24, Try.ntmps24
  go_wp2
  obtain ⟨b0, b1, b2⟩ := Gr.box3 w (.int .u8 1) (.int .i64 1) (.string ⟨#[]⟩) 28
  refine region_grown (by kernel_rfl) (by kernel_rfl) ?_
  repeat (go_big_quiet_step (first | (go_at_call_of 26 (Value.bool false); exact Gr.calls _ (truth_f _)) | (go_at_call_of 26 (Value.bool true); exact Gr.calls _ (truth_t _))))
  refine wpQuiet_nil ?_
  rintro _ ⟨g, rfl⟩
  go_wp2
  go_ret
  exact ⟨rfl, ((Gw.refl _).alloc _ _).trans g.grown⟩
theorem right1_0n (s : ByteArray) (w : World) (hs : ¬ s.toList = []) : Calls Try.prog 24 #[vv 1 0 s] w fun e w' => e = .returned (.bool false) ∧ Gw w w' := by
  go_enter Try.func24, Try.ntmps24
  go_wp2
  obtain ⟨b0, b1, b2⟩ := Gr.box3 w (.int .u8 1) (.int .i64 0) (.string s) 28
  refine region_grown (by kernel_rfl) (by kernel_rfl) ?_
  repeat (go_big_quiet_step (first | (go_at_call_of 26 (Value.bool false); exact Gr.calls _ (truth_f _)) | (go_at_call_of 26 (Value.bool true); exact Gr.calls _ (truth_t _))))
  refine wpQuiet_nil ?_
  rintro _ ⟨g, rfl⟩
  go_wp2
  go_ret
  exact ⟨rfl, ((Gw.refl _).alloc _ _).trans g.grown⟩
theorem right1_1n (s : ByteArray) (w : World) (hs : ¬ s.toList = []) : Calls Try.prog 24 #[vv 1 1 s] w fun e w' => e = .returned (.bool false) ∧ Gw w w' := by
  go_enter Try.func24, Try.ntmps24
  go_wp2
  obtain ⟨b0, b1, b2⟩ := Gr.box3 w (.int .u8 1) (.int .i64 1) (.string s) 28
  refine region_grown (by kernel_rfl) (by kernel_rfl) ?_
  repeat (go_big_quiet_step (first | (go_at_call_of 26 (Value.bool false); exact Gr.calls _ (truth_f _)) | (go_at_call_of 26 (Value.bool true); exact Gr.calls _ (truth_t _))))
  refine wpQuiet_nil ?_
  rintro _ ⟨g, rfl⟩
  go_wp2
  go_ret
  exact ⟨rfl, ((Gw.refl _).alloc _ _).trans g.grown⟩
theorem right2_e (n : Int) (w : World) : Calls Try.prog 24 #[vv 2 n ⟨#[]⟩] w fun e w' => e = .returned (.bool true) ∧ Gw w w' := by
  go_enter Try.func24, Try.ntmps24
  go_wp2
  obtain ⟨b0, b1, b2⟩ := Gr.box3 w (.int .u8 2) (.int .i64 n) (.string ⟨#[]⟩) 28
  refine region_grown (by kernel_rfl) (by kernel_rfl) ?_
  repeat (go_big_quiet_step ((go_at_call 27; exact Gr.calls _ (number _ _))))
  refine wpQuiet_nil ?_
  rintro _ ⟨g, rfl⟩
  go_wp2
  go_ret
  exact ⟨rfl, ((Gw.refl _).alloc _ _).trans g.grown⟩
theorem right2_n (n : Int) (s : ByteArray) (w : World) (hs : ¬ s.toList = []) : Calls Try.prog 24 #[vv 2 n s] w fun e w' => e = .returned (.bool false) ∧ Gw w w' := by
  go_enter Try.func24, Try.ntmps24
  go_wp2
  obtain ⟨b0, b1, b2⟩ := Gr.box3 w (.int .u8 2) (.int .i64 n) (.string s) 28
  refine region_grown (by kernel_rfl) (by kernel_rfl) ?_
  repeat (go_big_quiet_step ((go_at_call 27; exact Gr.calls _ (number _ _))))
  refine wpQuiet_nil ?_
  rintro _ ⟨g, rfl⟩
  go_wp2
  go_ret
  exact ⟨rfl, ((Gw.refl _).alloc _ _).trans g.grown⟩
theorem right3_0 (s : ByteArray) (w : World) : Calls Try.prog 24 #[vv 3 0 s] w fun e w' => e = .returned (.bool (decide ((s.size : Int) ≤ 4096))) ∧ Gw w w' := by
  go_enter Try.func24, Try.ntmps24
  go_wp2
  obtain ⟨b0, b1, b2⟩ := Gr.box3 w (.int .u8 3) (.int .i64 0) (.string s) 28
  refine region_grown (by kernel_rfl) (by kernel_rfl) ?_
  repeat (go_big_quiet_step ((go_at_call 28; exact Gr.calls _ (text _ _))))
  refine wpQuiet_nil ?_
  rintro _ ⟨g, rfl⟩
  go_wp2
  go_ret
  exact ⟨rfl, ((Gw.refl _).alloc _ _).trans g.grown⟩
theorem right3_n (n : Int) (s : ByteArray) (w : World) (hn : ¬ n = 0) : Calls Try.prog 24 #[vv 3 n s] w fun e w' => e = .returned (.bool false) ∧ Gw w w' := by
  go_enter Try.func24, Try.ntmps24
  go_wp2
  obtain ⟨b0, b1, b2⟩ := Gr.box3 w (.int .u8 3) (.int .i64 n) (.string s) 28
  refine region_grown (by kernel_rfl) (by kernel_rfl) ?_
  repeat (go_big_quiet_step ((go_at_call 28; exact Gr.calls _ (text _ _))))
  refine wpQuiet_nil ?_
  rintro _ ⟨g, rfl⟩
  go_wp2
  go_ret
  exact ⟨rfl, ((Gw.refl _).alloc _ _).trans g.grown⟩
theorem right4 (k n : Int) (s : ByteArray) (w : World) (h0 : 4 ≤ k) : Calls Try.prog 24 #[vv k n s] w fun e w' => e = .returned (.bool false) ∧ Gw w w' := by
  go_enter Try.func24, Try.ntmps24
  go_wp2
  go_ret
  exact ⟨rfl, (Gw.refl _).alloc _ _⟩

theorem bytes_empty {s : ByteArray} (h : s.toList = []) : s = ⟨#[]⟩ := by
  rw [ByteArray.toList_eq] at h
  obtain ⟨⟨l⟩⟩ := s
  simp at h
  rw [h]

theorem right (k n : Int) (s : ByteArray) (w : World) (hk : 0 ≤ k) :
    Calls Try.prog 24 #[vv k n s] w fun e w' => e = .returned (.bool (rightB k n s)) ∧ Gw w w' := by
  have go : ∀ (b : Bool), b = rightB k n s → Calls Try.prog 24 #[vv k n s] w (fun e w' => e = .returned (.bool b) ∧ Gw w w') → Calls Try.prog 24 #[vv k n s] w fun e w' => e = .returned (.bool (rightB k n s)) ∧ Gw w w' := fun b hb h => by rw [← hb]; exact h
  by_cases h0 : k = 0
  · subst h0; exact go _ (by simp [rightB]) (right0 n s w)
  · by_cases h1 : k = 1
    · subst h1
      by_cases hs : s.toList = []
      · rw [bytes_empty hs] at go ⊢
        by_cases n0 : n = 0
        · subst n0; exact go true (by simp [rightB]) (right1_0 w)
        · by_cases n1 : n = 1
          · subst n1; exact go true (by simp [rightB]) (right1_1 w)
          · exact go false (by simp [rightB, n0, n1]) (right1_nn n _ w n0 n1)
      · by_cases n0 : n = 0
        · subst n0; exact go false (by simp [rightB, hs]) (right1_0n s w hs)
        · by_cases n1 : n = 1
          · subst n1; exact go false (by simp [rightB, hs]) (right1_1n s w hs)
          · exact go false (by simp [rightB, n0, n1]) (right1_nn n _ w n0 n1)
    · by_cases h2 : k = 2
      · subst h2
        by_cases hs : s.toList = []
        · rw [bytes_empty hs] at go ⊢
          exact go true (by simp [rightB]) (right2_e n w)
        · exact go false (by simp [rightB, hs]) (right2_n n s w hs)
      · by_cases h3 : k = 3
        · subst h3
          by_cases n0 : n = 0
          · subst n0; exact go _ (by simp [rightB]) (right3_0 s w)
          · exact go false (by simp [rightB, n0]) (right3_n n s w n0)
        · exact go false (by simp [rightB, h0, h1, h2, h3]) (right4 k n s w (by omega))

set_option maxHeartbeats 400000 in
theorem ref_right (k n : Int) (s : ByteArray) (w : World) :
    Calls Try.prog 13 #[vv k n s] w fun e w' => e = .returned (.bool (rightB k n s)) ∧ Gw w w' := by
  go_enter Try.func13, Try.ntmps13
  go_wp2
  all_goals go_ret
  all_goals exact ⟨ret_bool (by simp_all [rightB]), (Gw.refl _).alloc _ _⟩

end Go.Proofs.Ytbfnlpooocaeiaa
