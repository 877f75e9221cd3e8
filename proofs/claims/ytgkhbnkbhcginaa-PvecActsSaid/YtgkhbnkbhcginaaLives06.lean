/- Layer 6: what every statement of it asks first (lives). -/
import Derived.Test.YtgkhbnkbhcginaaOwn06
namespace Go.Proofs.Ytgkhbnkbhcginaa
open Go.RowKit

theorem gnumber6 (n : Int) (w : World) : Calls Try.prog 24 #[.int .i64 n] w fun e w' => e = .returned (xagg (2, n, ⟨#[]⟩)) ∧ Gw w w' := by
  go_enter Try.func24, Try.ntmps24
  go_wp2_with fail
  exact bodyPost_ret (v := xagg (2, n, ⟨#[]⟩)) (by simp [results, Try.results24, go_sem]) rfl ⟨rfl, (Gw.refl _).alloc _ _⟩
theorem Lone.stp6 {w0 w w' : World} {b most : Nat} {M M' : Cells} {F : Nat → Prop} (h : Lone w0 w b most M F) (k : Stp w w' b most M' F) : Lone w0 w' b most M' (Fn F w w') := h.step k.ar k.kp
/-- The first value of a vector, with whatever owner. -/
theorem Mine.first {most n : Nat} {M M' : Cells} {ow : Int} {x : Int × Int × ByteArray} (hz : M 0 = none) (hr : Renewed M 0 ow { contC M 0 with vals := (contC M 0).vals ++ [x] } most n M') : Mine (most + 1) M M' ow ⟨1, 0, n⟩ [x] [] := by
  obtain ⟨n1, n2, n3, rfl⟩ := hr.new hz
  have hc : contC M 0 = ⟨0, 0, 0, [], []⟩ := by unfold contC; rw [hz]
  rw [hc]
  have hid' : ids (⟨1, 0, n⟩ : Vc) [] = [n] := by unfold ids; simp
  refine ⟨rfl, by simp, fun e => by simp at e, by simp, fun _ => rfl, fun e => absurd rfl e, fun _ => ?_, fun k y e => by simp at e, ?_, ?_, ?_, ?_⟩
  · exact Al.new M n ⟨0, 0, 0, [] ++ [x], []⟩ (by simp [chunk]) rfl
  · rw [hid']; simp
  · rw [hid']
    intro y hy
    obtain rfl : y = n := by simpa using hy
    exact n3
  · rw [hid']
    intro y hy
    exact upd_other _ _ (by simpa using hy)
  · rw [hid', live_new n2 n3]; rfl
set_option maxRecDepth 100000 in
set_option maxHeartbeats 800000 in
theorem lives6 (w : World) : Calls Try.prog 8 #[] w fun e w' => e = .returned (.bool true) ∧ Below w.heap.size w w' := by
  go_enter Try.func8, Try.ntmps8
  go_wp2_with fail
  refine (anew 50 w (by omega) (by omega)).mono ?_
  rintro e w1 ⟨rfl, ha, hb⟩
  have HL1 := Lib.hid (show Lone w w1 w.heap.size 50 (fun _ => none) (fun k => k = w.heap.size) from ⟨ha, hb, fun k e => Nat.le_of_eq e.symm⟩)
  obtain ⟨b, hbb⟩ : ∃ b, b = w.heap.size := ⟨_, rfl⟩
  rw [← hbb] at HL1 ⊢
  clear ha hb hbb
  go_wp2_with fail
  refine (gnumber6 1 w1).mono ?_
  rintro e w2 ⟨rfl, g2⟩
  have HL2 := Lib.hid (HL1.out.below g2.below)
  clear g2 HL1
  go_wp2_with fail
  refine (vPush_tail ⟨0, 0, 0⟩ [] (2, 1, ⟨#[]⟩) 0 w2 HL2.out.ar (VecIs.empty _) (by decide) (.inl rfl) (by rw [live_zero fun _ => rfl]; decide) (fun _ => Nat.zero_le _) enter2).mono ?_
  rintro e w3 ⟨n, M', rfl, hren, hs⟩
  have hbg : begun (fun _ => none) (⟨0, 0, 0⟩ : Vc) 0 = fun _ => none := rfl
  rw [hbg] at hren
  have HM := Lib.hid (Mine.first (M := fun _ => none) rfl hren)
  have HL3 := Lib.hid (HL2.out.stp6 hs)
  generalize Fn _ _ _ = F3 at HL3
  clear hs hren hbg HL2
  have hlv : live (50 + 1) M' = 1 := by have := HM.out.lv; rw [live_zero fun _ => rfl] at this; exact this
  have HLV := Lib.hid hlv
  have q3 := C3.new w3 30 (.int .i64 1) (.int .i64 0) (.int .i64 (n : Int))
  have Q3 := Lib.hid q3
  have HL4 := Lib.hid (HL3.out.alloc (.cells #[.int .i64 1, .int .i64 0, .int .i64 (n : Int)] 30))
  clear hlv q3
  go_wp2_with fail
  refine (vGet ⟨1, 0, n⟩ [(2, 1, ⟨#[]⟩)] 0 (2, 1, ⟨#[]⟩) _ HL4.out.ar HM.out.vec rfl).mono ?_
  rintro e w5 ⟨rfl, hb5⟩
  have HL5 := Lib.hid (HL4.out.below hb5)
  have Q5 := Lib.hid (Q3.out.below hb5)
  obtain ⟨z, hz⟩ : ∃ z, z = w3.heap.size := ⟨_, rfl⟩
  rw [← hz] at Q5 ⊢
  clear hb5 hz Q3 HL4 HL3
  have hzl := Q5.out.lt
  have q6 := C3.new w5 38 (.int .u8 2) (.int .i64 1) (.string ⟨#[]⟩)
  have Q6 := Lib.hid q6
  have HNF := Lib.hid (show ¬ F3 w5.heap.size from fun hf => absurd (HL5.out.ar.lt hf) (Nat.lt_irrefl _))
  have HL6 := Lib.hid (HL5.out.alloc (.cells #[.int .u8 2, .int .i64 1, .string ⟨#[]⟩] 38))
  have Q56 := Lib.hid (Q5.out.alloc (.cells #[.int .u8 2, .int .i64 1, .string ⟨#[]⟩] 38))
  clear q6 hzl Q5 HL5
  go_wp2_with fail
  generalize w5.alloc (.cells #[.int .u8 2, .int .i64 1, .string ⟨#[]⟩] 38) = w6 at HL6 Q6 Q56 ⊢
  obtain ⟨z5, hz5⟩ : ∃ z, z = w5.heap.size := ⟨_, rfl⟩
  rw [← hz5] at Q6 HNF ⊢
  clear hz5
  refine (alive b 50 M' F3 _ HL6.out.ar).mono ?_
  rintro e w' ⟨rfl, rfl⟩
  rw [HLV.out]
  obtain ⟨a0, a1, a2, _⟩ := Q56.out.all
  go_wp2_with fail
  refine (drop_mine ⟨1, 0, n⟩ [(2, 1, ⟨#[]⟩)] [] 0 w6 HL6.out.ar HM.out (fun q => HM.out.rfb (by decide) (fun _ => Nat.zero_le _) q)).mono ?_
  rintro e w7 ⟨rfl, hs7⟩
  have HL7 := Lib.hid (HL6.out.stp6 hs7)
  have q7 := Q6.out.kp hs7.kp HNF.out
  have K0 := Gr.cell q7.c0 q7.lt
  have K1 := Gr.cell q7.c1 q7.lt
  have K2 := Gr.cell q7.c2 q7.lt
  generalize Fn _ _ _ = F7 at HL7
  have HAL := Lib.hid (show ∀ g : Gr w7, Calls Try.prog 23 #[ap b] g.at' fun e w' => e = .returned (.int .i64 0) ∧ Gw g.at' w' from fun g => by
    refine (alive b 50 (fun _ => none) F7 _ (HL7.out.ar.below g.grown.below)).mono ?_
    rintro e w' ⟨rfl, rfl⟩
    rw [live_zero fun _ => rfl]
    exact ⟨rfl, Gw.refl _⟩)
  clear hs7 q7 a0 a1 a2 HL6 Q6 Q56 HNF
  go_wp2_with fail
  refine region_grown (by kernel_rfl) (by kernel_rfl) ?_
  repeat (go_big_quiet_step (first | (go_at_call 24; exact Gr.calls _ (gnumber6 _ _)) | (go_at_call 23; exact Gr.calls _ (HAL.out _))))
  refine wpQuiet_nil ?_
  rintro _ ⟨g', rfl⟩
  go_wp2_with fail
  go_ret
  exact ⟨rfl, HL7.out.bel.trans (g'.grown.below.mono HL7.out.bel.size)⟩

end Go.Proofs.Ytgkhbnkbhcginaa
