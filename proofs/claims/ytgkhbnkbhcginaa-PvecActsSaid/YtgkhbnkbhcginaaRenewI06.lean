/- Package renew: Cell with a function that itself changes the arena: the cell is changed in place. -/
import Derived.Test.YtgkhbnkbhcginaaRenewS06
namespace Go.Proofs.Ytgkhbnkbhcginaa
open Go.RowKit

section
variable {b most : Nat} {M : Cells} {F : Nat → Prop}
set_option maxRecDepth 100000 in
set_option maxHeartbeats 2000000 in
/-- In place, by a function that changes the arena. -/
theorem vrenewS_in (f : FuncId) (caps : Array Value) (R : Hc → Cells → Prop) (i : Nat) (ow : Int) (c0 : Hc) (w : World) (h : Ar w b most M F) (hf : ∀ (args : Array Value) (W : World), (callFunc f args).run Try.prog W = .ok (.enter f args) W) (hi : M i = some (c0, 1)) (ho : c0.owner = ow) (h0 : ¬ ow = 0) (hch : ChgS f caps b most F w M c0 R)
    (hR : ∀ c' M2, R c' M2 → M2 i = some (c0, 1) ∧ c'.vals.length ≤ 4194304 ∧ c'.kids.length ≤ 4194304 ∧ (ns c'.kids).all (goodB M2) = true) :
    Calls Try.prog 44 #[ap b, .int .i64 i, .int .u32 ow, .func (.func f) #[] caps] w fun e w' => ∃ c' M2, e = .returned (.int .i64 (i : Int)) ∧ R c' M2 ∧ Stp w w' b most (upd M2 i (some ({ c' with owner := ow }, 1))) F := by
  have hal : aloneB M i ow = true := by unfold aloneB; rw [hi]; simp [h0, ho]
  have HA := Lib.hid h
  have HI := Lib.hid hi
  have HC := Lib.hid hch
  have HF := Lib.hid (show ∀ x, F x → x < w.heap.size from fun x hx => h.lt hx)
  clear h hi hch
  go_enter Try.func44, Try.ntmps44
  go_wp2_with fail
  refine (get i c0 1 b most M F _ HA.out HI.out).mono ?_
  rintro e w1 ⟨v, k, rfl, o1, o2, hb1⟩
  obtain ⟨A1, m1, rfl, _⟩ := (Rd.of_own o1).form
  obtain ⟨A2, m2, rfl, _⟩ := (Rd.of_own o2).form
  have O1 := Lib.hid o1
  have O2 := Lib.hid o2
  have B1 := Lib.hid hb1
  clear o1 o2 hb1
  go_wp2_with fail
  refine (valone i ow _ (HA.out.below (B1.out.alloc B1.out.size _))).mono ?_
  rintro e w2 ⟨rfl, hb2⟩
  rw [hal]
  have hb12 : Below w1.heap.size w1 w2 := ((Below.refl _ w1).alloc (Nat.le_refl _) _).trans (hb2.mono (by simp))
  have q1 := (C5.new w1 59 (.int .u32 ow) (.int .u32 c0.a) (.int .u32 c0.b) (.slice A1 c0.vals.length m1) (.slice A2 c0.kids.length m2)).below hb2
  have O1' := Lib.hid ((Kp.of_below hb12 (fun _ => False)).own O1.out (fun _ _ => id))
  have O2' := Lib.hid ((Kp.of_below hb12 (fun _ => False)).own O2.out (fun _ _ => id))
  have HB2 := Lib.hid (B1.out.trans (hb12.mono B1.out.size))
  generalize w1.heap.size = z1 at q1 ⊢
  obtain ⟨c1, c2, c3, c4, c5, _⟩ := q1.all
  clear O1 O2 B1 hb2 hb12 q1
  have HN1 := Lib.hid (show ∀ q, (Value.slice A1 c0.vals.length m1).ownBlock = some q → ¬ F q from fun q hq hf' => by
    have h1 := O1'.out.lt q hq
    have := HF.out q hf'; omega)
  have HN2 := Lib.hid (show ∀ q, (Value.slice A2 c0.kids.length m2).ownBlock = some q → ¬ F q from fun q hq hf' => by
    have h1 := O2'.out.lt q hq
    have := HF.out q hf'; omega)
  have RN2 := Lib.hid (show Rn w w2 b most M F F from Rn.below HA.out HB2.out)
  go_wp2_with fail
  refine (HC.out ow _ _ w2 F RN2.out HN1.out HN2.out O1'.out O2'.out).mono ?_
  rintro e w3 ⟨v', k', c', M2, F2, rfl, r1, r2, rn3, hn1, hn2, hr'⟩
  obtain ⟨A3, m3, rfl, _⟩ := r1.form
  obtain ⟨A4, m4, rfl, _⟩ := r2.form
  obtain ⟨hi2, nv, nk, hgd⟩ := hR c' M2 hr'
  have R1 := Lib.hid r1
  have R2 := Lib.hid r2
  have RN3 := Lib.hid rn3
  have HRR := Lib.hid hr'
  have HI2 := Lib.hid hi2
  clear r1 r2 rn3 hn1 hn2 hr' hi2 c1 c2 c3 c4 c5
  go_wp2_with fail
  refine (aeditO i ow ow c' c0 { c' with owner := ow } _ _ b most M2 _ _ RN3.out.ar HI2.out ho.symm h0 rfl R1.out R2.out nv nk hgd).mono ?_
  rintro e w4 ⟨rfl, ha4, hk4⟩
  have HE := Lib.hid ((RN3.out.stp (Stp.mk ha4 hk4)).fin HF.out)
  clear ha4 hk4
  go_wp2_with fail
  go_ret
  exact ⟨c', M2, rfl, HRR.out, HE.out⟩
end

end Go.Proofs.Ytgkhbnkbhcginaa
