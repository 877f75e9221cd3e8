/- Layer 4: what every statement of it asks first (lives). -/
import Derived.Test.YtndbhcdiinpkkaaEdit04
namespace Go.Proofs.Ytndbhcdiinpkkaa
open Go.RowKit

theorem Drops.inv {M M' : Cells} {l : List Nat} (h : Drops M l M') : (l = [] → M' = M) ∧ (∀ t x, l = t ++ [x] → Drops (release M x).1 (t ++ (release M x).2) M') := by
  cases h with
  | done => exact ⟨fun _ => rfl, fun t x e => by simp at e⟩
  | step h =>
    refine ⟨fun e => by simp at e, fun t x e => ?_⟩
    obtain ⟨rfl, e'⟩ := List.append_inj' e rfl
    injection e' with e'
    subst e'
    exact h
theorem drops_less {M M' : Cells} {i r : Nat} {c : Hc} (hi : M i = some (c, r)) (hr : 1 < r) (h : Drops M [i] M') : M' = upd M i (some (c, r - 1)) := by
  have h1 := h.inv.2 [] i rfl
  have e : release M i = (upd M i (some (c, r - 1)), []) := by unfold release; rw [hi]; simp only [hr, if_true]
  rw [e] at h1
  exact h1.inv.1 rfl
theorem drops_last {M M' : Cells} {i : Nat} {c : Hc} (hi : M i = some (c, 1)) (hc : c.kids = []) (h : Drops M [i] M') : M' = upd M i none := by
  have h1 := h.inv.2 [] i rfl
  have e : release M i = (upd M i none, []) := by unfold release; rw [hi, ← hc]; rfl
  rw [e] at h1
  exact h1.inv.1 rfl

/-- An arena of the call's own: all its blocks are new since w0, and nothing else has changed. -/
structure Lone (w0 w : World) (b most : Nat) (M : Cells) (F : Nat → Prop) : Prop where
  ar : Ar w b most M F
  bel : Below w0.heap.size w0 w
  new : ∀ k, F k → w0.heap.size ≤ k
section
variable {w0 w w' : World} {b most : Nat} {M M' : Cells} {F : Nat → Prop}
theorem below_kp (h : Below w0.heap.size w0 w) (k : Kp F w w') (hF : ∀ k, F k → w0.heap.size ≤ k) : Below w0.heap.size w0 w' :=
  ⟨k.os.trans h.os, k.tape.trans h.tape, k.output.trans h.output, Nat.le_trans h.size k.size, fun i hi => (k.block i (Nat.lt_of_lt_of_le hi h.size) (fun f => by have := hF i f; omega)).trans (h.block i hi)⟩
theorem Lone.step (h : Lone w0 w b most M F) (ha : Ar w' b most M' (Fn F w w')) (hk : Kp F w w') : Lone w0 w' b most M' (Fn F w w') :=
  ⟨ha, below_kp h.bel hk h.new, fun k hk' => by
    rcases hk' with hk' | hk'
    · exact h.new k hk'
    · exact Nat.le_trans h.bel.size hk'.1⟩
theorem Lone.below (h : Lone w0 w b most M F) (hb : Below w.heap.size w w') : Lone w0 w' b most M F := ⟨h.ar.below hb, h.bel.trans (hb.mono h.bel.size), h.new⟩
theorem Lone.alloc (h : Lone w0 w b most M F) (o : Obj) : Lone w0 (w.alloc o) b most M F := h.below ((Below.refl _ _).alloc (Nat.le_refl _) o)
/-- A store into a block that is neither old nor the arena's. -/
theorem Lone.set (h : Lone w0 w b most M F) {g o : Nat} (hg : w0.heap.size ≤ g) (hF : ¬ F g) (u : Value) : Lone w0 (w.setCell ⟨g, o, none⟩ u) b most M F :=
  ⟨h.ar.kp (Kp.one w g o u) (fun _ hk e => hF (e ▸ hk)), h.bel.setCell hg u, h.new⟩
end

theorem rf_upd {M : Cells} {B : Nat} (h : ∀ j, rf (M j) ≤ B) (i : Nat) (c : Hc) {r : Nat} (hr : r ≤ B) : ∀ j, rf (upd M i (some (c, r)) j) ≤ B := fun j => by
  by_cases e : j = i
  · subst e; rw [upd_same]; exact hr
  · rw [upd_other _ _ e]; exact h j

def c7 : Hc := ⟨0, 7, 0, [], []⟩
theorem make7 (b : Nat) (F : Nat → Prop) (w : World) (h : Ar w b 2 (fun _ => none) F) : Calls Try.prog 16 #[ap b, cagg 0 7 0 (.slice none 0 0) (.slice none 0 0)] w (Made c7 b 2 (fun _ => none) F w) := by
  have hlive : live (2 + 1) (fun _ => none) < 2 := by rw [live_zero fun _ => rfl]; decide
  have r1 : Rd w (.slice none 0 0) c7.vals.length (c7.vals.flatMap cells3) := Rd.nil w
  have r2 : Rd w (.slice none 0 0) c7.kids.length (nums (ns c7.kids)) := Rd.nil w
  have n1 : c7.vals.length ≤ 4194304 := Nat.zero_le _
  have n2 : c7.kids.length ≤ 4194304 := Nat.zero_le _
  have g : (ns c7.kids).all (goodB (fun _ => none)) = true := rfl
  have f : ∀ k, (Value.slice none 0 0).ownBlock = some k → ¬ F k := fun k e => by cases e
  exact amake c7 (.slice none 0 0) (.slice none 0 0) b 2 (fun _ => none) F w h r1 r2 n1 n2 f f g hlive

set_option maxHeartbeats 400000 in
theorem lives4 (w : World) : Calls Try.prog 8 #[] w fun e w' => e = .returned (.bool true) ∧ Below w.heap.size w w' := by
  go_enter Try.func8, Try.ntmps8
  go_wp2_with fail
  refine (anew 2 w (by omega) (by omega)).mono ?_
  rintro e w1 ⟨rfl, ha, hb⟩
  have L1 : Lone w w1 w.heap.size 2 (fun _ => none) (fun k => k = w.heap.size) := ⟨ha, hb, fun k e => Nat.le_of_eq e.symm⟩
  obtain ⟨b, hbb⟩ : ∃ b, b = w.heap.size := ⟨_, rfl⟩
  rw [← hbb] at L1 ⊢
  clear ha hb hbb
  go_wp2_with fail
  refine (make7 b _ _ L1.ar).mono ?_
  rintro e w2 ⟨i, rfl, i1, _, _, ha, hk⟩
  have L2 := L1.step ha hk
  clear L1 ha hk
  have hM : upd (fun _ => none) i (some (c7, 1)) i = some (c7, 1) := upd_same _ _ _
  have HM := Lib.hid hM
  clear hM
  go_wp2_with fail
  refine (akeep i c7 1 b 2 _ _ _ L2.ar HM.out (by decide)).mono ?_
  rintro e w3 ⟨rfl, ha, hk⟩
  have L3 := L2.step ha hk
  have HM3 := Lib.hid (show upd (upd (fun _ => none) i (some (c7, 1))) i (some (c7, 1 + 1)) i = some (c7, 2) from upd_same _ _ _)
  clear L2 ha hk
  go_wp2_with fail
  refine (adrop i b 2 _ _ _ L3.ar (by rw [HM3.out]; simp) (rf_upd (rf_upd (fun _ => Nat.zero_le _) _ _ (by decide)) _ _ (by decide))).mono ?_
  rintro e w4 ⟨rfl, M4, hd, ha, hk⟩
  have L4 := L3.step ha hk
  have HE4 := Lib.hid (drops_less HM3.out (by decide) hd)
  have HM4 := Lib.hid (show M4 i = some (c7, 1) by rw [drops_less HM3.out (by decide) hd]; exact upd_same _ _ _)
  clear L3 ha hk
  go_wp2_with fail
  refine (get i c7 1 b 2 _ _ _ L4.ar HM4.out).mono ?_
  rintro e w5 ⟨v, k, rfl, o1, o2, hb⟩
  have L5 := L4.below hb
  obtain ⟨A1, m1, rfl, _⟩ := (Rd.of_own o1).form
  obtain ⟨A2, m2, rfl, _⟩ := (Rd.of_own o2).form
  clear L4 o1 o2 hb
  have e1 : c7.owner = 0 := rfl
  have e2 : c7.a = 7 := rfl
  have e3 : c7.b = 0 := rfl
  have e4 : c7.vals.length = 0 := rfl
  have e5 : c7.kids.length = 0 := rfl
  rw [e1, e2, e3, e4, e5]
  clear e1 e2 e3 e4 e5
  have hnF : ∀ k, k = w5.heap.size → ¬ (Fn (Fn (Fn (fun k => k = b) w1 w2) w2 w3) w3 w4) k := fun k e hk => by have := L5.ar.lt hk; omega
  have HF := Lib.hid (hnF _ rfl)
  clear hnF
  go_wp2_with fail
  refine (arefs i b 2 M4 _ _ (L5.alloc _).ar).mono ?_
  rintro e w6 ⟨rfl, hw⟩
  have L6 : Lone w w6 b 2 M4 (Fn (Fn (Fn (fun k => k = b) w1 w2) w2 w3) w3 w4) := hw ▸ L5.alloc _
  have q6 : C5 w6 w5.heap.size 47 (.int .u32 0) (.int .u32 7) (.int .u32 0) (.slice A1 0 m1) (.slice A2 0 m2) := hw ▸ C5.new w5 _ _ _ _ _ _
  have hri : rfi M4 i = 1 := by unfold rfi; rw [if_pos (by omega), Int.toNat_natCast, HM4.out]; rfl
  rw [hri]
  clear hw hri
  have Q6 := Lib.hid q6
  obtain ⟨g, hg⟩ : ∃ g, g = w5.heap.size := ⟨_, rfl⟩
  rw [← hg] at Q6 HF ⊢
  clear hg q6 L5
  go_wp2_with fail
  refine (adrop i b 2 _ _ _ L6.ar (by rw [HM4.out]; simp) (by rw [HE4.out]; exact rf_upd (rf_upd (rf_upd (fun _ => Nat.zero_le _) _ _ (by decide)) _ _ (by decide)) _ _ (by decide))).mono ?_
  rintro e w7 ⟨rfl, M7, hd, ha, hk⟩
  have L7 := L6.step ha hk
  have HM7 := Lib.hid (show M7 = upd M4 i none from drops_last HM4.out rfl hd)
  have Q7 := Lib.hid (Q6.out.kp hk HF.out)
  clear L6 ha hk Q6 hd
  go_wp2_with fail
  refine (get_no i b 2 _ _ _ L7.ar (fun _ => by rw [HM7.out, Int.toNat_natCast]; exact upd_same _ _ _)).mono ?_
  rintro e w8 ⟨rfl, hb⟩
  have L8 := L7.below hb
  have Q8 := Lib.hid (Q7.out.below hb)
  clear L7 Q7 hb
  have d1 := Q8.out.c1
  have hg8 := Q8.out.lt
  have HZ := Lib.hid (show live (2 + 1) M7 = 0 from live_zero fun j => by
    rw [HM7.out, HE4.out]
    unfold upd
    split <;> rfl)
  go_wp2_with (first | (go_at_call 14; refine (alive b 2 M7 _ _ (L8.alloc _).ar).mono ?_; rintro e w' ⟨rfl, rfl⟩; rw [HZ.out]) | (go_at_call 15; refine (aroom b 2 M7 _ _ (L8.alloc _).ar).mono ?_; rintro e w' ⟨rfl, k, rfl⟩; rw [HZ.out]))
  go_ret
  exact ⟨rfl, (L8.alloc _).bel.trans ((below_drewN _ _).mono (L8.alloc _).bel.size)⟩

end Go.Proofs.Ytndbhcdiinpkkaa
