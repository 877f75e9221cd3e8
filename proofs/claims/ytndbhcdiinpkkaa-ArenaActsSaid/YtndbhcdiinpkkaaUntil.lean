/- A region that draws its order, whose last operations store into cells that its first ones load: an operation may be taken first, if it yields its value in every world that meets T, and whatever may come ahead of it leaves such a world. Of the dump nothing. -/
import Derived.OrdersHeld
import Derived.Deep.RegionHeld
import Derived.Deep.RegionLaw
import Derived.StillTail
namespace Go.Proofs.Ytndbhcdiinpkkaa
open Go

section
variable {P : Program} {ops : Array Oper} {Q : Exit → Act → World → Prop} {md : Region.Mode} {S T : World → Prop} {G : Nat → Bool}

/-- All orders; behind the operations of G the world meets S. -/
def Until (P : Program) (md : Region.Mode) (ops : Array Oper) (Q : Exit → Act → World → Prop) (S : World → Prop) (G : Nat → Bool) : Nat → Array Bool → Act → World → Prop
  | 0, done, a, w => Region.ready md ops done = [] ∧ Q .normal a w
  | n + 1, done, a, w => (Region.ready md ops done = [] → Q .normal a w) ∧
    ∀ j ∈ Region.ready md ops done, wpOp P ops Q j (fun a' w' => (G j = true → S w') ∧ Until P md ops Q S G n (done.setIfInBounds j true) a' w') a w

theorem Until.any : ∀ {n : Nat} {done : Array Bool} {a : Act} {w : World}, Until P md ops Q S G n done a w → wpAny P md ops Q n done a w
  | 0, _, _, _, h => h
  | _ + 1, _, _, _, ⟨h0, h1⟩ => ⟨h0, fun j hj => wpOp_mono (fun _ _ ⟨_, h⟩ => h.any) (h1 j hj)⟩

/-- j has an edge to i. -/
def Waits (md : Region.Mode) (o : Oper) (i : Nat) : Prop := ∃ e ∈ o.after, Region.binds md e = true ∧ e.on = i
theorem ready_waits {i j : Nat} {o : Oper} {done : Array Bool} (ho : ops[j]? = some o) (hj : j ∈ Region.ready md ops done) (hi : i ∈ Region.ready md ops done) : ¬ Waits md o i := by
  rintro ⟨e, he, hb, rfl⟩
  obtain ⟨_, o', ho', hall⟩ := mem_ready.1 hj
  obtain rfl : o = o' := Option.some.inj (ho.symm.trans ho')
  exact absurd (hall e he hb) (by rw [getD_both (mem_ready.1 hi).1]; simp)

/-- What may come ahead of i is apart from it, and leaves a world in which i yields its value. -/
def Ahead (md : Region.Mode) (ops : Array Oper) (S T : World → Prop) (G : Nat → Bool) (i : Nat) (oi : Oper) (done : Array Bool) : Prop :=
  ∀ j o, ops[j]? = some o → j ≠ i → done.getD j true = false → ¬ Waits md o i → oi.apart ops o = true ∧ ∀ w, (G j = true → S w) → T w
theorem Ahead.next {i j : Nat} {oi : Oper} {done : Array Bool} (h : Ahead md ops S T G i oi done) (hj : done.getD j true = false) : Ahead md ops S T G i oi (done.setIfInBounds j true) := by
  intro k o hk hki hun hw
  refine h k o hk hki ?_ hw
  rcases Nat.decEq j k with e | e
  · rwa [getD_set_ne true e] at hun
  · exact e ▸ hj

theorem Until.first {i : Nat} {oi : Oper} {v : Value} (hi : ops[i]? = some oi) (hsel : ∀ (j : Nat) (o : Oper) cs b, ops[j]? = some o → o.op ≠ .select cs b) (hQ : ∀ c a w, Q (.panic c) (a.put oi.dst v) w → Q (.panic c) a w) (hT : G i = true → ∀ w, T w → S w) :
    ∀ {n : Nat} {done : Array Bool} {a : Act} {w : World}, Ahead md ops S T G i oi done → i ∈ Region.ready md ops done → YieldsIf P ops T oi v a → T w → Until P md ops Q S G n (done.setIfInBounds i true) (a.put oi.dst v) w → Until P md ops Q S G (n + 1) done a w := by
  intro n
  induction n with
  | zero =>
    rintro done a w _ hr hy ht ⟨h0, h1⟩
    refine ⟨fun e => absurd hr (by simp [e]), fun j hj => ?_⟩
    rcases Nat.decEq j i with e | rfl
    · exact absurd (ready_mono hj e) (by simp [h0])
    · exact hy.wpOp hi ht ⟨fun g => hT g w ht, h0, h1⟩
  | succ n ih =>
    rintro done a w hA hr hy ht ⟨h0, h1⟩
    refine ⟨fun e => absurd hr (by simp [e]), fun j hj => ?_⟩
    rcases Nat.decEq j i with e | rfl
    · obtain ⟨hun, o, ho, _⟩ := mem_ready.1 hj
      obtain ⟨hap, hleave⟩ := hA j o ho e hun (ready_waits ho hj hr)
      refine wpOp_mono ?_ (wpOp_putIf ho hap (fun cs b => hsel i oi cs b hi) (fun cs b => hsel j o cs b ho) hQ hy (h1 j (ready_mono hj e)))
      rintro a' w' ⟨hy', hs, hrest⟩
      exact ⟨hs, ih (hA.next hun) (ready_mono hr (Ne.symm e)) hy' (hleave w' hs) (by rw [Array.setIfInBounds_comm _ _ e]; exact hrest)⟩
    · exact hy.wpOp hi ht ⟨fun g => hT g w ht, h0, h1⟩

/-- .. as a Bool, for the kernel: who does not wait for i is apart from it, and (where the load hangs on the world) of G. -/
def aheadB (md : Region.Mode) (ops : Array Oper) (G : Nat → Bool) (i : Nat) (done : Array Bool) : Bool :=
  match ops[i]? with
  | none => false
  | some oi => (List.range ops.size).all fun j => j == i || done.getD j true || match ops[j]? with
      | some o => o.after.any (fun e => Region.binds md e && e.on == i) || (oi.apart ops o && G j)
      | none => true
theorem aheadB_spec {i : Nat} {oi : Oper} {done : Array Bool} (hi : ops[i]? = some oi) (h : aheadB md ops G i done = true) : ∀ j o, ops[j]? = some o → j ≠ i → done.getD j true = false → ¬ Waits md o i → oi.apart ops o = true ∧ G j = true := by
  intro j o ho hne hun hw
  simp only [aheadB, hi, List.all_eq_true, List.mem_range] at h
  have h1 := h j (Array.getElem?_eq_some_iff.1 ho).1
  simp only [ho, Bool.or_eq_true, beq_iff_eq, hne, false_or, hun, Bool.false_eq_true, Bool.and_eq_true] at h1
  rcases h1 with h1 | h1
  · obtain ⟨e, he, hb⟩ := Array.any_eq_true'.1 h1
    rw [Bool.and_eq_true, beq_iff_eq] at hb
    exact absurd ⟨e, he, hb.1, hb.2⟩ hw
  · exact h1
/-- A load is taken first: S holds, and behind whatever may come ahead of it too. -/
theorem Until.load {i : Nat} {oi : Oper} {v : Value} {n : Nat} {done : Array Bool} {a : Act} {w : World} (hi : ops[i]? = some oi) (hs : Region.noSelect ops = true) (hf : aheadB md ops G i done = true) (hr : (Region.ready md ops done).contains i = true)
    (hQ : ∀ c a w, Q (.panic c) (a.put oi.dst v) w → Q (.panic c) a w) (hy : YieldsIf P ops S oi v a) (hS : S w) (h : Until P md ops Q S G n (done.setIfInBounds i true) (a.put oi.dst v) w) : Until P md ops Q S G (n + 1) done a w :=
  Until.first (T := S) hi (Region.noSelect_spec hs) hQ (fun _ _ => id) (fun j o hj hne hun hw => ⟨(aheadB_spec hi hf j o hj hne hun hw).1, fun _ hg => hg (aheadB_spec hi hf j o hj hne hun hw).2⟩) (by simpa using hr) hy hS h
/-- What yields in whatever world is taken first. -/
theorem Until.take {i : Nat} {oi : Oper} {v : Value} {n : Nat} {done : Array Bool} {a : Act} {w : World} (hi : ops[i]? = some oi) (hs : Region.noSelect ops = true) (hf : aheadB md ops (fun _ => true) i done = true) (hr : (Region.ready md ops done).contains i = true)
    (hQ : ∀ c a w, Q (.panic c) (a.put oi.dst v) w → Q (.panic c) a w) (hG : G i = false) (hy : Yields P ops oi v a) (h : Until P md ops Q S G n (done.setIfInBounds i true) (a.put oi.dst v) w) : Until P md ops Q S G (n + 1) done a w :=
  Until.first (T := fun _ => True) hi (Region.noSelect_spec hs) hQ (fun g => by rw [hG] at g; cases g) (fun j o hj hne hun hw => ⟨(aheadB_spec (G := fun _ => true) hi hf j o hj hne hun hw).1, fun _ _ => trivial⟩) (by simpa using hr) hy.yieldsIf trivial h

/-- Whichever comes up. -/
theorem Until.all {rs : List Nat} {n : Nat} {done : Array Bool} {a : Act} {w : World} (hr : Region.ready md ops done = rs) (hne : rs ≠ [])
    (h : ∀ j ∈ rs, wpOp P ops Q j (fun a' w' => (G j = true → S w') ∧ Until P md ops Q S G n (done.setIfInBounds j true) a' w') a w) : Until P md ops Q S G (n + 1) done a w :=
  ⟨fun h0 => absurd (hr.symm.trans h0) hne, hr ▸ h⟩
theorem Until.done {n : Nat} {done : Array Bool} {a : Act} {w : World} (hr : Region.ready md ops done = []) (h : Q .normal a w) : Until P md ops Q S G n done a w := by
  cases n with
  | zero => exact ⟨hr, h⟩
  | succ n => exact ⟨fun _ => h, fun j hj => by rw [hr] at hj; cases hj⟩
/-- One operation, what follows behind a letter. -/
theorem wpOp_open {j : Nat} {o : Oper} {a : Act} {w : World} {K : Act → World → Prop} (ho : ops[j]? = some o)
    (h : ∀ K' : Act → World → Prop, (∀ a w, K a w → K' a w) → if Region.wanted o (yielded ops a.tmps) = true then Oper.wp P o a w K' Q else K' (a.put o.dst undef) w) : wpOp P ops Q j K a w := by
  have := h K (fun _ _ => id)
  unfold wpOp
  simp only [ho]
  split at this
  · rename_i hw; rw [if_pos hw]; exact .inl this
  · rename_i hw; rw [if_neg hw]; exact this

theorem region_until {id : Nat} {a : Act} {w : World} (S : World → Prop) (G : Nat → Bool) (hm : P.follows .mixedOrders = true)
    (h : Until P .any ops Q S G ops.size (Array.replicate ops.size false) a w.drew) : (Code.region id ops true).wp P Q a w := wp_region_any hm h.any
end

end Go.Proofs.Ytndbhcdiinpkkaa
