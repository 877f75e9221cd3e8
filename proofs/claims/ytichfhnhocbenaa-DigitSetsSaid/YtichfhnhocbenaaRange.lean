/- A range over a function whose value may bind a receiver: the law for who ranges, outside of any other range. Of the dump nothing. -/
import Derived.RangeFuncNested
import Derived.RangeFuncBound
import Derived.RangeFuncLeaves
import Derived.Shelf.Abstract
import Derived.Test.YtichfhnhocbenaaSlices
namespace Go.Proofs.Ytichfhnhocbenaa
open Go Go.RowKit

section
variable {α : Type} {P : Program}

/-- The function f, called with these arguments and a function to yield to, yields the elements of xs, one behind the other, until it is told to end: for whatever J stands when so many have come, and Jx when it was told to end behind so many. Kp is what a round keeps that goes on. -/
def Gives (P : Program) (f : FuncId) (args : Value → Array Value) (encs : α → Array Value) (Kp : World → World → Prop) (xs : List α) (w : World) : Prop :=
  ∀ (l : Nat) (J Jx : Nat → World → Prop) (W : World), Below w.heap.size w W → (∀ i A B, J i A → Below A.heap.size A B → J i B) → (∀ i A B, Jx i A → Below A.heap.size A B → Jx i B) →
    (∀ i x A, xs[i]? = some x → J i A → YieldAt Fence.wide 0 P l (encs x) A fun e B => (e = .returned (.bool true) ∧ J (i + 1) B ∧ Kp A B) ∨ (e = .returned (.bool false) ∧ Jx (i + 1) B)) →
    J 0 W → Calls P f (args (.func (.yield l) #[] #[])) W fun e B => (∃ v, e = .returned v) ∧ (J xs.length B ∨ ∃ i, i ≤ xs.length ∧ Jx i B)

/-- How a round is left: it goes on, or it ends the range by a jump. -/
def roundOf (Kp : World → World → Prop) (I : Nat → World → Prop) (Ix : Code → Nat → World → Prop) (i : Nat) (A : World) : Exit → Act → World → Prop
  | .normal, _, B => KeepsOthers A B ∧ Kp A B ∧ I i B
  | .ret, _, B => KeepsOthers A B ∧ Ix .ret i B
  | .exit k, _, B => KeepsOthers A B ∧ Ix (.exit k) i B
  | .goto k, _, B => KeepsOthers A B ∧ Ix (.goto k) i B
  | .panic _, _, _ => False
  | .outgrown, _, _ => False

/-- What stands beside the caller's own word while the range goes on: the loop's record and the block of the deferred calls. -/
structure Books (D : Nat) (r : Loop) (W : World) : Prop where
  row : W.heap[D + 1]? = some (.loop r)
  def' : W.heap[D]? = some (.deferred (some []))

theorem Books.below {D : Nat} {r : Loop} {A B : World} (h : Books D r A) (g : Below A.heap.size A B) : Books D r B :=
  ⟨(g.block _ (Array.getElem?_eq_some_iff.1 h.row).1).trans h.row, (g.block _ (Array.getElem?_eq_some_iff.1 h.def').1).trans h.def'⟩
theorem Books.keeps {D : Nat} {r : Loop} {A B : World} (h : Books D r A) (g : KeepsOthers A B) : Books D r B := ⟨g.same _ _ h.row rfl, g.same _ _ h.def' rfl⟩
theorem Books.put {D : Nat} {r : Loop} {A : World} (h : Books D r A) (r' : Loop) : Books D r' (A.putObj (D + 1) (.loop r')) :=
  ⟨World.putObj_heap_same (Array.getElem?_eq_some_iff.1 h.row).1, (World.putObj_heap_other (by omega)).trans h.def'⟩

theorem below_own {B : Nat} {I : Nat → World → Prop} (h : OwnFrom B I) {i : Nat} {A C : World} (hI : I i A) (g : Below A.heap.size A C) : I i C :=
  h i A C none hI (grownBy_below g none) (fun r e => by cases e)

theorem wp_range {g : Operand} {ps : Array Tmp} {assign body : Code} {Q : Exit → Act → World → Prop} {a : Act} {w : World} {f : FuncId} {first last : Array Value}
    (hg : a.eval g = .func (.func f) first last) (hf : ∀ (args : Array Value) (w : World), (callFunc f args).run P w = .ok (.enter f args) w) {encs : α → Array Value} {Kp : World → World → Prop} {xs : List α} (hps : ∀ x, (encs x).size = ps.size)
    (hseq : Gives P f (fun v => first ++ #[v] ++ last) encs Kp xs w)
    (hKt : ∀ {A B C : World}, Kp A B → Kp B C → Kp A C) (hKb : ∀ (W : World) (l : Nat) (o o' : Obj), w.heap.size ≤ l → W.heap[l]? = some o → o.isCells = false → o.isWalk = false → Kp W (W.putObj l o'))
    (I : Nat → World → Prop) (Ix : Code → Nat → World → Prop) (hI : OwnFrom w.heap.size I) (hIx : ∀ c, OwnFrom w.heap.size (Ix c)) (h0 : I 0 w)
    (hround : ∀ (l i : Nat) (x : α) (W : World), xs[i]? = some x → assign.wpIn (Fence.wide.inRound l) 0 P (Exit.then (fun a₁ Wa => Wa = W ∧ ∀ W', I i W' → w.heap.size ≤ W'.heap.size → body.wpIn (Fence.wide.inRound l) 0 P (roundOf Kp I Ix (i + 1) W') a₁ W') (fun _ _ _ => False)) { tmps := (ps.zip (encs x)).foldl (fun t (p, v) => t.setIfInBounds p v) a.tmps, defers := [] } W)
    (hdone : ∀ (D : Nat) (W : World), w.heap.size ≤ D → I xs.length W → W.heap[D]? = some (.deferred (some [])) → Q .normal { a with defers := { target := .collected D, args := #[] } :: a.defers } W)
    (hstop : ∀ (D : Nat) (c : Code) (i : Nat) (W : World), w.heap.size ≤ D → i ≤ xs.length → Ix c i W → W.heap[D]? = some (.deferred (some [])) → c.wp P Q { a with defers := { target := .collected D, args := #[] } :: a.defers } W) :
    (Code.rangeFunc g ps assign body).wp P Q a w := by
  refine (wpIn_wide (n := 1)).1 (wpIn_rangeFunc fun fn hfn => ?_)
  obtain ⟨rec, hrec⟩ : ∃ rec : LoopState → Option Code → Loop, rec = fun st pe => { state := st, pending := pe, fn, tmps := a.tmps, params := ps, assign, body, defers := w.heap.size } := ⟨_, rfl⟩
  obtain ⟨W1, hW1⟩ : ∃ W1, W1 = (w.alloc (.deferred (some []))).alloc (.loop (rec .ready none)) := ⟨_, rfl⟩
  have hb1 : Below w.heap.size w W1 := by rw [hW1]; exact ((Below.refl _ w).alloc (Nat.le_refl _) _).alloc (by simp) _
  have hB1 : Books w.heap.size (rec .ready none) W1 := by
    rw [hW1]
    refine ⟨?_, (Below.heap_alloc _ _ _ (by simp)).trans (World.alloc_heap_new w _)⟩
    have := World.alloc_heap_new (w.alloc (.deferred (some []))) (.loop (rec .ready none))
    rwa [World.size_alloc] at this
  refine ⟨w.heap.size + 1, [{ target := .collected w.heap.size, args := #[] }], W1, { target := .fn (.func f) last, args := first ++ #[.func (.yield (w.heap.size + 1)) #[] #[]] }, W1, f, first ++ #[.func (.yield (w.heap.size + 1)) #[] #[]] ++ last, W1, ?_, ?_, fun _ _ => trivial, ?_, fun _ => Nat.le_refl 1, ?_⟩
  · rw [hW1, hrec]; exact run_enterLoop_outer _ _ _ _ _
  · simp only [resolve, hg]
    simp [go_sem, Deferred.ofValue]
  · simp only [invoke]
    exact hf _ _
  · refine callsIn_wide.2 ((hseq (w.heap.size + 1) (fun i W => I i W ∧ Books w.heap.size (rec .ready none) W) (fun i W => ∃ c, Ix c i W ∧ Books w.heap.size (rec .done (some c)) W) W1 hb1
      (fun i A B h hg => ⟨below_own hI h.1 hg, h.2.below hg⟩) (fun i A B ⟨c, h, hk⟩ hg => ⟨c, below_own (hIx c) h hg, hk.below hg⟩) ?_ ⟨below_own hI h0 hb1, hB1⟩).mono ?_)
    · rintro i x W hx ⟨hi, hk⟩
      have hlt : w.heap.size + 1 < W.heap.size := (Array.getElem?_eq_some_iff.1 hk.row).1
      have hy := run_yield (P := P) (args := encs x) hk.row (by rw [hrec]; exact hps x)
      have hbegin := run_beginRound (P := P) hk.row (by rw [hrec])
      have hk2 := hk.put { rec .ready none with state := .busy }
      have hp2 : Kp W (W.putObj (w.heap.size + 1) (.loop { rec .ready none with state := .busy })) := hKb _ _ _ _ (by omega) hk.row rfl rfl
      have hi2 := hI.putObj (.loop { rec .ready none with state := .busy }) hi (Nat.le_succ _) hk.row rfl
      have hsz : w.heap.size ≤ (W.putObj (w.heap.size + 1) (.loop { rec .ready none with state := .busy })).heap.size := by
        have := (Array.getElem?_eq_some_iff.1 hk2.row).1; omega
      have hend : ∀ (j : Option Code) (B : World), KeepsOthers (W.putObj (w.heap.size + 1) (.loop { rec .ready none with state := .busy })) B →
          (Instr.endRound (w.heap.size + 1) j).run P B = .ok (.bool j.isNone) (B.putObj (w.heap.size + 1) (.loop (rec (if j.isNone then .ready else .done) j))) ∧ Books w.heap.size { rec .ready none with state := .busy } B := fun j B hB => by
        have hk3 := hk2.keeps hB
        refine ⟨?_, hk3⟩
        have := run_endRound (P := P) j hk3.row
        rw [hrec] at this ⊢
        exact this
      rw [hrec] at hy
      refine ⟨fn, _, assign, body, hy, roundIn_of_wpIn hfn (wpIn_mono (hround (w.heap.size + 1) i x W hx) ?_)⟩
      rintro (_ | _ | _ | _ | _ | _) a1 Wa ha <;> first | exact ha.elim | skip
      obtain ⟨rfl, hwalk⟩ := ha
      refine ⟨_, hbegin, wpIn_mono (hwalk _ hi2 hsz) ?_⟩
      intro e a3 B hp
      cases e with
      | normal =>
        obtain ⟨hkp, hK, hI3⟩ := hp
        obtain ⟨hr, hk3⟩ := hend none B hkp
        exact ⟨_, _, hr, .inl ⟨rfl, ⟨hI.putObj _ hI3 (Nat.le_succ _) hk3.row rfl, hk3.put _⟩, hKt (hKt hp2 hK) (hKb _ _ _ _ (Nat.le_succ _) hk3.row rfl rfl)⟩⟩
      | ret =>
        obtain ⟨hkp, hI3⟩ := hp
        obtain ⟨hr, hk3⟩ := hend (some .ret) B hkp
        exact ⟨_, _, hr, .inr ⟨rfl, .ret, (hIx _).putObj _ hI3 (Nat.le_succ _) hk3.row rfl, hk3.put _⟩⟩
      | exit k =>
        obtain ⟨hkp, hI3⟩ := hp
        obtain ⟨hr, hk3⟩ := hend (some (.exit k)) B hkp
        exact ⟨_, _, hr, .inr ⟨rfl, .exit k, (hIx _).putObj _ hI3 (Nat.le_succ _) hk3.row rfl, hk3.put _⟩⟩
      | goto k =>
        obtain ⟨hkp, hI3⟩ := hp
        obtain ⟨hr, hk3⟩ := hend (some (.goto k)) B hkp
        exact ⟨_, _, hr, .inr ⟨rfl, .goto k, (hIx _).putObj _ hI3 (Nat.le_succ _) hk3.row rfl, hk3.put _⟩⟩
      | panic _ => exact hp.elim
      | outgrown => exact hp.elim
    · rintro e B ⟨⟨v, rfl⟩, ⟨hi, hk⟩ | ⟨i, hle, c, hi, hk⟩⟩
      · have hr := run_endLoop (P := P) hk.row (by rw [hrec]; simp)
        exact ⟨none, _, by rw [hr, hrec], hdone _ _ (Nat.le_refl _) (hI.putObj _ hi (Nat.le_succ _) hk.row rfl) ((World.putObj_heap_other (by omega)).trans hk.def')⟩
      · have hr := run_endLoop (P := P) hk.row (by rw [hrec]; simp)
        exact ⟨some c, _, by rw [hr, hrec], wpIn_wide.2 (hstop _ c i _ (Nat.le_refl _) hle ((hIx c).putObj _ hi (Nat.le_succ _) hk.row rfl) ((World.putObj_heap_other (by omega)).trans hk.def'))⟩
end

end Go.Proofs.Ytichfhnhocbenaa
