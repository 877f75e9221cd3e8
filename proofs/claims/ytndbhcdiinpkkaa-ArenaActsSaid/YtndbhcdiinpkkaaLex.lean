/- Whether one walk, in the order of the text, serves every order of a drawn region: asked pair by pair, so that a region of a hundred operations can be asked. Of the dump nothing. -/
import Derived.Test.YtndbhcdiinpkkaaWorld
namespace Go.Proofs.Ytndbhcdiinpkkaa
open Go Go.RowKit

/-- The operations from number k on: each waits only for what stands ahead of it, and is apart from what does not wait for it. -/
def lexL (md : Region.Mode) (ops : Array Oper) : Nat → List Oper → Bool
  | _, [] => true
  | k, o :: rest => (o.after.all fun e => !Region.binds md e || decide (e.on < k)) && (rest.all fun y => (y.after.any fun e => Region.binds md e && e.on == k) || o.apart ops y) && lexL md ops (k + 1) rest

section
variable {md : Region.Mode} {ops : Array Oper}
theorem lexFrom_of : ∀ (l : List Oper) (k : Nat) (listed : Array Bool), (∀ j, l[j]? = ops[k + j]?) → k + l.length = ops.size → listed.size = ops.size → (∀ j, j < ops.size → listed.getD j true = decide (j < k)) → (∀ j, j < ops.size → listed.getD j false = decide (j < k)) →
    lexL md ops k l = true → Region.lexFrom md ops l.length k listed = true
  | [], k, listed, _, hs, _, h1, _, _ => by
    simp only [List.length_nil, Region.lexFrom, List.isEmpty_iff]
    unfold Region.ready
    rw [List.filter_eq_nil_iff]
    intro i hi
    have hi' := List.mem_range.1 hi
    simp only [List.length_nil] at hs
    rw [h1 i hi']
    have : decide (i < k) = true := by simpa using (by omega : i < k)
    simp [this]
  | o :: l, k, listed, hl, hs, hz, h1, h2, h => by
    simp only [lexL, Bool.and_eq_true] at h
    obtain ⟨⟨ha, hr⟩, hn⟩ := h
    simp only [List.length_cons] at hs
    have h0 : ops[k]? = some o := by simpa using (hl 0).symm
    have hk : k < ops.size := by omega
    simp only [List.length_cons, Region.lexFrom, Bool.and_eq_true]
    refine ⟨⟨?_, ?_⟩, lexFrom_of l (k + 1) _ (fun j => by have := hl (j + 1); simpa [Nat.add_assoc, Nat.add_comm 1 j] using this) (by omega) (by simpa using hz) (fun j hj => ?_) (fun j hj => ?_) hn⟩
    · have hmem : k ∈ Region.ready md ops listed := by
        refine mem_ready.2 ⟨?_, o, h0, fun e he hb => ?_⟩
        · rw [h1 k hk]; simp
        · rw [Array.all_eq_true'] at ha
          have := ha e he
          simp only [hb, Bool.not_true, Bool.false_or, decide_eq_true_eq] at this
          rw [h2 e.on (by omega)]
          simpa using this
      simpa using hmem
    · unfold Region.free
      rw [h0]
      simp only [List.all_eq_true, List.mem_range, Bool.or_eq_true, beq_iff_eq]
      intro j hj
      rcases Nat.lt_trichotomy j k with e | e | e
      · exact .inl (.inr (by rw [h1 j hj]; simpa using e))
      · exact .inl (.inl e)
      · right
        obtain ⟨d, rfl⟩ : ∃ d, j = k + (d + 1) := ⟨j - k - 1, by omega⟩
        rw [← hl (d + 1)]
        simp only [List.getElem?_cons_succ]
        cases hy : l[d]? with
        | none => rfl
        | some y =>
          rw [List.all_eq_true] at hr
          have := hr y (List.mem_of_getElem? hy)
          simpa using this
    · by_cases e : j = k
      · subst e; simp [Array.getD_eq_getD_getElem?, hz, hk]
      · rw [show (listed.setIfInBounds k true).getD j true = listed.getD j true by simp [Array.getD_eq_getD_getElem?, Array.getElem?_setIfInBounds, Ne.symm e], h1 j hj]
        simp only [decide_eq_decide]; omega
    · by_cases e : j = k
      · subst e; simp [Array.getD_eq_getD_getElem?, hz, hk]
      · rw [show (listed.setIfInBounds k true).getD j false = listed.getD j false by simp [Array.getD_eq_getD_getElem?, Array.getElem?_setIfInBounds, Ne.symm e], h2 j hj]
        simp only [decide_eq_decide]; omega

/-- .. for the whole region. -/
theorem lexB_of {l : List Oper} (hs : Region.noSelect l.toArray = true) (h : lexL md l.toArray 0 l = true) : Region.lexB md l.toArray = true := by
  unfold Region.lexB
  rw [hs, Bool.true_and]
  have h1 : ∀ c : Bool, ∀ j, j < l.toArray.size → (Array.replicate l.toArray.size false).getD j c = decide (j < 0) := fun c j hj => by
    have hj' : j < l.length := by simpa using hj
    simp [Array.getD_eq_getD_getElem?, Array.getElem?_replicate, hj']
  have := lexFrom_of (md := md) (ops := l.toArray) l 0 (Array.replicate l.toArray.size false) (fun j => by simp) (by simp) (by simp) (h1 true) (h1 false) h
  simpa using this
end

end Go.Proofs.Ytndbhcdiinpkkaa
