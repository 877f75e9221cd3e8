/- A part of a slice of values. -/
import Derived.Test.YtjdpgehmkcdmfaaOwn06
namespace Go.Proofs.Ytjdpgehmkcdmfaa
open Go.RowKit

theorem flat_drop : ∀ (l : Vs) (f : Nat), (l.drop f).flatMap cells3 = (l.flatMap cells3).drop (f * 3)
  | _, 0 => by simp
  | [], f + 1 => by simp
  | x :: l, f + 1 => by
    rw [List.drop_succ_cons, flat_drop l f, List.flatMap_cons, show (f + 1) * 3 = (cells3 x).length + f * 3 by simp [cells3]; omega, ← List.drop_drop, List.drop_left]
theorem flat_take (l : Vs) (m : Nat) : (l.take m).flatMap cells3 <+: l.flatMap cells3 := by
  refine ⟨(l.drop m).flatMap cells3, ?_⟩
  rw [← List.flatMap_append, List.take_append_drop]
/-- From f to t. -/
theorem rd_sub {w : World} {A : Option Addr} {n c f t : Nat} {l xs : Vs} (h : Rd w (.slice A n c) n (l.flatMap cells3)) (hl : l.length = n) (hft : f ≤ t) (ht : t ≤ n) (hx : xs = (l.drop f).take (t - f)) :
    (c ≠ f → Rd w (.slice (Option.map (fun x => x.add (f * 3)) A) (t - f) (c - f)) xs.length (xs.flatMap cells3)) ∧ (c = f → Rd w (.slice A (t - f) 0) xs.length (xs.flatMap cells3)) := by
  have hxl : xs.length = t - f := by rw [hx, List.length_take, List.length_drop]; omega
  rw [hxl]
  rcases h with ⟨e, h1, h2⟩ | ⟨b, o, c', e, hc, hcell⟩
  · simp only [Value.slice.injEq] at e
    obtain ⟨rfl, rfl, rfl⟩ := e
    have hl0 : l = [] := List.eq_nil_of_length_eq_zero hl
    obtain rfl : xs = [] := by rw [hx, hl0]; simp
    have e1 : t - f = 0 := by omega
    rw [e1]
    exact ⟨fun hne => by rw [show 0 - f = 0 by omega]; exact .inl ⟨rfl, rfl, rfl⟩, fun _ => .inl ⟨rfl, rfl, rfl⟩⟩
  · simp only [Value.slice.injEq] at e
    obtain ⟨rfl, _, rfl⟩ := e
    refine ⟨fun hne => .inr ⟨b, o + f * 3, c - f, ?_, by omega, fun j u hu => ?_⟩, fun he => ?_⟩
    · show Value.slice (some ((⟨b, o, none⟩ : Addr).add (f * 3))) _ _ = _
      rw [add_none]
    · have h1 : ((l.drop f).flatMap cells3)[j]? = some u := by
        obtain ⟨r, hr⟩ := flat_take (l.drop f) (t - f)
        rw [hx] at hu
        rw [← hr, List.getElem?_append_left (List.getElem?_eq_some_iff.1 hu).1]
        exact hu
      rw [flat_drop, List.getElem?_drop] at h1
      have := hcell _ u h1
      rwa [← Nat.add_assoc] at this
    · obtain rfl : xs = [] := List.eq_nil_of_length_eq_zero (by omega)
      exact .inr ⟨b, o, 0, by rw [show t - f = 0 by omega], by omega, fun j u hu => by simp at hu⟩

end Go.Proofs.Ytjdpgehmkcdmfaa
