/- Package arena: how an arena stands where one cell has changed, has come, or has gone; Keep. -/
import Derived.Test.YtgkhbnkbhcginaaKeep04
namespace Go.Proofs.Ytgkhbnkbhcginaa
open Go.RowKit

/-- The blocks of F, and those that are new in w'. -/
def Fn (F : Nat → Prop) (w w' : World) : Nat → Prop := fun k => F k ∨ (w.heap.size ≤ k ∧ k < w'.heap.size)
theorem Fn.old {F : Nat → Prop} {w w' : World} {k : Nat} (h : Fn F w w' k) : F k ∨ w.heap.size ≤ k := h.elim .inl fun h => .inr h.1
theorem Fn.lt {F : Nat → Prop} {w w' : World} (h : ∀ k, F k → k < w.heap.size) (hs : w.heap.size ≤ w'.heap.size) : ∀ k, Fn F w w' k → k < w'.heap.size := fun k hk => by
  rcases hk with hk | hk
  · exact Nat.lt_of_lt_of_le (h k hk) hs
  · exact hk.2

section
variable {d : Nat} {w w' : World} {b most : Nat} {M : Cells} {F G : Nat → Prop} {n : Nat} {vc vf : Value} {fr : List Nat} {H : Nat → Nat}

theorem Cel.mono {h : Nat} {c : Hc} {r : Nat} (hc : Cel w F vf h c r) (hF : ∀ k, F k → G k) : Cel w G vf h c r := by
  obtain ⟨v, k, h1, h2, h3, h4, h5, h6, h7, h8⟩ := hc
  exact ⟨v, k, h1, h2, h3, hF _ h4, fun g hg => hF _ (h5 g hg), fun g hg => ⟨hF _ (h6 g hg).1, (h6 g hg).2⟩, h7, h8⟩
theorem Cel.six {h : Nat} {c : Hc} {r : Nat} (hc : Cel w F vf h c r) : ∃ cur, w.heap[h]? = some (.cells cur 100 (0, 0)) := by
  obtain ⟨v, k, h1, _⟩ := hc
  exact ⟨_, h1⟩
/-- A cell, where the block of another has changed. -/
theorem Cel.keep {h g : Nat} {c : Hc} {r : Nat} {cur : Array Value} (hc : Cel w F vf h c r) (hk : Kp (fun k => k = g) w w') (hg : w.heap[g]? = some (.cells cur 100 (0, 0))) (hne : h ≠ g) : Cel w' F vf h c r := by
  obtain ⟨v, k, h1, h2, h3, h4, h5, h6, h7, h8⟩ := hc
  exact ⟨v, k, h1.kp hk hne, hk.own h2 (own_ne h2 hg (by decide)), hk.own h3 (own_ne h3 hg (by decide)), h4, h5, h6, h7, h8⟩
/-- .. where the arena's own block, or its row of places has changed. -/
theorem Cel.keepA {h g : Nat} {c : Hc} {r : Nat} {cur : Array Value} {t : TypeId} (hc : Cel w F vf h c r) (hk : Kp (fun k => k = g) w w') (hg : w.heap[g]? = some (.cells cur t (0, 0))) (ht : t = 87 ∨ t = 98) : Cel w' F vf h c r := by
  obtain ⟨v, k, h1, h2, h3, h4, h5, h6, h7, h8⟩ := hc
  have n1 : 100 ≠ t := by rcases ht with rfl | rfl <;> decide
  have n2 : 38 ≠ t := by rcases ht with rfl | rfl <;> decide
  have n3 : 3 ≠ t := by rcases ht with rfl | rfl <;> decide
  exact ⟨v, k, h1.kp hk (ne_types h1 hg n1), hk.own h2 (own_ne h2 hg n2), hk.own h3 (own_ne h3 hg n3), h4, h5, h6, h7, h8⟩

theorem live_same {N i : Nat} {x y : Hc × Nat} (h : M i = some x) (hi : i < N) : live N (upd M i (some y)) = live N M := by
  have := live_upd (M := M) i (some y) hi
  rw [h] at this
  simp only [one] at this
  omega
theorem places_same {i : Nat} {x y : Hc × Nat} (h : M i = some x) (H : Nat → Nat) (n : Nat) : places (upd M i (some y)) H n = places M H n := by
  unfold places
  apply List.map_congr_left
  intro j _
  by_cases e : j + 1 = i
  · subst e; rw [upd_same, h]; rfl
  · rw [upd_other _ _ e]

/-- One held cell has other contents, or another number of references. -/
theorem ArD.put (h : ArD d w b most M F n vc vf fr H) {i : Nat} {x y : Hc × Nat} (hi : M i = some x) (hk : Kp (fun k => k = H i) w w') (hF : ∀ k, F k → G k) (hG : ∀ k, G k → k < w'.heap.size) (hc : Cel w' G vf (H i) y.1 y.2) (hr : 1 ≤ y.2) :
    ArD d w' b most (upd M i (some y)) G n vc vf fr H := by
  obtain ⟨i1, i2, i3, i4⟩ := h.cel i x.1 x.2 hi
  obtain ⟨cur, h6⟩ := i4.six
  have hN : i < most + 1 := by have := h.le; omega
  refine ⟨h.m1, h.m2, ?_, ?_, ?_, ?_, ?_, h.nd, ?_, ?_, h.le, hF _ h.fb, fun k hk' => hF _ (h.fc k hk'), fun k hk' => hF _ (h.ff k hk'), hG⟩
  · rw [live_same hi hN]; exact h.row.kp hk (ne_types h.row h6 (by decide))
  · rw [places_same hi]; exact hk.own h.cs (own_ne h.cs h6 (by decide))
  · exact hk.own h.fs (own_ne h.fs h6 (by decide))
  · intro j c r hj
    by_cases e : j = i
    · subst e
      rw [upd_same] at hj
      injection hj with hj
      subst hj
      exact ⟨i1, i2, hr, hc⟩
    · rw [upd_other _ _ e] at hj
      obtain ⟨j1, j2, j3, j4⟩ := h.cel j c r hj
      exact ⟨j1, j2, j3, (j4.keep hk h6 (fun eq => e (h.inj j i (by rw [hj]; simp) (by rw [hi]; simp) eq))).mono hF⟩
  · have hh : ∀ j, upd M i (some y) j ≠ none → M j ≠ none := fun j hj => by
      by_cases e : j = i
      · subst e; rw [hi]; simp
      · rwa [upd_other _ _ e] at hj
    exact fun j k hj hk' => h.inj j k (hh j hj) (hh k hk')
  · intro j hj
    obtain ⟨j1, j2, j3⟩ := h.fi j hj
    refine ⟨j1, j2, ?_⟩
    rw [upd_other _ _ (by rintro rfl; rw [hi] at j3; cases j3)]
    exact j3
  · rw [live_same hi hN]; exact h.len
end

/-- One reference more. -/
theorem akeep (i : Nat) (c : Hc) (r : Nat) (b most : Nat) (M : Cells) (F : Nat → Prop) (w : World) (h : Ar w b most M F) (hi : M i = some (c, r)) (hr : r ≤ 4611686018427387904) :
    Calls Try.prog 54 #[ap b, .int .i64 i] w fun e w' => e = .returned (.int .i64 0) ∧ Ar w' b most (upd M i (some (c, r + 1))) (Fn F w w') ∧ Kp F w w' := by
  obtain ⟨n, vc, vf, fr, H, h⟩ := h
  obtain ⟨h1, _, _, h6⟩ := h.cel i c r hi
  have hf := fptr_some M H h1 hi
  obtain ⟨v, k, r6, hv, hk, hF, fv, fk, nv, nk⟩ := h6
  have hA : Kp (fun k => k = H i) w (w.setCell ⟨H i, 5, none⟩ (.int .i64 ((r + 1 : Nat) : Int))) := Kp.one w _ _ _
  have hnew : ArD 0 (w.setCell ⟨H i, 5, none⟩ (.int .i64 ((r + 1 : Nat) : Int))) b most (upd M i (some (c, r + 1))) (Fn F w (w.setCell ⟨H i, 5, none⟩ (.int .i64 ((r + 1 : Nat) : Int)))) n vc vf fr H :=
    h.put (y := (c, r + 1)) hi hA (fun _ => .inl) (Fn.lt h.lt hA.size)
      ⟨v, k, r6.set5 _, hA.own hv (own_ne hv r6 (by decide)), hA.own hk (own_ne hk r6 (by decide)), .inl hF, fun g hg => .inl (fv g hg), fun g hg => ⟨.inl (fk g hg).1, (fk g hg).2⟩, nv, nk⟩ (by simp)
  have HN := Lib.hid hnew
  have HK := Lib.hid (show Kp F w _ from hA.mono (G := F) fun k e _ => e ▸ hF)
  have c5 := r6.c5
  have f5 := r6.fz 5
  clear hnew hA r6 h1
  go_enter Try.func54, Try.ntmps54
  go_wp2_with (go_at_call 71; refine (find _ _ h).mono ?_; rintro e w' ⟨rfl, rfl⟩; rw [hf])
  go_ret
  exact ⟨rfl, ⟨n, vc, vf, fr, H, HN.out⟩, HK.out⟩
theorem akeep_no (i : Int) (b most : Nat) (M : Cells) (F : Nat → Prop) (w : World) (h : Ar w b most M F) (hn : 1 ≤ i → M i.toNat = none) :
    Calls Try.prog 54 #[ap b, .int .i64 i] w fun e w' => e = .returned (.int .i64 4) ∧ w = w' := by
  obtain ⟨n, vc, vf, fr, H, h⟩ := h
  have hf := fptr_none M H hn
  go_enter Try.func54, Try.ntmps54
  go_wp2_with (go_at_call 71; refine (find _ _ h).mono ?_; rintro e w' ⟨rfl, rfl⟩; rw [hf])
  go_ret
  exact ⟨rfl, rfl⟩
theorem akeep_nil (i : Int) (w : World) : Calls Try.prog 54 #[.pointer none, .int .i64 i] w fun e w' => e = .returned (.int .i64 4) ∧ w = w' := by
  go_enter Try.func54, Try.ntmps54
  go_wp2_with (go_at_call 71; refine (find_no _ _).mono ?_; rintro e w' ⟨rfl, rfl⟩)
  go_ret
  exact ⟨rfl, rfl⟩

end Go.Proofs.Ytgkhbnkbhcginaa
