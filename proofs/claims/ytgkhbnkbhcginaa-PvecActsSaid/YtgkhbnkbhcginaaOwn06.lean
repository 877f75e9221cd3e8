/- Push and Drop of a vector of the owner's own. -/
import Derived.Test.YtgkhbnkbhcginaaMine06
import Derived.Test.YtgkhbnkbhcginaaPushNo06
namespace Go.Proofs.Ytgkhbnkbhcginaa
open Go.RowKit

theorem enter1 (args : Array Value) (W : World) : (callFunc 45 args).run Try.prog W = .ok (.enter 45 args) W := by kernel_rfl
theorem enter2 (args : Array Value) (W : World) : (callFunc 46 args).run Try.prog W = .ok (.enter 46 args) W := by kernel_rfl
/-- A value, of a row that reads as these values. -/
theorem rd3 {w : World} {A : Option Addr} {n c i : Nat} {l : Vs} {x : Int × Int × ByteArray} (h : Rd w (.slice A n c) n (l.flatMap cells3)) (hx : l[i]? = some x) : ∃ g o, A = some ⟨g, o, none⟩ ∧ g < w.heap.size ∧ w.cell? ⟨g, o + i * 3, none⟩ = some (.int .u8 x.1) ∧ w.cell? ⟨g, o + i * 3 + 1, none⟩ = some (.int .i64 x.2.1) ∧ w.cell? ⟨g, o + i * 3 + 2, none⟩ = some (.string x.2.2) := by
  obtain ⟨f0, f1, f2⟩ := flat3_at hx
  obtain ⟨g, o, c', e, _, h0⟩ := h.at f0
  obtain ⟨g1, o1, c1, e1, _, h1⟩ := h.at f1
  obtain ⟨g2, o2, c2, e2, _, h2⟩ := h.at f2
  simp only [Value.slice.injEq] at e e1 e2
  obtain ⟨rfl, _, _⟩ := e
  have a1 := e1.1
  have a2 := e2.1
  simp only [Option.some.injEq, Addr.mk.injEq, and_true] at a1 a2
  obtain ⟨rfl, rfl⟩ := a1
  obtain ⟨rfl, rfl⟩ := a2
  exact ⟨g, o, rfl, World.block_lt_of_cell? w _ h0, h0, by rw [Nat.add_assoc]; exact h1, by rw [Nat.add_assoc]; exact h2⟩

section
variable {b most : Nat} {M0 M : Cells} {F : Nat → Prop}
/-- One value more, with the owner, in a vector of its own. -/
theorem push_mine (v : Vc) (l : Vs) (ks : List Nat) (x : Int × Int × ByteArray) (ow : Int) (w : World) (h : Ar w b most M F) (hm : Mine (most + 1) M0 M ow v l ks) (h0 : ¬ ow = 0) (hlt : l.length < 1024) (hr : ∀ j, rf (M j) ≤ 1000) :
    Calls Try.prog 14 #[ap b, vagg v, xagg x, .int .u32 ow] w fun e w' => (∃ v' ks' M', e = .returned (.tuple #[vagg v', .int .i64 0]) ∧ Mine (most + 1) M0 M' ow v' (l ++ [x]) ks' ∧ Stp w w' b most M' F) ∨ (e = .returned (.tuple #[vagg ⟨0, 0, 0⟩, .int .i64 5]) ∧ Below w.heap.size w w' ∧ most < live (most + 1) M + 2) := by
  have hz := h.zero
  have hb : begun M v ow = M := by unfold begun; rw [if_neg h0]
  have hrr : ∀ j, rf (M j) ≤ 4611686018420000000 := fun j => Nat.le_trans (hr j) (by decide)
  by_cases hnf : l.length = 0 ∨ l.length % 32 ≠ 0
  · by_cases hroom : live (most + 1) M + freshN M ow [v.tail] ≤ most
    · refine (vPush_tail v l x ow w h hm.vec hlt hnf hroom hrr enter2).mono ?_
      rintro e w' ⟨n, M', rfl, hren, hs⟩
      rw [hb] at hren
      exact .inl ⟨_, ks, M', rfl, hm.push_tail h0 hz hlt hnf hren, hs⟩
    · refine (vPush_none v l x ow w h hm.vec hlt hnf (by omega)).mono ?_
      rintro e w' ⟨rfl, hs⟩
      have := freshN_le M ow [v.tail]
      simp only [List.length_singleton] at this
      exact .inr ⟨rfl, hs, by omega⟩
  · have hf : 0 < l.length ∧ l.length % 32 = 0 := by omega
    have hl1 := freshN_le M ow [v.root]
    simp only [List.length_singleton] at hl1
    by_cases hroom : live (most + 1) M + (freshN M ow [v.root] + 1) ≤ most
    · refine (vPush_full v l x ow w h hm.vec hlt hf hroom hrr enter2 enter1).mono ?_
      rintro e w' ⟨r, n, M1, M', rfl, hren, hren2, hs⟩
      rw [hb] at hren
      exact .inl ⟨_, _, M', rfl, hm.push_full h0 hz hlt hf hren hren2, hs⟩
    · refine (vPush_fullnone v l x ow w h hm.vec hlt hf (by omega)).mono ?_
      rintro e w' ⟨rfl, hs⟩
      exact .inr ⟨rfl, hs, by omega⟩
/-- Let go. -/
theorem drop_mine (v : Vc) (l : Vs) (ks : List Nat) (ow : Int) (w : World) (h : Ar w b most M F) (hm : Mine (most + 1) M0 M ow v l ks) (hr : ∀ j, rf (M j) ≤ 1000) : Calls Try.prog 20 #[ap b, vagg v] w fun e w' => e = .returned (.tuple #[]) ∧ Stp w w' b most M0 F := by
  have hz := h.zero
  refine (vdrop v w h (fun j => Nat.le_trans (hr j) (by decide))).mono ?_
  rintro e w' ⟨rfl, M1, M2, h1, h2, hs⟩
  rw [hm.drop hz h1 h2] at hs
  exact ⟨rfl, hs⟩
/-- Nothing is let go. -/
theorem drop_nil (n : Nat) (w : World) (h : Ar w b most M F) (hr : ∀ j, rf (M j) ≤ 1000) : Calls Try.prog 20 #[ap b, vagg ⟨n, 0, 0⟩] w fun e w' => e = .returned (.tuple #[]) ∧ Stp w w' b most M F := by
  have hz := h.zero
  refine (vdrop ⟨n, 0, 0⟩ w h (fun j => Nat.le_trans (hr j) (by decide))).mono ?_
  rintro e w' ⟨rfl, M1, M2, h1, h2, hs⟩
  have e1 := drops_none hz h1
  subst e1
  rw [drops_none hz h2] at hs
  exact ⟨rfl, hs⟩
end

end Go.Proofs.Ytgkhbnkbhcginaa
