/- Layer 6's law: one more vector, one fewer, one without its owner. -/
import Derived.Test.YtgkhbnkbhcginaaEn06
namespace Go.Proofs.Ytgkhbnkbhcginaa
open Go.RowKit

/-- A row of one's own changes; the arena doesn't. -/
theorem Lone.row {w0 W W2 : World} {b most : Nat} {M : Cells} {F : Nat → Prop} {row : Option Nat} (h : Lone w0 W b most M F) (k : Kp (fun q => row = some q) W W2) (hr : ∀ q, row = some q → w0.heap.size ≤ q ∧ ¬ F q) : Lone w0 W2 b most M F :=
  ⟨h.ar.kp k (fun q hq e => (hr q e).2 hq), below_kp h.bel k (fun q e => (hr q e).1), h.new⟩
theorem holds_snoc (E : List En) (e : En) (j : Nat) : (holds (E ++ [e])).count j = (holds E).count j + [e.v.root, e.v.tail].count j := by
  unfold holds
  rw [List.flatMap_append, List.count_append]
  rfl
section
variable {w0 W W1 W2 : World} {b : Nat} {M M' : Cells} {F F' : Nat → Prop} {sa sa2 : Value} {E : List En} {k : Nat} {e : En}
/-- The row is neither the arena's nor older than the call. -/
theorem Wd.far' (h : Wd w0 W b M F sa E) (hF' : ∀ q, F' q → F q ∨ W.heap.size ≤ q) : ∀ q, sa.ownBlock = some q → w0.heap.size ≤ q ∧ ¬ F' q := fun q hq =>
  ⟨(own_blk h.all q hq).1, fun hf => (hF' q hf).elim (h.own q hq) (fun e => by have := (own_blk h.all q hq).2; omega)⟩
/-- The same vector twice, with whatever owner. -/
theorem Wd.snoc (h : Wd w0 W b M F sa E) (hk : E[k]? = some e) (ow' : Int) (hL : Lone w0 W1 b 65536 M' F') (hF' : ∀ q, F' q → F q ∨ W.heap.size ≤ q) (hkp : Kp F W W1)
    (hbk : Bk (65536 + 1) M' [] (addP (addP (fun j => (holds (E.eraseIdx k)).count j) e.v.root) e.v.tail) [e.v.root, e.v.tail]) (hks : ∀ r, Pres M M' r)
    (hown : W2.ownsRow w0.heap.size 34 5 sa2 (E.length + 1) ((E ++ [(⟨e.v, e.l, e.s, ow'⟩ : En)]).flatMap cells5)) (hg : W1.grownBy W2 sa.ownBlock) (hat : sa2.ownBlock = sa.ownBlock ∨ sa2.ownBlock = some W1.heap.size) :
    Wd w0 W2 b M' F' sa2 (E ++ [⟨e.v, e.l, e.s, ow'⟩]) := by
  have hm := List.mem_of_getElem? hk
  have kg : Kp (fun q => sa.ownBlock = some q) W1 W2 := Kp.of_grown hg (fun q hq => .inl hq)
  have hnF := h.far' hF'
  have hmem : ∀ y ∈ E ++ [(⟨e.v, e.l, e.s, ow'⟩ : En)], ∃ y0 ∈ E, y.v = y0.v ∧ y.l = y0.l ∧ y.s = y0.s := fun y hy => by
    rcases List.mem_append.1 hy with hy | hy
    · exact ⟨y, hy, rfl, rfl, rfl⟩
    · obtain rfl : y = ⟨e.v, e.l, e.s, ow'⟩ := by simpa using hy
      exact ⟨e, hm, rfl, rfl, rfl⟩
  refine ⟨hL.row kg hnF, hbk.move (fun j _ => ?_) (fun x hx => by simp at hx), fun y hy => ?_, fun y hy => ?_, fun y hy q hq => ?_, ?_, fun q hq => ?_⟩
  · rw [holds_snoc, holds_split E k e j hk]
    unfold addP
    simp only [count2]
    omega
  · obtain ⟨y0, h0, e1, e2, _⟩ := hmem y hy
    rw [e1, e2]
    exact (h.vec y0 h0).pres h.zero (fun _ => hks _) (fun _ => hks _)
  · obtain ⟨y0, h0, _, e2, e3⟩ := hmem y hy
    rw [e2, e3]
    exact kg.rd (hkp.rd (h.row y0 h0) (fun q hq => (h.far y0 h0 q hq).1)) (fun q hq e => (h.far y0 h0 q hq).2.2 e.symm)
  · obtain ⟨y0, h0, _, _, e3⟩ := hmem y hy
    rw [e3] at hq
    obtain ⟨a1, a2, a3⟩ := h.far y0 h0 q hq
    have a4 := Nat.lt_of_lt_of_le a2 hkp.size
    refine ⟨fun hf => (hF' q hf).elim a1 (fun e => by omega), Nat.lt_of_lt_of_le a4 kg.size, fun e => ?_⟩
    rcases hat with e' | e'
    · exact a3 (e.trans e')
    · have := Option.some.inj (e.trans e')
      omega
  · rw [List.length_append]
    exact hown
  · rcases hat with e' | e'
    · exact (hnF q (e' ▸ hq)).2
    · have h1 : W1.heap.size = q := Option.some.inj (e'.symm.trans hq)
      exact fun hf => by have := hL.ar.lt hf; omega
/-- One of them is dropped. -/
theorem Wd.erase {g cp : Nat} (h : Wd w0 W b M F (.slice (some ⟨g, 0, none⟩) E.length cp) E) (hk : E[k]? = some e) (hL : Lone w0 W1 b 65536 M' F') (hF' : ∀ q, F' q → F q ∨ W.heap.size ≤ q) (hkp : Kp F W W1)
    (hbk : Bk (65536 + 1) M' [] (fun j => (holds (E.eraseIdx k)).count j) []) (hks : Keeps (fun j => (holds (E.eraseIdx k)).count j) M M')
    (hown : W2.ownsRow w0.heap.size 34 5 (.slice (some ⟨g, 0, none⟩) (E.length - 1) cp) (E.length - 1) ((E.eraseIdx k).flatMap cells5)) (hg : Kp (fun q => q = g) W1 W2) :
    Wd w0 W2 b M' F' (.slice (some ⟨g, 0, none⟩) (E.length - 1) cp) (E.eraseIdx k) := by
  have hkl := (List.getElem?_eq_some_iff.1 hk).1
  have hnF := h.far' hF'
  have kg : Kp (fun q => (some g : Option Nat) = some q) W1 W2 := hg.mono (fun q e _ => by rw [e])
  refine ⟨hL.row kg hnF, hbk.move (fun j _ => by simp) (fun x hx => by simp at hx), fun y hy => ?_, fun y hy => ?_, fun y hy q hq => ?_, ?_, fun q hq => (hnF q hq).2⟩
  · obtain ⟨j, hjk, hj⟩ := List.mem_eraseIdx_iff_getElem?.1 hy
    exact h.others hks hj hjk
  · have h0 := List.mem_of_mem_eraseIdx hy
    exact kg.rd (hkp.rd (h.row y h0) (fun q hq => (h.far y h0 q hq).1)) (fun q hq e => (h.far y h0 q hq).2.2 e.symm)
  · obtain ⟨a1, a2, a3⟩ := h.far y (List.mem_of_mem_eraseIdx hy) q hq
    exact ⟨fun hf => (hF' q hf).elim a1 (fun e => by omega), Nat.lt_of_lt_of_le a2 (Nat.le_trans hkp.size kg.size), a3⟩
  · rw [List.length_eraseIdx_of_lt hkl]
    exact hown
/-- One of them has no owner from now on. -/
theorem Wd.free {g cp : Nat} (h : Wd w0 W b M F (.slice (some ⟨g, 0, none⟩) E.length cp) E) (hk : E[k]? = some e) :
    Wd w0 (W.setCell ⟨g, k * 5 + 4, none⟩ (.int .u32 0)) b M F (.slice (some ⟨g, 0, none⟩) E.length cp) (E.set k ⟨e.v, e.l, e.s, 0⟩) := by
  have hkl := (List.getElem?_eq_some_iff.1 hk).1
  have hm := List.mem_of_getElem? hk
  have hnF := h.far' (F' := F) (fun _ => .inl)
  have k1 : Kp (fun q => q = g) W (W.setCell ⟨g, k * 5 + 4, none⟩ (.int .u32 0)) := (Kp.refl (fun q => q = g) W).setCell (.inl rfl) _
  have kg : Kp (fun q => (some g : Option Nat) = some q) W (W.setCell ⟨g, k * 5 + 4, none⟩ (.int .u32 0)) := k1.mono (fun q e _ => by rw [e])
  have hmem : ∀ y ∈ E.set k ⟨e.v, e.l, e.s, 0⟩, ∃ y0 ∈ E, y.v = y0.v ∧ y.l = y0.l ∧ y.s = y0.s := fun y hy => by
    rcases List.mem_or_eq_of_mem_set hy with hy | hy
    · exact ⟨y, hy, rfl, rfl, rfl⟩
    · exact ⟨e, hm, by rw [hy], by rw [hy], by rw [hy]⟩
  refine ⟨h.lone.row kg hnF, h.bk.move (fun j _ => ?_) (fun x hx => by simp at hx), fun y hy => ?_, fun y hy => ?_, fun y hy q hq => ?_, ?_, fun q hq => (hnF q hq).2⟩
  · rw [holds_set E k e ⟨e.v, e.l, e.s, 0⟩ j hk, holds_split E k e j hk]
  · obtain ⟨y0, h0, e1, e2, _⟩ := hmem y hy
    rw [e1, e2]
    exact h.vec y0 h0
  · obtain ⟨y0, h0, _, e2, e3⟩ := hmem y hy
    rw [e2, e3]
    exact kg.rd (h.row y0 h0) (fun q hq e => (h.far y0 h0 q hq).2.2 e.symm)
  · obtain ⟨y0, h0, _, _, e3⟩ := hmem y hy
    rw [e3] at hq
    obtain ⟨a1, a2, a3⟩ := h.far y0 h0 q hq
    exact ⟨a1, Nat.lt_of_lt_of_le a2 kg.size, a3⟩
  · rw [List.length_set]
    have h1 := own_set1 h.all (j := k * 5 + 4) (by omega) (.int .u32 0)
    have key : (E.set k ⟨e.v, e.l, e.s, 0⟩).flatMap cells5 = (E.flatMap cells5).set (k * 5 + 4) (.int .u32 0) := by
      rw [flat5_set E k ⟨e.v, e.l, e.s, 0⟩ hkl]
      have same : ∀ i u, i < 5 → (cells5 e)[i]? = some u → (E.flatMap cells5).set (k * 5 + i) u = E.flatMap cells5 := fun i u hi hu => by
        have h2 := flat5_at hk i hi
        rw [hu] at h2
        obtain ⟨hlt, h3⟩ := List.getElem?_eq_some_iff.1 h2
        rw [← h3, List.set_getElem_self]
      rw [show (E.flatMap cells5).set (k * 5) (.int .i64 (e.v.n : Int)) = _ from same 0 _ (by decide) rfl, same 1 _ (by decide) rfl, same 2 _ (by decide) rfl, same 3 _ (by decide) rfl]
    rw [key]
    exact h1
end

end Go.Proofs.Ytgkhbnkbhcginaa
