/- Layer 4's law: the document's cell with other contents. -/
import Derived.Test.YtndbhcdiinpkkaaWorld04
namespace Go.Proofs.Ytndbhcdiinpkkaa
open Go.RowKit

section
variable {w w' : World} {B wb b rb nd most : Nat} {vC vn vm kv : Value} {D : Nat → Dc} {K : Nat → Value} {Nm mine : Nat → Nat}
theorem upd_upd {α : Type} (f : Nat → α) (i : Nat) (u v : α) : upd (upd f i u) i v = upd f i v := by
  funext j
  by_cases e : j = i
  · subst e; rw [upd_same, upd_same]
  · rw [upd_other _ _ e, upd_other _ _ e, upd_other _ _ e]
theorem Doc.edited (h : Doc w B rb nd most vC D K) {k : Nat} (hk : k < nd) (x y : Nat) (wo : Int) (hkv : w.ownsRow B 3 1 kv 2 (nums [(x : Int), (y : Int)])) : ∀ {g c : Nat}, vC = .slice (some ⟨g, 0, none⟩) nd c →
    Doc ((w.setCell ⟨g, k * 4, none⟩ kv).setCell ⟨g, k * 4 + 3, none⟩ (.int .u32 wo)) B rb nd most vC (upd D k { D k with x := x, y := y, word := wo }) (upd K k kv) ∧ Kp (fun b => vC.ownBlock = some b) w ((w.setCell ⟨g, k * 4, none⟩ kv).setCell ⟨g, k * 4 + 3, none⟩ (.int .u32 wo)) := by
  rintro g c rfl
  have hk1 : Kp (fun b => b = g) w ((w.setCell ⟨g, k * 4, none⟩ kv).setCell ⟨g, k * 4 + 3, none⟩ (.int .u32 wo)) := ((Kp.refl (fun b => b = g) w).setCell (.inl rfl) _).setCell (.inl rfl) _
  obtain ⟨cur, hg⟩ := own_type h.cr g rfl
  refine ⟨⟨h.rd.kp hk1 (ne_types h.rd hg (by decide)), ?_, h.n1, h.n2, fun j k1 k2 => ?_, ?_⟩, hk1.mono (fun b e _ => e ▸ rfl)⟩
  · have e1 := drow_kids (D := D) (K := K) hk kv x y
    have e2 := drow_word (D := upd D k { D k with x := x, y := y }) (K := upd K k kv) hk wo
    rw [upd_same, upd_upd] at e2
    rw [← e2, ← e1]
    exact ((h.cr.stored (k * 4) kv).1.stored (k * 4 + 3) _).1
  · by_cases e : j = k
    · subst e
      rw [upd_same, upd_same]
      exact hk1.own hkv (own_ne hkv hg (by decide))
    · rw [upd_other _ _ e, upd_other _ _ e]
      exact hk1.own (h.kr j k1 k2) (own_ne (h.kr j k1 k2) hg (by decide))
  · by_cases e : k = 0
    · subst e
      obtain ⟨A, c', e, _⟩ := (Rd.of_own hkv).form
      exact ⟨A, 2, c', by rw [upd_same]; exact e⟩
    · rw [upd_other _ _ (Ne.symm e)]; exact h.k0
/-- The document's cell k has these others and this word. -/
theorem MemD.edited (h : Mem w B wb b rb nd most vC vn vm D K Nm mine) {k : Nat} (hk : k < nd) (x y : Nat) (wo : Int) (h1 : Below w.heap.size w w') (hkv : w'.ownsRow w.heap.size 3 1 kv 2 (nums [(x : Int), (y : Int)])) (hB : B ≤ w.heap.size) : ∀ {g c : Nat}, vC = .slice (some ⟨g, 0, none⟩) nd c →
    Mem ((w'.setCell ⟨g, k * 4, none⟩ kv).setCell ⟨g, k * 4 + 3, none⟩ (.int .u32 wo)) B wb b rb nd most vC vn vm (upd D k { D k with x := x, y := y, word := wo }) (upd K k kv) Nm mine ∧
    Kp (Lw wb rb nd vC vn vm K) w ((w'.setCell ⟨g, k * 4, none⟩ kv).setCell ⟨g, k * 4 + 3, none⟩ (.int .u32 wo)) ∧ (∀ b, Lw wb rb nd vC vn vm (upd K k kv) b → Lw wb rb nd vC vn vm K b ∨ w.heap.size ≤ b) := by
  rintro g c e0
  have h' := h.below h1
  obtain ⟨d1, d2⟩ := h'.doc.edited hk x y wo (own_less hkv hB) e0
  have ne : ∀ {b t : Nat} {cur : Array Value} {z : Nat × Nat}, vC.ownBlock = some b → w'.heap[b]? = some (.cells cur t z) → t = 96 := fun {b t cur z} hg hh => by
    obtain ⟨cur', h''⟩ := own_type h'.doc.cr b hg
    rw [hh] at h''
    simp only [Option.some.injEq, Obj.cells.injEq] at h''
    exact h''.2.1
  have hn : ∀ j b, j < nd → 1 ≤ j → (upd K k kv j).ownBlock = some b → (K j).ownBlock = some b ∨ w.heap.size ≤ b := fun j b _ _ hb => by
    by_cases e : j = k
    · subst e; rw [upd_same] at hb; exact .inr (hkv.lt b hb).1
    · rw [upd_other _ _ e] at hb; exact .inl hb
  refine ⟨⟨h'.wd.kp d2 (fun e => absurd (ne e h'.wd) (by decide)), d1, d2.own h'.nr (fun b hb e => ?_), d2.own h'.mr (fun b hb e => ?_), h.nm, fun j k1 k2 b hb => ?_, h.bw, h.br⟩, (Kp.of_below h1 (Lw wb rb nd vC vn vm K)).trans d2 (fun b e => .inl (.inr (.inr (.inl e)))), fun b hb => ?_⟩
  · obtain ⟨cur, hc⟩ := own_type h'.nr b hb
    exact absurd (ne e hc) (by decide)
  · obtain ⟨cur, hc⟩ := own_type h'.mr b hb
    exact absurd (ne e hc) (by decide)
  · rcases hn j b k2 k1 hb with e | e
    · exact h.kn j k1 k2 b e
    · exact ⟨fun e' => by have := (h.nr.lt b e').2; omega, fun e' => by have := (h.mr.lt b e').2; omega⟩
  · rcases hb with e | e | e | e | e | ⟨j, k1, k2, e⟩
    · exact .inl (.inl e)
    · exact .inl (.inr (.inl e))
    · exact .inl (.inr (.inr (.inl e)))
    · exact .inl (.inr (.inr (.inr (.inl e))))
    · exact .inl (.inr (.inr (.inr (.inr (.inl e)))))
    · rcases hn j b k2 k1 e with e' | e'
      · exact .inl (.inr (.inr (.inr (.inr (.inr ⟨j, k1, k2, e'⟩)))))
      · exact .inr e'
end

end Go.Proofs.Ytndbhcdiinpkkaa
