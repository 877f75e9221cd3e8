/- Layer 6's law: the vectors of the law, what holds between its calls. -/
import Derived.Test.YtgkhbnkbhcginaaSame06
import Derived.Test.YtgkhbnkbhcginaaLives06
namespace Go.Proofs.Ytgkhbnkbhcginaa
open Go.RowKit

/-- One's five cells. -/
def cells5 (e : En) : List Value := [.int .i64 (e.v.n : Int), .int .i64 (e.v.root : Int), .int .i64 (e.v.tail : Int), e.s, .int .u32 e.ow]
theorem flat5_length : ∀ (E : List En), (E.flatMap cells5).length = E.length * 5
  | [] => rfl
  | e :: E => by
    rw [List.flatMap_cons, List.length_append, flat5_length E]
    simp only [cells5, List.length_cons, List.length_nil]
    omega
theorem flat5_at {E : List En} {k : Nat} {e : En} (h : E[k]? = some e) (i : Nat) (hi : i < 5) : (E.flatMap cells5)[k * 5 + i]? = (cells5 e)[i]? := by
  induction E generalizing k with
  | nil => simp at h
  | cons x E ih =>
    rw [List.flatMap_cons]
    cases k with
    | zero =>
      obtain rfl : x = e := by simpa using h
      rw [List.getElem?_append_left (by simp [cells5]; omega)]
      congr 1; omega
    | succ k =>
      rw [List.getElem?_append_right (by simp [cells5]; omega), ← ih (k := k) (by simpa using h)]
      congr 1
      simp [cells5]; omega
theorem flat5_set : ∀ (E : List En) (k : Nat) (e : En), k < E.length → (E.set k e).flatMap cells5 = (((((E.flatMap cells5).set (k * 5) (.int .i64 (e.v.n : Int))).set (k * 5 + 1) (.int .i64 (e.v.root : Int))).set (k * 5 + 2) (.int .i64 (e.v.tail : Int))).set (k * 5 + 3) e.s).set (k * 5 + 4) (.int .u32 e.ow)
  | [], _, _, h => by simp at h
  | x :: E, 0, e, _ => by simp [cells5]
  | x :: E, k + 1, e, h => by
    have ih := flat5_set E k e (by simpa using h)
    rw [List.set_cons_succ, List.flatMap_cons, ih, List.flatMap_cons]
    have h5 : (cells5 x).length = 5 := rfl
    have key : ∀ (l : List Value) (j : Nat) (u : Value), (cells5 x ++ l).set ((k + 1) * 5 + j) u = cells5 x ++ l.set (k * 5 + j) u := fun l j u => by
      rw [List.set_append_right _ _ (by rw [h5]; omega)]
      congr 2
      rw [h5]; omega
    have key0 : ∀ (l : List Value) (u : Value), (cells5 x ++ l).set ((k + 1) * 5) u = cells5 x ++ l.set (k * 5) u := fun l u => key l 0 u
    rw [key0, key, key, key, key]
/-- One cell of a row of one's own. -/
theorem own_set1 {w : World} {base t size g n cp j : Nat} {xs : List Value} (h : w.ownsRow base t size (.slice (some ⟨g, 0, none⟩) n cp) n xs) (_hj : j < n * size) (u : Value) : (w.setCell ⟨g, j, none⟩ u).ownsRow base t size (.slice (some ⟨g, 0, none⟩) n cp) n (xs.set j u) := by
  obtain ⟨h1, h2⟩ := h
  refine ⟨by rw [List.length_set]; exact h1, ?_⟩
  rcases h2 with ⟨e, _⟩ | ⟨g', cap, cur, e, hb, hg, hc, hm, hs, ht⟩
  · cases e
  · simp only [Value.slice.injEq, Option.some.injEq, Addr.mk.injEq, and_true, true_and] at e
    obtain ⟨rfl, rfl⟩ := e
    refine .inr ⟨g, cp, _, rfl, hb, heap_setCell_same w g j _ _ u hg, hc, hm, by rw [Array.size_setIfInBounds]; exact hs, ?_⟩
    rw [Array.toList_setIfInBounds, List.take_set, ht]
theorem own_set5 {w : World} {base t g n cp k : Nat} {E : List En} (e : En) (h : w.ownsRow base t 5 (.slice (some ⟨g, 0, none⟩) n cp) n (E.flatMap cells5)) (hn : E.length = n) (hk : k < E.length) :
    (((((w.setCell ⟨g, k * 5, none⟩ (.int .i64 (e.v.n : Int))).setCell ⟨g, k * 5 + 1, none⟩ (.int .i64 (e.v.root : Int))).setCell ⟨g, k * 5 + 2, none⟩ (.int .i64 (e.v.tail : Int))).setCell ⟨g, k * 5 + 3, none⟩ e.s).setCell ⟨g, k * 5 + 4, none⟩ (.int .u32 e.ow)).ownsRow base t 5 (.slice (some ⟨g, 0, none⟩) n cp) n ((E.set k e).flatMap cells5) := by
  rw [flat5_set E k e hk]
  exact own_set1 (own_set1 (own_set1 (own_set1 (own_set1 h (by omega) _) (by omega) _) (by omega) _) (by omega) _) (by omega) _

/-- The references that all hold. -/
def holds (E : List En) : List Nat := E.flatMap fun e => [e.v.root, e.v.tail]
theorem holds_length : ∀ (E : List En), (holds E).length = 2 * E.length
  | [] => rfl
  | e :: E => by
    show ([e.v.root, e.v.tail] ++ holds E).length = _
    rw [List.length_append, holds_length E]
    simp only [List.length_cons, List.length_nil]
    omega
theorem holds_split : ∀ (E : List En) (k : Nat) (e : En) (j : Nat), E[k]? = some e → (holds E).count j = (holds (E.eraseIdx k)).count j + [e.v.root, e.v.tail].count j
  | [], _, _, _, h => by simp at h
  | x :: E, 0, e, j, h => by
    obtain rfl : x = e := by simpa using h
    show ([x.v.root, x.v.tail] ++ holds E).count j = (holds E).count j + _
    rw [List.count_append]; omega
  | x :: E, k + 1, e, j, h => by
    have ih := holds_split E k e j (by simpa using h)
    show ([x.v.root, x.v.tail] ++ holds E).count j = ([x.v.root, x.v.tail] ++ holds (E.eraseIdx k)).count j + _
    rw [List.count_append, List.count_append, ih]; omega
theorem holds_set (E : List En) (k : Nat) (e e' : En) (j : Nat) (h : E[k]? = some e) : (holds (E.set k e')).count j = (holds (E.eraseIdx k)).count j + [e'.v.root, e'.v.tail].count j := by
  have hk := (List.getElem?_eq_some_iff.1 h).1
  have h1 := holds_split (E.set k e') k e' j (List.getElem?_set_self hk)
  rw [h1]
  congr 2
  rw [List.eraseIdx_set_eq]

/-- What holds between the calls: the arena, the vectors, their values' rows. -/
structure Wd (w0 W : World) (b : Nat) (M : Cells) (F : Nat → Prop) (sa : Value) (E : List En) : Prop where
  lone : Lone w0 W b 65536 M F
  bk : Bk (65536 + 1) M [] (fun _ => 0) (holds E)
  vec : ∀ e ∈ E, VecIs M e.v e.l
  row : ∀ e ∈ E, Rd W e.s e.l.length (e.l.flatMap cells3)
  far : ∀ e ∈ E, ∀ q, e.s.ownBlock = some q → ¬ F q ∧ q < W.heap.size ∧ some q ≠ sa.ownBlock
  all : W.ownsRow w0.heap.size 34 5 sa E.length (E.flatMap cells5)
  own : ∀ q, sa.ownBlock = some q → ¬ F q
section
variable {w0 W W' : World} {b : Nat} {M : Cells} {F : Nat → Prop} {sa : Value} {E : List En}
theorem Wd.below (h : Wd w0 W b M F sa E) (hb : Below W.heap.size W W') : Wd w0 W' b M F sa E :=
  ⟨h.lone.below hb, h.bk, h.vec, fun e he => (h.row e he).below hb, fun e he q hq => ⟨(h.far e he q hq).1, Nat.lt_of_lt_of_le (h.far e he q hq).2.1 hb.size, (h.far e he q hq).2.2⟩, (Kp.of_below hb (fun _ => False)).own h.all (fun _ _ h => h), h.own⟩
/-- The books of one of them. -/
theorem Wd.lend (h : Wd w0 W b M F sa E) {k : Nat} {e : En} (hk : E[k]? = some e) : Bk (65536 + 1) M [] (fun j => (holds (E.eraseIdx k)).count j) [e.v.root, e.v.tail] :=
  h.bk.move (fun j _ => by rw [holds_split E k e j hk]; omega) (fun x hx => by simp at hx)
theorem Wd.zero (h : Wd w0 W b M F sa E) : M 0 = none := h.lone.ar.zero
/-- Whoever stands elsewhere is held by others. -/
theorem holds_other {E : List En} {k j : Nat} {e : En} (hj : E[j]? = some e) (hjk : j ≠ k) : 1 ≤ (holds (E.eraseIdx k)).count e.v.root ∧ 1 ≤ (holds (E.eraseIdx k)).count e.v.tail := by
  have hm : e ∈ E.eraseIdx k := List.mem_eraseIdx_iff_getElem?.2 ⟨j, hjk, hj⟩
  have h1 : e.v.root ∈ holds (E.eraseIdx k) := List.mem_flatMap.2 ⟨e, hm, by simp⟩
  have h2 : e.v.tail ∈ holds (E.eraseIdx k) := List.mem_flatMap.2 ⟨e, hm, by simp⟩
  exact ⟨List.count_pos_iff.2 h1, List.count_pos_iff.2 h2⟩
theorem Wd.others (h : Wd w0 W b M F sa E) {M' : Cells} {k j : Nat} {e : En} (hk : Keeps (fun j => (holds (E.eraseIdx k)).count j) M M') (hj : E[j]? = some e) (hjk : j ≠ k) : VecIs M' e.v e.l := by
  obtain ⟨h1, h2⟩ := holds_other hj hjk
  exact (h.vec e (List.mem_of_getElem? hj)).pres h.zero (fun h0 => hk _ h0 h1) (fun h0 => hk _ h0 h2)
/-- One of them is another from now on. -/
theorem Wd.put {g cp k : Nat} {e e' : En} {M' : Cells} {F' : Nat → Prop} (h : Wd w0 W b M F (.slice (some ⟨g, 0, none⟩) E.length cp) E) (hk : E[k]? = some e) (hL : Lone w0 W' b 65536 M' F') (hF' : ∀ q, F' q → F q ∨ W.heap.size ≤ q) (hkp : Kp F W W')
    (hbk : Bk (65536 + 1) M' [] (fun j => (holds (E.eraseIdx k)).count j) [e'.v.root, e'.v.tail]) (hks : Keeps (fun j => (holds (E.eraseIdx k)).count j) M M') (hv : VecIs M' e'.v e'.l) (hr : Rd W' e'.s e'.l.length (e'.l.flatMap cells3)) (hf : ∀ q, e'.s.ownBlock = some q → ¬ F' q ∧ q < W'.heap.size ∧ q ≠ g) :
    Wd w0 (((((W'.setCell ⟨g, k * 5, none⟩ (.int .i64 (e'.v.n : Int))).setCell ⟨g, k * 5 + 1, none⟩ (.int .i64 (e'.v.root : Int))).setCell ⟨g, k * 5 + 2, none⟩ (.int .i64 (e'.v.tail : Int))).setCell ⟨g, k * 5 + 3, none⟩ e'.s).setCell ⟨g, k * 5 + 4, none⟩ (.int .u32 e'.ow)) b M' F' (.slice (some ⟨g, 0, none⟩) E.length cp) (E.set k e') := by
  have hkl := (List.getElem?_eq_some_iff.1 hk).1
  have hg := own_blk h.all g rfl
  have hgF : ¬ F' g := fun hf' => (hF' g hf').elim (h.own g rfl) (fun e => by omega)
  have k5 : Kp (fun q => q = g) W' (((((W'.setCell ⟨g, k * 5, none⟩ (.int .i64 (e'.v.n : Int))).setCell ⟨g, k * 5 + 1, none⟩ (.int .i64 (e'.v.root : Int))).setCell ⟨g, k * 5 + 2, none⟩ (.int .i64 (e'.v.tail : Int))).setCell ⟨g, k * 5 + 3, none⟩ e'.s).setCell ⟨g, k * 5 + 4, none⟩ (.int .u32 e'.ow)) :=
    (((((Kp.refl (fun q => q = g) W').setCell (.inl rfl) _).setCell (.inl rfl) _).setCell (.inl rfl) _).setCell (.inl rfl) _).setCell (.inl rfl) _
  have old : ∀ y ∈ E.set k e', y = e' ∨ ∃ j, j ≠ k ∧ E[j]? = some y := fun y hy => by
    obtain ⟨j, hj⟩ := List.getElem?_of_mem hy
    by_cases ej : k = j
    · subst ej
      rw [List.getElem?_set_self hkl] at hj
      exact .inl (Option.some.inj hj).symm
    · rw [List.getElem?_set_ne ej] at hj
      exact .inr ⟨j, fun e => ej e.symm, hj⟩
  refine ⟨((((hL.set hg.1 hgF _).set hg.1 hgF _).set hg.1 hgF _).set hg.1 hgF _).set hg.1 hgF _, hbk.move (fun j _ => by rw [holds_set E k e e' j hk]; omega) (fun x hx => by simp at hx), fun y hy => ?_, fun y hy => ?_, fun y hy q hq => ?_, ?_, fun q hq => by
    have e : g = q := Option.some.inj hq
    exact e ▸ hgF⟩
  · rcases old y hy with rfl | ⟨j, hjk, hj⟩
    · exact hv
    · exact h.others hks hj hjk
  · rcases old y hy with rfl | ⟨j, hjk, hj⟩
    · exact k5.rd hr (fun q hq => (hf q hq).2.2)
    · have hy' := List.mem_of_getElem? hj
      refine k5.rd (hkp.rd (h.row y hy') (fun q hq => (h.far y hy' q hq).1)) (fun q hq e => ?_)
      exact (h.far y hy' q hq).2.2 (by rw [e]; rfl)
  · rcases old y hy with rfl | ⟨j, hjk, hj⟩
    · exact ⟨(hf q hq).1, Nat.lt_of_lt_of_le (hf q hq).2.1 k5.size, fun e => (hf q hq).2.2 (Option.some.inj e)⟩
    · obtain ⟨a1, a2, a3⟩ := h.far y (List.mem_of_getElem? hj) q hq
      exact ⟨fun hf' => (hF' q hf').elim a1 (fun e => by omega), Nat.lt_of_lt_of_le a2 (Nat.le_trans hkp.size k5.size), a3⟩
  · rw [List.length_set]
    exact own_set5 e' (hkp.own h.all h.own) rfl hkl
end

end Go.Proofs.Ytgkhbnkbhcginaa
