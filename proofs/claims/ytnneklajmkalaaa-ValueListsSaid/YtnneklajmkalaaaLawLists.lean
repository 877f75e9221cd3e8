/- For any two lists of values: Lists tells their order as the document does, and 0 for a list and itself; All tells whether all of them may be (ValueLists returns true; the arguments read as they did). No condition. -/
import Derived.Test.YtnneklajmkalaaaRows
import Derived.Test.YtnneklajmkalaaaLists01
import Derived.OpenShut
import Derived.ShutString
import Derived.Lib.SmallJoins
import Derived.SizedLaws
namespace Go.Proofs.Ytnneklajmkalaaa.valueLists
open Go.ChangeShapes Go.WideShapes Go.ChangeAt Go.RowKit Go.Joins Go.Deep

theorem own : ownKnob Try.prog.godebug = none := by kernel_rfl
theorem cells : Try.prog.cellsOf 24 = 3 := by kernel_rfl
theorem bytes : Try.prog.bytesOf 24 = 32 := by kernel_rfl
theorem laidOut : laidOutB Try.prog = true := by kernel_rfl
theorem info : (Try.prog.info? 29).map (fun i => (i.zero, i.size, i.bytes)) = some (some (.agg #[.int .u8 0, .int .i64 0, .string ⟨#[]⟩]), 3, 32) := by kernel_rfl

theorem cellsK : Try.prog.cellsOf 22 = 1 := by kernel_rfl
theorem cellsN : Try.prog.cellsOf 2 = 1 := by kernel_rfl
theorem cellsS : Try.prog.cellsOf 9 = 1 := by kernel_rfl

section
variable {H : Type} {enc : TypeId × Value → H} {W : World} {base : Nat} {sp : Nat → Bool} {held : Bool}
theorem elem3 {cs : List Value} {n : Nat} {x : DataW H × List MemPlace} (h : DataW.trod enc Try.prog W base sp held n 24 cs = some x) :
    ∃ (k m : Int) (s : ByteArray), cs = [.int .u8 k, .int .i64 m, .string s] ∧ (Lit.int .u8 k).wf = true ∧ s.size ≤ maxLen := by
  obtain ⟨xs, n', _, hx, hlen, hxl, hf⟩ := DataW.trod_struct Try.underlying24 h
  rw [cells] at hlen
  match cs, hlen with
  | [c0, c1, c2], _ =>
    have hxl' : xs.length = 3 := hxl
    match xs, hxl' with
    | [y0, y1, y2], _ =>
      have f0 : DataW.trod enc Try.prog W base sp held n' 22 [c0] = some y0 := by simpa [cellsK] using hf 0 _ rfl
      have f1 : DataW.trod enc Try.prog W base sp held n' 2 [c1] = some y1 := by simpa [cellsN] using hf 1 _ rfl
      have f2 : DataW.trod enc Try.prog W base sp held n' 9 [c2] = some y2 := by simpa [cellsS] using hf 2 _ rfl
      obtain ⟨k, e0, _, wk⟩ := DataW.trod_int Try.underlying22 f0
      obtain ⟨m, e1, _, _⟩ := DataW.trod_int Try.underlying2 f1
      obtain ⟨s, e2, _, ws⟩ := DataW.trod_string Try.underlying9 f2
      simp at e0 e1 e2
      subst e0 e1 e2
      exact ⟨k, m, s, rfl, wk, ws⟩

/-- A slice of values, opened: the list that it holds. -/
theorem open_values {v : Value} {d : DataW H} {p : List MemPlace} {r : Reach} {b0 : Nat} (hv : Value.okWide Try.prog W r b0 33 v) (h : DataW.Trod enc Try.prog W 0 (fun _ => true) true 33 v d p) :
    ∃ (A : Option Addr) (l : List V3) (c : Nat), v = .slice A l.length c ∧ Lst W A l ∧ (∀ x ∈ l, 0 ≤ x.1) ∧ (∀ x ∈ l, x.2.2.size ≤ 9223372036854775807) ∧ (l = [] ∨ ∃ es ss, d = .slice es ss ∧ es.length = l.length) := by
  obtain ⟨a, len, cap, rfl⟩ := okWide_slice Try.underlying33 hv
  obtain ⟨fuel, hf⟩ := h
  rcases open_slice Try.underlying33 hf with ⟨hcs, _⟩ | ⟨a', len', cap', m, n, D, Pl, hcs, _, hl, hm, hmm, hx, hi⟩
  · simp [Value.cells] at hcs
    obtain ⟨rfl, rfl, rfl⟩ := hcs
    exact ⟨none, [], 0, rfl, .inl rfl, by simp, by simp, .inl rfl⟩
  · simp [Value.cells] at hcs
    obtain ⟨rfl, rfl, rfl⟩ := hcs
    simp only [if_true] at hmm
    subst hmm
    have hel : ∀ i, ∃ x : V3, i < len → (0 ≤ x.1 ∧ x.2.2.size ≤ 9223372036854775807 ∧ W.cell? (a'.add (i * 3)) = some (.int .u8 x.1) ∧ W.cell? ((a'.add (i * 3)).add 1) = some (.int .i64 x.2.1) ∧ W.cell? ((a'.add (i * 3)).add 2) = some (.string x.2.2)) := fun i => by
      by_cases hlt : i < len
      · obtain ⟨cs', hc, ht⟩ := hi i (by omega)
        rw [cells] at hc
        obtain ⟨_, _, hat⟩ := World.cells?_some hc
        obtain ⟨k, q, s, rfl, wk, ws⟩ := elem3 ht
        refine ⟨(k, q, s), fun _ => ⟨(bounds_u8 wk).1, by unfold maxLen at ws; simpa using ws, ?_, ?_, ?_⟩⟩
        · simpa [Addr.add] using hat 0 (by omega)
        · simpa using hat 1 (by omega)
        · simpa using hat 2 (by omega)
      · exact ⟨(0, 0, ⟨#[]⟩), fun h => absurd h hlt⟩
    obtain ⟨f, hf'⟩ := Classical.axiomOfChoice hel
    refine ⟨some a', (List.range len).map f, m, by simp, ?_, ?_, ?_, .inr ⟨_, _, by rw [Prod.mk.injEq] at hx; exact hx.1, by simp⟩⟩
    · by_cases h0 : len = 0
      · subst h0; exact .inl rfl
      · right
        obtain ⟨b, o, spot⟩ := a'
        obtain rfl : spot = none := by simpa [Addr.add] using World.cell?_spot (hf' 0 (by omega)).2.2.1
        refine ⟨b, o, rfl, World.block_lt_of_cell? W ⟨b, o, none⟩ (by simpa [Addr.add] using (hf' 0 (by omega)).2.2.1), fun i x hx => ?_⟩
        simp only [List.getElem?_map, Option.map_eq_some_iff] at hx
        obtain ⟨i', hi', rfl⟩ := hx
        obtain ⟨hlt, rfl⟩ := List.getElem?_eq_some_iff.1 hi'
        simp only [List.length_range] at hlt
        simp only [List.getElem_range]
        obtain ⟨_, _, c0, c1, c2⟩ := hf' i hlt
        rw [add_plain] at c0 c1 c2
        rw [add_plain] at c1 c2
        exact ⟨c0, c1, c2⟩
    · intro x hx
      obtain ⟨i, hi', rfl⟩ := List.mem_map.1 hx
      exact (hf' i (List.mem_range.1 hi')).1
    · intro x hx
      obtain ⟨i, hi', rfl⟩ := List.mem_map.1 hx
      exact (hf' i (List.mem_range.1 hi')).2.1
end

/-- A value's three cells. -/
def cells3 (x : V3) : List Value := [.int .u8 x.1, .int .i64 x.2.1, .string x.2.2]
theorem flat_len : ∀ l : List V3, (l.flatMap cells3).length = l.length * 3
  | [] => rfl
  | x :: l => by rw [List.flatMap_cons, List.length_append, flat_len l, List.length_cons]; simp [cells3]; omega
theorem flat_get : ∀ (l : List V3) (i : Nat) (x : V3), l[i]? = some x → ∀ t, t < 3 → (l.flatMap cells3)[i * 3 + t]? = (cells3 x)[t]?
  | [], i, x, h, _, _ => by simp at h
  | y :: l, 0, x, h, t, ht => by
    simp at h
    subst h
    rw [List.flatMap_cons, List.getElem?_append_left (by simpa [cells3] using ht), Nat.zero_mul, Nat.zero_add]
  | y :: l, i + 1, x, h, t, ht => by
    have h' : l[i]? = some x := by simpa using h
    rw [List.flatMap_cons, List.getElem?_append_right (by simp [cells3]; omega), ← flat_get l i x h' t ht]
    congr 1
    simp [cells3]; omega
theorem lst_of_own {w : World} {base : Nat} {v : Value} {l : List V3} (h : w.ownsRow base 29 3 v l.length (l.flatMap cells3)) : ∃ A c, v = .slice A l.length c ∧ Lst w A l := by
  rcases h.2 with ⟨rfl, hn⟩ | ⟨g, cap, cur, rfl, _, hg, _⟩
  · rw [hn]; exact ⟨none, 0, rfl, .inl (List.eq_nil_of_length_eq_zero hn)⟩
  · refine ⟨_, _, rfl, .inr ⟨g, 0, rfl, (Array.getElem?_eq_some_iff.1 hg).1, fun i x hx => ?_⟩⟩
    have hlt : i < l.length := (List.getElem?_eq_some_iff.1 hx).1
    have key : ∀ t, t < 3 → w.cell? ⟨g, i * 3 + t, none⟩ = (cells3 x)[t]? := fun t ht => by rw [h.cellAt (i * 3 + t) (by omega), flat_get l i x hx t ht]
    refine ⟨?_, ?_, ?_⟩
    · have := key 0 (by omega); simpa [cells3] using this
    · have := key 1 (by omega); simpa [cells3] using this
    · have := key 2 (by omega); simpa [cells3] using this
theorem Lst.below {w w' : World} {A : Option Addr} {l : List V3} (h : Lst w A l) (g : Below w.heap.size w w') : Lst w' A l := by
  rcases h with h | ⟨b, o, hA, hb, hc⟩
  · exact .inl h
  · refine .inr ⟨b, o, hA, Nat.lt_of_lt_of_le hb g.size, fun i x hx => ?_⟩
    obtain ⟨c0, c1, c2⟩ := hc i x hx
    exact ⟨(g.cell (p := ⟨b, _, none⟩) hb).trans c0, (g.cell (p := ⟨b, _, none⟩) hb).trans c1, (g.cell (p := ⟨b, _, none⟩) hb).trans c2⟩
theorem own_gw {w w' : World} {base n : Nat} {v : Value} {xs : List Value} (h : w.ownsRow base 29 3 v n xs) (g : Gw w w') : w'.ownsRow base 29 3 v n xs :=
  h.kept (row := none) ⟨g.below.os, g.below.tape, g.below.output, g.below.size, fun k hk _ => g.below.block k hk⟩ (by cases v.ownBlock <;> simp)
theorem news_at (w : World) (x : V3) : ∀ j u, (cells3 x)[j]? = some u → (w.alloc (.cells #[.int .u8 x.1, .int .i64 x.2.1, .string x.2.2] 29)).cell? ((⟨w.heap.size, 0, none⟩ : Addr).add j) = some u := by
  intro j u hu
  match j, hu with
  | 0, hu => simp [cells3] at hu; subst hu; simp [Addr.add, go_sem]
  | 1, hu => simp [cells3] at hu; subst hu; simp [Addr.add, go_sem]
  | 2, hu => simp [cells3] at hu; subst hu; simp [Addr.add, go_sem]
theorem news_one (x : V3) : ∀ u ∈ cells3 x, u.oneCell' = true := by
  intro u hu
  simp [cells3] at hu
  rcases hu with rfl | rfl | rfl <;> rfl

theorem step_below {w wr w2 w3 : World} {x : Value} {j : Nat} {xs : List Value} {cs : Array Value} {t : TypeId} {o : Obj} (hb : Below w.heap.size w wr) (g2 : Gw (wr.alloc (.cells cs t)) w2) (hown : wr.ownsRow w.heap.size 29 3 x j xs)
    (hgrow : (w2.alloc o).grownBy w3 x.ownBlock) : Below w.heap.size w w3 := by
  have h2 : Below w.heap.size w w2 := hb.trans ((((Gw.refl wr).alloc cs t).trans g2).below.mono hb.size)
  have h3 := h2.alloc h2.size o
  exact h3.grown hgrow h3.size (fun k e => (hown.lt k e).1)
theorem step_box {wr w2 w3 : World} {base : Nat} {x : Value} {j : Nat} {xs : List Value} {a0 a1 a2 : Value} {t : TypeId} {o : Obj} (g2 : Gw (wr.alloc (.cells #[a0, a1, a2] t)) w2) (hown : wr.ownsRow base 29 3 x j xs)
    (hgrow : (w2.alloc o).grownBy w3 x.ownBlock) : w3.cell? ⟨wr.heap.size, 0, none⟩ = some a0 ∧ w3.cell? ⟨wr.heap.size, 1, none⟩ = some a1 ∧ w3.cell? ⟨wr.heap.size, 2, none⟩ = some a2 := by
  have hne : some wr.heap.size ≠ x.ownBlock := fun e => by have := (hown.lt _ e.symm).2; omega
  have hlt : wr.heap.size < w2.heap.size := by have := g2.size; simp at this; omega
  have key : ∀ o' u, (wr.alloc (.cells #[a0, a1, a2] t)).cell? ⟨wr.heap.size, o', none⟩ = some u → w3.cell? ⟨wr.heap.size, o', none⟩ = some u := fun o' u h => by
    refine hgrow.cell ?_ hne
    rw [World.cell?_alloc_lt w2 o _ hlt, g2.cell (by simp)]
    exact h
  exact ⟨key 0 _ (by simp [go_sem]), key 1 _ (by simp [go_sem]), key 2 _ (by simp [go_sem])⟩
theorem take_flat {l : List V3} {j : Nat} {x : V3} (h : l[j]? = some x) : (l.take j).flatMap cells3 ++ cells3 x = (l.take (j + 1)).flatMap cells3 := by
  rw [List.take_add_one, h]; simp
theorem take_all {l : List V3} {f : V3 → Bool} {j : Nat} {x : V3} (h : l[j]? = some x) : ((l.take j).all f && f x) = (l.take (j + 1)).all f := by
  rw [List.take_add_one, h]; simp

theorem walk_big (A A' : Option Addr) (l m : List V3) (c c' : Nat) (w : World) (hn : l.length ≤ 4398046511104) (hn' : m.length ≤ 4398046511104) (hbig : 100 < l.length + m.length) :
    Calls Try.prog 4 #[.slice A l.length c, .slice A' m.length c'] w fun e w' => e = .returned (.bool true) ∧ Below w.heap.size w w' := by
  go_enter Try.func4, Try.ntmps4
  go_wp2_with fail
  refine (lives _).mono ?_
  rintro e w1 ⟨rfl, g1⟩
  go_wp2_with fail
  refine (lives _).mono ?_
  rintro e w2 ⟨rfl, g2⟩
  go_wp2_with fail
  go_ret
  exact ⟨rfl, (g1.trans g2).below⟩

set_option maxHeartbeats 4000000 in
theorem walk_small (A A' : Option Addr) (l m : List V3) (c c' : Nat) (w : World) (hl : Lst w A l) (hm : Lst w A' m) (hk : ∀ x ∈ l, 0 ≤ x.1) (hs : ∀ x ∈ l, x.2.2.size ≤ 9223372036854775807) (hs' : ∀ x ∈ m, x.2.2.size ≤ 9223372036854775807)
    (hle : l.length + m.length ≤ 100) :
    Calls Try.prog 4 #[.slice A l.length c, .slice A' m.length c'] w fun e w' => e = .returned (.bool true) ∧ Below w.heap.size w w' := by
  obtain ⟨i0, hi, hz0, hz1, hz2⟩ := info_parts info
  go_enter Try.func4, Try.ntmps4
  go_wp2_with fail
  refine (lives _).mono ?_
  rintro e w1 ⟨rfl, g1⟩
  go_wp2_with fail
  go_loopw [5, 7, 25] (fun x al i wr => ∃ j : Nat, j ≤ l.length ∧ i = .int .i64 j ∧ al = .bool ((l.take j).all fun x => rightB x.1 x.2.1 x.2.2) ∧ wr.ownsRow w1.heap.size 29 3 x j ((l.take j).flatMap cells3) ∧ Below w1.heap.size w1 wr) (fun _ _ i _ => l.length - (intOf i).toNat)
  case atStart => exact ⟨0, Nat.zero_le _, rfl, rfl, World.ownsRow_nil _ _ _ _, Below.refl _ _⟩
  case round =>
    obtain ⟨j, hj, rfl, rfl, hown, hb⟩ := hrel
    by_cases h1 : j < l.length
    · obtain ⟨⟨k, n, s⟩, hx⟩ : ∃ x, l[j]? = some x := ⟨_, List.getElem?_eq_getElem h1⟩
      obtain ⟨b, o, rfl, _, c0, c1, c2⟩ := (Lst.below (hl.grow g1) hb).at hx
      have HX := Lib.hid hx
      clear hx
      go_wp2_with fail
      refine (of_ _ _ _ _).mono ?_
      rintro e w2 ⟨rfl, g2⟩
      have hown2 := own_gw hown (((Gw.refl _).alloc _ _).trans g2)
      go_wp2_with ((at_builtin; refine wpList_append_own _ rfl _ _ 34 rfl w1.heap.size 29 i0 (.agg #[.int .u8 0, .int .i64 0, .string ⟨#[]⟩]) 3 32 Try.underlying34 hi hz0 hz1 hz2 rfl (by decide) _ _ _ rfl (hown2.alloc _) ⟨w2.heap.size, 0, none⟩ 1 1 (cells3 (k, n, s)) rfl rfl ?c1 ?c2 ?c3 ?c4 ?c5 ?_))
      case c1 => exact news_at w2 (k, n, s)
      case c2 => exact news_one (k, n, s)
      case c3 => unfold maxLen; omega
      case c4 => omega
      case c5 => have := hb.size; have := g2.size; simp at *; omega
      intro x' w3 hown' hgrow _
      have hb3 := step_below hb g2 hown hgrow
      obtain ⟨d0, d1, d2⟩ := step_box g2 hown hgrow
      rw [take_flat HX.out] at hown'
      clear hgrow hown2 c0 c1 c2
      cases hal : (l.take j).all fun x => rightB x.1 x.2.1 x.2.2
      · go_wp2_with fail
        go_roundw
        case rel => exact ⟨j + 1, by omega, by go_num, by rw [← take_all HX.out, hal]; rfl, hown', hb3⟩
        case measure => simp [intOf]; omega
      · go_wp2_with fail
        refine (of_ _ _ _ _).mono ?_
        rintro e w4 ⟨rfl, g4⟩
        go_wp2_with fail
        refine (ref_right _ _ _ _).mono ?_
        rintro e w5 ⟨rfl, g5⟩
        go_wp2_with fail
        go_roundw
        case rel => exact ⟨j + 1, by omega, by go_num, by rw [← take_all HX.out, hal]; simp, own_gw hown' (g4.trans g5), hb3.trans ((g4.trans g5).below.mono hb3.size)⟩
        case measure => simp [intOf]; omega
    · obtain rfl : j = l.length := by omega
      rw [List.take_length] at hown
      obtain ⟨wo, rfl⟩ : ∃ wo : World, wo = wr := ⟨_, rfl⟩
      obtain ⟨Ax, cx, rfl, hlx⟩ := lst_of_own hown
      clear hown
      have hal : ((l.take l.length).all fun x => rightB x.1 x.2.1 x.2.2) = l.all fun x => rightB x.1 x.2.1 x.2.2 := by rw [List.take_length]
      rw [hal]
      clear hal
      go_wp2_with fail
      go_loopw [6, 43] (fun y i wr => ∃ j : Nat, j ≤ m.length ∧ i = .int .i64 j ∧ wr.ownsRow wo.heap.size 29 3 y j ((m.take j).flatMap cells3) ∧ Below wo.heap.size wo wr) (fun _ i _ => m.length - (intOf i).toNat)
      case atStart => exact ⟨0, Nat.zero_le _, rfl, World.ownsRow_nil _ _ _ _, Below.refl _ _⟩
      case round =>
        obtain ⟨j, hj, rfl, hown, hb2⟩ := hrel
        by_cases h2 : j < m.length
        · obtain ⟨⟨k, n, s⟩, hx⟩ : ∃ x, m[j]? = some x := ⟨_, List.getElem?_eq_getElem h2⟩
          obtain ⟨b, o, rfl, _, c0, c1, c2⟩ := (Lst.below (Lst.below (hm.grow g1) hb) hb2).at hx
          have HX := Lib.hid hx
          clear hx
          go_wp2_with fail
          refine (of_ _ _ _ _).mono ?_
          rintro e w2 ⟨rfl, g2⟩
          have hown2 := own_gw hown (((Gw.refl _).alloc _ _).trans g2)
          go_wp2_with ((at_builtin; refine wpList_append_own _ rfl _ _ 34 rfl wo.heap.size 29 i0 (.agg #[.int .u8 0, .int .i64 0, .string ⟨#[]⟩]) 3 32 Try.underlying34 hi hz0 hz1 hz2 rfl (by decide) _ _ _ rfl (hown2.alloc _) ⟨w2.heap.size, 0, none⟩ 1 1 (cells3 (k, n, s)) rfl rfl ?d1 ?d2 ?d3 ?d4 ?d5 ?_))
          case d1 => exact news_at w2 (k, n, s)
          case d2 => exact news_one (k, n, s)
          case d3 => unfold maxLen; omega
          case d4 => omega
          case d5 => have := hb2.size; have := g2.size; simp at *; omega
          intro x' w3 hown' hgrow _
          have hb3 := step_below hb2 g2 hown hgrow
          rw [take_flat HX.out] at hown'
          clear hgrow hown2 c0 c1 c2
          go_wp2_with fail
          go_roundw
          case rel => exact ⟨j + 1, by omega, by go_num, hown', hb3⟩
          case measure => simp [intOf]; omega
        · obtain rfl : j = m.length := by omega
          rw [List.take_length] at hown
          obtain ⟨Ay, cy, rfl, hly⟩ := lst_of_own hown
          clear hown
          have HL := Lst.below (Lst.below (hl.grow g1) hb) hb2
          have HM := Lst.below (Lst.below (hm.grow g1) hb) hb2
          have HX := Lst.below hlx hb2
          go_wp2_with fail
          refine (lists _ _ _ _ _ _ _ HL HM (by omega) (by omega)).mono ?_
          rintro e w4 ⟨rfl, g4⟩
          go_wp2_with fail
          refine (ref_lists _ _ _ _ _ _ _ (HX.grow g4) (hly.grow g4) (by omega) hs hs').mono ?_
          rintro e w5 ⟨rfl, g5⟩
          go_wp2_with fail
          refine (all _ _ _ _ (HL.grow (g4.trans g5)) (by omega) hk).mono ?_
          rintro e w6 ⟨rfl, g6⟩
          go_wp2_with fail
          have G6 := g4.trans (g5.trans g6)
          refine (lists _ _ _ _ _ _ _ (HL.grow G6) (HL.grow G6) (by omega) (by omega)).mono ?_
          rintro e w7 ⟨rfl, g7⟩
          have hself := lvcmp_self l
          go_wp2_with fail
          go_ret
          exact ⟨rfl, g1.below.trans ((hb.trans ((hb2.trans ((G6.trans g7).below.mono hb2.size)).mono hb.size)).mono g1.size)⟩

theorem walk (A A' : Option Addr) (l m : List V3) (c c' : Nat) (w : World) (hl : Lst w A l) (hm : Lst w A' m) (hk : ∀ x ∈ l, 0 ≤ x.1) (hs : ∀ x ∈ l, x.2.2.size ≤ 9223372036854775807) (hs' : ∀ x ∈ m, x.2.2.size ≤ 9223372036854775807)
    (hn : l.length ≤ 4398046511104) (hn' : m.length ≤ 4398046511104) :
    Calls Try.prog 4 #[.slice A l.length c, .slice A' m.length c'] w fun e w' => e = .returned (.bool true) ∧ Below w.heap.size w w' := by
  by_cases h : l.length + m.length ≤ 100
  · exact walk_small A A' l m c c' w hl hm hk hs hs' h
  · exact walk_big A A' l m c c' w hn hn' (by omega)

set_option maxRecDepth 100000 in
theorem lifted (os : Os) (started : os.Started) (H : Type) (enc : TypeId × Value → H) :
    ReturnsInHanded {} Try.checked os 4 .any (Rows.valueListsSpec.pre6 enc Try.prog Try.f4 Rows.valueListsRow.domain false) (Rows.valueListsSpec.post enc Try.prog Try.f4 false true false false) := by
  refine returnsInHanded_of_change_sized (C := Try.checked) own started (by kernel_rfl) Try.func4
    (ChangeSpec.witness6 (enc := enc) (C := Try.checked) false ⟨#[], #[.slice none 0 0, .slice none 0 0], []⟩ 8 (by kernel_rfl) (by kernel_rfl) (by kernel_rfl) (by kernel_rfl)) ?_
  intro W base args ds gs before hval0 hW _ hsz0 _
  have hval : ∀ (j : Nat) t v, Try.f4.params[j]? = some t → args[j]? = some v → Value.okWide Try.prog W .any base t v := hval0
  have hsz : (DataW.weightsEach Try.prog (Try.f4.params.toList ++ Rows.valueListsSpec.plain.varTypes Try.prog) (ds ++ gs)).all (· ≤ reachBytes) = true := hsz0
  have hW' := hW
  obtain ⟨p, q, hA0, hV, rfl, _, _⟩ := hW
  have hA : DataW.TrodAll enc Try.prog W 0 (fun _ => true) true Try.f4.params.toList args.toList ds p := hA0
  rw [Try.params4] at hA hval hsz
  obtain ⟨v0, vs0, d0, ds0, p0, q0, hargs, rfl, rfl, h0, r0⟩ := trodAll_cons hA
  obtain ⟨v1, vs1, d1, ds1, p1, q1, rfl, rfl, rfl, h1, r1⟩ := trodAll_cons r0
  obtain ⟨rfl, rfl, rfl⟩ := trodAll_nil r1
  obtain rfl : args = #[v0, v1] := by cases args; simp_all
  obtain ⟨rfl, rfl⟩ := trodVars_none hV
  simp only [List.append_nil] at hW'
  obtain ⟨A, l, c, rfl, hl, hk, hs, hd⟩ := open_values (hval 0 33 v0 rfl rfl) h0
  obtain ⟨A', m, c', rfl, hm, _, hs', hd'⟩ := open_values (hval 1 33 v1 rfl rfl) h1
  have hn : l.length ≤ 4398046511104 := by
    rcases hd with rfl | ⟨es, ss, rfl, he⟩
    · simp
    · have := sized_slice hsz (j := 0) (t := 33) (e := 24) rfl rfl Try.underlying33
      rw [bytes] at this
      unfold reachBytes at this
      omega
  have hn' : m.length ≤ 4398046511104 := by
    rcases hd' with rfl | ⟨es, ss, rfl, he⟩
    · simp
    · have := sized_slice hsz (j := 1) (t := 33) (e := 24) rfl rfl Try.underlying33
      rw [bytes] at this
      unfold reachBytes at this
      omega
  clear hA0 hval0
  refine (walk A A' l m c c' W hl hm hk hs hs' hn hn').mono fun e W' ⟨he, hg⟩ => ?_
  subst he
  have hlt : ∀ x ∈ p0 ++ p1, x.block < W.heap.size := fun x hx => by simpa using hW'.lt x (by simpa using hx)
  refine ⟨_, rfl, _, _, _, [], p0 ++ p1, [], hW', ?_, ?_, ?_, hg.frame _, fun h => by cases h⟩
  · exact trodAll_cons_mk (shut_bool Try.underlying4 _) trodAll_mk0
  · exact trodAll_mk2 (Below.trod laidOut (by kernel_rfl) (of_decide_eq_true (by kernel_rfl)) h0 hg (fun x hx => hlt x (List.mem_append_left _ hx))) (Below.trod laidOut (by kernel_rfl) (of_decide_eq_true (by kernel_rfl)) h1 hg (fun x hx => hlt x (List.mem_append_right _ hx)))
  · rfl

theorem over : Rows.valueListsRow.holds Try.pinned (OpenSpec.ofChange Rows.valueListsSpec) :=
  OpenClaim.holds_of_wide 4 Try.f4 rfl rfl rfl rfl rfl rfl rfl ⟨rfl, rfl, rfl, rfl, rfl⟩ rfl rfl rfl rfl rfl (by kernel_rfl) Try.func4 (by kernel_rfl)
    (of_decide_eq_true (by kernel_rfl)) (by unfold Func.isWrapper; first | (rw [if_pos (by decide +kernel)]; kernel_rfl) | (rw [if_neg (by decide +kernel)]; exact ⟨rfl, rfl⟩))
    (fun os started H enc _ => lifted os started H enc)

theorem proved : Rows.ValueListsSaid :=
  over
#print axioms proved
end Go.Proofs.Ytnneklajmkalaaa.valueLists
