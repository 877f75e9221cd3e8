/- Several texts in one. -/
import Derived.Test.YtacoingheieceaaGreatProg
import Derived.Test.YtacoingheieceaaGreatMA01
import Derived.OpenShut
import Derived.ShutString
import Derived.Lib.SmallJoins
import Derived.Lib.Hide
import Derived.SizedLaws
import Derived.Lib.AppendZerosOnto
import Derived.Lib.Overlaps
import Derived.Laws.Externs
import Derived.Shelf.Spec.SlicesInsert
/- Slices of values as lists; such a slice as an argument, opened. For every layer. -/
namespace Go.Proofs.YtacoingheieceaaGreat
open Go.ChangeShapes Go.WideShapes Go.ChangeAt Go.RowKit Go.Joins Go.Deep

/-- A value's parts: kind, number, bytes. -/
abbrev V3 := Int × Int × ByteArray

/-- The slice that begins at A holds these values. -/
def Lst (w : World) (A : Option Addr) (l : List V3) : Prop :=
  l = [] ∨ ∃ b o, A = some ⟨b, o, none⟩ ∧ b < w.heap.size ∧ ∀ i x, l[i]? = some x →
    w.cell? ⟨b, o + i * 3, none⟩ = some (.int .u8 x.1) ∧ w.cell? ⟨b, o + i * 3 + 1, none⟩ = some (.int .i64 x.2.1) ∧ w.cell? ⟨b, o + i * 3 + 2, none⟩ = some (.string x.2.2)

theorem Lst.grow {w w' : World} {A : Option Addr} {l : List V3} (h : Lst w A l) (g : Gw w w') : Lst w' A l := by
  rcases h with h | ⟨b, o, hA, hb, hc⟩
  · exact .inl h
  · refine .inr ⟨b, o, hA, Nat.lt_of_lt_of_le hb g.size, fun i x hx => ?_⟩
    obtain ⟨c0, c1, c2⟩ := hc i x hx
    exact ⟨(g.cell hb).trans c0, (g.cell hb).trans c1, (g.cell hb).trans c2⟩
theorem Lst.at {w : World} {A : Option Addr} {l : List V3} (h : Lst w A l) {i : Nat} {x : V3} (hi : l[i]? = some x) : ∃ b o, A = some ⟨b, o, none⟩ ∧ b < w.heap.size ∧
    w.cell? ⟨b, o + i * 3, none⟩ = some (.int .u8 x.1) ∧ w.cell? ⟨b, o + i * 3 + 1, none⟩ = some (.int .i64 x.2.1) ∧ w.cell? ⟨b, o + i * 3 + 2, none⟩ = some (.string x.2.2) := by
  rcases h with h | ⟨b, o, hA, hb, hc⟩
  · subst h; simp at hi
  · exact ⟨b, o, hA, hb, hc i x hi⟩

/-- The i-th value, in all worlds that grow out of this one. -/
theorem Lst.gr {w : World} {A : Option Addr} {l : List V3} (h : Lst w A l) {i : Nat} {x : V3} (hi : l[i]? = some x) : ∃ b o, A = some ⟨b, o, none⟩ ∧
    (∀ g : Gr w, g.at'.cell? ⟨b, o + i * 3, none⟩ = some (.int .u8 x.1)) ∧ (∀ g : Gr w, g.at'.cell? ⟨b, o + i * 3 + 1, none⟩ = some (.int .i64 x.2.1)) ∧ (∀ g : Gr w, g.at'.cell? ⟨b, o + i * 3 + 2, none⟩ = some (.string x.2.2)) := by
  obtain ⟨b, o, hA, hb, c0, c1, c2⟩ := h.at hi
  exact ⟨b, o, hA, Gr.cell c0 hb, Gr.cell c1 hb, Gr.cell c2 hb⟩

theorem Gr.again {w : World} {p : Addr} {v : Value} (h : ∀ g : Gr w, g.at'.cell? p = some v) (g : Gr w) : ∀ g' : Gr g.at', g'.at'.cell? p = some v := fun g' => h ⟨g'.at', g.grown.trans g'.grown⟩

theorem vcells : Tryz.prog.cellsOf 43 = 3 := by kernel_rfl
theorem vbytes : Tryz.prog.bytesOf 43 = 32 := by kernel_rfl

theorem cellsK : Tryz.prog.cellsOf 41 = 1 := by kernel_rfl
theorem cellsN : Tryz.prog.cellsOf 2 = 1 := by kernel_rfl
theorem cellsS : Tryz.prog.cellsOf 9 = 1 := by kernel_rfl

section
variable {H : Type} {enc : TypeId × Value → H} {W : World} {base : Nat} {sp : Nat → Bool} {held : Bool}
set_option maxRecDepth 20000 in
theorem elem3 {cs : List Value} {n : Nat} {x : DataW H × List MemPlace} (h : DataW.trod enc Tryz.prog W base sp held n 43 cs = some x) :
    ∃ (k m : Int) (s : ByteArray), cs = [.int .u8 k, .int .i64 m, .string s] ∧ (Lit.int .u8 k).wf = true ∧ s.size ≤ maxLen := by
  obtain ⟨xs, n', _, hx, hlen, hxl, hf⟩ := DataW.trod_struct Tryz.underlying43 h
  rw [vcells] at hlen
  match cs, hlen with
  | [c0, c1, c2], _ =>
    have hxl' : xs.length = 3 := hxl
    match xs, hxl' with
    | [y0, y1, y2], _ =>
      have f0 : DataW.trod enc Tryz.prog W base sp held n' 41 [c0] = some y0 := by simpa [cellsK] using hf 0 _ rfl
      have f1 : DataW.trod enc Tryz.prog W base sp held n' 2 [c1] = some y1 := by simpa [cellsN] using hf 1 _ rfl
      have f2 : DataW.trod enc Tryz.prog W base sp held n' 9 [c2] = some y2 := by simpa [cellsS] using hf 2 _ rfl
      obtain ⟨k, e0, _, wk⟩ := DataW.trod_int Tryz.underlying41 f0
      obtain ⟨m, e1, _, _⟩ := DataW.trod_int Tryz.underlying2 f1
      obtain ⟨s, e2, _, ws⟩ := DataW.trod_string Tryz.underlying9 f2
      simp at e0 e1 e2
      subst e0 e1 e2
      exact ⟨k, m, s, rfl, wk, ws⟩

set_option maxRecDepth 20000 in
/-- A slice of values, opened: the list that it holds. -/
theorem open_values {v : Value} {d : DataW H} {p : List MemPlace} {r : Reach} {b0 : Nat} (hv : Value.okWide Tryz.prog W r b0 66 v) (h : DataW.Trod enc Tryz.prog W 0 (fun _ => true) true 66 v d p) :
    ∃ (A : Option Addr) (l : List V3) (c : Nat), v = .slice A l.length c ∧ Lst W A l ∧ (∀ x ∈ l, 0 ≤ x.1 ∧ x.1 ≤ 255) ∧ (∀ x ∈ l, x.2.2.size ≤ 9223372036854775807) ∧ (l = [] ∨ ∃ es ss, d = .slice es ss ∧ es.length = l.length) := by
  obtain ⟨a, len, cap, rfl⟩ := okWide_slice Tryz.underlying66 hv
  obtain ⟨fuel, hf⟩ := h
  rcases open_slice Tryz.underlying66 hf with ⟨hcs, _⟩ | ⟨a', len', cap', m, n, D, Pl, hcs, _, hl, hm, hmm, hx, hi⟩
  · simp [Value.cells] at hcs
    obtain ⟨rfl, rfl, rfl⟩ := hcs
    exact ⟨none, [], 0, rfl, .inl rfl, by simp, by simp, .inl rfl⟩
  · simp [Value.cells] at hcs
    obtain ⟨rfl, rfl, rfl⟩ := hcs
    simp only [if_true] at hmm
    subst hmm
    have hel : ∀ i, ∃ x : V3, i < len → ((0 ≤ x.1 ∧ x.1 ≤ 255) ∧ x.2.2.size ≤ 9223372036854775807 ∧ W.cell? (a'.add (i * 3)) = some (.int .u8 x.1) ∧ W.cell? ((a'.add (i * 3)).add 1) = some (.int .i64 x.2.1) ∧ W.cell? ((a'.add (i * 3)).add 2) = some (.string x.2.2)) := fun i => by
      by_cases hlt : i < len
      · obtain ⟨cs', hc, ht⟩ := hi i (by omega)
        rw [vcells] at hc
        obtain ⟨_, _, hat⟩ := World.cells?_some hc
        obtain ⟨k, q, s, rfl, wk, ws⟩ := elem3 ht
        refine ⟨(k, q, s), fun _ => ⟨bounds_u8 wk, by unfold maxLen at ws; simpa using ws, ?_, ?_, ?_⟩⟩
        · simpa [Addr.add] using hat 0 (by omega)
        · simpa using hat 1 (by omega)
        · simpa using hat 2 (by omega)
      · exact ⟨(0, 0, ⟨#[]⟩), fun h => absurd h hlt⟩
    obtain ⟨f, hf'⟩ := Classical.axiomOfChoice hel
    refine ⟨some a', (List.range len).map f, m, by simp, ?_, ?_, ?_, .inr ⟨_, _, by rw [Prod.mk.injEq] at hx; exact hx.1, by simp⟩⟩
    · by_cases h0 : len = 0
      · subst h0; exact .inl rfl
      · right
        obtain ⟨b, o, spot⟩ := a'
        obtain rfl : spot = none := by simpa [Addr.add] using World.cell?_spot (hf' 0 (by omega)).2.2.1
        refine ⟨b, o, rfl, World.block_lt_of_cell? W ⟨b, o, none⟩ (by simpa [Addr.add] using (hf' 0 (by omega)).2.2.1), fun i x hx => ?_⟩
        simp only [List.getElem?_map, Option.map_eq_some_iff] at hx
        obtain ⟨i', hi', rfl⟩ := hx
        obtain ⟨hlt, rfl⟩ := List.getElem?_eq_some_iff.1 hi'
        simp only [List.length_range] at hlt
        simp only [List.getElem_range]
        obtain ⟨_, _, c0, c1, c2⟩ := hf' i hlt
        rw [add_plain] at c0 c1 c2
        rw [add_plain] at c1 c2
        exact ⟨c0, c1, c2⟩
    · intro x hx
      obtain ⟨i, hi', rfl⟩ := List.mem_map.1 hx
      exact (hf' i (List.mem_range.1 hi')).1
    · intro x hx
      obtain ⟨i, hi', rfl⟩ := List.mem_map.1 hx
      exact (hf' i (List.mem_range.1 hi')).2.1
end

/-- A value's three cells. -/
def cells3 (x : V3) : List Value := [.int .u8 x.1, .int .i64 x.2.1, .string x.2.2]
theorem flat_len : ∀ l : List V3, (l.flatMap cells3).length = l.length * 3
  | [] => rfl
  | x :: l => by rw [List.flatMap_cons, List.length_append, flat_len l, List.length_cons]; simp [cells3]; omega
theorem flat_get : ∀ (l : List V3) (i : Nat) (x : V3), l[i]? = some x → ∀ t, t < 3 → (l.flatMap cells3)[i * 3 + t]? = (cells3 x)[t]?
  | [], i, x, h, _, _ => by simp at h
  | y :: l, 0, x, h, t, ht => by
    simp at h
    subst h
    rw [List.flatMap_cons, List.getElem?_append_left (by simpa [cells3] using ht), Nat.zero_mul, Nat.zero_add]
  | y :: l, i + 1, x, h, t, ht => by
    have h' : l[i]? = some x := by simpa using h
    rw [List.flatMap_cons, List.getElem?_append_right (by simp [cells3]; omega), ← flat_get l i x h' t ht]
    congr 1
    simp [cells3]; omega
theorem Lst.below {w w' : World} {A : Option Addr} {l : List V3} (h : Lst w A l) (g : Below w.heap.size w w') : Lst w' A l := by
  rcases h with h | ⟨b, o, hA, hb, hc⟩
  · exact .inl h
  · refine .inr ⟨b, o, hA, Nat.lt_of_lt_of_le hb g.size, fun i x hx => ?_⟩
    obtain ⟨c0, c1, c2⟩ := hc i x hx
    exact ⟨(g.cell (p := ⟨b, _, none⟩) hb).trans c0, (g.cell (p := ⟨b, _, none⟩) hb).trans c1, (g.cell (p := ⟨b, _, none⟩) hb).trans c2⟩
theorem Lst.grown {w w' : World} {A : Option Addr} {l : List V3} {g : Nat} (h : Lst w A l) (hg : w.grownBy w' (some g)) (hA : ∀ a, A = some a → l ≠ [] → a.block ≠ g) : Lst w' A l := by
  by_cases hl : l = []
  · exact .inl hl
  rcases h with h | ⟨b, o, rfl, hb, hc⟩
  · exact .inl h
  · have hne : some b ≠ some g := fun e => hA _ rfl hl (by injection e)
    refine .inr ⟨b, o, rfl, Nat.lt_of_lt_of_le hb hg.size, fun i x hx => ?_⟩
    obtain ⟨c0, c1, c2⟩ := hc i x hx
    exact ⟨hg.cell c0 hne, hg.cell c1 hne, hg.cell c2 hne⟩


end Go.Proofs.YtacoingheieceaaGreat

/- slices.Insert into a row of one's own: numbers. In place where there is room, else a new row. -/
namespace Go.Proofs.YtacoingheieceaaGreat
open Go.RowKit

theorem ins_infoI : (Tryz.prog.info? 3).map (fun i => (i.zero, i.size, i.bytes)) = some (some (.int .i64 0), 1, 8) := by kernel_rfl
theorem ins_sizeI : ∀ w, (Go.sizeOf 3).run Tryz.prog w = .ok 1 w := fun w => by kernel_rfl
theorem ins_zerosI : ((.int .i64 0) : Value).cells.size = 1 := by kernel_rfl
set_option maxRecDepth 100000 in
/-- At the end. -/
theorem vinsert_endI (v y : Value) (base n m : Nat) (xs ys : List Value) (w : World) (h : w.ownsRow base 3 1 v n xs) (hm : 0 < m) (hn : n + m ≤ 100000) (hy : Rd w y m ys) (hyl : ys.length = m * 1) (h1y : ∀ u ∈ ys, u.oneCell' = true) (hB : base ≤ w.heap.size) :
    Calls Tryz.prog 145 #[v, .int .i64 n, y] w fun e w' => ∃ v', e = .returned v' ∧ w'.ownsRow base 3 1 v' (n + m) (xs ++ ys) ∧ w.grownBy w' v.ownBlock ∧ (v'.ownBlock = v.ownBlock ∨ v'.ownBlock = some w.heap.size) := by
  obtain ⟨i1, hi1, hy0, hy1, hy2⟩ := info_parts ins_infoI
  obtain ⟨Y, yc, rfl, hyc⟩ := hy.form
  have hz1 : ¬ ((m : Int) = 0) := by omega
  have HY := Lib.hid hy
  rcases h.2 with ⟨rfl, rfl⟩ | ⟨g, cap, cur, rfl, _, _, hcap, hmx, _⟩
  · have HW := Lib.hid h
    clear h hy
    go_enter Tryz.func145, Tryz.ntmps145
    go_wp2_with (at_builtin; refine wpList_append_rd rfl _ _ 82 rfl base 3 i1 _ 1 8 Tryz.underlying82 hi1 hy0 hy1 hy2 rfl (by decide) _ 0 xs rfl HW.out _ m ys rfl HY.out hyl h1y (by unfold maxLen; omega) (by omega) hB (fun v' w' k1 k2 k3 => ?_))
    all_goals (go_ret; exact ⟨v', rfl, k1, k2, k3⟩)
  · have HW := Lib.hid h
    have hcm : cap ≤ 9223372036854775807 := by unfold maxLen at hmx; omega
    clear h hy
    go_enter Tryz.func145, Tryz.ntmps145
    go_wp2_with (at_builtin; refine wpList_append_rd rfl _ _ 82 rfl base 3 i1 _ 1 8 Tryz.underlying82 hi1 hy0 hy1 hy2 rfl (by decide) _ n xs rfl HW.out _ m ys rfl HY.out hyl h1y (by unfold maxLen; omega) (by omega) hB (fun v' w' k1 k2 k3 => ?_))
    all_goals (go_ret; exact ⟨v', rfl, k1, k2, k3⟩)

set_option maxRecDepth 100000 in
set_option maxHeartbeats 1600000 in
/-- Ahead of the end, in place. -/
theorem vinsert_roomI (y : Value) (base g n cp i m : Nat) (xs ys : List Value) (w : World) (h : w.ownsRow base 3 1 (.slice (some ⟨g, 0, none⟩) n cp) n xs) (hi : i < n) (hm : 0 < m) (hroom : n + m ≤ cp) (hy : w.ownsRow 0 3 1 y m ys) (hne : y.ownBlock ≠ some g) (h1x : ∀ u ∈ xs, u.oneCell' = true) (h1y : ∀ u ∈ ys, u.oneCell' = true) :
    Calls Tryz.prog 145 #[.slice (some ⟨g, 0, none⟩) n cp, .int .i64 i, y] w fun e w' => ∃ v', e = .returned v' ∧ w'.ownsRow base 3 1 v' (n + m) (xs.take (i) ++ ys ++ xs.drop (i)) ∧ w.grownBy w' (some g) ∧ (v'.ownBlock = some g ∨ v'.ownBlock = some w.heap.size) := by
  obtain ⟨i1, hi1, hy0, hy1, hy2⟩ := info_parts ins_infoI
  have hsz : (Tryz.prog.info? 3).map (·.size) = some 1 := by rw [hi1]; simp [hy1]
  obtain ⟨vb, vc, rfl⟩ : ∃ vb vc, y = .slice (some ⟨vb, 0, none⟩) m vc := by
    rcases hy.2 with ⟨_, e⟩ | ⟨vb, vc, _, e, _⟩
    · omega
    · exact ⟨vb, vc, e⟩
  have hvb : vb ≠ g := fun e => hne (by rw [e]; rfl)
  obtain ⟨hsa, hfa⟩ := own_shape hy
  obtain ⟨hsb, hfb⟩ := own_shape h
  have hcp := own_cap h
  have hxl : xs.length = n * 1 := h.1
  have hyl : ys.length = m * 1 := hy.1
  obtain ⟨zs, hmore, htake⟩ := own_more h hroom
  have hzl : zs.length = (n + m) * 1 := hmore.1
  have hzx : ∀ j, j < n * 1 → zs[j]? = xs[j]? := fun j hj => by rw [← htake, List.getElem?_take_of_lt hj]
  obtain ⟨bs, hbs⟩ : ∃ bs, bs = xs.drop (i) := ⟨_, rfl⟩
  have hbl : bs.length = (n - i) * 1 := by rw [hbs, List.length_drop, hxl]; omega
  have hov : ∀ lb cb o, (callFunc 172 #[.slice (some ⟨vb, 0, none⟩) m vc, .slice (some ⟨g, o, none⟩) lb cb]).run Tryz.prog w = .ok (.value (.bool false)) w := fun lb cb o => by
    rw [run_callFunc_extern Tryz.func172 (by kernel_rfl) (by kernel_rfl) (by kernel_rfl) (e := Extern.SlicesOverlaps.overlaps #[82, 82] #[4]) (by kernel_rfl),
      Lib.run_overlaps_apart w 82 4 3 Tryz.underlying82 1 ins_sizeI ⟨vb, 0, none⟩ ⟨g, o, none⟩ m vc lb cb hvb _ _ _ _ hsa hsb (by have := hcp.1; simp only [ne_eq, Nat.mul_eq_zero]; omega) (hfa 0) (hfa _)]
    rfl
  have hsp : ∀ (W : World) (zs' : List Value), W.ownsRow base 3 1 (.slice (some ⟨g, 0, none⟩) (n + m) cp) (n + m) zs' → ∀ k, k < (n + m) * 1 → (W.cell? ⟨g, k, none⟩).isSome = true ∧ W.frozen? ⟨g, k, none⟩ = false := fun W zs' hW k hk => by
    obtain ⟨g', c', e1, _, h1, h2⟩ := own_at hW (j := k) (List.getElem?_eq_getElem (by rw [hW.1]; exact hk))
    simp only [Value.slice.injEq, Option.some.injEq, Addr.mk.injEq, and_true, true_and] at e1
    obtain ⟨rfl, _⟩ := e1
    exact ⟨by rw [h1]; rfl, h2⟩
  have hxc : ∀ j u, xs[j]? = some u → w.cell? ⟨g, j, none⟩ = some u := fun j u hu => by
    obtain ⟨g', c', e1, _, h1, _⟩ := own_at h hu
    simp only [Value.slice.injEq, Option.some.injEq, Addr.mk.injEq, and_true, true_and] at e1
    obtain ⟨rfl, _⟩ := e1
    exact h1
  have hyc : ∀ j u, ys[j]? = some u → w.cell? ⟨vb, j, none⟩ = some u := fun j u hu => by
    obtain ⟨g', c', e1, _, h1, _⟩ := own_at hy hu
    simp only [Value.slice.injEq, Option.some.injEq, Addr.mk.injEq, and_true, true_and] at e1
    obtain ⟨rfl, _⟩ := e1
    exact h1
  have hz1 : ¬ ((m : Int) = 0) := by omega
  have hz2 : ¬ ((i : Int) = (n : Int)) := by omega
  have hw1 : IntKind.i64.wrap ((i : Int) + (m : Int)) = (i : Int) + (m : Int) := by rw [IntKind.wrap_i64]; omega
  have hw2 : IntKind.i64.wrap ((n : Int) + (m : Int)) = (n : Int) + (m : Int) := by rw [IntKind.wrap_i64]; omega
  have hb1 : (0 : Int) ≤ (i : Int) + (m : Int) := by omega
  have hin : i ≤ n := by omega
  have htn : ((i : Int) + (m : Int)).toNat = i + m := by omega
  have hb2 : ¬ (cp = i + m) := by omega
  have hb3 : (i : Int) ≤ (n : Int) + (m : Int) := by omega
  have hb4 : ¬ (cp = i) := by omega
  have hc63 := hcp.2
  obtain ⟨W1, hW1⟩ : ∃ W1, W1 = w.drew.setCells g ((i + m)) bs := ⟨_, rfl⟩
  obtain ⟨zs1, o1, l1, at1⟩ := own_sets bs ((i + m)) w.drew _ hmore.drew (by rw [hbl]; omega)
  rw [← hW1] at o1
  have hcp1 : ∀ ty dc sc, (Builtin.copy_ #[82, 82] ty #[.slice (some ⟨g, (i + m), none⟩) (n + m - (i + m)) dc, .slice (some ⟨g, i, none⟩) (n + m - i) sc]).run Tryz.prog w.drew = .ok (goInt (Nat.min (n + m - i) (n + m - (i + m)) : Nat)) W1 := fun ty dc sc => by
    rw [hW1]
    exact run_copy_cellsN w.drew _ _ ty 3 1 g ((i + m)) (n + m - (i + m)) dc ⟨g, i, none⟩ (n + m - i) sc bs Tryz.underlying82 hsz (by rw [hbl]; simp only [Nat.min_def]; split <;> omega)
      (fun j v hj => by rw [Addr.add_lit]; exact hxc _ v (by rwa [hbs, List.getElem?_drop] at hj))
      (fun j hj => (hsp _ _ hmore _ (by omega)).1) (fun j hj => (hsp _ _ hmore _ (by omega)).2) (fun v hv => h1x v (by rw [hbs] at hv; exact List.mem_of_mem_drop hv))
  have hcp2 : ∀ (W : World), (∀ x, W.cell? x = W1.cell? x) → (∀ x, W.frozen? x = W1.frozen? x) → ∀ ty dc, (Builtin.copy_ #[82, 82] ty #[.slice (some ⟨g, i, none⟩) (n + m - i) dc, .slice (some ⟨vb, 0, none⟩) m vc]).run Tryz.prog W = .ok (goInt (Nat.min m (n + m - i) : Nat)) (W.setCells g (i) ys) := fun W hWc hWf ty dc =>
    run_copy_cellsN W _ _ ty 3 1 g (i) (n + m - i) dc ⟨vb, 0, none⟩ m vc ys Tryz.underlying82 hsz (by rw [hyl]; simp only [Nat.min_def]; split <;> omega)
      (fun j v hj => by
        rw [Addr.add_lit, hWc, hW1, World.cell?_setCells_out g _ _ _ _ (fun h _ => absurd h hvb), Nat.zero_add]
        exact hyc j v hj)
      (fun j hj => by rw [hWc]; exact (hsp _ _ o1 _ (by omega)).1) (fun j hj => by rw [hWf]; exact (hsp _ _ o1 _ (by omega)).2) h1y
  obtain ⟨zs2, o2, l2, at2⟩ := own_sets ys (i) W1 _ o1 (by omega)
  have hfin : zs2 = xs.take (i) ++ ys ++ bs := by
    rw [hbs]
    refine ins_eq xs ys zs2 (i) (by omega) (fun j hj => ?_) (fun j hj => ?_) (fun j => ?_)
    · rw [at2 j, if_neg (by omega), at1 j, if_neg (by omega)]
      exact hzx j (by omega)
    · rw [at2, if_pos (by omega), Nat.add_sub_cancel_left]
    · rw [at2, if_neg (by omega), at1]
      by_cases hj : i + ys.length + j < (i + m) + bs.length
      · rw [if_pos (by omega), hbs, List.getElem?_drop]
        congr 1; omega
      · rw [if_neg (by omega), List.getElem?_eq_none (by omega), List.getElem?_eq_none (by omega)]
  rw [hfin] at o2
  have hkp : w.grownBy (W1.setCells g (i) ys) (some g) := by
    have h1 : Kp (fun q => q = g) w (W1.setCells g (i) ys) := by
      rw [hW1]
      exact Kp.sets (F := fun q => q = g) (g := g) (.inl rfl) _ _ _ (Kp.sets (F := fun q => q = g) (g := g) (.inl rfl) _ _ _ (Kp.of_below (Below.refl _ w).drew _))
    exact ⟨h1.os, h1.tape, h1.output, h1.size, fun k hk hk2 => h1.block k hk (fun e => hk2 (by rw [e]))⟩
  have HR := Lib.hid (And.intro o2 hkp)
  rw [← hbs]
  have mixed : (Tryz.prog).follows .mixedOrders = true := by kernel_rfl
  clear o2 hkp hfin at2 at1 o1 hmore h hy hxc hyc hsp hzx hW1 hbs
  go_enter Tryz.func145, Tryz.ntmps145
  go_wp2_with (simp only [hov])
  go_region_law_o (refine step_copy_runI rfl _ _ 82 82 rfl _ _ (by simp [Act.eval, Act.put]) (by simp [Act.eval, Act.put]) (hcp1 _ _ _) ?_)
  go_wp2_with (at_builtin; refine wpList_copy_runI _ rfl _ _ 82 82 rfl _ _ rfl rfl (hcp2 _ (fun _ => rfl) (fun _ => rfl) _ _) ?_)
  go_ret
  exact ⟨_, rfl, HR.out.1, HR.out.2, .inl rfl⟩

set_option maxRecDepth 100000 in
set_option maxHeartbeats 1600000 in
/-- Ahead of the end, in a new row. -/
theorem vinsert_growI (y : Value) (base g n cp i m : Nat) (xs ys : List Value) (w : World) (h : w.ownsRow base 3 1 (.slice (some ⟨g, 0, none⟩) n cp) n xs) (hi : i < n) (hm : 0 < m) (hroom : cp < n + m) (hn : n + m ≤ 100000) (hy : w.ownsRow 0 3 1 y m ys) (h1x : ∀ u ∈ xs, u.oneCell' = true) (h1y : ∀ u ∈ ys, u.oneCell' = true) (hB : base ≤ w.heap.size) :
    Calls Tryz.prog 145 #[.slice (some ⟨g, 0, none⟩) n cp, .int .i64 i, y] w fun e w' => ∃ v', e = .returned v' ∧ w'.ownsRow base 3 1 v' (n + m) (xs.take (i) ++ ys ++ xs.drop (i)) ∧ w.grownBy w' (some g) ∧ (v'.ownBlock = some g ∨ v'.ownBlock = some w.heap.size) := by
  obtain ⟨i1, hi1, hy0, hy1, hy2⟩ := info_parts ins_infoI
  have hsz : (Tryz.prog.info? 3).map (·.size) = some 1 := by rw [hi1]; simp [hy1]
  obtain ⟨vb, vc, rfl⟩ : ∃ vb vc, y = .slice (some ⟨vb, 0, none⟩) m vc := by
    rcases hy.2 with ⟨_, e⟩ | ⟨vb, vc, _, e, _⟩
    · omega
    · exact ⟨vb, vc, e⟩
  have hcp := own_cap h
  have hxl : xs.length = n * 1 := h.1
  have hyl : ys.length = m * 1 := hy.1
  have hgw : g < w.heap.size := (own_blk h g rfl).2
  have hvw : vb < w.heap.size := (own_blk hy vb rfl).2
  have hxc : ∀ j u, xs[j]? = some u → w.cell? ⟨g, j, none⟩ = some u := fun j u hu => by
    obtain ⟨g', c', e1, _, h1, _⟩ := own_at h hu
    simp only [Value.slice.injEq, Option.some.injEq, Addr.mk.injEq, and_true, true_and] at e1
    obtain ⟨rfl, _⟩ := e1
    exact h1
  have hyc : ∀ j u, ys[j]? = some u → w.cell? ⟨vb, j, none⟩ = some u := fun j u hu => by
    obtain ⟨g', c', e1, _, h1, _⟩ := own_at hy hu
    simp only [Value.slice.injEq, Option.some.injEq, Addr.mk.injEq, and_true, true_and] at e1
    obtain ⟨rfl, _⟩ := e1
    exact h1
  obtain ⟨bs, hbs⟩ : ∃ bs, bs = xs.drop (i) := ⟨_, rfl⟩
  obtain ⟨as_, has⟩ : ∃ as_, as_ = xs.take (i) := ⟨_, rfl⟩
  have hbl : bs.length = (n - i) * 1 := by rw [hbs, List.length_drop, hxl]; omega
  have hal : as_.length = i := by rw [has, List.length_take, hxl]; omega
  have hold : (Builtin.firstCells i1.size i (.slice (some ⟨g, 0, none⟩) i cp)).run Tryz.prog w.drew = .ok as_.toArray w.drew := by
    rw [hy1]
    exact run_firstCells_some (P := Tryz.prog) (w := w.drew) 1 i ⟨g, 0, none⟩ i cp as_ (by omega) (fun j v hj => by
      rw [Addr.add_lit, Nat.zero_add]
      refine hxc j v ?_
      rw [has, List.getElem?_take] at hj
      split at hj
      · exact hj
      · cases hj)
  have hkk : (n : Int) + (m : Int) - (i : Int) = ((n + m - i : Nat) : Int) := by omega
  have hik : i + (n + m - i) = n + m := by omega
  obtain ⟨G, hG⟩ : ∃ G, G = grownCap w (n + m) cp 3 := ⟨_, rfl⟩
  obtain ⟨ROW, hROW⟩ : ∃ ROW : Array Value, ROW = as_.toArray ++ Builtin.zeroCells ((.int .i64 0) : Value).cells (n + m - i) ++ Builtin.zeroCells ((.int .i64 0) : Value).cells (G - (n + m)) := ⟨_, rfl⟩
  have hrz : ∀ ty, (Builtin.append_ #[82, 3] ty #[.slice (some ⟨g, 0, none⟩) i cp, .int .i64 ((n : Int) + (m : Int) - (i : Int))]).run Tryz.prog w =
      .ok (.slice (some ⟨w.heap.size, 0, none⟩) (n + m) G) (w.drew.alloc (.cells ROW 3)) := fun ty => by
    have h := Lib.run_append_grow_zeros w 82 3 ty 3 i1 _ .i64 .i64 Tryz.underlying82 Tryz.underlying3 hi1 hy0 (some ⟨g, 0, none⟩) i cp as_ hold (n + m - i) (by omega) (by omega) (by omega) (by omega) (by rw [hy2]; omega) (by rw [hy2, hik]; exact growslice_fits hroom (by omega))
    rw [hik, ← hG, ← hROW] at h
    rw [hkk]
    exact h
  have hGn : n + m ≤ G := by rw [hG]; exact grownCap_ge w _ _ _
  have hGm : G ≤ maxLen := by rw [hG]; exact grownCap_le_maxLen w (n + m) cp 3 (by unfold maxLen; omega)
  have hG63 : G ≤ 9223372036854775807 := by unfold maxLen at hGm; omega
  have hzc : ∀ q, (Builtin.zeroCells ((.int .i64 0) : Value).cells q).size = q * 1 := fun q => by unfold Builtin.zeroCells; rw [Array.size_map, Array.size_range, ins_zerosI]
  have hRs : ROW.size = G * 1 := by
    rw [hROW, Array.size_append, Array.size_append, hzc, hzc]
    simp only [List.size_toArray, hal]
    omega
  have hRa : ∀ j, j < i → ROW.toList[j]? = xs[j]? := fun j hj => by
    rw [hROW, Array.toList_append, Array.toList_append, List.append_assoc, List.getElem?_append_left (by simpa [hal] using hj)]
    show as_[j]? = _
    rw [has, List.getElem?_take_of_lt hj]
  obtain ⟨W1, hW1⟩ : ∃ W1, W1 = w.drew.alloc (.cells ROW 3) := ⟨_, rfl⟩
  rw [← hW1] at hrz
  have o0 : W1.ownsRow base 3 1 (.slice (some ⟨w.heap.size, 0, none⟩) (n + m) G) (n + m) (ROW.toList.take ((n + m) * 1)) := by
    rw [hW1]
    refine ⟨by rw [List.length_take, Array.length_toList, hRs]; omega, .inr ⟨w.heap.size, G, ROW, rfl, hB, heap_alloc_new w.drew _, hGn, hGm, hRs, rfl⟩⟩
  have hsp : ∀ (W : World) (zs' : List Value), W.ownsRow base 3 1 (.slice (some ⟨w.heap.size, 0, none⟩) (n + m) G) (n + m) zs' → ∀ k, k < (n + m) * 1 → (W.cell? ⟨w.heap.size, k, none⟩).isSome = true ∧ W.frozen? ⟨w.heap.size, k, none⟩ = false := fun W zs' hW k hk => by
    obtain ⟨g', c', e1, _, h1, h2⟩ := own_at hW (j := k) (List.getElem?_eq_getElem (by rw [hW.1]; exact hk))
    simp only [Value.slice.injEq, Option.some.injEq, Addr.mk.injEq, and_true, true_and] at e1
    obtain ⟨rfl, _⟩ := e1
    exact ⟨by rw [h1]; rfl, h2⟩
  have hOb : ∀ b j v, b < w.heap.size → w.cell? ⟨b, j, none⟩ = some v → W1.cell? ⟨b, j, none⟩ = some v := fun b j v hb h => by rw [hW1, World.cell?_alloc_past (w := w.drew) _ b j hb]; exact h
  obtain ⟨zs1, o1, l1, at1⟩ := own_sets ys (i) W1 _ o0 (by omega)
  have hcpA : ∀ (W : World), (∀ x, W.cell? x = W1.cell? x) → (∀ x, W.frozen? x = W1.frozen? x) → ∀ ty dc, (Builtin.copy_ #[82, 82] ty #[.slice (some ⟨w.heap.size, i, none⟩) (n + m - i) dc, .slice (some ⟨vb, 0, none⟩) m vc]).run Tryz.prog W = .ok (goInt (Nat.min m (n + m - i) : Nat)) (W.setCells w.heap.size (i) ys) := fun W hWc hWf ty dc =>
    run_copy_cellsN W _ _ ty 3 1 w.heap.size (i) (n + m - i) dc ⟨vb, 0, none⟩ m vc ys Tryz.underlying82 hsz (by rw [hyl]; simp only [Nat.min_def]; split <;> omega)
      (fun j v hj => by rw [Addr.add_lit, hWc, Nat.zero_add]; exact hOb _ _ v hvw (hyc j v hj))
      (fun j hj => by rw [hWc]; exact (hsp _ _ o0 _ (by omega)).1) (fun j hj => by rw [hWf]; exact (hsp _ _ o0 _ (by omega)).2) h1y
  have hcpB : ∀ (W : World), (∀ x, W.cell? x = (W1.setCells w.heap.size (i) ys).cell? x) → (∀ x, W.frozen? x = (W1.setCells w.heap.size (i) ys).frozen? x) → ∀ ty dc sc, (Builtin.copy_ #[82, 82] ty #[.slice (some ⟨w.heap.size, (i + m), none⟩) (n + m - (i + m)) dc, .slice (some ⟨g, i, none⟩) (n - i) sc]).run Tryz.prog W = .ok (goInt (Nat.min (n - i) (n + m - (i + m)) : Nat)) (W.setCells w.heap.size ((i + m)) bs) := fun W hWc hWf ty dc sc =>
    run_copy_cellsN W _ _ ty 3 1 w.heap.size ((i + m)) (n + m - (i + m)) dc ⟨g, i, none⟩ (n - i) sc bs Tryz.underlying82 hsz (by rw [hbl]; simp only [Nat.min_def]; split <;> omega)
      (fun j v hj => by
        rw [Addr.add_lit, hWc, World.cell?_setCells_out _ _ _ _ _ (fun h _ => absurd h (by omega : g ≠ w.heap.size))]
        exact hOb _ _ v hgw (hxc _ v (by rwa [hbs, List.getElem?_drop] at hj)))
      (fun j hj => by rw [hWc]; exact (hsp _ _ o1 _ (by omega)).1) (fun j hj => by rw [hWf]; exact (hsp _ _ o1 _ (by omega)).2) (fun v hv => h1x v (by rw [hbs] at hv; exact List.mem_of_mem_drop hv))
  obtain ⟨zs2, o2, l2, at2⟩ := own_sets bs ((i + m)) (W1.setCells w.heap.size (i) ys).drew _ o1.drew (by omega)
  have hfin : zs2 = xs.take (i) ++ ys ++ bs := by
    rw [hbs]
    have hzl2 : zs2.length = (n + m) * 1 := o2.1
    refine ins_eq xs ys zs2 (i) (by omega) (fun j hj => ?_) (fun j hj => ?_) (fun j => ?_)
    · rw [at2 j, if_neg (by omega), at1 j, if_neg (by omega), List.getElem?_take_of_lt (by omega)]
      exact hRa j hj
    · rw [at2, if_neg (by omega), at1, if_pos (by omega), Nat.add_sub_cancel_left]
    · by_cases hj : i + ys.length + j < (i + m) + bs.length
      · rw [at2, if_pos (by omega), hbs, List.getElem?_drop]
        congr 1; omega
      · rw [List.getElem?_eq_none (by omega), List.getElem?_eq_none (by omega)]
  rw [hfin] at o2
  have hkp : w.grownBy ((W1.setCells w.heap.size (i) ys).drew.setCells w.heap.size ((i + m)) bs) (some g) := by
    have h1 : Kp (fun _ => False) w ((W1.setCells w.heap.size (i) ys).drew.setCells w.heap.size ((i + m)) bs) := by
      rw [hW1]
      exact Kp.sets (F := fun _ => False) (g := w.heap.size) (.inr (Nat.le_refl _)) _ _ _ (Kp.sets (F := fun _ => False) (g := w.heap.size) (.inr (Nat.le_refl _)) _ _ _ (Kp.of_below ((Below.refl _ w).drew.alloc (Nat.le_refl _) _) _)).drew
    exact ⟨h1.os, h1.tape, h1.output, h1.size, fun k hk _ => h1.block k hk (fun e => e)⟩
  have HR := Lib.hid (And.intro o2 hkp)
  have mixed : (Tryz.prog).follows .mixedOrders = true := by kernel_rfl
  have hz1 : ¬ ((m : Int) = 0) := by omega
  have hz2 : ¬ ((i : Int) = (n : Int)) := by omega
  have hz3 : (cp : Int) < (n : Int) + (m : Int) := by omega
  have hGi : ¬ (G = i) := by omega
  have hGim : ¬ (G = i + m) := by omega
  have hci : ¬ (cp = i) := by have := hcp.1; omega
  have hw1 : IntKind.i64.wrap ((i : Int) + (m : Int)) = (i : Int) + (m : Int) := by rw [IntKind.wrap_i64]; omega
  have hb1 : (0 : Int) ≤ (i : Int) + (m : Int) := by omega
  have hin : i ≤ n := by omega
  have htn : ((i : Int) + (m : Int)).toNat = i + m := by omega
  have hb3 : (i : Int) ≤ (n : Int) := by omega
  have hc63 := hcp.2
  have hF1 : ∀ x, ((W1.setCells w.heap.size (i) ys).drew).cell? x = (W1.setCells w.heap.size (i) ys).cell? x := fun x => rfl
  have hF2 : ∀ x, ((W1.setCells w.heap.size (i) ys).drew).frozen? x = (W1.setCells w.heap.size (i) ys).frozen? x := fun x => rfl
  rw [← has, ← hbs]
  rw [← has] at HR
  clear o2 hkp hfin at2 at1 o1 o0 h hy hxc hyc hsp hW1 hbs has hkk hik hold hROW hG hRs hRa hOb hzc
  go_enter Tryz.func145, Tryz.ntmps145
  go_wp2_with (first
    | (at_builtin; refine Lib.wpList_append_run _ rfl _ _ _ _ rfl _ _ rfl rfl _ _ (hrz _) ?_)
    | (at_builtin; refine wpList_copy_runI _ rfl _ _ 82 82 rfl _ _ rfl rfl (hcpA _ (fun _ => rfl) (fun _ => rfl) _ _) ?_)
    | (at_builtin; refine wpList_copy_runI _ rfl _ _ 82 82 rfl _ _ rfl rfl (hcpB _ (fun _ => rfl) (fun _ => rfl) _ _ _) ?_))
  go_region_law_o (refine step_copy_runI rfl _ _ 82 82 rfl (.slice (some ⟨w.heap.size, (i + m), none⟩) (n + m - (i + m)) (G - (i + m))) (.slice (some ⟨g, i, none⟩) (n - i) (cp - i)) (by simp [Act.eval, Act.put]) (by simp [Act.eval, Act.put]) (hcpB _ hF1 hF2 3 (G - (i + m)) (cp - i)) ?_)
  go_wp2
  go_ret
  exact ⟨_, rfl, HR.out.1, HR.out.2, .inr rfl⟩
/-- slices.Insert into a row of one's own. -/
theorem vinsertI (v y : Value) (base n i m : Nat) (xs ys : List Value) (w : World) (h : w.ownsRow base 3 1 v n xs) (hi : i ≤ n) (hm : 0 < m) (hn : n + m ≤ 100000) (hy : w.ownsRow 0 3 1 y m ys) (hne : ∀ q, v.ownBlock = some q → y.ownBlock ≠ some q) (h1x : ∀ u ∈ xs, u.oneCell' = true) (h1y : ∀ u ∈ ys, u.oneCell' = true) (hB : base ≤ w.heap.size) :
    Calls Tryz.prog 145 #[v, .int .i64 i, y] w fun e w' => ∃ v', e = .returned v' ∧ w'.ownsRow base 3 1 v' (n + m) (xs.take (i) ++ ys ++ xs.drop (i)) ∧ w.grownBy w' v.ownBlock ∧ (v'.ownBlock = v.ownBlock ∨ v'.ownBlock = some w.heap.size) := by
  by_cases e : i = n
  · subst e
    refine (vinsert_endI v y base i m xs ys w h hm hn (Rd.of_own hy) hy.1 h1y hB).mono ?_
    rintro e w' ⟨v', rfl, h1, h2, h3⟩
    refine ⟨v', rfl, ?_, h2, h3⟩
    rw [List.take_of_length_le (by have := h.1; omega), List.drop_eq_nil_of_le (by have := h.1; omega), List.append_nil]
    exact h1
  · obtain ⟨g, cp, rfl⟩ : ∃ g cp, v = .slice (some ⟨g, 0, none⟩) n cp := by
      rcases h.2 with ⟨_, e⟩ | ⟨g, cp, _, e, _⟩
      · omega
      · exact ⟨g, cp, e⟩
    by_cases hr : n + m ≤ cp
    · exact vinsert_roomI y base g n cp i m xs ys w h (by omega) hm hr hy (hne g rfl) h1x h1y
    · exact vinsert_growI y base g n cp i m xs ys w h (by omega) hm (by omega) hn hy h1x h1y hB

end Go.Proofs.YtacoingheieceaaGreat
