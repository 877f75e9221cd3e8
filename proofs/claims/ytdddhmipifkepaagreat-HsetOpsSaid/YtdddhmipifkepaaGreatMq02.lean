/- Several texts in one. -/
import Derived.Test.YtdddhmipifkepaaGreatProg
import Derived.Test.YtdddhmipifkepaaGreatMq01
import Derived.OpenShut
import Derived.ShutString
import Derived.Lib.SmallJoins
import Derived.Lib.Hide
import Derived.SizedLaws
import Derived.Lib.AppendZerosOnto
import Derived.Lib.Overlaps
import Derived.Laws.Externs
import Derived.Shelf.Spec.SlicesInsert
import GoSem.Claim
import Derived.Laws.StructEq
namespace Go.Proofs.YtdddhmipifkepaaGreat
open Go.ChangeShapes Go.WideShapes Go.ChangeAt Go.RowKit Go.Joins Go.Deep

abbrev V3 := Int × Int × ByteArray

def Lst (w : World) (A : Option Addr) (l : List V3) : Prop :=
  l = [] ∨ ∃ b o, A = some ⟨b, o, none⟩ ∧ b < w.heap.size ∧ ∀ i x, l[i]? = some x →
    w.cell? ⟨b, o + i * 3, none⟩ = some (.int .u8 x.1) ∧ w.cell? ⟨b, o + i * 3 + 1, none⟩ = some (.int .i64 x.2.1) ∧ w.cell? ⟨b, o + i * 3 + 2, none⟩ = some (.string x.2.2)

theorem Lst.grow {w w' : World} {A : Option Addr} {l : List V3} (h : Lst w A l) (g : Gw w w') : Lst w' A l := by
  rcases h with h | ⟨b, o, hA, hb, hc⟩
  · exact .inl h
  · refine .inr ⟨b, o, hA, Nat.lt_of_lt_of_le hb g.size, fun i x hx => ?_⟩
    obtain ⟨c0, c1, c2⟩ := hc i x hx
    exact ⟨(g.cell hb).trans c0, (g.cell hb).trans c1, (g.cell hb).trans c2⟩
theorem Lst.at {w : World} {A : Option Addr} {l : List V3} (h : Lst w A l) {i : Nat} {x : V3} (hi : l[i]? = some x) : ∃ b o, A = some ⟨b, o, none⟩ ∧ b < w.heap.size ∧
    w.cell? ⟨b, o + i * 3, none⟩ = some (.int .u8 x.1) ∧ w.cell? ⟨b, o + i * 3 + 1, none⟩ = some (.int .i64 x.2.1) ∧ w.cell? ⟨b, o + i * 3 + 2, none⟩ = some (.string x.2.2) := by
  rcases h with h | ⟨b, o, hA, hb, hc⟩
  · subst h; simp at hi
  · exact ⟨b, o, hA, hb, hc i x hi⟩

theorem vcells : Tryz.prog.cellsOf 36 = 3 := by kernel_rfl
theorem vbytes : Tryz.prog.bytesOf 36 = 32 := by kernel_rfl

theorem cellsK : Tryz.prog.cellsOf 34 = 1 := by kernel_rfl
theorem cellsN : Tryz.prog.cellsOf 2 = 1 := by kernel_rfl
theorem cellsS : Tryz.prog.cellsOf 9 = 1 := by kernel_rfl

section
variable {H : Type} {enc : TypeId × Value → H} {W : World} {base : Nat} {sp : Nat → Bool} {held : Bool}
set_option maxRecDepth 20000 in
theorem elem3 {cs : List Value} {n : Nat} {x : DataW H × List MemPlace} (h : DataW.trod enc Tryz.prog W base sp held n 36 cs = some x) :
    ∃ (k m : Int) (s : ByteArray), cs = [.int .u8 k, .int .i64 m, .string s] ∧ (Lit.int .u8 k).wf = true ∧ s.size ≤ maxLen := by
  obtain ⟨xs, n', _, hx, hlen, hxl, hf⟩ := DataW.trod_struct Tryz.underlying36 h
  rw [vcells] at hlen
  match cs, hlen with
  | [c0, c1, c2], _ =>
    have hxl' : xs.length = 3 := hxl
    match xs, hxl' with
    | [y0, y1, y2], _ =>
      have f0 : DataW.trod enc Tryz.prog W base sp held n' 34 [c0] = some y0 := by simpa [cellsK] using hf 0 _ rfl
      have f1 : DataW.trod enc Tryz.prog W base sp held n' 2 [c1] = some y1 := by simpa [cellsN] using hf 1 _ rfl
      have f2 : DataW.trod enc Tryz.prog W base sp held n' 9 [c2] = some y2 := by simpa [cellsS] using hf 2 _ rfl
      obtain ⟨k, e0, _, wk⟩ := DataW.trod_int Tryz.underlying34 f0
      obtain ⟨m, e1, _, _⟩ := DataW.trod_int Tryz.underlying2 f1
      obtain ⟨s, e2, _, ws⟩ := DataW.trod_string Tryz.underlying9 f2
      simp at e0 e1 e2
      subst e0 e1 e2
      exact ⟨k, m, s, rfl, wk, ws⟩

set_option maxRecDepth 20000 in
theorem open_values {v : Value} {d : DataW H} {p : List MemPlace} {r : Reach} {b0 : Nat} (hv : Value.okWide Tryz.prog W r b0 50 v) (h : DataW.Trod enc Tryz.prog W 0 (fun _ => true) true 50 v d p) :
    ∃ (A : Option Addr) (l : List V3) (c : Nat), v = .slice A l.length c ∧ Lst W A l ∧ (∀ x ∈ l, 0 ≤ x.1 ∧ x.1 ≤ 255) ∧ (∀ x ∈ l, x.2.2.size ≤ 9223372036854775807) ∧ (l = [] ∨ ∃ es ss, d = .slice es ss ∧ es.length = l.length) := by
  obtain ⟨a, len, cap, rfl⟩ := okWide_slice Tryz.underlying50 hv
  obtain ⟨fuel, hf⟩ := h
  rcases open_slice Tryz.underlying50 hf with ⟨hcs, _⟩ | ⟨a', len', cap', m, n, D, Pl, hcs, _, hl, hm, hmm, hx, hi⟩
  · simp [Value.cells] at hcs
    obtain ⟨rfl, rfl, rfl⟩ := hcs
    exact ⟨none, [], 0, rfl, .inl rfl, by simp, by simp, .inl rfl⟩
  · simp [Value.cells] at hcs
    obtain ⟨rfl, rfl, rfl⟩ := hcs
    simp only [if_true] at hmm
    subst hmm
    have hel : ∀ i, ∃ x : V3, i < len → ((0 ≤ x.1 ∧ x.1 ≤ 255) ∧ x.2.2.size ≤ 9223372036854775807 ∧ W.cell? (a'.add (i * 3)) = some (.int .u8 x.1) ∧ W.cell? ((a'.add (i * 3)).add 1) = some (.int .i64 x.2.1) ∧ W.cell? ((a'.add (i * 3)).add 2) = some (.string x.2.2)) := fun i => by
      by_cases hlt : i < len
      · obtain ⟨cs', hc, ht⟩ := hi i (by omega)
        rw [vcells] at hc
        obtain ⟨_, _, hat⟩ := World.cells?_some hc
        obtain ⟨k, q, s, rfl, wk, ws⟩ := elem3 ht
        refine ⟨(k, q, s), fun _ => ⟨bounds_u8 wk, by unfold maxLen at ws; simpa using ws, ?_, ?_, ?_⟩⟩
        · simpa [Addr.add] using hat 0 (by omega)
        · simpa using hat 1 (by omega)
        · simpa using hat 2 (by omega)
      · exact ⟨(0, 0, ⟨#[]⟩), fun h => absurd h hlt⟩
    obtain ⟨f, hf'⟩ := Classical.axiomOfChoice hel
    refine ⟨some a', (List.range len).map f, m, by simp, ?_, ?_, ?_, .inr ⟨_, _, by rw [Prod.mk.injEq] at hx; exact hx.1, by simp⟩⟩
    · by_cases h0 : len = 0
      · subst h0; exact .inl rfl
      · right
        obtain ⟨b, o, spot⟩ := a'
        obtain rfl : spot = none := by simpa [Addr.add] using World.cell?_spot (hf' 0 (by omega)).2.2.1
        refine ⟨b, o, rfl, World.block_lt_of_cell? W ⟨b, o, none⟩ (by simpa [Addr.add] using (hf' 0 (by omega)).2.2.1), fun i x hx => ?_⟩
        simp only [List.getElem?_map, Option.map_eq_some_iff] at hx
        obtain ⟨i', hi', rfl⟩ := hx
        obtain ⟨hlt, rfl⟩ := List.getElem?_eq_some_iff.1 hi'
        simp only [List.length_range] at hlt
        simp only [List.getElem_range]
        obtain ⟨_, _, c0, c1, c2⟩ := hf' i hlt
        rw [add_plain] at c0 c1 c2
        rw [add_plain] at c1 c2
        exact ⟨c0, c1, c2⟩
    · intro x hx
      obtain ⟨i, hi', rfl⟩ := List.mem_map.1 hx
      exact (hf' i (List.mem_range.1 hi')).1
    · intro x hx
      obtain ⟨i, hi', rfl⟩ := List.mem_map.1 hx
      exact (hf' i (List.mem_range.1 hi')).2.1
end

def cells3 (x : V3) : List Value := [.int .u8 x.1, .int .i64 x.2.1, .string x.2.2]
theorem flat_len : ∀ l : List V3, (l.flatMap cells3).length = l.length * 3
  | [] => rfl
  | x :: l => by rw [List.flatMap_cons, List.length_append, flat_len l, List.length_cons]; simp [cells3]; omega
theorem flat_get : ∀ (l : List V3) (i : Nat) (x : V3), l[i]? = some x → ∀ t, t < 3 → (l.flatMap cells3)[i * 3 + t]? = (cells3 x)[t]?
  | [], i, x, h, _, _ => by simp at h
  | y :: l, 0, x, h, t, ht => by
    simp at h
    subst h
    rw [List.flatMap_cons, List.getElem?_append_left (by simpa [cells3] using ht), Nat.zero_mul, Nat.zero_add]
  | y :: l, i + 1, x, h, t, ht => by
    have h' : l[i]? = some x := by simpa using h
    rw [List.flatMap_cons, List.getElem?_append_right (by simp [cells3]; omega), ← flat_get l i x h' t ht]
    congr 1
    simp [cells3]; omega
theorem Lst.below {w w' : World} {A : Option Addr} {l : List V3} (h : Lst w A l) (g : Below w.heap.size w w') : Lst w' A l := by
  rcases h with h | ⟨b, o, hA, hb, hc⟩
  · exact .inl h
  · refine .inr ⟨b, o, hA, Nat.lt_of_lt_of_le hb g.size, fun i x hx => ?_⟩
    obtain ⟨c0, c1, c2⟩ := hc i x hx
    exact ⟨(g.cell (p := ⟨b, _, none⟩) hb).trans c0, (g.cell (p := ⟨b, _, none⟩) hb).trans c1, (g.cell (p := ⟨b, _, none⟩) hb).trans c2⟩
theorem Lst.grown {w w' : World} {A : Option Addr} {l : List V3} {g : Nat} (h : Lst w A l) (hg : w.grownBy w' (some g)) (hA : ∀ a, A = some a → l ≠ [] → a.block ≠ g) : Lst w' A l := by
  by_cases hl : l = []
  · exact .inl hl
  rcases h with h | ⟨b, o, rfl, hb, hc⟩
  · exact .inl h
  · have hne : some b ≠ some g := fun e => hA _ rfl hl (by injection e)
    refine .inr ⟨b, o, rfl, Nat.lt_of_lt_of_le hb hg.size, fun i x hx => ?_⟩
    obtain ⟨c0, c1, c2⟩ := hc i x hx
    exact ⟨hg.cell c0 hne, hg.cell c1 hne, hg.cell c2 hne⟩


end Go.Proofs.YtdddhmipifkepaaGreat

namespace Go.Proofs.YtdddhmipifkepaaGreat
open Go.RowKit

theorem ins_infoI : (Tryz.prog.info? 3).map (fun i => (i.zero, i.size, i.bytes)) = some (some (.int .i64 0), 1, 8) := by kernel_rfl
theorem ins_sizeI : ∀ w, (Go.sizeOf 3).run Tryz.prog w = .ok 1 w := fun w => by kernel_rfl
theorem ins_zerosI : ((.int .i64 0) : Value).cells.size = 1 := by kernel_rfl
set_option maxRecDepth 100000 in
theorem vinsert_endI (v y : Value) (base n m : Nat) (xs ys : List Value) (w : World) (h : w.ownsRow base 3 1 v n xs) (hm : 0 < m) (hn : n + m ≤ 100000) (hy : Rd w y m ys) (hyl : ys.length = m * 1) (h1y : ∀ u ∈ ys, u.oneCell' = true) (hB : base ≤ w.heap.size) :
    Calls Tryz.prog 229 #[v, .int .i64 n, y] w fun e w' => ∃ v', e = .returned v' ∧ w'.ownsRow base 3 1 v' (n + m) (xs ++ ys) ∧ w.grownBy w' v.ownBlock ∧ (v'.ownBlock = v.ownBlock ∨ v'.ownBlock = some w.heap.size) := by
  obtain ⟨i1, hi1, hy0, hy1, hy2⟩ := info_parts ins_infoI
  obtain ⟨Y, yc, rfl, hyc⟩ := hy.form
  have hz1 : ¬ ((m : Int) = 0) := by omega
  have HY := Lib.hid hy
  rcases h.2 with ⟨rfl, rfl⟩ | ⟨g, cap, cur, rfl, _, _, hcap, hmx, _⟩
  · have HW := Lib.hid h
    clear h hy
    go_enter Tryz.func229, Tryz.ntmps229
    go_wp2_with (at_builtin; refine wpList_append_rd rfl _ _ 107 rfl base 3 i1 _ 1 8 Tryz.underlying107 hi1 hy0 hy1 hy2 rfl (by decide) _ 0 xs rfl HW.out _ m ys rfl HY.out hyl h1y (by unfold maxLen; omega) (by omega) hB (fun v' w' k1 k2 k3 => ?_))
    all_goals (go_ret; exact ⟨v', rfl, k1, k2, k3⟩)
  · have HW := Lib.hid h
    have hcm : cap ≤ 9223372036854775807 := by unfold maxLen at hmx; omega
    clear h hy
    go_enter Tryz.func229, Tryz.ntmps229
    go_wp2_with (at_builtin; refine wpList_append_rd rfl _ _ 107 rfl base 3 i1 _ 1 8 Tryz.underlying107 hi1 hy0 hy1 hy2 rfl (by decide) _ n xs rfl HW.out _ m ys rfl HY.out hyl h1y (by unfold maxLen; omega) (by omega) hB (fun v' w' k1 k2 k3 => ?_))
    all_goals (go_ret; exact ⟨v', rfl, k1, k2, k3⟩)

set_option maxRecDepth 100000 in
set_option maxHeartbeats 1600000 in
theorem vinsert_roomI (y : Value) (base g n cp i m : Nat) (xs ys : List Value) (w : World) (h : w.ownsRow base 3 1 (.slice (some ⟨g, 0, none⟩) n cp) n xs) (hi : i < n) (hm : 0 < m) (hroom : n + m ≤ cp) (hy : w.ownsRow 0 3 1 y m ys) (hne : y.ownBlock ≠ some g) (h1x : ∀ u ∈ xs, u.oneCell' = true) (h1y : ∀ u ∈ ys, u.oneCell' = true) :
    Calls Tryz.prog 229 #[.slice (some ⟨g, 0, none⟩) n cp, .int .i64 i, y] w fun e w' => ∃ v', e = .returned v' ∧ w'.ownsRow base 3 1 v' (n + m) (xs.take (i) ++ ys ++ xs.drop (i)) ∧ w.grownBy w' (some g) ∧ (v'.ownBlock = some g ∨ v'.ownBlock = some w.heap.size) := by
  obtain ⟨i1, hi1, hy0, hy1, hy2⟩ := info_parts ins_infoI
  have hsz : (Tryz.prog.info? 3).map (·.size) = some 1 := by rw [hi1]; simp [hy1]
  obtain ⟨vb, vc, rfl⟩ : ∃ vb vc, y = .slice (some ⟨vb, 0, none⟩) m vc := by
    rcases hy.2 with ⟨_, e⟩ | ⟨vb, vc, _, e, _⟩
    · omega
    · exact ⟨vb, vc, e⟩
  have hvb : vb ≠ g := fun e => hne (by rw [e]; rfl)
  obtain ⟨hsa, hfa⟩ := own_shape hy
  obtain ⟨hsb, hfb⟩ := own_shape h
  have hcp := own_cap h
  have hxl : xs.length = n * 1 := h.1
  have hyl : ys.length = m * 1 := hy.1
  obtain ⟨zs, hmore, htake⟩ := own_more h hroom
  have hzl : zs.length = (n + m) * 1 := hmore.1
  have hzx : ∀ j, j < n * 1 → zs[j]? = xs[j]? := fun j hj => by rw [← htake, List.getElem?_take_of_lt hj]
  obtain ⟨bs, hbs⟩ : ∃ bs, bs = xs.drop (i) := ⟨_, rfl⟩
  have hbl : bs.length = (n - i) * 1 := by rw [hbs, List.length_drop, hxl]; omega
  have hov : ∀ lb cb o, (callFunc 262 #[.slice (some ⟨vb, 0, none⟩) m vc, .slice (some ⟨g, o, none⟩) lb cb]).run Tryz.prog w = .ok (.value (.bool false)) w := fun lb cb o => by
    rw [run_callFunc_extern Tryz.func262 (by kernel_rfl) (by kernel_rfl) (by kernel_rfl) (e := Extern.SlicesOverlaps.overlaps #[107, 107] #[4]) (by kernel_rfl),
      Lib.run_overlaps_apart w 107 4 3 Tryz.underlying107 1 ins_sizeI ⟨vb, 0, none⟩ ⟨g, o, none⟩ m vc lb cb hvb _ _ _ _ hsa hsb (by have := hcp.1; simp only [ne_eq, Nat.mul_eq_zero]; omega) (hfa 0) (hfa _)]
    rfl
  have hsp : ∀ (W : World) (zs' : List Value), W.ownsRow base 3 1 (.slice (some ⟨g, 0, none⟩) (n + m) cp) (n + m) zs' → ∀ k, k < (n + m) * 1 → (W.cell? ⟨g, k, none⟩).isSome = true ∧ W.frozen? ⟨g, k, none⟩ = false := fun W zs' hW k hk => by
    obtain ⟨g', c', e1, _, h1, h2⟩ := own_at hW (j := k) (List.getElem?_eq_getElem (by rw [hW.1]; exact hk))
    simp only [Value.slice.injEq, Option.some.injEq, Addr.mk.injEq, and_true, true_and] at e1
    obtain ⟨rfl, _⟩ := e1
    exact ⟨by rw [h1]; rfl, h2⟩
  have hxc : ∀ j u, xs[j]? = some u → w.cell? ⟨g, j, none⟩ = some u := fun j u hu => by
    obtain ⟨g', c', e1, _, h1, _⟩ := own_at h hu
    simp only [Value.slice.injEq, Option.some.injEq, Addr.mk.injEq, and_true, true_and] at e1
    obtain ⟨rfl, _⟩ := e1
    exact h1
  have hyc : ∀ j u, ys[j]? = some u → w.cell? ⟨vb, j, none⟩ = some u := fun j u hu => by
    obtain ⟨g', c', e1, _, h1, _⟩ := own_at hy hu
    simp only [Value.slice.injEq, Option.some.injEq, Addr.mk.injEq, and_true, true_and] at e1
    obtain ⟨rfl, _⟩ := e1
    exact h1
  have hz1 : ¬ ((m : Int) = 0) := by omega
  have hz2 : ¬ ((i : Int) = (n : Int)) := by omega
  have hw1 : IntKind.i64.wrap ((i : Int) + (m : Int)) = (i : Int) + (m : Int) := by rw [IntKind.wrap_i64]; omega
  have hw2 : IntKind.i64.wrap ((n : Int) + (m : Int)) = (n : Int) + (m : Int) := by rw [IntKind.wrap_i64]; omega
  have hb1 : (0 : Int) ≤ (i : Int) + (m : Int) := by omega
  have hin : i ≤ n := by omega
  have htn : ((i : Int) + (m : Int)).toNat = i + m := by omega
  have hb2 : ¬ (cp = i + m) := by omega
  have hb3 : (i : Int) ≤ (n : Int) + (m : Int) := by omega
  have hb4 : ¬ (cp = i) := by omega
  have hc63 := hcp.2
  obtain ⟨W1, hW1⟩ : ∃ W1, W1 = w.drew.setCells g ((i + m)) bs := ⟨_, rfl⟩
  obtain ⟨zs1, o1, l1, at1⟩ := own_sets bs ((i + m)) w.drew _ hmore.drew (by rw [hbl]; omega)
  rw [← hW1] at o1
  have hcp1 : ∀ ty dc sc, (Builtin.copy_ #[107, 107] ty #[.slice (some ⟨g, (i + m), none⟩) (n + m - (i + m)) dc, .slice (some ⟨g, i, none⟩) (n + m - i) sc]).run Tryz.prog w.drew = .ok (goInt (Nat.min (n + m - i) (n + m - (i + m)) : Nat)) W1 := fun ty dc sc => by
    rw [hW1]
    exact run_copy_cellsN w.drew _ _ ty 3 1 g ((i + m)) (n + m - (i + m)) dc ⟨g, i, none⟩ (n + m - i) sc bs Tryz.underlying107 hsz (by rw [hbl]; simp only [Nat.min_def]; split <;> omega)
      (fun j v hj => by rw [Addr.add_lit]; exact hxc _ v (by rwa [hbs, List.getElem?_drop] at hj))
      (fun j hj => (hsp _ _ hmore _ (by omega)).1) (fun j hj => (hsp _ _ hmore _ (by omega)).2) (fun v hv => h1x v (by rw [hbs] at hv; exact List.mem_of_mem_drop hv))
  have hcp2 : ∀ (W : World), (∀ x, W.cell? x = W1.cell? x) → (∀ x, W.frozen? x = W1.frozen? x) → ∀ ty dc, (Builtin.copy_ #[107, 107] ty #[.slice (some ⟨g, i, none⟩) (n + m - i) dc, .slice (some ⟨vb, 0, none⟩) m vc]).run Tryz.prog W = .ok (goInt (Nat.min m (n + m - i) : Nat)) (W.setCells g (i) ys) := fun W hWc hWf ty dc =>
    run_copy_cellsN W _ _ ty 3 1 g (i) (n + m - i) dc ⟨vb, 0, none⟩ m vc ys Tryz.underlying107 hsz (by rw [hyl]; simp only [Nat.min_def]; split <;> omega)
      (fun j v hj => by
        rw [Addr.add_lit, hWc, hW1, World.cell?_setCells_out g _ _ _ _ (fun h _ => absurd h hvb), Nat.zero_add]
        exact hyc j v hj)
      (fun j hj => by rw [hWc]; exact (hsp _ _ o1 _ (by omega)).1) (fun j hj => by rw [hWf]; exact (hsp _ _ o1 _ (by omega)).2) h1y
  obtain ⟨zs2, o2, l2, at2⟩ := own_sets ys (i) W1 _ o1 (by omega)
  have hfin : zs2 = xs.take (i) ++ ys ++ bs := by
    rw [hbs]
    refine ins_eq xs ys zs2 (i) (by omega) (fun j hj => ?_) (fun j hj => ?_) (fun j => ?_)
    · rw [at2 j, if_neg (by omega), at1 j, if_neg (by omega)]
      exact hzx j (by omega)
    · rw [at2, if_pos (by omega), Nat.add_sub_cancel_left]
    · rw [at2, if_neg (by omega), at1]
      by_cases hj : i + ys.length + j < (i + m) + bs.length
      · rw [if_pos (by omega), hbs, List.getElem?_drop]
        congr 1; omega
      · rw [if_neg (by omega), List.getElem?_eq_none (by omega), List.getElem?_eq_none (by omega)]
  rw [hfin] at o2
  have hkp : w.grownBy (W1.setCells g (i) ys) (some g) := by
    have h1 : Kp (fun q => q = g) w (W1.setCells g (i) ys) := by
      rw [hW1]
      exact Kp.sets (F := fun q => q = g) (g := g) (.inl rfl) _ _ _ (Kp.sets (F := fun q => q = g) (g := g) (.inl rfl) _ _ _ (Kp.of_below (Below.refl _ w).drew _))
    exact ⟨h1.os, h1.tape, h1.output, h1.size, fun k hk hk2 => h1.block k hk (fun e => hk2 (by rw [e]))⟩
  have HR := Lib.hid (And.intro o2 hkp)
  rw [← hbs]
  have mixed : (Tryz.prog).follows .mixedOrders = true := by kernel_rfl
  clear o2 hkp hfin at2 at1 o1 hmore h hy hxc hyc hsp hzx hW1 hbs
  go_enter Tryz.func229, Tryz.ntmps229
  go_wp2_with (simp only [hov])
  go_region_law_o (refine step_copy_runI rfl _ _ 107 107 rfl _ _ (by simp [Act.eval, Act.put]) (by simp [Act.eval, Act.put]) (hcp1 _ _ _) ?_)
  go_wp2_with (at_builtin; refine wpList_copy_runI _ rfl _ _ 107 107 rfl _ _ rfl rfl (hcp2 _ (fun _ => rfl) (fun _ => rfl) _ _) ?_)
  go_ret
  exact ⟨_, rfl, HR.out.1, HR.out.2, .inl rfl⟩

set_option maxRecDepth 100000 in
set_option maxHeartbeats 1600000 in
theorem vinsert_growI (y : Value) (base g n cp i m : Nat) (xs ys : List Value) (w : World) (h : w.ownsRow base 3 1 (.slice (some ⟨g, 0, none⟩) n cp) n xs) (hi : i < n) (hm : 0 < m) (hroom : cp < n + m) (hn : n + m ≤ 100000) (hy : w.ownsRow 0 3 1 y m ys) (h1x : ∀ u ∈ xs, u.oneCell' = true) (h1y : ∀ u ∈ ys, u.oneCell' = true) (hB : base ≤ w.heap.size) :
    Calls Tryz.prog 229 #[.slice (some ⟨g, 0, none⟩) n cp, .int .i64 i, y] w fun e w' => ∃ v', e = .returned v' ∧ w'.ownsRow base 3 1 v' (n + m) (xs.take (i) ++ ys ++ xs.drop (i)) ∧ w.grownBy w' (some g) ∧ (v'.ownBlock = some g ∨ v'.ownBlock = some w.heap.size) := by
  obtain ⟨i1, hi1, hy0, hy1, hy2⟩ := info_parts ins_infoI
  have hsz : (Tryz.prog.info? 3).map (·.size) = some 1 := by rw [hi1]; simp [hy1]
  obtain ⟨vb, vc, rfl⟩ : ∃ vb vc, y = .slice (some ⟨vb, 0, none⟩) m vc := by
    rcases hy.2 with ⟨_, e⟩ | ⟨vb, vc, _, e, _⟩
    · omega
    · exact ⟨vb, vc, e⟩
  have hcp := own_cap h
  have hxl : xs.length = n * 1 := h.1
  have hyl : ys.length = m * 1 := hy.1
  have hgw : g < w.heap.size := (own_blk h g rfl).2
  have hvw : vb < w.heap.size := (own_blk hy vb rfl).2
  have hxc : ∀ j u, xs[j]? = some u → w.cell? ⟨g, j, none⟩ = some u := fun j u hu => by
    obtain ⟨g', c', e1, _, h1, _⟩ := own_at h hu
    simp only [Value.slice.injEq, Option.some.injEq, Addr.mk.injEq, and_true, true_and] at e1
    obtain ⟨rfl, _⟩ := e1
    exact h1
  have hyc : ∀ j u, ys[j]? = some u → w.cell? ⟨vb, j, none⟩ = some u := fun j u hu => by
    obtain ⟨g', c', e1, _, h1, _⟩ := own_at hy hu
    simp only [Value.slice.injEq, Option.some.injEq, Addr.mk.injEq, and_true, true_and] at e1
    obtain ⟨rfl, _⟩ := e1
    exact h1
  obtain ⟨bs, hbs⟩ : ∃ bs, bs = xs.drop (i) := ⟨_, rfl⟩
  obtain ⟨as_, has⟩ : ∃ as_, as_ = xs.take (i) := ⟨_, rfl⟩
  have hbl : bs.length = (n - i) * 1 := by rw [hbs, List.length_drop, hxl]; omega
  have hal : as_.length = i := by rw [has, List.length_take, hxl]; omega
  have hold : (Builtin.firstCells i1.size i (.slice (some ⟨g, 0, none⟩) i cp)).run Tryz.prog w.drew = .ok as_.toArray w.drew := by
    rw [hy1]
    exact run_firstCells_some (P := Tryz.prog) (w := w.drew) 1 i ⟨g, 0, none⟩ i cp as_ (by omega) (fun j v hj => by
      rw [Addr.add_lit, Nat.zero_add]
      refine hxc j v ?_
      rw [has, List.getElem?_take] at hj
      split at hj
      · exact hj
      · cases hj)
  have hkk : (n : Int) + (m : Int) - (i : Int) = ((n + m - i : Nat) : Int) := by omega
  have hik : i + (n + m - i) = n + m := by omega
  obtain ⟨G, hG⟩ : ∃ G, G = grownCap w (n + m) cp 3 := ⟨_, rfl⟩
  obtain ⟨ROW, hROW⟩ : ∃ ROW : Array Value, ROW = as_.toArray ++ Builtin.zeroCells ((.int .i64 0) : Value).cells (n + m - i) ++ Builtin.zeroCells ((.int .i64 0) : Value).cells (G - (n + m)) := ⟨_, rfl⟩
  have hrz : ∀ ty, (Builtin.append_ #[107, 3] ty #[.slice (some ⟨g, 0, none⟩) i cp, .int .i64 ((n : Int) + (m : Int) - (i : Int))]).run Tryz.prog w =
      .ok (.slice (some ⟨w.heap.size, 0, none⟩) (n + m) G) (w.drew.alloc (.cells ROW 3)) := fun ty => by
    have h := Lib.run_append_grow_zeros w 107 3 ty 3 i1 _ .i64 .i64 Tryz.underlying107 Tryz.underlying3 hi1 hy0 (some ⟨g, 0, none⟩) i cp as_ hold (n + m - i) (by omega) (by omega) (by omega) (by omega) (by rw [hy2]; omega) (by rw [hy2, hik]; exact growslice_fits hroom (by omega))
    rw [hik, ← hG, ← hROW] at h
    rw [hkk]
    exact h
  have hGn : n + m ≤ G := by rw [hG]; exact grownCap_ge w _ _ _
  have hGm : G ≤ maxLen := by rw [hG]; exact grownCap_le_maxLen w (n + m) cp 3 (by unfold maxLen; omega)
  have hG63 : G ≤ 9223372036854775807 := by unfold maxLen at hGm; omega
  have hzc : ∀ q, (Builtin.zeroCells ((.int .i64 0) : Value).cells q).size = q * 1 := fun q => by unfold Builtin.zeroCells; rw [Array.size_map, Array.size_range, ins_zerosI]
  have hRs : ROW.size = G * 1 := by
    rw [hROW, Array.size_append, Array.size_append, hzc, hzc]
    simp only [List.size_toArray, hal]
    omega
  have hRa : ∀ j, j < i → ROW.toList[j]? = xs[j]? := fun j hj => by
    rw [hROW, Array.toList_append, Array.toList_append, List.append_assoc, List.getElem?_append_left (by simpa [hal] using hj)]
    show as_[j]? = _
    rw [has, List.getElem?_take_of_lt hj]
  obtain ⟨W1, hW1⟩ : ∃ W1, W1 = w.drew.alloc (.cells ROW 3) := ⟨_, rfl⟩
  rw [← hW1] at hrz
  have o0 : W1.ownsRow base 3 1 (.slice (some ⟨w.heap.size, 0, none⟩) (n + m) G) (n + m) (ROW.toList.take ((n + m) * 1)) := by
    rw [hW1]
    refine ⟨by rw [List.length_take, Array.length_toList, hRs]; omega, .inr ⟨w.heap.size, G, ROW, rfl, hB, heap_alloc_new w.drew _, hGn, hGm, hRs, rfl⟩⟩
  have hsp : ∀ (W : World) (zs' : List Value), W.ownsRow base 3 1 (.slice (some ⟨w.heap.size, 0, none⟩) (n + m) G) (n + m) zs' → ∀ k, k < (n + m) * 1 → (W.cell? ⟨w.heap.size, k, none⟩).isSome = true ∧ W.frozen? ⟨w.heap.size, k, none⟩ = false := fun W zs' hW k hk => by
    obtain ⟨g', c', e1, _, h1, h2⟩ := own_at hW (j := k) (List.getElem?_eq_getElem (by rw [hW.1]; exact hk))
    simp only [Value.slice.injEq, Option.some.injEq, Addr.mk.injEq, and_true, true_and] at e1
    obtain ⟨rfl, _⟩ := e1
    exact ⟨by rw [h1]; rfl, h2⟩
  have hOb : ∀ b j v, b < w.heap.size → w.cell? ⟨b, j, none⟩ = some v → W1.cell? ⟨b, j, none⟩ = some v := fun b j v hb h => by rw [hW1, World.cell?_alloc_past (w := w.drew) _ b j hb]; exact h
  obtain ⟨zs1, o1, l1, at1⟩ := own_sets ys (i) W1 _ o0 (by omega)
  have hcpA : ∀ (W : World), (∀ x, W.cell? x = W1.cell? x) → (∀ x, W.frozen? x = W1.frozen? x) → ∀ ty dc, (Builtin.copy_ #[107, 107] ty #[.slice (some ⟨w.heap.size, i, none⟩) (n + m - i) dc, .slice (some ⟨vb, 0, none⟩) m vc]).run Tryz.prog W = .ok (goInt (Nat.min m (n + m - i) : Nat)) (W.setCells w.heap.size (i) ys) := fun W hWc hWf ty dc =>
    run_copy_cellsN W _ _ ty 3 1 w.heap.size (i) (n + m - i) dc ⟨vb, 0, none⟩ m vc ys Tryz.underlying107 hsz (by rw [hyl]; simp only [Nat.min_def]; split <;> omega)
      (fun j v hj => by rw [Addr.add_lit, hWc, Nat.zero_add]; exact hOb _ _ v hvw (hyc j v hj))
      (fun j hj => by rw [hWc]; exact (hsp _ _ o0 _ (by omega)).1) (fun j hj => by rw [hWf]; exact (hsp _ _ o0 _ (by omega)).2) h1y
  have hcpB : ∀ (W : World), (∀ x, W.cell? x = (W1.setCells w.heap.size (i) ys).cell? x) → (∀ x, W.frozen? x = (W1.setCells w.heap.size (i) ys).frozen? x) → ∀ ty dc sc, (Builtin.copy_ #[107, 107] ty #[.slice (some ⟨w.heap.size, (i + m), none⟩) (n + m - (i + m)) dc, .slice (some ⟨g, i, none⟩) (n - i) sc]).run Tryz.prog W = .ok (goInt (Nat.min (n - i) (n + m - (i + m)) : Nat)) (W.setCells w.heap.size ((i + m)) bs) := fun W hWc hWf ty dc sc =>
    run_copy_cellsN W _ _ ty 3 1 w.heap.size ((i + m)) (n + m - (i + m)) dc ⟨g, i, none⟩ (n - i) sc bs Tryz.underlying107 hsz (by rw [hbl]; simp only [Nat.min_def]; split <;> omega)
      (fun j v hj => by
        rw [Addr.add_lit, hWc, World.cell?_setCells_out _ _ _ _ _ (fun h _ => absurd h (by omega : g ≠ w.heap.size))]
        exact hOb _ _ v hgw (hxc _ v (by rwa [hbs, List.getElem?_drop] at hj)))
      (fun j hj => by rw [hWc]; exact (hsp _ _ o1 _ (by omega)).1) (fun j hj => by rw [hWf]; exact (hsp _ _ o1 _ (by omega)).2) (fun v hv => h1x v (by rw [hbs] at hv; exact List.mem_of_mem_drop hv))
  obtain ⟨zs2, o2, l2, at2⟩ := own_sets bs ((i + m)) (W1.setCells w.heap.size (i) ys).drew _ o1.drew (by omega)
  have hfin : zs2 = xs.take (i) ++ ys ++ bs := by
    rw [hbs]
    have hzl2 : zs2.length = (n + m) * 1 := o2.1
    refine ins_eq xs ys zs2 (i) (by omega) (fun j hj => ?_) (fun j hj => ?_) (fun j => ?_)
    · rw [at2 j, if_neg (by omega), at1 j, if_neg (by omega), List.getElem?_take_of_lt (by omega)]
      exact hRa j hj
    · rw [at2, if_neg (by omega), at1, if_pos (by omega), Nat.add_sub_cancel_left]
    · by_cases hj : i + ys.length + j < (i + m) + bs.length
      · rw [at2, if_pos (by omega), hbs, List.getElem?_drop]
        congr 1; omega
      · rw [List.getElem?_eq_none (by omega), List.getElem?_eq_none (by omega)]
  rw [hfin] at o2
  have hkp : w.grownBy ((W1.setCells w.heap.size (i) ys).drew.setCells w.heap.size ((i + m)) bs) (some g) := by
    have h1 : Kp (fun _ => False) w ((W1.setCells w.heap.size (i) ys).drew.setCells w.heap.size ((i + m)) bs) := by
      rw [hW1]
      exact Kp.sets (F := fun _ => False) (g := w.heap.size) (.inr (Nat.le_refl _)) _ _ _ (Kp.sets (F := fun _ => False) (g := w.heap.size) (.inr (Nat.le_refl _)) _ _ _ (Kp.of_below ((Below.refl _ w).drew.alloc (Nat.le_refl _) _) _)).drew
    exact ⟨h1.os, h1.tape, h1.output, h1.size, fun k hk _ => h1.block k hk (fun e => e)⟩
  have HR := Lib.hid (And.intro o2 hkp)
  have mixed : (Tryz.prog).follows .mixedOrders = true := by kernel_rfl
  have hz1 : ¬ ((m : Int) = 0) := by omega
  have hz2 : ¬ ((i : Int) = (n : Int)) := by omega
  have hz3 : (cp : Int) < (n : Int) + (m : Int) := by omega
  have hGi : ¬ (G = i) := by omega
  have hGim : ¬ (G = i + m) := by omega
  have hci : ¬ (cp = i) := by have := hcp.1; omega
  have hw1 : IntKind.i64.wrap ((i : Int) + (m : Int)) = (i : Int) + (m : Int) := by rw [IntKind.wrap_i64]; omega
  have hb1 : (0 : Int) ≤ (i : Int) + (m : Int) := by omega
  have hin : i ≤ n := by omega
  have htn : ((i : Int) + (m : Int)).toNat = i + m := by omega
  have hb3 : (i : Int) ≤ (n : Int) := by omega
  have hc63 := hcp.2
  have hF1 : ∀ x, ((W1.setCells w.heap.size (i) ys).drew).cell? x = (W1.setCells w.heap.size (i) ys).cell? x := fun x => rfl
  have hF2 : ∀ x, ((W1.setCells w.heap.size (i) ys).drew).frozen? x = (W1.setCells w.heap.size (i) ys).frozen? x := fun x => rfl
  rw [← has, ← hbs]
  rw [← has] at HR
  clear o2 hkp hfin at2 at1 o1 o0 h hy hxc hyc hsp hW1 hbs has hkk hik hold hROW hG hRs hRa hOb hzc
  go_enter Tryz.func229, Tryz.ntmps229
  go_wp2_with (first
    | (at_builtin; refine Lib.wpList_append_run _ rfl _ _ _ _ rfl _ _ rfl rfl _ _ (hrz _) ?_)
    | (at_builtin; refine wpList_copy_runI _ rfl _ _ 107 107 rfl _ _ rfl rfl (hcpA _ (fun _ => rfl) (fun _ => rfl) _ _) ?_)
    | (at_builtin; refine wpList_copy_runI _ rfl _ _ 107 107 rfl _ _ rfl rfl (hcpB _ (fun _ => rfl) (fun _ => rfl) _ _ _) ?_))
  go_region_law_o (refine step_copy_runI rfl _ _ 107 107 rfl (.slice (some ⟨w.heap.size, (i + m), none⟩) (n + m - (i + m)) (G - (i + m))) (.slice (some ⟨g, i, none⟩) (n - i) (cp - i)) (by simp [Act.eval, Act.put]) (by simp [Act.eval, Act.put]) (hcpB _ hF1 hF2 3 (G - (i + m)) (cp - i)) ?_)
  go_wp2
  go_ret
  exact ⟨_, rfl, HR.out.1, HR.out.2, .inr rfl⟩
theorem vinsertI (v y : Value) (base n i m : Nat) (xs ys : List Value) (w : World) (h : w.ownsRow base 3 1 v n xs) (hi : i ≤ n) (hm : 0 < m) (hn : n + m ≤ 100000) (hy : w.ownsRow 0 3 1 y m ys) (hne : ∀ q, v.ownBlock = some q → y.ownBlock ≠ some q) (h1x : ∀ u ∈ xs, u.oneCell' = true) (h1y : ∀ u ∈ ys, u.oneCell' = true) (hB : base ≤ w.heap.size) :
    Calls Tryz.prog 229 #[v, .int .i64 i, y] w fun e w' => ∃ v', e = .returned v' ∧ w'.ownsRow base 3 1 v' (n + m) (xs.take (i) ++ ys ++ xs.drop (i)) ∧ w.grownBy w' v.ownBlock ∧ (v'.ownBlock = v.ownBlock ∨ v'.ownBlock = some w.heap.size) := by
  by_cases e : i = n
  · subst e
    refine (vinsert_endI v y base i m xs ys w h hm hn (Rd.of_own hy) hy.1 h1y hB).mono ?_
    rintro e w' ⟨v', rfl, h1, h2, h3⟩
    refine ⟨v', rfl, ?_, h2, h3⟩
    rw [List.take_of_length_le (by have := h.1; omega), List.drop_eq_nil_of_le (by have := h.1; omega), List.append_nil]
    exact h1
  · obtain ⟨g, cp, rfl⟩ : ∃ g cp, v = .slice (some ⟨g, 0, none⟩) n cp := by
      rcases h.2 with ⟨_, e⟩ | ⟨g, cp, _, e, _⟩
      · omega
      · exact ⟨g, cp, e⟩
    by_cases hr : n + m ≤ cp
    · exact vinsert_roomI y base g n cp i m xs ys w h (by omega) hm hr hy (hne g rfl) h1x h1y
    · exact vinsert_growI y base g n cp i m xs ys w h (by omega) hm (by omega) hn hy h1x h1y hB

end Go.Proofs.YtdddhmipifkepaaGreat

namespace Go.Proofs.YtdddhmipifkepaaGreat

def icmp (a b : Int) : Int := if a < b then -1 else if b < a then 1 else 0
def lcmp : List UInt8 → List UInt8 → Int
  | [], [] => 0
  | [], _ :: _ => -1
  | _ :: _, [] => 1
  | a :: x, b :: y => if a < b then -1 else if b < a then 1 else lcmp x y
def vcmp (k n : Int) (s : ByteArray) (k' n' : Int) (s' : ByteArray) : Int :=
  if k = k' then (if n = n' then lcmp s.toList s'.toList else icmp n n') else icmp k k'

theorem icmp_range (a b : Int) : -1 ≤ icmp a b ∧ icmp a b ≤ 1 := by unfold icmp; split <;> (try split) <;> omega
theorem icmp_swap (a b : Int) : icmp b a = - icmp a b := by unfold icmp; split <;> (try split) <;> (try split) <;> omega
theorem icmp_zero (a b : Int) : icmp a b = 0 ↔ a = b := by unfold icmp; split <;> (try split) <;> omega
theorem icmp_lt (a b : Int) : icmp a b = -1 ↔ a < b := by unfold icmp; split <;> (try split) <;> omega

theorem u8_ext (a b : UInt8) (h1 : ¬ a < b) (h2 : ¬ b < a) : a = b := by
  rw [UInt8.lt_iff_toNat_lt] at h1 h2
  exact UInt8.toNat_inj.1 (by omega)
theorem u8_irrefl (a : UInt8) : ¬ a < a := by rw [UInt8.lt_iff_toNat_lt]; omega

theorem lcmp_range : ∀ a b : List UInt8, -1 ≤ lcmp a b ∧ lcmp a b ≤ 1
  | [], [] => by simp [lcmp]
  | [], _ :: _ => by simp [lcmp]
  | _ :: _, [] => by simp [lcmp]
  | a :: x, b :: y => by rw [lcmp]; split <;> (try split) <;> first | omega | exact lcmp_range x y
theorem lcmp_swap : ∀ a b : List UInt8, lcmp b a = - lcmp a b
  | [], [] => by simp [lcmp]
  | [], _ :: _ => by simp [lcmp]
  | _ :: _, [] => by simp [lcmp]
  | a :: x, b :: y => by
    have ih := lcmp_swap x y
    rw [lcmp, lcmp]
    by_cases h1 : a < b
    · have h2 : ¬ b < a := by rw [UInt8.lt_iff_toNat_lt] at *; omega
      simp [h1, h2]
    · by_cases h2 : b < a <;> simp [h1, h2, ih]
theorem lcmp_zero : ∀ a b : List UInt8, lcmp a b = 0 ↔ a = b
  | [], [] => by simp [lcmp]
  | [], _ :: _ => by simp [lcmp]
  | _ :: _, [] => by simp [lcmp]
  | a :: x, b :: y => by
    have ih := lcmp_zero x y
    rw [lcmp]
    by_cases h1 : a < b
    · have : a ≠ b := fun e => u8_irrefl b (by rwa [e] at h1)
      simp [h1, this]
    · by_cases h2 : b < a
      · have : a ≠ b := fun e => u8_irrefl b (by rwa [e] at h2)
        simp [h1, h2, this]
      · simp [ih, u8_ext a b h1 h2]
theorem lcmp_less : ∀ a b : List UInt8, Op.bytesLess a b = decide (lcmp a b = -1)
  | [], [] => by simp [lcmp, Op.bytesLess]
  | [], _ :: _ => by simp [lcmp, Op.bytesLess]
  | _ :: _, [] => by simp [lcmp, Op.bytesLess]
  | a :: x, b :: y => by
    have ih := lcmp_less x y
    rw [lcmp, Op.bytesLess]
    by_cases h1 : a < b
    · simp [h1]
    · by_cases h2 : b < a
      · have : a ≠ b := fun e => u8_irrefl b (by rwa [e] at h2)
        simp [h1, h2, this]
      · simp [ih, u8_ext a b h1 h2]
theorem lcmp_trans : ∀ a b c : List UInt8, lcmp a b ≤ 0 → lcmp b c ≤ 0 → lcmp a c ≤ 0 ∧ (lcmp a c = 0 → lcmp a b = 0 ∧ lcmp b c = 0)
  | [], [], [] => by simp [lcmp]
  | [], [], _ :: _ => by simp [lcmp]
  | [], _ :: _, [] => by simp [lcmp]
  | [], _ :: _, _ :: _ => by simp [lcmp]
  | _ :: _, [], _ => by simp [lcmp]
  | _ :: _, _ :: _, [] => by simp [lcmp]
  | a :: x, b :: y, c :: z => by
    have ih := lcmp_trans x y z
    rw [lcmp, lcmp, lcmp]
    simp only [UInt8.lt_iff_toNat_lt]
    generalize a.toNat = a
    generalize b.toNat = b
    generalize c.toNat = c
    intro h1 h2
    repeat' split at h1
    all_goals repeat' split at h2
    all_goals repeat' split
    all_goals first | omega | exact ih h1 h2

theorem icmp_m1 {a b : Int} (h : a < b) : -1 = icmp a b := by simp [icmp, h]
theorem icmp_p1 {a b : Int} (h : b < a) : 1 = icmp a b := by unfold icmp; rw [if_neg (by omega), if_pos h]
theorem icmp_0 {a b : Int} (h : b ≤ a) (h' : a ≤ b) : 0 = icmp a b := by unfold icmp; rw [if_neg (by omega), if_neg (by omega)]
theorem lcmp_m1 {a b : List UInt8} (h : Op.bytesLess a b = true) : -1 = lcmp a b := by rw [lcmp_less] at h; exact (of_decide_eq_true h).symm
theorem lcmp_p1 {a b : List UInt8} (h : Op.bytesLess a b = false) (h' : (!a == b) = true) : 1 = lcmp a b := by
  rw [lcmp_less] at h
  have h1 := of_decide_eq_false h
  have h2 : ¬ lcmp a b = 0 := fun e => by rw [(lcmp_zero a b).1 e] at h'; simp at h'
  have := lcmp_range a b
  omega
theorem lcmp_0 {a b : List UInt8} (h' : (!a == b) = false) : 0 = lcmp a b := by
  have : a = b := by simpa using h'
  exact ((lcmp_zero a b).2 this).symm

theorem vcmp_range (k n : Int) (s : ByteArray) (k' n' : Int) (s' : ByteArray) : -1 ≤ vcmp k n s k' n' s' ∧ vcmp k n s k' n' s' ≤ 1 := by
  unfold vcmp; split <;> (try split)
  · exact lcmp_range _ _
  · exact icmp_range _ _
  · exact icmp_range _ _
theorem vcmp_swap (k n : Int) (s : ByteArray) (k' n' : Int) (s' : ByteArray) : vcmp k' n' s' k n s = - vcmp k n s k' n' s' := by
  unfold vcmp
  by_cases h1 : k = k'
  · by_cases h2 : n = n'
    · simp [h1, h2, lcmp_swap s.toList]
    · simp [h1, h2, Ne.symm h2, icmp_swap n]
  · simp [h1, Ne.symm h1, icmp_swap k]
theorem vcmp_zero (k n : Int) (s : ByteArray) (k' n' : Int) (s' : ByteArray) : vcmp k n s k' n' s' = 0 ↔ k = k' ∧ n = n' ∧ s.toList = s'.toList := by
  unfold vcmp
  by_cases h1 : k = k'
  · by_cases h2 : n = n'
    · simp [h1, h2, lcmp_zero]
    · simp [h1, h2, icmp_zero]
  · simp [h1, icmp_zero]
theorem vcmp_trans (k1 n1 : Int) (s1 : ByteArray) (k2 n2 : Int) (s2 : ByteArray) (k3 n3 : Int) (s3 : ByteArray) :
    vcmp k1 n1 s1 k2 n2 s2 ≤ 0 → vcmp k2 n2 s2 k3 n3 s3 ≤ 0 → vcmp k1 n1 s1 k3 n3 s3 ≤ 0 ∧ (vcmp k1 n1 s1 k3 n3 s3 = 0 → vcmp k1 n1 s1 k2 n2 s2 = 0 ∧ vcmp k2 n2 s2 k3 n3 s3 = 0) := by
  have e1 : ∀ a b : Int, icmp a b ≤ 0 → a ≠ b → a < b := fun a b h hne => by unfold icmp at h; split at h <;> (try split at h) <;> omega
  have e2 : ∀ a b : Int, a < b → icmp a b = -1 := fun a b h => (icmp_lt a b).2 h
  unfold vcmp
  have L := lcmp_trans s1.toList s2.toList s3.toList
  by_cases ha : k1 = k2
  · subst ha
    by_cases hb : k1 = k3
    · subst hb
      simp only [if_true]
      by_cases hc : n1 = n2
      · subst hc
        by_cases hd : n1 = n3
        · subst hd; simpa using L
        · simp only [if_true, if_neg hd]; intro _ h; have := e2 _ _ (e1 _ _ h hd); omega
      · simp only [if_neg hc]
        by_cases hd : n2 = n3
        · subst hd; simp only [if_true, if_neg hc]; intro h _; have := e2 _ _ (e1 _ _ h hc); omega
        · simp only [if_neg hd]; intro h h'
          have a1 := e1 _ _ h hc; have a2 := e1 _ _ h' hd
          rw [if_neg (by omega), e2 n1 n3 (by omega)]; omega
    · simp only [if_true, if_neg hb]; intro _ h; have := e2 _ _ (e1 _ _ h hb); omega
  · simp only [if_neg ha]
    by_cases hb : k2 = k3
    · subst hb; simp only [if_true, if_neg ha]; intro h _; have := e2 _ _ (e1 _ _ h ha); omega
    · simp only [if_neg hb]; intro h h'
      have a1 := e1 _ _ h ha; have a2 := e1 _ _ h' hb
      rw [if_neg (by omega), e2 k1 k3 (by omega)]; omega

theorem vc_0 {k n k' n' : Int} {s s' : ByteArray} (h1 : k = k') (h2 : n = n') (h3 : s.toList = s'.toList) : 0 = vcmp k n s k' n' s' := ((vcmp_zero _ _ _ _ _ _).2 ⟨h1, h2, h3⟩).symm
theorem vc_s {k n k' n' : Int} {s s' : ByteArray} (h1 : k = k') (h2 : n = n') : lcmp s.toList s'.toList = vcmp k n s k' n' s' := by simp [vcmp, h1, h2]
theorem vc_n {k n k' n' : Int} {s s' : ByteArray} (h1 : k = k') (h2 : ¬ n = n') : icmp n n' = vcmp k n s k' n' s' := by simp [vcmp, h1, h2]
theorem vc_k {k n k' n' : Int} {s s' : ByteArray} (h1 : ¬ k = k') : icmp k k' = vcmp k n s k' n' s' := by simp [vcmp, h1]

def rightB (k n : Int) (s : ByteArray) : Bool :=
  if k = 0 then decide (n = 0) && s.toList.isEmpty else if k = 1 then (decide (n = 0) || decide (n = 1)) && s.toList.isEmpty else if k = 2 then s.toList.isEmpty
  else if k = 3 then decide (n = 0) && decide ((s.size : Int) ≤ 4096) else false

theorem drop_at (s : ByteArray) (i : Nat) (h : i < s.size) : s.toList.drop i = s[i] :: s.toList.drop (i + 1) := by
  rw [ByteArray.toList_eq, List.drop_eq_getElem_cons (by simpa using h)]; rfl
theorem len_toList (s : ByteArray) : s.toList.length = s.size := by rw [ByteArray.toList_eq]; simp
theorem lc_part {s t : ByteArray} {i : Nat} (hi : i < s.size) (hj : i < t.size) (hd : lcmp s.toList t.toList = lcmp (s.toList.drop i) (t.toList.drop i)) (hne : ((s[i].toNat : Int) != (t[i].toNat : Int)) = true) :
    decide (s[i].toNat < t[i].toNat) = decide (lcmp s.toList t.toList = -1) := by
  rw [hd, drop_at s i hi, drop_at t i hj, lcmp]
  simp only [UInt8.lt_iff_toNat_lt]
  have : ¬ (s[i].toNat : Int) = (t[i].toNat : Int) := by simpa using hne
  by_cases h : s[i].toNat < t[i].toNat
  · simp [h]
  · have h' : t[i].toNat < s[i].toNat := by omega
    simp [h, h']
theorem lc_on {s t : ByteArray} {i : Nat} (hi : i < s.size) (hj : i < t.size) (hd : lcmp s.toList t.toList = lcmp (s.toList.drop i) (t.toList.drop i)) (hne : ((s[i].toNat : Int) != (t[i].toNat : Int)) = false) :
    lcmp s.toList t.toList = lcmp (s.toList.drop (i + 1)) (t.toList.drop (i + 1)) := by
  rw [hd, drop_at s i hi, drop_at t i hj, lcmp]
  have e : s[i].toNat = t[i].toNat := by have : (s[i].toNat : Int) = (t[i].toNat : Int) := by simpa using hne
                                         omega
  simp only [UInt8.lt_iff_toNat_lt]
  rw [if_neg (by omega), if_neg (by omega)]
theorem lc_end {s t : ByteArray} {i : Nat} (hi : i ≤ s.size) (hj : i ≤ t.size) (hd : lcmp s.toList t.toList = lcmp (s.toList.drop i) (t.toList.drop i)) (h : ¬ (i < s.size ∧ i < t.size)) :
    decide (s.size < t.size) = decide (lcmp s.toList t.toList = -1) := by
  rw [hd]
  by_cases h1 : i < s.size
  · have h2 : i = t.size := by omega
    rw [drop_at s i h1, List.drop_eq_nil_of_le (show t.toList.length ≤ i by rw [len_toList]; omega)]
    simp [lcmp]; omega
  · have h1' : i = s.size := by omega
    rw [List.drop_eq_nil_of_le (show s.toList.length ≤ i by rw [len_toList]; omega)]
    by_cases h2 : i < t.size
    · rw [drop_at t i h2]; simp [lcmp]; omega
    · rw [List.drop_eq_nil_of_le (show t.toList.length ≤ i by rw [len_toList]; omega)]; simp [lcmp]; omega
def lessB (k n : Int) (s : ByteArray) (k' n' : Int) (s' : ByteArray) : Bool := decide (vcmp k n s k' n' s' = -1)
theorem less_k {k n k' n' : Int} {s s' : ByteArray} (h : ¬ k = k') : decide (k < k') = lessB k n s k' n' s' := by simp [lessB, vcmp, h, icmp_lt]
theorem less_n {k n k' n' : Int} {s s' : ByteArray} (h : k = k') (h2 : ¬ n = n') : decide (n < n') = lessB k n s k' n' s' := by simp [lessB, vcmp, h, h2, icmp_lt]
theorem less_s (k n : Int) (s s' : ByteArray) : lessB k n s k n s' = decide (lcmp s.toList s'.toList = -1) := by simp [lessB, vcmp]
theorem bytes_ext {s t : ByteArray} (h : s.toList = t.toList) : s = t := by
  rw [ByteArray.toList_eq, ByteArray.toList_eq] at h
  obtain ⟨⟨a⟩⟩ := s
  obtain ⟨⟨b⟩⟩ := t
  simp at h
  rw [h]

end Go.Proofs.YtdddhmipifkepaaGreat
