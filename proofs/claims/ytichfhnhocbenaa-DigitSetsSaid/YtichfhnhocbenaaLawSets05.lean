/- For any set of digits and any number: Has, Place, Len and All tell what the document tells (DigitSets returns true; the arguments read as they did). No condition. -/
import Derived.Test.YtichfhnhocbenaaRows
import Derived.Test.YtichfhnhocbenaaLaw05
import Derived.Test.YtichfhnhocbenaaAll05
import Derived.Test.YtichfhnhocbenaaBoxes
import Derived.OpenShut
import Derived.Deep.RegionHeld3
namespace Go.Proofs.Ytichfhnhocbenaa.digitSets
open Go.ChangeShapes Go.WideShapes Go.ChangeAt Go.RowKit Go.Shelf
attribute [local go_sem] Oper.semAt_some

theorem own : ownKnob Try.prog.godebug = none := by kernel_rfl

/-- Whether a number is in the set. -/
def hasN (n : Nat) (k : Int) : Bool := digB k && n.testBit k.toNat
theorem has_any (n : Nat) (hn : n < 4294967296) (k : Int) (w : World) : Calls Try.prog 7 #[.int .u32 n, .int .i64 k] w fun e w' => e = .returned (.bool (hasN n k)) ∧ w = w' := by
  cases hd : digB k
  · refine (has_no n k hd w).mono ?_
    rintro e w' ⟨rfl, rfl⟩
    exact ⟨ret_bool (by rw [hasN, hd]; rfl), rfl⟩
  · have h : 0 ≤ k ∧ k < 32 := by simpa [digB] using hd
    obtain ⟨j, rfl⟩ := Int.eq_ofNat_of_zero_le h.1
    refine (has n hn j (by omega) w).mono ?_
    rintro e w' ⟨rfl, rfl⟩
    exact ⟨ret_bool (by rw [hasN, hd, Bool.true_and]; rfl), rfl⟩

/-- What stands between two rounds of the count: c digits have come, the last of them is known. -/
structure Cnt (w : World) (n b6 b9 : Nat) (c : Nat) (W : World) : Prop where
  c4 : C1 W w.heap.size 4 (.bool false)
  row : Brow W (w.heap.size + 1) n
  c6 : C1 W b6 25 (.slice (some ⟨w.heap.size + 1, 0, none⟩) 32 32)
  c9 : ∃ l : Int, C1 W b9 3 (.int .i64 l) ∧ ((c = 0 ∧ l = -1) ∨ ∃ x : Nat, 0 < c ∧ l = x ∧ (dgs n 32)[c - 1]? = some x)
  c10 : C1 W (b9 + 1) 3 (.int .i64 (c : Int))
  lo : w.heap.size ≤ b9
  kept : Below w.heap.size w W
theorem Cnt.own {w V : World} {n b6 b9 c0 : Nat} (hV : Cnt w n b6 b9 c0 V) : OwnFrom V.heap.size (Cnt w n b6 b9) := by
  intro c W W' row h hg hr
  obtain ⟨l, h9, hl⟩ := h.c9
  refine ⟨h.c4.own hg hr, ?_, h.c6.own hg hr, ⟨l, h9.own hg hr, hl⟩, h.c10.own hg hr, h.lo, ?_⟩
  · obtain ⟨A, hA, hbits⟩ := h.row
    exact ⟨A, cells_own hA hg hr, hbits⟩
  · exact below_own_from h.kept hV.kept.size hg hr
theorem Cnt.next {w W : World} {n b6 b9 c x : Nat} {l : Int} (h : Cnt w n b6 b9 c W) (h9 : C1 W b9 3 (.int .i64 l)) (hx : (dgs n 32)[c]? = some x) :
    Cnt w n b6 b9 (c + 1) ((W.setCell ⟨b9, 0, none⟩ (.int .i64 (x : Int))).setCell ⟨b9 + 1, 0, none⟩ (.int .i64 ((c : Int) + 1))) := by
  obtain ⟨A, hA, hbits⟩ := h.row
  have d4 : w.heap.size ≠ b9 := ne_types h.c4 h9 (by decide)
  have d4' : w.heap.size ≠ b9 + 1 := ne_types h.c4 h.c10 (by decide)
  have d5 : w.heap.size + 1 ≠ b9 := ne_types hA h9 (by decide)
  have d5' : w.heap.size + 1 ≠ b9 + 1 := ne_types hA h.c10 (by decide)
  have d6 : b6 ≠ b9 := ne_types h.c6 h9 (by decide)
  have d6' : b6 ≠ b9 + 1 := ne_types h.c6 h.c10 (by decide)
  refine ⟨(h.c4.other d4 _).other d4' _, ⟨A, ?_, hbits⟩, (h.c6.other d6 _).other d6' _, ⟨x, (h9.set _).other (by omega) _, .inr ⟨x, by omega, rfl, hx⟩⟩, ?_, h.lo, (h.kept.setCell h.lo _).setCell (by have := h.lo; show w.heap.size ≤ b9 + 1; omega) _⟩
  · exact (Below.heap_setCell _ _ _ _ d5').trans ((Below.heap_setCell _ _ _ _ d5).trans hA)
  · have := (h.c10.other (o := 0) (show b9 + 1 ≠ b9 by omega) (.int .i64 (x : Int))).set (.int .i64 ((c : Int) + 1))
    simpa using this
theorem Cnt.start {w wr : World} {n b6 : Nat} (h4 : C1 wr w.heap.size 4 (.bool false)) (hr : Brow wr (w.heap.size + 1) n) (h6 : C1 wr b6 25 (.slice (some ⟨w.heap.size + 1, 0, none⟩) 32 32)) (hk : Below w.heap.size w wr) :
    Cnt w n b6 wr.heap.size 0 ((wr.alloc (.cells #[.int .i64 (-1)] 3)).alloc (.cells #[.int .i64 0] 3)) := by
  have hb : Below wr.heap.size wr ((wr.alloc (.cells #[.int .i64 (-1)] 3)).alloc (.cells #[.int .i64 0] 3)) := ((Below.refl _ wr).alloc (Nat.le_refl _) _).alloc (by simp) _
  refine ⟨h4.below hb, hr.below hb, h6.below hb, ⟨-1, (C1.new wr _ _).alloc _, .inl ⟨rfl, rfl⟩⟩, ?_, hk.size, hk.trans (hb.mono hk.size)⟩
  have := C1.new (wr.alloc (.cells #[.int .i64 (-1)] 3)) 3 (.int .i64 0)
  rwa [World.size_alloc] at this

theorem kept_row {W W' : World} {k B : Nat} {o : Obj} (h : W.heap[k]? = some o) (hk : k < B) {row : Option Nat} (hg : W.grownBy W' row) (hr : ∀ r, row = some r → B ≤ r ∧ ∃ o : Obj, W.heap[r]? = some o ∧ o.isCells = false) : W'.heap[k]? = some o :=
  (hg.block k (Array.getElem?_eq_some_iff.1 h).1 fun e => by have := (hr k e.symm).1; omega).trans h
/-- What stands between two rounds of the range that ends at once. -/
structure Fst (w : World) (n b6 b9 b12 D : Nat) (i : Nat) (W : World) : Prop where
  z : i = 0
  cnt : Cnt w n b6 b9 (dgs n 32).length W
  c12 : C1 W b12 3 (.int .i64 0)
  ne : b12 ≠ b9 ∧ b12 ≠ b9 + 1
  lo : w.heap.size ≤ b12
  dfr : W.heap[D]? = some (.deferred (some []))
structure FstX (w : World) (n b6 b9 b12 D : Nat) (c : Code) (i : Nat) (W : World) : Prop where
  z : c = .exit 4
  pos : 0 < (dgs n 32).length
  cnt : Cnt w n b6 b9 (dgs n 32).length W
  c12 : C1 W b12 3 (.int .i64 1)
  dfr : W.heap[D]? = some (.deferred (some []))
theorem Fst.own {w V : World} {n b6 b9 b12 D i0 : Nat} (hV : Fst w n b6 b9 b12 D i0 V) : OwnFrom V.heap.size (Fst w n b6 b9 b12 D) := fun _ _ _ _ h hg hr =>
  ⟨h.z, hV.cnt.own _ _ _ _ h.cnt hg hr, h.c12.own hg hr, h.ne, h.lo, kept_row h.dfr (Array.getElem?_eq_some_iff.1 hV.dfr).1 hg hr⟩
theorem Fst.ownX {w V : World} {n b6 b9 b12 D i0 : Nat} (hV : Fst w n b6 b9 b12 D i0 V) (c : Code) : OwnFrom V.heap.size (FstX w n b6 b9 b12 D c) := fun _ _ _ _ h hg hr =>
  ⟨h.z, h.pos, hV.cnt.own _ _ _ _ h.cnt hg hr, h.c12.own hg hr, kept_row h.dfr (Array.getElem?_eq_some_iff.1 hV.dfr).1 hg hr⟩
theorem Fst.start {w W : World} {n b6 b9 D : Nat} (h : Cnt w n b6 b9 (dgs n 32).length W) (hD : W.heap[D]? = some (.deferred (some []))) : Fst w n b6 b9 W.heap.size D 0 (W.alloc (.cells #[.int .i64 0] 3)) := by
  have hb : Below W.heap.size W (W.alloc (.cells #[.int .i64 0] 3)) := (Below.refl _ W).alloc (Nat.le_refl _) _
  obtain ⟨l, h9, hl⟩ := h.c9
  have := h9.lt
  have := h.c10.lt
  exact ⟨rfl, ⟨h.c4.below hb, h.row.below hb, h.c6.below hb, ⟨l, h9.below hb, hl⟩, h.c10.below hb, h.lo, h.kept.trans (hb.mono h.kept.size)⟩, C1.new W _ _, by omega, h.kept.size, (hb.block D (Array.getElem?_eq_some_iff.1 hD).1).trans hD⟩
theorem not_cells {W : World} {b D : Nat} {A : Array Value} {t : TypeId} {z : Nat × Nat} {l : Option (List Deferred)} (hb : W.heap[b]? = some (.cells A t z)) (hD : W.heap[D]? = some (.deferred l)) : D ≠ b := by
  rintro rfl
  rw [hb] at hD
  cases hD
theorem c1_not {W : World} {b D : Nat} {x : Value} {t : TypeId} {l : Option (List Deferred)} (hb : C1 W b t x) (hD : W.heap[D]? = some (.deferred l)) : D ≠ b := not_cells hb hD
theorem Fst.next {w W : World} {n b6 b9 b12 D i x : Nat} (h : Fst w n b6 b9 b12 D i W) (hx : (dgs n 32)[i]? = some x) : FstX w n b6 b9 b12 D (.exit 4) (i + 1) (W.setCell ⟨b12, 0, none⟩ (.int .i64 1)) := by
  obtain ⟨A, hA, hbits⟩ := h.cnt.row
  obtain ⟨l, h9, hl⟩ := h.cnt.c9
  have d4 : w.heap.size ≠ b12 := ne_types h.cnt.c4 h.c12 (by decide)
  have d5 : w.heap.size + 1 ≠ b12 := ne_types hA h.c12 (by decide)
  have d6 : b6 ≠ b12 := ne_types h.cnt.c6 h.c12 (by decide)
  have h0 : 0 < (dgs n 32).length := by have := (List.getElem?_eq_some_iff.1 hx).1; omega
  exact ⟨rfl, h0, ⟨h.cnt.c4.other d4 _, ⟨A, (Below.heap_setCell _ _ _ _ d5).trans hA, hbits⟩, h.cnt.c6.other d6 _, ⟨l, h9.other h.ne.1.symm _, hl⟩, h.cnt.c10.other h.ne.2.symm _, h.cnt.lo, h.cnt.kept.setCell h.lo _⟩, h.c12.set _, (Below.heap_setCell _ _ _ _ (c1_not h.c12 h.dfr)).trans h.dfr⟩

/-- The bool that a cell holds. -/
def cB (W : World) (b : Nat) : Bool := match W.cell? ⟨b, 0, none⟩ with
  | some (.bool x) => x
  | _ => false
theorem cB_of {W : World} {b : Nat} {x : Bool} (h : C1 W b 4 (.bool x)) : W.cell? ⟨b, 0, none⟩ = some (.bool (cB W b)) := by
  have := h.c0
  unfold cB
  rw [this]

/-- What is read at the end. -/
structure Fin20 (w : World) (c : Int) (b10 b12 D D2 : Nat) (v : Int) (W : World) : Prop where
  c4 : ∃ x, C1 W w.heap.size 4 (.bool x)
  c10 : C1 W b10 3 (.int .i64 c)
  c12 : C1 W b12 3 (.int .i64 v)
  kept : Below w.heap.size w W
  dfr : W.heap[D]? = some (.deferred (some []))
  dfr2 : W.heap[D2]? = some (.deferred (some []))
  ord : w.heap.size ≤ D ∧ D < D2
theorem Fin20.grow {w W W' : World} {c : Int} {b10 b12 D D2 : Nat} {v : Int} (h : Fin20 w c b10 b12 D D2 v W) (hb : Below W.heap.size W W') : Fin20 w c b10 b12 D D2 v W' := by
  obtain ⟨x, h4⟩ := h.c4
  exact ⟨⟨x, h4.below hb⟩, h.c10.below hb, h.c12.below hb, h.kept.trans (hb.mono h.kept.size), (hb.block D (Array.getElem?_eq_some_iff.1 h.dfr).1).trans h.dfr, (hb.block D2 (Array.getElem?_eq_some_iff.1 h.dfr2).1).trans h.dfr2, h.ord⟩
theorem Fin20.drew {w W : World} {c : Int} {b10 b12 D D2 : Nat} {v : Int} (h : Fin20 w c b10 b12 D D2 v W) : Fin20 w c b10 b12 D D2 v W.drew := ⟨h.c4, h.c10, h.c12, h.kept.drew, h.dfr, h.dfr2, h.ord⟩
theorem Fin20.store {w W : World} {c : Int} {b10 b12 D D2 : Nat} {v : Int} (h : Fin20 w c b10 b12 D D2 v W) (y : Bool) : Fin20 w c b10 b12 D D2 v (W.setCell ⟨w.heap.size, 0, none⟩ (.bool y)) := by
  obtain ⟨x, h4⟩ := h.c4
  have d : b10 ≠ w.heap.size := ne_types h.c10 h4 (by decide)
  have d' : b12 ≠ w.heap.size := ne_types h.c12 h4 (by decide)
  exact ⟨⟨y, h4.set _⟩, h.c10.other d _, h.c12.other d' _, h.kept.setCell (Nat.le_refl _) _, (Below.heap_setCell _ _ _ _ (c1_not h4 h.dfr)).trans h.dfr, (Below.heap_setCell _ _ _ _ (c1_not h4 h.dfr2)).trans h.dfr2, h.ord⟩

theorem Fin20.finish {w W : World} {c : Int} {b10 b12 D D2 : Nat} {v : Int} {y : Bool} (h : Fin20 w c b10 b12 D D2 v (W.setCell ⟨w.heap.size, 0, none⟩ (.bool y))) :
    (W.setCell ⟨w.heap.size, 0, none⟩ (.bool y)).heap[D2]? = some (.deferred (some [])) ∧ ((W.setCell ⟨w.heap.size, 0, none⟩ (.bool y)).putObj D2 (.deferred none)).heap[D]? = some (.deferred (some [])) ∧
    (((W.setCell ⟨w.heap.size, 0, none⟩ (.bool y)).putObj D2 (.deferred none)).putObj D (.deferred none)).cell? ⟨w.heap.size, 0, none⟩ = some (.bool y) ∧
    Below w.heap.size w (((W.setCell ⟨w.heap.size, 0, none⟩ (.bool y)).putObj D2 (.deferred none)).putObj D (.deferred none)) ∧ True := by
  obtain ⟨x, h4⟩ := h.c4
  obtain ⟨o1, o2⟩ := h.ord
  have n1 := c1_not h4 h.dfr
  have n2 := c1_not h4 h.dfr2
  exact ⟨h.dfr2, (World.putObj_heap_other (by omega)).trans h.dfr, ((h4.stored.put n2.symm _).put n1.symm _).c0, below_put (below_put h.kept (by omega) _) o1 _, trivial⟩

set_option maxRecDepth 100000 in
set_option maxHeartbeats 8000000 in
theorem walk (n : Nat) (hn : n < 4294967296) (i : Int) (hi : -9223372036854775808 ≤ i ∧ i ≤ 9223372036854775807) (w : World) :
    Calls Try.prog 3 #[.int .u32 n, .int .i64 i] w fun e w' => e = .returned (.bool true) ∧ Below w.heap.size w w' := by
  refine (callsIn_wide (n := 3)).1 ?_
  refine callsIn_of_wp_marks Try.func3 rfl trivial ?_ rfl
  refine wpIn_wide.2 ?_
  simp only [Try.ntmps3, List.size_toArray, List.length_cons, List.length_nil, Nat.reduceAdd, Nat.reduceSub, Array.replicate_succ, Array.replicate_zero, List.push_toArray, List.append_toArray, List.nil_append, List.cons_append]
  go_wp2_with fail
  refine (lives5 _).mono ?_
  rintro e w' ⟨rfl, rfl⟩
  go_wp2_with fail
  refine (ref_set n hn _).mono ?_
  rintro e w1 ⟨rfl, g1, hb⟩
  go_wp2_with fail
  have G1 := Lib.hid g1
  have W2 : C1 ((w1.alloc (.cells #[.slice (some ⟨w.heap.size + 1, 0, none⟩) 32 32] 25)).alloc (.cells #[.int .i64 i, .int .i64 (i.tmod 40)] 3)) w.heap.size 4 (.bool false) := ((C1.new w _ _).below g1.below).alloc _ |>.alloc _
  have W6 := ((C1.new w1 25 (.slice (some ⟨w.heap.size + 1, 0, none⟩) 32 32)).alloc (.cells #[.int .i64 i, .int .i64 (i.tmod 40)] 3))
  have WB : Brow ((w1.alloc (.cells #[.slice (some ⟨w.heap.size + 1, 0, none⟩) 32 32] 25)).alloc (.cells #[.int .i64 i, .int .i64 (i.tmod 40)] 3)) (w.heap.size + 1) n := by
    rw [World.size_alloc] at hb
    exact (hb.below ((Below.refl _ _).alloc (Nat.le_refl _) _)).below ((Below.refl _ _).alloc (Nat.le_refl _) _)
  have WS : ((w1.alloc (.cells #[.slice (some ⟨w.heap.size + 1, 0, none⟩) 32 32] 25)).alloc (.cells #[.int .i64 i, .int .i64 (i.tmod 40)] 3)).heap[w1.heap.size + 1]? = some (.cells #[.int .i64 i, .int .i64 (i.tmod 40)] 3 (0, 0)) := by
    have := heap_alloc_new (w1.alloc (.cells #[.slice (some ⟨w.heap.size + 1, 0, none⟩) 32 32] 25)) (.cells #[.int .i64 i, .int .i64 (i.tmod 40)] 3)
    rwa [World.size_alloc] at this
  have WL : Below w.heap.size w ((w1.alloc (.cells #[.slice (some ⟨w.heap.size + 1, 0, none⟩) 32 32] 25)).alloc (.cells #[.int .i64 i, .int .i64 (i.tmod 40)] 3)) := by
    have h1 : Below w.heap.size w w1 := ((Below.refl _ w).alloc (Nat.le_refl _) _).trans (g1.below.mono (by simp))
    exact (h1.alloc h1.size _).alloc (by have := h1.size; simp; omega) _
  clear g1 hb G1
  obtain ⟨b6, hb6⟩ : ∃ b6, b6 = w1.heap.size := ⟨_, rfl⟩
  rw [← hb6] at W6 WS ⊢
  generalize (w1.alloc (.cells #[.slice (some ⟨w.heap.size + 1, 0, none⟩) 32 32] 25)).alloc (.cells #[.int .i64 i, .int .i64 (i.tmod 40)] 3) = W0 at W2 W6 WB WS WL ⊢
  clear hb6 w1
  go_loopw [23] (fun x wr => ∃ j : Nat, j ≤ 2 ∧ x = .int .i64 j ∧ Gw W0 wr) (fun x _ => 2 - (intOf x).toNat)
  case atStart => exact ⟨0, by decide, rfl, Gw.refl _⟩
  case round =>
    obtain ⟨j, hj, rfl, hg⟩ := hrel
    have hr : wr.heap[b6 + 1]? = some (.cells #[.int .i64 i, .int .i64 (i.tmod 40)] 3 (0, 0)) := (hg.below.block _ (Array.getElem?_eq_some_iff.1 WS).1).trans WS
    have h6 := (W6.below hg.below).c0
    have hbr := WB.below hg.below
    by_cases h1 : j < 2
    · obtain ⟨y, hy, hlo, hhi⟩ : ∃ y : Int, wr.cell? ⟨b6 + 1, j, none⟩ = some (.int .i64 y) ∧ -9223372036854775808 ≤ y ∧ y ≤ 9223372036854775807 := by
        rw [cell_of_row _ _ _ _ _ _ hr]
        have hj2 : j = 0 ∨ j = 1 := by omega
        rcases hj2 with rfl | rfl
        · exact ⟨i, rfl, hi⟩
        · refine ⟨i.tmod 40, rfl, ?_⟩
          have := Int.tmod_lt_of_pos i (show (0 : Int) < 40 by decide)
          have := Int.lt_tmod_of_pos i (show (0 : Int) < 40 by decide)
          omega
      clear hr
      by_cases h0 : y < 0
      · go_wp2_with fail
        refine (has_no n y (by simp [digB]; omega) _).mono ?_
        rintro e w' ⟨rfl, rfl⟩
        go_wp2_with fail
        refine (place n hn y _).mono ?_
        rintro e w3 ⟨rfl, g3⟩
        go_wp2_with fail
        refine (ref_below n hn y _).mono ?_
        rintro e w4 ⟨rfl, g4⟩
        go_wp2_with fail
        go_roundw
        case rel => exact ⟨j + 1, by omega, by go_num, (hg.trans g3).trans g4⟩
        case measure => simp [intOf]; omega
      by_cases h32 : 32 ≤ y
      · go_wp2_with fail
        refine (has_no n y (by simp [digB]; omega) _).mono ?_
        rintro e w' ⟨rfl, rfl⟩
        go_wp2_with fail
        refine (place n hn y _).mono ?_
        rintro e w3 ⟨rfl, g3⟩
        go_wp2_with fail
        refine (ref_below n hn y _).mono ?_
        rintro e w4 ⟨rfl, g4⟩
        go_wp2_with fail
        go_roundw
        case rel => exact ⟨j + 1, by omega, by go_num, (hg.trans g3).trans g4⟩
        case measure => simp [intOf]; omega
      · obtain ⟨k, rfl⟩ := Int.eq_ofNat_of_zero_le (show 0 ≤ y by omega)
        have hk : k < 32 := by omega
        have hc := hbr.cell hk
        go_wp2_with fail
        refine (has n hn k hk _).mono ?_
        rintro e w' ⟨rfl, rfl⟩
        cases hb : n.testBit k
        all_goals
          rw [hb] at hc
          go_wp2_with fail
          refine (place n hn k _).mono ?_
          rintro e w3 ⟨rfl, g3⟩
          go_wp2_with fail
          refine (ref_below n hn k _).mono ?_
          rintro e w4 ⟨rfl, g4⟩
          go_wp2_with fail
          go_roundw
          case rel => exact ⟨j + 1, by omega, by go_num, (hg.trans g3).trans g4⟩
          case measure => simp [intOf]; omega
    · obtain rfl : j = 2 := by omega
      have hI := Cnt.start (W2.below hg.below) hbr (W6.below hg.below) (WL.trans (hg.below.mono WL.size))
      clear hr h6 hbr
      go_wp2_with fail
      generalize (wr.alloc (.cells #[.int .i64 (-1)] 3)).alloc (.cells #[.int .i64 0] 3) = V at hI ⊢
      generalize wr.heap.size = b9 at hI ⊢
      refine wp_range (encs := fun x : Nat => #[.int .i64 (x : Int)]) (first := #[.int .u32 n]) (last := #[]) (f := 10) rfl (fun _ _ => rfl) (fun _ => rfl) (all_gives n hn (fun _ _ => True) V) (fun _ _ => trivial) (fun _ _ _ _ _ _ _ _ => trivial) (Cnt w n b6 b9) (fun _ _ _ => False) hI.own (fun c _ _ _ _ h => h.elim) hI ?_ ?_ (fun _ _ _ _ _ _ h => h.elim)
      · intro l i x W hx
        gi_wp2
        refine ⟨trivial, fun W' hI' hsz => ?_⟩
        obtain ⟨hx32, hbit, hcnt⟩ := dgs_back n 32 i x hx
        obtain ⟨l9, h9, hl9⟩ := hI'.c9
        have hlt : l9 < (x : Int) := by
          rcases hl9 with ⟨_, rfl⟩ | ⟨y, hi0, rfl, hy⟩
          · omega
          · have := dgs_rise n hy hx (by omega)
            omega
        have HN := Lib.hid (hI'.next h9 hx)
        have hi32 : i < 32 := by have := cnt_le n x; omega
        have hc := hI'.row.cell hx32
        rw [hbit] at hc
        have q6 := hI'.c6.c0
        have q9 := h9.all
        have q10 := hI'.c10.all
        clear hbit hcnt hl9 hx h9 hI' hsz
        obtain ⟨q9a, q9b⟩ := q9
        obtain ⟨q10a, q10b⟩ := q10
        gi_wp2
        exact ⟨((KeepsOthers.refl W').trans (KeepsOthers.setCell _ _ _)).trans (KeepsOthers.setCell _ _ _), trivial, HN.out⟩
      · intro D W hD hI' hdef
        go_wp2_with fail
        have hDlo : w.heap.size ≤ D := Nat.le_trans hI.kept.size hD
        have hF := Fst.start hI' hdef
        generalize W.alloc (.cells #[.int .i64 0] 3) = V2 at hF ⊢
        generalize W.heap.size = b12 at hF ⊢
        clear hI' hdef hI hg WL WB W6 W2
        refine wp_range (encs := fun x : Nat => #[.int .i64 (x : Int)]) (first := #[.int .u32 n]) (last := #[]) (f := 10) rfl (fun _ _ => rfl) (fun _ => rfl) (all_gives n hn (fun _ _ => True) V2) (fun _ _ => trivial) (fun _ _ _ _ _ _ _ _ => trivial) (Fst w n b6 b9 b12 D) (FstX w n b6 b9 b12 D) hF.own hF.ownX hF ?_ ?_ ?_
        · intro l i x W3 hx
          gi_wp2
          refine ⟨trivial, fun W4 hI4 hsz => ?_⟩
          have HX := Lib.hid (hI4.next hx)
          obtain ⟨q12a, q12b⟩ := hI4.c12.all
          clear hI4 hsz hx
          gi_wp2
          exact ⟨(KeepsOthers.refl W4).trans (KeepsOthers.setCell _ _ _), HX.out⟩
        · intro D2 W3 hD2 hI3 hdef
          have hOrd : w.heap.size ≤ D ∧ D < D2 := ⟨hDlo, by have := (Array.getElem?_eq_some_iff.1 hF.dfr).1; omega⟩
          have hz := hI3.z
          rw [dgs_len] at hz
          have HZ := Lib.hid (show ((cnt n 32 : Nat) : Int) = 0 by omega)
          have HP := Lib.hid (show ((placeN n 32 : Nat) : Int) = 0 by show ((cnt n 32 : Nat) : Int) = 0; omega)
          have HS := Lib.hid (show Fin20 w 0 (b9 + 1) b12 D D2 0 W3 from ⟨⟨_, hI3.cnt.c4⟩, by have := hI3.cnt.c10; rw [dgs_len, HZ.out] at this; exact this, hI3.c12, hI3.cnt.kept, hI3.dfr, hdef, hOrd⟩)
          clear hI3 hF hz hdef hOrd
          have r10 : ∀ W, Fin20 w 0 (b9 + 1) b12 D D2 0 W → W.cell? ⟨b9 + 1, 0, none⟩ = some (.int .i64 0) := fun W h => h.c10.c0
          have r12 : ∀ W, Fin20 w 0 (b9 + 1) b12 D D2 0 W → W.cell? ⟨b12, 0, none⟩ = some (.int .i64 0) := fun W h => h.c12.c0
          have r5 : ∀ W, Fin20 w 0 (b9 + 1) b12 D D2 0 W → W.cell? ⟨w.heap.size, 0, none⟩ = some (.bool (cB W w.heap.size)) := fun W h => h.c4.elim fun x h => cB_of h
          have r4 : ∀ W, Fin20 w 0 (b9 + 1) b12 D D2 0 W → W.frozen? ⟨w.heap.size, 0, none⟩ = false := fun W h => h.c4.elim fun x h => h.fz
          go_wp2_with fail
          refine wp_region_noPanic ?_
          go_region_held (fun W => Fin20 w 0 (b9 + 1) b12 D D2 0 W)
            (first | with_reducible assumption | with_reducible exact HS.out.drew | with_reducible exact HS.out | (rename Fin20 _ _ _ _ _ _ _ _ => hH; with_reducible exact hH.grow hby) | (rename Fin20 _ _ _ _ _ _ _ _ => hH; with_reducible exact hH.store _))
            (first | (go_at_call 11; refine (len n hn _).mono ?_; rintro e wy ⟨rfl, hgw⟩; have hby := hgw.below; clear hgw; rw [HZ.out]) | (go_at_call 9; refine (ref_below n hn 32 _).mono ?_; rintro e wy ⟨rfl, hgw⟩; have hby := hgw.below; clear hgw; rw [HP.out]))
          all_goals
            refine NoPanic.normal ?_
            rename Fin20 _ _ _ _ _ _ _ _ => hH
            have HE := Lib.hid hH.finish
            clear hH r10 r12 r4 r5
            go_wp2_with fail
            obtain ⟨h1, h2, h3, h4, h5⟩ := HE.out
            refine ⟨by simp, .inl ⟨_, _, rfl, run_takeDeferred h1, by simp, .inl ⟨_, _, rfl, run_takeDeferred h2, ?_⟩⟩⟩
            exact ⟨_, by simp [results, Try.results3, go_sem, h3], rfl, h4⟩
        · intro D2 c i W3 hD2 hi hX hdef
          obtain rfl := hX.z
          have hOrd : w.heap.size ≤ D ∧ D < D2 := ⟨hDlo, by have := (Array.getElem?_eq_some_iff.1 hF.dfr).1; omega⟩
          have hz := hX.pos
          rw [dgs_len] at hz
          obtain ⟨z, hz0⟩ : ∃ z : Int, z = (cnt n 32 : Int) := ⟨_, rfl⟩
          have hz1 : 1 ≤ z := by omega
          have hz2 : z ≤ 32 := by have := cnt_le n 32; omega
          have HZ := Lib.hid (show ((cnt n 32 : Nat) : Int) = z from hz0.symm)
          have HP := Lib.hid (show ((placeN n 32 : Nat) : Int) = z from hz0.symm)
          have HS := Lib.hid (show Fin20 w z (b9 + 1) b12 D D2 1 W3 from ⟨⟨_, hX.cnt.c4⟩, by have := hX.cnt.c10; rw [dgs_len, HZ.out] at this; exact this, hX.c12, hX.cnt.kept, hX.dfr, hdef, hOrd⟩)
          clear hX hF hz hz0 hdef hOrd
          have HM := Lib.hid (show (if (1 : Int) < z then 1 else z) = 1 by split <;> omega)
          have hmin : ∀ (W : World), (Builtin.min_ #[3, 3] 3 #[.int .i64 z, .int .i64 1]).run Try.prog W = .ok (.int .i64 1) W := fun W => by rw [run_min_int2, HM.out]
          have r10 : ∀ W, Fin20 w z (b9 + 1) b12 D D2 1 W → W.cell? ⟨b9 + 1, 0, none⟩ = some (.int .i64 z) := fun W h => h.c10.c0
          have r12 : ∀ W, Fin20 w z (b9 + 1) b12 D D2 1 W → W.cell? ⟨b12, 0, none⟩ = some (.int .i64 1) := fun W h => h.c12.c0
          have r5 : ∀ W, Fin20 w z (b9 + 1) b12 D D2 1 W → W.cell? ⟨w.heap.size, 0, none⟩ = some (.bool (cB W w.heap.size)) := fun W h => h.c4.elim fun x h => cB_of h
          have r4 : ∀ W, Fin20 w z (b9 + 1) b12 D D2 1 W → W.frozen? ⟨w.heap.size, 0, none⟩ = false := fun W h => h.c4.elim fun x h => h.fz
          go_wp2_with fail
          refine wp_region_noPanic ?_
          go_region_held (fun W => Fin20 w z (b9 + 1) b12 D D2 1 W)
            (first | with_reducible assumption | with_reducible exact HS.out.drew | with_reducible exact HS.out | (rename Fin20 _ _ _ _ _ _ _ _ => hH; with_reducible exact hH.grow hby) | (rename Fin20 _ _ _ _ _ _ _ _ => hH; with_reducible exact hH.store _))
            (first | (go_at_call 11; refine (len n hn _).mono ?_; rintro e wy ⟨rfl, hgw⟩; have hby := hgw.below; clear hgw; rw [HZ.out]) | (go_at_call 9; refine (ref_below n hn 32 _).mono ?_; rintro e wy ⟨rfl, hgw⟩; have hby := hgw.below; clear hgw; rw [HP.out]))
          all_goals
            refine NoPanic.normal ?_
            rename Fin20 _ _ _ _ _ _ _ _ => hH
            have HE := Lib.hid hH.finish
            clear hH r10 r12 r4 r5
            go_wp2_with fail
            obtain ⟨h1, h2, h3, h4, h5⟩ := HE.out
            refine ⟨by simp, .inl ⟨_, _, rfl, run_takeDeferred h1, by simp, .inl ⟨_, _, rfl, run_takeDeferred h2, ?_⟩⟩⟩
            exact ⟨_, by simp [results, Try.results3, go_sem, h3], rfl, h4⟩


theorem lifted (os : Os) (started : os.Started) (H : Type) (enc : TypeId × Value → H) :
    ReturnsInHanded {} Try.checked os 3 .any (Rows.digitSetsSpec.pre6 enc Try.prog Try.f3 Rows.digitSetsRow.domain false) (Rows.digitSetsSpec.post enc Try.prog Try.f3 false true false false) := by
  refine returnsInHanded_of_change (C := Try.checked) own started (by kernel_rfl) Try.func3
    (ChangeSpec.witness6 (enc := enc) (C := Try.checked) false ⟨#[], #[.int .u32 0, .int .i64 0], []⟩ 8 (by kernel_rfl) (by kernel_rfl) (by kernel_rfl) (by kernel_rfl)) ?_
  intro W base args ds gs before hval0 hW _ _
  have hval : ∀ (j : Nat) t v, Try.f3.params[j]? = some t → args[j]? = some v → Value.okWide Try.prog W .any base t v := hval0
  have hW' := hW
  obtain ⟨p, q, hA0, hV, rfl, _, _⟩ := hW
  have hA : DataW.TrodAll enc Try.prog W 0 (fun _ => true) true Try.f3.params.toList args.toList ds p := hA0
  rw [Try.params3] at hA hval
  obtain ⟨v0, vs0, d0, ds0, p0, q0, hargs, rfl, rfl, h0, r0⟩ := trodAll_cons hA
  obtain ⟨v1, vs1, d1, ds1, p1, q1, rfl, rfl, rfl, h1, r1⟩ := trodAll_cons r0
  obtain ⟨rfl, rfl, rfl⟩ := trodAll_nil r1
  obtain rfl : args = #[v0, v1] := by cases args; simp_all
  obtain ⟨rfl, rfl⟩ := trodVars_none hV
  simp only [List.append_nil] at hW'
  obtain ⟨a0, rfl, rfl, rfl, w0⟩ := open_int Try.underlying22 (hval 0 22 v0 rfl rfl) h0
  obtain ⟨a1, rfl, rfl, rfl, w1⟩ := open_int Try.underlying3 (hval 1 3 v1 rfl rfl) h1
  clear hA0 hval0
  have b0 := bounds_u32 w0
  have b1 := bounds_i64 w1
  obtain ⟨a0, rfl⟩ := Int.eq_ofNat_of_zero_le b0.1
  refine (walk a0 (by omega) a1 b1 W).mono fun e W' ⟨he, hg⟩ => ?_
  subst he
  refine ⟨_, rfl, _, _, _, [], [], [], by simpa using hW', ?_, ?_, ?_, hg.frame _, fun h => by cases h⟩
  · exact trodAll_cons_mk (shut_bool Try.underlying4 _) trodAll_mk0
  · exact trodAll_cons_mk (shut_int Try.underlying22 w0) (trodAll_cons_mk (shut_int Try.underlying3 w1) trodAll_mk0)
  · rfl

theorem over : Rows.digitSetsRow.holds Try.pinned (OpenSpec.ofChange Rows.digitSetsSpec) :=
  OpenClaim.holds_of_wide 3 Try.f3 rfl rfl rfl rfl rfl rfl rfl ⟨rfl, rfl, rfl, rfl, rfl⟩ rfl rfl rfl rfl rfl (by kernel_rfl) Try.func3 (by kernel_rfl)
    (of_decide_eq_true (by kernel_rfl)) (by unfold Func.isWrapper; first | (rw [if_pos (by decide +kernel)]; kernel_rfl) | (rw [if_neg (by decide +kernel)]; exact ⟨rfl, rfl⟩))
    (fun os started H enc _ => lifted os started H enc)

theorem proved : Rows.DigitSetsSaid :=
  over
#print axioms proved
end Go.Proofs.Ytichfhnhocbenaa.digitSets
