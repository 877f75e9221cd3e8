/- Several texts in one. -/
import Derived.Test.YthcpjehkjhpjfaaGreatMh26
import Derived.Test.YthcpjehkjhpjfaaGreatMh23
import Derived.Test.YthcpjehkjhpjfaaGreatMh14
namespace Go.Proofs.YthcpjehkjhpjfaaGreat
open Go.RowKit
theorem flat4_at {E : List En} {k : Nat} {e : En} (h : E[k]? = some e) (i : Nat) (hi : i < 4) : (E.flatMap cells4)[k * 4 + i]? = (cells4 e)[i]? := by
  induction E generalizing k with
  | nil => simp at h
  | cons x E ih =>
    rw [List.flatMap_cons]
    cases k with
    | zero =>
      obtain rfl : x = e := by simpa using h
      rw [List.getElem?_append_left (by simp [cells4]; omega)]
      congr 1; omega
    | succ k =>
      rw [List.getElem?_append_right (by simp [cells4]; omega), ← ih (k := k) (by simpa using h)]
      congr 1
      simp [cells4]; omega
theorem flat4_set : ∀ (E : List En) (k : Nat) (e : En), k < E.length → (E.set k e).flatMap cells4 = ((((E.flatMap cells4).set (k * 4) (.int .i64 (e.l.length : Int))).set (k * 4 + 1) (.int .i64 (e.root : Int))).set (k * 4 + 2) e.s).set (k * 4 + 3) (.int .u32 e.ow)
  | [], _, _, h => by simp at h
  | x :: E, 0, e, _ => by simp [cells4]
  | x :: E, k + 1, e, h => by
    have ih := flat4_set E k e (by simpa using h)
    rw [List.set_cons_succ, List.flatMap_cons, ih, List.flatMap_cons]
    have h4 : (cells4 x).length = 4 := rfl
    have key : ∀ (l : List Value) (j : Nat) (u : Value), (cells4 x ++ l).set ((k + 1) * 4 + j) u = cells4 x ++ l.set (k * 4 + j) u := fun l j u => by
      rw [List.set_append_right _ _ (by rw [h4]; omega)]
      congr 2
      rw [h4]; omega
    have key0 : ∀ (l : List Value) (u : Value), (cells4 x ++ l).set ((k + 1) * 4) u = cells4 x ++ l.set (k * 4) u := fun l u => key l 0 u
    rw [key0, key, key, key]
theorem own_set4 {w : World} {base t g n cp k : Nat} {E : List En} (e : En) (h : w.ownsRow base t 4 (.slice (some ⟨g, 0, none⟩) n cp) n (E.flatMap cells4)) (hn : E.length = n) (hk : k < E.length) :
    ((((w.setCell ⟨g, k * 4, none⟩ (.int .i64 (e.l.length : Int))).setCell ⟨g, k * 4 + 1, none⟩ (.int .i64 (e.root : Int))).setCell ⟨g, k * 4 + 2, none⟩ e.s).setCell ⟨g, k * 4 + 3, none⟩ (.int .u32 e.ow)).ownsRow base t 4 (.slice (some ⟨g, 0, none⟩) n cp) n ((E.set k e).flatMap cells4) := by
  rw [flat4_set E k e hk]
  exact own_set1 (own_set1 (own_set1 (own_set1 h (by omega) _) (by omega) _) (by omega) _) (by omega) _

def holds (E : List En) : List Nat := E.map En.root
theorem holds_split : ∀ (E : List En) (k : Nat) (e : En) (j : Nat), E[k]? = some e → (holds E).count j = (holds (E.eraseIdx k)).count j + [e.root].count j
  | [], _, _, _, h => by simp at h
  | x :: E, 0, e, j, h => by
    obtain rfl : x = e := by simpa using h
    show ([x.root] ++ holds E).count j = (holds E).count j + _
    rw [List.count_append]; omega
  | x :: E, k + 1, e, j, h => by
    have ih := holds_split E k e j (by simpa using h)
    show ([x.root] ++ holds E).count j = ([x.root] ++ holds (E.eraseIdx k)).count j + _
    rw [List.count_append, List.count_append, ih]; omega
theorem holds_set (E : List En) (k : Nat) (e e' : En) (j : Nat) (h : E[k]? = some e) : (holds (E.set k e')).count j = (holds (E.eraseIdx k)).count j + [e'.root].count j := by
  have hk := (List.getElem?_eq_some_iff.1 h).1
  have h1 := holds_split (E.set k e') k e' j (List.getElem?_set_self hk)
  rw [h1]
  congr 2
  rw [List.eraseIdx_set_eq]
theorem holds_other {E : List En} {k j : Nat} {e : En} (hj : E[j]? = some e) (hjk : j ≠ k) : 1 ≤ (holds (E.eraseIdx k)).count e.root := by
  have hm : e ∈ E.eraseIdx k := List.mem_eraseIdx_iff_getElem?.2 ⟨j, hjk, hj⟩
  exact List.count_pos_iff.2 (List.mem_map.2 ⟨e, hm, rfl⟩)
theorem Mp.pres {M M' : Cells} {hs : Ky → Nat} {root : Nat} {l : List Pr} (h : Mp M hs root l) (hz : M 0 = none) (hp : root ≠ 0 → Pres M M' root) : Mp M' hs root l := by
  rcases h with h | h
  · exact .inl h
  · refine .inr (h.pres hz (hp fun e => ?_))
    subst e
    cases h with
    | leaf h => have := h.cell; rw [hz] at this; cases this
    | node h => have := h.cell; rw [hz] at this; cases this
structure Wd (w0 W : World) (b bh seed zw : Nat) (hs : Ky → Nat) (M : Cells) (F : Nat → Prop) (sa : Value) (last : Int) (E : List En) : Prop where
  ar : Ar W b 65536 M F
  hh : Hs W bh seed
  nb : ¬ F bh
  fr : ∀ q, F q → w0.heap.size ≤ q
  bel : Below w0.heap.size w0 W
  lo : w0.heap.size ≤ zw ∧ w0.heap.size ≤ bh ∧ zw ≠ bh ∧ ¬ F zw
  wb : C5 W zw 40 (ap b) (.pointer (some ⟨bh, 0, none⟩)) (.int .u64 (seed : Nat)) sa (.int .u32 last)
  bk : Bk (65536 + 1) M [] (fun _ => 0) (holds E)
  mp : ∀ e ∈ E, Mp M hs e.root e.l
  keys : ∀ e ∈ E, ∀ q ∈ e.l, KOk hs seed q.1
  len : ∀ e ∈ E, e.l.length ≤ 1024
  row : ∀ e ∈ E, W.ownsRow w0.heap.size 78 6 e.s e.l.length (e.l.flatMap pcells)
  far : ∀ e ∈ E, ∀ q, e.s.ownBlock = some q → ¬ F q ∧ q ≠ bh ∧ q ≠ zw ∧ some q ≠ sa.ownBlock
  all : W.ownsRow w0.heap.size 37 4 sa E.length (E.flatMap cells4)
  own : ∀ q, sa.ownBlock = some q → ¬ F q ∧ q ≠ bh ∧ q ≠ zw
section
variable {w0 W W' : World} {b bh seed zw : Nat} {hs : Ky → Nat} {M M' : Cells} {F : Nat → Prop} {sa : Value} {last : Int} {E : List En}
theorem Wd.below (h : Wd w0 W b bh seed zw hs M F sa last E) (hb : Below W.heap.size W W') : Wd w0 W' b bh seed zw hs M F sa last E :=
  ⟨h.ar.below hb, h.hh.below hb, h.nb, h.fr, h.bel.trans (hb.mono h.bel.size), h.lo, h.wb.below hb, h.bk, h.mp, h.keys, h.len, fun e he => (Kp.of_below hb (fun _ => False)).own (h.row e he) (fun _ _ h => h), h.far, (Kp.of_below hb (fun _ => False)).own h.all (fun _ _ h => h), h.own⟩
theorem Wd.hash (h : Wd w0 W b bh seed zw hs M F sa last E) (hk : Kp (fun q => q = bh) W W') (hh : Hs W' bh seed) : Wd w0 W' b bh seed zw hs M F sa last E :=
  ⟨h.ar.kp hk (fun q hf hg => h.nb (hg ▸ hf)), hh, h.nb, h.fr, below_kp h.bel hk (fun q hg => by rw [hg]; exact h.lo.2.1), h.lo, h.wb.kp hk h.lo.2.2.1, h.bk, h.mp, h.keys, h.len, fun e he => hk.own (h.row e he) (fun q hq => (h.far e he q hq).2.1), h.far, hk.own h.all (fun q hq => (h.own q hq).2.1), h.own⟩
theorem Wd.lend (h : Wd w0 W b bh seed zw hs M F sa last E) {k : Nat} {e : En} (hk : E[k]? = some e) : Bk (65536 + 1) M [] (fun j => (holds (E.eraseIdx k)).count j) [e.root] :=
  h.bk.move (fun j _ => by rw [holds_split E k e j hk]; omega) (fun x hx => by simp at hx)
theorem Wd.zero (h : Wd w0 W b bh seed zw hs M F sa last E) : M 0 = none := h.ar.zero
theorem Wd.others (h : Wd w0 W b bh seed zw hs M F sa last E) {k j : Nat} {e : En} (hk : Keeps (fun j => (holds (E.eraseIdx k)).count j) M M') (hj : E[j]? = some e) (hjk : j ≠ k) : Mp M' hs e.root e.l :=
  (h.mp e (List.mem_of_getElem? hj)).pres h.zero (fun h0 => hk _ h0 (holds_other hj hjk))
theorem Wd.put {g cp k : Nat} {e e' : En} {F' : Nat → Prop} (h : Wd w0 W b bh seed zw hs M F (.slice (some ⟨g, 0, none⟩) E.length cp) last E) (hk : E[k]? = some e) (hA : Ar W' b 65536 M' F') (hH : Hs W' bh seed) (hF' : ∀ q, F' q → F q ∨ W.heap.size ≤ q) (hkp : Kp (fun q => F q ∨ q = bh) W W')
    (hbk : Bk (65536 + 1) M' [] (fun j => (holds (E.eraseIdx k)).count j) [e'.root]) (hks : Keeps (fun j => (holds (E.eraseIdx k)).count j) M M') (hv : Mp M' hs e'.root e'.l) (hkeys : ∀ q ∈ e'.l, KOk hs seed q.1) (hlen : e'.l.length ≤ 1024)
    (hr : W'.ownsRow w0.heap.size 78 6 e'.s e'.l.length (e'.l.flatMap pcells)) (hf : ∀ q, e'.s.ownBlock = some q → ¬ F' q ∧ q ≠ bh ∧ q ≠ zw ∧ q ≠ g) :
    Wd w0 ((((W'.setCell ⟨g, k * 4, none⟩ (.int .i64 (e'.l.length : Int))).setCell ⟨g, k * 4 + 1, none⟩ (.int .i64 (e'.root : Int))).setCell ⟨g, k * 4 + 2, none⟩ e'.s).setCell ⟨g, k * 4 + 3, none⟩ (.int .u32 e'.ow)) b bh seed zw hs M' F' (.slice (some ⟨g, 0, none⟩) E.length cp) last (E.set k e') := by
  have hkl := (List.getElem?_eq_some_iff.1 hk).1
  have hg := own_blk h.all g rfl
  obtain ⟨o1, o2, o3⟩ := h.own g rfl
  have hzl := h.wb.lt
  have hbl := h.hh.lt
  have new : ∀ {q : Nat}, ¬ F q → q < W.heap.size → ¬ F' q := fun hn hl hf' => (hF' _ hf').elim hn (fun e => by omega)
  have hgF : ¬ F' g := new o1 hg.2
  have hsz := h.bel.size
  have k4 : Kp (fun q => q = g) W' ((((W'.setCell ⟨g, k * 4, none⟩ (.int .i64 (e'.l.length : Int))).setCell ⟨g, k * 4 + 1, none⟩ (.int .i64 (e'.root : Int))).setCell ⟨g, k * 4 + 2, none⟩ e'.s).setCell ⟨g, k * 4 + 3, none⟩ (.int .u32 e'.ow)) :=
    ((((Kp.refl (fun q => q = g) W').setCell (.inl rfl) _).setCell (.inl rfl) _).setCell (.inl rfl) _).setCell (.inl rfl) _
  have hall : W'.ownsRow w0.heap.size 37 4 (.slice (some ⟨g, 0, none⟩) E.length cp) E.length (E.flatMap cells4) := hkp.own h.all (fun q hq hx => hx.elim (h.own q hq).1 (h.own q hq).2.1)
  have old : ∀ y ∈ E.set k e', y = e' ∨ ∃ j, j ≠ k ∧ E[j]? = some y := fun y hy => by
    obtain ⟨j, hj⟩ := List.getElem?_of_mem hy
    by_cases ej : k = j
    · subst ej
      rw [List.getElem?_set_self hkl] at hj
      exact .inl (Option.some.inj hj).symm
    · rw [List.getElem?_set_ne ej] at hj
      exact .inr ⟨j, fun e => ej e.symm, hj⟩
  refine ⟨hA.kp k4 (fun q hq e => hgF (e ▸ hq)), hH.kp k4 (fun e => o2 e.symm), fun hf' => (hF' _ hf').elim h.nb (fun e => by omega), fun q hq => (hF' q hq).elim (h.fr q) (fun e => by omega),
    below_kp (below_kp h.bel hkp (fun q hq => hq.elim (h.fr q) (fun e => by rw [e]; exact h.lo.2.1))) k4 (fun q hq => by rw [hq]; exact hg.1), ⟨h.lo.1, h.lo.2.1, h.lo.2.2.1, new h.lo.2.2.2 hzl⟩,
    (h.wb.kp hkp (fun hx => hx.elim h.lo.2.2.2 h.lo.2.2.1)).kp k4 (fun e => o3 e.symm), hbk.move (fun j _ => by rw [holds_set E k e e' j hk]; omega) (fun x hx => by simp at hx), fun y hy => ?_, fun y hy => ?_, fun y hy => ?_, fun y hy => ?_, fun y hy q hq => ?_, ?_, fun q hq => ?_⟩
  · rcases old y hy with rfl | ⟨j, hjk, hj⟩
    · exact hv
    · exact h.others hks hj hjk
  · rcases old y hy with rfl | ⟨j, hjk, hj⟩
    · exact hkeys
    · exact h.keys y (List.mem_of_getElem? hj)
  · rcases old y hy with rfl | ⟨j, hjk, hj⟩
    · exact hlen
    · exact h.len y (List.mem_of_getElem? hj)
  · rcases old y hy with rfl | ⟨j, hjk, hj⟩
    · exact k4.own hr (fun q hq e => (hf q hq).2.2.2 e)
    · have hy' := List.mem_of_getElem? hj
      refine k4.own (hkp.own (h.row y hy') (fun q hq hx => hx.elim (h.far y hy' q hq).1 (h.far y hy' q hq).2.1)) (fun q hq e => ?_)
      exact (h.far y hy' q hq).2.2.2 (by rw [e]; rfl)
  · rcases old y hy with rfl | ⟨j, hjk, hj⟩
    · obtain ⟨a1, a2, a3, a4⟩ := hf q hq
      exact ⟨a1, a2, a3, fun e => a4 (Option.some.inj e)⟩
    · have hy' := List.mem_of_getElem? hj
      obtain ⟨a1, a2, a3, a4⟩ := h.far y hy' q hq
      exact ⟨new a1 ((h.row y hy').lt q hq).2, a2, a3, a4⟩
  · rw [List.length_set]
    exact own_set4 e' hall rfl hkl
  · have e : g = q := Option.some.inj hq
    exact e ▸ ⟨hgF, o2, o3⟩
end
end Go.Proofs.YthcpjehkjhpjfaaGreat

namespace Go.Proofs.YthcpjehkjhpjfaaGreat
open Go.RowKit
theorem holds_snoc (E : List En) (e : En) (j : Nat) : (holds (E ++ [e])).count j = (holds E).count j + [e.root].count j := by
  unfold holds
  rw [List.map_append, List.count_append]
  rfl
theorem count1r (a k : Nat) : [a].count k = if k = a then 1 else 0 := by
  rw [List.count_cons, List.count_nil, Nat.zero_add]
  by_cases e : k = a
  · simp [e]
  · rw [if_neg e, if_neg]; simpa using fun e2 => e e2.symm
section
variable {w0 W W1 W2 : World} {b bh seed zw : Nat} {hs : Ky → Nat} {M M' : Cells} {F F' : Nat → Prop} {sa sa2 : Value} {last last' : Int} {E : List En} {k : Nat} {e : En}
theorem Wd.snoc (h : Wd w0 W b bh seed zw hs M F sa last E) (hk : E[k]? = some e) (ow' : Int) (hA : Ar W1 b 65536 M' F') (hH : Hs W1 bh seed) (hF' : ∀ q, F' q → F q ∨ W.heap.size ≤ q) (hkp : Kp (fun q => F q ∨ q = zw) W W1)
    (hwb : C5 W1 zw 40 (ap b) (.pointer (some ⟨bh, 0, none⟩)) (.int .u64 (seed : Nat)) sa (.int .u32 last'))
    (hbk : Bk (65536 + 1) M' [] (addP (fun j => (holds (E.eraseIdx k)).count j) e.root) [e.root]) (hks : ∀ r, Pres M M' r)
    (hown : W2.ownsRow w0.heap.size 37 4 sa2 (E.length + 1) ((E ++ [(⟨e.root, e.l, e.s, ow'⟩ : En)]).flatMap cells4)) (hg : W1.grownBy W2 sa.ownBlock) (hat : sa2.ownBlock = sa.ownBlock ∨ sa2.ownBlock = some W1.heap.size) :
    Wd w0 (W2.setCell ⟨zw, 3, none⟩ sa2) b bh seed zw hs M' F' sa2 last' (E ++ [⟨e.root, e.l, e.s, ow'⟩]) := by
  have hm := List.mem_of_getElem? hk
  have hzl := h.wb.lt
  have hbl := h.hh.lt
  have hsz := h.bel.size
  have new : ∀ {q : Nat}, ¬ F q → q < W.heap.size → ¬ F' q := fun hn hl hf' => (hF' _ hf').elim hn (fun e => by omega)
  have kg : Kp (fun q => sa.ownBlock = some q) W1 W2 := Kp.of_grown hg (fun q hq => .inl hq)
  have kz : Kp (fun q => q = zw) W2 (W2.setCell ⟨zw, 3, none⟩ sa2) := Kp.one W2 zw 3 sa2
  have bz : zw < W1.heap.size := Nat.lt_of_lt_of_le hzl hkp.size
  have bb : bh < W1.heap.size := Nat.lt_of_lt_of_le hbl hkp.size
  have sF : ∀ q, sa.ownBlock = some q → ¬ F' q := fun q hq => new (h.own q hq).1 (own_blk h.all q hq).2
  have s2 : ∀ q, sa2.ownBlock = some q → ¬ F' q ∧ q ≠ bh ∧ q ≠ zw := fun q hq => by
    rcases hat with e' | e'
    · have hq' := e' ▸ hq
      exact ⟨sF q hq', (h.own q hq').2⟩
    · have h1 : W1.heap.size = q := Option.some.inj (e'.symm.trans hq)
      exact ⟨fun hf => by have := hA.lt hf; omega, by omega, by omega⟩
  have hmem : ∀ y ∈ E ++ [(⟨e.root, e.l, e.s, ow'⟩ : En)], ∃ y0 ∈ E, y.root = y0.root ∧ y.l = y0.l ∧ y.s = y0.s := fun y hy => by
    rcases List.mem_append.1 hy with hy | hy
    · exact ⟨y, hy, rfl, rfl, rfl⟩
    · obtain rfl : y = ⟨e.root, e.l, e.s, ow'⟩ := by simpa using hy
      exact ⟨e, hm, rfl, rfl, rfl⟩
  refine ⟨(hA.kp kg (fun q hf hq => sF q hq hf)).kp kz (fun q hf e => new h.lo.2.2.2 hzl (e ▸ hf)), (hH.kp kg (fun hq => (h.own _ hq).2.1 rfl)).kp kz (fun e => h.lo.2.2.1 e.symm), new h.nb hbl, fun q hq => (hF' q hq).elim (h.fr q) (fun e => by omega),
    below_kp (below_kp (below_kp h.bel hkp (fun q hq => hq.elim (h.fr q) (fun e => by rw [e]; exact h.lo.1))) kg (fun q hq => (own_blk h.all q hq).1)) kz (fun q hq => by rw [hq]; exact h.lo.1), ⟨h.lo.1, h.lo.2.1, h.lo.2.2.1, new h.lo.2.2.2 hzl⟩,
    (hwb.kp kg (fun hq => (h.own _ hq).2.2 rfl)).set3 sa2, hbk.move (fun j _ => ?_) (fun x hx => by simp at hx), fun y hy => ?_, fun y hy => ?_, fun y hy => ?_, fun y hy => ?_, fun y hy q hq => ?_, ?_, s2⟩
  · rw [holds_snoc, holds_split E k e j hk]
    unfold addP
    simp only [count1r]
    omega
  · obtain ⟨y0, h0, e1, e2, _⟩ := hmem y hy
    rw [e1, e2]
    exact (h.mp y0 h0).pres h.zero (fun _ => hks _)
  · obtain ⟨y0, h0, _, e2, _⟩ := hmem y hy
    rw [e2]
    exact h.keys y0 h0
  · obtain ⟨y0, h0, _, e2, _⟩ := hmem y hy
    rw [e2]
    exact h.len y0 h0
  · obtain ⟨y0, h0, _, e2, e3⟩ := hmem y hy
    rw [e2, e3]
    exact kz.own (kg.own (hkp.own (h.row y0 h0) (fun q hq hx => hx.elim (h.far y0 h0 q hq).1 (h.far y0 h0 q hq).2.2.1)) (fun q hq e => (h.far y0 h0 q hq).2.2.2 e.symm)) (fun q hq e => (h.far y0 h0 q hq).2.2.1 e)
  · obtain ⟨y0, h0, _, _, e3⟩ := hmem y hy
    rw [e3] at hq
    obtain ⟨a1, a2, a3, a4⟩ := h.far y0 h0 q hq
    have a5 := ((h.row y0 h0).lt q hq).2
    refine ⟨new a1 a5, a2, a3, fun e => ?_⟩
    rcases hat with e' | e'
    · exact a4 (e.trans e')
    · have h1 := Option.some.inj (e.trans e')
      have := hkp.size
      omega
  · rw [List.length_append]
    exact kz.own hown (fun q hq e => (s2 q hq).2.2 e)
theorem Wd.erase {g cp : Nat} (h : Wd w0 W b bh seed zw hs M F (.slice (some ⟨g, 0, none⟩) E.length cp) last E) (hk : E[k]? = some e) (hA : Ar W1 b 65536 M' F') (hF' : ∀ q, F' q → F q ∨ W.heap.size ≤ q) (hkp : Kp F W W1)
    (hbk : Bk (65536 + 1) M' [] (fun j => (holds (E.eraseIdx k)).count j) []) (hks : Keeps (fun j => (holds (E.eraseIdx k)).count j) M M')
    (hown : W2.ownsRow w0.heap.size 37 4 (.slice (some ⟨g, 0, none⟩) (E.length - 1) cp) (E.length - 1) ((E.eraseIdx k).flatMap cells4)) (hg : Kp (fun q => q = g) W1 W2) :
    Wd w0 (W2.setCell ⟨zw, 3, none⟩ (.slice (some ⟨g, 0, none⟩) (E.length - 1 : Nat) cp)) b bh seed zw hs M' F' (.slice (some ⟨g, 0, none⟩) (E.length - 1) cp) last (E.eraseIdx k) := by
  have hkl := (List.getElem?_eq_some_iff.1 hk).1
  have hzl := h.wb.lt
  have hbl := h.hh.lt
  have hsz := h.bel.size
  have new : ∀ {q : Nat}, ¬ F q → q < W.heap.size → ¬ F' q := fun hn hl hf' => (hF' _ hf').elim hn (fun e => by omega)
  have hgl := own_blk h.all g rfl
  obtain ⟨o1, o2, o3⟩ := h.own g rfl
  have kz : Kp (fun q => q = zw) W2 (W2.setCell ⟨zw, 3, none⟩ (.slice (some ⟨g, 0, none⟩) (E.length - 1 : Nat) cp)) := Kp.one W2 zw 3 _
  refine ⟨(hA.kp hg (fun q hf e => new o1 hgl.2 (e ▸ hf))).kp kz (fun q hf e => new h.lo.2.2.2 hzl (e ▸ hf)), ((h.hh.kp hkp h.nb).kp hg (fun e => o2 e.symm)).kp kz (fun e => h.lo.2.2.1 e.symm), new h.nb hbl, fun q hq => (hF' q hq).elim (h.fr q) (fun e => by omega),
    below_kp (below_kp (below_kp h.bel hkp h.fr) hg (fun q hq => by rw [hq]; exact hgl.1)) kz (fun q hq => by rw [hq]; exact h.lo.1), ⟨h.lo.1, h.lo.2.1, h.lo.2.2.1, new h.lo.2.2.2 hzl⟩,
    ((h.wb.kp hkp h.lo.2.2.2).kp hg (fun e => o3 e.symm)).set3 _, hbk.move (fun j _ => by simp) (fun x hx => by simp at hx), fun y hy => ?_, fun y hy => h.keys y (List.mem_of_mem_eraseIdx hy), fun y hy => h.len y (List.mem_of_mem_eraseIdx hy), fun y hy => ?_, fun y hy q hq => ?_, ?_, fun q hq => ?_⟩
  · obtain ⟨j, hjk, hj⟩ := List.mem_eraseIdx_iff_getElem?.1 hy
    exact h.others hks hj hjk
  · have h0 := List.mem_of_mem_eraseIdx hy
    exact kz.own (hg.own (hkp.own (h.row y h0) (fun q hq => (h.far y h0 q hq).1)) (fun q hq e => (h.far y h0 q hq).2.2.2 (by rw [e]; rfl))) (fun q hq e => (h.far y h0 q hq).2.2.1 e)
  · have h0 := List.mem_of_mem_eraseIdx hy
    obtain ⟨a1, a2, a3, a4⟩ := h.far y h0 q hq
    exact ⟨new a1 ((h.row y h0).lt q hq).2, a2, a3, a4⟩
  · rw [List.length_eraseIdx_of_lt hkl]
    exact kz.own hown (fun q hq e => o3 (by have e' : g = q := Option.some.inj hq; rw [e', e]))
  · have e' : g = q := Option.some.inj hq
    rw [← e']
    exact ⟨new o1 hgl.2, o2, o3⟩
theorem Wd.free {g cp : Nat} (h : Wd w0 W b bh seed zw hs M F (.slice (some ⟨g, 0, none⟩) E.length cp) last E) (hk : E[k]? = some e) :
    Wd w0 (W.setCell ⟨g, k * 4 + 3, none⟩ (.int .u32 0)) b bh seed zw hs M F (.slice (some ⟨g, 0, none⟩) E.length cp) last (E.set k ⟨e.root, e.l, e.s, 0⟩) := by
  have hkl := (List.getElem?_eq_some_iff.1 hk).1
  have hm := List.mem_of_getElem? hk
  have hgl := own_blk h.all g rfl
  obtain ⟨o1, o2, o3⟩ := h.own g rfl
  have kg : Kp (fun q => q = g) W (W.setCell ⟨g, k * 4 + 3, none⟩ (.int .u32 0)) := Kp.one W g (k * 4 + 3) _
  have hmem : ∀ y ∈ E.set k ⟨e.root, e.l, e.s, 0⟩, ∃ y0 ∈ E, y.root = y0.root ∧ y.l = y0.l ∧ y.s = y0.s := fun y hy => by
    rcases List.mem_or_eq_of_mem_set hy with hy | hy
    · exact ⟨y, hy, rfl, rfl, rfl⟩
    · exact ⟨e, hm, by rw [hy], by rw [hy], by rw [hy]⟩
  refine ⟨h.ar.kp kg (fun q hf e => o1 (e ▸ hf)), h.hh.kp kg (fun e => o2 e.symm), h.nb, h.fr, below_kp h.bel kg (fun q hq => by rw [hq]; exact hgl.1), h.lo, h.wb.kp kg (fun e => o3 e.symm), h.bk.move (fun j _ => ?_) (fun x hx => by simp at hx), fun y hy => ?_, fun y hy => ?_, fun y hy => ?_, fun y hy => ?_, fun y hy q hq => ?_, ?_, h.own⟩
  · rw [holds_set E k e ⟨e.root, e.l, e.s, 0⟩ j hk, holds_split E k e j hk]
  · obtain ⟨y0, h0, e1, e2, _⟩ := hmem y hy
    rw [e1, e2]
    exact h.mp y0 h0
  · obtain ⟨y0, h0, _, e2, _⟩ := hmem y hy
    rw [e2]
    exact h.keys y0 h0
  · obtain ⟨y0, h0, _, e2, _⟩ := hmem y hy
    rw [e2]
    exact h.len y0 h0
  · obtain ⟨y0, h0, _, e2, e3⟩ := hmem y hy
    rw [e2, e3]
    exact kg.own (h.row y0 h0) (fun q hq e => (h.far y0 h0 q hq).2.2.2 (by rw [e]; rfl))
  · obtain ⟨y0, h0, _, _, e3⟩ := hmem y hy
    rw [e3] at hq
    exact h.far y0 h0 q hq
  · rw [List.length_set]
    have h1 := own_set1 h.all (j := k * 4 + 3) (by omega) (.int .u32 0)
    have h2 : (E.set k (⟨e.root, e.l, e.s, 0⟩ : En)).flatMap cells4 = (E.flatMap cells4).set (k * 4 + 3) (.int .u32 0) := by
      rw [flat4_set E k _ hkl]
      have f0 := flat4_at hk 0 (by decide)
      have f1 := flat4_at hk 1 (by decide)
      have f2 := flat4_at hk 2 (by decide)
      have same : ∀ (l : List Value) (j : Nat) (u : Value), l[j]? = some u → l.set j u = l := fun l j u hu => by
        obtain ⟨hj, rfl⟩ := List.getElem?_eq_some_iff.1 hu
        exact List.set_getElem_self hj
      rw [same _ (k * 4) _ f0, same _ (k * 4 + 1) _ f1, same _ (k * 4 + 2) _ f2]
    rw [h2]
    exact h1
end
end Go.Proofs.YthcpjehkjhpjfaaGreat

namespace Go.Proofs.YthcpjehkjhpjfaaGreat
set_option maxRecDepth 100000
open Go.RowKit
section
variable {b most : Nat} {M : Cells} {P : Nat → Nat} {F : Nat → Prop}
theorem drop1_bk (root : Nat) (w : World) (h : Ar w b most M F) (hm : most ≤ 1048576) (hP : ∀ j, P j ≤ 576460752303423488) (hb : Bk (most + 1) M [] P [root]) :
    Calls Tryz.prog 19 #[ap b, .int .i64 root] w fun e w' => (∃ z, e = .returned (.int .i64 z)) ∧ ∃ M', Bk (most + 1) M' [] P [] ∧ Keeps P M M' ∧ live (most + 1) M' ≤ live (most + 1) M ∧ Stp w w' b most M' F := by
  refine (vdrop1 root w h (fun j => Nat.le_trans (bk_rf hm hP hb (by show 1 ≤ 64; decide) j) (by decide))).mono ?_
  rintro e w' ⟨hz, M1, hd, hs⟩
  obtain ⟨b1, s1, _⟩ := hb.drop hd
  rw [blank_nil, blank_nil] at s1
  have o1 := b1.ok
  rw [blank_nil] at o1
  exact ⟨hz, M1, b1, fun r h0 hr => Pres.sub s1 o1 (b1.held hr h0), live_mono fun _ hj e => hj (s1.none e), hs⟩
theorem keep1_bk (root : Nat) (w : World) (h : Ar w b most M F) (hm : most ≤ 1048576) (hP : ∀ j, P j ≤ 576460752303423488) (hb : Bk (most + 1) M [] P [root]) :
    Calls Tryz.prog 81 #[ap b, .int .i64 root] w fun e w' => (∃ z, e = .returned (.int .i64 z)) ∧ ∃ M', Bk (most + 1) M' [] (addP P root) [root] ∧ (∀ r, Pres M M' r) ∧ live (most + 1) M' = live (most + 1) M ∧ Stp w w' b most M' F := by
  refine (vkeep1 root w h (Nat.le_trans (bk_rf hm hP hb (by show 1 ≤ 64; decide) root) (by decide))).mono ?_
  rintro e w' ⟨hz, hs⟩
  have h1 := hb.keep (i := root) (fun h0 => hb.hand (by simp) h0)
  refine ⟨hz, keepC M root, h1.move (fun k _ => ?_) (fun x hx => by simp at hx), fun r => Pres.all all_keepC, keepC_live, hs⟩
  rw [List.count_cons, count1r]
  unfold addP
  by_cases e : k = root
  · subst e; simp
  · simp [e]
    omega
end
theorem holds_bound {E : List En} {k : Nat} (hE : E.length ≤ 1000) (j : Nat) : (holds (E.eraseIdx k)).count j ≤ 576460752303423487 := by
  have h1 : (holds (E.eraseIdx k)).count j ≤ (holds (E.eraseIdx k)).length := List.count_le_length
  have h2 : (E.eraseIdx k).length ≤ E.length := List.length_eraseIdx_le _ _
  have h3 : (holds (E.eraseIdx k)).length = (E.eraseIdx k).length := by unfold holds; rw [List.length_map]
  omega
theorem row4 {w : World} {base g cp k : Nat} {E : List En} {e : En} (h : w.ownsRow base 37 4 (.slice (some ⟨g, 0, none⟩) E.length cp) E.length (E.flatMap cells4)) (he : E[k]? = some e) :
    w.cell? ⟨g, k * 4, none⟩ = some (.int .i64 (e.l.length : Int)) ∧ w.cell? ⟨g, k * 4 + 1, none⟩ = some (.int .i64 (e.root : Int)) ∧ w.cell? ⟨g, k * 4 + 2, none⟩ = some e.s ∧ w.cell? ⟨g, k * 4 + 3, none⟩ = some (.int .u32 e.ow) ∧
    w.frozen? ⟨g, k * 4, none⟩ = false ∧ w.frozen? ⟨g, k * 4 + 1, none⟩ = false ∧ w.frozen? ⟨g, k * 4 + 2, none⟩ = false ∧ w.frozen? ⟨g, k * 4 + 3, none⟩ = false := by
  have cel : ∀ t u, t < 4 → (cells4 e)[t]? = some u → w.cell? ⟨g, k * 4 + t, none⟩ = some u ∧ w.frozen? ⟨g, k * 4 + t, none⟩ = false := fun t u ht hu => by
    obtain ⟨g', c', e1, _, kc, kf⟩ := own_at h ((flat4_at he t ht).trans hu)
    simp only [Value.slice.injEq, Option.some.injEq, Addr.mk.injEq, and_true, true_and] at e1
    obtain ⟨rfl, _⟩ := e1
    exact ⟨kc, kf⟩
  obtain ⟨a0, f0⟩ := cel 0 _ (by decide) rfl
  obtain ⟨a1, f1⟩ := cel 1 _ (by decide) rfl
  obtain ⟨a2, f2⟩ := cel 2 _ (by decide) rfl
  obtain ⟨a3, f3⟩ := cel 3 _ (by decide) rfl
  exact ⟨a0, a1, a2, a3, f0, f1, f2, f3⟩
structure PB (W : World) (n0 n1 z6 z7 z9 : Nat) (k v : Ky) (e : En) : Prop where
  kb : C3 W z6 43 (.int .u8 k.1) (.int .i64 k.2.1) (.string k.2.2)
  vb : C3 W z7 43 (.int .u8 v.1) (.int .i64 v.2.1) (.string v.2.2)
  ob : C4 W z9 37 (.int .i64 (e.l.length : Int)) (.int .i64 (e.root : Int)) e.s (.int .u32 e.ow)
  zs : n0 ≤ z6 ∧ n0 ≤ z7 ∧ n0 ≤ z9 ∧ z6 < n1 ∧ z7 < n1 ∧ z9 < n1 ∧ n1 ≤ W.heap.size
theorem PB.kp {W W' : World} {n0 n1 z6 z7 z9 : Nat} {k v : Ky} {e : En} {G : Nat → Prop} (h : PB W n0 n1 z6 z7 z9 k v e) (hk : Kp G W W') (hG : ∀ q, n0 ≤ q → q < n1 → ¬ G q) : PB W' n0 n1 z6 z7 z9 k v e := by
  obtain ⟨s1, s2, s3, s4, s5, s6, s7⟩ := h.zs
  have := hk.size
  exact ⟨h.kb.kp hk (hG _ s1 s4), h.vb.kp hk (hG _ s2 s5), h.ob.kp hk (hG _ s3 s6), ⟨s1, s2, s3, s4, s5, s6, by omega⟩⟩
theorem PB.below {W W' : World} {n0 n1 z6 z7 z9 : Nat} {k v : Ky} {e : En} (h : PB W n0 n1 z6 z7 z9 k v e) (hb : Below W.heap.size W W') : PB W' n0 n1 z6 z7 z9 k v e :=
  h.kp (Kp.of_below hb (fun _ => False)) (fun _ _ _ h => h)
structure Dn (W : World) (b bh seed : Nat) (hs : Ky → Nat) (M : Cells) (F : Nat → Prop) (nb : Nat) (P : Nat → Nat) (n : Nat) (l' : List Pr) (Wc : World) (M2 : Cells) (F2 : Nat → Prop) : Prop where
  ar : Ar Wc b 65536 M2 F2
  hh : Hs Wc bh seed
  kp : Kp (fun q => F q ∨ q = bh) W Wc
  bk : Bk (65536 + 1) M2 [] P [n]
  keeps : Keeps P M M2
  live : live (65536 + 1) M2 ≤ Proofs.YthcpjehkjhpjfaaGreat.live (65536 + 1) M + 16
  mp : Mp M2 hs n l'
  fr : ∀ q, F2 q → F q ∨ nb ≤ q
  nz : W.heap.size ≤ nb ∧ nb ≤ Wc.heap.size
  nbh : ¬ F2 bh
section
variable {W Wc Wd : World} {b bh seed n nb : Nat} {hs : Ky → Nat} {M M2 : Cells} {F F2 : Nat → Prop} {P : Nat → Nat} {l' : List Pr}
theorem Dn.kpz {G : Nat → Prop} (h : Dn W b bh seed hs M F nb P n l' Wc M2 F2) (hk : Kp G Wc Wd) (hG : ∀ q, G q → W.heap.size ≤ q ∧ ¬ F2 q) (hbl : bh < W.heap.size) : Dn W b bh seed hs M F nb P n l' Wd M2 F2 :=
  ⟨h.ar.kp hk (fun q hq hg => (hG q hg).2 hq), h.hh.kp hk (fun hg => by have := (hG _ hg).1; omega), h.kp.trans hk (fun q hg => .inr (hG q hg).1), h.bk, h.keeps, h.live, h.mp, h.fr, ⟨h.nz.1, Nat.le_trans h.nz.2 hk.size⟩, h.nbh⟩
theorem Dn.below (h : Dn W b bh seed hs M F nb P n l' Wc M2 F2) (hb : Below Wc.heap.size Wc Wd) : Dn W b bh seed hs M F nb P n l' Wd M2 F2 :=
  ⟨h.ar.below hb, h.hh.below hb, h.kp.trans (Kp.of_below hb (fun _ => False)) (fun _ h => h.elim), h.bk, h.keeps, h.live, h.mp, h.fr, ⟨h.nz.1, Nat.le_trans h.nz.2 hb.size⟩, h.nbh⟩
theorem Dn.drop {M3 : Cells} {root : Nat} (h : Dn W b bh seed hs M F nb (addP P root) n l' Wc M2 F2) (hs3 : Stp Wc Wd b 65536 M3 F2) (hbk : Bk (65536 + 1) M3 [] (addP P n) []) (hk : Keeps (addP P n) M2 M3) (hl : Proofs.YthcpjehkjhpjfaaGreat.live (65536 + 1) M3 ≤ Proofs.YthcpjehkjhpjfaaGreat.live (65536 + 1) M2) (hbl : bh < Wc.heap.size) : Dn W b bh seed hs M F nb P n l' Wd M3 (Fn F2 Wc Wd) := by
  refine ⟨hs3.ar, h.hh.kp hs3.kp h.nbh, h.kp.trans hs3.kp (fun q hq => (h.fr q hq).elim (fun h => .inl (.inl h)) (fun h' => .inr (Nat.le_trans h.nz.1 h'))), hbk.move (fun k _ => ?_) (fun x hx => by simp at hx), fun r h0 hr => ?_, Nat.le_trans hl h.live, h.mp.pres h.ar.zero (fun h0 => hk n h0 (addP_self P n)), fun q hq => ?_, ⟨h.nz.1, Nat.le_trans h.nz.2 hs3.kp.size⟩, fun hf => hf.elim h.nbh (fun e => by omega)⟩
  · rw [count1r]; unfold addP; simp
  · exact (h.keeps r h0 (Nat.le_trans hr (addP_le P root r))).trans (hk r h0 (Nat.le_trans hr (addP_le P n r)))
  · rcases hq with hq | hq
    · exact h.fr q hq
    · exact .inr (Nat.le_trans h.nz.2 hq.1)
def AftQ (W : World) (b bh seed : Nat) (hs : Ky → Nat) (M : Cells) (F : Nat → Prop) (nb : Nat) (P : Nat → Nat) (no : Prop) (er0 : Int) (l' : List Pr) (zz : List Nat) (m n er : Int) (Wc : World) : Prop :=
  (er = er0 ∧ m = 0 ∧ n = 0 ∧ no ∧ Kp (fun q => q = bh) W Wc ∧ Hs Wc bh seed) ∨
  (er = 0 ∧ ¬ no ∧ ∃ (n' : Nat) (M2 : Cells) (F2 : Nat → Prop), m = (l'.length : Int) ∧ n = (n' : Int) ∧ Dn W b bh seed hs M F nb P n' l' Wc M2 F2 ∧ ∀ z ∈ zz, ¬ F2 z)
variable {no : Prop} {er0 m k er : Int} {zz : List Nat}
theorem AftQ.below (h : AftQ W b bh seed hs M F nb P no er0 l' zz m k er Wc) (hb : Below Wc.heap.size Wc Wd) : AftQ W b bh seed hs M F nb P no er0 l' zz m k er Wd := by
  rcases h with ⟨h1, h2, h3, h4, h5, h6⟩ | ⟨h1, h2, n', M2, F2, h3, h4, h5, h6⟩
  · exact .inl ⟨h1, h2, h3, h4, h5.trans (Kp.of_below hb (fun _ => False)) (fun _ h => h.elim), h6.below hb⟩
  · exact .inr ⟨h1, h2, n', M2, F2, h3, h4, h5.below hb, h6⟩
theorem AftQ.alloc (h : AftQ W b bh seed hs M F nb P no er0 l' zz m k er Wc) (o : Obj) : AftQ W b bh seed hs M F nb P no er0 l' (Wc.heap.size :: zz) m k er (Wc.alloc o) := by
  have hb : Below Wc.heap.size Wc (Wc.alloc o) := (Below.refl _ Wc).alloc (Nat.le_refl _) o
  rcases h with ⟨h1, h2, h3, h4, h5, h6⟩ | ⟨h1, h2, n', M2, F2, h3, h4, h5, h6⟩
  · exact .inl ⟨h1, h2, h3, h4, h5.trans (Kp.of_below hb (fun _ => False)) (fun _ h => h.elim), h6.below hb⟩
  · refine .inr ⟨h1, h2, n', M2, F2, h3, h4, h5.below hb, fun z hz hf => ?_⟩
    rcases List.mem_cons.1 hz with rfl | hz
    · have := h5.ar.lt hf; omega
    · exact h6 z hz hf
theorem AftQ.store {z : Nat} (h : AftQ W b bh seed hs M F nb P no er0 l' (z :: zz) m k er Wc) (hk : Kp (fun q => q = z) Wc Wd) (hz : W.heap.size ≤ z) (hbl : bh < W.heap.size) : AftQ W b bh seed hs M F nb P no er0 l' (z :: zz) m k er Wd := by
  rcases h with ⟨h1, h2, h3, h4, h5, h6⟩ | ⟨h1, h2, n', M2, F2, h3, h4, h5, h6⟩
  · exact .inl ⟨h1, h2, h3, h4, h5.trans hk (fun q e => .inr (by omega)), h6.kp hk (by omega)⟩
  · exact .inr ⟨h1, h2, n', M2, F2, h3, h4, h5.kpz hk (fun q e => by rw [e]; exact ⟨hz, h6 z (by simp)⟩) hbl, h6⟩
end
end Go.Proofs.YthcpjehkjhpjfaaGreat
