/- Layer 4's law: what stands between two acts; what each act does to the books. -/
import Derived.Test.YtndbhcdiinpkkaaCell04
import Derived.Test.YtndbhcdiinpkkaaLaw04
namespace Go.Proofs.Ytndbhcdiinpkkaa
open Go.RowKit

structure LawD (w0 w : World) (wb b rb nd dn most : Nat) (vC vn vm : Value) (D : Nat → Dc) (K : Nat → Value) (Nm mine : Nat → Nat) (M : Cells) (F : Nat → Prop) : Prop where
  mem : MemD w w0.heap.size wb b rb nd dn most vC vn vm D K Nm mine
  ar : Ar w b most M F
  sep : ∀ g, Lw wb rb dn vC vn vm K g → ¬ F g
  bel : Below w0.heap.size w0 w
  new : ∀ g, F g → w0.heap.size ≤ g
abbrev Law (w0 w : World) (wb b rb nd most : Nat) (vC vn vm : Value) (D : Nat → Dc) (K : Nat → Value) (Nm mine : Nat → Nat) (M : Cells) (F : Nat → Prop) : Prop := LawD w0 w wb b rb nd nd most vC vn vm D K Nm mine M F
section
variable {w0 w w' : World} {wb b rb nd nd' dn dn' most : Nat} {vC vn vm vC' vn' vm' : Value} {D D' : Nat → Dc} {K K' : Nat → Value} {Nm mine Nm' mine' : Nat → Nat} {M M' : Cells} {F : Nat → Prop}
theorem LawD.below (h : LawD w0 w wb b rb nd dn most vC vn vm D K Nm mine M F) (hb : Below w.heap.size w w') : LawD w0 w' wb b rb nd dn most vC vn vm D K Nm mine M F :=
  ⟨h.mem.below hb, h.ar.below hb, h.sep, h.bel.trans (hb.mono h.bel.size), h.new⟩
theorem LawD.alloc (h : LawD w0 w wb b rb nd dn most vC vn vm D K Nm mine M F) (o : Obj) : LawD w0 (w.alloc o) wb b rb nd dn most vC vn vm D K Nm mine M F := h.below ((Below.refl _ _).alloc (Nat.le_refl _) o)
/-- The arena has changed. -/
theorem LawD.arena (h : LawD w0 w wb b rb nd dn most vC vn vm D K Nm mine M F) (ha : Ar w' b most M' (Fn F w w')) (hk : Kp F w w') : LawD w0 w' wb b rb nd dn most vC vn vm D K Nm mine M' (Fn F w w') where
  mem := h.mem.kp hk h.sep
  ar := ha
  sep := fun g hg hf => by
    rcases hf with hf | hf
    · exact h.sep g hg hf
    · have := (h.mem.lt hg).2; omega
  bel := below_kp h.bel hk h.new
  new := fun g hg => by
    rcases hg with hg | hg
    · exact h.new g hg
    · have := h.bel.size; omega
/-- The law's own blocks have changed. -/
theorem LawD.ours (h : LawD w0 w wb b rb nd dn most vC vn vm D K Nm mine M F) (hm : MemD w' w0.heap.size wb b rb nd' dn' most vC' vn' vm' D' K' Nm' mine') (hk : Kp (Lw wb rb dn vC vn vm K) w w') (hl : ∀ g, Lw wb rb dn' vC' vn' vm' K' g → Lw wb rb dn vC vn vm K g ∨ w.heap.size ≤ g) :
    LawD w0 w' wb b rb nd' dn' most vC' vn' vm' D' K' Nm' mine' M F where
  mem := hm
  ar := h.ar.kp hk (fun g hf hg => h.sep g hg hf)
  sep := fun g hg hf => by
    rcases hl g hg with e | e
    · exact h.sep g e hf
    · have := h.ar.lt hf; omega
  bel := below_kp h.bel hk (fun g hg => (h.mem.lt hg).1)
  new := h.new
theorem LawD.numbers (h : LawD w0 w wb b rb nd dn most vC vn vm D K Nm mine M F) (hm : MemD w' w0.heap.size wb b rb nd dn most vC vn vm D' K Nm mine') (hk : Kp (Lw wb rb dn vC vn vm K) w w') : LawD w0 w' wb b rb nd dn most vC vn vm D' K Nm mine' M F :=
  h.ours hm hk (fun _ => .inl)
/-- Something of the caller's own, made later, has changed. -/
theorem LawD.elsewhere (h : LawD w0 w wb b rb nd dn most vC vn vm D K Nm mine M F) {G : Nat → Prop} (hk : Kp G w w') (hG : ∀ g, G g → w0.heap.size ≤ g ∧ ¬ F g ∧ ¬ Lw wb rb dn vC vn vm K g) : LawD w0 w' wb b rb nd dn most vC vn vm D K Nm mine M F :=
  ⟨h.mem.kp hk (fun g hl hg => (hG g hg).2.2 hl), h.ar.kp hk (fun g hf hg => (hG g hg).2.1 hf), h.sep, below_kp h.bel hk (fun g hg => (hG g hg).1), h.new⟩
end

/-- The books. -/
structure Inv (nd most L : Nat) (D : Nat → Dc) (Nm mine own : Nat → Nat) (M : Cells) : Prop where
  rel : Rel nx nd D Nm M
  ok : Ok (most + 1) M own []
  ow : ∀ k, k < nd → 1 ≤ (D k).refs → own (Nm k) = mine k
  dead : ∀ k, k < nd → (D k).refs = 0 → mine k = 0
  out : ∀ k, nd ≤ k → mine k = 0 ∧ (D k).refs = 0
  lim : ∀ k, (D k).refs ≤ L
  wd : ∀ k, 0 ≤ (D k).word ∧ (D k).word ≤ 4294967295
section
variable {nd most L : Nat} {D : Nat → Dc} {Nm mine own : Nat → Nat} {M : Cells}
theorem Inv.held (h : Inv nd most L D Nm mine own M) {k : Nat} (hk : 1 ≤ mine k) : k < nd ∧ 1 ≤ (D k).refs ∧ k ≠ 0 := by
  have h1 : k < nd := by
    rcases Nat.lt_or_ge k nd with e | e
    · exact e
    · have := (h.out k e).1; omega
  have h2 : 1 ≤ (D k).refs := by
    rcases Nat.eq_zero_or_pos (D k).refs with e | e
    · have := h.dead k h1 e; omega
    · exact e
  exact ⟨h1, h2, by rintro rfl; have := h.rel.z1; omega⟩
theorem Inv.mine_le (h : Inv nd most L D Nm mine own M) (k : Nat) : mine k ≤ L := by
  rcases Nat.eq_zero_or_pos (mine k) with e | e
  · omega
  · obtain ⟨h1, h2, _⟩ := h.held e
    have hl := h.ok.lt (h.rel.ne h1 h2)
    have hb := h.ok.bal _ hl.1
    rw [h.rel.rf h1 h2, h.ow k h1 h2] at hb
    have := h.lim k
    omega
theorem Inv.pos (h : Inv nd most L D Nm mine own M) {k : Nat} (hk : k < nd) (hh : 1 ≤ (D k).refs) : 1 ≤ Nm k ∧ Nm k < most + 1 := h.ok.lt (h.rel.ne hk hh)
theorem Inv.up (h : Inv nd most L D Nm mine own M) : Inv nd most (L + 1) D Nm mine own M := ⟨h.rel, h.ok, h.ow, h.dead, h.out, fun k => Nat.le_succ_of_le (h.lim k), h.wd⟩
theorem Inv.rf_le (h : Inv nd most L D Nm mine own M) (i : Nat) : rf (M i) ≤ L := by
  cases e : M i with
  | none => simp [rf]
  | some x =>
    obtain ⟨k, k1, k2, rfl⟩ := h.rel.r3 i (by rw [e]; simp)
    rw [← e, h.rel.rf k1 k2]
    exact h.lim k

/-- One hold more of a name that the caller holds. -/
theorem Inv.keep (h : Inv nd most L D Nm mine own M) {k : Nat} (hk : 1 ≤ mine k) :
    Inv nd most (L + 1) (upd D k { D k with refs := (D k).refs + 1 }) Nm (upd mine k (mine k + 1)) (fun i => own i + if i = Nm k then 1 else 0) (upd M (Nm k) (some (cellOf nx Nm (D k), (D k).refs + 1))) := by
  obtain ⟨k1, k2, k0⟩ := h.held hk
  have hM := h.rel.r1 k k1 k2
  have hr : ∀ j, (upd D k { D k with refs := (D k).refs + 1 } j).refs = if j = k then (D k).refs + 1 else (D j).refs := fun j => by
    by_cases e : j = k
    · subst e; rw [upd_same, if_pos rfl]
    · rw [upd_other _ _ e, if_neg e]
  have hh : ∀ j, 1 ≤ (upd D k { D k with refs := (D k).refs + 1 } j).refs ↔ 1 ≤ (D j).refs := fun j => by
    rw [hr]
    split
    · rename_i e; subst e; omega
    · exact Iff.rfl
  have hxy : ∀ j, (upd D k { D k with refs := (D k).refs + 1 } j).x = (D j).x ∧ (upd D k { D k with refs := (D k).refs + 1 } j).y = (D j).y := fun j => by
    by_cases e : j = k
    · subst e; rw [upd_same]; exact ⟨rfl, rfl⟩
    · rw [upd_other _ _ e]; exact ⟨rfl, rfl⟩
  refine ⟨⟨?_, h.rel.z2, ?_, ?_, ?_, ?_⟩, h.ok.keep hM, ?_, ?_, ?_, ?_, fun j => ?_⟩
  · rw [hr, if_neg (Ne.symm k0)]; exact h.rel.z1
  · intro j hj hj'
    rw [hh] at hj'
    by_cases e : j = k
    · subst e; rw [upd_same, upd_same]; rfl
    · rw [upd_other _ _ (fun e' => e (h.rel.r2 j k hj k1 hj' k2 e')), upd_other _ _ e]; exact h.rel.r1 j hj hj'
  · intro i j hi hj a a' e
    exact h.rel.r2 i j hi hj ((hh i).1 a) ((hh j).1 a') e
  · intro i hi
    by_cases e : i = Nm k
    · exact ⟨k, k1, (hh k).2 k2, e.symm⟩
    · rw [upd_other _ _ e] at hi
      obtain ⟨j, j1, j2, j3⟩ := h.rel.r3 i hi
      exact ⟨j, j1, (hh j).2 j2, j3⟩
  · intro j hj hj'
    obtain ⟨a1, a2, a3, a4⟩ := h.rel.r4 j hj ((hh j).1 hj')
    rw [(hxy j).1, (hxy j).2]
    exact ⟨a1, a2, fun e => (hh _).2 (a3 e), fun e => (hh _).2 (a4 e)⟩
  · intro j hj hj'
    have hj2 := (hh j).1 hj'
    by_cases e : j = k
    · subst e; rw [upd_same, if_pos rfl, h.ow j hj hj2]
    · rw [upd_other _ _ e, if_neg (fun e' => e (h.rel.r2 j k hj k1 hj2 k2 e')), h.ow j hj hj2]; rfl
  · intro j hj hj'
    rw [hr] at hj'
    by_cases e : j = k
    · rw [if_pos e] at hj'; omega
    · rw [if_neg e] at hj'; rw [upd_other _ _ e]; exact h.dead j hj hj'
  · intro j hj
    rw [upd_other _ _ (by omega), hr, if_neg (by omega)]
    exact h.out j hj
  · intro j
    rw [hr]
    have := h.lim j
    split
    · rename_i e; subst e; omega
    · omega
  · by_cases e : j = k
    · subst e; rw [upd_same]; exact h.wd j
    · rw [upd_other _ _ e]; exact h.wd j

/-- One hold less: D' and M' are what is left behind it. -/
theorem Inv.drop (h : Inv nd most L D Nm mine own M) {k : Nat} (hk : 1 ≤ mine k) {D' : Nat → Dc} {M' : Cells} (hR : Rel nx nd D' Nm M') (hO : Ok (most + 1) M' (fun i => own i - if i = Nm k then 1 else 0) []) (hL : Le D' D) :
    Inv nd most L D' Nm (upd mine k (mine k - 1)) (fun i => own i - if i = Nm k then 1 else 0) M' := by
  obtain ⟨k1, k2, k0⟩ := h.held hk
  have hown : ∀ j, j < nd → 1 ≤ (D j).refs → (own (Nm j) - if Nm j = Nm k then 1 else 0) = upd mine k (mine k - 1) j := fun j hj hj' => by
    by_cases e : j = k
    · subst e; rw [upd_same, if_pos rfl, h.ow j hj hj']
    · rw [upd_other _ _ e, if_neg (fun e' => e (h.rel.r2 j k hj k1 hj' k2 e')), h.ow j hj hj']; rfl
  refine ⟨hR, hO, fun j hj hj' => hown j hj (Nat.le_trans hj' (hL j).1), fun j hj hj' => ?_, fun j hj => ?_, fun j => Nat.le_trans (hL j).1 (h.lim j), fun j => by rw [(hL j).2.2.2.2]; exact h.wd j⟩
  · rcases Nat.eq_zero_or_pos (D j).refs with e | e
    · have hm := h.dead j hj e
      rw [upd_other _ _ (by rintro rfl; omega)]
      exact hm
    · have hn : M' (Nm j) = none := Classical.byContradiction fun hne => by
        have := h.rel.still hR hL hj e hne
        omega
      have hf := hO.free (h.pos hj e).1 hn
      rw [← hown j hj e]
      exact hf.1
  · have := h.out j hj
    rw [upd_other _ _ (by omega)]
    have h2 := (hL j).1
    exact ⟨this.1, by omega⟩

/-- Numbers of two names, counted at a held name's number. -/
theorem Inv.count (h : Inv nd most L D Nm mine own M) {x y k : Nat} (hx : x ≠ 0 → x < nd ∧ 1 ≤ (D x).refs) (hy : y ≠ 0 → y < nd ∧ 1 ≤ (D y).refs) (hk : k < nd) (hh : 1 ≤ (D k).refs) : [Nm x, Nm y].count (Nm k) = [x, y].count k := by
  have hp := h.pos hk hh
  have k0 : k ≠ 0 := by rintro rfl; have := h.rel.z1; omega
  have key : ∀ a, (a ≠ 0 → a < nd ∧ 1 ≤ (D a).refs) → ((Nm a == Nm k) = (a == k)) := fun a ha => by
    by_cases e : a = k
    · subst e; simp
    · have h1 : (a == k) = false := by simpa using e
      rw [h1]
      by_cases a0 : a = 0
      · subst a0; rw [h.rel.z2]; simp; omega
      · obtain ⟨a1, a2⟩ := ha a0
        simp only [beq_eq_false_iff_ne, ne_eq]
        exact fun e' => e (h.rel.r2 a k a1 hk a2 hh e')
  simp only [List.count_cons, List.count_nil, key x hx, key y hy]
theorem dec_at (mine : Nat → Nat) (x : Nat) {k : Nat} (hk : k ≠ 0) : dec mine x k = mine k - [x].count k := by
  unfold dec
  rw [List.count_singleton]
  by_cases e : x = 0
  · rw [if_pos e, if_neg (by subst e; simpa using Ne.symm hk)]; rfl
  · rw [if_neg e]
    by_cases e2 : k = x
    · subst e2; rw [upd_same, if_pos (by simp)]
    · rw [upd_other _ _ e2, if_neg (by simpa using Ne.symm e2)]; rfl
theorem dec2_at (mine : Nat → Nat) (x y : Nat) {k : Nat} (hk : k ≠ 0) : dec (dec mine x) y k = mine k - [x, y].count k := by
  rw [dec_at _ y hk, dec_at _ x hk, show [x, y] = [x] ++ [y] from rfl, List.count_append]
  omega
theorem dec_zero_at (mine : Nat → Nat) (x : Nat) (h : mine 0 = 0) : dec mine x 0 = 0 := by
  unfold dec
  split
  · exact h
  · rename_i e; rw [upd_other _ _ (Ne.symm e)]; exact h
theorem Gives.count {x y k : Nat} (hg : Gives nd mine x y) (hk : k ≠ 0) : [x, y].count k ≤ mine k := by
  obtain ⟨_, _, gx, gy, gxy⟩ := hg
  simp only [List.count_cons, List.count_nil]
  by_cases e1 : x = k
  · by_cases e2 : y = k
    · subst e1; subst e2; have := gxy rfl hk; simp; omega
    · subst e1; have := gx hk; simp [e2]; omega
  · by_cases e2 : y = k
    · subst e2; have := gy hk; simp [e1]; omega
    · simp [e1, e2]
theorem Inv.ofGives (h : Inv nd most L D Nm mine own M) {x y : Nat} (hg : Gives nd mine x y) : (x ≠ 0 → x < nd ∧ 1 ≤ (D x).refs) ∧ (y ≠ 0 → y < nd ∧ 1 ≤ (D y).refs) :=
  ⟨fun e => by have := h.held (hg.2.2.1 e); exact ⟨this.1, this.2.1⟩, fun e => by have := h.held (hg.2.2.2.1 e); exact ⟨this.1, this.2.1⟩⟩
/-- What the caller gives, it has. -/
theorem Inv.may (h : Inv nd most L D Nm mine own M) {x y : Nat} (hg : Gives nd mine x y) : ∀ i, 1 ≤ i → [Nm x, Nm y].count i ≤ own i := fun i hi => by
  obtain ⟨hx, hy⟩ := h.ofGives hg
  by_cases hm : i ∈ [Nm x, Nm y]
  · have : ∃ k, k ≠ 0 ∧ k < nd ∧ 1 ≤ (D k).refs ∧ Nm k = i := by
      simp at hm
      rcases hm with rfl | rfl
      · have x0 : x ≠ 0 := by rintro rfl; rw [h.rel.z2] at hi; omega
        exact ⟨x, x0, (hx x0).1, (hx x0).2, rfl⟩
      · have y0 : y ≠ 0 := by rintro rfl; rw [h.rel.z2] at hi; omega
        exact ⟨y, y0, (hy y0).1, (hy y0).2, rfl⟩
    obtain ⟨k, k0, k1, k2, rfl⟩ := this
    rw [h.count hx hy k1 k2, h.ow k k1 k2]
    exact hg.count k0
  · rw [List.count_eq_zero.2 hm]; omega
theorem Inv.good (h : Inv nd most L D Nm mine own M) {x y : Nat} (hg : Gives nd mine x y) : (ns [Nm x, Nm y]).all (goodB M) = true := by
  obtain ⟨hx, hy⟩ := h.ofGives hg
  have key : ∀ a, (a ≠ 0 → a < nd ∧ 1 ≤ (D a).refs) → goodB M (Nm a : Int) = true := fun a ha => by
    unfold goodB
    by_cases a0 : a = 0
    · subst a0; rw [h.rel.z2]; rfl
    · obtain ⟨a1, a2⟩ := ha a0
      have hp := h.pos a1 a2
      have : (1 : Int) ≤ (Nm a : Int) := by omega
      simp [h.rel.r1 a a1 a2, this]
  simp only [ns, List.map_cons, List.map_nil, List.all_cons, List.all_nil, key x hx, key y hy]
  rfl

/-- A new cell, under a new name. -/
theorem Inv.make (h : Inv nd most L D Nm mine own M) {x y i : Nat} {ow wo : Int} (hn : 1 ≤ nd) (hg : Gives nd mine x y) (i1 : 1 ≤ i) (i2 : i ≤ most) (hM : M i = none) (hw : 0 ≤ wo ∧ wo ≤ 4294967295) :
    Inv (nd + 1) most (L + 1) (upd D nd ⟨x, y, 1, ow, wo⟩) (upd Nm nd i) (upd (dec (dec mine x) y) nd 1) (fun k => own k - [Nm x, Nm y].count k + if k = i then 1 else 0) (upd M i (some (cellOf nx Nm ⟨x, y, 1, ow, wo⟩, 1))) := by
  obtain ⟨hx, hy⟩ := h.ofGives hg
  have hxn : x < nd := hg.1
  have hyn : y < nd := hg.2.1
  have hne : ∀ k, k < nd → 1 ≤ (D k).refs → Nm k ≠ i := fun k hk hk' e => h.rel.ne hk hk' (e ▸ hM)
  have hNm : ∀ k, k < nd → upd Nm nd i k = Nm k := fun k hk => upd_other _ _ (by omega)
  have hcell : ∀ d : Dc, d.x < nd → d.y < nd → cellOf nx (upd Nm nd i) d = cellOf nx Nm d := fun d h1 h2 => by unfold cellOf; rw [hNm _ h1, hNm _ h2]
  have hD : ∀ k, k < nd → upd D nd ⟨x, y, 1, ow, wo⟩ k = D k := fun k hk => upd_other _ _ (by omega)
  have hheld : ∀ k, k < nd + 1 → 1 ≤ (upd D nd ⟨x, y, 1, ow, wo⟩ k).refs → k = nd ∨ (k < nd ∧ 1 ≤ (D k).refs) := fun k hk hk' => by
    by_cases e : k = nd
    · exact .inl e
    · have : k < nd := by omega
      rw [hD k this] at hk'; exact .inr ⟨this, hk'⟩
  refine ⟨⟨?_, ?_, ?_, ?_, ?_, ?_⟩, h.ok.make i1 (by omega) hM _ (h.may hg), ?_, ?_, ?_, ?_, fun k => ?_⟩
  · rw [hD 0 (by omega)]; exact h.rel.z1
  · rw [hNm 0 (by omega)]; exact h.rel.z2
  · intro k hk hk'
    rcases hheld k hk hk' with e | ⟨e, e'⟩
    · subst e; rw [upd_same, upd_same, upd_same, hcell _ hxn hyn]
    · have r4 := h.rel.r4 k e e'
      rw [hNm k e, hD k e, upd_other _ _ (hne k e e'), hcell _ r4.1 r4.2.1]
      exact h.rel.r1 k e e'
  · intro k k' hk hk' a a' e
    rcases hheld k hk a with e1 | ⟨e1, e1'⟩ <;> rcases hheld k' hk' a' with e2 | ⟨e2, e2'⟩
    · omega
    · subst e1; rw [upd_same, hNm k' e2] at e; exact absurd e.symm (hne k' e2 e2')
    · subst e2; rw [upd_same, hNm k e1] at e; exact absurd e (hne k e1 e1')
    · rw [hNm k e1, hNm k' e2] at e; exact h.rel.r2 k k' e1 e2 e1' e2' e
  · intro j hj
    by_cases e : j = i
    · subst e; exact ⟨nd, by omega, by rw [upd_same]; exact Nat.le_refl _, upd_same _ _ _⟩
    · rw [upd_other _ _ e] at hj
      obtain ⟨k, k1, k2, k3⟩ := h.rel.r3 j hj
      exact ⟨k, by omega, by rw [hD k k1]; exact k2, by rw [hNm k k1]; exact k3⟩
  · intro k hk hk'
    rcases hheld k hk hk' with e | ⟨e, e'⟩
    · subst e
      rw [upd_same]
      exact ⟨by show x < _; omega, by show y < _; omega, fun a => by rw [hD x hxn]; exact (hx a).2, fun a => by rw [hD y hyn]; exact (hy a).2⟩
    · obtain ⟨a1, a2, a3, a4⟩ := h.rel.r4 k e e'
      rw [hD k e]
      exact ⟨by omega, by omega, fun a => by rw [hD _ a1]; exact a3 a, fun a => by rw [hD _ a2]; exact a4 a⟩
  · intro k hk hk'
    rcases hheld k hk hk' with e | ⟨e, e'⟩
    · subst e
      rw [upd_same, upd_same, if_pos rfl]
      have := (h.ok.free i1 hM).1
      have h2 := h.may hg i i1
      omega
    · have k0 : k ≠ 0 := by rintro rfl; have := h.rel.z1; omega
      rw [hNm k e, upd_other _ _ (by omega), if_neg (hne k e e'), h.count hx hy e e', h.ow k e e', dec2_at _ _ _ k0]
      omega
  · intro k hk hk'
    by_cases e : k = nd
    · subst e; rw [upd_same] at hk'; cases hk'
    · have hk2 : k < nd := by omega
      rw [hD k hk2] at hk'
      rw [upd_other _ _ e]
      have hm := h.dead k hk2 hk'
      by_cases k0 : k = 0
      · subst k0; exact dec_zero_at _ _ (dec_zero_at _ _ hm)
      · rw [dec2_at _ _ _ k0]; omega
  · intro k hk
    have := h.out k (by omega)
    rw [upd_other _ _ (by omega), upd_other _ _ (by omega), dec2_at _ _ _ (by omega)]
    exact ⟨by omega, this.2⟩
  · intro k
    by_cases e : k = nd
    · subst e; rw [upd_same]; show 1 ≤ L + 1; omega
    · rw [upd_other _ _ e]; have := h.lim k; omega
  · by_cases e : k = nd
    · subst e; rw [upd_same]; exact hw
    · rw [upd_other _ _ e]; exact h.wd k
end

end Go.Proofs.Ytndbhcdiinpkkaa
