/- Slices that may begin within their row (what is left of a row once its first elements are taken), of elements of one cell: appending to them, taking the first ones off. Of the dump nothing. -/
import Derived.Test.YtdhgblkmlkkpeaaSlices
import Derived.ArgAppend
namespace Go.Proofs.Ytdhgblkmlkkpeaa
open Go.RowKit

/-- The slice value v reads as these cells, wherever it lies (an empty one, too). -/
def Rw (w : World) (v : Value) (n : Nat) (xs : List Value) : Prop :=
  (v = .slice none 0 0 ∧ n = 0 ∧ xs = []) ∨ ∃ (a : Addr) (c : Nat), v = .slice (some a) n c ∧ ∀ j u, xs[j]? = some u → w.cell? (a.add j) = some u
theorem Rw.of_rd {w : World} {v : Value} {n : Nat} {xs : List Value} (h : Rd w v n xs) : Rw w v n xs := by
  rcases h with h | ⟨b, o, c, rfl, _, hx⟩
  · exact .inl h
  · exact .inr ⟨_, c, rfl, fun j u hu => by rw [add_none]; exact hx j u hu⟩
theorem Rw.below {w w' : World} {v : Value} {n : Nat} {xs : List Value} (h : Rw w v n xs) (hb : Below w.heap.size w w') : Rw w' v n xs := by
  rcases h with h | ⟨a, c, rfl, hx⟩
  · exact .inl h
  · exact .inr ⟨a, c, rfl, fun j u hu => (hb.cell (p := a.add j) (World.block_lt_of_cell? w _ (hx j u hu))).trans (hx j u hu)⟩
theorem Rw.form {w : World} {v : Value} {n : Nat} {xs : List Value} (h : Rw w v n xs) : ∃ A c, v = .slice A n c := by
  rcases h with ⟨rfl, rfl, _⟩ | ⟨a, c, rfl, _⟩
  · exact ⟨none, 0, rfl⟩
  · exact ⟨_, c, rfl⟩
theorem Rw.at {w : World} {v : Value} {n : Nat} {xs : List Value} (h : Rw w v n xs) {j : Nat} {u : Value} (hj : xs[j]? = some u) : ∃ b o c, v = .slice (some ⟨b, o, none⟩) n c ∧ b < w.heap.size ∧ ∀ j u, xs[j]? = some u → w.cell? ⟨b, o + j, none⟩ = some u := by
  rcases h with ⟨_, _, rfl⟩ | ⟨a, c, rfl, hx⟩
  · simp at hj
  · have e : a = ⟨a.block, a.off, none⟩ := by
      obtain ⟨u0, hu0⟩ : ∃ u0, xs[0]? = some u0 := ⟨_, List.getElem?_eq_getElem (by have := (List.getElem?_eq_some_iff.1 hj).1; omega)⟩
      have h0 := World.cell?_spot (hx 0 u0 hu0)
      obtain ⟨b, o, s⟩ := a
      have h1 : s = none := by simpa [Addr.add] using h0
      rw [h1]
    refine ⟨a.block, a.off, c, by rw [← e], ?_, fun i x hi => ?_⟩
    · have := World.block_lt_of_cell? w _ (hx j u hj)
      rw [e, add_none] at this
      exact this
    · have := hx i x hi
      rw [e, add_none] at this
      exact this
/-- The slice v is the call's own (its block is none below B): n elements, these cells, wherever in the row it begins. -/
structure Os (w : World) (B : Nat) (e : TypeId) (v : Value) (n : Nat) (xs : List Value) : Prop where
  len : xs.length = n
  val : ∃ A c, v = .slice A n c ∧ n ≤ c ∧ c ≤ maxLen ∧ (A = none ∨ ∃ g o, A = some ⟨g, o, none⟩ ∧ B ≤ g ∧ g < w.heap.size) ∧
    (c = 0 ∨ ∃ g o cur, A = some ⟨g, o, none⟩ ∧ w.heap[g]? = some (.cells cur e (0, 0)) ∧ o + c ≤ cur.size ∧ ∀ j u, xs[j]? = some u → cur[o + j]? = some u)
section
variable {w w' : World} {B : Nat} {e : TypeId} {v : Value} {n : Nat} {xs : List Value}
theorem Os.form (h : Os w B e v n xs) : ∃ A c, v = .slice A n c ∧ n ≤ c := by
  obtain ⟨A, c, h1, h2, _⟩ := h.val
  exact ⟨A, c, h1, h2⟩
theorem Os.of_own (h : w.ownsRow B e 1 v n xs) : Os w B e v n xs := by
  refine ⟨by simpa using h.1, ?_⟩
  rcases h.2 with ⟨rfl, rfl⟩ | ⟨g, c, cur, rfl, hb, hg, hc, hm, hs, ht⟩
  · exact ⟨none, 0, rfl, Nat.le_refl _, Nat.zero_le _, .inl rfl, .inl rfl⟩
  · refine ⟨_, c, rfl, hc, hm, .inr ⟨g, 0, rfl, hb, (Array.getElem?_eq_some_iff.1 hg).1⟩, .inr ⟨g, 0, cur, rfl, hg, by omega, fun j u hu => ?_⟩⟩
    rw [← ht, List.getElem?_take] at hu
    split at hu
    · simpa using hu
    · cases hu
theorem Os.lt (h : Os w B e v n xs) : ∀ k, v.ownBlock = some k → B ≤ k ∧ k < w.heap.size := by
  obtain ⟨A, c, rfl, _, _, hA, _⟩ := h.val
  intro k hk
  rcases hA with rfl | ⟨g, o, rfl, h1, h2⟩
  · cases hk
  · cases hk; exact ⟨h1, h2⟩
theorem Os.kp {F : Nat → Prop} (h : Os w B e v n xs) (hk : Kp F w w') (hF : ∀ k, v.ownBlock = some k → ¬ F k) : Os w' B e v n xs := by
  obtain ⟨A, c, rfl, h1, h2, hA, hc⟩ := h.val
  refine ⟨h.len, A, c, rfl, h1, h2, hA.imp id (fun ⟨g, o, e1, e2, e3⟩ => ⟨g, o, e1, e2, Nat.lt_of_lt_of_le e3 hk.size⟩), ?_⟩
  rcases hc with hc | ⟨g, o, cur, rfl, hg, rest⟩
  · exact .inl hc
  · exact .inr ⟨g, o, cur, rfl, hk.at hg (hF g rfl), rest⟩
theorem Os.below (h : Os w B e v n xs) (hb : Below w.heap.size w w') : Os w' B e v n xs := h.kp (Kp.of_below hb (fun _ => False)) (fun _ _ => id)
theorem Os.rd (h : Os w B e v n xs) : Rd w v n xs := by
  obtain ⟨A, c, rfl, h1, h2, hA, hc⟩ := h.val
  rcases hc with rfl | ⟨g, o, cur, rfl, hg, hs, hx⟩
  · obtain rfl : n = 0 := by omega
    obtain rfl : xs = [] := List.eq_nil_of_length_eq_zero h.len
    rcases hA with rfl | ⟨g, o, rfl, _, _⟩
    · exact .inl ⟨rfl, rfl, rfl⟩
    · exact .inr ⟨g, o, 0, rfl, Nat.le_refl _, fun j u hu => by simp at hu⟩
  · refine .inr ⟨g, o, c, rfl, h1, fun j u hu => ?_⟩
    have := hx j u hu
    rw [cell_of_row w g (o + j) cur e (0, 0) hg]
    simpa using this
theorem Os.type (h : Os w B e v n xs) {k : Nat} (hk : v.ownBlock = some k) {b t : Nat} {A : Array Value} {z : Nat × Nat} (hn : 0 < n) (hb : w.heap[b]? = some (.cells A t z)) (ht : e ≠ t) : k ≠ b := by
  obtain ⟨A', c, rfl, h1, h2, hA, hc⟩ := h.val
  rcases hc with rfl | ⟨g, o, cur, rfl, hg, _⟩
  · omega
  · cases hk
    exact ne_types hg hb ht
/-- Without the first t. -/
theorem Os.drop {A : Option Addr} {c t : Nat} (h : Os w B e (.slice A n c) n xs) (ht : t ≤ n) : Os w B e (.slice (if c = t then A else A.map (·.add (t * 1))) (n - t) (c - t)) (n - t) (xs.drop t) := by
  obtain ⟨A', c', e1, h1, h2, hA, hc⟩ := h.val
  simp only [Value.slice.injEq, true_and] at e1
  obtain ⟨rfl, rfl⟩ := e1
  refine ⟨by rw [List.length_drop, h.len], _, _, rfl, by omega, by omega, ?_, ?_⟩
  · rcases hA with rfl | ⟨g, o, rfl, h3, h4⟩
    · left; split <;> rfl
    · right
      split
      · exact ⟨g, o, rfl, h3, h4⟩
      · exact ⟨g, o + t, by simp [add_none], h3, h4⟩
  · by_cases hct : c = t
    · exact .inl (by omega)
    · rw [if_neg hct]
      rcases hc with rfl | ⟨g, o, cur, rfl, hg, hs, hx⟩
      · omega
      · refine .inr ⟨g, o + t, cur, by simp [add_none], hg, by omega, fun j u hu => ?_⟩
        rw [List.getElem?_drop] at hu
        have := hx _ u hu
        rwa [Nat.add_assoc]
theorem drop_block {A : Option Addr} {n c t k : Nat} (hA : A = none ∨ ∃ g o, A = some ⟨g, o, none⟩) : (Value.slice (if c = t then A else A.map (·.add (t * 1))) (n - t) (c - t)).ownBlock = some k → (Value.slice A n c).ownBlock = some k := by
  rcases hA with rfl | ⟨g, o, rfl⟩
  · intro h; split at h <;> exact h
  · intro h
    split at h
    · exact h
    · simpa [add_none, Value.ownBlock] using h
end
section
variable {P : Program} (w : World)
theorem run_append_os (B : Nat) (t ty e : TypeId) (i : TypeInfo) (z : Value) (bytes : Nat) (ht : P.underlying t = some (.slice e)) (hi : P.info? e = some i) (hz : i.zero = some z) (hsize : i.size = 1) (hby : i.bytes = bytes)
    (hzs : z.cells.size = 1) (v : Value) (n : Nat) (xs : List Value) (hown : Os w B e v n xs) (y : Value) (m : Nat) (ys : List Value) (hy : Rw w y m ys) (hl : ys.length = m) (h1 : ∀ u ∈ ys, u.oneCell' = true)
    (h63 : n + m ≤ maxLen) (hbytes : (n + m) * bytes ≤ 140737488355328) (hB : B ≤ w.heap.size) :
    ∃ v' w', (Builtin.append_ #[t, t] ty #[v, y]).run P w = .ok v' w' ∧ Os w' B e v' (n + m) (xs ++ ys) ∧ w.grownBy w' v.ownBlock ∧ (v'.ownBlock = v.ownBlock ∨ ∀ k, v'.ownBlock = some k → w.heap.size ≤ k) := by
  have hxl := hown.len
  obtain ⟨A, c, rfl, hnc, hcm, hA, hc⟩ := hown.val
  rcases hy with ⟨rfl, rfl, rfl⟩ | ⟨ay, cy, rfl, hnews⟩
  · refine ⟨.slice A n c, w, ?_, by simpa using hown, ⟨rfl, rfl, rfl, Nat.le_refl _, fun _ _ _ => rfl⟩, .inl rfl⟩
    rcases hA with rfl | ⟨g, o, rfl, _, _⟩
    · obtain rfl : n = 0 := by
        rcases hc with rfl | ⟨g, o, cur, e, _⟩
        · omega
        · cases e
      by_cases h0 : c = 0
      · subst h0
        simp [Builtin.append_, run_underlying ht, sizeOf, typeInfo, hi, Builtin.lenOf, Builtin.firstCells]
      · rcases hc with rfl | ⟨g, o, cur, e, _⟩
        · omega
        · cases e
    · simp [Builtin.append_, run_underlying ht, sizeOf, typeInfo, hi, Builtin.lenOf, Builtin.firstCells, hnc, storeCells]
  · have hl' : ys.length = m * 1 := by omega
    -- a row of its own, grown
    have grow : ∀ (a0 : Addr), c < n + m → (∀ j u, xs[j]? = some u → w.cell? (a0.add j) = some u) → ∃ v' w', (Builtin.append_ #[t, t] ty #[.slice (some a0) n c, .slice (some ay) m cy]).run P w = .ok v' w' ∧ Os w' B e v' (n + m) (xs ++ ys) ∧ w.grownBy w' none ∧ ∀ k, v'.ownBlock = some k → w.heap.size ≤ k := fun a0 hg holds => by
      have h := run_append_arg_grows (P := P) w t ty e i z 1 bytes ht hi hz hsize hby hzs (by omega) a0 n c xs (by omega) holds ay m cy ys hl' hnews hg h63 hbytes
      obtain ⟨v', w', hr, ho, hgr⟩ := h
      exact ⟨v', w', hr, Os.of_own (own_less ho hB), hgr, fun k hk => (own_blk ho k hk).1⟩
    rcases hc with rfl | ⟨g, og, cur, rfl, hg, hs, hx⟩
    · obtain rfl : n = 0 := by omega
      obtain rfl : xs = [] := List.eq_nil_of_length_eq_zero hxl
      rcases hA with rfl | ⟨g, og, rfl, hb1, hb2⟩
      · obtain ⟨v', w', hr, ho, hg, _, hat⟩ := run_append_own_at (P := P) w B t ty e i z 1 bytes ht hi hz hsize hby hzs (by omega) (.slice none 0 0) 0 [] (World.ownsRow_nil _ _ _ _) ay m cy ys hl' hnews h1 h63 hbytes hB
        exact ⟨v', w', hr, Os.of_own ho, hg, hat.imp id (fun e k hk => by rw [e] at hk; cases hk; exact Nat.le_refl _)⟩
      · by_cases hm : m = 0
        · subst hm
          obtain rfl : ys = [] := List.eq_nil_of_length_eq_zero hl
          have hr := run_append_room_cells (P := P) w t ty e i ht hi g og 0 0 ay 0 cy [] (by simp) (by simp) (by simp) (by omega) (by simp) (by simp)
          exact ⟨_, _, hr, by simpa [World.setCells] using hown, by simpa [World.setCells] using grownBy_refl w _, .inl rfl⟩
        · obtain ⟨v', w', hr, ho, hgr, hat⟩ := grow ⟨g, og, none⟩ (by omega) (by simp)
          exact ⟨v', w', hr, ho, ⟨hgr.os, hgr.tape, hgr.output, hgr.size, fun k hk _ => hgr.block k hk (by simp)⟩, .inr hat⟩
    · by_cases hroom : n + m ≤ c
      · have hst := run_storeCells_at P g (og + n * 1) e ys 0 cur w hg (by omega) h1
        have hf := run_firstCells_some (P := P) w 1 m ay m cy ys hl' hnews
        have hr : (Builtin.append_ #[t, t] ty #[.slice (some ⟨g, og, none⟩) n c, .slice (some ay) m cy]).run P w = .ok (.slice (some ⟨g, og, none⟩) (n + m) c) (w.setRow g (cur.toList.take (og + n) ++ ys ++ cur.toList.drop (og + n + ys.length)).toArray) := by
          simp only [Nat.add_zero, Nat.mul_one] at hst
          simp [Builtin.append_, run_underlying ht, sizeOf, typeInfo, hi, hsize, Builtin.lenOf, hroom, hf, Addr.add_lit, hst]
        refine ⟨_, _, hr, ⟨by rw [List.length_append, hxl, hl], _, c, rfl, hroom, hcm, .inr ⟨g, og, rfl, ?_, ?_⟩, .inr ⟨g, og, _, rfl, setRow_heap w g cur _ e _ hg, ?_, ?_⟩⟩, ⟨rfl, rfl, rfl, by simp, fun k _ hk => setRow_other w g k _ (fun e => hk (by simp [Value.ownBlock, e]))⟩, .inl rfl⟩
        · exact (hown.lt g rfl).1
        · simpa using (hown.lt g rfl).2
        · simp only [List.size_toArray, List.length_append, List.length_take, List.length_drop, Array.length_toList]
          omega
        · intro j u hu
          rw [List.getElem?_toArray]
          by_cases hj : j < n
          · rw [List.getElem?_append_left (by omega)] at hu
            rw [List.getElem?_append_left (by simp; omega), List.getElem?_append_left (by simp; omega), List.getElem?_take, if_pos (by omega)]
            have := hx j u hu
            simpa using this
          · rw [List.getElem?_append_right (by omega)] at hu
            have hlt := (List.getElem?_eq_some_iff.1 hu).1
            rw [List.getElem?_append_left (by simp; omega), List.getElem?_append_right (by simp; omega), ← hu]
            congr 1
            simp
            omega
      · obtain ⟨v', w', hr, ho, hgr, hat⟩ := grow ⟨g, og, none⟩ (by omega) (fun j u hu => by
          rw [add_none, cell_of_row w g (og + j) cur e (0, 0) hg]
          simpa using hx j u hu)
        exact ⟨v', w', hr, ho, ⟨hgr.os, hgr.tape, hgr.output, hgr.size, fun k hk _ => hgr.block k hk (by simp)⟩, .inr hat⟩
theorem wpList_append_os {ops : Array Oper} {rest : List Oper} {o : Oper} {a : Act} {Q : Exit → Act → World → Prop} (hgd : o.guard = none) (s x : Operand) (t : TypeId)
    (ho : o.op = .call { callee := .builtin .append, args := #[s, x], argTypes := #[t, t] })
    (B : Nat) (e : TypeId) (i : TypeInfo) (z : Value) (bytes : Nat) (ht : P.underlying t = some (.slice e)) (hi : P.info? e = some i) (hz : i.zero = some z) (hsize : i.size = 1) (hby : i.bytes = bytes) (hzs : z.cells.size = 1)
    (v : Value) (n : Nat) (xs : List Value) (hs : a.eval s = v) (hown : Os w B e v n xs) (y : Value) (m : Nat) (ys : List Value) (hx : a.eval x = y) (hy : Rw w y m ys) (hl : ys.length = m) (h1 : ∀ u ∈ ys, u.oneCell' = true)
    (h63 : n + m ≤ maxLen) (hbytes : (n + m) * bytes ≤ 140737488355328) (hB : B ≤ w.heap.size)
    (h : ∀ v' w', Os w' B e v' (n + m) (xs ++ ys) → w.grownBy w' v.ownBlock → (v'.ownBlock = v.ownBlock ∨ ∀ k, v'.ownBlock = some k → w.heap.size ≤ k) → wpList P ops Q rest (a.put o.dst v') w') : wpList P ops Q (o :: rest) a w :=
  wpList_plain hgd fun K hK => by
    obtain ⟨v', w', hrun, h2, h3, h4⟩ := run_append_os (P := P) w B t o.type e i z bytes ht hi hz hsize hby hzs v n xs hown y m ys hy hl h1 h63 hbytes hB
    unfold Oper.wp execOp
    simp only [ho, resolve, invoke, builtin, Sem.run_bind, Sem.run_pure, Result.andThen_ok, List.map_toArray, List.map_cons, List.map_nil, hs, hx, hrun]
    exact hK _ _ (h v' w' h2 h3 h4)
theorem run_append_rg (B : Nat) (t ty e : TypeId) (i : TypeInfo) (z : Value) (size bytes : Nat) (ht : P.underlying t = some (.slice e)) (hi : P.info? e = some i) (hz : i.zero = some z) (hsize : i.size = size) (hby : i.bytes = bytes)
    (hzs : z.cells.size = size) (hsz : 0 < size) (v : Value) (n : Nat) (xs : List Value) (hown : w.ownsRow B e size v n xs) (y : Value) (m : Nat) (ys : List Value) (hy : Rw w y m ys) (hl : ys.length = m * size) (h1 : ∀ u ∈ ys, u.oneCell' = true)
    (h63 : n + m ≤ maxLen) (hbytes : (n + m) * bytes ≤ 140737488355328) (hB : B ≤ w.heap.size) :
    ∃ v' w', (Builtin.append_ #[t, t] ty #[v, y]).run P w = .ok v' w' ∧ w'.ownsRow B e size v' (n + m) (xs ++ ys) ∧ w.grownBy w' v.ownBlock ∧ (v'.ownBlock = v.ownBlock ∨ v'.ownBlock = some w.heap.size) := by
  rcases hy with ⟨rfl, rfl, rfl⟩ | ⟨a, c, rfl, hc⟩
  · exact ⟨v, w, run_append_owned_none w B t ty e i size ht hi v _ _ hown, by simpa using hown, ⟨rfl, rfl, rfl, Nat.le_refl _, fun _ _ _ => rfl⟩, .inl rfl⟩
  · obtain ⟨v', w', hr, ho, hg, _, hat⟩ := run_append_own_at (P := P) w B t ty e i z size bytes ht hi hz hsize hby hzs hsz v n xs hown a m c ys hl hc h1 h63 hbytes hB
    exact ⟨v', w', hr, ho, hg, hat⟩
theorem wpList_append_rg {ops : Array Oper} {rest : List Oper} {o : Oper} {a : Act} {Q : Exit → Act → World → Prop} (hgd : o.guard = none) (s x : Operand) (t : TypeId)
    (ho : o.op = .call { callee := .builtin .append, args := #[s, x], argTypes := #[t, t] })
    (B : Nat) (e : TypeId) (i : TypeInfo) (z : Value) (size bytes : Nat) (ht : P.underlying t = some (.slice e)) (hi : P.info? e = some i) (hz : i.zero = some z) (hsize : i.size = size) (hby : i.bytes = bytes) (hzs : z.cells.size = size) (hsz : 0 < size)
    (v : Value) (n : Nat) (xs : List Value) (hs : a.eval s = v) (hown : w.ownsRow B e size v n xs) (y : Value) (m : Nat) (ys : List Value) (hx : a.eval x = y) (hy : Rw w y m ys) (hl : ys.length = m * size) (h1 : ∀ u ∈ ys, u.oneCell' = true)
    (h63 : n + m ≤ maxLen) (hbytes : (n + m) * bytes ≤ 140737488355328) (hB : B ≤ w.heap.size)
    (h : ∀ v' w', w'.ownsRow B e size v' (n + m) (xs ++ ys) → w.grownBy w' v.ownBlock → (v'.ownBlock = v.ownBlock ∨ v'.ownBlock = some w.heap.size) → wpList P ops Q rest (a.put o.dst v') w') : wpList P ops Q (o :: rest) a w :=
  wpList_plain hgd fun _ hK => by
    obtain ⟨v', w', hrun, h2, h3, h4⟩ := run_append_rg (P := P) w B t o.type e i z size bytes ht hi hz hsize hby hzs hsz v n xs hown y m ys hy hl h1 h63 hbytes hB
    unfold Oper.wp execOp
    simp only [ho, resolve, invoke, builtin, Sem.run_bind, Sem.run_pure, Result.andThen_ok, List.map_toArray, List.map_cons, List.map_nil, hs, hx, hrun]
    exact hK _ _ (h v' w' h2 h3 h4)
theorem step_append_rg {ops : Array Oper} {o : Oper} {a : Act} {K : Act → World → Prop} {Q : Exit → Act → World → Prop} {E : Prop} (hgd : o.guard = none) (s x : Operand) (t : TypeId)
    (ho : o.op = .call { callee := .builtin .append, args := #[s, x], argTypes := #[t, t] })
    (B : Nat) (e : TypeId) (i : TypeInfo) (z : Value) (size bytes : Nat) (ht : P.underlying t = some (.slice e)) (hi : P.info? e = some i) (hz : i.zero = some z) (hsize : i.size = size) (hby : i.bytes = bytes) (hzs : z.cells.size = size) (hsz : 0 < size)
    (v : Value) (n : Nat) (xs : List Value) (hs : a.eval s = v) (hown : w.ownsRow B e size v n xs) (y : Value) (m : Nat) (ys : List Value) (hx : a.eval x = y) (hy : Rw w y m ys) (hl : ys.length = m * size) (h1 : ∀ u ∈ ys, u.oneCell' = true)
    (h63 : n + m ≤ maxLen) (hbytes : (n + m) * bytes ≤ 140737488355328) (hB : B ≤ w.heap.size)
    (h : ∀ v' w', w'.ownsRow B e size v' (n + m) (xs ++ ys) → w.grownBy w' v.ownBlock → (v'.ownBlock = v.ownBlock ∨ v'.ownBlock = some w.heap.size) → K (a.put o.dst v') w') :
    if Region.wanted o (yielded ops a.tmps) = true then Oper.wp P o a w K Q else E := by
  have hw : Region.wanted o (yielded ops a.tmps) = true := by simp [Region.wanted, hgd]
  rw [if_pos hw]
  obtain ⟨v', w', hrun, h2, h3, h4⟩ := run_append_rg (P := P) (w := w) B t o.type e i z size bytes ht hi hz hsize hby hzs hsz v n xs hown y m ys hy hl h1 h63 hbytes hB
  unfold Oper.wp execOp
  simp only [ho, resolve, invoke, builtin, Sem.run_bind, Sem.run_pure, Result.andThen_ok, List.map_toArray, List.map_cons, List.map_nil, hs, hx, hrun]
  exact h v' w' h2 h3 h4
end
end Go.Proofs.Ytdhgblkmlkkpeaa
