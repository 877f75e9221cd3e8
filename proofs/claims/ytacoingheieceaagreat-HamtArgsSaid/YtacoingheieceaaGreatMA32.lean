/- Several texts in one. -/
import Derived.OrdersIn
import Derived.Test.YtacoingheieceaaGreatMA31
/- Inside a fence: an operation that only reads may be taken first, if what it reads stands behind whatever else the region does. -/
namespace Go.Proofs.YtacoingheieceaaGreat
open Go Go.RowKit
section
variable {F : Fence} {n : Nat} {P : Program} {ops : Array Oper} {Q : Exit → Act → World → Prop} {S : World → Prop}
/-- Operation o is due: it makes no call, and yields v wherever S stands. -/
def Due (P : Program) (ops : Array Oper) (S : World → Prop) (o : Oper) (v : Value) (a : Act) : Prop :=
  (∀ w, o.about P w a.eval = none) ∧ ((Region.wanted o (yielded ops a.tmps) = true ∧ ∀ w, S w → (execOp a.eval o).run P w = .ok (.value v) w) ∨ (Region.wanted o (yielded ops a.tmps) = false ∧ v = undef))
theorem Due.alike {o : Oper} {v : Value} {a a' : Act} (h : Due P ops S o v a) (e1 : execOp a'.eval o = execOp a.eval o) (e2 : Region.wanted o (yielded ops a'.tmps) = Region.wanted o (yielded ops a.tmps)) (e3 : ∀ w, o.about P w a'.eval = o.about P w a.eval) : Due P ops S o v a' :=
  ⟨fun w => (e3 w).trans (h.1 w), by rw [e1, e2]; exact h.2⟩
/-- Whatever comes up: S stands behind it. -/
def AnyS (F : Fence) (n : Nat) (P : Program) (ops : Array Oper) (Q : Exit → Act → World → Prop) (S : World → Prop) : Nat → Array Bool → Act → World → Prop
  | 0, done, a, w => Region.ready .any ops done = [] ∧ Q .normal a w
  | k + 1, done, a, w => (Region.ready .any ops done = [] → Q .normal a w) ∧ ∀ i ∈ Region.ready .any ops done, wpOpIn F n P ops Q i (fun a' w' => S w' ∧ AnyS F n P ops Q S k (done.setIfInBounds i true) a' w') a w
theorem AnyS.any : ∀ (k : Nat) (done : Array Bool) (a : Act) (w : World), AnyS F n P ops Q S k done a w → wpAnyIn F n P .any ops Q k done a w
  | 0, _, _, _, h => h
  | k + 1, _, _, _, h => ⟨h.1, fun i hi => wpOpIn_mono (fun _ _ h => AnyS.any k _ _ _ h.2) (h.2 i hi)⟩
theorem Due.run {i : Nat} {o : Oper} {v : Value} {a : Act} {w : World} {K : Act → World → Prop} (hro : F.round = none) (hi : ops[i]? = some o) (h : Due P ops S o v a) (hS : S w) (hK : K (a.put o.dst v) w) : wpOpIn F n P ops Q i K a w := by
  have hab : ∀ f, o.about P w a.eval = some f → F.fn f := fun f hf => by rw [h.1 w] at hf; cases hf
  unfold wpOpIn
  simp only [hi]
  rcases h.2 with ⟨e, r⟩ | ⟨e, rfl⟩
  · rw [if_pos e]
    refine ⟨hab, ?_⟩
    rw [hro, Oper.semAt_none, r w hS]
    exact hK
  · rw [e]
    exact ⟨hab, hK⟩
/-- What comes up beside an operation that is due leaves it due, and does the same behind it. -/
theorem Due.beside {j : Nat} {oi oj : Oper} {v : Value} {K : Act → World → Prop} {a : Act} {w : World} (hro : F.round = none) (hj : ops[j]? = some oj) (hap : oi.apart ops oj = true) (si : ∀ cs b, oi.op ≠ .select cs b) (sj : ∀ cs b, oj.op ≠ .select cs b)
    (hQ : ∀ c a w, Q (.panic c) (a.put oi.dst v) w → Q (.panic c) a w) (h : Due P ops S oi v a) (hw : wpOpIn F n P ops Q j K (a.put oi.dst v) w) : wpOpIn F n P ops Q j (fun a' w' => Due P ops S oi v a' ∧ K (a'.put oi.dst v) w') a w := by
  obtain ⟨p1, p2, p3⟩ := Oper.apart_spec hap
  have put : ∀ (c : Act) (u : Value), Due P ops S oi v c → Due P ops S oi v (c.put oj.dst u) := fun c u hc => hc.alike (execOp_put oi si c oj.dst u p3) (wanted_put oi c oj.dst u p3) (fun w => about_put oi w c oj.dst u p3)
  have swap : ∀ (c : Act) (u : Value) (w' : World), K ((c.put oi.dst v).put oj.dst u) w' → K ((c.put oj.dst u).put oi.dst v) w' := fun c u w' hc => by rw [← Act.put_comm c v u p2]; exact hc
  unfold wpOpIn at hw ⊢
  simp only [hj] at hw ⊢
  rw [wanted_put oj a oi.dst v p1, about_put oj w a oi.dst v p1] at hw
  by_cases hwant : Region.wanted oj (yielded ops a.tmps) = true
  · rw [if_pos hwant] at hw ⊢
    unfold Oper.wpIn at hw ⊢
    rw [about_put oj w a oi.dst v p1, hro, Oper.semAt_none, execOp_put oj sj a oi.dst v p1] at hw
    rw [hro, Oper.semAt_none]
    refine ⟨hw.1, ?_⟩
    have hw2 := hw.2
    generalize (execOp a.eval oj).run P w = r at hw2 ⊢
    have fin : ∀ (e : Ending) (w' : World), (match e, w' with
        | .returned u, w'' => K ((a.put oi.dst v).put oj.dst u) w''
        | .panicked chain, w'' => Q (.panic chain) (a.put oi.dst v) w''
        | .outgrown, _ => LetsOut Q) → (match e, w' with
        | .returned u, w'' => Due P ops S oi v (a.put oj.dst u) ∧ K ((a.put oj.dst u).put oi.dst v) w''
        | .panicked chain, w'' => Q (.panic chain) a w''
        | .outgrown, _ => LetsOut Q) := fun e w' he => by
      cases e with
      | returned u => exact ⟨put a u h, swap a u w' he⟩
      | panicked c => exact hQ _ _ _ he
      | outgrown => exact he
    cases r with
    | halt x w' =>
      cases x <;> first
        | exact hw2.elim
        | exact hQ _ _ _ hw2
    | ok x w' =>
      cases x with
      | value u => exact ⟨put a u h, swap a u w' hw2⟩
      | skip => exact ⟨put a _ h, swap a _ w' hw2⟩
      | defer d =>
        have h' : Due P ops S oi v ({ a with defers := d :: a.defers } : Act) := h.alike rfl rfl (fun _ => rfl)
        refine ⟨put _ undef h', swap _ undef w' ?_⟩
        have e := Act.put_defers a oi.dst v d
        rw [← e]
        exact hw2
      | enter f args => exact ⟨hw2.1, hw2.2.mono fin⟩
      | row rw' args => exact ⟨hw2.1, hw2.2.mono fun u w'' he => ⟨put a u h, swap a u w'' he⟩⟩
      | round l f tmps assign body => exact ⟨hw2.1, hw2.2.mono fin⟩
      | _ => exact hw2.elim
  · rw [if_neg hwant] at hw ⊢
    exact ⟨hw.1, put a _ h, swap a _ w hw.2⟩
theorem AnyS.take {i : Nat} {oi : Oper} {v : Value} (hro : F.round = none) (hi : ops[i]? = some oi) (hs : Region.noSelect ops = true) (hQ : ∀ c a w, Q (.panic c) (a.put oi.dst v) w → Q (.panic c) a w) :
    ∀ (k : Nat) (done : Array Bool) (a : Act) (w : World), (∀ j oj, ops[j]? = some oj → j ≠ i → done.getD j true = false → (∀ e ∈ oj.after, Region.binds .any e = true → e.on ≠ i) → oi.apart ops oj = true) →
      i ∈ Region.ready .any ops done → Due P ops S oi v a → S w → AnyS F n P ops Q S k (done.setIfInBounds i true) (a.put oi.dst v) w → AnyS F n P ops Q S (k + 1) done a w
  | k, done, a, w, hfree, hr, hd, hS, H => by
    refine ⟨fun e => absurd hr (by rw [e]; exact List.not_mem_nil), fun j hj => ?_⟩
    by_cases hji : j = i
    · subst hji; exact hd.run hro hi hS ⟨hS, H⟩
    · have hj2 := ready_mono hj hji
      cases k with
      | zero => rw [H.1] at hj2; cases hj2
      | succ k =>
        obtain ⟨hun, oj, hoj, hall⟩ := mem_ready.1 hj
        have hi0 := (mem_ready.1 hr).1
        have hnot : ∀ e ∈ oj.after, Region.binds .any e = true → e.on ≠ i := fun e he hb e2 => by
          have h1 := hall e he hb
          rw [e2] at h1
          by_cases hlt : i < done.size
          · rw [Array.getD_eq_getD_getElem?, Array.getElem?_eq_getElem hlt] at h1 hi0
            simp only [Option.getD_some] at h1 hi0
            rw [h1] at hi0
            cases hi0
          · rw [Array.getD_eq_getD_getElem?, Array.getElem?_eq_none (by omega)] at hi0
            cases hi0
        have h2 := hd.beside hro hoj (hfree j oj hoj hji hun hnot) (Region.noSelect_spec hs i oi · · hi) (Region.noSelect_spec hs j oj · · hoj) hQ (H.2 j hj2)
        refine wpOpIn_mono (fun a' w' h3 => ⟨h3.2.1, AnyS.take hro hi hs hQ k (done.setIfInBounds j true) a' w' (fun x ox hx hxi hxu hno => ?_) (ready_mono hr (Ne.symm hji)) h3.1 h3.2.1 ?_⟩) h2
        · refine hfree x ox hx hxi ?_ hno
          by_cases hjx : j = x
          · subst hjx; exact hun
          · rwa [getD_set_ne true hjx] at hxu
        · rw [Array.setIfInBounds_comm _ _ hji]
          exact h3.2.2
theorem AnyS.first {i : Nat} {oi : Oper} {v : Value} {k : Nat} {done : Array Bool} {a : Act} {w : World} (hro : F.round = none) (hi : ops[i]? = some oi) (hs : Region.noSelect ops = true) (hf : Region.free .any ops done i = true) (hr : (Region.ready .any ops done).contains i = true)
    (hQ : ∀ c a w, Q (.panic c) (a.put oi.dst v) w → Q (.panic c) a w) (hd : Due P ops S oi v a) (hS : S w) (H : AnyS F n P ops Q S k (done.setIfInBounds i true) (a.put oi.dst v) w) : AnyS F n P ops Q S (k + 1) done a w :=
  AnyS.take hro hi hs hQ k done a w (Region.free_spec hi hf) (by simpa using hr) hd hS H
theorem AnyS.one {i : Nat} {o : Oper} {k : Nat} {done : Array Bool} {a : Act} {w : World} (hr : Region.ready .any ops done = [i]) (ho : ops[i]? = some o)
    (h : ∀ K : Act → World → Prop, (∀ a' w', S w' ∧ AnyS F n P ops Q S k (done.setIfInBounds i true) a' w' → K a' w') → if Region.wanted o (yielded ops a.tmps) = true then Oper.wpIn F n P o a w K Q else (∀ f, o.about P w a.eval = some f → F.fn f) ∧ K (a.put o.dst undef) w) : AnyS F n P ops Q S (k + 1) done a w :=
  ⟨fun e => (by rw [hr] at e; cases e), fun j hj => by
    rw [hr, List.mem_singleton] at hj
    subst hj
    exact wpOpIn_step ho (fun K' hK => h K' hK)⟩
theorem AnyS.done {done : Array Bool} {a : Act} {w : World} (hr : Region.ready .any ops done = []) (h : Q .normal a w) : ∀ k, AnyS F n P ops Q S k done a w
  | 0 => ⟨hr, h⟩
  | _ + 1 => ⟨fun _ => h, by rw [hr]; simp⟩
theorem anyS_region {id : Nat} {a : Act} {w : World} (hm : P.follows .mixedOrders = true) (h : AnyS F n P ops Q S ops.size (Array.replicate ops.size false) a w.drew) : (Code.region id ops true).wpIn F n P Q a w :=
  wpIn_region_any hm (h.any _ _ _ _)
end
end Go.Proofs.YtacoingheieceaaGreat

/- Package hamt: what stands between the rounds of a range over a map's pairs. -/
namespace Go.Proofs.YtacoingheieceaaGreat
set_option maxRecDepth 100000
open Go.RowKit
/-- The digits below k of a set, rising. -/
def dgs (n : Nat) : Nat → List Nat
  | 0 => []
  | k + 1 => dgs n k ++ (if n.testBit k then [k] else [])
theorem dgs_len (n : Nat) : ∀ k, (dgs n k).length = cnt n k
  | 0 => rfl
  | k + 1 => by
    unfold dgs cnt
    rw [List.length_append, dgs_len n k]
    cases n.testBit k <;> rfl
theorem dgs_back (n : Nat) : ∀ (k i x : Nat), (dgs n k)[i]? = some x → x < k ∧ n.testBit x = true ∧ cnt n x = i
  | 0, i, x, h => by simp [dgs] at h
  | k + 1, i, x, h => by
    unfold dgs at h
    by_cases hi : i < (dgs n k).length
    · rw [List.getElem?_append_left hi] at h
      obtain ⟨a, b, c⟩ := dgs_back n k i x h
      exact ⟨by omega, b, c⟩
    · rw [List.getElem?_append_right (by omega)] at h
      cases hb : n.testBit k
      · rw [hb] at h; simp at h
      · rw [hb] at h
        have h' : i - (dgs n k).length = 0 ∧ k = x := by
          cases e : i - (dgs n k).length with
          | zero => rw [e] at h; simpa using h
          | succ m => rw [e] at h; simp at h
        obtain ⟨h1, rfl⟩ := h'
        exact ⟨by omega, hb, by rw [← dgs_len]; omega⟩
theorem dgs_join (n : Nat) (L : Nat → List Pr) (h : ∀ d, n.testBit d = false → L d = []) : ∀ k, (dgs n k).flatMap L = (List.range k).flatMap L
  | 0 => rfl
  | k + 1 => by
    rw [List.range_succ, List.flatMap_append, ← dgs_join n L h k]
    show (dgs n k ++ (if n.testBit k then [k] else [])).flatMap L = _
    rw [List.flatMap_append]
    cases hb : n.testBit k
    · simp [h k hb]
    · simp
section
/-- What a range over a map's pairs stands on: the arena, and the map. -/
def Okay (b most : Nat) (M0 : Cells) (root : Nat) (A : World) : Prop := ∃ M F, Ar A b most M F ∧ Pres M0 M root
/-- The arena does not change this block. -/
def Safe (b most : Nat) (A : World) (q : Nat) : Prop := ∃ M F, Ar A b most M F ∧ ¬ F q
/-- The types of what the range has for its own. -/
def Vt (t : Nat) : Prop := t = 30 ∨ t = 170 ∨ t = 43 ∨ t = 3
/-- What a round leaves as it is. -/
structure Kv (n0 b most : Nat) (M0 : Cells) (root : Nat) (A B : World) : Prop where
  ok : Okay b most M0 root A → Okay b most M0 root B
  same : ∀ q cur t, n0 ≤ q → Vt t → A.heap[q]? = some (.cells cur t (0, 0)) → Safe b most A q → B.heap[q]? = some (.cells cur t (0, 0)) ∧ Safe b most B q
variable {n0 b most root : Nat} {M0 : Cells} {A B C : World}
theorem Okay.below (h : Okay b most M0 root A) (hb : Below A.heap.size A B) : Okay b most M0 root B := by
  obtain ⟨M, F, h1, h2⟩ := h
  exact ⟨M, F, h1.below hb, h2⟩
theorem Safe.below {q : Nat} (h : Safe b most A q) (hb : Below A.heap.size A B) : Safe b most B q := by
  obtain ⟨M, F, h1, h2⟩ := h
  exact ⟨M, F, h1.below hb, h2⟩
theorem Okay.new {q : Nat} (h : Okay b most M0 root A) (hb : Below A.heap.size A B) (hq : A.heap.size ≤ q) : Safe b most B q := by
  obtain ⟨M, F, h1, _⟩ := h
  exact ⟨M, F, h1.below hb, fun hf => by have := h1.lt hf; omega⟩
theorem Kv.trans (h : Kv n0 b most M0 root A B) (k : Kv n0 b most M0 root B C) : Kv n0 b most M0 root A C :=
  ⟨fun o => k.ok (h.ok o), fun q cur t hq ht e s => by
    obtain ⟨e1, s1⟩ := h.same q cur t hq ht e s
    exact k.same q cur t hq ht e1 s1⟩
theorem Kv.below (hb : Below A.heap.size A B) : Kv n0 b most M0 root A B :=
  ⟨fun o => o.below hb, fun q _ _ _ _ e s => ⟨(hb.block q (Array.getElem?_eq_some_iff.1 e).1).trans e, s.below hb⟩⟩
/-- What is no cells is none of the arena's. -/
theorem Ar.cut {M : Cells} {F : Nat → Prop} {x : Nat} {o : Obj} (h : Ar A b most M F) (hx : A.heap[x]? = some o) (hc : o.isCells = false) : Ar A b most M (fun k => F k ∧ k ≠ x) := by
  have ne : ∀ {k : Nat} {cur : Array Value} {t : Nat} {z : Nat × Nat}, A.heap[k]? = some (.cells cur t z) → k ≠ x := fun hk e => by
    subst e
    rw [hx] at hk
    cases hk
    cases hc
  have own : ∀ {v : Value} {base e size n : Nat} {xs : List Value}, A.ownsRow base e size v n xs → ∀ k, v.ownBlock = some k → k ≠ x := fun ho k hk => by
    obtain ⟨cur, hcur⟩ := own_type ho k hk
    exact ne hcur
  obtain ⟨n, vc, vf, fr, H, h⟩ := h
  refine ⟨n, vc, vf, fr, H, ⟨h.m1, h.m2, h.row, h.cs, h.fs, fun j c r e => ?_, h.inj, h.nd, h.fi, h.len, h.le, ⟨h.fb, ne h.row⟩, fun k hk => ⟨h.fc k hk, own h.cs k hk⟩, fun k hk => ⟨h.ff k hk, own h.fs k hk⟩, fun k hk => h.lt k hk.1⟩⟩
  obtain ⟨i1, i2, i3, v, k, h1, h2, h3, h4, h5, h6, h7, h8⟩ := h.cel j c r e
  exact ⟨i1, i2, i3, v, k, h1, h2, h3, ⟨h4, ne h1⟩, fun g hg => ⟨h5 g hg, own h2 g hg⟩, fun g hg => ⟨⟨(h6 g hg).1, own h3 g hg⟩, (h6 g hg).2⟩, h7, h8⟩
theorem kp_putObj {x : Nat} {o : Obj} : Kp (fun q => q = x) A (A.putObj x o) :=
  ⟨rfl, rfl, rfl, by simp [World.putObj], fun k _ hk => World.putObj_heap_other hk⟩
theorem Kv.putObj {x : Nat} {o o' : Obj} (hx : A.heap[x]? = some o) (hc : o.isCells = false) : Kv n0 b most M0 root A (A.putObj x o') := by
  have ar : ∀ {M F}, Ar A b most M F → Ar (A.putObj x o') b most M (fun k => F k ∧ k ≠ x) := fun h => (h.cut hx hc).kp kp_putObj (fun k hk => hk.2)
  refine ⟨fun ⟨M, F, h1, h2⟩ => ⟨M, _, ar h1, h2⟩, fun q cur t _ _ e ⟨M, F, h1, h2⟩ => ⟨?_, M, _, ar h1, fun hf => h2 hf.1⟩⟩
  have hne : q ≠ x := fun e2 => by
    subst e2
    rw [hx] at e
    cases e
    cases hc
  exact (World.putObj_heap_other hne).trans e
/-- A row of the range's own. -/
def Mi (n0 b most : Nat) (A : World) (t size : Nat) (v : Value) (n : Nat) (xs : List Value) : Prop := A.ownsRow n0 t size v n xs ∧ ∀ q, v.ownBlock = some q → Safe b most A q
theorem Mi.kv {t size n : Nat} {v : Value} {xs : List Value} (h : Mi n0 b most A t size v n xs) (ht : Vt t) (hk : Kv n0 b most M0 root A B) : Mi n0 b most B t size v n xs := by
  obtain ⟨ho, hs⟩ := h
  refine ⟨⟨ho.1, ?_⟩, fun q hq => ?_⟩
  · rcases ho.2 with hn | ⟨g, cap, cur, rfl, hg, e, hr⟩
    · exact .inl hn
    · exact .inr ⟨g, cap, cur, rfl, hg, (hk.same g cur t hg ht e (hs g rfl)).1, hr⟩
  · obtain ⟨cur, hcur⟩ := own_type ho q hq
    exact (hk.same q cur t (own_blk ho q hq).1 ht hcur (hs q hq)).2
theorem Mi.below {t size n : Nat} {v : Value} {xs : List Value} (h : Mi n0 b most A t size v n xs) (hb : Below A.heap.size A B) : Mi n0 b most B t size v n xs :=
  ⟨(Kp.of_below hb (fun _ => False)).own h.1 (fun _ _ h => h), fun q hq => (h.2 q hq).below hb⟩
/-- What visit has for its own. -/
structure VS (n0 b bh most z4 z9 : Nat) (c : Hc) (V K : Value) (A : World) : Prop where
  lb : C2 A z4 30 (ap b) (.pointer (some ⟨bh, 0, none⟩))
  cb : C5 A z9 170 (.int .u32 c.owner) (.int .u32 c.a) (.int .u32 c.b) V K
  vr : Mi n0 b most A 43 3 V c.vals.length (c.vals.flatMap cells3)
  kr : Mi n0 b most A 3 1 K c.kids.length (nums (ns c.kids))
  n4 : n0 ≤ z4 ∧ n0 ≤ z9
  sf : Safe b most A z4 ∧ Safe b most A z9
theorem VS.kv {bh z4 z9 : Nat} {c : Hc} {V K : Value} (h : VS n0 b bh most z4 z9 c V K A) (hk : Kv n0 b most M0 root A B) : VS n0 b bh most z4 z9 c V K B := by
  obtain ⟨e4, s4⟩ := hk.same z4 _ _ h.n4.1 (.inl rfl) h.lb h.sf.1
  obtain ⟨e9, s9⟩ := hk.same z9 _ _ h.n4.2 (.inr (.inl rfl)) h.cb h.sf.2
  exact ⟨e4, e9, h.vr.kv (.inr (.inr (.inl rfl))) hk, h.kr.kv (.inr (.inr (.inr rfl))) hk, h.n4, s4, s9⟩
theorem VS.below {bh z4 z9 : Nat} {c : Hc} {V K : Value} (h : VS n0 b bh most z4 z9 c V K A) (hb : Below A.heap.size A B) : VS n0 b bh most z4 z9 c V K B :=
  ⟨h.lb.below hb, h.cb.below hb, h.vr.below hb, h.kr.below hb, h.n4, h.sf.1.below hb, h.sf.2.below hb⟩
end
end Go.Proofs.YtacoingheieceaaGreat

/- A range over a function: each round keeps what the function has for its own, one that ends the range as well. Of the dump nothing. -/
namespace Go.Proofs.YtacoingheieceaaGreat
set_option maxRecDepth 100000
open Go Go.RowKit

section
variable {α : Type} {P : Program}
/-- The function f, called with these arguments and a function to yield to, yields the elements of xs, one behind the other, until it is told to end: for whatever J stands when so many have come, and Jx when it was told to end behind so many. Kp is what each round keeps, one that ends the range as well. -/
def Gives8 (P : Program) (f : FuncId) (args : Value → Array Value) (encs : α → Array Value) (Kp : World → World → Prop) (xs : List α) (w : World) : Prop :=
  ∀ (l : Nat) (J Jx : Nat → World → Prop) (W : World), Below w.heap.size w W → (∀ i A B, J i A → Below A.heap.size A B → J i B) → (∀ i A B, Jx i A → Below A.heap.size A B → Jx i B) →
    (∀ i x A, xs[i]? = some x → J i A → YieldAt Fence.wide 0 P l (encs x) A fun e B => (e = .returned (.bool true) ∧ J (i + 1) B ∧ Kp A B) ∨ (e = .returned (.bool false) ∧ Jx (i + 1) B ∧ Kp A B)) →
    J 0 W → Calls P f (args (.func (.yield l) #[] #[])) W fun e B => (∃ v, e = .returned v) ∧ (J xs.length B ∨ ∃ i, i ≤ xs.length ∧ Jx i B)

/-- How a round is left: it goes on, or it ends the range by a jump. -/
def roundOf8 (Kp : World → World → Prop) (I : Nat → World → Prop) (Ix : Code → Nat → World → Prop) (i : Nat) (A : World) : Exit → Act → World → Prop
  | .normal, _, B => KeepsOthers A B ∧ Kp A B ∧ I i B
  | .ret, _, B => KeepsOthers A B ∧ Kp A B ∧ Ix .ret i B
  | .exit k, _, B => KeepsOthers A B ∧ Kp A B ∧ Ix (.exit k) i B
  | .goto k, _, B => KeepsOthers A B ∧ Kp A B ∧ Ix (.goto k) i B
  | .panic _, _, _ => False
  | .outgrown, _, _ => False

theorem wp_range8 {g : Operand} {ps : Array Tmp} {assign body : Code} {Q : Exit → Act → World → Prop} {a : Act} {w : World} {f : FuncId} {first last : Array Value}
    (hg : a.eval g = .func (.func f) first last) (hf : ∀ (args : Array Value) (w : World), (callFunc f args).run P w = .ok (.enter f args) w) {encs : α → Array Value} {Kp : World → World → Prop} {xs : List α} (hps : ∀ x, (encs x).size = ps.size)
    (hseq : Gives8 P f (fun v => first ++ #[v] ++ last) encs Kp xs w)
    (hKt : ∀ {A B C : World}, Kp A B → Kp B C → Kp A C) (hKb : ∀ (W : World) (l : Nat) (o o' : Obj), w.heap.size ≤ l → W.heap[l]? = some o → o.isCells = false → o.isWalk = false → Kp W (W.putObj l o'))
    (I : Nat → World → Prop) (Ix : Code → Nat → World → Prop) (hI : OwnFrom w.heap.size I) (hIx : ∀ c, OwnFrom w.heap.size (Ix c)) (h0 : I 0 w)
    (hround : ∀ (l i : Nat) (x : α) (W : World), xs[i]? = some x → assign.wpIn (Fence.wide.inRound l) 0 P (Exit.then (fun a₁ Wa => Wa = W ∧ ∀ W', I i W' → w.heap.size ≤ W'.heap.size → body.wpIn (Fence.wide.inRound l) 0 P (roundOf8 Kp I Ix (i + 1) W') a₁ W') (fun _ _ _ => False)) { tmps := (ps.zip (encs x)).foldl (fun t (p, v) => t.setIfInBounds p v) a.tmps, defers := [] } W)
    (hdone : ∀ (D : Nat) (W : World), w.heap.size ≤ D → I xs.length W → W.heap[D]? = some (.deferred (some [])) → Q .normal { a with defers := { target := .collected D, args := #[] } :: a.defers } W)
    (hstop : ∀ (D : Nat) (c : Code) (i : Nat) (W : World), w.heap.size ≤ D → i ≤ xs.length → Ix c i W → W.heap[D]? = some (.deferred (some [])) → c.wp P Q { a with defers := { target := .collected D, args := #[] } :: a.defers } W) :
    (Code.rangeFunc g ps assign body).wp P Q a w := by
  refine (wpIn_wide (n := 1)).1 (wpIn_rangeFunc fun fn hfn => ?_)
  obtain ⟨rec, hrec⟩ : ∃ rec : LoopState → Option Code → Loop, rec = fun st pe => { state := st, pending := pe, fn, tmps := a.tmps, params := ps, assign, body, defers := w.heap.size } := ⟨_, rfl⟩
  obtain ⟨W1, hW1⟩ : ∃ W1, W1 = (w.alloc (.deferred (some []))).alloc (.loop (rec .ready none)) := ⟨_, rfl⟩
  have hb1 : Below w.heap.size w W1 := by rw [hW1]; exact ((Below.refl _ w).alloc (Nat.le_refl _) _).alloc (by simp) _
  have hB1 : Books w.heap.size (rec .ready none) W1 := by
    rw [hW1]
    refine ⟨?_, (Below.heap_alloc _ _ _ (by simp)).trans (World.alloc_heap_new w _)⟩
    have := World.alloc_heap_new (w.alloc (.deferred (some []))) (.loop (rec .ready none))
    rwa [World.size_alloc] at this
  refine ⟨w.heap.size + 1, [{ target := .collected w.heap.size, args := #[] }], W1, { target := .fn (.func f) last, args := first ++ #[.func (.yield (w.heap.size + 1)) #[] #[]] }, W1, f, first ++ #[.func (.yield (w.heap.size + 1)) #[] #[]] ++ last, W1, ?_, ?_, fun _ _ => trivial, ?_, fun _ => Nat.le_refl 1, ?_⟩
  · rw [hW1, hrec]; exact run_enterLoop_outer _ _ _ _ _
  · simp only [resolve, hg]
    simp [go_sem, Deferred.ofValue]
  · simp only [invoke]
    exact hf _ _
  · refine callsIn_wide.2 ((hseq (w.heap.size + 1) (fun i W => I i W ∧ Books w.heap.size (rec .ready none) W) (fun i W => ∃ c, Ix c i W ∧ Books w.heap.size (rec .done (some c)) W) W1 hb1
      (fun i A B h hg => ⟨below_own hI h.1 hg, h.2.below hg⟩) (fun i A B ⟨c, h, hk⟩ hg => ⟨c, below_own (hIx c) h hg, hk.below hg⟩) ?_ ⟨below_own hI h0 hb1, hB1⟩).mono ?_)
    · rintro i x W hx ⟨hi, hk⟩
      have hlt : w.heap.size + 1 < W.heap.size := (Array.getElem?_eq_some_iff.1 hk.row).1
      have hy := run_yield (P := P) (args := encs x) hk.row (by rw [hrec]; exact hps x)
      have hbegin := run_beginRound (P := P) hk.row (by rw [hrec])
      have hk2 := hk.put { rec .ready none with state := .busy }
      have hp2 : Kp W (W.putObj (w.heap.size + 1) (.loop { rec .ready none with state := .busy })) := hKb _ _ _ _ (by omega) hk.row rfl rfl
      have hi2 := hI.putObj (.loop { rec .ready none with state := .busy }) hi (Nat.le_succ _) hk.row rfl
      have hsz : w.heap.size ≤ (W.putObj (w.heap.size + 1) (.loop { rec .ready none with state := .busy })).heap.size := by
        have := (Array.getElem?_eq_some_iff.1 hk2.row).1; omega
      have hend : ∀ (j : Option Code) (B : World), KeepsOthers (W.putObj (w.heap.size + 1) (.loop { rec .ready none with state := .busy })) B →
          (Instr.endRound (w.heap.size + 1) j).run P B = .ok (.bool j.isNone) (B.putObj (w.heap.size + 1) (.loop (rec (if j.isNone then .ready else .done) j))) ∧ Books w.heap.size { rec .ready none with state := .busy } B := fun j B hB => by
        have hk3 := hk2.keeps hB
        refine ⟨?_, hk3⟩
        have := run_endRound (P := P) j hk3.row
        rw [hrec] at this ⊢
        exact this
      rw [hrec] at hy
      refine ⟨fn, _, assign, body, hy, roundIn_of_wpIn hfn (wpIn_mono (hround (w.heap.size + 1) i x W hx) ?_)⟩
      rintro (_ | _ | _ | _ | _ | _) a1 Wa ha <;> first | exact ha.elim | skip
      obtain ⟨rfl, hwalk⟩ := ha
      refine ⟨_, hbegin, wpIn_mono (hwalk _ hi2 hsz) ?_⟩
      intro e a3 B hp
      cases e with
      | normal =>
        obtain ⟨hkp, hK, hI3⟩ := hp
        obtain ⟨hr, hk3⟩ := hend none B hkp
        exact ⟨_, _, hr, .inl ⟨rfl, ⟨hI.putObj _ hI3 (Nat.le_succ _) hk3.row rfl, hk3.put _⟩, hKt (hKt hp2 hK) (hKb _ _ _ _ (Nat.le_succ _) hk3.row rfl rfl)⟩⟩
      | ret =>
        obtain ⟨hkp, hK, hI3⟩ := hp
        obtain ⟨hr, hk3⟩ := hend (some .ret) B hkp
        exact ⟨_, _, hr, .inr ⟨rfl, ⟨.ret, (hIx _).putObj _ hI3 (Nat.le_succ _) hk3.row rfl, hk3.put _⟩, hKt (hKt hp2 hK) (hKb _ _ _ _ (Nat.le_succ _) hk3.row rfl rfl)⟩⟩
      | exit k =>
        obtain ⟨hkp, hK, hI3⟩ := hp
        obtain ⟨hr, hk3⟩ := hend (some (.exit k)) B hkp
        exact ⟨_, _, hr, .inr ⟨rfl, ⟨.exit k, (hIx _).putObj _ hI3 (Nat.le_succ _) hk3.row rfl, hk3.put _⟩, hKt (hKt hp2 hK) (hKb _ _ _ _ (Nat.le_succ _) hk3.row rfl rfl)⟩⟩
      | goto k =>
        obtain ⟨hkp, hK, hI3⟩ := hp
        obtain ⟨hr, hk3⟩ := hend (some (.goto k)) B hkp
        exact ⟨_, _, hr, .inr ⟨rfl, ⟨.goto k, (hIx _).putObj _ hI3 (Nat.le_succ _) hk3.row rfl, hk3.put _⟩, hKt (hKt hp2 hK) (hKb _ _ _ _ (Nat.le_succ _) hk3.row rfl rfl)⟩⟩
      | panic _ => exact hp.elim
      | outgrown => exact hp.elim
    · rintro e B ⟨⟨v, rfl⟩, ⟨hi, hk⟩ | ⟨i, hle, c, hi, hk⟩⟩
      · have hr := run_endLoop (P := P) hk.row (by rw [hrec]; simp)
        exact ⟨none, _, by rw [hr, hrec], hdone _ _ (Nat.le_refl _) (hI.putObj _ hi (Nat.le_succ _) hk.row rfl) ((World.putObj_heap_other (by omega)).trans hk.def')⟩
      · have hr := run_endLoop (P := P) hk.row (by rw [hrec]; simp)
        exact ⟨some c, _, by rw [hr, hrec], wpIn_wide.2 (hstop _ c i _ (Nat.le_refl _) hle ((hIx c).putObj _ hi (Nat.le_succ _) hk.row rfl) ((World.putObj_heap_other (by omega)).trans hk.def'))⟩
end

end Go.Proofs.YtacoingheieceaaGreat
