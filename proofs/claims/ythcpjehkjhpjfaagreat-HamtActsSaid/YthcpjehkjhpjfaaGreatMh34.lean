/- Several texts in one. -/
import Derived.Test.YthcpjehkjhpjfaaGreatMh22
import Derived.Test.YthcpjehkjhpjfaaGreatMh03
import Derived.OwnWalkIn
namespace Go.Proofs.YthcpjehkjhpjfaaGreat
open Go Go.RowKit
section
variable {F : Fence} {n : Nat} {P : Program} {ops : Array Oper} {Q : Exit → Act → World → Prop} {S : World → Prop} {X : List Nat}
def noDefer (ops : Array Oper) : Bool := ops.all fun o => match o.op with
  | .defer _ => false
  | _ => true
theorem noDefer_spec (h : noDefer ops = true) {i : Nat} {o : Oper} (hi : ops[i]? = some o) : ∀ c, o.op ≠ .defer c := by
  intro c e
  unfold noDefer at h
  rw [Array.all_eq_true] at h
  obtain ⟨hl, rfl⟩ := Array.getElem?_eq_some_iff.1 hi
  have h1 := h i hl
  rw [e] at h1
  cases h1
def waits (ops : Array Oper) (X : List Nat) (i : Nat) : Bool := X.all fun x => match ops[x]? with
  | some o => o.after.any fun e => Region.binds .any e && e.on == i
  | none => true
theorem waits_spec {i x : Nat} {o : Oper} (h : waits ops X i = true) (hx : x ∈ X) (ho : ops[x]? = some o) : ∃ e ∈ o.after, Region.binds .any e = true ∧ e.on = i := by
  unfold waits at h
  have h1 := List.all_eq_true.1 h x hx
  simp only [ho] at h1
  obtain ⟨k, hk, h2⟩ := Array.any_eq_true.1 h1
  simp only [Bool.and_eq_true, beq_iff_eq] at h2
  exact ⟨_, Array.getElem_mem hk, h2.1, h2.2⟩
def AnyX (F : Fence) (n : Nat) (P : Program) (ops : Array Oper) (Q : Exit → Act → World → Prop) (S : World → Prop) (X : List Nat) : Nat → Array Bool → Act → World → Prop
  | 0, done, a, w => Region.ready .any ops done = [] ∧ Q .normal a w
  | k + 1, done, a, w => (Region.ready .any ops done = [] → Q .normal a w) ∧ ∀ i ∈ Region.ready .any ops done, wpOpIn F n P ops Q i (fun a' w' => (i ∈ X ∨ S w') ∧ AnyX F n P ops Q S X k (done.setIfInBounds i true) a' w') a w
theorem AnyX.any : ∀ (k : Nat) (done : Array Bool) (a : Act) (w : World), AnyX F n P ops Q S X k done a w → wpAnyIn F n P .any ops Q k done a w
  | 0, _, _, _, h => h
  | k + 1, _, _, _, h => ⟨h.1, fun i hi => wpOpIn_mono (fun _ _ h => AnyX.any k _ _ _ h.2) (h.2 i hi)⟩
theorem Due.runX {i : Nat} {o : Oper} {v : Value} {a : Act} {w : World} {K : Act → World → Prop} (hnd : ∀ c, o.op ≠ .defer c) (hi : ops[i]? = some o) (h : Due P ops S o v a) (hS : S w) (hK : K (a.put o.dst v) w) : wpOpIn F n P ops Q i K a w := by
  have hab : ∀ f, o.about P w a.eval = some f → F.fn f := fun f hf => by rw [h.1 w] at hf; cases hf
  unfold wpOpIn
  simp only [hi]
  rcases h.2 with ⟨e, r⟩ | ⟨e, rfl⟩
  · rw [if_pos e]
    refine ⟨hab, ?_⟩
    rw [Oper.semAt_plain F _ _ hnd, r w hS]
    exact hK
  · rw [e]
    exact ⟨hab, hK⟩
theorem Due.besideX {j : Nat} {oi oj : Oper} {v : Value} {K : Act → World → Prop} {a : Act} {w : World} (hnd : ∀ c, oj.op ≠ .defer c) (hj : ops[j]? = some oj) (hap : oi.apart ops oj = true) (si : ∀ cs b, oi.op ≠ .select cs b) (sj : ∀ cs b, oj.op ≠ .select cs b)
    (hQ : ∀ c a w, Q (.panic c) (a.put oi.dst v) w → Q (.panic c) a w) (h : Due P ops S oi v a) (hw : wpOpIn F n P ops Q j K (a.put oi.dst v) w) : wpOpIn F n P ops Q j (fun a' w' => Due P ops S oi v a' ∧ K (a'.put oi.dst v) w') a w := by
  obtain ⟨p1, p2, p3⟩ := Oper.apart_spec hap
  have put : ∀ (c : Act) (u : Value), Due P ops S oi v c → Due P ops S oi v (c.put oj.dst u) := fun c u hc => hc.alike (execOp_put oi si c oj.dst u p3) (wanted_put oi c oj.dst u p3) (fun w => about_put oi w c oj.dst u p3)
  have swap : ∀ (c : Act) (u : Value) (w' : World), K ((c.put oi.dst v).put oj.dst u) w' → K ((c.put oj.dst u).put oi.dst v) w' := fun c u w' hc => by rw [← Act.put_comm c v u p2]; exact hc
  unfold wpOpIn at hw ⊢
  simp only [hj] at hw ⊢
  rw [wanted_put oj a oi.dst v p1, about_put oj w a oi.dst v p1] at hw
  by_cases hwant : Region.wanted oj (yielded ops a.tmps) = true
  · rw [if_pos hwant] at hw ⊢
    unfold Oper.wpIn at hw ⊢
    rw [about_put oj w a oi.dst v p1, Oper.semAt_plain F _ _ hnd, execOp_put oj sj a oi.dst v p1] at hw
    rw [Oper.semAt_plain F _ _ hnd]
    refine ⟨hw.1, ?_⟩
    have hw2 := hw.2
    generalize (execOp a.eval oj).run P w = r at hw2 ⊢
    have fin : ∀ (e : Ending) (w' : World), (match e, w' with
        | .returned u, w'' => K ((a.put oi.dst v).put oj.dst u) w''
        | .panicked chain, w'' => Q (.panic chain) (a.put oi.dst v) w''
        | .outgrown, _ => LetsOut Q) → (match e, w' with
        | .returned u, w'' => Due P ops S oi v (a.put oj.dst u) ∧ K ((a.put oj.dst u).put oi.dst v) w''
        | .panicked chain, w'' => Q (.panic chain) a w''
        | .outgrown, _ => LetsOut Q) := fun e w' he => by
      cases e with
      | returned u => exact ⟨put a u h, swap a u w' he⟩
      | panicked c => exact hQ _ _ _ he
      | outgrown => exact he
    cases r with
    | halt x w' =>
      cases x <;> first
        | exact hw2.elim
        | exact hQ _ _ _ hw2
    | ok x w' =>
      cases x with
      | value u => exact ⟨put a u h, swap a u w' hw2⟩
      | skip => exact ⟨put a _ h, swap a _ w' hw2⟩
      | defer d =>
        have h' : Due P ops S oi v ({ a with defers := d :: a.defers } : Act) := h.alike rfl rfl (fun _ => rfl)
        refine ⟨put _ undef h', swap _ undef w' ?_⟩
        have e := Act.put_defers a oi.dst v d
        rw [← e]
        exact hw2
      | enter f args => exact ⟨hw2.1, hw2.2.mono fin⟩
      | row rw' args => exact ⟨hw2.1, hw2.2.mono fun u w'' he => ⟨put a u h, swap a u w'' he⟩⟩
      | round l f tmps assign body => exact ⟨hw2.1, hw2.2.mono fin⟩
      | _ => exact hw2.elim
  · rw [if_neg hwant] at hw ⊢
    exact ⟨hw.1, put a _ h, swap a _ w hw.2⟩
theorem AnyX.take {i : Nat} {oi : Oper} {v : Value} (hnd : noDefer ops = true) (hX : waits ops X i = true) (hi : ops[i]? = some oi) (hs : Region.noSelect ops = true) (hQ : ∀ c a w, Q (.panic c) (a.put oi.dst v) w → Q (.panic c) a w) :
    ∀ (k : Nat) (done : Array Bool) (a : Act) (w : World), (∀ j oj, ops[j]? = some oj → j ≠ i → done.getD j true = false → (∀ e ∈ oj.after, Region.binds .any e = true → e.on ≠ i) → oi.apart ops oj = true) →
      i ∈ Region.ready .any ops done → Due P ops S oi v a → S w → AnyX F n P ops Q S X k (done.setIfInBounds i true) (a.put oi.dst v) w → AnyX F n P ops Q S X (k + 1) done a w
  | k, done, a, w, hfree, hr, hd, hS, H => by
    refine ⟨fun e => absurd hr (by rw [e]; exact List.not_mem_nil), fun j hj => ?_⟩
    by_cases hji : j = i
    · subst hji; exact hd.runX (noDefer_spec hnd hi) hi hS ⟨.inr hS, H⟩
    · have hj2 := ready_mono hj hji
      cases k with
      | zero => rw [H.1] at hj2; cases hj2
      | succ k =>
        obtain ⟨hun, oj, hoj, hall⟩ := mem_ready.1 hj
        have hi0 := (mem_ready.1 hr).1
        have hnot : ∀ e ∈ oj.after, Region.binds .any e = true → e.on ≠ i := fun e he hb e2 => by
          have h1 := hall e he hb
          rw [e2] at h1
          by_cases hlt : i < done.size
          · rw [Array.getD_eq_getD_getElem?, Array.getElem?_eq_getElem hlt] at h1 hi0
            simp only [Option.getD_some] at h1 hi0
            rw [h1] at hi0
            cases hi0
          · rw [Array.getD_eq_getD_getElem?, Array.getElem?_eq_none (by omega)] at hi0
            cases hi0
        have hjX : j ∉ X := fun hx => by
          obtain ⟨e, he, hb, e2⟩ := waits_spec hX hx hoj
          exact hnot e he hb e2
        have h2 := hd.besideX (noDefer_spec hnd hoj) hoj (hfree j oj hoj hji hun hnot) (Region.noSelect_spec hs i oi · · hi) (Region.noSelect_spec hs j oj · · hoj) hQ (H.2 j hj2)
        refine wpOpIn_mono (fun a' w' h3 => ⟨h3.2.1, AnyX.take hnd hX hi hs hQ k (done.setIfInBounds j true) a' w' (fun x ox hx hxi hxu hno => ?_) (ready_mono hr (Ne.symm hji)) h3.1 (h3.2.1.resolve_left hjX) ?_⟩) h2
        · refine hfree x ox hx hxi ?_ hno
          by_cases hjx : j = x
          · subst hjx; exact hun
          · rwa [getD_set_ne true hjx] at hxu
        · rw [Array.setIfInBounds_comm _ _ hji]
          exact h3.2.2
theorem AnyX.first {i : Nat} {oi : Oper} {v : Value} {k : Nat} {done : Array Bool} {a : Act} {w : World} (hnd : noDefer ops = true) (hX : waits ops X i = true) (hi : ops[i]? = some oi) (hs : Region.noSelect ops = true) (hf : Region.free .any ops done i = true) (hr : (Region.ready .any ops done).contains i = true)
    (hQ : ∀ c a w, Q (.panic c) (a.put oi.dst v) w → Q (.panic c) a w) (hd : Due P ops S oi v a) (hS : S w) (H : AnyX F n P ops Q S X k (done.setIfInBounds i true) (a.put oi.dst v) w) : AnyX F n P ops Q S X (k + 1) done a w :=
  AnyX.take hnd hX hi hs hQ k done a w (Region.free_spec hi hf) (by simpa using hr) hd hS H
theorem AnyX.one {i : Nat} {o : Oper} {k : Nat} {done : Array Bool} {a : Act} {w : World} (hr : Region.ready .any ops done = [i]) (ho : ops[i]? = some o)
    (h : ∀ K : Act → World → Prop, (∀ a' w', (i ∈ X ∨ S w') ∧ AnyX F n P ops Q S X k (done.setIfInBounds i true) a' w' → K a' w') → if Region.wanted o (yielded ops a.tmps) = true then Oper.wpIn F n P o a w K Q else (∀ f, o.about P w a.eval = some f → F.fn f) ∧ K (a.put o.dst undef) w) : AnyX F n P ops Q S X (k + 1) done a w :=
  ⟨fun e => (by rw [hr] at e; cases e), fun j hj => by
    rw [hr, List.mem_singleton] at hj
    subst hj
    exact wpOpIn_step ho (fun K' hK => h K' hK)⟩
theorem AnyX.done {done : Array Bool} {a : Act} {w : World} (hr : Region.ready .any ops done = []) (h : Q .normal a w) : ∀ k, AnyX F n P ops Q S X k done a w
  | 0 => ⟨hr, h⟩
  | _ + 1 => ⟨fun _ => h, by rw [hr]; simp⟩
theorem anyX_region {id : Nat} {a : Act} {w : World} (hm : P.follows .mixedOrders = true) (h : AnyX F n P ops Q S X ops.size (Array.replicate ops.size false) a w.drew) : (Code.region id ops true).wpIn F n P Q a w :=
  wpIn_region_any hm (h.any _ _ _ _)
theorem stepX_append_rd {o : Oper} {a : Act} {w : World} {K : Act → World → Prop} {E : Prop} (hfn : ∀ f, F.fn f) (hgd : o.guard = none) (s x : Operand) (t : TypeId)
    (ho : o.op = .call { callee := .builtin .append, args := #[s, x], argTypes := #[t, t] })
    (B : Nat) (e : TypeId) (i : TypeInfo) (z : Value) (size bytes : Nat) (ht : P.underlying t = some (.slice e)) (hi : P.info? e = some i) (hz : i.zero = some z) (hsize : i.size = size) (hby : i.bytes = bytes) (hzs : z.cells.size = size) (hsz : 0 < size)
    (v : Value) (n' : Nat) (xs : List Value) (hs : a.eval s = v) (hown : w.ownsRow B e size v n' xs) (y : Value) (m : Nat) (ys : List Value) (hx : a.eval x = y) (hy : Rd w y m ys) (hl : ys.length = m * size) (h1 : ∀ u ∈ ys, u.oneCell' = true)
    (h63 : n' + m ≤ maxLen) (hbytes : (n' + m) * bytes ≤ 140737488355328) (hB : B ≤ w.heap.size)
    (h : ∀ v' w', w'.ownsRow B e size v' (n' + m) (xs ++ ys) → w.grownBy w' v.ownBlock → (v'.ownBlock = v.ownBlock ∨ v'.ownBlock = some w.heap.size) → K (a.put o.dst v') w') :
    if Region.wanted o (yielded ops a.tmps) = true then Oper.wpIn F n P o a w K Q else E := by
  have hw : Region.wanted o (yielded ops a.tmps) = true := by simp [Region.wanted, hgd]
  rw [if_pos hw]
  obtain ⟨v', w', hrun, h2, h3, h4⟩ := run_append_rd (P := P) (w := w) B t o.type e i z size bytes ht hi hz hsize hby hzs hsz v n' xs hown y m ys hy hl h1 h63 hbytes hB
  refine ⟨fun f _ => hfn f, ?_⟩
  rw [Oper.semAt_plain F _ _ (by rw [ho]; intro c e; cases e)]
  unfold execOp
  simp only [ho, resolve, invoke, builtin, Sem.run_bind, Sem.run_pure, Result.andThen_ok, List.map_toArray, List.map_cons, List.map_nil, hs, hx, hrun]
  exact h v' w' h2 h3 h4
end
end Go.Proofs.YthcpjehkjhpjfaaGreat
