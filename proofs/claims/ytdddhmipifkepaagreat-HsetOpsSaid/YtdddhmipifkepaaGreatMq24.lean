/- Several texts in one. -/
import Derived.Test.YtdddhmipifkepaaGreatMq22
import Derived.Test.YtdddhmipifkepaaGreatMq21
import Derived.Test.YtdddhmipifkepaaGreatMq01
import Derived.OwnWalkIn
import Derived.Test.YtdddhmipifkepaaGreatMq23
import Derived.Test.YtdddhmipifkepaaGreatMq13
import Derived.Test.YtdddhmipifkepaaGreatMq18
import Derived.Test.YtdddhmipifkepaaGreatMq14
import Derived.Test.YtdddhmipifkepaaGreatMq20
import Derived.IntWalk
import Derived.Laws.EntriesVeiled
namespace Go.Proofs.YtdddhmipifkepaaGreat
set_option maxRecDepth 100000
open Go.RowKit
theorem Ar.meet {w : World} {b most most' : Nat} {M M' : Cells} {F F' : Nat → Prop} (h : Ar w b most M F) (h' : Ar w b most' M' F') : Ar w b most M (fun q => F q ∧ F' q) := by
  obtain ⟨n, vc, vf, fr, H, h⟩ := h
  obtain ⟨n', vc', vf', fr', H', h'⟩ := h'
  have er : vc = vc' ∧ vf = vf' := by
    have e := h.row.symm.trans h'.row
    simp only [Option.some.injEq, Obj.cells.injEq, Array.mk.injEq, List.cons.injEq] at e
    exact ⟨e.1.2.2.1, e.1.2.2.2.1⟩
  obtain ⟨rfl, rfl⟩ := er
  refine ⟨n, vc, vf, fr, H, h.m1, h.m2, h.row, h.cs, h.fs, fun j c r e => ?_, h.inj, h.nd, h.fi, h.len, h.le, ⟨h.fb, h'.fb⟩, fun k hk => ⟨h.fc k hk, h'.fc k hk⟩, fun k hk => ⟨h.ff k hk, h'.ff k hk⟩, fun k hk => h.lt k hk.1⟩
  obtain ⟨i1, i2, i3, v, k, h1, h2, h3, h4, h5, h6, h7, h8⟩ := h.cel j c r e
  have hj : (places M H n)[j - 1]? = some (.pointer (some ⟨H j, 0, none⟩)) := by
    rw [places_at (by omega), show j - 1 + 1 = j by omega, e]
    rfl
  obtain ⟨g, cp, ev, _, kc, _⟩ := own_at h.cs hj
  have hcs := h'.cs
  have hn' : n' = n := by
    rcases hcs.2 with ⟨e2, _⟩ | ⟨g2, cp2, cur2, e2, _⟩
    · rw [ev] at e2; cases e2
    · rw [ev] at e2
      injection e2 with _ e3 _
      exact e3.symm
  have hj' : (places M' H' n')[j - 1]? = some (ptrOf (M' j) (H' j)) := by
    rw [places_at (by omega), show j - 1 + 1 = j by omega]
  obtain ⟨g2, cp2, ev2, _, kc2, _⟩ := own_at hcs hj'
  rw [ev] at ev2
  simp only [Value.slice.injEq, Option.some.injEq, Addr.mk.injEq, and_true] at ev2
  obtain ⟨rfl, _, _⟩ := ev2
  rw [kc] at kc2
  cases e' : M' j with
  | none => rw [e'] at kc2; simp [ptrOf] at kc2
  | some y =>
    rw [e'] at kc2
    simp only [ptrOf, Option.some.injEq, Value.pointer.injEq, Addr.mk.injEq, and_true] at kc2
    obtain ⟨c', r'⟩ := y
    obtain ⟨_, _, _, v', k', h1', _, _, h4', h5', h6', _, _⟩ := h'.cel j c' r' e'
    rw [← kc2] at h1' h4'
    have e2 := h1.symm.trans h1'
    simp only [Option.some.injEq, Obj.cells.injEq, Array.mk.injEq, List.cons.injEq] at e2
    obtain ⟨rfl, rfl⟩ : v = v' ∧ k = k' := ⟨e2.1.2.2.2.1, e2.1.2.2.2.2.1⟩
    exact ⟨i1, i2, i3, v, k, h1, h2, h3, ⟨h4, h4'⟩, fun g hg => ⟨h5 g hg, h5' g hg⟩, fun g hg => ⟨⟨(h6 g hg).1, (h6' g hg).1⟩, (h6 g hg).2⟩, h7, h8⟩
theorem Kv.of_kp {n0 b most most' root : Nat} {M0 M : Cells} {F G : Nat → Prop} {A B : World} (h : Ar A b most' M F) (hk : Kp G A B) (hF : ∀ q, G q → ¬ F q) (hG : ∀ q cur t, G q → n0 ≤ q → A.heap[q]? = some (.cells cur t (0, 0)) → ¬ Vt t) : Kv n0 b most M0 root A B := by
  have ar : ∀ {M1 : Cells} {F1 : Nat → Prop}, Ar A b most M1 F1 → Ar B b most M1 (fun q => F1 q ∧ F q) := fun h1 => (h1.meet h).kp hk (fun q hq hg => hF q hg hq.2)
  refine ⟨fun ⟨M1, F1, h1, h2⟩ => ⟨M1, _, ar h1, h2⟩, fun q cur t hq ht e ⟨M1, F1, h1, h2⟩ => ⟨?_, M1, _, ar h1, fun hf => h2 hf.1⟩⟩
  rw [hk.block q (Array.getElem?_eq_some_iff.1 e).1 (fun hg => hG q cur t hg hq e ht)]
  exact e
end Go.Proofs.YtdddhmipifkepaaGreat

namespace Go.Proofs.YtdddhmipifkepaaGreat
open Go Go.RowKit
section
variable {F : Fence} {n : Nat} {P : Program} {ops : Array Oper} {Q : Exit → Act → World → Prop} {S : World → Prop} {X : List Nat}
def noDefer (ops : Array Oper) : Bool := ops.all fun o => match o.op with
  | .defer _ => false
  | _ => true
theorem noDefer_spec (h : noDefer ops = true) {i : Nat} {o : Oper} (hi : ops[i]? = some o) : ∀ c, o.op ≠ .defer c := by
  intro c e
  unfold noDefer at h
  rw [Array.all_eq_true] at h
  obtain ⟨hl, rfl⟩ := Array.getElem?_eq_some_iff.1 hi
  have h1 := h i hl
  rw [e] at h1
  cases h1
def waits (ops : Array Oper) (X : List Nat) (i : Nat) : Bool := X.all fun x => match ops[x]? with
  | some o => o.after.any fun e => Region.binds .any e && e.on == i
  | none => true
theorem waits_spec {i x : Nat} {o : Oper} (h : waits ops X i = true) (hx : x ∈ X) (ho : ops[x]? = some o) : ∃ e ∈ o.after, Region.binds .any e = true ∧ e.on = i := by
  unfold waits at h
  have h1 := List.all_eq_true.1 h x hx
  simp only [ho] at h1
  obtain ⟨k, hk, h2⟩ := Array.any_eq_true.1 h1
  simp only [Bool.and_eq_true, beq_iff_eq] at h2
  exact ⟨_, Array.getElem_mem hk, h2.1, h2.2⟩
def AnyX (F : Fence) (n : Nat) (P : Program) (ops : Array Oper) (Q : Exit → Act → World → Prop) (S : World → Prop) (X : List Nat) : Nat → Array Bool → Act → World → Prop
  | 0, done, a, w => Region.ready .any ops done = [] ∧ Q .normal a w
  | k + 1, done, a, w => (Region.ready .any ops done = [] → Q .normal a w) ∧ ∀ i ∈ Region.ready .any ops done, wpOpIn F n P ops Q i (fun a' w' => (i ∈ X ∨ S w') ∧ AnyX F n P ops Q S X k (done.setIfInBounds i true) a' w') a w
theorem AnyX.any : ∀ (k : Nat) (done : Array Bool) (a : Act) (w : World), AnyX F n P ops Q S X k done a w → wpAnyIn F n P .any ops Q k done a w
  | 0, _, _, _, h => h
  | k + 1, _, _, _, h => ⟨h.1, fun i hi => wpOpIn_mono (fun _ _ h => AnyX.any k _ _ _ h.2) (h.2 i hi)⟩
theorem Due.runX {i : Nat} {o : Oper} {v : Value} {a : Act} {w : World} {K : Act → World → Prop} (hnd : ∀ c, o.op ≠ .defer c) (hi : ops[i]? = some o) (h : Due P ops S o v a) (hS : S w) (hK : K (a.put o.dst v) w) : wpOpIn F n P ops Q i K a w := by
  have hab : ∀ f, o.about P w a.eval = some f → F.fn f := fun f hf => by rw [h.1 w] at hf; cases hf
  unfold wpOpIn
  simp only [hi]
  rcases h.2 with ⟨e, r⟩ | ⟨e, rfl⟩
  · rw [if_pos e]
    refine ⟨hab, ?_⟩
    rw [Oper.semAt_plain F _ _ hnd, r w hS]
    exact hK
  · rw [e]
    exact ⟨hab, hK⟩
theorem Due.besideX {j : Nat} {oi oj : Oper} {v : Value} {K : Act → World → Prop} {a : Act} {w : World} (hnd : ∀ c, oj.op ≠ .defer c) (hj : ops[j]? = some oj) (hap : oi.apart ops oj = true) (si : ∀ cs b, oi.op ≠ .select cs b) (sj : ∀ cs b, oj.op ≠ .select cs b)
    (hQ : ∀ c a w, Q (.panic c) (a.put oi.dst v) w → Q (.panic c) a w) (h : Due P ops S oi v a) (hw : wpOpIn F n P ops Q j K (a.put oi.dst v) w) : wpOpIn F n P ops Q j (fun a' w' => Due P ops S oi v a' ∧ K (a'.put oi.dst v) w') a w := by
  obtain ⟨p1, p2, p3⟩ := Oper.apart_spec hap
  have put : ∀ (c : Act) (u : Value), Due P ops S oi v c → Due P ops S oi v (c.put oj.dst u) := fun c u hc => hc.alike (execOp_put oi si c oj.dst u p3) (wanted_put oi c oj.dst u p3) (fun w => about_put oi w c oj.dst u p3)
  have swap : ∀ (c : Act) (u : Value) (w' : World), K ((c.put oi.dst v).put oj.dst u) w' → K ((c.put oj.dst u).put oi.dst v) w' := fun c u w' hc => by rw [← Act.put_comm c v u p2]; exact hc
  unfold wpOpIn at hw ⊢
  simp only [hj] at hw ⊢
  rw [wanted_put oj a oi.dst v p1, about_put oj w a oi.dst v p1] at hw
  by_cases hwant : Region.wanted oj (yielded ops a.tmps) = true
  · rw [if_pos hwant] at hw ⊢
    unfold Oper.wpIn at hw ⊢
    rw [about_put oj w a oi.dst v p1, Oper.semAt_plain F _ _ hnd, execOp_put oj sj a oi.dst v p1] at hw
    rw [Oper.semAt_plain F _ _ hnd]
    refine ⟨hw.1, ?_⟩
    have hw2 := hw.2
    generalize (execOp a.eval oj).run P w = r at hw2 ⊢
    have fin : ∀ (e : Ending) (w' : World), (match e, w' with
        | .returned u, w'' => K ((a.put oi.dst v).put oj.dst u) w''
        | .panicked chain, w'' => Q (.panic chain) (a.put oi.dst v) w''
        | .outgrown, _ => LetsOut Q) → (match e, w' with
        | .returned u, w'' => Due P ops S oi v (a.put oj.dst u) ∧ K ((a.put oj.dst u).put oi.dst v) w''
        | .panicked chain, w'' => Q (.panic chain) a w''
        | .outgrown, _ => LetsOut Q) := fun e w' he => by
      cases e with
      | returned u => exact ⟨put a u h, swap a u w' he⟩
      | panicked c => exact hQ _ _ _ he
      | outgrown => exact he
    cases r with
    | halt x w' =>
      cases x <;> first
        | exact hw2.elim
        | exact hQ _ _ _ hw2
    | ok x w' =>
      cases x with
      | value u => exact ⟨put a u h, swap a u w' hw2⟩
      | skip => exact ⟨put a _ h, swap a _ w' hw2⟩
      | defer d =>
        have h' : Due P ops S oi v ({ a with defers := d :: a.defers } : Act) := h.alike rfl rfl (fun _ => rfl)
        refine ⟨put _ undef h', swap _ undef w' ?_⟩
        have e := Act.put_defers a oi.dst v d
        rw [← e]
        exact hw2
      | enter f args => exact ⟨hw2.1, hw2.2.mono fin⟩
      | row rw' args => exact ⟨hw2.1, hw2.2.mono fun u w'' he => ⟨put a u h, swap a u w'' he⟩⟩
      | round l f tmps assign body => exact ⟨hw2.1, hw2.2.mono fin⟩
      | _ => exact hw2.elim
  · rw [if_neg hwant] at hw ⊢
    exact ⟨hw.1, put a _ h, swap a _ w hw.2⟩
theorem AnyX.take {i : Nat} {oi : Oper} {v : Value} (hnd : noDefer ops = true) (hX : waits ops X i = true) (hi : ops[i]? = some oi) (hs : Region.noSelect ops = true) (hQ : ∀ c a w, Q (.panic c) (a.put oi.dst v) w → Q (.panic c) a w) :
    ∀ (k : Nat) (done : Array Bool) (a : Act) (w : World), (∀ j oj, ops[j]? = some oj → j ≠ i → done.getD j true = false → (∀ e ∈ oj.after, Region.binds .any e = true → e.on ≠ i) → oi.apart ops oj = true) →
      i ∈ Region.ready .any ops done → Due P ops S oi v a → S w → AnyX F n P ops Q S X k (done.setIfInBounds i true) (a.put oi.dst v) w → AnyX F n P ops Q S X (k + 1) done a w
  | k, done, a, w, hfree, hr, hd, hS, H => by
    refine ⟨fun e => absurd hr (by rw [e]; exact List.not_mem_nil), fun j hj => ?_⟩
    by_cases hji : j = i
    · subst hji; exact hd.runX (noDefer_spec hnd hi) hi hS ⟨.inr hS, H⟩
    · have hj2 := ready_mono hj hji
      cases k with
      | zero => rw [H.1] at hj2; cases hj2
      | succ k =>
        obtain ⟨hun, oj, hoj, hall⟩ := mem_ready.1 hj
        have hi0 := (mem_ready.1 hr).1
        have hnot : ∀ e ∈ oj.after, Region.binds .any e = true → e.on ≠ i := fun e he hb e2 => by
          have h1 := hall e he hb
          rw [e2] at h1
          by_cases hlt : i < done.size
          · rw [Array.getD_eq_getD_getElem?, Array.getElem?_eq_getElem hlt] at h1 hi0
            simp only [Option.getD_some] at h1 hi0
            rw [h1] at hi0
            cases hi0
          · rw [Array.getD_eq_getD_getElem?, Array.getElem?_eq_none (by omega)] at hi0
            cases hi0
        have hjX : j ∉ X := fun hx => by
          obtain ⟨e, he, hb, e2⟩ := waits_spec hX hx hoj
          exact hnot e he hb e2
        have h2 := hd.besideX (noDefer_spec hnd hoj) hoj (hfree j oj hoj hji hun hnot) (Region.noSelect_spec hs i oi · · hi) (Region.noSelect_spec hs j oj · · hoj) hQ (H.2 j hj2)
        refine wpOpIn_mono (fun a' w' h3 => ⟨h3.2.1, AnyX.take hnd hX hi hs hQ k (done.setIfInBounds j true) a' w' (fun x ox hx hxi hxu hno => ?_) (ready_mono hr (Ne.symm hji)) h3.1 (h3.2.1.resolve_left hjX) ?_⟩) h2
        · refine hfree x ox hx hxi ?_ hno
          by_cases hjx : j = x
          · subst hjx; exact hun
          · rwa [getD_set_ne true hjx] at hxu
        · rw [Array.setIfInBounds_comm _ _ hji]
          exact h3.2.2
theorem AnyX.first {i : Nat} {oi : Oper} {v : Value} {k : Nat} {done : Array Bool} {a : Act} {w : World} (hnd : noDefer ops = true) (hX : waits ops X i = true) (hi : ops[i]? = some oi) (hs : Region.noSelect ops = true) (hf : Region.free .any ops done i = true) (hr : (Region.ready .any ops done).contains i = true)
    (hQ : ∀ c a w, Q (.panic c) (a.put oi.dst v) w → Q (.panic c) a w) (hd : Due P ops S oi v a) (hS : S w) (H : AnyX F n P ops Q S X k (done.setIfInBounds i true) (a.put oi.dst v) w) : AnyX F n P ops Q S X (k + 1) done a w :=
  AnyX.take hnd hX hi hs hQ k done a w (Region.free_spec hi hf) (by simpa using hr) hd hS H
theorem AnyX.one {i : Nat} {o : Oper} {k : Nat} {done : Array Bool} {a : Act} {w : World} (hr : Region.ready .any ops done = [i]) (ho : ops[i]? = some o)
    (h : ∀ K : Act → World → Prop, (∀ a' w', (i ∈ X ∨ S w') ∧ AnyX F n P ops Q S X k (done.setIfInBounds i true) a' w' → K a' w') → if Region.wanted o (yielded ops a.tmps) = true then Oper.wpIn F n P o a w K Q else (∀ f, o.about P w a.eval = some f → F.fn f) ∧ K (a.put o.dst undef) w) : AnyX F n P ops Q S X (k + 1) done a w :=
  ⟨fun e => (by rw [hr] at e; cases e), fun j hj => by
    rw [hr, List.mem_singleton] at hj
    subst hj
    exact wpOpIn_step ho (fun K' hK => h K' hK)⟩
theorem AnyX.done {done : Array Bool} {a : Act} {w : World} (hr : Region.ready .any ops done = []) (h : Q .normal a w) : ∀ k, AnyX F n P ops Q S X k done a w
  | 0 => ⟨hr, h⟩
  | _ + 1 => ⟨fun _ => h, by rw [hr]; simp⟩
theorem anyX_region {id : Nat} {a : Act} {w : World} (hm : P.follows .mixedOrders = true) (h : AnyX F n P ops Q S X ops.size (Array.replicate ops.size false) a w.drew) : (Code.region id ops true).wpIn F n P Q a w :=
  wpIn_region_any hm (h.any _ _ _ _)
end
end Go.Proofs.YtdddhmipifkepaaGreat

namespace Go.Proofs.YtdddhmipifkepaaGreat
set_option maxRecDepth 100000
open Go.RowKit Go.Shelf
theorem Mp.pres {M M' : Cells} {hs : Ky → Nat} {root : Nat} {l : List Pr} (h : Mp M hs root l) (hz : M 0 = none) (hp : root ≠ 0 → Pres M M' root) : Mp M' hs root l := by
  rcases h with h | h
  · exact .inl h
  · refine .inr (h.pres hz (hp fun e => ?_))
    subst e
    cases h with
    | leaf h => have := h.cell; rw [hz] at this; cases this
    | node h => have := h.cell; rw [hz] at this; cases this
theorem count1r (a k : Nat) : [a].count k = if k = a then 1 else 0 := by
  rw [List.count_cons, List.count_nil, Nat.zero_add]
  by_cases e : k = a
  · simp [e]
  · rw [if_neg e, if_neg]; simpa using fun e2 => e e2.symm
theorem KeepsOthers.of_kp {A B : World} {G : Nat → Prop} (h : Kp G A B) (hG : ∀ q o, G q → A.heap[q]? = some o → o.isCells = true) : KeepsOthers A B :=
  ⟨h.size, fun k o hk ho => by
    have hlt : k < A.heap.size := (Array.getElem?_eq_some_iff.1 hk).1
    rw [h.block k hlt (fun hg => by rw [hG k o hg hk] at ho; cases ho)]
    exact hk⟩
section
variable {W W' : World}
theorem C6.own {t b : Nat} {x0 x1 x2 x3 x4 x5 : Value} {row : Option Nat} (h : C6 W b t x0 x1 x2 x3 x4 x5) (hg : W.grownBy W' row) (hr : ∀ r, row = some r → ∃ o : Obj, W.heap[r]? = some o ∧ o.isCells = false) : C6 W' b t x0 x1 x2 x3 x4 x5 :=
  h.kp (Kp.of_grown hg (F := fun q => row = some q) (fun q e => .inl e)) (fun e => by
    obtain ⟨o, h2, h3⟩ := hr b e
    have h1 : W.heap[b]? = some _ := h
    rw [h2] at h1
    rw [Option.some.inj h1] at h3
    cases h3)
end
section
variable {b most : Nat} {M : Cells} {P : Nat → Nat} {F : Nat → Prop}
theorem drop1_bk (root : Nat) (w : World) (h : Ar w b most M F) (hm : most ≤ 1048576) (hP : ∀ j, P j ≤ 576460752303423488) (hb : Bk (most + 1) M [] P [root]) :
    Calls Tryz.prog 35 #[ap b, .int .i64 root] w fun e w' => (∃ z, e = .returned (.int .i64 z)) ∧ ∃ M', Bk (most + 1) M' [] P [] ∧ Keeps P M M' ∧ live (most + 1) M' ≤ live (most + 1) M ∧ Stp w w' b most M' F := by
  refine (vdrop1 root w h (fun j => Nat.le_trans (bk_rf hm hP hb (by show 1 ≤ 64; decide) j) (by decide))).mono ?_
  rintro e w' ⟨hz, M1, hd, hs⟩
  obtain ⟨b1, s1, _⟩ := hb.drop hd
  rw [blank_nil, blank_nil] at s1
  have o1 := b1.ok
  rw [blank_nil] at o1
  exact ⟨hz, M1, b1, fun r h0 hr => Pres.sub s1 o1 (b1.held hr h0), live_mono fun _ hj e => hj (s1.none e), hs⟩
end
end Go.Proofs.YtdddhmipifkepaaGreat

namespace Go.Proofs.YtdddhmipifkepaaGreat
set_option maxRecDepth 100000
open Go.RowKit
theorem ArD.meet {w : World} {b most most' : Nat} {M M' : Cells} {F F' : Nat → Prop} {n : Nat} {vc vf : Value} {fr : List Nat} {H : Nat → Nat} (h : ArD 0 w b most M F n vc vf fr H) (h' : Ar w b most' M' F') : ArD 0 w b most M (fun q => F q ∧ F' q) n vc vf fr H := by
  obtain ⟨n', vc', vf', fr', H', h'⟩ := h'
  have er : vc = vc' ∧ vf = vf' := by
    have e := h.row.symm.trans h'.row
    simp only [Option.some.injEq, Obj.cells.injEq, Array.mk.injEq, List.cons.injEq] at e
    exact ⟨e.1.2.2.1, e.1.2.2.2.1⟩
  obtain ⟨rfl, rfl⟩ := er
  refine ⟨h.m1, h.m2, h.row, h.cs, h.fs, fun j c r e => ?_, h.inj, h.nd, h.fi, h.len, h.le, ⟨h.fb, h'.fb⟩, fun k hk => ⟨h.fc k hk, h'.fc k hk⟩, fun k hk => ⟨h.ff k hk, h'.ff k hk⟩, fun k hk => h.lt k hk.1⟩
  obtain ⟨i1, i2, i3, v, k, h1, h2, h3, h4, h5, h6, h7, h8⟩ := h.cel j c r e
  have hj : (places M H n)[j - 1]? = some (.pointer (some ⟨H j, 0, none⟩)) := by
    rw [places_at (by omega), show j - 1 + 1 = j by omega, e]
    rfl
  obtain ⟨g, cp, ev, _, kc, _⟩ := own_at h.cs hj
  have hcs := h'.cs
  have hn' : n' = n := by
    rcases hcs.2 with ⟨e2, _⟩ | ⟨g2, cp2, cur2, e2, _⟩
    · rw [ev] at e2; cases e2
    · rw [ev] at e2
      injection e2 with _ e3 _
      exact e3.symm
  have hj' : (places M' H' n')[j - 1]? = some (ptrOf (M' j) (H' j)) := by
    rw [places_at (by omega), show j - 1 + 1 = j by omega]
  obtain ⟨g2, cp2, ev2, _, kc2, _⟩ := own_at hcs hj'
  rw [ev] at ev2
  simp only [Value.slice.injEq, Option.some.injEq, Addr.mk.injEq, and_true] at ev2
  obtain ⟨rfl, _, _⟩ := ev2
  rw [kc] at kc2
  cases e' : M' j with
  | none => rw [e'] at kc2; simp [ptrOf] at kc2
  | some y =>
    rw [e'] at kc2
    simp only [ptrOf, Option.some.injEq, Value.pointer.injEq, Addr.mk.injEq, and_true] at kc2
    obtain ⟨c', r'⟩ := y
    obtain ⟨_, _, _, v', k', h1', _, _, h4', h5', h6', _, _⟩ := h'.cel j c' r' e'
    rw [← kc2] at h1' h4'
    have e2 := h1.symm.trans h1'
    simp only [Option.some.injEq, Obj.cells.injEq, Array.mk.injEq, List.cons.injEq] at e2
    obtain ⟨rfl, rfl⟩ : v = v' ∧ k = k' := ⟨e2.1.2.2.2.1, e2.1.2.2.2.2.1⟩
    exact ⟨i1, i2, i3, v, k, h1, h2, h3, ⟨h4, h4'⟩, fun g hg => ⟨h5 g hg, h5' g hg⟩, fun g hg => ⟨⟨(h6 g hg).1, (h6' g hg).1⟩, (h6 g hg).2⟩, h7, h8⟩
def LeastF (A : World) (b most : Nat) (F : Nat → Prop) : Nat → Prop := fun q => F q ∧ ∀ M1 F1, Ar A b most M1 F1 → F1 q
theorem Ar.least {A : World} {b most : Nat} {M : Cells} {F : Nat → Prop} (h : Ar A b most M F) : Ar A b most M (LeastF A b most F) := by
  obtain ⟨n, vc, vf, fr, H, h⟩ := h
  refine ⟨n, vc, vf, fr, H, h.m1, h.m2, h.row, h.cs, h.fs, fun j c r e => ?_, h.inj, h.nd, h.fi, h.len, h.le, ⟨h.fb, fun M1 F1 h1 => (h.meet h1).fb.2⟩, fun k hk => ⟨h.fc k hk, fun M1 F1 h1 => ((h.meet h1).fc k hk).2⟩, fun k hk => ⟨h.ff k hk, fun M1 F1 h1 => ((h.meet h1).ff k hk).2⟩, fun k hk => h.lt k hk.1⟩
  obtain ⟨i1, i2, i3, v, k, h1, h2, h3, h4, h5, h6, h7, h8⟩ := h.cel j c r e
  have key : ∀ M1 F1, Ar A b most M1 F1 → F1 (H j) ∧ (∀ g, v.ownBlock = some g → F1 g) ∧ (∀ g, k.ownBlock = some g → F1 g) := fun M1 F1 hm => by
    obtain ⟨_, _, _, v', k', h1', _, _, h4', h5', h6', _, _⟩ := (h.meet hm).cel j c r e
    have e2 := h1.symm.trans h1'
    simp only [Option.some.injEq, Obj.cells.injEq, Array.mk.injEq, List.cons.injEq] at e2
    obtain ⟨rfl, rfl⟩ : v = v' ∧ k = k' := ⟨e2.1.2.2.2.1, e2.1.2.2.2.2.1⟩
    exact ⟨h4'.2, fun g hg => (h5' g hg).2, fun g hg => (h6' g hg).1.2⟩
  exact ⟨i1, i2, i3, v, k, h1, h2, h3, ⟨h4, fun M1 F1 hm => (key M1 F1 hm).1⟩, fun g hg => ⟨h5 g hg, fun M1 F1 hm => (key M1 F1 hm).2.1 g hg⟩, fun g hg => ⟨⟨(h6 g hg).1, fun M1 F1 hm => (key M1 F1 hm).2.2 g hg⟩, (h6 g hg).2⟩, h7, h8⟩
theorem LeastF.safe {A : World} {b most q : Nat} {F : Nat → Prop} (h : Safe b most A q) : ¬ LeastF A b most F q := fun hq => by
  obtain ⟨M1, F1, h1, h2⟩ := h
  exact h2 (hq.2 M1 F1 h1)
theorem Kv.of_put {n0 b most root : Nat} {M0 M' : Cells} {F F' G : Nat → Prop} {A B : World} (hk : Kp (fun q => LeastF A b most F q ∨ G q) A B) (hB : Ar B b most M' F') (hF' : ∀ q, F' q → LeastF A b most F q ∨ G q ∨ A.heap.size ≤ q) (hp : Pres M0 M' root) (hG : ∀ q cur t, G q → n0 ≤ q → A.heap[q]? = some (.cells cur t (0, 0)) → ¬ Vt t) : Kv n0 b most M0 root A B := by
  refine ⟨fun _ => ⟨M', F', hB, hp⟩, fun q cur t hq ht e hs => ?_⟩
  have hl := (Array.getElem?_eq_some_iff.1 e).1
  have hn : ¬ (LeastF A b most F q ∨ G q) := fun h => h.elim (LeastF.safe hs) (fun g => hG q cur t g hq e ht)
  exact ⟨(hk.block q hl hn).trans e, M', F', hB, fun hf => (hF' q hf).elim (fun h => hn (.inl h)) (fun h => h.elim (fun h => hn (.inr h)) (fun h => by omega))⟩
end Go.Proofs.YtdddhmipifkepaaGreat

namespace Go.Proofs.YtdddhmipifkepaaGreat
set_option maxRecDepth 100000
open Go.RowKit
section
end
section
variable {most : Nat} {M : Cells} {F : Nat → Prop} {hs : Ky → Nat} {k : Ky} {new : Pr → Prop} {lvj j : Nat} {lj l : List Pr}
end
end Go.Proofs.YtdddhmipifkepaaGreat

namespace Go.Proofs.YtdddhmipifkepaaGreat
set_option maxRecDepth 100000
open Go.RowKit
theorem ChgP.mono {f : FuncId} {pre : Value} {b most : Nat} {F : Nat → Prop} {w : World} {M1 : Cells} {c : Hc} {R R' : Hc → Cells → Prop} (h : ChgP f pre b most F w M1 c R) (hR : ∀ c' M2, R c' M2 → R' c' M2) : ChgP f pre b most F w M1 c R' := fun o v k W F1 h1 h2 h3 h4 h5 => by
  refine (h o v k W F1 h1 h2 h3 h4 h5).mono ?_
  rintro e W' ⟨v', k', c', M2, F2, g1, g2, g3, g4, g5, g6, g7⟩
  exact ⟨v', k', c', M2, F2, g1, g2, g3, g4, g5, g6, hR _ _ g7⟩
section
variable {most : Nat} {M : Cells} {F : Nat → Prop} {hs : Ky → Nat} {k : Ky} {l lf : List Pr}
theorem Wy.last {lv j b : Nat} {lj : List Pr} {y : Nat × Nat} (h : Wy M hs (hs k) lv j lj [(j, b), y] lf) (hk : hasN k lf = true) : ∃ c r s K L, NodeF M hs lv j lj c r b s K L ∧ (∀ d, d < 32 → s.testBit d = true → HT M hs (b + 1) (K d) (L d)) ∧ s.testBit (dg (hs k) b) = true ∧ sdx s (hs k) b = cnt s (dg (hs k) b) ∧ L (dg (hs k) b) = lf ∧ b < 13 ∧ K (dg (hs k) b) = y.1 := by
  generalize hcl : [(j, b), y] = cl at h
  cases h with
  | leaf h => simp at hcl
  | @node _ _ _ c r b' s K L d cl' _ h hT hd hx hw =>
    injection hcl with e1 e2
    injection e1 with _ e3
    subst e3
    subst e2
    obtain ⟨v, hv⟩ := hasN_at hk
    have hmem := List.mem_of_getElem? hv
    have hmL := hw.sub _ hmem
    have hdig := h.dig d _ hmL
    simp only at hdig
    subst hdig
    have hd32 := dg_lt (hs k) b
    refine ⟨c, r, s, K, L, h, hT, hd, ?_, ?_, h.b13, ?_⟩
    · unfold sdx; rw [if_pos hd]
    · generalize hc2 : [y] = cl2 at hw
      cases hw with
      | leaf h2 => rfl
      | node h2 hT2 hd2 hx2 hw2 =>
        injection hc2 with _ e2
        have := hw2.leafF
        obtain ⟨_, _, _, _, _, e3⟩ := this
        rw [← e2] at e3
        cases e3
    · generalize hc2 : [y] = cl2 at hw
      cases hw with
      | leaf h2 => injection hc2 with e1 _; rw [e1]
      | node h2 hT2 hd2 hx2 hw2 => injection hc2 with e1 _; rw [e1]
end
end Go.Proofs.YtdddhmipifkepaaGreat

namespace Go.Proofs.YtdddhmipifkepaaGreat
set_option maxRecDepth 100000
open Go.RowKit
section
variable {M : Cells} {hs : Ky → Nat} {k : Ky} {l lf : List Pr} {i : Nat} {cl : List (Nat × Nat)}
theorem Wy.leafAt (h : Wy M hs (hs k) 0 i l cl lf) (hk : hasN k lf = true) : ∃ pre j lvj, cl = pre ++ [(j, 13)] ∧ Wp M hs k 0 i l pre lvj j lf ∧ ∃ c r, LeafF M hs lvj j lf c r := by
  obtain ⟨v, hv⟩ := hasN_at hk
  obtain ⟨pre, post, lvj, j, lj, e1, e2, e3, e4, y, rest, e5, e6⟩ := h.split (near := (k, v)) (level := 13) (List.mem_of_getElem? hv) (by rw [pt_self]; exact Nat.le_refl _)
  subst e5
  obtain ⟨rfl, rfl, rfl, c, r, hL⟩ := e3.end13 e6
  exact ⟨pre, j, lvj, e1, e2, c, r, hL⟩
theorem Wy.parts (h : Wy M hs (hs k) 0 i l cl lf) (hk : hasN k lf = true) : (cl = [(i, 13)] ∧ l = lf) ∨ ∃ pre j b y lvj lj, cl = pre ++ [(j, b), y] ∧ Wp M hs k 0 i l pre lvj j lj ∧ Wy M hs (hs k) lvj j lj [(j, b), y] lf := by
  obtain ⟨pre, j, lvj, e1, e2, c, r, hL⟩ := h.leafAt hk
  rcases List.eq_nil_or_concat pre with rfl | ⟨pre', z, rfl⟩
  · cases e2
    exact .inl ⟨e1, rfl⟩
  · right
    obtain ⟨v, hv⟩ := hasN_at hk
    have hlev := h.lev
    have hcl : cl = pre' ++ [z, (j, 13)] := by rw [e1]; simp
    have hz13 : z.2 ≤ 13 := (hlev.1 z (by rw [hcl]; simp)).2
    obtain ⟨pre2, post2, lv2, j2, lj2, f1, f2, f3, f4, y2, rest2, f5, f6⟩ := h.split (near := (k, v)) (level := z.2) (List.mem_of_getElem? hv) (by rw [pt_self]; exact hz13)
    subst f5
    have hp := hlev.2
    rw [hcl] at hp
    have hlt : ∀ q ∈ pre', q.2 < z.2 := fun q hq => (List.pairwise_append.1 hp).2.2 q hq z (by simp)
    have hsame : pre2 = pre' ∧ y2 :: rest2 = [z, (j, 13)] := by
      rw [hcl] at f1
      rcases Nat.lt_trichotomy pre'.length pre2.length with hl | hl | hl
      · exfalso
        have h1 : (pre' ++ [z, (j, 13)])[pre'.length]? = some z := by simp
        rw [f1, List.getElem?_append_left hl] at h1
        have := f4 z (List.mem_of_getElem? h1)
        omega
      · exact ⟨(List.append_inj f1 hl).1.symm, (List.append_inj f1 hl).2.symm⟩
      · exfalso
        have h1 : (pre2 ++ y2 :: rest2)[pre2.length]? = some y2 := by simp
        rw [← f1, List.getElem?_append_left hl] at h1
        have := hlt y2 (List.mem_of_getElem? h1)
        omega
    obtain ⟨rfl, h2⟩ := hsame
    rw [h2] at f3
    obtain ⟨_, g1, _⟩ := f3.at_lev
    refine ⟨pre2, j2, z.2, (j, 13), lv2, lj2, ?_, f2, ?_⟩
    · rw [hcl, show z = (j2, z.2) from Prod.ext g1 rfl]
    · rw [show ((j2, z.2) : Nat × Nat) = z from (Prod.ext g1 rfl : z = (j2, z.2)).symm]
      exact f3
theorem MRes.take {most : Nat} {P : Nat → Nat} {root : Nat} {ow : Int} {n : Nat} {M' : Cells} (h : MRes most M P hs k (fun _ => False) root ow l 16 n M') (hl : Srt hs l) : MapR most M P hs root ow (takeL k l) n M' := by
  obtain ⟨l', hT, hc⟩ := h.ht
  have e : l' = takeL k l := takeL_uniq hl hT.srt (fun q => (hc q).trans ⟨fun h => h.elim (fun e => e.elim) id, .inr⟩)
  rw [e] at hT
  exact ⟨h.bk, h.keeps, h.live, .inr hT⟩
end
end Go.Proofs.YtdddhmipifkepaaGreat

namespace Go.Proofs.YtdddhmipifkepaaGreat
set_option maxRecDepth 100000
open Go.RowKit
structure S6 (x : Wv) (z1 g4 p j : Nat) (W : World) : Prop where
  wy : WC W z1 x
  kc : W.cell? ⟨g4, p, none⟩ = some (.int .i64 (j : Nat))
theorem S6.below {x : Wv} {z1 g4 p j : Nat} {W W' : World} (h : S6 x z1 g4 p j W) (hb : Below W.heap.size W W') : S6 x z1 g4 p j W' :=
  ⟨h.wy.below hb, (Kp.of_below hb (fun _ => False)).cell h.kc id⟩
structure S9 (x : Wv) (z1 z5 gK : Nat) (c : Hc) (A1 : Option Addr) (c1 c2 t ot : Nat) (W : World) : Prop where
  wy : WC W z1 x
  cc : C5 W z5 109 (.int .u32 c.owner) (.int .u32 c.a) (.int .u32 c.b) (.slice A1 c.vals.length c1) (.slice (some ⟨gK, 0, none⟩) c.kids.length c2)
  kc : W.cell? ⟨gK, t, none⟩ = some (.int .i64 (ot : Nat))
theorem S9.kp {x : Wv} {z1 z5 gK : Nat} {c : Hc} {A1 : Option Addr} {c1 c2 t ot z7 : Nat} {W W' : World} (h : S9 x z1 z5 gK c A1 c1 c2 t ot W) (hk : Kp (fun q => q = z7) W W') (hn : ¬ (z1 = z7 ∨ z5 = z7 ∨ gK = z7)) : S9 x z1 z5 gK c A1 c1 c2 t ot W' :=
  ⟨h.wy.kp hk (fun e => hn (.inl e)), h.cc.kp hk (fun e => hn (.inr (.inl e))), hk.cell h.kc (fun e => hn (.inr (.inr e)))⟩
theorem S9.below {x : Wv} {z1 z5 gK : Nat} {c : Hc} {A1 : Option Addr} {c1 c2 t ot : Nat} {W W' : World} (h : S9 x z1 z5 gK c A1 c1 c2 t ot W) (hb : Below W.heap.size W W') : S9 x z1 z5 gK c A1 c1 c2 t ot W' :=
  ⟨h.wy.below hb, h.cc.below hb, (Kp.of_below hb (fun _ => False)).cell h.kc id⟩
section
variable {most : Nat} {M : Cells} {F : Nat → Prop} {hs : Ky → Nat} {l lf : List Pr}
end
end Go.Proofs.YtdddhmipifkepaaGreat

namespace Go.Proofs.YtdddhmipifkepaaGreat
set_option maxRecDepth 100000
open Go.RowKit
structure Q11 (W : World) (z4 z5 z6 z8 b bh N root : Nat) (k : Ky) : Prop where
  lb : C2 W z4 26 (ap b) (.pointer (some ⟨bh, 0, none⟩))
  mb : C2 W z5 30 (.int .i64 (N : Int)) (.int .i64 (root : Int))
  kb : C3 W z6 36 (.int .u8 k.1) (.int .i64 k.2.1) (.string k.2.2)
  rb : C2 W z8 30 (.int .i64 0) (.int .i64 0)
theorem Q11.kp {W W' : World} {z4 z5 z6 z8 b bh N root : Nat} {k : Ky} {G : Nat → Prop} (h : Q11 W z4 z5 z6 z8 b bh N root k) (hk : Kp G W W') (hn : ∀ q, q = z4 ∨ q = z5 ∨ q = z6 ∨ q = z8 → ¬ G q) : Q11 W' z4 z5 z6 z8 b bh N root k :=
  ⟨h.lb.kp hk (hn _ (.inl rfl)), h.mb.kp hk (hn _ (.inr (.inl rfl))), h.kb.kp hk (hn _ (.inr (.inr (.inl rfl)))), h.rb.kp hk (hn _ (.inr (.inr (.inr rfl))))⟩
section
variable {most : Nat} {M : Cells} {F : Nat → Prop} {hs : Ky → Nat} {l : List Pr}
end
end Go.Proofs.YtdddhmipifkepaaGreat

namespace Go.Proofs.YtdddhmipifkepaaGreat
set_option maxRecDepth 100000
set_option linter.unusedSimpArgs false
set_option linter.unusedVariables false
open Go.RowKit
theorem kp2z (W : World) (z : Nat) (y0 y1 : Value) : Kp (fun q => q = z) W ((W.setCell ⟨z, 0, none⟩ y0).setCell ⟨z, 1, none⟩ y1) :=
  ((Kp.refl (fun q => q = z) W).setCell (.inl rfl) y0).setCell (.inl rfl) y1
structure B3 (W : World) (z3 z4 z5 b bh N root : Nat) (k : Ky) : Prop where
  lb : C2 W z3 26 (ap b) (.pointer (some ⟨bh, 0, none⟩))
  sb : C2 W z4 54 (.int .i64 (N : Int)) (.int .i64 (root : Int))
  kb : C3 W z5 36 (.int .u8 k.1) (.int .i64 k.2.1) (.string k.2.2)
section
variable {b bh most seed root : Nat} {M : Cells} {F : Nat → Prop} {hs : Ky → Nat} {l : List Pr}
theorem B3.new (w : World) (b bh N root : Nat) (k : Ky) : B3 (((w.alloc (.cells #[ap b, .pointer (some ⟨bh, 0, none⟩)] 26)).alloc (.cells #[.int .i64 (N : Int), .int .i64 (root : Int)] 54)).alloc (.cells #[.int .u8 k.1, .int .i64 k.2.1, .string k.2.2] 36)) w.heap.size (w.heap.size + 1) (w.heap.size + 1 + 1) b bh N root k ∧ Below w.heap.size w (((w.alloc (.cells #[ap b, .pointer (some ⟨bh, 0, none⟩)] 26)).alloc (.cells #[.int .i64 (N : Int), .int .i64 (root : Int)] 54)).alloc (.cells #[.int .u8 k.1, .int .i64 k.2.1, .string k.2.2] 36)) := by
  refine ⟨⟨((C2.new w 26 (ap b) (.pointer (some ⟨bh, 0, none⟩))).alloc _).alloc _, ?_, ?_⟩, (((Below.refl _ w).alloc (Nat.le_refl _) _).alloc (by simp) _).alloc (by simp; omega) _⟩
  · have h := (C2.new (w.alloc (.cells #[ap b, .pointer (some ⟨bh, 0, none⟩)] 26)) 54 (.int .i64 (N : Int)) (.int .i64 (root : Int))).alloc (.cells #[.int .u8 k.1, .int .i64 k.2.1, .string k.2.2] 36)
    simpa using h
  · have h := C3.new ((w.alloc (.cells #[ap b, .pointer (some ⟨bh, 0, none⟩)] 26)).alloc (.cells #[.int .i64 (N : Int), .int .i64 (root : Int)] 54)) 36 (.int .u8 k.1) (.int .i64 k.2.1) (.string k.2.2)
    simpa using h
set_option maxHeartbeats 4000000 in
theorem vHas (b bh seed root N : Nat) (k : Ky) (w : World) (h : Ar w b most M F) (hz : M 0 = none) (hT : Mp M hs root l) (hh : Hs w bh seed) (nbh : ¬ F bh) (hhs : ∀ q, OkK q → hs q = hashN seed q.1 q.2.1 q.2.2) (hk : OkK k) (hlen : l.length ≤ 1024) :
    Calls Tryz.prog 45 #[land b bh, .agg #[.int .i64 (N : Nat), .int .i64 (root : Nat)], xagg k] w fun e w' => e = .returned (.bool (hasB k l)) ∧ Kp (fun q => q = bh) w w' ∧ Hs w' bh seed := by
  obtain ⟨b0, hb0⟩ := B3.new w b bh N root k
  have HA := Lib.hid (vLook (l := l) b bh seed root N k _ (h.below hb0) hz hT (hh.below hb0) nbh hhs hk hlen)
  have HB := Lib.hid hb0
  clear h hz hT hh nbh hhs hk hlen hb0
  go_enter Tryz.func45, Tryz.ntmps45
  go_upto_region 1 with fail
  generalize ((w.alloc (.cells #[ap b, .pointer (some ⟨bh, 0, none⟩)] 26)).alloc (.cells #[.int .i64 (N : Int), .int .i64 (root : Int)] 54)).alloc (.cells #[.int .u8 k.1, .int .i64 k.2.1, .string k.2.2] 36) = W1 at b0 HA HB ⊢
  obtain ⟨x0, x1, _⟩ := b0.lb.all
  obtain ⟨x2, x3, _⟩ := b0.sb.all
  obtain ⟨x4, x5, x6, _⟩ := b0.kb.all
  clear b0
  go_wp2_with fail
  refine HA.out.mono ?_
  rintro e w2 ⟨rfl, hk2, hh2⟩
  have H2 := Lib.hid (And.intro ((Kp.of_below HB.out (fun q => q = bh)).trans hk2 (fun q e => .inl e)) hh2)
  clear hk2 hh2 x0 x1 x2 x3 x4 x5 x6
  go_wp2_with fail
  go_ret
  refine ⟨rfl, H2.out.1.trans ((Kp.refl (fun _ => False) w2).alloc _) (fun _ h => h.elim), H2.out.2.below ((Below.refl _ w2).alloc (Nat.le_refl _) _)⟩
theorem B4.new (w : World) (b bh N root : Nat) (k : Ky) : B3 ((((w.alloc (.cells #[ap b, .pointer (some ⟨bh, 0, none⟩)] 26)).alloc (.cells #[.int .i64 (N : Int), .int .i64 (root : Int)] 54)).alloc (.cells #[.int .u8 k.1, .int .i64 k.2.1, .string k.2.2] 36)).alloc (.cells #[.int .i64 0, .int .i64 0] 54)) w.heap.size (w.heap.size + 1) (w.heap.size + 1 + 1) b bh N root k ∧ C2 ((((w.alloc (.cells #[ap b, .pointer (some ⟨bh, 0, none⟩)] 26)).alloc (.cells #[.int .i64 (N : Int), .int .i64 (root : Int)] 54)).alloc (.cells #[.int .u8 k.1, .int .i64 k.2.1, .string k.2.2] 36)).alloc (.cells #[.int .i64 0, .int .i64 0] 54)) (w.heap.size + 1 + 1 + 1) 54 (.int .i64 0) (.int .i64 0) ∧ Below w.heap.size w ((((w.alloc (.cells #[ap b, .pointer (some ⟨bh, 0, none⟩)] 26)).alloc (.cells #[.int .i64 (N : Int), .int .i64 (root : Int)] 54)).alloc (.cells #[.int .u8 k.1, .int .i64 k.2.1, .string k.2.2] 36)).alloc (.cells #[.int .i64 0, .int .i64 0] 54)) ∧ ((((w.alloc (.cells #[ap b, .pointer (some ⟨bh, 0, none⟩)] 26)).alloc (.cells #[.int .i64 (N : Int), .int .i64 (root : Int)] 54)).alloc (.cells #[.int .u8 k.1, .int .i64 k.2.1, .string k.2.2] 36)).alloc (.cells #[.int .i64 0, .int .i64 0] 54)).heap.size = w.heap.size + 4 := by
  obtain ⟨h, hb⟩ := B3.new w b bh N root k
  have h3 := C2.new (((w.alloc (.cells #[ap b, .pointer (some ⟨bh, 0, none⟩)] 26)).alloc (.cells #[.int .i64 (N : Int), .int .i64 (root : Int)] 54)).alloc (.cells #[.int .u8 k.1, .int .i64 k.2.1, .string k.2.2] 36)) 54 (.int .i64 0) (.int .i64 0)
  refine ⟨⟨h.lb.alloc _, h.sb.alloc _, h.kb.alloc _⟩, by simpa using h3, hb.alloc (by simp; omega) _, by simp⟩
set_option maxHeartbeats 4000000 in
theorem vAdd (b bh seed root : Nat) (k : Ky) (ow : Int) (P : Nat → Nat) (w : World) (h : Ar w b most M F) (hm : most ≤ 1048576) (hb : Bk (most + 1) M [] P [root]) (hP : ∀ j, P j ≤ 576460752303423488) (hT : Mp M hs root l) (hh : Hs w bh seed) (nbh : ¬ F bh) (hhs : ∀ q, OkK q → hs q = hashN seed q.1 q.2.1 q.2.2) (hkl : ∀ q ∈ l, OkK q.1) (hk : OkK k) (hlen : l.length ≤ 1024) :
    Calls Tryz.prog 41 #[land b bh, .agg #[.int .i64 (l.length : Nat), .int .i64 (root : Nat)], xagg k, .int .u32 ow] w fun e w' =>
      (e = .returned (.tuple #[.agg #[.int .i64 0, .int .i64 0], .int .i64 12]) ∧ hasB k l = false ∧ Long l ∧ Kp (fun q => q = bh) w w' ∧ Hs w' bh seed) ∨
      (e = .returned (.tuple #[.agg #[.int .i64 0, .int .i64 0], .int .i64 5]) ∧ most < live (most + 1) M + 16 ∧ Kp (fun q => q = bh) w w' ∧ Hs w' bh seed) ∨
      ∃ n M', e = .returned (.tuple #[.agg #[.int .i64 ((putL hs (k, noV) l).length : Nat), .int .i64 (n : Nat)], .int .i64 0]) ∧ (hasB k l = true ∨ ¬ Long l) ∧ 1 ≤ n ∧ MapR most M P hs root ow (putL hs (k, noV) l) n M' ∧ StpH w w' b bh seed most M' F := by
  have hFlt : ∀ q, F q → q < w.heap.size := fun q hq => h.lt hq
  have hbl := hh.lt
  obtain ⟨b0, q8, hb0, hsz⟩ := B4.new w b bh l.length root k
  have HA := Lib.hid (vPut (l := l) b bh seed root k noV ow P _ (h.below hb0) hm hb hP hT (hh.below hb0) nbh hhs hkl hk hlen)
  have HB := Lib.hid hb0
  clear h hm hb hP hT hh nbh hhs hkl hk hlen hb0
  go_enter Tryz.func41, Tryz.ntmps41
  go_upto_region 1 with fail
  generalize ((((w.alloc (.cells #[ap b, .pointer (some ⟨bh, 0, none⟩)] 26)).alloc (.cells #[.int .i64 (l.length : Int), .int .i64 (root : Int)] 54)).alloc (.cells #[.int .u8 k.1, .int .i64 k.2.1, .string k.2.2] 36)).alloc (.cells #[.int .i64 0, .int .i64 0] 54)) = W1 at b0 q8 hsz HA HB ⊢
  obtain ⟨z8, hz8⟩ : ∃ z, z = w.heap.size + 1 + 1 + 1 := ⟨_, rfl⟩
  rw [← hz8] at q8 ⊢
  have HZ := Lib.hid (show z8 = w.heap.size + 3 ∧ W1.heap.size = w.heap.size + 4 ∧ bh < w.heap.size ∧ ∀ q, F q → q < w.heap.size from ⟨by omega, hsz, hbl, hFlt⟩)
  clear hz8 hsz hbl hFlt
  obtain ⟨x0, x1, _⟩ := b0.lb.all
  obtain ⟨x2, x3, _⟩ := b0.sb.all
  obtain ⟨x4, x5, x6, _⟩ := b0.kb.all
  have Q8 := Lib.hid q8
  clear b0 q8
  go_wp2_with fail
  refine HA.out.mono ?_
  clear HA
  rintro e w2 (⟨rfl, h1, h2, hk2, hh2⟩ | ⟨rfl, h1, hk2, hh2⟩ | ⟨n, M', rfl, h1, h2, h3, h4⟩)
  · have H2 := Lib.hid (And.intro h1 (And.intro h2 (And.intro hk2 hh2)))
    have q8 := Q8.out.kp hk2 (fun e => by have := HZ.out; omega)
    clear h1 h2 hk2 hh2
    clear x0 x1 x2 x3 x4 x5 x6
    go_upto_region 2 with fail
    have q9 := q8.alloc (.cells #[.int .i64 (0 : Int), .int .i64 (0 : Int)] 30)
    have q10 := C2.new w2 30 (.int .i64 (0 : Int)) (.int .i64 (0 : Int))
    have hb3 : Below w2.heap.size w2 (w2.alloc (.cells #[.int .i64 (0 : Int), .int .i64 (0 : Int)] 30)) := (Below.refl _ w2).alloc (Nat.le_refl _) _
    clear q8
    generalize w2.alloc (.cells #[.int .i64 (0 : Int), .int .i64 (0 : Int)] 30) = w3 at q9 q10 hb3 ⊢
    generalize w2.heap.size = z10 at q10 ⊢
    obtain ⟨c0, c1, c2, c3⟩ := q9.all
    obtain ⟨c4, c5, _, _⟩ := q10.all
    have Q9 := Lib.hid q9
    have HB3 := Lib.hid hb3
    clear q9 q10 hb3
    go_wp2_with fail
    have kz := kp2z w3 z8 (.int .i64 (0 : Int)) (.int .i64 (0 : Int))
    have q11 := (Q9.out.set0 (.int .i64 (0 : Int))).set1 (.int .i64 (0 : Int))
    clear c0 c1 c2 c3 c4 c5
    obtain ⟨c0, c1, _, _⟩ := q11.all
    refine bodyPost_ret (v := .tuple #[.agg #[.int .i64 0, .int .i64 0], .int .i64 12]) (by simp [results, Tryz.results41, go_sem, c0, c1]) rfl (.inl ⟨rfl, H2.out.1, H2.out.2.1, ?_, ?_⟩)
    · exact (((Kp.of_below HB.out (fun q => q = bh)).trans H2.out.2.2.1 (fun q e => .inl e)).trans (Kp.of_below HB3.out (fun _ => False)) (fun _ h => h.elim)).trans kz (fun q e => .inr (by have := HZ.out; omega))
    · exact (H2.out.2.2.2.below HB3.out).kp kz (fun e => by have := HZ.out; omega)
  · have H2 := Lib.hid (And.intro h1 (And.intro hk2 hh2))
    have q8 := Q8.out.kp hk2 (fun e => by have := HZ.out; omega)
    clear h1 hk2 hh2
    clear x0 x1 x2 x3 x4 x5 x6
    go_upto_region 2 with fail
    have q9 := q8.alloc (.cells #[.int .i64 (0 : Int), .int .i64 (0 : Int)] 30)
    have q10 := C2.new w2 30 (.int .i64 (0 : Int)) (.int .i64 (0 : Int))
    have hb3 : Below w2.heap.size w2 (w2.alloc (.cells #[.int .i64 (0 : Int), .int .i64 (0 : Int)] 30)) := (Below.refl _ w2).alloc (Nat.le_refl _) _
    clear q8
    generalize w2.alloc (.cells #[.int .i64 (0 : Int), .int .i64 (0 : Int)] 30) = w3 at q9 q10 hb3 ⊢
    generalize w2.heap.size = z10 at q10 ⊢
    obtain ⟨c0, c1, c2, c3⟩ := q9.all
    obtain ⟨c4, c5, _, _⟩ := q10.all
    have Q9 := Lib.hid q9
    have HB3 := Lib.hid hb3
    clear q9 q10 hb3
    go_wp2_with fail
    have kz := kp2z w3 z8 (.int .i64 (0 : Int)) (.int .i64 (0 : Int))
    have q11 := (Q9.out.set0 (.int .i64 (0 : Int))).set1 (.int .i64 (0 : Int))
    clear c0 c1 c2 c3 c4 c5
    obtain ⟨c0, c1, _, _⟩ := q11.all
    refine bodyPost_ret (v := .tuple #[.agg #[.int .i64 0, .int .i64 0], .int .i64 5]) (by simp [results, Tryz.results41, go_sem, c0, c1]) rfl (.inr (.inl ⟨rfl, H2.out.1, ?_, ?_⟩))
    · exact (((Kp.of_below HB.out (fun q => q = bh)).trans H2.out.2.1 (fun q e => .inl e)).trans (Kp.of_below HB3.out (fun _ => False)) (fun _ h => h.elim)).trans kz (fun q e => .inr (by have := HZ.out; omega))
    · exact (H2.out.2.2.below HB3.out).kp kz (fun e => by have := HZ.out; omega)
  · have H2 := Lib.hid (And.intro h1 (And.intro h2 (And.intro h3 h4)))
    have q8 := Q8.out.kp h4.kp (fun e => e.elim (fun e => by have := HZ.out.2.2.2 _ e; have := HZ.out; omega) (fun e => by have := HZ.out; omega))
    clear h1 h2 h3 h4
    generalize hN : (putL hs (k, noV) l).length = N' 
    have HN := Lib.hid hN
    clear hN
    clear x0 x1 x2 x3 x4 x5 x6
    go_upto_region 2 with fail
    have q9 := q8.alloc (.cells #[.int .i64 ((N' : Nat) : Int), .int .i64 ((n : Nat) : Int)] 30)
    have q10 := C2.new w2 30 (.int .i64 ((N' : Nat) : Int)) (.int .i64 ((n : Nat) : Int))
    have hb3 : Below w2.heap.size w2 (w2.alloc (.cells #[.int .i64 ((N' : Nat) : Int), .int .i64 ((n : Nat) : Int)] 30)) := (Below.refl _ w2).alloc (Nat.le_refl _) _
    clear q8
    generalize w2.alloc (.cells #[.int .i64 ((N' : Nat) : Int), .int .i64 ((n : Nat) : Int)] 30) = w3 at q9 q10 hb3 ⊢
    generalize w2.heap.size = z10 at q10 ⊢
    obtain ⟨c0, c1, c2, c3⟩ := q9.all
    obtain ⟨c4, c5, _, _⟩ := q10.all
    have Q9 := Lib.hid q9
    have HB3 := Lib.hid hb3
    clear q9 q10 hb3
    go_wp2_with fail
    have kz := kp2z w3 z8 (.int .i64 ((N' : Nat) : Int)) (.int .i64 ((n : Nat) : Int))
    have q11 := (Q9.out.set0 (.int .i64 ((N' : Nat) : Int))).set1 (.int .i64 ((n : Nat) : Int))
    clear c0 c1 c2 c3 c4 c5
    obtain ⟨c0, c1, _, _⟩ := q11.all
    refine bodyPost_ret (v := .tuple #[.agg #[.int .i64 (N' : Nat), .int .i64 (n : Nat)], .int .i64 0]) (by simp [results, Tryz.results41, go_sem, c0, c1]) rfl (.inr (.inr ⟨n, M', by rw [HN.out], H2.out.1, H2.out.2.1, H2.out.2.2.1, ?_⟩))
    have hz := HZ.out
    exact StpH.close hz.2.2.2 hz.2.2.1 (Kp.of_below HB.out (fun q => q = bh)) H2.out.2.2.2 ((Kp.of_below HB3.out (fun q => q = z8)).trans kz (fun q e => .inl e)) (fun q e => by omega)
end
end Go.Proofs.YtdddhmipifkepaaGreat
