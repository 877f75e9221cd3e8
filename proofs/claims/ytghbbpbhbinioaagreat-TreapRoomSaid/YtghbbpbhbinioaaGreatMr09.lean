/- Several texts in one. -/
import Derived.Test.YtghbbpbhbinioaaGreatMr08
import Derived.IntWalk
import Derived.RangeFuncCalls
import Derived.Shelf.RegionOpen
import Derived.OwnWalkIn
import Derived.TacticsInMore
import Derived.LoopNIn
import Derived.LoopIn
import Derived.Test.YtghbbpbhbinioaaGreatMr01
import Derived.Test.YtghbbpbhbinioaaGreatMr06
import Derived.Test.YtghbbpbhbinioaaGreatMr07
namespace Go.Proofs.YtghbbpbhbinioaaGreat
set_option maxRecDepth 100000
open Go.RowKit
section
def Okay (b most : Nat) (M0 : Cells) (root : Nat) (A : World) : Prop := ∃ M F, Ar A b most M F ∧ Pres M0 M root
def Safe (b most : Nat) (A : World) (q : Nat) : Prop := ∃ M F, Ar A b most M F ∧ ¬ F q
def Vt (t : Nat) : Prop := t = 26 ∨ t = 94 ∨ t = 36 ∨ t = 3
structure Kv (n0 b most : Nat) (M0 : Cells) (root : Nat) (A B : World) : Prop where
  ok : Okay b most M0 root A → Okay b most M0 root B
  same : ∀ q cur t, n0 ≤ q → Vt t → A.heap[q]? = some (.cells cur t (0, 0)) → Safe b most A q → B.heap[q]? = some (.cells cur t (0, 0)) ∧ Safe b most B q
variable {n0 b most root : Nat} {M0 : Cells} {A B C : World}
theorem Okay.below (h : Okay b most M0 root A) (hb : Below A.heap.size A B) : Okay b most M0 root B := by
  obtain ⟨M, F, h1, h2⟩ := h
  exact ⟨M, F, h1.below hb, h2⟩
theorem Safe.below {q : Nat} (h : Safe b most A q) (hb : Below A.heap.size A B) : Safe b most B q := by
  obtain ⟨M, F, h1, h2⟩ := h
  exact ⟨M, F, h1.below hb, h2⟩
theorem Okay.new {q : Nat} (h : Okay b most M0 root A) (hb : Below A.heap.size A B) (hq : A.heap.size ≤ q) : Safe b most B q := by
  obtain ⟨M, F, h1, _⟩ := h
  exact ⟨M, F, h1.below hb, fun hf => by have := h1.lt hf; omega⟩
theorem Kv.trans (h : Kv n0 b most M0 root A B) (k : Kv n0 b most M0 root B C) : Kv n0 b most M0 root A C :=
  ⟨fun o => k.ok (h.ok o), fun q cur t hq ht e s => by
    obtain ⟨e1, s1⟩ := h.same q cur t hq ht e s
    exact k.same q cur t hq ht e1 s1⟩
theorem Kv.below (hb : Below A.heap.size A B) : Kv n0 b most M0 root A B :=
  ⟨fun o => o.below hb, fun q _ _ _ _ e s => ⟨(hb.block q (Array.getElem?_eq_some_iff.1 e).1).trans e, s.below hb⟩⟩
theorem Ar.cut {M : Cells} {F : Nat → Prop} {x : Nat} {o : Obj} (h : Ar A b most M F) (hx : A.heap[x]? = some o) (hc : o.isCells = false) : Ar A b most M (fun k => F k ∧ k ≠ x) := by
  have ne : ∀ {k : Nat} {cur : Array Value} {t : Nat} {z : Nat × Nat}, A.heap[k]? = some (.cells cur t z) → k ≠ x := fun hk e => by
    subst e
    rw [hx] at hk
    cases hk
    cases hc
  have own : ∀ {v : Value} {base e size n : Nat} {xs : List Value}, A.ownsRow base e size v n xs → ∀ k, v.ownBlock = some k → k ≠ x := fun ho k hk => by
    obtain ⟨cur, hcur⟩ := own_type ho k hk
    exact ne hcur
  obtain ⟨n, vc, vf, fr, H, h⟩ := h
  refine ⟨n, vc, vf, fr, H, ⟨h.m1, h.m2, h.row, h.cs, h.fs, fun j c r e => ?_, h.inj, h.nd, h.fi, h.len, h.le, ⟨h.fb, ne h.row⟩, fun k hk => ⟨h.fc k hk, own h.cs k hk⟩, fun k hk => ⟨h.ff k hk, own h.fs k hk⟩, fun k hk => h.lt k hk.1⟩⟩
  obtain ⟨i1, i2, i3, v, k, h1, h2, h3, h4, h5, h6, h7, h8⟩ := h.cel j c r e
  exact ⟨i1, i2, i3, v, k, h1, h2, h3, ⟨h4, ne h1⟩, fun g hg => ⟨h5 g hg, own h2 g hg⟩, fun g hg => ⟨⟨(h6 g hg).1, own h3 g hg⟩, (h6 g hg).2⟩, h7, h8⟩
theorem kp_putObj {x : Nat} {o : Obj} : Kp (fun q => q = x) A (A.putObj x o) :=
  ⟨rfl, rfl, rfl, by simp [World.putObj], fun k _ hk => World.putObj_heap_other hk⟩
theorem Kv.putObj {x : Nat} {o o' : Obj} (hx : A.heap[x]? = some o) (hc : o.isCells = false) : Kv n0 b most M0 root A (A.putObj x o') := by
  have ar : ∀ {M F}, Ar A b most M F → Ar (A.putObj x o') b most M (fun k => F k ∧ k ≠ x) := fun h => (h.cut hx hc).kp kp_putObj (fun k hk => hk.2)
  refine ⟨fun ⟨M, F, h1, h2⟩ => ⟨M, _, ar h1, h2⟩, fun q cur t _ _ e ⟨M, F, h1, h2⟩ => ⟨?_, M, _, ar h1, fun hf => h2 hf.1⟩⟩
  have hne : q ≠ x := fun e2 => by
    subst e2
    rw [hx] at e
    cases e
    cases hc
  exact (World.putObj_heap_other hne).trans e
def Mi (n0 b most : Nat) (A : World) (t size : Nat) (v : Value) (n : Nat) (xs : List Value) : Prop := A.ownsRow n0 t size v n xs ∧ ∀ q, v.ownBlock = some q → Safe b most A q
theorem Mi.kv {t size n : Nat} {v : Value} {xs : List Value} (h : Mi n0 b most A t size v n xs) (ht : Vt t) (hk : Kv n0 b most M0 root A B) : Mi n0 b most B t size v n xs := by
  obtain ⟨ho, hs⟩ := h
  refine ⟨⟨ho.1, ?_⟩, fun q hq => ?_⟩
  · rcases ho.2 with hn | ⟨g, cap, cur, rfl, hg, e, hr⟩
    · exact .inl hn
    · exact .inr ⟨g, cap, cur, rfl, hg, (hk.same g cur t hg ht e (hs g rfl)).1, hr⟩
  · obtain ⟨cur, hcur⟩ := own_type ho q hq
    exact (hk.same q cur t (own_blk ho q hq).1 ht hcur (hs q hq)).2
theorem Mi.below {t size n : Nat} {v : Value} {xs : List Value} (h : Mi n0 b most A t size v n xs) (hb : Below A.heap.size A B) : Mi n0 b most B t size v n xs :=
  ⟨(Kp.of_below hb (fun _ => False)).own h.1 (fun _ _ h => h), fun q hq => (h.2 q hq).below hb⟩
structure VS (n0 b bh most z4 z9 : Nat) (c : Hc) (V K : Value) (A : World) : Prop where
  lb : C2 A z4 26 (ap b) (.pointer (some ⟨bh, 0, none⟩))
  cb : C5 A z9 94 (.int .u32 c.owner) (.int .u32 c.a) (.int .u32 c.b) V K
  vr : Mi n0 b most A 36 3 V c.vals.length (c.vals.flatMap cells3)
  kr : Mi n0 b most A 3 1 K c.kids.length (nums (ns c.kids))
  n4 : n0 ≤ z4 ∧ n0 ≤ z9
  sf : Safe b most A z4 ∧ Safe b most A z9
theorem VS.kv {bh z4 z9 : Nat} {c : Hc} {V K : Value} (h : VS n0 b bh most z4 z9 c V K A) (hk : Kv n0 b most M0 root A B) : VS n0 b bh most z4 z9 c V K B := by
  obtain ⟨e4, s4⟩ := hk.same z4 _ _ h.n4.1 (.inl rfl) h.lb h.sf.1
  obtain ⟨e9, s9⟩ := hk.same z9 _ _ h.n4.2 (.inr (.inl rfl)) h.cb h.sf.2
  exact ⟨e4, e9, h.vr.kv (.inr (.inr (.inl rfl))) hk, h.kr.kv (.inr (.inr (.inr rfl))) hk, h.n4, s4, s9⟩
theorem VS.below {bh z4 z9 : Nat} {c : Hc} {V K : Value} (h : VS n0 b bh most z4 z9 c V K A) (hb : Below A.heap.size A B) : VS n0 b bh most z4 z9 c V K B :=
  ⟨h.lb.below hb, h.cb.below hb, h.vr.below hb, h.kr.below hb, h.n4, h.sf.1.below hb, h.sf.2.below hb⟩
end
end Go.Proofs.YtghbbpbhbinioaaGreat

namespace Go.Proofs.YtghbbpbhbinioaaGreat
set_option maxRecDepth 100000
open Go Go.RowKit

section
variable {α : Type} {P : Program}
def Gives8 (P : Program) (f : FuncId) (args : Value → Array Value) (encs : α → Array Value) (Kp : World → World → Prop) (xs : List α) (w : World) : Prop :=
  ∀ (l : Nat) (J Jx : Nat → World → Prop) (W : World), Below w.heap.size w W → (∀ i A B, J i A → Below A.heap.size A B → J i B) → (∀ i A B, Jx i A → Below A.heap.size A B → Jx i B) →
    (∀ i x A, xs[i]? = some x → J i A → YieldAt Fence.wide 0 P l (encs x) A fun e B => (e = .returned (.bool true) ∧ J (i + 1) B ∧ Kp A B) ∨ (e = .returned (.bool false) ∧ Jx (i + 1) B ∧ Kp A B)) →
    J 0 W → Calls P f (args (.func (.yield l) #[] #[])) W fun e B => (∃ v, e = .returned v) ∧ (J xs.length B ∨ ∃ i, i ≤ xs.length ∧ Jx i B)

def roundOf8 (Kp : World → World → Prop) (I : Nat → World → Prop) (Ix : Code → Nat → World → Prop) (i : Nat) (A : World) : Exit → Act → World → Prop
  | .normal, _, B => KeepsOthers A B ∧ Kp A B ∧ I i B
  | .ret, _, B => KeepsOthers A B ∧ Kp A B ∧ Ix .ret i B
  | .exit k, _, B => KeepsOthers A B ∧ Kp A B ∧ Ix (.exit k) i B
  | .goto k, _, B => KeepsOthers A B ∧ Kp A B ∧ Ix (.goto k) i B
  | .panic _, _, _ => False
  | .outgrown, _, _ => False

end

end Go.Proofs.YtghbbpbhbinioaaGreat

namespace Go.Proofs.YtghbbpbhbinioaaGreat
set_option maxRecDepth 100000
open Go.RowKit Go.Shelf
attribute [local go_sem] Oper.semAt_some
abbrev pagg (p : Pr) : Value := .agg #[.int .u8 p.1.1, .int .i64 p.1.2.1, .string p.1.2.2, .int .u8 p.2.1, .int .i64 p.2.2.1, .string p.2.2.2]
structure Rounds (n0 b most : Nat) (M0 : Cells) (root lp : Nat) (J Jx : Nat → World → Prop) (xs : List Pr) : Prop where
  keep : ∀ i A B, J i A → Below A.heap.size A B → J i B
  step : ∀ i x A, xs[i]? = some x → J i A → YieldAt Fence.wide 0 Tryz.prog lp #[pagg x] A fun e B => (e = .returned (.bool true) ∧ J (i + 1) B ∧ Kv n0 b most M0 root A B) ∨ (e = .returned (.bool false) ∧ Jx (i + 1) B ∧ Kv n0 b most M0 root A B)
section
variable {n0 b bh most root lp : Nat} {M0 : Cells} {J Jx : Nat → World → Prop} {xs : List Pr}
theorem own_base {w : World} {base base' t sz n : Nat} {v : Value} {xs : List Value} (h : w.ownsRow base t sz v n xs) (hb : base' ≤ base) : w.ownsRow base' t sz v n xs := by
  refine ⟨h.1, ?_⟩
  rcases h.2 with h | ⟨g, cap, cur, h1, h2, h3⟩
  · exact .inl h
  · exact .inr ⟨g, cap, cur, h1, Nat.le_trans hb h2, h3⟩
end
end Go.Proofs.YtghbbpbhbinioaaGreat

namespace Go.Proofs.YtghbbpbhbinioaaGreat
set_option maxRecDepth 100000
open Go.RowKit
section
variable {n0 b bh most root lp : Nat} {M0 : Cells} {hs : Ky → Nat} {J Jx : Nat → World → Prop} {xs : List Pr}
end
end Go.Proofs.YtghbbpbhbinioaaGreat

namespace Go.Proofs.YtghbbpbhbinioaaGreat
set_option maxRecDepth 100000
open Go.RowKit
section
variable {b bh most root N : Nat} {M0 : Cells} {hs : Ky → Nat} {l : List Pr}
end
end Go.Proofs.YtghbbpbhbinioaaGreat

namespace Go.Proofs.YtghbbpbhbinioaaGreat
set_option maxRecDepth 100000
open Go.RowKit
theorem below_kp {w w1 w9 : World} {F : Nat → Prop} (hb : Below w.heap.size w w1) (hk : Kp F w1 w9) (hF : ∀ q, F q → w.heap.size ≤ q) : Below w.heap.size w w9 := by
  have h := (Kp.of_below hb (fun _ => False)).trans hk (fun q h => .inr (hF q h))
  exact ⟨h.os, h.tape, h.output, h.size, fun k hk => h.block k hk id⟩
section
end
end Go.Proofs.YtghbbpbhbinioaaGreat

namespace Go.Proofs.YtghbbpbhbinioaaGreat
set_option maxRecDepth 100000
open Go.RowKit
section
end
end Go.Proofs.YtghbbpbhbinioaaGreat

namespace Go.Proofs.YtghbbpbhbinioaaGreat
set_option maxRecDepth 100000
open Go.RowKit
theorem lnumber (n : Int) (w : World) : Calls Tryz.prog 11 #[.int .i64 n] w fun e w' => e = .returned (xagg (2, n, ⟨#[]⟩)) ∧ Below w.heap.size w w' := by
  go_enter Tryz.func11, Tryz.ntmps11
  go_wp2
  exact bodyPost_ret (v := xagg (2, n, ⟨#[]⟩)) (by simp [results, Tryz.results11, go_sem]) rfl ⟨rfl, (Below.refl _ _).alloc (Nat.le_refl _) _⟩
theorem bk0 (most : Nat) : Bk (most + 1) (fun _ => none) [] (fun _ => 0) [0] := by
  have hocc : ∀ i, occ (most + 1) (fun _ => none) i = 0 := fun i => sumTo_zero fun _ _ => by simp [kd]
  refine ⟨?_, fun h hh => by simp at hh, fun j => by simp [kd]⟩
  rw [blank_nil]
  refine ⟨rfl, fun _ _ => rfl, fun _ h => absurd rfl h, fun i hi => ?_, ⟨fun _ => 0, fun j k hk => by simp [kd] at hk⟩⟩
  rw [hocc]
  have : ¬ 0 = i := by omega
  simp [rf, this]
structure LS (w : World) (b bh seed most z1 : Nat) (M : Cells) (F : Nat → Prop) (W : World) : Prop where
  ar : Ar W b most M F
  hh : Hs W bh seed
  nb : ¬ F bh
  lb : C2 W z1 26 (ap b) (.pointer (some ⟨bh, 0, none⟩))
  nz : ¬ F z1 ∧ z1 ≠ bh
  bel : Below w.heap.size w W
  fr : ∀ q, F q → w.heap.size ≤ q
  lo : w.heap.size ≤ z1 ∧ w.heap.size ≤ bh
section
variable {w W W' : World} {b bh seed most z1 : Nat} {M M' : Cells} {F : Nat → Prop}
theorem LS.below (h : LS w b bh seed most z1 M F W) (hb : Below W.heap.size W W') : LS w b bh seed most z1 M F W' :=
  ⟨h.ar.below hb, h.hh.below hb, h.nb, h.lb.below hb, h.nz, h.bel.trans (hb.mono h.bel.size), h.fr, h.lo⟩
theorem LS.alloc (h : LS w b bh seed most z1 M F W) (o : Obj) : LS w b bh seed most z1 M F (W.alloc o) := h.below ((Below.refl _ W).alloc (Nat.le_refl _) o)
theorem LS.kp {G : Nat → Prop} (h : LS w b bh seed most z1 M F W) (hk : Kp G W W') (hG : ∀ q, G q → w.heap.size ≤ q ∧ ¬ F q ∧ q ≠ bh ∧ q ≠ z1) : LS w b bh seed most z1 M F W' :=
  ⟨h.ar.kp hk (fun q hf hg => (hG q hg).2.1 hf), h.hh.kp hk (fun hg => (hG _ hg).2.2.1 rfl), h.nb, h.lb.kp hk (fun hg => (hG _ hg).2.2.2 rfl), h.nz, below_kp h.bel hk (fun q hg => (hG q hg).1), h.fr, h.lo⟩
theorem LS.hash (h : LS w b bh seed most z1 M F W) (hk : Kp (fun q => q = bh) W W') (hh : Hs W' bh seed) : LS w b bh seed most z1 M F W' :=
  ⟨h.ar.kp hk (fun q hf hg => h.nb (hg ▸ hf)), hh, h.nb, h.lb.kp hk (fun e => h.nz.2 e), h.nz, below_kp h.bel hk (fun q hg => by rw [hg]; exact h.lo.2), h.fr, h.lo⟩
theorem LS.put (h : LS w b bh seed most z1 M F W) (hs : StpH W W' b bh seed most M' F) : LS w b bh seed most z1 M' (Fn F W W') W' := by
  have s1 := h.bel.size
  have hbl := h.hh.lt
  have hzl := h.lb.lt
  exact ⟨hs.ar, hs.hh, fun hf => hf.elim h.nb (fun e => by omega), h.lb.kp hs.kp (fun e => e.elim h.nz.1 h.nz.2), ⟨fun hf => hf.elim h.nz.1 (fun e => by omega), h.nz.2⟩, below_kp h.bel hs.kp (fun q e => e.elim (h.fr q) (fun e => by rw [e]; exact h.lo.2)), fun q hf => hf.elim (h.fr q) (fun e => Nat.le_trans s1 e.1), h.lo⟩
theorem LS.stp (h : LS w b bh seed most z1 M F W) (hs : Stp W W' b most M' F) : LS w b bh seed most z1 M' (Fn F W W') W' := by
  have s1 := h.bel.size
  have hbl := h.hh.lt
  have hzl := h.lb.lt
  exact ⟨hs.ar, h.hh.kp hs.kp h.nb, fun hf => hf.elim h.nb (fun e => by omega), h.lb.kp hs.kp h.nz.1, ⟨fun hf => hf.elim h.nz.1 (fun e => by omega), h.nz.2⟩, below_kp h.bel hs.kp h.fr, fun q hf => hf.elim (h.fr q) (fun e => Nat.le_trans s1 e.1), h.lo⟩
end
section
end
end Go.Proofs.YtghbbpbhbinioaaGreat

namespace Go.Proofs.YtghbbpbhbinioaaGreat
set_option maxRecDepth 100000
open Go.RowKit
section
end
end Go.Proofs.YtghbbpbhbinioaaGreat

namespace Go.Proofs.YtghbbpbhbinioaaGreat
set_option maxRecDepth 100000
open Go.RowKit
def pcells (p : Pr) : List Value := cells3 p.1 ++ cells3 p.2
section
end
end Go.Proofs.YtghbbpbhbinioaaGreat

namespace Go.Proofs.YtghbbpbhbinioaaGreat
set_option maxRecDepth 100000
open Go.RowKit
structure Tk8 (w wr : World) (m : List Pr) (x : Value) : Prop where
  bel : Below w.heap.size w wr
  own : wr.ownsRow w.heap.size 116 6 x m.length (m.flatMap pcells)
theorem rd_six (w : World) (x0 x1 x2 x3 x4 x5 : Value) (t : TypeId) (b : Nat) (hb : b = w.heap.size) : Rd (w.alloc (.cells #[x0, x1, x2, x3, x4, x5] t)) (.slice (some ⟨b, 0, none⟩) 1 1) 1 [x0, x1, x2, x3, x4, x5] := by
  subst hb
  refine .inr ⟨_, 0, 1, rfl, Nat.le_refl _, fun j u hu => ?_⟩
  match j, hu with
  | 0, hu => simp at hu; subst hu; simp [go_sem]
  | 1, hu => simp at hu; subst hu; simp [go_sem]
  | 2, hu => simp at hu; subst hu; simp [go_sem]
  | 3, hu => simp at hu; subst hu; simp [go_sem]
  | 4, hu => simp at hu; subst hu; simp [go_sem]
  | 5, hu => simp at hu; subst hu; simp [go_sem]
section
end
end Go.Proofs.YtghbbpbhbinioaaGreat

namespace Go.Proofs.YtghbbpbhbinioaaGreat
set_option maxRecDepth 100000
open Go.RowKit
structure Gb (w : World) where
  at' : World
  below : Below w.heap.size w at'
instance (w : World) : Nonempty (Gb w) := ⟨⟨w, Below.refl _ w⟩⟩
theorem Gb.cell {w : World} {p : Addr} {v : Value} (h : w.cell? p = some v) (hb : p.block < w.heap.size) (g : Gb w) : g.at'.cell? p = some v :=
  (g.below.cell hb).trans h
theorem Gb.calls {P : Program} {f : FuncId} {args : Array Value} {w : World} {v : Value} (g : Gb w)
    (h : Calls P f args g.at' fun e w' => e = .returned v ∧ Below g.at'.heap.size g.at' w') : Calls P f args g.at' fun e w'' => e = .returned v ∧ ∃ g' : Gb w, w'' = g'.at' :=
  h.mono fun _ _ ⟨he, hm⟩ => ⟨he, ⟨_, g.below.trans (hm.mono g.below.size)⟩, rfl⟩
theorem region_below {P : Program} {id : Nat} {Q : Exit → Act → World → Prop} {a : Act} {w : World} {l : List Oper} (hm : P.follows .mixedOrders = true) (hB : Region.lexB .any l.toArray = true)
    (h : wpQuiet P l.toArray (fun w' => ∃ g : Gb w, w' = g.at') (fun a' => ∀ w', (∃ g : Gb w, w' = g.at') → Q .normal a' w') l a) : (Code.region id l.toArray true).wp P Q a w :=
  wp_region_quiet (C := fun w' => ∃ g : Gb w, w' = g.at') hm hB ⟨⟨w.drew, below_drewN w 1⟩, rfl⟩ (by simpa using h)
theorem Tk8.one {w wr : World} {m : List Pr} {x : Value} {p : Pr} (hb : Below w.heap.size w wr) (h : wr.ownsRow w.heap.size 116 6 x (m.length + 1) (m.flatMap pcells ++ pcells p)) : Tk8 w wr (m ++ [p]) x :=
  ⟨hb, by rw [List.length_append, List.flatMap_append, List.flatMap_singleton]; exact h⟩
theorem Tk8.two {w wr : World} {m : List Pr} {x : Value} {p q : Pr} (hb : Below w.heap.size w wr) (h : wr.ownsRow w.heap.size 116 6 x (m.length + 1 + 1) (m.flatMap pcells ++ (pcells p ++ pcells q))) : Tk8 w wr (m ++ [p] ++ [q]) x :=
  Tk8.one hb (by rw [List.length_append, List.flatMap_append, List.flatMap_singleton, List.append_assoc]; exact h)
section
variable {hs : Ky → Nat} {p q : Pr} {l m : List Pr} {j : Nat} {d : Bool}
end
section
end
end Go.Proofs.YtghbbpbhbinioaaGreat

namespace Go.Proofs.YtghbbpbhbinioaaGreat
set_option maxRecDepth 100000
open Go.RowKit
section
end
end Go.Proofs.YtghbbpbhbinioaaGreat

namespace Go.Proofs.YtghbbpbhbinioaaGreat
set_option maxRecDepth 100000
open Go.RowKit
theorem Ar.meet {w : World} {b most most' : Nat} {M M' : Cells} {F F' : Nat → Prop} (h : Ar w b most M F) (h' : Ar w b most' M' F') : Ar w b most M (fun q => F q ∧ F' q) := by
  obtain ⟨n, vc, vf, fr, H, h⟩ := h
  obtain ⟨n', vc', vf', fr', H', h'⟩ := h'
  have er : vc = vc' ∧ vf = vf' := by
    have e := h.row.symm.trans h'.row
    simp only [Option.some.injEq, Obj.cells.injEq, Array.mk.injEq, List.cons.injEq] at e
    exact ⟨e.1.2.2.1, e.1.2.2.2.1⟩
  obtain ⟨rfl, rfl⟩ := er
  refine ⟨n, vc, vf, fr, H, h.m1, h.m2, h.row, h.cs, h.fs, fun j c r e => ?_, h.inj, h.nd, h.fi, h.len, h.le, ⟨h.fb, h'.fb⟩, fun k hk => ⟨h.fc k hk, h'.fc k hk⟩, fun k hk => ⟨h.ff k hk, h'.ff k hk⟩, fun k hk => h.lt k hk.1⟩
  obtain ⟨i1, i2, i3, v, k, h1, h2, h3, h4, h5, h6, h7, h8⟩ := h.cel j c r e
  have hj : (places M H n)[j - 1]? = some (.pointer (some ⟨H j, 0, none⟩)) := by
    rw [places_at (by omega), show j - 1 + 1 = j by omega, e]
    rfl
  obtain ⟨g, cp, ev, _, kc, _⟩ := own_at h.cs hj
  have hcs := h'.cs
  have hn' : n' = n := by
    rcases hcs.2 with ⟨e2, _⟩ | ⟨g2, cp2, cur2, e2, _⟩
    · rw [ev] at e2; cases e2
    · rw [ev] at e2
      injection e2 with _ e3 _
      exact e3.symm
  have hj' : (places M' H' n')[j - 1]? = some (ptrOf (M' j) (H' j)) := by
    rw [places_at (by omega), show j - 1 + 1 = j by omega]
  obtain ⟨g2, cp2, ev2, _, kc2, _⟩ := own_at hcs hj'
  rw [ev] at ev2
  simp only [Value.slice.injEq, Option.some.injEq, Addr.mk.injEq, and_true] at ev2
  obtain ⟨rfl, _, _⟩ := ev2
  rw [kc] at kc2
  cases e' : M' j with
  | none => rw [e'] at kc2; simp [ptrOf] at kc2
  | some y =>
    rw [e'] at kc2
    simp only [ptrOf, Option.some.injEq, Value.pointer.injEq, Addr.mk.injEq, and_true] at kc2
    obtain ⟨c', r'⟩ := y
    obtain ⟨_, _, _, v', k', h1', _, _, h4', h5', h6', _, _⟩ := h'.cel j c' r' e'
    rw [← kc2] at h1' h4'
    have e2 := h1.symm.trans h1'
    simp only [Option.some.injEq, Obj.cells.injEq, Array.mk.injEq, List.cons.injEq] at e2
    obtain ⟨rfl, rfl⟩ : v = v' ∧ k = k' := ⟨e2.1.2.2.2.1, e2.1.2.2.2.2.1⟩
    exact ⟨i1, i2, i3, v, k, h1, h2, h3, ⟨h4, h4'⟩, fun g hg => ⟨h5 g hg, h5' g hg⟩, fun g hg => ⟨⟨(h6 g hg).1, (h6' g hg).1⟩, (h6 g hg).2⟩, h7, h8⟩
theorem Kv.of_kp {n0 b most most' root : Nat} {M0 M : Cells} {F G : Nat → Prop} {A B : World} (h : Ar A b most' M F) (hk : Kp G A B) (hF : ∀ q, G q → ¬ F q) (hG : ∀ q cur t, G q → n0 ≤ q → A.heap[q]? = some (.cells cur t (0, 0)) → ¬ Vt t) : Kv n0 b most M0 root A B := by
  have ar : ∀ {M1 : Cells} {F1 : Nat → Prop}, Ar A b most M1 F1 → Ar B b most M1 (fun q => F1 q ∧ F q) := fun h1 => (h1.meet h).kp hk (fun q hq hg => hF q hg hq.2)
  refine ⟨fun ⟨M1, F1, h1, h2⟩ => ⟨M1, _, ar h1, h2⟩, fun q cur t hq ht e ⟨M1, F1, h1, h2⟩ => ⟨?_, M1, _, ar h1, fun hf => h2 hf.1⟩⟩
  rw [hk.block q (Array.getElem?_eq_some_iff.1 e).1 (fun hg => hG q cur t hg hq e ht)]
  exact e
end Go.Proofs.YtghbbpbhbinioaaGreat

namespace Go.Proofs.YtghbbpbhbinioaaGreat
open Go Go.RowKit
section
variable {F : Fence} {n : Nat} {P : Program} {ops : Array Oper} {Q : Exit → Act → World → Prop} {S : World → Prop} {X : List Nat}
def noDefer (ops : Array Oper) : Bool := ops.all fun o => match o.op with
  | .defer _ => false
  | _ => true
theorem noDefer_spec (h : noDefer ops = true) {i : Nat} {o : Oper} (hi : ops[i]? = some o) : ∀ c, o.op ≠ .defer c := by
  intro c e
  unfold noDefer at h
  rw [Array.all_eq_true] at h
  obtain ⟨hl, rfl⟩ := Array.getElem?_eq_some_iff.1 hi
  have h1 := h i hl
  rw [e] at h1
  cases h1
def waits (ops : Array Oper) (X : List Nat) (i : Nat) : Bool := X.all fun x => match ops[x]? with
  | some o => o.after.any fun e => Region.binds .any e && e.on == i
  | none => true
theorem waits_spec {i x : Nat} {o : Oper} (h : waits ops X i = true) (hx : x ∈ X) (ho : ops[x]? = some o) : ∃ e ∈ o.after, Region.binds .any e = true ∧ e.on = i := by
  unfold waits at h
  have h1 := List.all_eq_true.1 h x hx
  simp only [ho] at h1
  obtain ⟨k, hk, h2⟩ := Array.any_eq_true.1 h1
  simp only [Bool.and_eq_true, beq_iff_eq] at h2
  exact ⟨_, Array.getElem_mem hk, h2.1, h2.2⟩
def AnyX (F : Fence) (n : Nat) (P : Program) (ops : Array Oper) (Q : Exit → Act → World → Prop) (S : World → Prop) (X : List Nat) : Nat → Array Bool → Act → World → Prop
  | 0, done, a, w => Region.ready .any ops done = [] ∧ Q .normal a w
  | k + 1, done, a, w => (Region.ready .any ops done = [] → Q .normal a w) ∧ ∀ i ∈ Region.ready .any ops done, wpOpIn F n P ops Q i (fun a' w' => (i ∈ X ∨ S w') ∧ AnyX F n P ops Q S X k (done.setIfInBounds i true) a' w') a w
theorem AnyX.any : ∀ (k : Nat) (done : Array Bool) (a : Act) (w : World), AnyX F n P ops Q S X k done a w → wpAnyIn F n P .any ops Q k done a w
  | 0, _, _, _, h => h
  | k + 1, _, _, _, h => ⟨h.1, fun i hi => wpOpIn_mono (fun _ _ h => AnyX.any k _ _ _ h.2) (h.2 i hi)⟩
theorem Due.runX {i : Nat} {o : Oper} {v : Value} {a : Act} {w : World} {K : Act → World → Prop} (hnd : ∀ c, o.op ≠ .defer c) (hi : ops[i]? = some o) (h : Due P ops S o v a) (hS : S w) (hK : K (a.put o.dst v) w) : wpOpIn F n P ops Q i K a w := by
  have hab : ∀ f, o.about P w a.eval = some f → F.fn f := fun f hf => by rw [h.1 w] at hf; cases hf
  unfold wpOpIn
  simp only [hi]
  rcases h.2 with ⟨e, r⟩ | ⟨e, rfl⟩
  · rw [if_pos e]
    refine ⟨hab, ?_⟩
    rw [Oper.semAt_plain F _ _ hnd, r w hS]
    exact hK
  · rw [e]
    exact ⟨hab, hK⟩
theorem Due.besideX {j : Nat} {oi oj : Oper} {v : Value} {K : Act → World → Prop} {a : Act} {w : World} (hnd : ∀ c, oj.op ≠ .defer c) (hj : ops[j]? = some oj) (hap : oi.apart ops oj = true) (si : ∀ cs b, oi.op ≠ .select cs b) (sj : ∀ cs b, oj.op ≠ .select cs b)
    (hQ : ∀ c a w, Q (.panic c) (a.put oi.dst v) w → Q (.panic c) a w) (h : Due P ops S oi v a) (hw : wpOpIn F n P ops Q j K (a.put oi.dst v) w) : wpOpIn F n P ops Q j (fun a' w' => Due P ops S oi v a' ∧ K (a'.put oi.dst v) w') a w := by
  obtain ⟨p1, p2, p3⟩ := Oper.apart_spec hap
  have put : ∀ (c : Act) (u : Value), Due P ops S oi v c → Due P ops S oi v (c.put oj.dst u) := fun c u hc => hc.alike (execOp_put oi si c oj.dst u p3) (wanted_put oi c oj.dst u p3) (fun w => about_put oi w c oj.dst u p3)
  have swap : ∀ (c : Act) (u : Value) (w' : World), K ((c.put oi.dst v).put oj.dst u) w' → K ((c.put oj.dst u).put oi.dst v) w' := fun c u w' hc => by rw [← Act.put_comm c v u p2]; exact hc
  unfold wpOpIn at hw ⊢
  simp only [hj] at hw ⊢
  rw [wanted_put oj a oi.dst v p1, about_put oj w a oi.dst v p1] at hw
  by_cases hwant : Region.wanted oj (yielded ops a.tmps) = true
  · rw [if_pos hwant] at hw ⊢
    unfold Oper.wpIn at hw ⊢
    rw [about_put oj w a oi.dst v p1, Oper.semAt_plain F _ _ hnd, execOp_put oj sj a oi.dst v p1] at hw
    rw [Oper.semAt_plain F _ _ hnd]
    refine ⟨hw.1, ?_⟩
    have hw2 := hw.2
    generalize (execOp a.eval oj).run P w = r at hw2 ⊢
    have fin : ∀ (e : Ending) (w' : World), (match e, w' with
        | .returned u, w'' => K ((a.put oi.dst v).put oj.dst u) w''
        | .panicked chain, w'' => Q (.panic chain) (a.put oi.dst v) w''
        | .outgrown, _ => LetsOut Q) → (match e, w' with
        | .returned u, w'' => Due P ops S oi v (a.put oj.dst u) ∧ K ((a.put oj.dst u).put oi.dst v) w''
        | .panicked chain, w'' => Q (.panic chain) a w''
        | .outgrown, _ => LetsOut Q) := fun e w' he => by
      cases e with
      | returned u => exact ⟨put a u h, swap a u w' he⟩
      | panicked c => exact hQ _ _ _ he
      | outgrown => exact he
    cases r with
    | halt x w' =>
      cases x <;> first
        | exact hw2.elim
        | exact hQ _ _ _ hw2
    | ok x w' =>
      cases x with
      | value u => exact ⟨put a u h, swap a u w' hw2⟩
      | skip => exact ⟨put a _ h, swap a _ w' hw2⟩
      | defer d =>
        have h' : Due P ops S oi v ({ a with defers := d :: a.defers } : Act) := h.alike rfl rfl (fun _ => rfl)
        refine ⟨put _ undef h', swap _ undef w' ?_⟩
        have e := Act.put_defers a oi.dst v d
        rw [← e]
        exact hw2
      | enter f args => exact ⟨hw2.1, hw2.2.mono fin⟩
      | row rw' args => exact ⟨hw2.1, hw2.2.mono fun u w'' he => ⟨put a u h, swap a u w'' he⟩⟩
      | round l f tmps assign body => exact ⟨hw2.1, hw2.2.mono fin⟩
      | _ => exact hw2.elim
  · rw [if_neg hwant] at hw ⊢
    exact ⟨hw.1, put a _ h, swap a _ w hw.2⟩
theorem AnyX.take {i : Nat} {oi : Oper} {v : Value} (hnd : noDefer ops = true) (hX : waits ops X i = true) (hi : ops[i]? = some oi) (hs : Region.noSelect ops = true) (hQ : ∀ c a w, Q (.panic c) (a.put oi.dst v) w → Q (.panic c) a w) :
    ∀ (k : Nat) (done : Array Bool) (a : Act) (w : World), (∀ j oj, ops[j]? = some oj → j ≠ i → done.getD j true = false → (∀ e ∈ oj.after, Region.binds .any e = true → e.on ≠ i) → oi.apart ops oj = true) →
      i ∈ Region.ready .any ops done → Due P ops S oi v a → S w → AnyX F n P ops Q S X k (done.setIfInBounds i true) (a.put oi.dst v) w → AnyX F n P ops Q S X (k + 1) done a w
  | k, done, a, w, hfree, hr, hd, hS, H => by
    refine ⟨fun e => absurd hr (by rw [e]; exact List.not_mem_nil), fun j hj => ?_⟩
    by_cases hji : j = i
    · subst hji; exact hd.runX (noDefer_spec hnd hi) hi hS ⟨.inr hS, H⟩
    · have hj2 := ready_mono hj hji
      cases k with
      | zero => rw [H.1] at hj2; cases hj2
      | succ k =>
        obtain ⟨hun, oj, hoj, hall⟩ := mem_ready.1 hj
        have hi0 := (mem_ready.1 hr).1
        have hnot : ∀ e ∈ oj.after, Region.binds .any e = true → e.on ≠ i := fun e he hb e2 => by
          have h1 := hall e he hb
          rw [e2] at h1
          by_cases hlt : i < done.size
          · rw [Array.getD_eq_getD_getElem?, Array.getElem?_eq_getElem hlt] at h1 hi0
            simp only [Option.getD_some] at h1 hi0
            rw [h1] at hi0
            cases hi0
          · rw [Array.getD_eq_getD_getElem?, Array.getElem?_eq_none (by omega)] at hi0
            cases hi0
        have hjX : j ∉ X := fun hx => by
          obtain ⟨e, he, hb, e2⟩ := waits_spec hX hx hoj
          exact hnot e he hb e2
        have h2 := hd.besideX (noDefer_spec hnd hoj) hoj (hfree j oj hoj hji hun hnot) (Region.noSelect_spec hs i oi · · hi) (Region.noSelect_spec hs j oj · · hoj) hQ (H.2 j hj2)
        refine wpOpIn_mono (fun a' w' h3 => ⟨h3.2.1, AnyX.take hnd hX hi hs hQ k (done.setIfInBounds j true) a' w' (fun x ox hx hxi hxu hno => ?_) (ready_mono hr (Ne.symm hji)) h3.1 (h3.2.1.resolve_left hjX) ?_⟩) h2
        · refine hfree x ox hx hxi ?_ hno
          by_cases hjx : j = x
          · subst hjx; exact hun
          · rwa [getD_set_ne true hjx] at hxu
        · rw [Array.setIfInBounds_comm _ _ hji]
          exact h3.2.2
theorem AnyX.first {i : Nat} {oi : Oper} {v : Value} {k : Nat} {done : Array Bool} {a : Act} {w : World} (hnd : noDefer ops = true) (hX : waits ops X i = true) (hi : ops[i]? = some oi) (hs : Region.noSelect ops = true) (hf : Region.free .any ops done i = true) (hr : (Region.ready .any ops done).contains i = true)
    (hQ : ∀ c a w, Q (.panic c) (a.put oi.dst v) w → Q (.panic c) a w) (hd : Due P ops S oi v a) (hS : S w) (H : AnyX F n P ops Q S X k (done.setIfInBounds i true) (a.put oi.dst v) w) : AnyX F n P ops Q S X (k + 1) done a w :=
  AnyX.take hnd hX hi hs hQ k done a w (Region.free_spec hi hf) (by simpa using hr) hd hS H
theorem AnyX.one {i : Nat} {o : Oper} {k : Nat} {done : Array Bool} {a : Act} {w : World} (hr : Region.ready .any ops done = [i]) (ho : ops[i]? = some o)
    (h : ∀ K : Act → World → Prop, (∀ a' w', (i ∈ X ∨ S w') ∧ AnyX F n P ops Q S X k (done.setIfInBounds i true) a' w' → K a' w') → if Region.wanted o (yielded ops a.tmps) = true then Oper.wpIn F n P o a w K Q else (∀ f, o.about P w a.eval = some f → F.fn f) ∧ K (a.put o.dst undef) w) : AnyX F n P ops Q S X (k + 1) done a w :=
  ⟨fun e => (by rw [hr] at e; cases e), fun j hj => by
    rw [hr, List.mem_singleton] at hj
    subst hj
    exact wpOpIn_step ho (fun K' hK => h K' hK)⟩
theorem AnyX.done {done : Array Bool} {a : Act} {w : World} (hr : Region.ready .any ops done = []) (h : Q .normal a w) : ∀ k, AnyX F n P ops Q S X k done a w
  | 0 => ⟨hr, h⟩
  | _ + 1 => ⟨fun _ => h, by rw [hr]; simp⟩
theorem anyX_region {id : Nat} {a : Act} {w : World} (hm : P.follows .mixedOrders = true) (h : AnyX F n P ops Q S X ops.size (Array.replicate ops.size false) a w.drew) : (Code.region id ops true).wpIn F n P Q a w :=
  wpIn_region_any hm (h.any _ _ _ _)
theorem stepX_append_rd {o : Oper} {a : Act} {w : World} {K : Act → World → Prop} {E : Prop} (hfn : ∀ f, F.fn f) (hgd : o.guard = none) (s x : Operand) (t : TypeId)
    (ho : o.op = .call { callee := .builtin .append, args := #[s, x], argTypes := #[t, t] })
    (B : Nat) (e : TypeId) (i : TypeInfo) (z : Value) (size bytes : Nat) (ht : P.underlying t = some (.slice e)) (hi : P.info? e = some i) (hz : i.zero = some z) (hsize : i.size = size) (hby : i.bytes = bytes) (hzs : z.cells.size = size) (hsz : 0 < size)
    (v : Value) (n' : Nat) (xs : List Value) (hs : a.eval s = v) (hown : w.ownsRow B e size v n' xs) (y : Value) (m : Nat) (ys : List Value) (hx : a.eval x = y) (hy : Rd w y m ys) (hl : ys.length = m * size) (h1 : ∀ u ∈ ys, u.oneCell' = true)
    (h63 : n' + m ≤ maxLen) (hbytes : (n' + m) * bytes ≤ 140737488355328) (hB : B ≤ w.heap.size)
    (h : ∀ v' w', w'.ownsRow B e size v' (n' + m) (xs ++ ys) → w.grownBy w' v.ownBlock → (v'.ownBlock = v.ownBlock ∨ v'.ownBlock = some w.heap.size) → K (a.put o.dst v') w') :
    if Region.wanted o (yielded ops a.tmps) = true then Oper.wpIn F n P o a w K Q else E := by
  have hw : Region.wanted o (yielded ops a.tmps) = true := by simp [Region.wanted, hgd]
  rw [if_pos hw]
  obtain ⟨v', w', hrun, h2, h3, h4⟩ := run_append_rd (P := P) (w := w) B t o.type e i z size bytes ht hi hz hsize hby hzs hsz v n' xs hown y m ys hy hl h1 h63 hbytes hB
  refine ⟨fun f _ => hfn f, ?_⟩
  rw [Oper.semAt_plain F _ _ (by rw [ho]; intro c e; cases e)]
  unfold execOp
  simp only [ho, resolve, invoke, builtin, Sem.run_bind, Sem.run_pure, Result.andThen_ok, List.map_toArray, List.map_cons, List.map_nil, hs, hx, hrun]
  exact h v' w' h2 h3 h4
end
end Go.Proofs.YtghbbpbhbinioaaGreat

namespace Go.Proofs.YtghbbpbhbinioaaGreat
set_option maxRecDepth 100000
open Go Go.RowKit

section
variable {α : Type} {P : Program}
theorem wp_range9 {g : Operand} {ps : Array Tmp} {assign body : Code} {Q : Exit → Act → World → Prop} {a : Act} {w : World} {f : FuncId} {first last : Array Value}
    (hg : a.eval g = .func (.func f) first last) (hf : ∀ (args : Array Value) (w : World), (callFunc f args).run P w = .ok (.enter f args) w) {encs : α → Array Value} {Kp : World → World → Prop} {xs : List α} (hps : ∀ x, (encs x).size = ps.size)
    (hseq : Gives8 P f (fun v => first ++ #[v] ++ last) encs Kp xs w)
    (hKt : ∀ {A B C : World}, Kp A B → Kp B C → Kp A C) (hKb : ∀ (W : World) (l : Nat) (o o' : Obj), w.heap.size ≤ l → W.heap[l]? = some o → o.isCells = false → o.isWalk = false → Kp W (W.putObj l o'))
    (I : Nat → World → Prop) (Ix : Code → Nat → World → Prop) (hI : OwnFrom w.heap.size I) (hIx : ∀ c, OwnFrom w.heap.size (Ix c)) (h0 : I 0 w)
    (hKB : ∀ A B : World, Below A.heap.size A B → Kp A B)
    (hround : ∀ (l i : Nat) (x : α) (W : World), xs[i]? = some x → I i W → w.heap.size ≤ W.heap.size → assign.wpIn (Fence.wide.inRound l) 0 P (Exit.then (fun a₁ Wa => Below W.heap.size W Wa ∧ ∃ J : Nat → World → Prop, OwnFrom w.heap.size J ∧ J i Wa ∧ ∀ W', J i W' → Wa.heap.size ≤ W'.heap.size → body.wpIn (Fence.wide.inRound l) 0 P (roundOf8 Kp I Ix (i + 1) W') a₁ W') (fun _ _ _ => False)) { tmps := (ps.zip (encs x)).foldl (fun t (p, v) => t.setIfInBounds p v) a.tmps, defers := [] } W)
    (hdone : ∀ (D : Nat) (W : World), w.heap.size ≤ D → I xs.length W → W.heap[D]? = some (.deferred (some [])) → Q .normal { a with defers := { target := .collected D, args := #[] } :: a.defers } W)
    (hstop : ∀ (D : Nat) (c : Code) (i : Nat) (W : World), w.heap.size ≤ D → i ≤ xs.length → Ix c i W → W.heap[D]? = some (.deferred (some [])) → c.wp P Q { a with defers := { target := .collected D, args := #[] } :: a.defers } W) :
    (Code.rangeFunc g ps assign body).wp P Q a w := by
  refine (wpIn_wide (n := 1)).1 (wpIn_rangeFunc fun fn hfn => ?_)
  obtain ⟨rec, hrec⟩ : ∃ rec : LoopState → Option Code → Loop, rec = fun st pe => { state := st, pending := pe, fn, tmps := a.tmps, params := ps, assign, body, defers := w.heap.size } := ⟨_, rfl⟩
  obtain ⟨W1, hW1⟩ : ∃ W1, W1 = (w.alloc (.deferred (some []))).alloc (.loop (rec .ready none)) := ⟨_, rfl⟩
  have hb1 : Below w.heap.size w W1 := by rw [hW1]; exact ((Below.refl _ w).alloc (Nat.le_refl _) _).alloc (by simp) _
  have hB1 : Books w.heap.size (rec .ready none) W1 := by
    rw [hW1]
    refine ⟨?_, (Below.heap_alloc _ _ _ (by simp)).trans (World.alloc_heap_new w _)⟩
    have := World.alloc_heap_new (w.alloc (.deferred (some []))) (.loop (rec .ready none))
    rwa [World.size_alloc] at this
  refine ⟨w.heap.size + 1, [{ target := .collected w.heap.size, args := #[] }], W1, { target := .fn (.func f) last, args := first ++ #[.func (.yield (w.heap.size + 1)) #[] #[]] }, W1, f, first ++ #[.func (.yield (w.heap.size + 1)) #[] #[]] ++ last, W1, ?_, ?_, fun _ _ => trivial, ?_, fun _ => Nat.le_refl 1, ?_⟩
  · rw [hW1, hrec]; exact run_enterLoop_outer _ _ _ _ _
  · simp only [resolve, hg]
    simp [go_sem, Deferred.ofValue]
  · simp only [invoke]
    exact hf _ _
  · refine callsIn_wide.2 ((hseq (w.heap.size + 1) (fun i W => I i W ∧ Books w.heap.size (rec .ready none) W) (fun i W => ∃ c, Ix c i W ∧ Books w.heap.size (rec .done (some c)) W) W1 hb1
      (fun i A B h hg => ⟨below_own hI h.1 hg, h.2.below hg⟩) (fun i A B ⟨c, h, hk⟩ hg => ⟨c, below_own (hIx c) h hg, hk.below hg⟩) ?_ ⟨below_own hI h0 hb1, hB1⟩).mono ?_)
    · rintro i x W hx ⟨hi, hk⟩
      have hlt : w.heap.size + 1 < W.heap.size := (Array.getElem?_eq_some_iff.1 hk.row).1
      have hy := run_yield (P := P) (args := encs x) hk.row (by rw [hrec]; exact hps x)
      rw [hrec] at hy
      have hszW : w.heap.size ≤ W.heap.size := by omega
      refine ⟨fn, _, assign, body, hy, roundIn_of_wpIn hfn (wpIn_mono (hround (w.heap.size + 1) i x W hx hi hszW) ?_)⟩
      rintro (_ | _ | _ | _ | _ | _) a1 Wa ha <;> first | exact ha.elim | skip
      obtain ⟨hbl, J, hJ, hj, hwalk⟩ := ha
      have hk' := hk.below hbl
      have hbegin := run_beginRound (P := P) hk'.row (by rw [hrec])
      have hk2 := hk'.put { rec .ready none with state := .busy }
      have hp2 : Kp Wa (Wa.putObj (w.heap.size + 1) (.loop { rec .ready none with state := .busy })) := hKb _ _ _ _ (by omega) hk'.row rfl rfl
      have hj2 := hJ.putObj (.loop { rec .ready none with state := .busy }) hj (Nat.le_succ _) hk'.row rfl
      have hsz : Wa.heap.size ≤ (Wa.putObj (w.heap.size + 1) (.loop { rec .ready none with state := .busy })).heap.size := by
        simp [World.putObj]
      have hend : ∀ (j : Option Code) (B : World), KeepsOthers (Wa.putObj (w.heap.size + 1) (.loop { rec .ready none with state := .busy })) B →
          (Instr.endRound (w.heap.size + 1) j).run P B = .ok (.bool j.isNone) (B.putObj (w.heap.size + 1) (.loop (rec (if j.isNone then .ready else .done) j))) ∧ Books w.heap.size { rec .ready none with state := .busy } B := fun j B hB => by
        have hk3 := hk2.keeps hB
        refine ⟨?_, hk3⟩
        have := run_endRound (P := P) j hk3.row
        rw [hrec] at this ⊢
        exact this
      refine ⟨_, hbegin, wpIn_mono (hwalk _ hj2 hsz) ?_⟩
      intro e a3 B hp
      cases e with
      | normal =>
        obtain ⟨hkp, hK, hI3⟩ := hp
        obtain ⟨hr, hk3⟩ := hend none B hkp
        exact ⟨_, _, hr, .inl ⟨rfl, ⟨hI.putObj _ hI3 (Nat.le_succ _) hk3.row rfl, hk3.put _⟩, hKt (hKt (hKt (hKB _ _ hbl) hp2) hK) (hKb _ _ _ _ (Nat.le_succ _) hk3.row rfl rfl)⟩⟩
      | ret =>
        obtain ⟨hkp, hK, hI3⟩ := hp
        obtain ⟨hr, hk3⟩ := hend (some .ret) B hkp
        exact ⟨_, _, hr, .inr ⟨rfl, ⟨.ret, (hIx _).putObj _ hI3 (Nat.le_succ _) hk3.row rfl, hk3.put _⟩, hKt (hKt (hKt (hKB _ _ hbl) hp2) hK) (hKb _ _ _ _ (Nat.le_succ _) hk3.row rfl rfl)⟩⟩
      | exit k =>
        obtain ⟨hkp, hK, hI3⟩ := hp
        obtain ⟨hr, hk3⟩ := hend (some (.exit k)) B hkp
        exact ⟨_, _, hr, .inr ⟨rfl, ⟨.exit k, (hIx _).putObj _ hI3 (Nat.le_succ _) hk3.row rfl, hk3.put _⟩, hKt (hKt (hKt (hKB _ _ hbl) hp2) hK) (hKb _ _ _ _ (Nat.le_succ _) hk3.row rfl rfl)⟩⟩
      | goto k =>
        obtain ⟨hkp, hK, hI3⟩ := hp
        obtain ⟨hr, hk3⟩ := hend (some (.goto k)) B hkp
        exact ⟨_, _, hr, .inr ⟨rfl, ⟨.goto k, (hIx _).putObj _ hI3 (Nat.le_succ _) hk3.row rfl, hk3.put _⟩, hKt (hKt (hKt (hKB _ _ hbl) hp2) hK) (hKb _ _ _ _ (Nat.le_succ _) hk3.row rfl rfl)⟩⟩
      | panic _ => exact hp.elim
      | outgrown => exact hp.elim
    · rintro e B ⟨⟨v, rfl⟩, ⟨hi, hk⟩ | ⟨i, hle, c, hi, hk⟩⟩
      · have hr := run_endLoop (P := P) hk.row (by rw [hrec]; simp)
        exact ⟨none, _, by rw [hr, hrec], hdone _ _ (Nat.le_refl _) (hI.putObj _ hi (Nat.le_succ _) hk.row rfl) ((World.putObj_heap_other (by omega)).trans hk.def')⟩
      · have hr := run_endLoop (P := P) hk.row (by rw [hrec]; simp)
        exact ⟨some c, _, by rw [hr, hrec], wpIn_wide.2 (hstop _ c i _ (Nat.le_refl _) hle ((hIx c).putObj _ hi (Nat.le_succ _) hk.row rfl) ((World.putObj_heap_other (by omega)).trans hk.def'))⟩
end

end Go.Proofs.YtghbbpbhbinioaaGreat

namespace Go.Proofs.YtghbbpbhbinioaaGreat
set_option maxRecDepth 100000
open Go.RowKit Go.Shelf
theorem Mp.pres {M M' : Cells} {hs : Ky → Nat} {root : Nat} {l : List Pr} (h : Mp M hs root l) (hz : M 0 = none) (hp : root ≠ 0 → Pres M M' root) : Mp M' hs root l := by
  rcases h with h | h
  · exact .inl h
  · refine .inr (h.pres hz (hp fun e => ?_))
    subst e
    cases h with
    | leaf h => have := h.cell; rw [hz] at this; cases this
    | node h => have := h.cell; rw [hz] at this; cases this
theorem count1r (a k : Nat) : [a].count k = if k = a then 1 else 0 := by
  rw [List.count_cons, List.count_nil, Nat.zero_add]
  by_cases e : k = a
  · simp [e]
  · rw [if_neg e, if_neg]; simpa using fun e2 => e e2.symm
theorem KeepsOthers.of_kp {A B : World} {G : Nat → Prop} (h : Kp G A B) (hG : ∀ q o, G q → A.heap[q]? = some o → o.isCells = true) : KeepsOthers A B :=
  ⟨h.size, fun k o hk ho => by
    have hlt : k < A.heap.size := (Array.getElem?_eq_some_iff.1 hk).1
    rw [h.block k hlt (fun hg => by rw [hG k o hg hk] at ho; cases ho)]
    exact hk⟩
section
variable {W W' : World}
theorem C6.own {t b : Nat} {x0 x1 x2 x3 x4 x5 : Value} {row : Option Nat} (h : C6 W b t x0 x1 x2 x3 x4 x5) (hg : W.grownBy W' row) (hr : ∀ r, row = some r → ∃ o : Obj, W.heap[r]? = some o ∧ o.isCells = false) : C6 W' b t x0 x1 x2 x3 x4 x5 :=
  h.kp (Kp.of_grown hg (F := fun q => row = some q) (fun q e => .inl e)) (fun e => by
    obtain ⟨o, h2, h3⟩ := hr b e
    have h1 : W.heap[b]? = some _ := h
    rw [h2] at h1
    rw [Option.some.inj h1] at h3
    cases h3)
end
section
variable {b most : Nat} {M : Cells} {P : Nat → Nat} {F : Nat → Prop}
theorem drop1_bk (root : Nat) (w : World) (h : Ar w b most M F) (hm : most ≤ 1048576) (hP : ∀ j, P j ≤ 576460752303423488) (hb : Bk (most + 1) M [] P [root]) :
    Calls Tryz.prog 28 #[ap b, .int .i64 root] w fun e w' => (∃ z, e = .returned (.int .i64 z)) ∧ ∃ M', Bk (most + 1) M' [] P [] ∧ Keeps P M M' ∧ live (most + 1) M' ≤ live (most + 1) M ∧ Stp w w' b most M' F := by
  refine (vdrop1 root w h (fun j => Nat.le_trans (bk_rf hm hP hb (by show 1 ≤ 64; decide) j) (by decide))).mono ?_
  rintro e w' ⟨hz, M1, hd, hs⟩
  obtain ⟨b1, s1, _⟩ := hb.drop hd
  rw [blank_nil, blank_nil] at s1
  have o1 := b1.ok
  rw [blank_nil] at o1
  exact ⟨hz, M1, b1, fun r h0 hr => Pres.sub s1 o1 (b1.held hr h0), live_mono fun _ hj e => hj (s1.none e), hs⟩
end
end Go.Proofs.YtghbbpbhbinioaaGreat
