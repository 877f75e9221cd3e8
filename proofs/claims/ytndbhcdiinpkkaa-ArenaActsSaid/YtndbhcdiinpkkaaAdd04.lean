/- Two rows of numbers of one's own, each appended to, in any order. -/
import Derived.Test.YtndbhcdiinpkkaaWorld04
namespace Go.Proofs.Ytndbhcdiinpkkaa
open Go.RowKit

/-- These cells hold these values. -/
def Has (l : List (Addr × Value)) (W : World) : Prop := ∀ p ∈ l, W.cell? p.1 = some p.2
theorem Has.kp {l : List (Addr × Value)} {W W' : World} {G : Nat → Prop} (h : Has l W) (hk : Kp G W W') (hG : ∀ p ∈ l, ¬ G p.1.block) : Has l W' :=
  fun p hp => (World.cell?_of_block (hk.block p.1.block (World.block_lt_of_cell? W p.1 (h p hp)) (hG p hp))).trans (h p hp)

/-- Two rows of numbers, grown out of gn and gm in w0: as they are in W. -/
structure Two (B : Nat) (w0 : World) (gn gm : Value) (W : World) (vn vm : Value) (n m : Nat) (xn xm : List Value) : Prop where
  on : W.ownsRow B 3 1 vn n xn
  om : W.ownsRow B 3 1 vm m xm
  kp : Kp (fun g => gn.ownBlock = some g ∨ gm.ownBlock = some g) w0 W
  an : ∀ g, vn.ownBlock = some g → gn.ownBlock = some g ∨ w0.heap.size ≤ g
  am : ∀ g, vm.ownBlock = some g → gm.ownBlock = some g ∨ w0.heap.size ≤ g
  ne : ∀ g, vn.ownBlock = some g → vm.ownBlock ≠ some g
section
variable {B : Nat} {w0 W W' : World} {gn gm vn vm v' : Value} {n m k : Nat} {xn xm ys : List Value}
theorem Two.start (on : W.ownsRow B 3 1 vn n xn) (om : W.ownsRow B 3 1 vm m xm) (ne : ∀ g, vn.ownBlock = some g → vm.ownBlock ≠ some g) : Two B W vn vm W vn vm n m xn xm :=
  ⟨on, om, Kp.refl _ _, fun _ => .inl, fun _ => .inl, ne⟩
theorem Two.below (h : Two B w0 gn gm W vn vm n m xn xm) (hb : Below W.heap.size W W') : Two B w0 gn gm W' vn vm n m xn xm :=
  ⟨(Kp.of_below hb (fun _ => False)).own h.on (fun _ _ => id), (Kp.of_below hb (fun _ => False)).own h.om (fun _ _ => id), h.kp.trans (Kp.of_below hb (fun _ => False)) (fun _ h => h.elim), h.an, h.am, h.ne⟩
theorem Two.alloc (h : Two B w0 gn gm W vn vm n m xn xm) (o : Obj) : Two B w0 gn gm (W.alloc o) vn vm n m xn xm := h.below ((Below.refl _ _).alloc (Nat.le_refl _) o)
theorem Two.first (h : Two B w0 gn gm W vn vm n m xn xm) (ho : W'.ownsRow B 3 1 v' (n + k) (xn ++ ys)) (hg : W.grownBy W' vn.ownBlock) (hat : v'.ownBlock = vn.ownBlock ∨ v'.ownBlock = some W.heap.size) : Two B w0 gn gm W' v' vm (n + k) m (xn ++ ys) xm := by
  have kw : Kp (fun g => vn.ownBlock = some g) W W' := Kp.of_grown hg (fun _ => .inl)
  refine ⟨ho, kw.own h.om (fun g e e' => h.ne g e' e), h.kp.trans kw (fun g e => (h.an g e).imp .inl id), fun g e => ?_, h.am, fun g e e' => ?_⟩
  · rcases hat with e' | e'
    · exact h.an g (e' ▸ e)
    · rw [e'] at e; injection e with e; have := h.kp.size; exact .inr (by omega)
  · rcases hat with a | a
    · exact h.ne g (a ▸ e) e'
    · rw [a] at e; injection e with e; have := (h.om.lt g e').2; omega
theorem Two.second (h : Two B w0 gn gm W vn vm n m xn xm) (ho : W'.ownsRow B 3 1 v' (m + k) (xm ++ ys)) (hg : W.grownBy W' vm.ownBlock) (hat : v'.ownBlock = vm.ownBlock ∨ v'.ownBlock = some W.heap.size) : Two B w0 gn gm W' vn v' n (m + k) xn (xm ++ ys) := by
  have kw : Kp (fun g => vm.ownBlock = some g) W W' := Kp.of_grown hg (fun _ => .inl)
  refine ⟨kw.own h.on (fun g e e' => h.ne g e e'), ho, h.kp.trans kw (fun g e => (h.am g e).imp .inr id), h.an, fun g e => ?_, fun g e e' => ?_⟩
  · rcases hat with e' | e'
    · exact h.am g (e' ▸ e)
    · rw [e'] at e; injection e with e; have := h.kp.size; exact .inr (by omega)
  · rcases hat with a | a
    · exact h.ne g e (a ▸ e')
    · rw [a] at e'; injection e' with e'; have := (h.on.lt g e).2; omega
/-- What was read of a block made since is read still. -/
theorem Two.firstRd {x : Value} {r : Nat} {zs : List Value} (hr : Rd W x r zs) (hn : ∀ g, x.ownBlock = some g → vn.ownBlock ≠ some g) (hg : W.grownBy W' vn.ownBlock) : Rd W' x r zs :=
  (Kp.of_grown (F := fun g => vn.ownBlock = some g) hg (fun _ => .inl)).rd hr (fun g e e' => hn g e e')
end

/-- A slice of one number, made since. -/
structure Src (W : World) (v1 v2 s : Value) (x : Int) : Prop where
  rd : Rd W s 1 [.int .i64 x]
  lt : ∀ g, s.ownBlock = some g → g < W.heap.size ∧ v1.ownBlock ≠ some g ∧ v2.ownBlock ≠ some g
section
variable {B : Nat} {w0 W W' : World} {gn gm vn vm v' s : Value} {n m : Nat} {xn xm : List Value} {x : Int}
theorem Two.drew (h : Two B w0 gn gm W vn vm n m xn xm) : Two B w0 gn gm W.drew vn vm n m xn xm := h.below (Below.refl _ _).drew
theorem Two.src (h : Two B w0 gn gm W vn vm n m xn xm) (x : Int) (b : Nat) (hb : b = W.heap.size) : Src (W.alloc (.cells #[.int .i64 x] 3)) vn vm (.slice (some ⟨b, 0, none⟩) 1 1) x := by
  subst hb
  refine ⟨Rd.one W _ _, fun g hg => ?_⟩
  simp only [Value.ownBlock, Option.some.injEq] at hg
  subst hg
  exact ⟨by simp, fun e => by have := (h.on.lt _ e).2; omega, fun e => by have := (h.om.lt _ e).2; omega⟩
theorem Src.below (h : Src W vn vm s x) (hb : Below W.heap.size W W') : Src W' vn vm s x := ⟨h.rd.below hb, fun g hg => ⟨Nat.lt_of_lt_of_le (h.lt g hg).1 hb.size, (h.lt g hg).2⟩⟩
theorem Src.alloc (h : Src W vn vm s x) (o : Obj) : Src (W.alloc o) vn vm s x := h.below ((Below.refl _ _).alloc (Nat.le_refl _) o)
theorem Src.drew (h : Src W vn vm s x) : Src W.drew vn vm s x := h.below (Below.refl _ _).drew
theorem Src.first (h : Src W vn vm s x) (hg : W.grownBy W' vn.ownBlock) (hat : v'.ownBlock = vn.ownBlock ∨ v'.ownBlock = some W.heap.size) : Src W' v' vm s x :=
  ⟨(Kp.of_grown (F := fun g => vn.ownBlock = some g) hg (fun _ => .inl)).rd h.rd (fun g e e' => (h.lt g e).2.1 e'), fun g e => ⟨Nat.lt_of_lt_of_le (h.lt g e).1 hg.size, fun e' => by
    rcases hat with a | a
    · exact (h.lt g e).2.1 (a ▸ e')
    · rw [a] at e'; injection e' with e'; have := (h.lt g e).1; omega, (h.lt g e).2.2⟩⟩
theorem Src.second (h : Src W vn vm s x) (hg : W.grownBy W' vm.ownBlock) (hat : v'.ownBlock = vm.ownBlock ∨ v'.ownBlock = some W.heap.size) : Src W' vn v' s x :=
  ⟨(Kp.of_grown (F := fun g => vm.ownBlock = some g) hg (fun _ => .inl)).rd h.rd (fun g e e' => (h.lt g e).2.2 e'), fun g e => ⟨Nat.lt_of_lt_of_le (h.lt g e).1 hg.size, (h.lt g e).2.1, fun e' => by
    rcases hat with a | a
    · exact (h.lt g e).2.2 (a ▸ e')
    · rw [a] at e'; injection e' with e'; have := (h.lt g e).1; omega⟩⟩
end

section
variable {w0 w W : World} {wb b rb nd dn most : Nat} {vC vn vm v1 v2 : Value} {D : Nat → Dc} {K : Nat → Value} {Nm mine : Nat → Nat} {M : Cells} {F : Nat → Prop} {B : Nat}
theorem MemD.wdTwo {n m : Nat} {xn xm : List Value} (h : MemD w B wb b rb nd dn most vC vn vm D K Nm mine) (ht : Two B w vn vm W v1 v2 n m xn xm) : C4 W wb 34 (ap b) (rp rb) vn vm :=
  h.wd.kp ht.kp (fun e => e.elim (fun e => own_ne h.nr h.wd (by decide) _ e rfl) (fun e => own_ne h.mr h.wd (by decide) _ e rfl))
/-- A name more, and its hold. -/
theorem MemD.named {i j : Nat} (h : MemD w B wb b rb nd (nd + 1) most vC vn vm D K Nm mine) (ht : Two B w vn vm W v1 v2 (nd + 1) (nd + 1) (ints nd Nm ++ [.int .i64 (i : Int)]) (ints nd mine ++ [.int .i64 (j : Int)])) :
    MemD ((W.setCell ⟨wb, 2, none⟩ v1).setCell ⟨wb, 3, none⟩ v2) B wb b rb (nd + 1) (nd + 1) most vC v1 v2 D K (upd Nm nd i) (upd mine nd j) ∧ Kp (Lw wb rb (nd + 1) vC vn vm K) w ((W.setCell ⟨wb, 2, none⟩ v1).setCell ⟨wb, 3, none⟩ v2) ∧ (∀ g, Lw wb rb (nd + 1) vC v1 v2 K g → Lw wb rb (nd + 1) vC vn vm K g ∨ w.heap.size ≤ g) := by
  have k1 : Kp (Lw wb rb (nd + 1) vC vn vm K) w W := ht.kp.mono (fun g e _ => e.elim (fun e => .inr (.inr (.inr (.inl e)))) (fun e => .inr (.inr (.inr (.inr (.inl e))))))
  have k2 : Kp (fun g => g = wb) W ((W.setCell ⟨wb, 2, none⟩ v1).setCell ⟨wb, 3, none⟩ v2) := ((Kp.refl (fun g => g = wb) W).setCell (.inl rfl) _).setCell (.inl rfl) _
  have wd : C4 W wb 34 (ap b) (rp rb) vn vm := h.wd.kp ht.kp (fun e => e.elim (fun e => own_ne h.nr h.wd (by decide) _ e rfl) (fun e => own_ne h.mr h.wd (by decide) _ e rfl))
  have doc : Doc W B rb (nd + 1) most vC D K := h.doc.kp ht.kp (fun e => e.elim (fun e => own_ne h.nr h.doc.rd (by decide) _ e rfl) (fun e => own_ne h.mr h.doc.rd (by decide) _ e rfl))
    (fun g e e' => by
      obtain ⟨cur, hc⟩ := own_type h.doc.cr g e
      exact e'.elim (fun e' => own_ne h.nr hc (by decide) _ e' rfl) (fun e' => own_ne h.mr hc (by decide) _ e' rfl))
    (fun k k1 k2 g e e' => e'.elim (h.kn k k1 k2 g e).1 (h.kn k k1 k2 g e).2)
  have hnew : ∀ g, (v1.ownBlock = some g ∨ v2.ownBlock = some g) → (vn.ownBlock = some g ∨ vm.ownBlock = some g) ∨ w.heap.size ≤ g := fun g e => e.elim (fun e => (ht.an g e).imp .inl id) (fun e => (ht.am g e).imp .inr id)
  refine ⟨⟨(wd.set2 v1).set3 v2, doc.kp k2 (ne_types doc.rd wd (by decide)) (own_ne doc.cr wd (by decide)) (fun k k1 k2 g e => own_ne (doc.kr k k1 k2) wd (by decide) g e), ?_, ?_, ht.ne, fun k k1 k2 g e => ?_, h.bw, h.br⟩, ?_, fun g hg => ?_⟩
  · rw [ints_snoc]; exact k2.own ht.on (own_ne ht.on wd (by decide))
  · rw [ints_snoc]; exact k2.own ht.om (own_ne ht.om wd (by decide))
  · have hl := ((h.doc.kr k k1 k2).lt g e).2
    have hk := h.kn k k1 k2 g e
    exact ⟨fun e' => by rcases ht.an g e' with e' | e' <;> first | exact hk.1 e' | omega, fun e' => by rcases ht.am g e' with e' | e' <;> first | exact hk.2 e' | omega⟩
  · exact k1.trans k2 (fun g e => .inl (.inl e))
  · rcases hg with e | e | e | e | e | e
    · exact .inl (.inl e)
    · exact .inl (.inr (.inl e))
    · exact .inl (.inr (.inr (.inl e)))
    · exact (ht.an g e).imp (fun e => .inr (.inr (.inr (.inl e)))) id
    · exact (ht.am g e).imp (fun e => .inr (.inr (.inr (.inr (.inl e))))) id
    · exact .inl (.inr (.inr (.inr (.inr (.inr e)))))
end

end Go.Proofs.Ytndbhcdiinpkkaa
