/- Several texts in one. -/
import Derived.Test.YtkkfhbcnfknmaaaGreatMn24
import Derived.Test.YtkkfhbcnfknmaaaGreatMn11
set_option linter.unusedSimpArgs false
namespace Go.Proofs.YtkkfhbcnfknmaaaGreat
set_option maxRecDepth 100000
set_option linter.unusedSimpArgs false
set_option linter.unusedVariables false
open Go.RowKit Go.Shelf
attribute [local go_sem] Oper.semAt_some
def EnB (l : List Pr) (i : Nat) (x y : Pr) (ok : Bool) : Prop := i = 0 ∧ ok = false ∧ x = pzero ∧ y = pzero ∨ 0 < i ∧ ok = true ∧ l[0]? = some x ∧ l[i - 1]? = some y
structure EB (w : World) (n5 za zb z7 z8 z9 : Nat) (x y ta tb : Pr) (ok : Bool) (W : World) : Prop where
  a : BC W za 48 (pcs ta)
  b : BC W zb 48 (pcs tb)
  p : BC W z7 48 (pcs x)
  q : BC W z8 48 (pcs y)
  ok : C1 W z9 4 (.bool ok)
  zs : w.heap.size ≤ za ∧ za < zb ∧ zb < z7 ∧ z7 < z8 ∧ z8 < z9 ∧ z9 < n5 ∧ n5 ≤ W.heap.size
  bel : Below w.heap.size w W
section
variable {w W W' : World} {n5 za zb z7 z8 z9 D : Nat} {x y ta tb : Pr} {ok : Bool}
theorem EB.kp {G : Nat → Prop} (h : EB w n5 za zb z7 z8 z9 x y ta tb ok W) (hk : Kp G W W') (hG : ∀ q, G q → n5 ≤ q) : EB w n5 za zb z7 z8 z9 x y ta tb ok W' := by
  obtain ⟨s1, s2, s3, s4, s5, s6, s7⟩ := h.zs
  have := hk.size
  exact ⟨h.a.kp hk (fun e => by have := hG _ e; omega), h.b.kp hk (fun e => by have := hG _ e; omega), h.p.kp hk (fun e => by have := hG _ e; omega), h.q.kp hk (fun e => by have := hG _ e; omega), h.ok.kp hk (fun e => by have := hG _ e; omega), ⟨s1, s2, s3, s4, s5, s6, by omega⟩, below_kp h.bel hk (fun q e => by have := hG q e; omega)⟩
theorem EB.below (h : EB w n5 za zb z7 z8 z9 x y ta tb ok W) (hb : Below W.heap.size W W') : EB w n5 za zb z7 z8 z9 x y ta tb ok W' := h.kp (Kp.of_below hb (fun _ => False)) (fun _ h => h.elim)
theorem EB.grown {row : Option Nat} (h : EB w n5 za zb z7 z8 z9 x y ta tb ok W) (hg : W.grownBy W' row) (hr : ∀ r, row = some r → n5 ≤ r) : EB w n5 za zb z7 z8 z9 x y ta tb ok W' := h.kp (Kp.of_grown hg (F := fun q => row = some q) (fun q e => .inl e)) hr
theorem EB.puta (h : EB w n5 za zb z7 z8 z9 x y ta tb ok W) : EB w n5 za zb z7 z8 z9 x y x tb ok (setP W za x) := by
  obtain ⟨s1, s2, s3, s4, s5, s6, s7⟩ := h.zs
  have kk := kp_setP W za x
  have := kk.size
  exact ⟨h.a.setP x, h.b.kp kk (fun e => by omega), h.p.kp kk (fun e => by omega), h.q.kp kk (fun e => by omega), h.ok.kp kk (fun e => by omega), ⟨s1, s2, s3, s4, s5, s6, by omega⟩, below_kp h.bel kk (fun q e => by omega)⟩
theorem EB.putb (h : EB w n5 za zb z7 z8 z9 x y ta tb ok W) : EB w n5 za zb z7 z8 z9 x y ta y ok (setP W zb y) := by
  obtain ⟨s1, s2, s3, s4, s5, s6, s7⟩ := h.zs
  have kk := kp_setP W zb y
  have := kk.size
  exact ⟨h.a.kp kk (fun e => by omega), h.b.setP y, h.p.kp kk (fun e => by omega), h.q.kp kk (fun e => by omega), h.ok.kp kk (fun e => by omega), ⟨s1, s2, s3, s4, s5, s6, by omega⟩, below_kp h.bel kk (fun q e => by omega)⟩
theorem EB.putp (h : EB w n5 za zb z7 z8 z9 x y ta tb ok W) (v : Pr) : EB w n5 za zb z7 z8 z9 v y ta tb ok (setP W z7 v) := by
  obtain ⟨s1, s2, s3, s4, s5, s6, s7⟩ := h.zs
  have kk := kp_setP W z7 v
  have := kk.size
  exact ⟨h.a.kp kk (fun e => by omega), h.b.kp kk (fun e => by omega), h.p.setP v, h.q.kp kk (fun e => by omega), h.ok.kp kk (fun e => by omega), ⟨s1, s2, s3, s4, s5, s6, by omega⟩, below_kp h.bel kk (fun q e => by omega)⟩
theorem EB.putq (h : EB w n5 za zb z7 z8 z9 x y ta tb ok W) (v : Pr) : EB w n5 za zb z7 z8 z9 x v ta tb ok (setP W z8 v) := by
  obtain ⟨s1, s2, s3, s4, s5, s6, s7⟩ := h.zs
  have kk := kp_setP W z8 v
  have := kk.size
  exact ⟨h.a.kp kk (fun e => by omega), h.b.kp kk (fun e => by omega), h.p.kp kk (fun e => by omega), h.q.setP v, h.ok.kp kk (fun e => by omega), ⟨s1, s2, s3, s4, s5, s6, by omega⟩, below_kp h.bel kk (fun q e => by omega)⟩
theorem EB.yes (h : EB w n5 za zb z7 z8 z9 x y ta tb ok W) : EB w n5 za zb z7 z8 z9 x y ta tb true (W.setCell ⟨z9, 0, none⟩ (.bool true)) := by
  obtain ⟨s1, s2, s3, s4, s5, s6, s7⟩ := h.zs
  have kk := Kp.one W z9 0 (.bool true)
  have := kk.size
  exact ⟨h.a.kp kk (fun e => by omega), h.b.kp kk (fun e => by omega), h.p.kp kk (fun e => by omega), h.q.kp kk (fun e => by omega), h.ok.set _, ⟨s1, s2, s3, s4, s5, s6, by omega⟩, below_kp h.bel kk (fun q e => by omega)⟩
theorem EB.keeps {b most n root : Nat} {M0 M : Cells} {F : Nat → Prop} (h : EB w n5 za zb z7 z8 z9 x y ta tb ok W) (ha : Ar W b most M F) (hF : ∀ q, F q → q < w.heap.size) (hn5 : n5 ≤ n) (kk : Kp (fun q => q = z7 ∨ q = z8 ∨ q = z9) W W') : K11 n b most M0 root W W' ∧ KeepsOthers W W' := by
  obtain ⟨s1, s2, s3, s4, s5, s6, s7⟩ := h.zs
  refine ⟨K11.of_kp ha kk (fun q e hf => by have := hF q hf; omega) (fun q cur t e hn _ => by omega), KeepsOthers.of_kp kk (fun q o e ho => ?_)⟩
  rcases e with rfl | rfl | rfl
  · have h1 : W.heap[q]? = some _ := h.p
    rw [ho] at h1
    rw [Option.some.inj h1]
    rfl
  · have h1 : W.heap[q]? = some _ := h.q
    rw [ho] at h1
    rw [Option.some.inj h1]
    rfl
  · have h1 : W.heap[q]? = some _ := h.ok
    rw [ho] at h1
    rw [Option.some.inj h1]
    rfl
theorem EB.turn {b most n root : Nat} {M0 M : Cells} {F : Nat → Prop} (h : EB w n5 za zb z7 z8 z9 x y ta tb ok W) (ha : Ar W b most M F) (hF : ∀ q, F q → q < w.heap.size) (hn5 : n5 ≤ n) (v : Pr) : EB w n5 za zb z7 z8 z9 x v ta tb ok (setP W z8 v) ∧ K11 n b most M0 root W (setP W z8 v) ∧ KeepsOthers W (setP W z8 v) :=
  ⟨h.putq v, h.keeps ha hF hn5 ((kp_setP W z8 v).mono (fun _ e _ => .inr (.inl e)))⟩
theorem EB.first {b most n root : Nat} {M0 M : Cells} {F : Nat → Prop} (h : EB w n5 za zb z7 z8 z9 x y ta tb ok W) (ha : Ar W b most M F) (hF : ∀ q, F q → q < w.heap.size) (hn5 : n5 ≤ n) (v : Pr) : EB w n5 za zb z7 z8 z9 v v ta tb true (setP ((setP W z7 v).setCell ⟨z9, 0, none⟩ (.bool true)) z8 v) ∧ K11 n b most M0 root W (setP ((setP W z7 v).setCell ⟨z9, 0, none⟩ (.bool true)) z8 v) ∧ KeepsOthers W (setP ((setP W z7 v).setCell ⟨z9, 0, none⟩ (.bool true)) z8 v) :=
  ⟨((h.putp v).yes).putq v, h.keeps ha hF hn5 ((((kp_setP W z7 v).mono (fun _ e _ => Or.inl e)).trans ((Kp.one _ z9 0 (.bool true)).mono (fun _ e _ => Or.inr (Or.inr e))) (fun _ => .inl)).trans ((kp_setP _ z8 v).mono (fun _ e _ => Or.inr (Or.inl e))) (fun _ => .inl))⟩
structure EBq (w : World) (n5 za zb z7 z8 z9 : Nat) (x y : Pr) (ok : Bool) (D : Nat) (W : World) : Prop where
  eb : ∃ ta tb, EB w n5 za zb z7 z8 z9 x y ta tb ok W
  def' : W.heap[D]? = some (.deferred (some []))
  dn : n5 ≤ D
theorem EBq.drew (h : EBq w n5 za zb z7 z8 z9 x y ok D W) : EBq w n5 za zb z7 z8 z9 x y ok D W.drew := by
  obtain ⟨ta, tb, he⟩ := h.eb
  exact ⟨⟨ta, tb, he.below (Below.refl _ W).drew⟩, h.def', h.dn⟩
theorem EBq.puta (h : EBq w n5 za zb z7 z8 z9 x y ok D W) : EBq w n5 za zb z7 z8 z9 x y ok D (setP W za x) := by
  obtain ⟨ta, tb, he⟩ := h.eb
  have hz := he.zs
  have hd := h.dn
  exact ⟨⟨_, _, he.puta⟩, ((kp_setP W za x).block D (Array.getElem?_eq_some_iff.1 h.def').1 (fun e => by omega)).trans h.def', hd⟩
theorem EBq.putb (h : EBq w n5 za zb z7 z8 z9 x y ok D W) : EBq w n5 za zb z7 z8 z9 x y ok D (setP W zb y) := by
  obtain ⟨ta, tb, he⟩ := h.eb
  have hz := he.zs
  have hd := h.dn
  exact ⟨⟨_, _, he.putb⟩, ((kp_setP W zb y).block D (Array.getElem?_eq_some_iff.1 h.def').1 (fun e => by omega)).trans h.def', hd⟩
end
def EnI (w : World) (n5 za zb z7 z8 z9 : Nat) (l : List Pr) (i : Nat) (W : World) : Prop := ∃ x y ok, EB w n5 za zb z7 z8 z9 x y pzero pzero ok W ∧ EnB l i x y ok
structure EndsP (l : List Pr) (w : World) (e : Ending) (w' : World) : Prop where
  has : ∃ (x y : Pr) (ok : Bool), e = .returned (.tuple #[pagg x, pagg y, .bool ok]) ∧ EnB l l.length x y ok
  bel : Below w.heap.size w w'
section
variable {b bh most root N : Nat} {M : Cells} {F : Nat → Prop} {l : List Pr}
set_option maxHeartbeats 4000000 in
theorem rEnds (N root : Nat) (w : World) (ha : Ar w b most M F) (hT : TT M root l) (hl : l.length ≤ 2000) :
    Calls Tryz.prog 55 #[land b bh, .agg #[.int .i64 (N : Nat), .int .i64 (root : Nat)]] w (EndsP l w) := by
  obtain ⟨W0, hW0⟩ : ∃ W0, W0 = (((((((w.alloc (.cells #[ap b, .pointer (some ⟨bh, 0, none⟩)] 26)).alloc (.cells #[.int .i64 (N : Int), .int .i64 (root : Int)] 72)).alloc (.cells #[.int .u8 0, .int .i64 0, .string ⟨#[]⟩, .int .u8 0, .int .i64 0, .string ⟨#[]⟩] 48)).alloc (.cells #[.int .u8 0, .int .i64 0, .string ⟨#[]⟩, .int .u8 0, .int .i64 0, .string ⟨#[]⟩] 48)).alloc (.cells #[.int .u8 0, .int .i64 0, .string ⟨#[]⟩, .int .u8 0, .int .i64 0, .string ⟨#[]⟩] 48)).alloc (.cells #[.int .u8 0, .int .i64 0, .string ⟨#[]⟩, .int .u8 0, .int .i64 0, .string ⟨#[]⟩] 48)).alloc (.cells #[.bool false] 4)) := ⟨_, rfl⟩
  have hsz : W0.heap.size = w.heap.size + 1 + 1 + 1 + 1 + 1 + 1 + 1 := by rw [hW0]; simp
  have hb0 : Below w.heap.size w W0 := by rw [hW0]; exact (((((((Below.refl _ w).alloc (Nat.le_refl _) _).alloc (by simp) _).alloc (by simp; omega) _).alloc (by simp; omega) _).alloc (by simp; omega) _).alloc (by simp; omega) _).alloc (by simp; omega) _
  have q0 : C2 W0 (w.heap.size) 26 (ap b) (.pointer (some ⟨bh, 0, none⟩)) := by
    have h := ((((((C2.new w 26 (ap b) (.pointer (some ⟨bh, 0, none⟩))).alloc (.cells #[.int .i64 (N : Int), .int .i64 (root : Int)] 72)).alloc (.cells #[.int .u8 0, .int .i64 0, .string ⟨#[]⟩, .int .u8 0, .int .i64 0, .string ⟨#[]⟩] 48)).alloc (.cells #[.int .u8 0, .int .i64 0, .string ⟨#[]⟩, .int .u8 0, .int .i64 0, .string ⟨#[]⟩] 48)).alloc (.cells #[.int .u8 0, .int .i64 0, .string ⟨#[]⟩, .int .u8 0, .int .i64 0, .string ⟨#[]⟩] 48)).alloc (.cells #[.int .u8 0, .int .i64 0, .string ⟨#[]⟩, .int .u8 0, .int .i64 0, .string ⟨#[]⟩] 48)).alloc (.cells #[.bool false] 4)
    rw [hW0]
    simpa using h
  have q1 : C2 W0 (w.heap.size + 1) 72 (.int .i64 (N : Int)) (.int .i64 (root : Int)) := by
    have h := (((((C2.new (w.alloc (.cells #[ap b, .pointer (some ⟨bh, 0, none⟩)] 26)) 72 (.int .i64 (N : Int)) (.int .i64 (root : Int))).alloc (.cells #[.int .u8 0, .int .i64 0, .string ⟨#[]⟩, .int .u8 0, .int .i64 0, .string ⟨#[]⟩] 48)).alloc (.cells #[.int .u8 0, .int .i64 0, .string ⟨#[]⟩, .int .u8 0, .int .i64 0, .string ⟨#[]⟩] 48)).alloc (.cells #[.int .u8 0, .int .i64 0, .string ⟨#[]⟩, .int .u8 0, .int .i64 0, .string ⟨#[]⟩] 48)).alloc (.cells #[.int .u8 0, .int .i64 0, .string ⟨#[]⟩, .int .u8 0, .int .i64 0, .string ⟨#[]⟩] 48)).alloc (.cells #[.bool false] 4)
    rw [hW0]
    simpa using h
  have q2 : BC W0 (w.heap.size + 1 + 1) 48 #[.int .u8 0, .int .i64 0, .string ⟨#[]⟩, .int .u8 0, .int .i64 0, .string ⟨#[]⟩] := by
    have h := ((((BC.new ((w.alloc (.cells #[ap b, .pointer (some ⟨bh, 0, none⟩)] 26)).alloc (.cells #[.int .i64 (N : Int), .int .i64 (root : Int)] 72)) 48 #[.int .u8 0, .int .i64 0, .string ⟨#[]⟩, .int .u8 0, .int .i64 0, .string ⟨#[]⟩]).alloc (.cells #[.int .u8 0, .int .i64 0, .string ⟨#[]⟩, .int .u8 0, .int .i64 0, .string ⟨#[]⟩] 48)).alloc (.cells #[.int .u8 0, .int .i64 0, .string ⟨#[]⟩, .int .u8 0, .int .i64 0, .string ⟨#[]⟩] 48)).alloc (.cells #[.int .u8 0, .int .i64 0, .string ⟨#[]⟩, .int .u8 0, .int .i64 0, .string ⟨#[]⟩] 48)).alloc (.cells #[.bool false] 4)
    rw [hW0]
    simpa using h
  have q3 : BC W0 (w.heap.size + 1 + 1 + 1) 48 #[.int .u8 0, .int .i64 0, .string ⟨#[]⟩, .int .u8 0, .int .i64 0, .string ⟨#[]⟩] := by
    have h := (((BC.new (((w.alloc (.cells #[ap b, .pointer (some ⟨bh, 0, none⟩)] 26)).alloc (.cells #[.int .i64 (N : Int), .int .i64 (root : Int)] 72)).alloc (.cells #[.int .u8 0, .int .i64 0, .string ⟨#[]⟩, .int .u8 0, .int .i64 0, .string ⟨#[]⟩] 48)) 48 #[.int .u8 0, .int .i64 0, .string ⟨#[]⟩, .int .u8 0, .int .i64 0, .string ⟨#[]⟩]).alloc (.cells #[.int .u8 0, .int .i64 0, .string ⟨#[]⟩, .int .u8 0, .int .i64 0, .string ⟨#[]⟩] 48)).alloc (.cells #[.int .u8 0, .int .i64 0, .string ⟨#[]⟩, .int .u8 0, .int .i64 0, .string ⟨#[]⟩] 48)).alloc (.cells #[.bool false] 4)
    rw [hW0]
    simpa using h
  have q4 : BC W0 (w.heap.size + 1 + 1 + 1 + 1) 48 #[.int .u8 0, .int .i64 0, .string ⟨#[]⟩, .int .u8 0, .int .i64 0, .string ⟨#[]⟩] := by
    have h := ((BC.new ((((w.alloc (.cells #[ap b, .pointer (some ⟨bh, 0, none⟩)] 26)).alloc (.cells #[.int .i64 (N : Int), .int .i64 (root : Int)] 72)).alloc (.cells #[.int .u8 0, .int .i64 0, .string ⟨#[]⟩, .int .u8 0, .int .i64 0, .string ⟨#[]⟩] 48)).alloc (.cells #[.int .u8 0, .int .i64 0, .string ⟨#[]⟩, .int .u8 0, .int .i64 0, .string ⟨#[]⟩] 48)) 48 #[.int .u8 0, .int .i64 0, .string ⟨#[]⟩, .int .u8 0, .int .i64 0, .string ⟨#[]⟩]).alloc (.cells #[.int .u8 0, .int .i64 0, .string ⟨#[]⟩, .int .u8 0, .int .i64 0, .string ⟨#[]⟩] 48)).alloc (.cells #[.bool false] 4)
    rw [hW0]
    simpa using h
  have q5 : BC W0 (w.heap.size + 1 + 1 + 1 + 1 + 1) 48 #[.int .u8 0, .int .i64 0, .string ⟨#[]⟩, .int .u8 0, .int .i64 0, .string ⟨#[]⟩] := by
    have h := (BC.new (((((w.alloc (.cells #[ap b, .pointer (some ⟨bh, 0, none⟩)] 26)).alloc (.cells #[.int .i64 (N : Int), .int .i64 (root : Int)] 72)).alloc (.cells #[.int .u8 0, .int .i64 0, .string ⟨#[]⟩, .int .u8 0, .int .i64 0, .string ⟨#[]⟩] 48)).alloc (.cells #[.int .u8 0, .int .i64 0, .string ⟨#[]⟩, .int .u8 0, .int .i64 0, .string ⟨#[]⟩] 48)).alloc (.cells #[.int .u8 0, .int .i64 0, .string ⟨#[]⟩, .int .u8 0, .int .i64 0, .string ⟨#[]⟩] 48)) 48 #[.int .u8 0, .int .i64 0, .string ⟨#[]⟩, .int .u8 0, .int .i64 0, .string ⟨#[]⟩]).alloc (.cells #[.bool false] 4)
    rw [hW0]
    simpa using h
  have q6 : C1 W0 (w.heap.size + 1 + 1 + 1 + 1 + 1 + 1) 4 (.bool false) := by
    have h := C1.new ((((((w.alloc (.cells #[ap b, .pointer (some ⟨bh, 0, none⟩)] 26)).alloc (.cells #[.int .i64 (N : Int), .int .i64 (root : Int)] 72)).alloc (.cells #[.int .u8 0, .int .i64 0, .string ⟨#[]⟩, .int .u8 0, .int .i64 0, .string ⟨#[]⟩] 48)).alloc (.cells #[.int .u8 0, .int .i64 0, .string ⟨#[]⟩, .int .u8 0, .int .i64 0, .string ⟨#[]⟩] 48)).alloc (.cells #[.int .u8 0, .int .i64 0, .string ⟨#[]⟩, .int .u8 0, .int .i64 0, .string ⟨#[]⟩] 48)).alloc (.cells #[.int .u8 0, .int .i64 0, .string ⟨#[]⟩, .int .u8 0, .int .i64 0, .string ⟨#[]⟩] 48)) 4 (.bool false)
    rw [hW0]
    simpa using h
  obtain ⟨z3, hz3⟩ : ∃ z, z = w.heap.size := ⟨_, rfl⟩
  obtain ⟨z4, hz4⟩ : ∃ z, z = w.heap.size + 1 := ⟨_, rfl⟩
  obtain ⟨za, hza⟩ : ∃ z, z = w.heap.size + 1 + 1 := ⟨_, rfl⟩
  obtain ⟨zb, hzb⟩ : ∃ z, z = w.heap.size + 1 + 1 + 1 := ⟨_, rfl⟩
  obtain ⟨z7, hz7⟩ : ∃ z, z = w.heap.size + 1 + 1 + 1 + 1 := ⟨_, rfl⟩
  obtain ⟨z8, hz8⟩ : ∃ z, z = w.heap.size + 1 + 1 + 1 + 1 + 1 := ⟨_, rfl⟩
  obtain ⟨z9, hz9⟩ : ∃ z, z = w.heap.size + 1 + 1 + 1 + 1 + 1 + 1 := ⟨_, rfl⟩
  have HW0 := Lib.hid hW0
  have HZZ := Lib.hid (And.intro hz3 (And.intro hz4 (And.intro hza (And.intro hzb (And.intro hz7 (And.intro hz8 hz9))))))
  have HBI := Lib.hid (show EB w W0.heap.size za zb z7 z8 z9 pzero pzero pzero pzero false W0 by rw [hza, hzb, hz7, hz8, hz9]; exact ⟨q2, q3, q4, q5, q6, by omega, hb0⟩)
  have HA := Lib.hid (And.intro ha (And.intro hT (And.intro hl (show ∀ q, F q → q < w.heap.size from fun q hq => ha.lt hq))))
  rw [← hz3] at q0
  rw [← hz4] at q1
  obtain ⟨a0, a1, _⟩ := q0.all
  obtain ⟨c0, c1, _⟩ := q1.all
  clear hW0 hsz hb0 q0 q1 q2 q3 q4 q5 q6 ha hT hl hz3 hz4 hza hzb hz7 hz8 hz9
  refine (callsIn_wide (n := 3)).1 ?_
  refine callsIn_of_wp_marks Tryz.func55 rfl trivial ?_ rfl
  refine wpIn_wide.2 ?_
  simp only [Tryz.ntmps55, List.size_toArray, List.length_cons, List.length_nil, Nat.reduceAdd, Nat.reduceSub, Array.replicate_succ, Array.replicate_zero, List.push_toArray, List.append_toArray, List.nil_append, List.cons_append]
  go_upto_region 3 with fail
  rw [← HW0.out]
  clear HW0
  obtain ⟨e1, e2, e3, e4, e5, e6, e7⟩ := HZZ.out
  rw [← e7, ← e6, ← e5, ← e4, ← e3, ← e2, ← e1]
  clear e1 e2 e3 e4 e5 e6 e7 HZZ
  go_wp2_with fail
  refine (tPairs b bh N root W0).mono ?_
  rintro e w3 ⟨zl, zm, rfl, ql, qm, _, _, hb3⟩
  have hbi := HBI.out.below hb3
  obtain ⟨n5, hn5⟩ : ∃ n5, n5 = W0.heap.size := ⟨_, rfl⟩
  rw [← hn5] at hbi
  have HG := Lib.hid (pairs_gives11 (b := b) (bh := bh) (most := most) (root := root) (N := N) (M0 := M) (l := l) zl zm w3 HA.out.1.zero HA.out.2.1 ⟨M, F, HA.out.1.below hbi.bel, Pres.refl M root⟩ ql qm)
  have H3 := Lib.hid (show n5 ≤ w3.heap.size from hbi.zs.2.2.2.2.2.2)
  have HI := Lib.hid hbi
  clear ql qm hb3 hbi HBI hn5 a0 a1 c0 c1
  go_wp2_with fail
  refine wp_range9 (encs := fun p : Pr => #[pagg p]) (first := #[]) (last := #[.pointer (some ⟨zl, 0, none⟩), .pointer (some ⟨zm, 0, none⟩)]) (f := 94) rfl (fun _ _ => rfl) (fun _ => rfl) HG.out (fun h1 h2 => h1.trans h2) (fun W l o o' _ ho hc _ => K11.putObj ho hc)
    (fun i W' => EnI w n5 za zb z7 z8 z9 l i W') (fun c i W' => False ∧ EnI w n5 za zb z7 z8 z9 l i W') ?_ ?_ ⟨_, _, _, HI.out, .inl ⟨rfl, rfl, rfl, rfl⟩⟩ (fun A B hb => K11.below hb) ?_ ?_ ?_
  · rintro i A B row ⟨x, y, ok, h1, h3⟩ hg hr
    exact ⟨x, y, ok, h1.grown hg (fun r hr' => Nat.le_trans H3.out (hr r hr').1), h3⟩
  · rintro c i A B row ⟨h0, _⟩ hg hr
    exact h0.elim
  · intro lp i x W4 hx hI hsz
    have HX4 := Lib.hid hx
    obtain ⟨r, y, ok, hpb, hfl⟩ := hI
    have HF4 := Lib.hid hfl
    have I4 := Lib.hid hpb
    clear hx hpb hfl HG HI
    gi_wp2
    have hbA : Below W4.heap.size W4 (W4.alloc (.cells #[.int .u8 x.1.1, .int .i64 x.1.2.1, .string x.1.2.2, .int .u8 x.2.1, .int .i64 x.2.2.1, .string x.2.2.2] 48)) := (Below.refl _ W4).alloc (Nat.le_refl _) _
    refine ⟨hbA, fun j W' => EB w n5 za zb z7 z8 z9 r y pzero pzero ok W' ∧ C6 W' W4.heap.size 48 (.int .u8 x.1.1) (.int .i64 x.1.2.1) (.string x.1.2.2) (.int .u8 x.2.1) (.int .i64 x.2.2.1) (.string x.2.2.2), fun j A B row h hg hr => ⟨h.1.grown hg (fun r hr' => Nat.le_trans H3.out (hr r hr').1), h.2.own hg (fun r hr' => (hr r hr').2)⟩, ⟨I4.out.below hbA, C6.new _ _ _ _ _ _ _ _⟩, fun W5 hJ hs5 => ?_⟩
    obtain ⟨bi, p6⟩ := hJ
    have hne : ∀ q, q < n5 → ¬ W4.heap.size = q := fun q hq e => by have := I4.out.zs; omega
    have hn7 := hne z7 (by have := bi.zs; omega)
    have hn8 := hne z8 (by have := bi.zs; omega)
    have hn9 := hne z9 (by have := bi.zs; omega)
    have S5 := Lib.hid bi
    have FIN0 := Lib.hid (bi.turn (root := root) (M0 := M) (HA.out.1.below bi.bel) HA.out.2.2.2 H3.out x)
    have FIN1 := Lib.hid (bi.first (root := root) (M0 := M) (HA.out.1.below bi.bel) HA.out.2.2.2 H3.out x)
    have m0 := p6.c0
    have m1 := p6.c1
    have m2 := p6.c2
    have m3 := p6.c3
    have m4 := p6.c4
    have m5 := p6.c5
    obtain ⟨y0, y1⟩ := bi.ok.all
    obtain ⟨d0, d1, d2, d3, d4, d5⟩ := bi.p.pair
    obtain ⟨u0, u1, u2, u3, u4, u5⟩ := bi.q.pair
    have f0 := bi.p.fz 0
    have f1 := bi.p.fz 1
    have f2 := bi.p.fz 2
    have f3 := bi.p.fz 3
    have f4 := bi.p.fz 4
    have f5 := bi.p.fz 5
    have g0 := bi.q.fz 0
    have g1 := bi.q.fz 1
    have g2 := bi.q.fz 2
    have g3 := bi.q.fz 3
    have g4 := bi.q.fz 4
    have g5 := bi.q.fz 5
    have n97 : ¬ z9 = z7 := fun e => by have := bi.zs; omega
    have n87 : ¬ z8 = z7 := fun e => by have := bi.zs; omega
    have n89 : ¬ z8 = z9 := fun e => by have := bi.zs; omega
    clear bi p6 I4 hs5 hbA hne
    cases ok with
    | true =>
      gi_wp2
      refine ⟨FIN0.out.2.2, FIN0.out.2.1, r, x, true, FIN0.out.1, .inr ⟨by omega, rfl, ?_, by rw [Nat.add_sub_cancel]; exact HX4.out⟩⟩
      rcases HF4.out with ⟨_, h, _⟩ | ⟨_, _, h, _⟩
      · cases h
      · exact h
    | false =>
      gi_wp2
      refine ⟨FIN1.out.2.2, FIN1.out.2.1, x, x, true, FIN1.out.1, .inr ⟨by omega, rfl, ?_, by rw [Nat.add_sub_cancel]; exact HX4.out⟩⟩
      rcases HF4.out with ⟨rfl, _⟩ | ⟨_, h, _⟩
      · exact HX4.out
      · cases h
  · rintro D W10 hD ⟨x, y, ok, hpb, hfl⟩ hdef
    have HFL := Lib.hid hfl
    have HS0 : EBq w n5 za zb z7 z8 z9 x y ok D W10 := ⟨⟨_, _, hpb⟩, hdef, by have := H3.out; omega⟩
    clear hpb hfl hdef HG HI
    go_wp2_with fail
    have l7 : ∀ W', EBq w n5 za zb z7 z8 z9 x y ok D W' → W'.cell? ⟨z7, 0, none⟩ = some (.int .u8 x.1.1) ∧ W'.cell? ⟨z7, 1, none⟩ = some (.int .i64 x.1.2.1) ∧ W'.cell? ⟨z7, 2, none⟩ = some (.string x.1.2.2) ∧ W'.cell? ⟨z7, 3, none⟩ = some (.int .u8 x.2.1) ∧ W'.cell? ⟨z7, 4, none⟩ = some (.int .i64 x.2.2.1) ∧ W'.cell? ⟨z7, 5, none⟩ = some (.string x.2.2.2) := fun W' h => by obtain ⟨_, _, h⟩ := h.eb; exact h.p.pair
    have l8 : ∀ W', EBq w n5 za zb z7 z8 z9 x y ok D W' → W'.cell? ⟨z8, 0, none⟩ = some (.int .u8 y.1.1) ∧ W'.cell? ⟨z8, 1, none⟩ = some (.int .i64 y.1.2.1) ∧ W'.cell? ⟨z8, 2, none⟩ = some (.string y.1.2.2) ∧ W'.cell? ⟨z8, 3, none⟩ = some (.int .u8 y.2.1) ∧ W'.cell? ⟨z8, 4, none⟩ = some (.int .i64 y.2.2.1) ∧ W'.cell? ⟨z8, 5, none⟩ = some (.string y.2.2.2) := fun W' h => by obtain ⟨_, _, h⟩ := h.eb; exact h.q.pair
    have l9 : ∀ W', EBq w n5 za zb z7 z8 z9 x y ok D W' → W'.cell? ⟨z9, 0, none⟩ = some (.bool ok) := fun W' h => by obtain ⟨_, _, h⟩ := h.eb; exact h.ok.c0
    refine wp_region_noPanic ?_
    refine wp_region_held_drew (S := fun W' => EBq w n5 za zb z7 z8 z9 x y ok D W') (by kernel_rfl) HS0.drew (fun hH => ?_)
    generalize W10.drew = Wc at hH ⊢
    clear HS0
    refine tkH ?_ 0 hH ?_ ?_; rotate_left
    · intro W' hS; go_simp; with_reducible rfl
    simp only [tkr]
    refine tkH ?_ 1 hH ?_ ?_; rotate_left
    · intro W' hS; go_simp; with_reducible rfl
    simp only [tkr]
    refine tkH ?_ 2 hH ?_ ?_; rotate_left
    · intro W' hS; go_simp; with_reducible rfl
    simp only [tkr]
    refine rdH 3 rfl (fun K hK => ?_)
    obtain ⟨ta, tb, hE⟩ := hH.eb
    have HQ := Lib.hid (And.intro hE.puta (hE.puta.putb))
    have HD := Lib.hid (And.intro hH.puta (hH.puta.putb))
    obtain ⟨d0, d1, d2, d3, d4, d5⟩ := hE.a.pair
    obtain ⟨u0, u1, u2, u3, u4, u5⟩ := hE.b.pair
    have f0 := hE.a.fz 0
    have f1 := hE.a.fz 1
    have f2 := hE.a.fz 2
    have f3 := hE.a.fz 3
    have f4 := hE.a.fz 4
    have f5 := hE.a.fz 5
    have g0 := hE.b.fz 0
    have g1 := hE.b.fz 1
    have g2 := hE.b.fz 2
    have g3 := hE.b.fz 3
    have g4 := hE.b.fz 4
    have g5 := hE.b.fz 5
    have nba : ¬ zb = za := fun e => by have := hE.zs; omega
    clear hE
    go_simp
    refine hK.out _ _ HD.out.1 (fun hH => ?_)
    clear d0 d1 d2 d3 d4 d5 f0 f1 f2 f3 f4 f5 hK K
    refine rdH 4 rfl (fun K hK => ?_)
    go_simp
    refine hK.out _ _ HD.out.2 (fun hH => ?_)
    clear u0 u1 u2 u3 u4 u5 g0 g1 g2 g3 g4 g5 hK K
    refine tkH ?_ 5 hH ?_ ?_; rotate_left
    · intro W' hS; go_simp; with_reducible rfl
    simp only [tkr]
    refine wpAnyH_done (by kernel_rfl) ?_ _
    clear hH l7 l8 l9
    change NoPanic _ _ _ (setP (setP Wc za x) zb y)
    obtain ⟨_, hE⟩ := HQ.out
    obtain ⟨_, hH⟩ := HD.out
    clear HQ HD
    generalize setP (setP Wc za x) zb y = Wn at hH hE ⊢
    refine NoPanic.normal ?_
    have P := hE.kp (kp_putObj (x := D) (o := .deferred none)) (fun q e => by have := hH.dn; omega)
    have HD := hH.def'
    have HFo := HFL.out
    clear hE hH HFL
    obtain ⟨g0, g1, g2, g3, g4, g5⟩ := P.a.pair
    obtain ⟨h0, h1, h2, h3, h4, h5⟩ := P.b.pair
    go_wp2_with fail
    refine ⟨by simp, .inl ⟨_, _, rfl, run_takeDeferred HD, ?_⟩⟩
    exact ⟨.tuple #[pagg x, pagg y, .bool ok], by simp [results, Tryz.results55, go_sem, g0, g1, g2, g3, g4, g5, h0, h1, h2, h3, h4, h5], ⟨x, y, ok, rfl, HFo⟩, P.bel⟩
  · rintro D c i W10 hD hi ⟨h0, _⟩ hdef
    exact h0.elim
end
end Go.Proofs.YtkkfhbcnfknmaaaGreat
