/- Several texts in one. -/
import Derived.Test.YtfiledbjbpkleaaGreatMs26
import Derived.Test.YtfiledbjbpkleaaGreatMs24
namespace Go.Proofs.YtfiledbjbpkleaaGreat
set_option maxRecDepth 100000
set_option linter.unusedSimpArgs false
set_option linter.unusedVariables false
open Go.RowKit
set_option maxHeartbeats 1600000 in
theorem lof9 (k : Ky) (w : World) : Calls Tryz.prog 27 #[vv k.1 k.2.1 k.2.2] w fun e w' => e = .returned (vv k.1 k.2.1 k.2.2) ∧ Below w.heap.size w w' := by
  go_enter Tryz.func27, Tryz.ntmps27
  go_wp2_with fail
  refine bodyPost_ret (v := vv k.1 k.2.1 k.2.2) (by simp [results, Tryz.results27, go_sem, vv]) rfl ⟨rfl, ?_⟩
  exact ((Below.refl _ w).alloc (Nat.le_refl _) _).alloc (by simp) _
structure Md (w : World) (b bh seed : Nat) (hs : Ky → Nat) (j root : Nat) (M : Cells) (F : Nat → Prop) (L L0 : List Pr) (v : Value) (W : World) : Prop where
  ar : Ar W b 16384 M F
  hh : Hs W bh seed
  nb : ¬ F bh
  bel : Below w.heap.size w W
  fr : ∀ q, F q → w.heap.size ≤ q
  lo : w.heap.size ≤ bh
  bk : Bk (16384 + 1) M [] (fun _ => 0) [root]
  mp : Mp M hs root L
  live : live (16384 + 1) M ≤ 16 * j
  len : L.length ≤ j
  keys : ∀ q ∈ L, KOk hs seed q.1
  own : W.ownsRow w.heap.size 63 6 v L0.length (L0.flatMap pcells)
  far : ∀ q, v.ownBlock = some q → ¬ F q ∧ q ≠ bh
abbrev Ap (w : World) (bh : Nat) (F : Nat → Prop) (z : Nat) (W : World) : Prop := w.heap.size ≤ z ∧ ¬ F z ∧ z ≠ bh ∧ z < W.heap.size
section
variable {w W W' : World} {b bh seed j root : Nat} {hs : Ky → Nat} {M M' : Cells} {F : Nat → Prop} {L L0 : List Pr} {v : Value}
theorem Md.below (h : Md w b bh seed hs j root M F L L0 v W) (hb : Below W.heap.size W W') : Md w b bh seed hs j root M F L L0 v W' :=
  ⟨h.ar.below hb, h.hh.below hb, h.nb, h.bel.trans (hb.mono h.bel.size), h.fr, h.lo, h.bk, h.mp, h.live, h.len, h.keys, (Kp.of_below hb (fun _ => False)).own h.own (fun _ _ h => h), h.far⟩
theorem Md.kp {G : Nat → Prop} (h : Md w b bh seed hs j root M F L L0 v W) (hk : Kp G W W') (hG : ∀ q, G q → w.heap.size ≤ q ∧ ¬ F q ∧ q ≠ bh ∧ v.ownBlock ≠ some q) : Md w b bh seed hs j root M F L L0 v W' :=
  ⟨h.ar.kp hk (fun q hf hg => (hG q hg).2.1 hf), h.hh.kp hk (fun hg => (hG _ hg).2.2.1 rfl), h.nb, below_kp h.bel hk (fun q hg => (hG q hg).1), h.fr, h.lo, h.bk, h.mp, h.live, h.len, h.keys, hk.own h.own (fun q hq hg => (hG q hg).2.2.2 hq), h.far⟩
theorem Md.hash (h : Md w b bh seed hs j root M F L L0 v W) (hk : Kp (fun q => q = bh) W W') (hh : Hs W' bh seed) : Md w b bh seed hs j root M F L L0 v W' :=
  ⟨h.ar.kp hk (fun q hf hg => h.nb (hg ▸ hf)), hh, h.nb, below_kp h.bel hk (fun q hg => by rw [hg]; exact h.lo), h.fr, h.lo, h.bk, h.mp, h.live, h.len, h.keys, hk.own h.own (fun q hq hg => (h.far q hq).2 hg), h.far⟩
theorem Md.two {t : TypeId} {x0 x1 : Value} {z : Nat} (h : Md w b bh seed hs j root M F L L0 v W) (hc : C2 W z t x0 x1) (ht : 63 ≠ t) : v.ownBlock ≠ some z := fun ho => own_ne h.own hc ht _ ho rfl
theorem Md.ap {z : Nat} (h : Md w b bh seed hs j root M F L L0 v W) (hz : z = W.heap.size) (hW : z < W'.heap.size) : Ap w bh F z W' := by
  have h1 := h.bel.size
  have h2 := h.hh.lt
  exact ⟨by omega, fun hf => by have := h.ar.lt hf; omega, by omega, hW⟩
theorem Ap.size {z : Nat} (h : Ap w bh F z W) (hs : W.heap.size ≤ W'.heap.size) : Ap w bh F z W' := ⟨h.1, h.2.1, h.2.2.1, by have := h.2.2.2; omega⟩
theorem Ap.put {z : Nat} (h : Ap w bh F z W) (hs : W.heap.size ≤ W'.heap.size) : Ap w bh (Fn F W W') z W' := ⟨h.1, fun hf => hf.elim h.2.1 (fun e => by have := h.2.2.2; omega), h.2.2.1, by have := h.2.2.2; omega⟩
theorem Md.put (h : Md w b bh seed hs j root M F L L0 v W) (hj : j ≤ 200) (hhs : ∀ q, OkK q → hs q = hashN seed q.1 q.2.1 q.2.2) (k x : Ky) (hk : OkK k) :
    Calls Tryz.prog 17 #[land b bh, .agg #[.int .i64 (L.length : Int), .int .i64 (root : Int)], xagg k, xagg x, .int .u32 1] W fun e W' => ∃ (n' : Nat) (M' : Cells), e = .returned (.tuple #[.agg #[.int .i64 ((putL hs (k, x) L).length : Int), .int .i64 (n' : Int)], .int .i64 0]) ∧ Md w b bh seed hs (j + 1) n' M' (Fn F W W') (putL hs (k, x) L) L0 v W' ∧ Kp (fun q => F q ∨ q = bh) W W' := by
  have hl := h.len
  refine (vPut b bh seed root k x 1 (fun _ => 0) W h.ar (by decide) h.bk (fun _ => Nat.zero_le _) h.mp h.hh h.nb hhs (fun q hq => (h.keys q hq).1) hk (by omega)).mono ?_
  rintro e W' (⟨_, _, hlong, _⟩ | ⟨_, hfull, _⟩ | ⟨n, M', rfl, _, _, hm, hst⟩)
  · exact absurd hlong (by unfold Long; omega)
  · have := h.live; omega
  · have s1 := h.bel.size
    have s2 := hst.kp.size
    have hbl := h.hh.lt
    have hkp : Kp (fun q => F q ∨ q = bh) W W' := hst.kp
    refine ⟨n, M', rfl, ⟨hst.ar, hst.hh, fun hf => hf.elim h.nb (fun e => by omega), below_kp h.bel hst.kp (fun q hq => hq.elim (h.fr q) (fun e => by rw [e]; exact h.lo)), fun q hf => hf.elim (h.fr q) (fun e => Nat.le_trans s1 e.1), h.lo, hm.bk, hm.mp, by have := hm.live; have := h.live; omega, ?_, fun q hq => ?_, hkp.own h.own (fun q hq hf => hf.elim (h.far q hq).1 (h.far q hq).2), fun q hq => ?_⟩, hkp⟩
    · have h1 := putL_length (p := (k, x)) h.mp.srt
      rw [h1]
      split <;> omega
    · rcases ((putL_spec h.mp.srt).2 q).1 hq with rfl | ⟨h1, _⟩
      · exact ⟨hk, hhs _ hk⟩
      · exact h.keys q h1
    · have h1 := own_blk h.own q hq
      exact ⟨fun hf => hf.elim (h.far q hq).1 (fun e => by omega), (h.far q hq).2⟩
theorem Md.next {L1 : List Pr} {y : Value} (h : Md w b bh seed hs j root M F L L0 v W) (hown : W'.ownsRow W.heap.size 63 6 y L1.length (L1.flatMap pcells)) (hb : Below W.heap.size W W') : Md w b bh seed hs j root M F L L1 y W' := by
  have h1 := h.below hb
  have s1 := h.bel.size
  exact ⟨h1.ar, h1.hh, h1.nb, h1.bel, h1.fr, h1.lo, h1.bk, h1.mp, h1.live, h1.len, h1.keys, own_base hown s1, fun q hq => by
    have h2 := (own_blk hown q hq).1
    have h3 := h.hh.lt
    exact ⟨fun hf => by have := h.ar.lt hf; omega, by omega⟩⟩
end
theorem Kp.two (W : World) (z : Nat) (y0 y1 : Value) : Kp (fun q => q = z) W ((W.setCell ⟨z, 0, none⟩ y0).setCell ⟨z, 1, none⟩ y1) :=
  ((Kp.refl (fun q => q = z) W).setCell (.inl rfl) y0).setCell (.inl rfl) y1
structure Mx (w : World) (b bh z4 z5 z10 z11 N root : Nat) (F : Nat → Prop) (W : World) : Prop where
  c4 : C2 W z4 26 (.pointer none) (.pointer none)
  c5 : C2 W z5 30 (.int .i64 0) (.int .i64 0)
  cl : C2 W z10 26 (ap b) (.pointer (some ⟨bh, 0, none⟩))
  cm : C2 W z11 30 (.int .i64 (N : Int)) (.int .i64 (root : Int))
  a4 : Ap w bh F z4 W
  a5 : Ap w bh F z5 W
  al : Ap w bh F z10 W
  am : Ap w bh F z11 W
  ne : z4 < z5 ∧ z5 < z10 ∧ z10 < z11
section
variable {w W W' : World} {b bh z4 z5 z10 z11 N root : Nat} {F : Nat → Prop}
theorem Mx.kp {G : Nat → Prop} (h : Mx w b bh z4 z5 z10 z11 N root F W) (hk : Kp G W W') (hG : ∀ q, G q → q ≠ z4 ∧ q ≠ z5 ∧ q ≠ z10 ∧ q ≠ z11) : Mx w b bh z4 z5 z10 z11 N root F W' :=
  ⟨h.c4.kp hk (fun hg => (hG _ hg).1 rfl), h.c5.kp hk (fun hg => (hG _ hg).2.1 rfl), h.cl.kp hk (fun hg => (hG _ hg).2.2.1 rfl), h.cm.kp hk (fun hg => (hG _ hg).2.2.2 rfl), h.a4.size hk.size, h.a5.size hk.size, h.al.size hk.size, h.am.size hk.size, h.ne⟩
theorem Mx.below (h : Mx w b bh z4 z5 z10 z11 N root F W) (hb : Below W.heap.size W W') : Mx w b bh z4 z5 z10 z11 N root F W' := h.kp (Kp.of_below hb (fun _ => False)) (fun _ h => h.elim)
theorem Mx.put (h : Mx w b bh z4 z5 z10 z11 N root F W) (hk : Kp (fun q => F q ∨ q = bh) W W') : Mx w b bh z4 z5 z10 z11 N root (Fn F W W') W' := by
  have key : ∀ z, Ap w bh F z W → ∀ q, (F q ∨ q = bh) → q ≠ z := fun z hz q hq e => by
    subst e
    exact hq.elim hz.2.1 hz.2.2.1
  have h1 := h.kp hk (fun q hq => ⟨key _ h.a4 q hq, key _ h.a5 q hq, key _ h.al q hq, key _ h.am q hq⟩)
  exact ⟨h1.c4, h1.c5, h1.cl, h1.cm, h.a4.put hk.size, h.a5.put hk.size, h.al.put hk.size, h.am.put hk.size, h.ne⟩
theorem Mx.store (h : Mx w b bh z4 z5 z10 z11 N root F W) (N' root' : Nat) : Mx w b bh z4 z5 z10 z11 N' root' F ((W.setCell ⟨z11, 0, none⟩ (.int .i64 (N' : Int))).setCell ⟨z11, 1, none⟩ (.int .i64 (root' : Int))) := by
  have kz := Kp.two W z11 (.int .i64 (N' : Int)) (.int .i64 (root' : Int))
  have hn := h.ne
  exact ⟨h.c4.kp kz (fun e => by omega), h.c5.kp kz (fun e => by omega), h.cl.kp kz (fun e => by omega), (h.cm.set0 _).set1 _, h.a4.size kz.size, h.a5.size kz.size, h.al.size kz.size, h.am.size kz.size, hn⟩
theorem Md.box {bh seed j root : Nat} {hs : Ky → Nat} {M : Cells} {L L0 : List Pr} {v : Value} {z : Nat} {t : TypeId} {x0 x1 : Value} (h : Md w b bh seed hs j root M F L L0 v W) (hz : Ap w bh F z W) (hc : C2 W z t x0 x1) (ht : 63 ≠ t) (y0 y1 : Value) : Md w b bh seed hs j root M F L L0 v ((W.setCell ⟨z, 0, none⟩ y0).setCell ⟨z, 1, none⟩ y1) :=
  h.kp (Kp.two W z y0 y1) (fun q e => by rw [e]; exact ⟨hz.1, hz.2.1, hz.2.2.1, h.two hc ht⟩)
end
end Go.Proofs.YtfiledbjbpkleaaGreat
