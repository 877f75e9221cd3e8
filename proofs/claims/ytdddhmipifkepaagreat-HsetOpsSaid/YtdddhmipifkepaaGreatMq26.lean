/- Several texts in one. -/
import Derived.Test.YtdddhmipifkepaaGreatMq25
import Derived.Deep.LoopGhost
import Derived.RangeFuncLeaves
import Derived.IntWalk
namespace Go.Proofs.YtdddhmipifkepaaGreat
set_option maxRecDepth 100000
set_option linter.unusedSimpArgs false
set_option linter.unusedVariables false
open Go.RowKit Go.Shelf
attribute [local go_sem] Oper.semAt_some
structure Fs (w0 W : World) (F0 : Nat → Prop) (b bh seed most : Nat) (hs : Ky → Nat) (M0 : Cells) (P : Nat → Nat) (M : Cells) (F : Nat → Prop) (root : Nat) (L : List Pr) (cnt z3 z4 z6 z7 z8 : Nat) (fw : Value) (er : Int) (Ds : List Nat) : Prop where
  ar : Ar W b most M F
  hh : Hs W bh seed
  nb : ¬ F bh
  fr : ∀ q, F q → F0 q ∨ w0.heap.size ≤ q
  old : Kp (fun q => F0 q ∨ q = bh) w0 W
  bk : Bk (most + 1) M [] P [root]
  keeps : Keeps P M0 M
  mp : Mp M hs root L
  keys : ∀ q ∈ L, OkK q.1
  live : live (most + 1) M ≤ Proofs.YtdddhmipifkepaaGreat.live (most + 1) M0 + 16 * cnt
  len : L.length ≤ cnt
  lb : C2 W z3 26 (ap b) (.pointer (some ⟨bh, 0, none⟩))
  wb : C1 W z4 59 fw
  sb : C2 W z6 54 (.int .i64 0) (.int .i64 0)
  eb : C1 W z7 31 (.int .i64 er)
  mb : C2 W z8 54 (.int .i64 (L.length : Int)) (.int .i64 (root : Int))
  nf : ¬ F z3 ∧ ¬ F z4 ∧ ¬ F z6 ∧ ¬ F z7 ∧ ¬ F z8
  zs : w0.heap.size ≤ z3 ∧ z3 < z4 ∧ z4 < z6 ∧ z6 < z7 ∧ z7 < z8 ∧ bh < w0.heap.size
  ms : ∀ D ∈ Ds, z8 < D ∧ W.heap[D]? = some (.deferred (some []))
  nd : Ds.Nodup
section
variable {w0 W W' : World} {F0 : Nat → Prop} {b bh seed most : Nat} {hs : Ky → Nat} {M0 : Cells} {P : Nat → Nat} {M M' : Cells} {F : Nat → Prop} {root : Nat} {L : List Pr} {cnt z3 z4 z6 z7 z8 : Nat} {fw : Value} {er : Int} {Ds : List Nat}
theorem Fs.kp {G : Nat → Prop} (h : Fs w0 W F0 b bh seed most hs M0 P M F root L cnt z3 z4 z6 z7 z8 fw er Ds) (hk : Kp G W W') (hG : ∀ q, G q → w0.heap.size ≤ q ∧ ¬ F q ∧ q ≠ z3 ∧ q ≠ z4 ∧ q ≠ z6 ∧ q ≠ z7 ∧ q ≠ z8 ∧ q ∉ Ds) : Fs w0 W' F0 b bh seed most hs M0 P M F root L cnt z3 z4 z6 z7 z8 fw er Ds :=
  ⟨h.ar.kp hk (fun q hf hg => (hG q hg).2.1 hf), h.hh.kp hk (fun hg => by have := (hG _ hg).1; have := h.zs; omega), h.nb, h.fr, h.old.trans hk (fun q hg => .inr (hG q hg).1), h.bk, h.keeps, h.mp, h.keys, h.live, h.len, h.lb.kp hk (fun hg => (hG _ hg).2.2.1 rfl), h.wb.kp hk (fun hg => (hG _ hg).2.2.2.1 rfl), h.sb.kp hk (fun hg => (hG _ hg).2.2.2.2.1 rfl), h.eb.kp hk (fun hg => (hG _ hg).2.2.2.2.2.1 rfl), h.mb.kp hk (fun hg => (hG _ hg).2.2.2.2.2.2.1 rfl), h.nf, h.zs, fun D hD => ⟨(h.ms D hD).1, (hk.block D (Array.getElem?_eq_some_iff.1 (h.ms D hD).2).1 (fun hg => (hG D hg).2.2.2.2.2.2.2 hD)).trans (h.ms D hD).2⟩, h.nd⟩
theorem Fs.below (h : Fs w0 W F0 b bh seed most hs M0 P M F root L cnt z3 z4 z6 z7 z8 fw er Ds) (hb : Below W.heap.size W W') : Fs w0 W' F0 b bh seed most hs M0 P M F root L cnt z3 z4 z6 z7 z8 fw er Ds := h.kp (Kp.of_below hb (fun _ => False)) (fun _ h => h.elim)
theorem Fs.hash (h : Fs w0 W F0 b bh seed most hs M0 P M F root L cnt z3 z4 z6 z7 z8 fw er Ds) (hk : Kp (fun q => q = bh) W W') (hh : Hs W' bh seed) : Fs w0 W' F0 b bh seed most hs M0 P M F root L cnt z3 z4 z6 z7 z8 fw er Ds := by
  obtain ⟨s1, s2, s3, s4, s5, s6⟩ := h.zs
  exact ⟨h.ar.kp hk (fun q hf hg => h.nb (hg ▸ hf)), hh, h.nb, h.fr, h.old.trans hk (fun q hg => .inl (.inr hg)), h.bk, h.keeps, h.mp, h.keys, h.live, h.len, h.lb.kp hk (by omega), h.wb.kp hk (by omega), h.sb.kp hk (by omega), h.eb.kp hk (by omega), h.mb.kp hk (by omega), h.nf, h.zs, fun D hD => ⟨(h.ms D hD).1, (hk.block D (Array.getElem?_eq_some_iff.1 (h.ms D hD).2).1 (by have := (h.ms D hD).1; omega)).trans (h.ms D hD).2⟩, h.nd⟩
theorem Fs.own {row : Option Nat} (h : Fs w0 W F0 b bh seed most hs M0 P M F root L cnt z3 z4 z6 z7 z8 fw er Ds) (hg : W.grownBy W' row) (hr : ∀ r, row = some r → z8 < r ∧ r ∉ Ds ∧ ∃ o : Obj, W.heap[r]? = some o ∧ o.isCells = false) : ∃ F', Fs w0 W' F0 b bh seed most hs M0 P M F' root L cnt z3 z4 z6 z7 z8 fw er Ds := by
  cases row with
  | none => exact ⟨F, h.kp (Kp.of_grown hg (F := fun _ => False) (fun q e => by cases e)) (fun _ h => h.elim)⟩
  | some x =>
    obtain ⟨h1, h2, o, hx, hc⟩ := hr x rfl
    have h' : Fs w0 W F0 b bh seed most hs M0 P M (fun k => F k ∧ k ≠ x) root L cnt z3 z4 z6 z7 z8 fw er Ds := ⟨h.ar.cut hx hc, h.hh, fun hf => h.nb hf.1, fun q hf => h.fr q hf.1, h.old, h.bk, h.keeps, h.mp, h.keys, h.live, h.len, h.lb, h.wb, h.sb, h.eb, h.mb, ⟨fun hf => h.nf.1 hf.1, fun hf => h.nf.2.1 hf.1, fun hf => h.nf.2.2.1 hf.1, fun hf => h.nf.2.2.2.1 hf.1, fun hf => h.nf.2.2.2.2 hf.1⟩, h.zs, h.ms, h.nd⟩
    have hz := h.zs
    exact ⟨_, h'.kp (Kp.of_grown hg (F := fun q => q = x) (fun q e => .inl (Option.some.inj e).symm)) (fun q e => by subst e; exact ⟨by omega, fun hf => hf.2 rfl, by omega, by omega, by omega, by omega, by omega, h2⟩)⟩
theorem Fs.more {cnt' : Nat} (h : Fs w0 W F0 b bh seed most hs M0 P M F root L cnt z3 z4 z6 z7 z8 fw er Ds) (hc : cnt ≤ cnt') : Fs w0 W F0 b bh seed most hs M0 P M F root L cnt' z3 z4 z6 z7 z8 fw er Ds :=
  ⟨h.ar, h.hh, h.nb, h.fr, h.old, h.bk, h.keeps, h.mp, h.keys, by have := h.live; omega, by have := h.len; omega, h.lb, h.wb, h.sb, h.eb, h.mb, h.nf, h.zs, h.ms, h.nd⟩
theorem Fs.mark {D : Nat} (h : Fs w0 W F0 b bh seed most hs M0 P M F root L cnt z3 z4 z6 z7 z8 fw er Ds) (hD : z8 < D) (hn : D ∉ Ds) (hd : W.heap[D]? = some (.deferred (some []))) : Fs w0 W F0 b bh seed most hs M0 P M F root L cnt z3 z4 z6 z7 z8 fw er (D :: Ds) :=
  ⟨h.ar, h.hh, h.nb, h.fr, h.old, h.bk, h.keeps, h.mp, h.keys, h.live, h.len, h.lb, h.wb, h.sb, h.eb, h.mb, h.nf, h.zs, fun D' hD' => by
    rcases List.mem_cons.1 hD' with rfl | hD'
    · exact ⟨hD, hd⟩
    · exact h.ms D' hD', List.nodup_cons.2 ⟨hn, h.nd⟩⟩
theorem Fs.unmark (h : Fs w0 W F0 b bh seed most hs M0 P M F root L cnt z3 z4 z6 z7 z8 fw er Ds) (hk : Kp (fun q => q ∈ Ds) W W') : Fs w0 W' F0 b bh seed most hs M0 P M (LeastF W b most F) root L cnt z3 z4 z6 z7 z8 fw er [] := by
  have h' : Fs w0 W F0 b bh seed most hs M0 P M (LeastF W b most F) root L cnt z3 z4 z6 z7 z8 fw er [] := ⟨h.ar.least, h.hh, fun hf => h.nb hf.1, fun q hf => h.fr q hf.1, h.old, h.bk, h.keeps, h.mp, h.keys, h.live, h.len, h.lb, h.wb, h.sb, h.eb, h.mb, ⟨fun hf => h.nf.1 hf.1, fun hf => h.nf.2.1 hf.1, fun hf => h.nf.2.2.1 hf.1, fun hf => h.nf.2.2.2.1 hf.1, fun hf => h.nf.2.2.2.2 hf.1⟩, h.zs, fun D hD => by simp at hD, List.nodup_nil⟩
  have hz := h.zs
  exact h'.kp hk (fun q hq => by
    obtain ⟨h1, h2⟩ := h.ms q hq
    exact ⟨by omega, fun hf => (by have := LeastF.cells h.ar hf h2; cases this), by omega, by omega, by omega, by omega, by omega, by simp⟩)
theorem Fs.fail (h : Fs w0 W F0 b bh seed most hs M0 P M F root L cnt z3 z4 z6 z7 z8 fw er Ds) (er' : Int) : Fs w0 (((W.setCell ⟨z6, 0, none⟩ (.int .i64 0)).setCell ⟨z6, 1, none⟩ (.int .i64 0)).setCell ⟨z7, 0, none⟩ (.int .i64 er')) F0 b bh seed most hs M0 P M F root L cnt z3 z4 z6 z7 z8 fw er' Ds ∧ Kp (fun q => q = z6 ∨ q = z7) W (((W.setCell ⟨z6, 0, none⟩ (.int .i64 0)).setCell ⟨z6, 1, none⟩ (.int .i64 0)).setCell ⟨z7, 0, none⟩ (.int .i64 er')) := by
  obtain ⟨s1, s2, s3, s4, s5, s6⟩ := h.zs
  have k6 := kp2z W z6 (.int .i64 0) (.int .i64 0)
  have k7 := Kp.one ((W.setCell ⟨z6, 0, none⟩ (.int .i64 0)).setCell ⟨z6, 1, none⟩ (.int .i64 0)) z7 0 (.int .i64 er')
  have kz : Kp (fun q => q = z6 ∨ q = z7) W (((W.setCell ⟨z6, 0, none⟩ (.int .i64 0)).setCell ⟨z6, 1, none⟩ (.int .i64 0)).setCell ⟨z7, 0, none⟩ (.int .i64 er')) := (k6.mono (fun q e _ => .inl e)).trans k7 (fun q e => .inl (.inr e))
  refine ⟨⟨h.ar.kp kz (fun q hf e => e.elim (fun e => h.nf.2.2.1 (e ▸ hf)) (fun e => h.nf.2.2.2.1 (e ▸ hf))), h.hh.kp kz (by omega), h.nb, h.fr, h.old.trans kz (fun q e => .inr (by omega)), h.bk, h.keeps, h.mp, h.keys, h.live, h.len, h.lb.kp kz (by omega), h.wb.kp kz (by omega), ((h.sb.set0 _).set1 _).kp k7 (by omega), (h.eb.kp k6 (by omega)).set _, h.mb.kp kz (by omega), h.nf, h.zs, fun D hD => ⟨(h.ms D hD).1, (kz.block D (Array.getElem?_eq_some_iff.1 (h.ms D hD).2).1 (by have := (h.ms D hD).1; omega)).trans (h.ms D hD).2⟩, h.nd⟩, kz⟩
theorem Fs.add {n : Nat} {k : Ky} (h : Fs w0 W F0 b bh seed most hs M0 P M F root L cnt z3 z4 z6 z7 z8 fw er Ds) (hk : OkK k) (hm : MapR most M P hs root 4294967294 (putL hs (k, noV) L) n M') (hs' : StpH W W' b bh seed most M' (LeastF W b most F)) :
    Fs w0 (((W'.setCell ⟨z8, 0, none⟩ (.int .i64 ((putL hs (k, noV) L).length : Int))).setCell ⟨z8, 1, none⟩ (.int .i64 (n : Int)))) F0 b bh seed most hs M0 P M' (Fn (LeastF W b most F) W W') n (putL hs (k, noV) L) (cnt + 1) z3 z4 z6 z7 z8 fw er Ds := by
  obtain ⟨s1, s2, s3, s4, s5, s6⟩ := h.zs
  obtain ⟨f3, f4, f6, f7, f8⟩ := h.nf
  have l8 := h.mb.lt
  have l3 := h.lb.lt
  have l4 := h.wb.lt
  have l6 := h.sb.lt
  have l7 := h.eb.lt
  have lh := h.hh.lt
  have hne : ∀ z, ¬ F z → z ≠ bh → ¬ (LeastF W b most F z ∨ z = bh) := fun z hz hb hq => hq.elim (fun hq => hz hq.1) hb
  have hnF : ∀ z, ¬ F z → z < W.heap.size → ¬ Fn (LeastF W b most F) W W' z := fun z hz hl hq => hq.elim (fun hq => hz hq.1) (fun e => by omega)
  have kz := kp2z W' z8 (.int .i64 ((putL hs (k, noV) L).length : Int)) (.int .i64 (n : Int))
  have hz8 := hnF z8 f8 l8
  have e0 : out1 P root 4294967294 = P := by unfold out1; rw [if_neg (by decide)]
  have hb' := hm.bk
  have hk' := hm.keeps
  rw [e0] at hb' hk'
  have hlen := putL_length (p := (k, noV)) h.mp.srt
  have hold : Kp (fun q => F0 q ∨ q = bh) w0 W' := h.old.trans hs'.kp (fun q hq => hq.elim (fun hq => (h.fr q hq.1).imp .inl id) (fun e => .inl (.inr e)))
  refine ⟨hs'.ar.kp kz (fun q hf e => hz8 (e ▸ hf)), hs'.hh.kp kz (by omega), hnF bh h.nb lh, fun q hf => hf.elim (fun hf => h.fr q hf.1) (fun e => .inr (by have := h.old.size; omega)), hold.trans kz (fun q e => .inr (by omega)), hb', h.keeps.trans hk', hm.mp, fun q hq => ?_, by have := hm.live; have := h.live; omega, ?_, (h.lb.kp hs'.kp (hne z3 f3 (by omega))).kp kz (by omega), (h.wb.kp hs'.kp (hne z4 f4 (by omega))).kp kz (by omega), (h.sb.kp hs'.kp (hne z6 f6 (by omega))).kp kz (by omega), (h.eb.kp hs'.kp (hne z7 f7 (by omega))).kp kz (by omega), ((h.mb.kp hs'.kp (hne z8 f8 (by omega))).set0 _).set1 _, ⟨hnF z3 f3 l3, hnF z4 f4 l4, hnF z6 f6 l6, hnF z7 f7 l7, hz8⟩, h.zs, fun D hD => ⟨(h.ms D hD).1, ?_⟩, h.nd⟩
  · rcases ((putL_spec h.mp.srt).2 q).1 hq with rfl | ⟨h1, _⟩
    · exact hk
    · exact h.keys q h1
  · have := h.len
    rw [hlen]
    split <;> omega
  · obtain ⟨h1, h2⟩ := h.ms D hD
    refine (kz.block D ?_ (by omega)).trans ((hs'.kp.block D (Array.getElem?_eq_some_iff.1 h2).1 (fun hq => hq.elim (fun hq => ?_) (by omega))).trans h2)
    · exact Nat.lt_of_lt_of_le (Array.getElem?_eq_some_iff.1 h2).1 hs'.kp.size
    · have := LeastF.cells h.ar hq h2
      cases this
end
structure FromR (w0 w' : World) (F0 : Nat → Prop) (b bh seed most : Nat) (M0 : Cells) (P : Nat → Nat) (M' : Cells) (F' : Nat → Prop) (hx : List Nat) (cnt : Nat) : Prop where
  ar : Ar w' b most M' F'
  hh : Hs w' bh seed
  nb : ¬ F' bh
  fr : ∀ q, F' q → F0 q ∨ w0.heap.size ≤ q
  kp : Kp (fun q => F0 q ∨ q = bh) w0 w'
  bk : Bk (most + 1) M' [] P hx
  keeps : Keeps P M0 M'
  live : live (most + 1) M' ≤ Proofs.YtdddhmipifkepaaGreat.live (most + 1) M0 + 16 * cnt
abbrev keysOf (ss : List (FuncId × Array Value × List Ky)) : List Ky := ss.flatMap (fun s => s.2.2)
section
set_option maxHeartbeats 8000000 in
theorem vFrom {b bh seed most : Nat} {hs : Ky → Nat} {M0 : Cells} {P : Nat → Nat} {F0 : Nat → Prop} {f0 : FuncId} {caps0 : Array Value} {wb : Ky → Bool} {g0 o0 c0 : Nat} {ss : List (FuncId × Array Value × List Ky)} (w0 : World) (h : Ar w0 b most M0 F0) (hm : most ≤ 1048576) (hP : ∀ j, P j ≤ 576460752303423488) (hb : Bk (most + 1) M0 [] P []) (hh : Hs w0 bh seed) (nbh : ¬ F0 bh) (hhs : ∀ q, OkK q → hs q = hashN seed q.1 q.2.1 q.2.2)
    (hf0 : ∀ (args : Array Value) (W : World), (callFunc f0 args).run Tryz.prog W = .ok (.enter f0 args) W)
    (hw : ∀ W M F k, Kp (fun q => F0 q ∨ q = bh) w0 W → Ar W b most M F → Keeps P M0 M → Hs W bh seed → ¬ F bh → OkK k → Calls Tryz.prog f0 (#[xagg k] ++ caps0) W fun e W' => e = .returned (.bool (wb k)) ∧ Kp (fun q => q = bh) W W' ∧ Hs W' bh seed)
    (hfs : ∀ W, Kp (fun q => F0 q ∨ q = bh) w0 W → ∀ i s, ss[i]? = some s → W.cell? ⟨g0, o0 + i, none⟩ = some (.func (.func s.1) #[] s.2.1))
    (hse : ∀ s ∈ ss, (∀ (args : Array Value) (W : World), (callFunc s.1 args).run Tryz.prog W = .ok (.enter s.1 args) W) ∧ (∀ k ∈ s.2.2, OkK k) ∧ ∀ W M F, Kp (fun q => F0 q ∨ q = bh) w0 W → Ar W b most M F → Keeps P M0 M → GivesL Tryz.prog s.1 (fun v => #[] ++ #[v] ++ s.2.1) (fun k : Ky => #[xagg k]) (fun lp => Kx w0 F0 bh M0 P W.heap.size lp b most) s.2.2 W)
    (hn : (keysOf ss).length ≤ 1000) (hc : ss.length ≤ c0) (hc2 : ss.length ≤ 1000) :
    Calls Tryz.prog 49 #[land b bh, .func (.func f0) #[] caps0, .slice (some ⟨g0, o0, none⟩) ss.length c0] w0 fun e w' =>
      (∃ n M' F', e = .returned (.tuple #[.agg #[.int .i64 ((addAll hs wb (keysOf ss) []).length : Nat), .int .i64 (n : Nat)], .int .i64 0]) ∧ FromR w0 w' F0 b bh seed most M0 P M' F' [n] (keysOf ss).length ∧ Mp M' hs n (addAll hs wb (keysOf ss) [])) ∨
      (∃ M' F', e = .returned (.tuple #[.agg #[.int .i64 0, .int .i64 0], .int .i64 5]) ∧ most < live (most + 1) M0 + 16 * (keysOf ss).length + 16 ∧ FromR w0 w' F0 b bh seed most M0 P M' F' [] (keysOf ss).length) := by
  have hbl := hh.lt
  obtain ⟨W1, hW1⟩ : ∃ W1, W1 = (((((w0.alloc (.cells #[ap b, .pointer (some ⟨bh, 0, none⟩)] 26)).alloc (.cells #[.func (.func f0) #[] caps0] 59)).alloc (.cells #[.int .i64 0, .int .i64 0] 54)).alloc (.cells #[.int .i64 0] 31)).alloc (.cells #[.int .i64 0, .int .i64 0] 54)) := ⟨_, rfl⟩
  have hb1 : Below w0.heap.size w0 W1 := by rw [hW1]; exact (((((Below.refl _ w0).alloc (Nat.le_refl _) _).alloc (by simp) _).alloc (by simp; omega) _).alloc (by simp; omega) _).alloc (by simp; omega) _
  have hsz : W1.heap.size = w0.heap.size + 1 + 1 + 1 + 1 + 1 := by rw [hW1]; simp
  have st : Fs w0 W1 F0 b bh seed most hs M0 P M0 F0 0 [] 0 w0.heap.size (w0.heap.size + 1) (w0.heap.size + 1 + 1) (w0.heap.size + 1 + 1 + 1) (w0.heap.size + 1 + 1 + 1 + 1) (.func (.func f0) #[] caps0) 0 [] := by
    have hnf : ∀ z, w0.heap.size ≤ z → ¬ F0 z := fun z hz hf => by have := h.lt hf; omega
    refine ⟨h.below hb1, hh.below hb1, nbh, fun q hq => .inl hq, Kp.of_below hb1 _, hb.perm (fun k hk => ?_), Keeps.refl P M0, .inl ⟨rfl, rfl⟩, fun q hq => by simp at hq, Nat.le_add_right _ _, Nat.zero_le _, ?_, ?_, ?_, ?_, ?_, ⟨hnf _ (by omega), hnf _ (by omega), hnf _ (by omega), hnf _ (by omega), hnf _ (by omega)⟩, ⟨by omega, by omega, by omega, by omega, by omega, hbl⟩, fun D hD => by simp at hD, List.nodup_nil⟩
    · rw [List.count_cons_of_ne (by simpa using (by omega : 0 ≠ k))]
    · rw [hW1]; exact ((((C2.new w0 26 (ap b) (.pointer (some ⟨bh, 0, none⟩))).alloc _).alloc _).alloc _).alloc _
    · have h := (((C1.new (w0.alloc (.cells #[ap b, .pointer (some ⟨bh, 0, none⟩)] 26)) 59 (.func (.func f0) #[] caps0)).alloc (.cells #[.int .i64 0, .int .i64 0] 54)).alloc (.cells #[.int .i64 0] 31)).alloc (.cells #[.int .i64 0, .int .i64 0] 54)
      rw [hW1]
      simpa using h
    · have h := ((C2.new ((w0.alloc (.cells #[ap b, .pointer (some ⟨bh, 0, none⟩)] 26)).alloc (.cells #[.func (.func f0) #[] caps0] 59)) 54 (.int .i64 0) (.int .i64 0)).alloc (.cells #[.int .i64 0] 31)).alloc (.cells #[.int .i64 0, .int .i64 0] 54)
      rw [hW1]
      simpa using h
    · have h := (C1.new (((w0.alloc (.cells #[ap b, .pointer (some ⟨bh, 0, none⟩)] 26)).alloc (.cells #[.func (.func f0) #[] caps0] 59)).alloc (.cells #[.int .i64 0, .int .i64 0] 54)) 31 (.int .i64 0)).alloc (.cells #[.int .i64 0, .int .i64 0] 54)
      rw [hW1]
      simpa using h
    · have h := C2.new ((((w0.alloc (.cells #[ap b, .pointer (some ⟨bh, 0, none⟩)] 26)).alloc (.cells #[.func (.func f0) #[] caps0] 59)).alloc (.cells #[.int .i64 0, .int .i64 0] 54)).alloc (.cells #[.int .i64 0] 31)) 54 (.int .i64 0) (.int .i64 0)
      rw [hW1]
      simpa using h
  have ST := Lib.hid st
  have HH := Lib.hid (And.intro hm (And.intro hP (And.intro hhs hf0)))
  have HZ0 := Lib.hid hb.zero
  have HW := Lib.hid hw
  have HFS := Lib.hid hfs
  have HSE := Lib.hid hse
  have HN := Lib.hid (And.intro hn (And.intro hc hc2))
  have HW1 := Lib.hid hW1
  have hmf : ∀ (fn : Go.Fn) (first cap : Array Value) (w : World), (Instr.makeFunc fn first cap).run Tryz.prog w = .ok (.func fn first cap) w := fun _ _ _ _ => rfl
  clear h hm hP hb hh nbh hhs hf0 hw hfs hse hn hc hc2 hbl hb1 hsz st hW1
  refine (callsIn_wide (n := 4)).1 ?_
  refine callsIn_of_wp_marks Tryz.func49 rfl trivial ?_ rfl
  refine wpIn_wide.2 ?_
  simp only [Tryz.ntmps49, List.size_toArray, List.length_cons, List.length_nil, Nat.reduceAdd, Nat.reduceSub, Array.replicate_succ, Array.replicate_zero, List.push_toArray, List.append_toArray, List.nil_append, List.cons_append]
  go_upto_region 2 with fail
  rw [← HW1.out]
  obtain ⟨z3, hz3⟩ : ∃ z, z = w0.heap.size := ⟨_, rfl⟩
  obtain ⟨z4, hz4⟩ : ∃ z, z = w0.heap.size + 1 := ⟨_, rfl⟩
  obtain ⟨z6, hz6⟩ : ∃ z, z = w0.heap.size + 1 + 1 := ⟨_, rfl⟩
  obtain ⟨z7, hz7⟩ : ∃ z, z = w0.heap.size + 1 + 1 + 1 := ⟨_, rfl⟩
  obtain ⟨z8, hz8⟩ : ∃ z, z = w0.heap.size + 1 + 1 + 1 + 1 := ⟨_, rfl⟩
  rw [← hz8, ← hz7, ← hz6, ← hz4, ← hz3] at ST
  rw [← hz8, ← hz7, ← hz6, ← hz4, ← hz3]
  clear hz3 hz4 hz6 hz7 hz8 HW1
  obtain ⟨x0, x1⟩ := ST.out.eb.all
  go_upto_region 4 with fail
  have ST2 := Lib.hid (show Fs w0 (W1.setCell ⟨z7, 0, none⟩ (.int .i64 1)) F0 b bh seed most hs M0 P M0 F0 0 [] 0 z3 z4 z6 z7 z8 (.func (.func f0) #[] caps0) 1 [] from by
    have kz := Kp.one W1 z7 0 (.int .i64 1)
    obtain ⟨s1, s2, s3, s4, s5, s6⟩ := ST.out.zs
    have h := ST.out
    exact ⟨h.ar.kp kz (fun q hf e => h.nf.2.2.2.1 (e ▸ hf)), h.hh.kp kz (by omega), h.nb, h.fr, h.old.trans kz (fun q e => .inr (by omega)), h.bk, h.keeps, h.mp, h.keys, h.live, h.len, h.lb.kp kz (by omega), h.wb.kp kz (by omega), h.sb.kp kz (by omega), h.eb.set _, h.mb.kp kz (by omega), h.nf, h.zs, fun D hD => by simp at hD, h.nd⟩)
  generalize W1.setCell ⟨z7, 0, none⟩ (.int .i64 1) = W2 at ST2 ⊢
  clear ST x0 x1 hmf
  go_wp2_with fail
  refine wp_loop_ghost_k (fun n a w => ∃ (j : Nat) (Ds : List Nat) (M : Cells) (F : Nat → Prop) (root : Nat) (u10 u18 u19 u20 u21 u39 : Value), j + n = ss.length ∧ a = { tmps := #[land b bh, .func (.func f0) #[] caps0, .slice (some ⟨g0, o0, none⟩) ss.length c0, .pointer (some ⟨z3, 0, none⟩), .pointer (some ⟨z4, 0, none⟩), undef, .pointer (some ⟨z6, 0, none⟩), .pointer (some ⟨z7, 0, none⟩), .pointer (some ⟨z8, 0, none⟩), undef, u10, undef, undef, undef, .func (.func 110) #[] #[.pointer (some ⟨z7, 0, none⟩), .pointer (some ⟨z3, 0, none⟩), .pointer (some ⟨z8, 0, none⟩)], .slice (some ⟨g0, o0, none⟩) ss.length c0, .int .i64 (ss.length : Int), .int .i64 (j : Int), u18, u19, u20, u21, undef, undef, undef, undef, undef, undef, undef, undef, undef, undef, undef, undef, undef, undef, undef, undef, undef, u39, undef], defers := Ds.map mark ++ [{ target := .fn (.func 110) #[.pointer (some ⟨z7, 0, none⟩), .pointer (some ⟨z3, 0, none⟩), .pointer (some ⟨z8, 0, none⟩)], args := #[] }] } ∧ Fs w0 w F0 b bh seed most hs M0 P M F root (addAll hs wb (keysOf (ss.take j)) []) (keysOf (ss.take j)).length z3 z4 z6 z7 z8 (.func (.func f0) #[] caps0) 1 Ds) ss.length ⟨0, [], M0, F0, 0, undef, undef, undef, undef, undef, undef, by omega, rfl, by simp only [List.take_zero, keysOf, List.flatMap_nil, addAll, List.length_nil]; exact ST2.out⟩ ?_
  intro n a wr hI J K hJ hK
  obtain ⟨j, Ds, M, F, root, u10, u18, u19, u20, u21, u39, hj, rfl, hst⟩ := hI
  have S := Lib.hid hst
  have HJ := Lib.hid hJ
  have HK := Lib.hid hK
  clear hst ST2 hJ hK
  by_cases hlt : j < ss.length
  · obtain ⟨⟨f, caps, xs⟩, hs0⟩ : ∃ s, ss[j]? = some s := ⟨_, List.getElem?_eq_getElem hlt⟩
    have y0 := HFS.out wr S.out.old j _ hs0
    have y1 : (0 : Int) ≤ (j : Int) := by omega
    have y2 : (j : Int) < (ss.length : Int) := by omega
    have HSJ := Lib.hid (And.intro hs0 (And.intro hj hlt))
    have HSE1 := Lib.hid (HSE.out _ (List.mem_of_getElem? hs0))
    clear hs0 hj hlt
    simp only at y0
    have HB := Lib.hid (show z8 < wr.heap.size ∧ (∀ D ∈ Ds, D < wr.heap.size) ∧ w0.heap.size ≤ wr.heap.size ∧ bh < w0.heap.size from ⟨S.out.mb.lt, fun D hD => (Array.getElem?_eq_some_iff.1 (S.out.ms D hD).2).1, S.out.old.size, S.out.zs.2.2.2.2.2⟩)
    have HLC := Lib.hid (show (keysOf (ss.take j)).length + xs.length ≤ (keysOf ss).length ∧ keysOf (ss.take (j + 1)) = keysOf (ss.take j) ++ xs from by
      have e1 : keysOf (ss.take (j + 1)) = keysOf (ss.take j) ++ xs := by
        unfold keysOf
        rw [List.take_add_one, HSJ.out.1, Option.toList_some, List.flatMap_append]
        simp
      refine ⟨?_, e1⟩
      have e2 : keysOf ss = keysOf (ss.take (j + 1)) ++ keysOf (ss.drop (j + 1)) := by
        unfold keysOf
        rw [← List.flatMap_append, List.take_append_drop]
      rw [e2, e1, List.length_append, List.length_append]
      omega)
    go_wp2_with fail
    refine wp_rangeL (encs := fun k : Ky => #[xagg k]) (Kp := fun lp => Kx w0 F0 bh M0 P wr.heap.size lp b most) (first := #[]) (last := caps) (f := f) rfl HSE1.out.1 (fun _ => rfl) (HSE1.out.2.2 wr M F S.out.old S.out.ar S.out.keeps) (fun h1 h2 => h1.trans h2) (fun W o o' ho hc => Kx.putObj ho hc (by have := HB.out; omega))
      (fun i W' => ∃ (M1 : Cells) (F1 : Nat → Prop) (r1 : Nat), Fs w0 W' F0 b bh seed most hs M0 P M1 F1 r1 (addAll hs wb (xs.take i) (addAll hs wb (keysOf (ss.take j)) [])) ((keysOf (ss.take j)).length + i) z3 z4 z6 z7 z8 (.func (.func f0) #[] caps0) 1 Ds) (fun c i W' => c = .ret ∧ ∃ (M1 : Cells) (F1 : Nat → Prop) (r1 : Nat) (L1 : List Pr) (c1 : Nat), Fs w0 W' F0 b bh seed most hs M0 P M1 F1 r1 L1 c1 z3 z4 z6 z7 z8 (.func (.func f0) #[] caps0) 5 Ds ∧ most < live (most + 1) M1 + 16 ∧ c1 ≤ (keysOf (ss.take j)).length + xs.length)
      (fun i A B row ⟨M1, F1, r1, h⟩ hg hr => by
        obtain ⟨F', h'⟩ := h.own hg (fun r e => ⟨by have := (hr r e).1; have := HB.out.1; omega, fun hD => by have := (hr r e).1; have := HB.out.2.1 r hD; omega, (hr r e).2⟩)
        exact ⟨M1, F', r1, h'⟩)
      (fun c i A B row ⟨hcr, M1, F1, r1, L1, c1, h, h1, h2⟩ hg hr => by
        obtain ⟨F', h'⟩ := h.own hg (fun r e => ⟨by have := (hr r e).1; have := HB.out.1; omega, fun hD => by have := (hr r e).1; have := HB.out.2.1 r hD; omega, (hr r e).2⟩)
        exact ⟨hcr, M1, F', r1, L1, c1, h', h1, h2⟩) ?_ (fun A B hb => Kx.below hb) ?_ ?_ ?_
    · exact ⟨M, F, root, by simp only [List.take_zero, addAll, Nat.add_zero]; exact S.out⟩
    · intro lp i x W4 hx hI4 hsz4
      have HX := Lib.hid hx
      have HI := Lib.hid hI4
      clear hx hI4 y0 y1 y2
      gi_wp2
      have hbA : Below W4.heap.size W4 (W4.alloc (.cells #[.int .u8 x.1, .int .i64 x.2.1, .string x.2.2] 36)) := (Below.refl _ W4).alloc (Nat.le_refl _) _
      refine ⟨hbA, fun i W' => (∃ (M1 : Cells) (F1 : Nat → Prop) (r1 : Nat), Fs w0 W' F0 b bh seed most hs M0 P M1 F1 r1 (addAll hs wb (xs.take i) (addAll hs wb (keysOf (ss.take j)) [])) ((keysOf (ss.take j)).length + i) z3 z4 z6 z7 z8 (.func (.func f0) #[] caps0) 1 Ds) ∧ C3 W' W4.heap.size 36 (.int .u8 x.1) (.int .i64 x.2.1) (.string x.2.2),
        fun i A B row ⟨⟨M1, F1, r1, h⟩, hc⟩ hg hr => ?_, ⟨?_, C3.new _ _ _ _ _⟩, fun W5 hJ5 hs5 => ?_⟩
      · obtain ⟨F', h'⟩ := h.own hg (fun r e => ⟨by have := (hr r e).1; have := HB.out.1; omega, fun hD => by have := (hr r e).1; have := HB.out.2.1 r hD; omega, (hr r e).2⟩)
        exact ⟨⟨M1, F', r1, h'⟩, cells_own hc hg (B := wr.heap.size) hr⟩
      · obtain ⟨M1, F1, r1, h⟩ := HI.out
        exact ⟨M1, F1, r1, h.below hbA⟩
      · obtain ⟨⟨M1, F1, r1, h5⟩, k5⟩ := hJ5
        have S5 := Lib.hid h5
        have HS5 := Lib.hid (show wr.heap.size ≤ W5.heap.size from Nat.le_trans hsz4 (Nat.le_trans hbA.size hs5))
        have K5 := Lib.hid k5
        have hzk : W4.heap.size ≠ bh := by have := HB.out; omega
        have HZK := Lib.hid hzk
        have y0 := h5.wb.c0
        obtain ⟨m0, m1, m2, _⟩ := k5.all
        have hrun := HH.out.2.2.2
        generalize W4.heap.size = z11 at K5 m0 m1 m2 HZK ⊢
        clear h5 k5 hbA hs5 hzk HI
        gi_wp2
        clear hrun
        refine ⟨trivial, rfl, ?_⟩
        refine (CallsIn.inRound lp ((callsIn_wide (n := 0)).2 (HW.out W5 M1 F1 x S5.out.old S5.out.ar S5.out.keeps S5.out.hh S5.out.nb (HSE1.out.2.1 x (List.mem_of_getElem? HX.out))))).mono ?_
        rintro e6 W6 ⟨rfl, hk6, hh6⟩
        have S6 := Lib.hid (S5.out.hash hk6 hh6)
        have K6 := Lib.hid (K5.out.kp hk6 HZK.out)
        have X6 := Lib.hid (show Kx w0 F0 bh M0 P wr.heap.size (wr.heap.size + 1) b most W5 W6 ∧ KeepsOthers W5 W6 from ⟨Kx.of_kp S5.out.ar hk6 (fun q e hf => S5.out.nb (e ▸ hf)) (fun q e => ⟨by have := HB.out; omega, fun o ho => S5.out.hh.cells o (e ▸ ho)⟩) (fun q e => .inl e), KeepsOthers.of_kp hk6 (fun q o e ho => S5.out.hh.cells o (e ▸ ho))⟩)
        have SZ6 := Lib.hid (show wr.heap.size ≤ W6.heap.size from Nat.le_trans HS5.out hk6.size)
        clear hk6 hh6 y0 m0 m1 m2 S5 K5
        cases hwb : wb x
        · have hst := addAll_step (hs := hs) (wb := wb) HX.out (addAll hs wb (keysOf (ss.take j)) [])
          rw [hwb] at hst
          have HST := Lib.hid hst
          clear hst hwb
          gi_wp2
          exact ⟨X6.out.2.from _, X6.out.1, M1, F1, r1, by rw [HST.out]; exact S6.out.more (by omega)⟩
        · have hst := addAll_step (hs := hs) (wb := wb) HX.out (addAll hs wb (keysOf (ss.take j)) [])
          rw [hwb, if_pos rfl] at hst
          have HST := Lib.hid hst
          clear hst hwb
          generalize addAll hs wb (xs.take i) (addAll hs wb (keysOf (ss.take j)) []) = L6 at S6 HST ⊢
          have hxi : i < xs.length := (List.getElem?_eq_some_iff.1 HX.out).1
          have HXI := Lib.hid hxi
          obtain ⟨x0, x1, _⟩ := S6.out.lb.all
          obtain ⟨x2, x3, _⟩ := S6.out.mb.all
          obtain ⟨m0, m1, m2, _⟩ := K6.out.all
          have HADD := Lib.hid (vAdd (l := L6) (hs := hs) b bh seed r1 x 4294967294 P W6 S6.out.ar.least HH.out.1 S6.out.bk HH.out.2.1 S6.out.mp S6.out.hh (fun hf => S6.out.nb hf.1) HH.out.2.2.1 S6.out.keys (HSE1.out.2.1 x (List.mem_of_getElem? HX.out)) (by have := S6.out.len; have := HLC.out.1; have := HN.out.1; omega))
          clear hxi
          gi_wp2
          refine ⟨trivial, rfl, ?_⟩
          refine (CallsIn.inRound lp (callsIn_wide.2 HADD.out)).mono ?_
          clear HADD x0 x1 x2 x3 m0 m1 m2
          rintro e7 W7 (⟨rfl, _, hlong, _⟩ | ⟨rfl, hfull, hk7, hh7⟩ | ⟨n', M', rfl, _, _, hm7, hs7⟩)
          · exfalso
            have h1 := S6.out.len
            have h2 := HLC.out.1
            have h3 := HN.out.1
            have h4 := HXI.out
            unfold Long at hlong
            omega
          · have HF7 := Lib.hid hfull
            have S8 := Lib.hid (S6.out.hash hk7 hh7)
            have X8 := Lib.hid (show Kx w0 F0 bh M0 P wr.heap.size (wr.heap.size + 1) b most W6 W7 ∧ KeepsOthers W6 W7 from ⟨Kx.of_kp S6.out.ar hk7 (fun q e hf => S6.out.nb (e ▸ hf)) (fun q e => ⟨by have := HB.out; omega, fun o ho => S6.out.hh.cells o (e ▸ ho)⟩) (fun q e => .inl e), KeepsOthers.of_kp hk7 (fun q o e ho => S6.out.hh.cells o (e ▸ ho))⟩)
            obtain ⟨x0, x1, x2, x3⟩ := S8.out.sb.all
            obtain ⟨x4, x5⟩ := S8.out.eb.all
            have x6 := S8.out.sb.lt
            have x7 := S8.out.eb.lt
            have x8 : z6 ≠ z7 := by have := S8.out.zs; omega
            clear hfull hk7 hh7 K6
            gi_wp2
            obtain ⟨f1, f2⟩ := S8.out.fail 5
            have zz := S8.out.zs
            have z8b := HB.out.1
            have hcl : ∀ (q : Nat) (o : Obj), (q = z6 ∨ q = z7) → W7.heap[q]? = some o → o.isCells = true := fun q o e ho => by
              rcases e with rfl | rfl
              · have h1 : _ = some _ := S8.out.sb
                rw [ho] at h1
                rw [Option.some.inj h1]
                rfl
              · have h1 : _ = some _ := S8.out.eb
                rw [ho] at h1
                rw [Option.some.inj h1]
                rfl
            refine ⟨(((X6.out.2.trans X8.out.2).trans (KeepsOthers.of_kp f2 hcl)).trans (KeepsOthers.alloc _ _)).from _, ((X6.out.1.trans X8.out.1).trans (Kx.of_kp S8.out.ar f2 (fun q e hf => e.elim (fun e => S8.out.nf.2.2.1 (e ▸ hf)) (fun e => S8.out.nf.2.2.2.1 (e ▸ hf))) (fun q e => ⟨by omega, fun o ho => hcl q o e ho⟩) (fun q e => .inr (by omega)))).trans (Kx.below ((Below.refl _ _).alloc (Nat.le_refl _) _)), rfl, M1, F1, r1, L6, _, f1.below ((Below.refl _ _).alloc (Nat.le_refl _) _), HF7.out, by have := HXI.out; omega⟩
          · generalize hN' : (putL hs (x, noV) L6).length = N'
            have S9 := Lib.hid (S6.out.add (HSE1.out.2.1 x (List.mem_of_getElem? HX.out)) hm7 hs7)
            rw [hN'] at S9
            have e0 : out1 P r1 4294967294 = P := by unfold out1; rw [if_neg (by decide)]
            have hkp7 := hm7.keeps
            rw [e0] at hkp7
            have X8 := Lib.hid (show Kx w0 F0 bh M0 P wr.heap.size (wr.heap.size + 1) b most W6 W7 ∧ KeepsOthers W6 W7 from
              ⟨Kx.put S6.out.ar hs7 (by have := HB.out; omega) SZ6.out S6.out.fr HZ0.out (S6.out.keeps.trans hkp7) S6.out.hh.cells, Kx.others S6.out.ar hs7 S6.out.hh.cells⟩)
            have q8 : C2 W7 z8 54 (.int .i64 (L6.length : Int)) (.int .i64 (r1 : Int)) := S6.out.mb.kp hs7.kp (fun e => e.elim (fun e => S6.out.nf.2.2.2.2 e.1) (fun e => by have := S6.out.zs; omega))
            have Q8 := Lib.hid q8
            have A7 := Lib.hid (show Ar W7 b most M' (Fn (LeastF W6 b most F1) W6 W7) ∧ ¬ Fn (LeastF W6 b most F1) W6 W7 z8 from ⟨hs7.ar, fun hf => hf.elim (fun e => S6.out.nf.2.2.2.2 e.1) (fun e => by have := S6.out.mb.lt; omega)⟩)
            obtain ⟨x0, x1, x2, x3⟩ := q8.all
            have x4 := q8.lt
            clear hm7 hs7 hkp7 e0 q8 hN' K6
            gi_wp2
            have kz := kp2z W7 z8 (.int .i64 (N' : Int)) (.int .i64 (n' : Int))
            have hcl : ∀ (q : Nat) (o : Obj), q = z8 → W7.heap[q]? = some o → o.isCells = true := fun q o e ho => by
              subst e
              have h1 : _ = some _ := Q8.out
              rw [ho] at h1
              rw [Option.some.inj h1]
              rfl
            have z8b := HB.out.1
            have zz := S6.out.zs
            refine ⟨(((X6.out.2.trans X8.out.2).trans (KeepsOthers.of_kp kz hcl)).trans (KeepsOthers.alloc _ _)).from _, ((X6.out.1.trans X8.out.1).trans (Kx.of_kp A7.out.1 kz (fun q e hf => A7.out.2 (e ▸ hf)) (fun q e => ⟨by omega, fun o ho => hcl q o e ho⟩) (fun q e => .inr (by omega)))).trans (Kx.below ((Below.refl _ _).alloc (Nat.le_refl _) _)), M', _, n', by rw [HST.out]; exact S9.out.below ((Below.refl _ _).alloc (Nat.le_refl _) _)⟩
    · rintro D W10 hD ⟨M1, F1, r1, hfs⟩ hdef
      rw [List.take_length] at hfs
      have hw1 : IntKind.i64.wrap ((j : Int) + 1) = (j : Int) + 1 := IntWalk.i64_in _ (by have := HN.out.2.2; have := HSJ.out.2.2; omega)
      have S10 := Lib.hid (hfs.mark (D := D) (by have := HB.out.1; omega) (fun h => by have := HB.out.2.1 D h; omega) hdef)
      clear hfs hdef y0 y1 y2
      go_wp2_with fail
      refine HK.out _ _ (Handed.intro (n - 1) (by have := HSJ.out; omega) (HJ.out _ _ _ ⟨j + 1, D :: Ds, M1, F1, r1, .func (.func f) #[] caps, .bool true, .pointer (some ⟨g0, o0 + j, none⟩), .func (.func f) #[] caps, .func (.func f) #[] caps, .int .i64 ((j : Int) + 1), by have := HSJ.out; omega, rfl, ?_⟩))
      rw [HLC.out.2, addAll_append, List.length_append]
      exact S10.out
    · rintro D c i W' hD hi ⟨rfl, M1, F1, r1, L1, c1, hfs, hfull, hc1⟩ hdef
      have S10 := Lib.hid (hfs.mark (D := D) (by have := HB.out.1; omega) (fun h => by have := HB.out.2.1 D h; omega) hdef)
      have HF := Lib.hid (And.intro hfull hc1)
      clear hfs hdef y0 y1 y2 hfull hc1
      go_wp2_with fail
      refine leaves_marks (D :: Ds) W' S10.out.nd (fun D' hD' => (S10.out.ms D' hD').2) (fun W'' hk'' => ?_)
      have S11 := Lib.hid (S10.out.unmark hk'')
      clear hk''
      refine ⟨by simp, .inr ⟨fun _ => by decide, .func 110, #[.pointer (some ⟨z7, 0, none⟩), .pointer (some ⟨z3, 0, none⟩), .pointer (some ⟨z8, 0, none⟩)], 110, #[.pointer (some ⟨z7, 0, none⟩), .pointer (some ⟨z3, 0, none⟩), .pointer (some ⟨z8, 0, none⟩)], rfl, by simp [go_sem], fun _ _ => trivial, ?_⟩⟩
      refine (from1_no (b := b) z7 z3 z8 _ r1 L1.length bh 5 W'' (by decide) S11.out.eb.c0 (by decide) S11.out.lb S11.out.mb S11.out.ar HH.out.1 HH.out.2.1 S11.out.bk).mono ?_
      rintro e u' w' ⟨⟨v, rfl⟩, rfl, M', hbk, hkp, hlive, hstp⟩
      have hsb := S11.out.sb.kp hstp.kp S11.out.nf.2.2.1
      have heb := S11.out.eb.kp hstp.kp S11.out.nf.2.2.2.1
      obtain ⟨x0, x1, _, _⟩ := hsb.all
      have x2 := heb.c0
      have hz := S11.out.zs
      refine ⟨.tuple #[.agg #[.int .i64 0, .int .i64 0], .int .i64 5], by simp [results, Tryz.results49, go_sem, x0, x1, x2], .inr ⟨M', _, rfl, ?_, hstp.ar, S11.out.hh.kp hstp.kp S11.out.nb, fun hf => hf.elim S11.out.nb (fun e => by have := S11.out.hh.lt; omega), fun q hf => hf.elim (S11.out.fr q) (fun e => .inr (by have := S11.out.old.size; omega)), S11.out.old.trans hstp.kp (fun q hq => (S11.out.fr q hq).imp .inl id), hbk, S11.out.keeps.trans hkp, ?_⟩⟩
      · have h1 := HF.out; have h2 := S11.out.live; have h3 := HLC.out.1; omega
      · have h1 := HF.out; have h2 := S11.out.live; have h3 := HLC.out.1; omega
  · obtain rfl : j = ss.length := by omega
    rw [List.take_length] at S
    obtain ⟨x0, x1, x2, x3⟩ := S.out.sb.all
    obtain ⟨x4, x5⟩ := S.out.eb.all
    obtain ⟨x6, x7, _⟩ := S.out.mb.all
    have x8 : z6 ≠ z7 := by have := S.out.zs; omega
    have x9 : z8 ≠ z6 ∧ z8 ≠ z7 := by have := S.out.zs; omega
    clear hlt
    go_wp2_with fail
    have zz := S.out.zs
    have k6 := kp2z wr z6 (.int .i64 ((addAll hs wb (keysOf ss) []).length : Int)) (.int .i64 (root : Int))
    have k7 := Kp.one ((wr.setCell ⟨z6, 0, none⟩ (.int .i64 ((addAll hs wb (keysOf ss) []).length : Int))).setCell ⟨z6, 1, none⟩ (.int .i64 (root : Int))) z7 0 (.int .i64 0)
    have kz : Kp (fun q => q = z6 ∨ q = z7) wr (((wr.setCell ⟨z6, 0, none⟩ (.int .i64 ((addAll hs wb (keysOf ss) []).length : Int))).setCell ⟨z6, 1, none⟩ (.int .i64 (root : Int))).setCell ⟨z7, 0, none⟩ (.int .i64 0)) := (k6.mono (fun q e _ => .inl e)).trans k7 (fun q e => .inl (.inr e))
    have q6 := ((S.out.sb.set0 (.int .i64 ((addAll hs wb (keysOf ss) []).length : Int))).set1 (.int .i64 (root : Int))).kp k7 (fun e => x8 e)
    have q7 := (S.out.eb.kp k6 (fun e => x8 e.symm)).set (.int .i64 0)
    have hms : ∀ D ∈ Ds, (((wr.setCell ⟨z6, 0, none⟩ (.int .i64 ((addAll hs wb (keysOf ss) []).length : Int))).setCell ⟨z6, 1, none⟩ (.int .i64 (root : Int))).setCell ⟨z7, 0, none⟩ (.int .i64 0)).heap[D]? = some (.deferred (some [])) := fun D hD => by
      obtain ⟨h1, h2⟩ := S.out.ms D hD
      exact (kz.block D (Array.getElem?_eq_some_iff.1 h2).1 (by omega)).trans h2
    generalize ((wr.setCell ⟨z6, 0, none⟩ (.int .i64 ((addAll hs wb (keysOf ss) []).length : Int))).setCell ⟨z6, 1, none⟩ (.int .i64 (root : Int))).setCell ⟨z7, 0, none⟩ (.int .i64 0) = W9 at kz q6 q7 hms ⊢
    refine leaves_marks Ds W9 S.out.nd hms (fun W'' hk'' => ?_)
    have nD : ∀ z, z ≤ z8 → z ∉ Ds := fun z hz hD => by have := (S.out.ms z hD).1; omega
    have p6 := q6.kp hk'' (nD z6 (by omega))
    have p7 := q7.kp hk'' (nD z7 (by omega))
    refine ⟨by simp, .inr ⟨fun _ => by decide, .func 110, #[.pointer (some ⟨z7, 0, none⟩), .pointer (some ⟨z3, 0, none⟩), .pointer (some ⟨z8, 0, none⟩)], 110, #[.pointer (some ⟨z7, 0, none⟩), .pointer (some ⟨z3, 0, none⟩), .pointer (some ⟨z8, 0, none⟩)], rfl, by simp [go_sem], fun _ _ => trivial, ?_⟩⟩
    refine (from1_ok z7 z3 z8 _ W'' p7.c0).mono ?_
    rintro e u' w' ⟨⟨v, rfl⟩, rfl, rfl⟩
    obtain ⟨x0, x1, _, _⟩ := p6.all
    have x2 := p7.c0
    have kk : Kp (fun q => q = z6 ∨ q = z7 ∨ q ∈ Ds) wr w' := (kz.mono (fun q e _ => e.elim .inl (fun e => .inr (.inl e)))).trans hk'' (fun q e => .inl (.inr (.inr e)))
    have hF : ∀ q, LeastF wr b most F q → ¬ (q = z6 ∨ q = z7 ∨ q ∈ Ds) := fun q hq h => by
      rcases h with rfl | rfl | h
      · exact S.out.nf.2.2.1 hq.1
      · exact S.out.nf.2.2.2.1 hq.1
      · have := LeastF.cells S.out.ar hq (S.out.ms q h).2
        cases this
    have FR : FromR w0 w' F0 b bh seed most M0 P M (LeastF wr b most F) [root] (keysOf ss).length := by
      refine ⟨S.out.ar.least.kp kk hF, S.out.hh.kp kk (fun h => ?_), fun hf => S.out.nb hf.1, fun q hf => S.out.fr q hf.1, S.out.old.trans kk (fun q h => .inr ?_), S.out.bk, S.out.keeps, S.out.live⟩
      · rcases h with h | h | h
        · omega
        · omega
        · have := (S.out.ms bh h).1; omega
      · rcases h with h | h | h
        · omega
        · omega
        · have := (S.out.ms q h).1; omega
    refine ⟨.tuple #[.agg #[.int .i64 ((addAll hs wb (keysOf ss) []).length : Int), .int .i64 (root : Int)], .int .i64 0], by simp [results, Tryz.results49, go_sem, x0, x1, x2], .inl ?_⟩
    simp only [keysOf, List.length_flatMap] at FR
    exact ⟨root, rfl, M, ⟨_, FR⟩, S.out.mp⟩
end
end Go.Proofs.YtdddhmipifkepaaGreat

namespace Go.Proofs.YtdddhmipifkepaaGreat
set_option maxRecDepth 100000
set_option linter.unusedSimpArgs false
set_option linter.unusedVariables false
open Go.RowKit Go.Shelf
theorem GivesL.map {α β : Type} {P : Program} {f : FuncId} {args : Value → Array Value} {encs : α → Array Value} {encs' : β → Array Value} {Kp : Nat → World → World → Prop} {xs : List α} {w : World} (g : α → β) (he : ∀ x, encs' (g x) = encs x) (h : GivesL P f args encs Kp xs w) : GivesL P f args encs' Kp (xs.map g) w := by
  intro l J Jx W hW h1 h2 hJ hJx hY h0
  refine (h l J Jx W hW h1 h2 hJ hJx (fun i x A hx hj => ?_) h0).mono ?_
  · have := hY i (g x) A (by rw [List.getElem?_map, hx]; rfl) hj
    rw [he] at this
    exact this
  · rintro e B ⟨hv, hj⟩
    rw [List.length_map]
    exact ⟨hv, hj⟩
section
variable {b bh seed most : Nat} {hs : Ky → Nat} {M0 : Cells} {P : Nat → Nat} {F0 : Nat → Prop}
theorem seq_of (w0 : World) (zl zs N root : Nat) (l : List Pr) (h0 : Ar w0 b most M0 F0) (hz : M0 0 = none) (hT : Mp M0 hs root l) (hr : Rt P root) (hx : l.length ≤ 4096) (q1 : C2 w0 zl 26 (ap b) (.pointer (some ⟨bh, 0, none⟩))) (q2 : C2 w0 zs 54 (.int .i64 (N : Int)) (.int .i64 (root : Int))) (hn : ¬ F0 zl ∧ ¬ F0 zs ∧ zl ≠ bh ∧ zs ≠ bh) (W : World) (M : Cells) (F : Nat → Prop) (hk : Kp (fun q => F0 q ∨ q = bh) w0 W) (ha : Ar W b most M F) (hp : Keeps P M0 M) :
    GivesL Tryz.prog 112 (fun v => #[] ++ #[v] ++ #[.pointer (some ⟨zl, 0, none⟩), .pointer (some ⟨zs, 0, none⟩)]) (fun k : Ky => #[xagg k]) (fun lp => Kx w0 F0 bh M0 P W.heap.size lp b most) (l.map Prod.fst) W := by
  have hpr : Pres M0 M root := by
    rcases hr with rfl | hr
    · exact pres_zero hz
    · by_cases e : root = 0
      · subst e; exact pres_zero hz
      · exact hp root e hr
  refine GivesL.map Prod.fst (fun _ => rfl) ((values_gives (bh := bh) (N := N) zl zs W hx hz hT ⟨M, F, ha, hpr⟩ (q1.kp hk (fun e => e.elim hn.1 hn.2.2.1)) (q2.kp hk (fun e => e.elim hn.2.1 hn.2.2.2))).mono (fun lp A B h => h.kw root hr))
theorem FromR.base {w w0 w' : World} {M' : Cells} {F' : Nat → Prop} {hx : List Nat} {cnt : Nat} (h : FromR w0 w' F0 b bh seed most M0 P M' F' hx cnt) (hb : Below w.heap.size w w0) : FromR w w' F0 b bh seed most M0 P M' F' hx cnt :=
  ⟨h.ar, h.hh, h.nb, fun q hf => (h.fr q hf).imp id (fun e => Nat.le_trans hb.size e), (Kp.of_below hb (fun q => F0 q ∨ q = bh)).trans h.kp (fun q e => .inl e), h.bk, h.keeps, h.live⟩
theorem FromR.kpz {w w' w'' : World} {M' : Cells} {F' : Nat → Prop} {hx : List Nat} {cnt : Nat} {G : Nat → Prop} (h : FromR w w' F0 b bh seed most M0 P M' F' hx cnt) (hk : Kp G w' w'') (hG : ∀ q, G q → w.heap.size ≤ q ∧ ¬ F' q ∧ q ≠ bh) : FromR w w'' F0 b bh seed most M0 P M' F' hx cnt :=
  ⟨h.ar.kp hk (fun q hf hg => (hG q hg).2.1 hf), h.hh.kp hk (fun hg => (hG _ hg).2.2 rfl), h.nb, h.fr, h.kp.trans hk (fun q hg => .inr (hG q hg).1), h.bk, h.keeps, h.live⟩
theorem or1 (k : Ky) (w : World) : Calls Tryz.prog 102 #[xagg k] w fun e w' => e = .returned (.bool true) ∧ Below w.heap.size w w' := by
  have HB := Lib.hid (show Below w.heap.size w (w.alloc (.cells #[.int .u8 k.1, .int .i64 k.2.1, .string k.2.2] 36)) from (Below.refl _ w).alloc (Nat.le_refl _) _)
  go_enter Tryz.func102, Tryz.ntmps102
  go_wp2_with fail
  go_ret
  exact ⟨rfl, HB.out⟩
theorem and1 (z3 z5 N root : Nat) (l : List Pr) (k : Ky) (w : World) {M : Cells} {F : Nat → Prop} (h : Ar w b most M F) (hz : M 0 = none) (hT : Mp M hs root l) (hh : Hs w bh seed) (nbh : ¬ F bh) (hhs : ∀ q, OkK q → hs q = hashN seed q.1 q.2.1 q.2.2) (hk : OkK k) (hlen : l.length ≤ 1024) (q3 : C2 w z3 26 (ap b) (.pointer (some ⟨bh, 0, none⟩))) (q5 : C2 w z5 54 (.int .i64 (N : Int)) (.int .i64 (root : Int))) :
    Calls Tryz.prog 103 #[xagg k, .pointer (some ⟨z3, 0, none⟩), .pointer (some ⟨z5, 0, none⟩)] w fun e w' => e = .returned (.bool (hasB k l)) ∧ Kp (fun q => q = bh) w w' ∧ Hs w' bh seed := by
  have hb : Below w.heap.size w (w.alloc (.cells #[.int .u8 k.1, .int .i64 k.2.1, .string k.2.2] 36)) := (Below.refl _ w).alloc (Nat.le_refl _) _
  have HH := Lib.hid (vHas (l := l) b bh seed root N k _ (h.below hb) hz hT (hh.below hb) nbh hhs hk hlen)
  have q3' := q3.below hb
  have q5' := q5.below hb
  have q6 := C3.new w 36 (.int .u8 k.1) (.int .i64 k.2.1) (.string k.2.2)
  have HB := Lib.hid hb
  clear h hz hT hh nbh hhs hk hlen q3 q5 hb
  go_enter Tryz.func103, Tryz.ntmps103
  go_upto_region 1 with fail
  generalize w.alloc (.cells #[.int .u8 k.1, .int .i64 k.2.1, .string k.2.2] 36) = W1 at HH q3' q5' q6 HB ⊢
  obtain ⟨x0, x1, _⟩ := q3'.all
  obtain ⟨x2, x3, _⟩ := q5'.all
  obtain ⟨x4, x5, x6, _⟩ := q6.all
  clear q3' q5' q6
  go_wp2_with fail
  refine HH.out.mono ?_
  rintro e w2 ⟨rfl, hk2, hh2⟩
  have H2 := Lib.hid (And.intro ((Kp.of_below HB.out (fun q => q = bh)).trans hk2 (fun q e => .inl e)) hh2)
  clear hk2 hh2 x0 x1 x2 x3 x4 x5 x6
  go_wp2_with fail
  go_ret
  exact ⟨rfl, H2.out⟩
theorem minus1 (z3 z5 N root : Nat) (l : List Pr) (k : Ky) (w : World) {M : Cells} {F : Nat → Prop} (h : Ar w b most M F) (hz : M 0 = none) (hT : Mp M hs root l) (hh : Hs w bh seed) (nbh : ¬ F bh) (hhs : ∀ q, OkK q → hs q = hashN seed q.1 q.2.1 q.2.2) (hk : OkK k) (hlen : l.length ≤ 1024) (q3 : C2 w z3 26 (ap b) (.pointer (some ⟨bh, 0, none⟩))) (q5 : C2 w z5 54 (.int .i64 (N : Int)) (.int .i64 (root : Int))) :
    Calls Tryz.prog 104 #[xagg k, .pointer (some ⟨z3, 0, none⟩), .pointer (some ⟨z5, 0, none⟩)] w fun e w' => e = .returned (.bool (!hasB k l)) ∧ Kp (fun q => q = bh) w w' ∧ Hs w' bh seed := by
  have hb : Below w.heap.size w (w.alloc (.cells #[.int .u8 k.1, .int .i64 k.2.1, .string k.2.2] 36)) := (Below.refl _ w).alloc (Nat.le_refl _) _
  have HH := Lib.hid (vHas (l := l) b bh seed root N k _ (h.below hb) hz hT (hh.below hb) nbh hhs hk hlen)
  have q3' := q3.below hb
  have q5' := q5.below hb
  have q6 := C3.new w 36 (.int .u8 k.1) (.int .i64 k.2.1) (.string k.2.2)
  have HB := Lib.hid hb
  clear h hz hT hh nbh hhs hk hlen q3 q5 hb
  go_enter Tryz.func104, Tryz.ntmps104
  go_upto_region 1 with fail
  generalize w.alloc (.cells #[.int .u8 k.1, .int .i64 k.2.1, .string k.2.2] 36) = W1 at HH q3' q5' q6 HB ⊢
  obtain ⟨x0, x1, _⟩ := q3'.all
  obtain ⟨x2, x3, _⟩ := q5'.all
  obtain ⟨x4, x5, x6, _⟩ := q6.all
  clear q3' q5' q6
  go_wp2_with fail
  refine HH.out.mono ?_
  rintro e w2 ⟨rfl, hk2, hh2⟩
  have H2 := Lib.hid (And.intro ((Kp.of_below HB.out (fun q => q = bh)).trans hk2 (fun q e => .inl e)) hh2)
  clear hk2 hh2 x0 x1 x2 x3 x4 x5 x6
  go_wp2_with fail
  go_ret
  exact ⟨rfl, H2.out⟩
end
end Go.Proofs.YtdddhmipifkepaaGreat
