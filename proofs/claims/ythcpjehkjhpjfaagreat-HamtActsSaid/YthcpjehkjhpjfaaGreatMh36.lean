/- Several texts in one. -/
import Derived.Test.YthcpjehkjhpjfaaGreatMh23
import Derived.Test.YthcpjehkjhpjfaaGreatMh27
import Derived.Test.YthcpjehkjhpjfaaGreatMh35
import Derived.Test.YthcpjehkjhpjfaaGreatMh34
import Derived.IntWalk
namespace Go.Proofs.YthcpjehkjhpjfaaGreat
set_option maxRecDepth 100000
open Go Go.RowKit

section
variable {α : Type} {P : Program}
theorem wp_range9 {g : Operand} {ps : Array Tmp} {assign body : Code} {Q : Exit → Act → World → Prop} {a : Act} {w : World} {f : FuncId} {first last : Array Value}
    (hg : a.eval g = .func (.func f) first last) (hf : ∀ (args : Array Value) (w : World), (callFunc f args).run P w = .ok (.enter f args) w) {encs : α → Array Value} {Kp : World → World → Prop} {xs : List α} (hps : ∀ x, (encs x).size = ps.size)
    (hseq : Gives8 P f (fun v => first ++ #[v] ++ last) encs Kp xs w)
    (hKt : ∀ {A B C : World}, Kp A B → Kp B C → Kp A C) (hKb : ∀ (W : World) (l : Nat) (o o' : Obj), w.heap.size ≤ l → W.heap[l]? = some o → o.isCells = false → o.isWalk = false → Kp W (W.putObj l o'))
    (I : Nat → World → Prop) (Ix : Code → Nat → World → Prop) (hI : OwnFrom w.heap.size I) (hIx : ∀ c, OwnFrom w.heap.size (Ix c)) (h0 : I 0 w)
    (hKB : ∀ A B : World, Below A.heap.size A B → Kp A B)
    (hround : ∀ (l i : Nat) (x : α) (W : World), xs[i]? = some x → I i W → w.heap.size ≤ W.heap.size → assign.wpIn (Fence.wide.inRound l) 0 P (Exit.then (fun a₁ Wa => Below W.heap.size W Wa ∧ ∃ J : Nat → World → Prop, OwnFrom w.heap.size J ∧ J i Wa ∧ ∀ W', J i W' → Wa.heap.size ≤ W'.heap.size → body.wpIn (Fence.wide.inRound l) 0 P (roundOf8 Kp I Ix (i + 1) W') a₁ W') (fun _ _ _ => False)) { tmps := (ps.zip (encs x)).foldl (fun t (p, v) => t.setIfInBounds p v) a.tmps, defers := [] } W)
    (hdone : ∀ (D : Nat) (W : World), w.heap.size ≤ D → I xs.length W → W.heap[D]? = some (.deferred (some [])) → Q .normal { a with defers := { target := .collected D, args := #[] } :: a.defers } W)
    (hstop : ∀ (D : Nat) (c : Code) (i : Nat) (W : World), w.heap.size ≤ D → i ≤ xs.length → Ix c i W → W.heap[D]? = some (.deferred (some [])) → c.wp P Q { a with defers := { target := .collected D, args := #[] } :: a.defers } W) :
    (Code.rangeFunc g ps assign body).wp P Q a w := by
  refine (wpIn_wide (n := 1)).1 (wpIn_rangeFunc fun fn hfn => ?_)
  obtain ⟨rec, hrec⟩ : ∃ rec : LoopState → Option Code → Loop, rec = fun st pe => { state := st, pending := pe, fn, tmps := a.tmps, params := ps, assign, body, defers := w.heap.size } := ⟨_, rfl⟩
  obtain ⟨W1, hW1⟩ : ∃ W1, W1 = (w.alloc (.deferred (some []))).alloc (.loop (rec .ready none)) := ⟨_, rfl⟩
  have hb1 : Below w.heap.size w W1 := by rw [hW1]; exact ((Below.refl _ w).alloc (Nat.le_refl _) _).alloc (by simp) _
  have hB1 : Books w.heap.size (rec .ready none) W1 := by
    rw [hW1]
    refine ⟨?_, (Below.heap_alloc _ _ _ (by simp)).trans (World.alloc_heap_new w _)⟩
    have := World.alloc_heap_new (w.alloc (.deferred (some []))) (.loop (rec .ready none))
    rwa [World.size_alloc] at this
  refine ⟨w.heap.size + 1, [{ target := .collected w.heap.size, args := #[] }], W1, { target := .fn (.func f) last, args := first ++ #[.func (.yield (w.heap.size + 1)) #[] #[]] }, W1, f, first ++ #[.func (.yield (w.heap.size + 1)) #[] #[]] ++ last, W1, ?_, ?_, fun _ _ => trivial, ?_, fun _ => Nat.le_refl 1, ?_⟩
  · rw [hW1, hrec]; exact run_enterLoop_outer _ _ _ _ _
  · simp only [resolve, hg]
    simp [go_sem, Deferred.ofValue]
  · simp only [invoke]
    exact hf _ _
  · refine callsIn_wide.2 ((hseq (w.heap.size + 1) (fun i W => I i W ∧ Books w.heap.size (rec .ready none) W) (fun i W => ∃ c, Ix c i W ∧ Books w.heap.size (rec .done (some c)) W) W1 hb1
      (fun i A B h hg => ⟨below_own hI h.1 hg, h.2.below hg⟩) (fun i A B ⟨c, h, hk⟩ hg => ⟨c, below_own (hIx c) h hg, hk.below hg⟩) ?_ ⟨below_own hI h0 hb1, hB1⟩).mono ?_)
    · rintro i x W hx ⟨hi, hk⟩
      have hlt : w.heap.size + 1 < W.heap.size := (Array.getElem?_eq_some_iff.1 hk.row).1
      have hy := run_yield (P := P) (args := encs x) hk.row (by rw [hrec]; exact hps x)
      rw [hrec] at hy
      have hszW : w.heap.size ≤ W.heap.size := by omega
      refine ⟨fn, _, assign, body, hy, roundIn_of_wpIn hfn (wpIn_mono (hround (w.heap.size + 1) i x W hx hi hszW) ?_)⟩
      rintro (_ | _ | _ | _ | _ | _) a1 Wa ha <;> first | exact ha.elim | skip
      obtain ⟨hbl, J, hJ, hj, hwalk⟩ := ha
      have hk' := hk.below hbl
      have hbegin := run_beginRound (P := P) hk'.row (by rw [hrec])
      have hk2 := hk'.put { rec .ready none with state := .busy }
      have hp2 : Kp Wa (Wa.putObj (w.heap.size + 1) (.loop { rec .ready none with state := .busy })) := hKb _ _ _ _ (by omega) hk'.row rfl rfl
      have hj2 := hJ.putObj (.loop { rec .ready none with state := .busy }) hj (Nat.le_succ _) hk'.row rfl
      have hsz : Wa.heap.size ≤ (Wa.putObj (w.heap.size + 1) (.loop { rec .ready none with state := .busy })).heap.size := by
        simp [World.putObj]
      have hend : ∀ (j : Option Code) (B : World), KeepsOthers (Wa.putObj (w.heap.size + 1) (.loop { rec .ready none with state := .busy })) B →
          (Instr.endRound (w.heap.size + 1) j).run P B = .ok (.bool j.isNone) (B.putObj (w.heap.size + 1) (.loop (rec (if j.isNone then .ready else .done) j))) ∧ Books w.heap.size { rec .ready none with state := .busy } B := fun j B hB => by
        have hk3 := hk2.keeps hB
        refine ⟨?_, hk3⟩
        have := run_endRound (P := P) j hk3.row
        rw [hrec] at this ⊢
        exact this
      refine ⟨_, hbegin, wpIn_mono (hwalk _ hj2 hsz) ?_⟩
      intro e a3 B hp
      cases e with
      | normal =>
        obtain ⟨hkp, hK, hI3⟩ := hp
        obtain ⟨hr, hk3⟩ := hend none B hkp
        exact ⟨_, _, hr, .inl ⟨rfl, ⟨hI.putObj _ hI3 (Nat.le_succ _) hk3.row rfl, hk3.put _⟩, hKt (hKt (hKt (hKB _ _ hbl) hp2) hK) (hKb _ _ _ _ (Nat.le_succ _) hk3.row rfl rfl)⟩⟩
      | ret =>
        obtain ⟨hkp, hK, hI3⟩ := hp
        obtain ⟨hr, hk3⟩ := hend (some .ret) B hkp
        exact ⟨_, _, hr, .inr ⟨rfl, ⟨.ret, (hIx _).putObj _ hI3 (Nat.le_succ _) hk3.row rfl, hk3.put _⟩, hKt (hKt (hKt (hKB _ _ hbl) hp2) hK) (hKb _ _ _ _ (Nat.le_succ _) hk3.row rfl rfl)⟩⟩
      | exit k =>
        obtain ⟨hkp, hK, hI3⟩ := hp
        obtain ⟨hr, hk3⟩ := hend (some (.exit k)) B hkp
        exact ⟨_, _, hr, .inr ⟨rfl, ⟨.exit k, (hIx _).putObj _ hI3 (Nat.le_succ _) hk3.row rfl, hk3.put _⟩, hKt (hKt (hKt (hKB _ _ hbl) hp2) hK) (hKb _ _ _ _ (Nat.le_succ _) hk3.row rfl rfl)⟩⟩
      | goto k =>
        obtain ⟨hkp, hK, hI3⟩ := hp
        obtain ⟨hr, hk3⟩ := hend (some (.goto k)) B hkp
        exact ⟨_, _, hr, .inr ⟨rfl, ⟨.goto k, (hIx _).putObj _ hI3 (Nat.le_succ _) hk3.row rfl, hk3.put _⟩, hKt (hKt (hKt (hKB _ _ hbl) hp2) hK) (hKb _ _ _ _ (Nat.le_succ _) hk3.row rfl rfl)⟩⟩
      | panic _ => exact hp.elim
      | outgrown => exact hp.elim
    · rintro e B ⟨⟨v, rfl⟩, ⟨hi, hk⟩ | ⟨i, hle, c, hi, hk⟩⟩
      · have hr := run_endLoop (P := P) hk.row (by rw [hrec]; simp)
        exact ⟨none, _, by rw [hr, hrec], hdone _ _ (Nat.le_refl _) (hI.putObj _ hi (Nat.le_succ _) hk.row rfl) ((World.putObj_heap_other (by omega)).trans hk.def')⟩
      · have hr := run_endLoop (P := P) hk.row (by rw [hrec]; simp)
        exact ⟨some c, _, by rw [hr, hrec], wpIn_wide.2 (hstop _ c i _ (Nat.le_refl _) hle ((hIx c).putObj _ hi (Nat.le_succ _) hk.row rfl) ((World.putObj_heap_other (by omega)).trans hk.def'))⟩
end

end Go.Proofs.YthcpjehkjhpjfaaGreat

namespace Go.Proofs.YthcpjehkjhpjfaaGreat
set_option maxRecDepth 100000
set_option linter.unusedSimpArgs false
open Go.RowKit Go.Shelf
attribute [local go_sem] Oper.semAt_some
theorem KeepsOthers.of_kp {A B : World} {G : Nat → Prop} (h : Kp G A B) (hG : ∀ q o, G q → A.heap[q]? = some o → o.isCells = true) : KeepsOthers A B :=
  ⟨h.size, fun k o hk ho => by
    have hlt : k < A.heap.size := (Array.getElem?_eq_some_iff.1 hk).1
    rw [h.block k hlt (fun hg => by rw [hG k o hg hk] at ho; cases ho)]
    exact hk⟩
structure SR (W0 : World) (n5 ze zk zg : Nat) (e : En) (k : Ky) (i : Nat) (vg : Value) (W : World) : Prop where
  bel : Below W0.heap.size W0 W
  eb : C4 W ze 37 (.int .i64 (e.l.length : Int)) (.int .i64 (e.root : Int)) e.s (.int .u32 e.ow)
  kb : C3 W zk 43 (.int .u8 k.1) (.int .i64 k.2.1) (.string k.2.2)
  gb : C1 W zg 34 vg
  own : W.ownsRow n5 78 6 vg i ((e.l.take i).flatMap pcells)
  zs : W0.heap.size ≤ ze ∧ W0.heap.size ≤ zk ∧ W0.heap.size ≤ zg ∧ ze < n5 ∧ zk < n5 ∧ zg < n5 ∧ ze ≠ zk ∧ ze ≠ zg ∧ zk ≠ zg ∧ n5 ≤ W.heap.size
section
variable {n5 ze zk zg i : Nat} {W0 W W' : World} {e : En} {k : Ky} {vg : Value}
theorem SR.kp {G : Nat → Prop} (h : SR W0 n5 ze zk zg e k i vg W) (hk : Kp G W W') (hG : ∀ q, G q → W0.heap.size ≤ q ∧ q ≠ ze ∧ q ≠ zk ∧ q ≠ zg ∧ vg.ownBlock ≠ some q) : SR W0 n5 ze zk zg e k i vg W' := by
  obtain ⟨s1, s2, s3, s4, s5, s6, s7, s8, s9, s10⟩ := h.zs
  have := hk.size
  exact ⟨below_kp h.bel hk (fun q hq => (hG q hq).1), h.eb.kp hk (fun hg => (hG _ hg).2.1 rfl), h.kb.kp hk (fun hg => (hG _ hg).2.2.1 rfl), h.gb.kp hk (fun hg => (hG _ hg).2.2.2.1 rfl), hk.own h.own (fun q hq hg => (hG q hg).2.2.2.2 hq), ⟨s1, s2, s3, s4, s5, s6, s7, s8, s9, by omega⟩⟩
theorem SR.below (h : SR W0 n5 ze zk zg e k i vg W) (hb : Below W.heap.size W W') : SR W0 n5 ze zk zg e k i vg W' :=
  h.kp (Kp.of_below hb (fun _ => False)) (fun _ h => h.elim)
theorem SR.grown {row : Option Nat} (h : SR W0 n5 ze zk zg e k i vg W) (hg : W.grownBy W' row) (hr : ∀ r, row = some r → n5 ≤ r ∧ ∃ o : Obj, W.heap[r]? = some o ∧ o.isCells = false) : SR W0 n5 ze zk zg e k i vg W' := by
  obtain ⟨s1, s2, s3, s4, s5, s6, s7, s8, s9, s10⟩ := h.zs
  refine h.kp (Kp.of_grown hg (fun q e => .inl e)) (fun q e => ?_)
  obtain ⟨h1, o, h2, h3⟩ := hr q e
  refine ⟨by omega, by omega, by omega, by omega, fun hv => ?_⟩
  obtain ⟨cur, hc⟩ := own_type h.own q hv
  rw [h2] at hc
  obtain rfl := Option.some.inj hc
  cases h3
theorem C6.own {t b : Nat} {x0 x1 x2 x3 x4 x5 : Value} {row : Option Nat} (h : C6 W b t x0 x1 x2 x3 x4 x5) (hg : W.grownBy W' row) (hr : ∀ r, row = some r → ∃ o : Obj, W.heap[r]? = some o ∧ o.isCells = false) : C6 W' b t x0 x1 x2 x3 x4 x5 :=
  h.kp (Kp.of_grown hg (F := fun q => row = some q) (fun q e => .inl e)) (fun e => by
    obtain ⟨o, h2, h3⟩ := hr b e
    have h1 : W.heap[b]? = some _ := h
    rw [h2] at h1
    rw [Option.some.inj h1] at h3
    cases h3)
theorem SR.next {v' : Value} {p : Pr} {W2 W3 : World} (h : SR W0 n5 ze zk zg e k i vg W) (hp : e.l[i]? = some p) (hb : Below W.heap.size W W2) (ho : W3.ownsRow n5 78 6 v' (i + 1) ((e.l.take i).flatMap pcells ++ pcells p)) (hg : W2.grownBy W3 vg.ownBlock) :
    SR W0 n5 ze zk zg e k (i + 1) v' (W3.setCell ⟨zg, 0, none⟩ v') ∧ Kp (fun q => q = zg ∨ vg.ownBlock = some q) W (W3.setCell ⟨zg, 0, none⟩ v') := by
  obtain ⟨s1, s2, s3, s4, s5, s6, s7, s8, s9, s10⟩ := h.zs
  have hs2 := hb.size
  have hs3 := (Kp.of_grown hg (F := fun q => vg.ownBlock = some q) (fun q e => .inl e)).size
  have k2 : Kp (fun q => vg.ownBlock = some q) W W3 := (Kp.of_below hb _).trans (Kp.of_grown hg (fun q e => .inl e)) (fun q e => .inl e)
  have kz : Kp (fun q => q = zg) W3 (W3.setCell ⟨zg, 0, none⟩ v') := Kp.one W3 zg 0 v'
  have hblk : ∀ q, vg.ownBlock = some q → n5 ≤ q := fun q hq => (own_blk h.own q hq).1
  have hv' : ∀ q, v'.ownBlock = some q → n5 ≤ q := fun q hq => (own_blk ho q hq).1
  refine ⟨⟨below_kp (below_kp h.bel k2 (fun q hq => by have := hblk q hq; omega)) kz (fun q e => by omega), (h.eb.kp k2 (fun e => by have := hblk _ e; omega)).kp kz s8, (h.kb.kp k2 (fun e => by have := hblk _ e; omega)).kp kz s9, (h.gb.kp k2 (fun e => by have := hblk _ e; omega)).set _, ?_, ⟨s1, s2, s3, s4, s5, s6, s7, s8, s9, by simp; omega⟩⟩, (k2.mono (fun q h _ => .inr h)).trans kz (fun q h => .inl (.inl h))⟩
  rw [List.take_add_one, hp, List.flatMap_append]
  refine kz.own (by simpa using ho) (fun q hq e => ?_)
  have := hv' q hq
  omega
theorem SR.kv {most root n : Nat} {M0 M : Cells} {F : Nat → Prop} {b : Nat} (h : SR W0 n5 ze zk zg e k i vg W) (ha : Ar W b most M F) (hF : ∀ q, F q → q < W0.heap.size) (hn5 : n5 ≤ n) (hk : Kp (fun q => q = zg ∨ vg.ownBlock = some q) W W') : Kv n b most M0 root W W' ∧ KeepsOthers W W' := by
  obtain ⟨s1, s2, s3, s4, s5, s6, s7, s8, s9, s10⟩ := h.zs
  refine ⟨Kv.of_kp ha hk (fun q hq hf => ?_) (fun q cur t hq hn hc => ?_), KeepsOthers.of_kp hk (fun q o hq ho => ?_)⟩
  · have := hF q hf
    rcases hq with rfl | hq
    · omega
    · have := (own_blk h.own q hq).1; omega
  · rcases hq with rfl | hq
    · omega
    · obtain ⟨cur', hc'⟩ := own_type h.own q hq
      rw [hc] at hc'
      simp only [Option.some.injEq, Obj.cells.injEq] at hc'
      rw [hc'.2.1]
      unfold Vt
      decide
  · rcases hq with rfl | hq
    · have h1 : W.heap[q]? = some _ := h.gb
      rw [ho] at h1
      rw [Option.some.inj h1]
      rfl
    · obtain ⟨cur', hc'⟩ := own_type h.own q hq
      rw [ho] at hc'
      rw [Option.some.inj hc']
      rfl
end
structure SL (W0 : World) (bh seed base n5 ze zk zg D : Nat) (e : En) (k : Ky) (vg : Value) (W : World) : Prop where
  kp : Kp (fun q => q = bh) W0 W
  hh : Hs W bh seed
  eb : C4 W ze 37 (.int .i64 (e.l.length : Int)) (.int .i64 (e.root : Int)) e.s (.int .u32 e.ow)
  kb : C3 W zk 43 (.int .u8 k.1) (.int .i64 k.2.1) (.string k.2.2)
  gb : C1 W zg 34 vg
  own : W.ownsRow n5 78 6 vg e.l.length (e.l.flatMap pcells)
  so : W.ownsRow base 78 6 e.s e.l.length (e.l.flatMap pcells)
  hd : W.heap[D]? = some (.deferred (some []))
  zs : bh < W0.heap.size ∧ W0.heap.size ≤ n5 ∧ n5 ≤ W.heap.size ∧ ze < n5 ∧ zk < n5 ∧ zg < n5 ∧ bh < ze ∧ bh < zk ∧ bh < zg ∧ n5 ≤ D ∧ ∀ q, e.s.ownBlock = some q → q ≠ bh ∧ q < n5
section
variable {W0 W W' : World} {bh seed base n5 ze zk zg D : Nat} {e : En} {k : Ky} {vg : Value}
theorem SL.kpz {G : Nat → Prop} (h : SL W0 bh seed base n5 ze zk zg D e k vg W) (hk : Kp G W W') (hG : ∀ q, G q → n5 ≤ q ∧ vg.ownBlock ≠ some q ∧ q ≠ D) : SL W0 bh seed base n5 ze zk zg D e k vg W' := by
  obtain ⟨s1, s2, s3, s4, s5, s6, s7, s8, s9, s10, s11⟩ := h.zs
  have := hk.size
  refine ⟨h.kp.trans hk (fun q hg => .inr (by have := (hG q hg).1; omega)), h.hh.kp hk (fun hg => by have := (hG _ hg).1; omega), h.eb.kp hk (fun hg => by have := (hG _ hg).1; omega), h.kb.kp hk (fun hg => by have := (hG _ hg).1; omega), h.gb.kp hk (fun hg => by have := (hG _ hg).1; omega), hk.own h.own (fun q hq hg => (hG q hg).2.1 hq), hk.own h.so (fun q hq hg => by have := (hG q hg).1; have := (s11 q hq).2; omega), ?_, ⟨s1, s2, by omega, s4, s5, s6, s7, s8, s9, s10, s11⟩⟩
  rw [hk.block D (Array.getElem?_eq_some_iff.1 h.hd).1 (fun hg => (hG D hg).2.2 rfl)]
  exact h.hd
theorem SL.below (h : SL W0 bh seed base n5 ze zk zg D e k vg W) (hb : Below W.heap.size W W') : SL W0 bh seed base n5 ze zk zg D e k vg W' :=
  h.kpz (Kp.of_below hb (fun _ => False)) (fun _ h => h.elim)
theorem SL.hash (h : SL W0 bh seed base n5 ze zk zg D e k vg W) (hk : Kp (fun q => q = bh) W W') (hh : Hs W' bh seed) : SL W0 bh seed base n5 ze zk zg D e k vg W' := by
  obtain ⟨s1, s2, s3, s4, s5, s6, s7, s8, s9, s10, s11⟩ := h.zs
  have := hk.size
  refine ⟨h.kp.trans hk (fun q hg => .inl hg), hh, h.eb.kp hk (by omega), h.kb.kp hk (by omega), h.gb.kp hk (by omega), hk.own h.own (fun q hq hg => by have := (own_blk h.own q hq).1; omega), hk.own h.so (fun q hq hg => (s11 q hq).1 hg), ?_, ⟨s1, s2, by omega, s4, s5, s6, s7, s8, s9, s10, s11⟩⟩
  rw [hk.block D (Array.getElem?_eq_some_iff.1 h.hd).1 (by omega)]
  exact h.hd
end
end Go.Proofs.YthcpjehkjhpjfaaGreat
