/- Several texts in one. -/
import Derived.Test.YtaapcfoaaopihaaGreatMt09
import Derived.Test.YtaapcfoaaopihaaGreatMt07
import Derived.Test.YtaapcfoaaopihaaGreatMt06
namespace Go.Proofs.YtaapcfoaaopihaaGreat
set_option maxRecDepth 100000
open Go Go.RowKit

section
variable {α : Type} {P : Program}
theorem wp_range9 {g : Operand} {ps : Array Tmp} {assign body : Code} {Q : Exit → Act → World → Prop} {a : Act} {w : World} {f : FuncId} {first last : Array Value}
    (hg : a.eval g = .func (.func f) first last) (hf : ∀ (args : Array Value) (w : World), (callFunc f args).run P w = .ok (.enter f args) w) {encs : α → Array Value} {Kp : World → World → Prop} {xs : List α} (hps : ∀ x, (encs x).size = ps.size)
    (hseq : Gives8 P f (fun v => first ++ #[v] ++ last) encs Kp xs w)
    (hKt : ∀ {A B C : World}, Kp A B → Kp B C → Kp A C) (hKb : ∀ (W : World) (l : Nat) (o o' : Obj), w.heap.size ≤ l → W.heap[l]? = some o → o.isCells = false → o.isWalk = false → Kp W (W.putObj l o'))
    (I : Nat → World → Prop) (Ix : Code → Nat → World → Prop) (hI : OwnFrom w.heap.size I) (hIx : ∀ c, OwnFrom w.heap.size (Ix c)) (h0 : I 0 w)
    (hKB : ∀ A B : World, Below A.heap.size A B → Kp A B)
    (hround : ∀ (l i : Nat) (x : α) (W : World), xs[i]? = some x → I i W → w.heap.size ≤ W.heap.size → assign.wpIn (Fence.wide.inRound l) 0 P (Exit.then (fun a₁ Wa => Below W.heap.size W Wa ∧ ∃ J : Nat → World → Prop, OwnFrom w.heap.size J ∧ J i Wa ∧ ∀ W', J i W' → Wa.heap.size ≤ W'.heap.size → body.wpIn (Fence.wide.inRound l) 0 P (roundOf8 Kp I Ix (i + 1) W') a₁ W') (fun _ _ _ => False)) { tmps := (ps.zip (encs x)).foldl (fun t (p, v) => t.setIfInBounds p v) a.tmps, defers := [] } W)
    (hdone : ∀ (D : Nat) (W : World), w.heap.size ≤ D → I xs.length W → W.heap[D]? = some (.deferred (some [])) → Q .normal { a with defers := { target := .collected D, args := #[] } :: a.defers } W)
    (hstop : ∀ (D : Nat) (c : Code) (i : Nat) (W : World), w.heap.size ≤ D → i ≤ xs.length → Ix c i W → W.heap[D]? = some (.deferred (some [])) → c.wp P Q { a with defers := { target := .collected D, args := #[] } :: a.defers } W) :
    (Code.rangeFunc g ps assign body).wp P Q a w := by
  refine (wpIn_wide (n := 1)).1 (wpIn_rangeFunc fun fn hfn => ?_)
  obtain ⟨rec, hrec⟩ : ∃ rec : LoopState → Option Code → Loop, rec = fun st pe => { state := st, pending := pe, fn, tmps := a.tmps, params := ps, assign, body, defers := w.heap.size } := ⟨_, rfl⟩
  obtain ⟨W1, hW1⟩ : ∃ W1, W1 = (w.alloc (.deferred (some []))).alloc (.loop (rec .ready none)) := ⟨_, rfl⟩
  have hb1 : Below w.heap.size w W1 := by rw [hW1]; exact ((Below.refl _ w).alloc (Nat.le_refl _) _).alloc (by simp) _
  have hB1 : Books w.heap.size (rec .ready none) W1 := by
    rw [hW1]
    refine ⟨?_, (Below.heap_alloc _ _ _ (by simp)).trans (World.alloc_heap_new w _)⟩
    have := World.alloc_heap_new (w.alloc (.deferred (some []))) (.loop (rec .ready none))
    rwa [World.size_alloc] at this
  refine ⟨w.heap.size + 1, [{ target := .collected w.heap.size, args := #[] }], W1, { target := .fn (.func f) last, args := first ++ #[.func (.yield (w.heap.size + 1)) #[] #[]] }, W1, f, first ++ #[.func (.yield (w.heap.size + 1)) #[] #[]] ++ last, W1, ?_, ?_, fun _ _ => trivial, ?_, fun _ => Nat.le_refl 1, ?_⟩
  · rw [hW1, hrec]; exact run_enterLoop_outer _ _ _ _ _
  · simp only [resolve, hg]
    simp [go_sem, Deferred.ofValue]
  · simp only [invoke]
    exact hf _ _
  · refine callsIn_wide.2 ((hseq (w.heap.size + 1) (fun i W => I i W ∧ Books w.heap.size (rec .ready none) W) (fun i W => ∃ c, Ix c i W ∧ Books w.heap.size (rec .done (some c)) W) W1 hb1
      (fun i A B h hg => ⟨below_own hI h.1 hg, h.2.below hg⟩) (fun i A B ⟨c, h, hk⟩ hg => ⟨c, below_own (hIx c) h hg, hk.below hg⟩) ?_ ⟨below_own hI h0 hb1, hB1⟩).mono ?_)
    · rintro i x W hx ⟨hi, hk⟩
      have hlt : w.heap.size + 1 < W.heap.size := (Array.getElem?_eq_some_iff.1 hk.row).1
      have hy := run_yield (P := P) (args := encs x) hk.row (by rw [hrec]; exact hps x)
      rw [hrec] at hy
      have hszW : w.heap.size ≤ W.heap.size := by omega
      refine ⟨fn, _, assign, body, hy, roundIn_of_wpIn hfn (wpIn_mono (hround (w.heap.size + 1) i x W hx hi hszW) ?_)⟩
      rintro (_ | _ | _ | _ | _ | _) a1 Wa ha <;> first | exact ha.elim | skip
      obtain ⟨hbl, J, hJ, hj, hwalk⟩ := ha
      have hk' := hk.below hbl
      have hbegin := run_beginRound (P := P) hk'.row (by rw [hrec])
      have hk2 := hk'.put { rec .ready none with state := .busy }
      have hp2 : Kp Wa (Wa.putObj (w.heap.size + 1) (.loop { rec .ready none with state := .busy })) := hKb _ _ _ _ (by omega) hk'.row rfl rfl
      have hj2 := hJ.putObj (.loop { rec .ready none with state := .busy }) hj (Nat.le_succ _) hk'.row rfl
      have hsz : Wa.heap.size ≤ (Wa.putObj (w.heap.size + 1) (.loop { rec .ready none with state := .busy })).heap.size := by
        simp [World.putObj]
      have hend : ∀ (j : Option Code) (B : World), KeepsOthers (Wa.putObj (w.heap.size + 1) (.loop { rec .ready none with state := .busy })) B →
          (Instr.endRound (w.heap.size + 1) j).run P B = .ok (.bool j.isNone) (B.putObj (w.heap.size + 1) (.loop (rec (if j.isNone then .ready else .done) j))) ∧ Books w.heap.size { rec .ready none with state := .busy } B := fun j B hB => by
        have hk3 := hk2.keeps hB
        refine ⟨?_, hk3⟩
        have := run_endRound (P := P) j hk3.row
        rw [hrec] at this ⊢
        exact this
      refine ⟨_, hbegin, wpIn_mono (hwalk _ hj2 hsz) ?_⟩
      intro e a3 B hp
      cases e with
      | normal =>
        obtain ⟨hkp, hK, hI3⟩ := hp
        obtain ⟨hr, hk3⟩ := hend none B hkp
        exact ⟨_, _, hr, .inl ⟨rfl, ⟨hI.putObj _ hI3 (Nat.le_succ _) hk3.row rfl, hk3.put _⟩, hKt (hKt (hKt (hKB _ _ hbl) hp2) hK) (hKb _ _ _ _ (Nat.le_succ _) hk3.row rfl rfl)⟩⟩
      | ret =>
        obtain ⟨hkp, hK, hI3⟩ := hp
        obtain ⟨hr, hk3⟩ := hend (some .ret) B hkp
        exact ⟨_, _, hr, .inr ⟨rfl, ⟨.ret, (hIx _).putObj _ hI3 (Nat.le_succ _) hk3.row rfl, hk3.put _⟩, hKt (hKt (hKt (hKB _ _ hbl) hp2) hK) (hKb _ _ _ _ (Nat.le_succ _) hk3.row rfl rfl)⟩⟩
      | exit k =>
        obtain ⟨hkp, hK, hI3⟩ := hp
        obtain ⟨hr, hk3⟩ := hend (some (.exit k)) B hkp
        exact ⟨_, _, hr, .inr ⟨rfl, ⟨.exit k, (hIx _).putObj _ hI3 (Nat.le_succ _) hk3.row rfl, hk3.put _⟩, hKt (hKt (hKt (hKB _ _ hbl) hp2) hK) (hKb _ _ _ _ (Nat.le_succ _) hk3.row rfl rfl)⟩⟩
      | goto k =>
        obtain ⟨hkp, hK, hI3⟩ := hp
        obtain ⟨hr, hk3⟩ := hend (some (.goto k)) B hkp
        exact ⟨_, _, hr, .inr ⟨rfl, ⟨.goto k, (hIx _).putObj _ hI3 (Nat.le_succ _) hk3.row rfl, hk3.put _⟩, hKt (hKt (hKt (hKB _ _ hbl) hp2) hK) (hKb _ _ _ _ (Nat.le_succ _) hk3.row rfl rfl)⟩⟩
      | panic _ => exact hp.elim
      | outgrown => exact hp.elim
    · rintro e B ⟨⟨v, rfl⟩, ⟨hi, hk⟩ | ⟨i, hle, c, hi, hk⟩⟩
      · have hr := run_endLoop (P := P) hk.row (by rw [hrec]; simp)
        exact ⟨none, _, by rw [hr, hrec], hdone _ _ (Nat.le_refl _) (hI.putObj _ hi (Nat.le_succ _) hk.row rfl) ((World.putObj_heap_other (by omega)).trans hk.def')⟩
      · have hr := run_endLoop (P := P) hk.row (by rw [hrec]; simp)
        exact ⟨some c, _, by rw [hr, hrec], wpIn_wide.2 (hstop _ c i _ (Nat.le_refl _) hle ((hIx c).putObj _ hi (Nat.le_succ _) hk.row rfl) ((World.putObj_heap_other (by omega)).trans hk.def'))⟩
end

end Go.Proofs.YtaapcfoaaopihaaGreat

namespace Go.Proofs.YtaapcfoaaopihaaGreat
set_option maxRecDepth 100000
open Go.RowKit Go.Shelf
theorem Mp.pres {M M' : Cells} {hs : Ky → Nat} {root : Nat} {l : List Pr} (h : Mp M hs root l) (hz : M 0 = none) (hp : root ≠ 0 → Pres M M' root) : Mp M' hs root l := by
  rcases h with h | h
  · exact .inl h
  · refine .inr (h.pres hz (hp fun e => ?_))
    subst e
    cases h with
    | leaf h => have := h.cell; rw [hz] at this; cases this
    | node h => have := h.cell; rw [hz] at this; cases this
theorem KeepsOthers.of_kp {A B : World} {G : Nat → Prop} (h : Kp G A B) (hG : ∀ q o, G q → A.heap[q]? = some o → o.isCells = true) : KeepsOthers A B :=
  ⟨h.size, fun k o hk ho => by
    have hlt : k < A.heap.size := (Array.getElem?_eq_some_iff.1 hk).1
    rw [h.block k hlt (fun hg => by rw [hG k o hg hk] at ho; cases ho)]
    exact hk⟩
section
variable {W W' : World}
theorem C6.own {t b : Nat} {x0 x1 x2 x3 x4 x5 : Value} {row : Option Nat} (h : C6 W b t x0 x1 x2 x3 x4 x5) (hg : W.grownBy W' row) (hr : ∀ r, row = some r → ∃ o : Obj, W.heap[r]? = some o ∧ o.isCells = false) : C6 W' b t x0 x1 x2 x3 x4 x5 :=
  h.kp (Kp.of_grown hg (F := fun q => row = some q) (fun q e => .inl e)) (fun e => by
    obtain ⟨o, h2, h3⟩ := hr b e
    have h1 : W.heap[b]? = some _ := h
    rw [h2] at h1
    rw [Option.some.inj h1] at h3
    cases h3)
end
section
variable {b most : Nat} {M : Cells} {P : Nat → Nat} {F : Nat → Prop}
end
end Go.Proofs.YtaapcfoaaopihaaGreat

namespace Go.Proofs.YtaapcfoaaopihaaGreat
set_option linter.unusedVariables false
abbrev h0 : Ky → Nat := fun _ => 0
theorem h0_klt {a b : Ky} : klt h0 a b ↔ vc a b = -1 := klt_vc (pt_self 0)
structure Nv where
  key : Ky
  val : Ky
  cell : Nat
  low : Option Addr
  high : Option Addr
  shared : Nat
  rank : Int
  kx : Nat
  ky : Nat
  fresh : Nat
structure NdC (M : Cells) (i : Nat) (c : Hc) (r : Nat) (k v : Ky) (x y : Nat) : Prop where
  cell : M i = some (c, r)
  ne : i ≠ 0
  vals : c.vals = [k, v]
  kids : c.kids = [x, y]
inductive TT (M : Cells) : Nat → List Pr → Prop
  | nil : TT M 0 []
  | node {i r x y : Nat} {c : Hc} {k v : Ky} {lx ly : List Pr} (hn : NdC M i c r k v x y) (hx : TT M x lx) (hy : TT M y ly) (hs : Srt h0 (lx ++ (k, v) :: ly)) : TT M i (lx ++ (k, v) :: ly)
section
variable {M M' : Cells} {i x y : Nat} {l lx ly la lb pre suf ln : List Pr} {k v : Ky}
theorem TT.srt (h : TT M i l) : Srt h0 l := by
  cases h with
  | nil => exact List.Pairwise.nil
  | node _ _ _ hs => exact hs
theorem TT.zero (h : TT M 0 l) : l = [] := by
  generalize hi : 0 = i at h
  cases h with
  | nil => rfl
  | node hn => exact absurd hi.symm hn.ne
theorem TT.inv (h : TT M i l) (hi : i ≠ 0) : ∃ c r k v x y lx ly, NdC M i c r k v x y ∧ TT M x lx ∧ TT M y ly ∧ l = lx ++ (k, v) :: ly := by
  cases h with
  | nil => exact absurd rfl hi
  | node hn hx hy _ => exact ⟨_, _, _, _, _, _, _, _, hn, hx, hy, rfl⟩
theorem NdC.pres {c : Hc} {r : Nat} (h : NdC M i c r k v x y) (hp : Pres M M' i) : ∃ r', NdC M' i c r' k v x y := by
  obtain ⟨r', e⟩ := hp _ _ _ .refl h.cell
  exact ⟨r', e, h.ne, h.vals, h.kids⟩
theorem NdC.presx {c : Hc} {r : Nat} (h : NdC M i c r k v x y) (hp : Pres M M' i) (h0 : x ≠ 0) : Pres M M' x := hp.kid h.cell (by rw [h.kids]; simp) h0
theorem NdC.presy {c : Hc} {r : Nat} (h : NdC M i c r k v x y) (hp : Pres M M' i) (h0 : y ≠ 0) : Pres M M' y := hp.kid h.cell (by rw [h.kids]; simp) h0
theorem TT.pres (h : TT M i l) (hp : i ≠ 0 → Pres M M' i) : TT M' i l := by
  induction h with
  | nil => exact .nil
  | node hn hx hy hs ihx ihy =>
    obtain ⟨r', hn'⟩ := hn.pres (hp hn.ne)
    exact .node hn' (ihx fun h0 => hn.presx (hp hn.ne) h0) (ihy fun h0 => hn.presy (hp hn.ne) h0) hs
def NdN (M : Cells) (n : Nv) : Prop := ∃ c r, NdC M n.cell c r n.key n.val n.kx n.ky
theorem NdN.pres {n : Nv} (h : NdN M n) (hp : Pres M M' n.cell) : NdN M' n := by
  obtain ⟨c, r, hc⟩ := h
  obtain ⟨r', h'⟩ := hc.pres hp
  exact ⟨c, r', h'⟩
theorem NdN.ne {n : Nv} (h : NdN M n) : n.cell ≠ 0 := by
  obtain ⟨c, r, hc⟩ := h
  exact hc.ne
theorem NdN.presx {n : Nv} (h : NdN M n) (hp : Pres M M' n.cell) (h0 : n.kx ≠ 0) : Pres M M' n.kx := by
  obtain ⟨c, r, hc⟩ := h
  exact hc.presx hp h0
theorem NdN.presy {n : Nv} (h : NdN M n) (hp : Pres M M' n.cell) (h0 : n.ky ≠ 0) : Pres M M' n.ky := by
  obtain ⟨c, r, hc⟩ := h
  exact hc.presy hp h0
inductive Ch (M : Cells) (k : Ky) : List Nv → Nat → Nat → List Pr → List Pr → Nat → Nat → List Pr → List Pr → List Pr → List Pr → Prop
  | nil {x y : Nat} {lx ly : List Pr} (hx : TT M x lx) (hy : TT M y ly) : Ch M k [] x y lx ly x y lx ly [] []
  | xr {n : Nv} {cl : List Nv} {y x' y' : Nat} {la lb ly lx' ly' pre suf : List Pr} (hn : NdN M n) (hlt : klt h0 n.key k) (ha : TT M n.kx la) (h : Ch M k cl n.ky y lb ly x' y' lx' ly' pre suf) : Ch M k (n :: cl) n.cell y (la ++ (n.key, n.val) :: lb) ly x' y' lx' ly' (la ++ (n.key, n.val) :: pre) suf
  | xl {n : Nv} {cl : List Nv} {x' y' : Nat} {la lb lx' ly' pre suf : List Pr} (hn : NdN M n) (hgt : klt h0 k n.key) (hb : TT M n.ky lb) (h : Ch M k cl n.kx 0 la [] x' y' lx' ly' pre suf) : Ch M k (n :: cl) n.cell 0 (la ++ (n.key, n.val) :: lb) [] x' y' lx' ly' pre (suf ++ (n.key, n.val) :: lb)
  | yl {n : Nv} {cl : List Nv} {x x' y' : Nat} {la lb lx lx' ly' pre suf : List Pr} (hn : NdN M n) (hgt : klt h0 k n.key) (hb : TT M n.ky lb) (h : Ch M k cl x n.kx lx la x' y' lx' ly' pre suf) : Ch M k (n :: cl) x n.cell lx (la ++ (n.key, n.val) :: lb) x' y' lx' ly' pre (suf ++ (n.key, n.val) :: lb)
variable {cl : List Nv} {x' y' : Nat} {lx' ly' : List Pr}
theorem Ch.eq (h : Ch M k cl x y lx ly x' y' lx' ly' pre suf) : lx ++ ly = pre ++ (lx' ++ ly') ++ suf := by
  induction h with
  | nil => simp
  | xr _ _ _ _ ih => simp only [List.append_assoc, List.cons_append] at ih ⊢; rw [ih]
  | xl _ _ _ _ ih => simp only [List.append_assoc, List.append_nil] at ih ⊢; rw [ih]; simp only [List.append_assoc]
  | yl _ _ _ _ ih => simp only [List.append_assoc] at ih ⊢; rw [← List.append_assoc, ih]; simp only [List.append_assoc]
theorem Ch.pres (h : Ch M k cl x y lx ly x' y' lx' ly' pre suf) : (x ≠ 0 → Pres M M' x) → (y ≠ 0 → Pres M M' y) → Ch M' k cl x y lx ly x' y' lx' ly' pre suf := by
  induction h with
  | nil hx hy => exact fun px py => .nil (hx.pres px) (hy.pres py)
  | xr hn hlt ha _ ih => exact fun px py => .xr (hn.pres (px hn.ne)) hlt (ha.pres fun h => hn.presx (px hn.ne) h) (ih (fun h => hn.presy (px hn.ne) h) py)
  | xl hn hgt hb _ ih => exact fun px py => .xl (hn.pres (px hn.ne)) hgt (hb.pres fun h => hn.presy (px hn.ne) h) (ih (fun h => hn.presx (px hn.ne) h) py)
  | yl hn hgt hb _ ih => exact fun px py => .yl (hn.pres (py hn.ne)) hgt (hb.pres fun h => hn.presy (py hn.ne) h) (ih px (fun h => hn.presx (py hn.ne) h))
theorem Ch.presEnd (h : Ch M k cl x y lx ly x' y' lx' ly' pre suf) : (x ≠ 0 → Pres M M' x) → (y ≠ 0 → Pres M M' y) → (x' ≠ 0 → Pres M M' x') ∧ (y' ≠ 0 → Pres M M' y') := by
  induction h with
  | nil => exact fun px py => ⟨px, py⟩
  | xr hn _ _ _ ih => exact fun px py => ih (fun h => hn.presy (px hn.ne) h) py
  | xl hn _ _ _ ih => exact fun px py => ih (fun h => hn.presx (px hn.ne) h) py
  | yl hn _ _ _ ih => exact fun px py => ih px (fun h => hn.presx (py hn.ne) h)
theorem Ch.endy (h : Ch M k cl x y lx ly x' y' lx' ly' pre suf) : TT M y' ly' := by
  induction h with
  | nil _ hy => exact hy
  | xr _ _ _ _ ih => exact ih
  | xl _ _ _ _ ih => exact ih
  | yl _ _ _ _ ih => exact ih
theorem Ch.len (h : Ch M k cl x y lx ly x' y' lx' ly' pre suf) : cl.length + lx'.length + ly'.length ≤ lx.length + ly.length := by
  induction h with
  | nil => simp
  | xr _ _ _ _ ih => simp only [List.length_cons, List.length_append] at ih ⊢; omega
  | xl _ _ _ _ ih => simp only [List.length_cons, List.length_append, List.length_nil] at ih ⊢; omega
  | yl _ _ _ _ ih => simp only [List.length_cons, List.length_append] at ih ⊢; omega
theorem Ch.snoc_r {n : Nv} {ml mr : List Pr} (h : Ch M k cl x y lx ly n.cell y' (ml ++ (n.key, n.val) :: mr) ly' pre suf) (hn : NdN M n) (hlt : klt h0 n.key k) (ha : TT M n.kx ml) (hb : TT M n.ky mr) (hy : TT M y' ly') : Ch M k (cl ++ [n]) x y lx ly n.ky y' mr ly' (pre ++ (ml ++ [(n.key, n.val)])) suf := by
  generalize hx : n.cell = c at h
  generalize hl : ml ++ (n.key, n.val) :: mr = m at h
  induction h with
  | nil _ _ => subst hx hl; exact .xr hn hlt ha (.nil hb hy)
  | xr h1 h2 h3 _ ih => have := Ch.xr h1 h2 h3 (ih hy hx hl); simpa using this
  | xl h1 h2 h3 _ ih => have := Ch.xl h1 h2 h3 (ih hy hx hl); simpa using this
  | yl h1 h2 h3 _ ih => have := Ch.yl h1 h2 h3 (ih hy hx hl); simpa using this
end
end Go.Proofs.YtaapcfoaaopihaaGreat

namespace Go.Proofs.YtaapcfoaaopihaaGreat
set_option maxRecDepth 100000
set_option linter.unusedVariables false
open Go.RowKit
def FX (F X : Nat → Prop) : Nat → Prop := fun q => F q ∨ X q
structure RnY (w w' : World) (b most : Nat) (M' : Cells) (F X F2 : Nat → Prop) : Prop where
  ar : Ar w' b most M' F2
  kp : Kp (FX F X) w w'
  sub : ∀ q, F2 q → F q ∨ w.heap.size ≤ q
structure StpX (w w' : World) (b most : Nat) (M' : Cells) (F X : Nat → Prop) : Prop where
  ar : Ar w' b most M' (Fn F w w')
  kp : Kp (FX F X) w w'
section
variable {w w' w'' : World} {b most : Nat} {M' M'' : Cells} {F F' X : Nat → Prop}
theorem Kp.fx {G : Nat → Prop} (h : Kp G w w') (hG : ∀ q, G q → F q ∨ X q) : Kp (FX F X) w w' := ⟨h.os, h.tape, h.output, h.size, fun q hq hn => h.block q hq (fun hf => hn (hG q hf))⟩
theorem RnY.stp (h : RnY w w' b most M' F X F') (k : Stp w' w'' b most M'' F') : RnY w w'' b most M'' F X (Fn F' w' w'') :=
  ⟨k.ar, h.kp.trans k.kp (fun q hq => (h.sub q hq).imp .inl id), fun q hq => hq.elim (fun hq => h.sub q hq) (fun hq => .inr (Nat.le_trans h.kp.size hq.1))⟩
theorem RnY.fin (h : RnY w w' b most M' F X F') (hF : ∀ x, F x → x < w.heap.size) : StpX w w' b most M' F X :=
  ⟨h.ar.mono (fun x hx => (h.sub x hx).imp id (fun hx' => ⟨hx', h.ar.lt hx⟩)) (fun x hx => hx.elim (fun hx => Nat.lt_of_lt_of_le (hF x hx) h.kp.size) (fun hx => hx.2)), h.kp⟩
theorem RnY.mine {G : Nat → Prop} (h : RnY w w' b most M' F X F') (hk : Kp G w' w'') (hG : ∀ g, G g → w.heap.size ≤ g ∧ ¬ F' g) : RnY w w'' b most M' F X F' :=
  ⟨h.ar.kp hk (fun x hx hg => (hG x hg).2 hx), h.kp.trans hk (fun g hg => .inr (hG g hg).1), h.sub⟩
theorem RnY.of_rn {F1 F2 : Nat → Prop} {M1 : Cells} (h : Rn w w' b most M1 F F1) (k : RnY w' w'' b most M'' F1 X F2) : RnY w w'' b most M'' F X F2 :=
  ⟨k.ar, (h.kp.fx (fun q hq => .inl hq) : Kp (FX F X) w w').trans k.kp (fun q hq => hq.elim (fun hq => (h.sub q hq).imp .inl id) (fun hq => .inl (.inr hq))), fun q hq => (k.sub q hq).elim (fun hq => h.sub q hq) (fun hq => .inr (Nat.le_trans h.kp.size hq))⟩
end
def Steady (F : Nat → Prop) (w : World) (Z : World → Prop) : Prop := ∀ (W W' : World) (F' : Nat → Prop), Z W → Kp F' W W' → (∀ q, F' q → F q ∨ w.heap.size ≤ q) → Z W'
theorem Steady.of (F : Nat → Prop) (w : World) (p : Prop) : Steady F w (fun _ => p) := fun _ _ _ h _ _ => h
def ChgY (f : FuncId) (caps : Array Value) (b most : Nat) (F X : Nat → Prop) (o : Int) (w : World) (M1 : Cells) (c : Hc) (R : Hc → Cells → World → Prop) : Prop :=
  ∀ (v k : Value) (W : World) (F1 : Nat → Prop), Rn w W b most M1 F F1 → (∀ q, v.ownBlock = some q → ¬ F1 q) → (∀ q, k.ownBlock = some q → ¬ F1 q) → W.ownsRow w.heap.size 36 3 v c.vals.length (c.vals.flatMap cells3) → W.ownsRow w.heap.size 3 1 k c.kids.length (nums (ns c.kids)) →
    Calls Tryz.prog f (#[cagg o c.a c.b v k] ++ caps) W fun e W' => ∃ v' k' c' M2 F2, e = .returned (cagg o c'.a c'.b v' k') ∧ Rd W' v' c'.vals.length (c'.vals.flatMap cells3) ∧ Rd W' k' c'.kids.length (nums (ns c'.kids)) ∧ RnY w W' b most M2 F X F2 ∧ (∀ q, v'.ownBlock = some q → ¬ F2 q) ∧ (∀ q, k'.ownBlock = some q → ¬ F2 q) ∧ R c' M2 W'
section
variable {b most : Nat} {M : Cells} {F : Nat → Prop}
set_option maxRecDepth 100000 in
set_option maxHeartbeats 4000000 in
theorem vrenewY {X : Nat → Prop} (f : FuncId) (caps : Array Value) (R : Hc → Cells → World → Prop) (i : Nat) (ow : Int) (c0 : Hc) (w : World) (hX : ∀ x, X x → x < w.heap.size) (h : Ar w b most M F) (hf : ∀ (args : Array Value) (W : World), (callFunc f args).run Tryz.prog W = .ok (.enter f args) W) (hc0 : contC M i = c0) (hal : aloneB M i ow = false) (hch : ChgY f caps b most F X ow w (keepAll M c0.kids) c0 R)
    (hr : ∀ j, rf (M j) + c0.kids.length ≤ 4611686018427387900) (nl : c0.kids.length ≤ 4194304)
    (hZ : ∀ c' M2, Steady F w (R c' M2)) (hR : ∀ c' M2 W, R c' M2 W → live (most + 1) M2 < most ∧ (∀ j, rf (M2 j) ≤ 4611686018427387900) ∧ c'.vals.length ≤ 4194304 ∧ c'.kids.length ≤ 4194304 ∧ (ns c'.kids).all (goodB M2) = true) :
    Calls Tryz.prog 167 #[ap b, .int .i64 i, .int .u32 ow, .func (.func f) #[] caps] w fun e w' => ∃ n c' M2 M', e = .returned (.int .i64 (n : Nat)) ∧ R c' M2 w' ∧ 1 ≤ n ∧ n ≤ most ∧ M2 n = none ∧ Drops (upd M2 n (some ({ c' with owner := ow }, 1))) [i] M' ∧ StpX w w' b most M' F X := by
  have HA := Lib.hid h
  have HC := Lib.hid hch
  have HR := Lib.hid hr
  clear h hch hr
  have hget := vget i w HA.out
  rw [hc0] at hget
  go_enter Tryz.func167, Tryz.ntmps167
  go_wp2_with fail
  refine hget.mono ?_
  rintro e w1 ⟨v, k, rfl, o1, o2, hb1⟩
  obtain ⟨A1, m1, rfl, _⟩ := (Rd.of_own o1).form
  obtain ⟨A2, m2, rfl, _⟩ := (Rd.of_own o2).form
  have O1 := Lib.hid o1
  have O2 := Lib.hid o2
  have B1 := Lib.hid hb1
  clear o1 o2 hb1 hget
  go_wp2_with fail
  refine (valone i ow _ (HA.out.below (B1.out.alloc B1.out.size _))).mono ?_
  rintro e w2 ⟨rfl, hb2⟩
  rw [hal]
  have hb12 : Below w1.heap.size w1 w2 := ((Below.refl _ w1).alloc (Nat.le_refl _) _).trans (hb2.mono (by simp))
  have q1 := (C5.new w1 94 (.int .u32 c0.owner) (.int .u32 c0.a) (.int .u32 c0.b) (.slice A1 c0.vals.length m1) (.slice A2 c0.kids.length m2)).below hb2
  have HB2 := Lib.hid (B1.out.trans (hb12.mono B1.out.size))
  have HZ := Lib.hid (show w.heap.size ≤ w1.heap.size ∧ w1.heap.size < w2.heap.size from ⟨B1.out.size, q1.lt⟩)
  have HK0 := Lib.hid (Kept.mk (w2 := w2) (wr := w2) (B := w.heap.size) (c := c0) (j := 0) (M := M) (b := b) (most := most) (F := F) (Stp.refl (HA.out.below HB2.out)) q1 ((Kp.of_below hb12 (fun _ => False)).own O1.out (fun _ _ => id)) ((Kp.of_below hb12 (fun _ => False)).own O2.out (fun _ _ => id)))
  have HFX := Lib.hid (show ∀ x, FX F X x → x < w.heap.size from fun x hx => hx.elim (fun hx => HA.out.lt hx) (hX x))
  have HF := Lib.hid (show ∀ x, F x → x < w.heap.size from fun x hx => HA.out.lt hx)
  generalize w1.heap.size = z1 at q1 HZ HK0 ⊢
  have HB1 := Lib.hid B1.out.size
  clear O1 O2 B1 hb2 hb12
  obtain ⟨c1, c2, c3, c4, c5, _⟩ := q1.all
  clear q1
  go_wp2_with fail
  clear c1 c2 c3 c4 c5
  go_loopg [36] c0.kids.length (fun c' iv wr => ∃ j : Nat, j + c' = c0.kids.length ∧ iv = .int .i64 j ∧ Kept w2 wr b most M F w.heap.size z1 c0 (.slice A1 c0.vals.length m1) (.slice A2 c0.kids.length m2) j)
  case atStart => exact ⟨0, by omega, rfl, HK0.out⟩
  case round =>
    obtain ⟨j, hj, rfl, hK⟩ := hrel
    by_cases h1 : j < c0.kids.length
    · obtain ⟨x, hx⟩ : ∃ x, c0.kids[j]? = some x := ⟨_, List.getElem?_eq_getElem h1⟩
      obtain ⟨gx, cx, e, _, hcell, _⟩ := own_at hK.o2 (j := j) (u := .int .i64 (x : Int)) (by rw [nums_at]; unfold ns; rw [List.getElem?_map, hx]; rfl)
      simp only [Value.slice.injEq, true_and] at e
      obtain ⟨rfl, rfl⟩ := e
      have HK := Lib.hid hK
      have HX := Lib.hid hx
      clear hK hx
      have y3 : (0 : Int) ≤ (j : Int) := by omega
      have y4 : (j : Int) < (c0.kids.length : Int) := by omega
      have hrx : rf (keepAll M (c0.kids.take j) x) ≤ 4611686018427387904 := by
        have h1 := keepAll_rf (j := x) (l := c0.kids.take j) (M := M)
        have h2 := HR.out x
        rw [List.length_take] at h1
        omega
      go_wp2_with (go_at_call 76; refine (vkeep1 x _ HK.out.st.ar hrx).mono ?_; rintro e w3 ⟨⟨zz, rfl⟩, hs⟩; have HS := Lib.hid hs; clear hs)
      go_roundg (c0.kids.length - (j + 1))
      case measure => omega
      case rel =>
        refine ⟨j + 1, by omega, by go_num, ?_, HK.out.c5.kp HS.out.kp ?_, HS.out.kp.own HK.out.o1 (fun q hq hf' => ?_), HS.out.kp.own HK.out.o2 (fun q hq hf' => ?_)⟩
        · rw [List.take_add_one, HX.out, Option.toList_some, keepAll_snoc]
          exact HK.out.st.trans HS.out
        · rintro (hf' | hf')
          · have := HF.out _ hf'; have := HZ.out; omega
          · have := HZ.out; omega
        · have h1 := (HK0.out.o1.lt q hq)
          rcases hf' with hf' | hf'
          · have := HF.out _ hf'; omega
          · omega
        · have h1 := (HK0.out.o2.lt q hq)
          rcases hf' with hf' | hf'
          · have := HF.out _ hf'; omega
          · omega
    · obtain rfl : j = c0.kids.length := by omega
      have HK := Lib.hid hK
      clear hK
      obtain ⟨c1, c2, c3, c4, c5, f1, _⟩ := HK.out.c5.all
      have hzn : ¬ Fn F w2 wr z1 := by
        rintro (hf' | hf')
        · have := HF.out _ hf'; have := HZ.out; omega
        · have := HZ.out; omega
      have hvn : ∀ q, (Value.slice A1 c0.vals.length m1).ownBlock = some q → w.heap.size ≤ q ∧ ¬ Fn F w2 wr q := fun q hq => by
        have h1 := (HK0.out.o1.lt q hq)
        refine ⟨h1.1, ?_⟩
        rintro (hf' | hf')
        · have := HF.out _ hf'; omega
        · omega
      have hkn : ∀ q, (Value.slice A2 c0.kids.length m2).ownBlock = some q → w.heap.size ≤ q ∧ ¬ Fn F w2 wr q := fun q hq => by
        have h1 := (HK0.out.o2.lt q hq)
        refine ⟨h1.1, ?_⟩
        rintro (hf' | hf')
        · have := HF.out _ hf'; omega
        · omega
      have HVN := Lib.hid hvn
      have HKN := Lib.hid hkn
      have kz := Kp.one wr z1 0 (.int .u32 ow)
      have hz1 : w.heap.size ≤ z1 := by have := HZ.out; omega
      have kw := ((Kp.of_below HB2.out F).trans HK.out.st.kp (fun _ => .inl)).trans kz (fun q e => .inr (e ▸ hz1))
      have p1 := Lib.hid (kz.own HK.out.o1 (own_ne HK.out.o1 HK.out.c5 (by decide)))
      have p2 := Lib.hid (kz.own HK.out.o2 (own_ne HK.out.o2 HK.out.c5 (by decide)))
      have KW := Lib.hid kw
      have AW := Lib.hid (HK.out.st.ar.kp kz (fun q hq e => hzn (e ▸ hq)))
      clear kz kw hvn hkn
      go_wp2_with fail
      generalize wr.setCell ⟨z1, 0, none⟩ (.int .u32 ow) = w3 at p1 p2 KW AW ⊢
      have RN3 := Lib.hid (show Rn w w3 b most (keepAll M c0.kids) F (Fn F w2 wr) from ⟨by have := AW.out; rw [List.take_length] at this; exact this, KW.out, fun q hq => hq.elim .inl (fun hq => .inr (Nat.le_trans HB2.out.size hq.1))⟩)
      refine (HC.out _ _ w3 _ RN3.out (fun q hq => (HVN.out q hq).2) (fun q hq => (HKN.out q hq).2) p1.out p2.out).mono ?_
      rintro e w4 ⟨v', k', c', M2, F2, rfl, r1, r2, rn4, hn1, hn2, hr'⟩
      obtain ⟨A3, m3, rfl, _⟩ := r1.form
      obtain ⟨A4, m4, rfl, _⟩ := r2.form
      obtain ⟨hlv, hrf, nv, nk, hgd⟩ := hR c' M2 _ hr'
      have R1 := Lib.hid r1
      have R2 := Lib.hid r2
      have RN4 := Lib.hid rn4
      have N1 := Lib.hid hn1
      have N2 := Lib.hid hn2
      have HRR := Lib.hid hr'
      clear r1 r2 rn4 hn1 hn2 hr' c1 c2 c3 c4 c5 f1
      go_wp2_with fail
      refine (amake { c' with owner := ow } _ _ b most _ _ _ RN4.out.ar R1.out R2.out nv nk N1.out N2.out hgd hlv).mono ?_
      rintro e w5 ⟨n, rfl, n1, n2, n3, ha5, hk5⟩
      have RN5 := Lib.hid (RN4.out.stp (Stp.mk ha5 hk5))
      have HK5 := Lib.hid hk5
      have hr5 : ∀ q, rf (upd M2 n (some ({ c' with owner := ow }, 1)) q) ≤ 4611686018427387904 := fun q => by
        by_cases e : q = n
        · subst e; rw [upd_same]; show 1 ≤ _; decide
        · rw [upd_other _ _ e]
          exact Nat.le_trans (hrf q) (by decide)
      clear ha5 hk5
      go_wp2_with fail
      refine (vdrop1 i _ RN5.out.ar hr5).mono ?_
      rintro e w6 ⟨⟨zz, rfl⟩, M', hd, hs6⟩
      have HD := Lib.hid hd
      have HE := Lib.hid ((RN5.out.stp hs6).fin HF.out)
      have HZ6 := Lib.hid (hZ c' M2 _ _ _ HRR.out (HK5.out.trans hs6.kp (fun q hq => hq.imp id (fun hq => hq.1))) RN4.out.sub)
      clear hd hs6
      go_wp2_with fail
      go_ret
      exact ⟨n, c', M2, M', rfl, HZ6.out, n1, n2, n3, HD.out, HE.out⟩
end

section
variable {b most : Nat} {M : Cells} {F : Nat → Prop}
set_option maxRecDepth 100000 in
set_option maxHeartbeats 2000000 in
theorem vrenewY_in {X : Nat → Prop} (f : FuncId) (caps : Array Value) (R : Hc → Cells → World → Prop) (i : Nat) (ow : Int) (c0 : Hc) (w : World) (hX : ∀ x, X x → x < w.heap.size) (h : Ar w b most M F) (hf : ∀ (args : Array Value) (W : World), (callFunc f args).run Tryz.prog W = .ok (.enter f args) W) (hi : M i = some (c0, 1)) (ho : c0.owner = ow) (h0 : ¬ ow = 0) (hch : ChgY f caps b most F X ow w M c0 R)
    (hZ : ∀ c' M2, Steady F w (R c' M2)) (hR : ∀ c' M2 W, R c' M2 W → M2 i = some (c0, 1) ∧ c'.vals.length ≤ 4194304 ∧ c'.kids.length ≤ 4194304 ∧ (ns c'.kids).all (goodB M2) = true) :
    Calls Tryz.prog 167 #[ap b, .int .i64 i, .int .u32 ow, .func (.func f) #[] caps] w fun e w' => ∃ c' M2, e = .returned (.int .i64 (i : Int)) ∧ R c' M2 w' ∧ StpX w w' b most (upd M2 i (some ({ c' with owner := ow }, 1))) F X := by
  have hal : aloneB M i ow = true := by unfold aloneB; rw [hi]; simp [h0, ho]
  have HA := Lib.hid h
  have HI := Lib.hid hi
  have HC := Lib.hid hch
  have HFX := Lib.hid (show ∀ x, FX F X x → x < w.heap.size from fun x hx => hx.elim (fun hx => h.lt hx) (hX x))
  have HF := Lib.hid (show ∀ x, F x → x < w.heap.size from fun x hx => h.lt hx)
  clear h hi hch
  go_enter Tryz.func167, Tryz.ntmps167
  go_wp2_with fail
  refine (get i c0 1 b most M F _ HA.out HI.out).mono ?_
  rintro e w1 ⟨v, k, rfl, o1, o2, hb1⟩
  obtain ⟨A1, m1, rfl, _⟩ := (Rd.of_own o1).form
  obtain ⟨A2, m2, rfl, _⟩ := (Rd.of_own o2).form
  have O1 := Lib.hid o1
  have O2 := Lib.hid o2
  have B1 := Lib.hid hb1
  clear o1 o2 hb1
  go_wp2_with fail
  refine (valone i ow _ (HA.out.below (B1.out.alloc B1.out.size _))).mono ?_
  rintro e w2 ⟨rfl, hb2⟩
  rw [hal]
  have hb12 : Below w1.heap.size w1 w2 := ((Below.refl _ w1).alloc (Nat.le_refl _) _).trans (hb2.mono (by simp))
  have q1 := (C5.new w1 94 (.int .u32 ow) (.int .u32 c0.a) (.int .u32 c0.b) (.slice A1 c0.vals.length m1) (.slice A2 c0.kids.length m2)).below hb2
  have O1' := Lib.hid ((Kp.of_below hb12 (fun _ => False)).own O1.out (fun _ _ => id))
  have O2' := Lib.hid ((Kp.of_below hb12 (fun _ => False)).own O2.out (fun _ _ => id))
  have HB2 := Lib.hid (B1.out.trans (hb12.mono B1.out.size))
  generalize w1.heap.size = z1 at q1 ⊢
  obtain ⟨c1, c2, c3, c4, c5, _⟩ := q1.all
  clear O1 O2 B1 hb2 hb12 q1
  have HN1 := Lib.hid (show ∀ q, (Value.slice A1 c0.vals.length m1).ownBlock = some q → ¬ F q from fun q hq hf' => by
    have h1 := O1'.out.lt q hq
    have := HF.out q hf'; omega)
  have HN2 := Lib.hid (show ∀ q, (Value.slice A2 c0.kids.length m2).ownBlock = some q → ¬ F q from fun q hq hf' => by
    have h1 := O2'.out.lt q hq
    have := HF.out q hf'; omega)
  have RN2 := Lib.hid (show Rn w w2 b most M F F from Rn.below HA.out HB2.out)
  go_wp2_with fail
  refine (HC.out _ _ w2 F RN2.out HN1.out HN2.out O1'.out O2'.out).mono ?_
  rintro e w3 ⟨v', k', c', M2, F2, rfl, r1, r2, rn3, hn1, hn2, hr'⟩
  obtain ⟨A3, m3, rfl, _⟩ := r1.form
  obtain ⟨A4, m4, rfl, _⟩ := r2.form
  obtain ⟨hi2, nv, nk, hgd⟩ := hR c' M2 _ hr'
  have R1 := Lib.hid r1
  have R2 := Lib.hid r2
  have RN3 := Lib.hid rn3
  have HRR := Lib.hid hr'
  have HI2 := Lib.hid hi2
  clear r1 r2 rn3 hn1 hn2 hr' hi2 c1 c2 c3 c4 c5
  go_wp2_with fail
  refine (aeditO i ow ow c' c0 { c' with owner := ow } _ _ b most M2 _ _ RN3.out.ar HI2.out ho.symm h0 rfl R1.out R2.out nv nk hgd).mono ?_
  rintro e w4 ⟨rfl, ha4, hk4⟩
  have HE := Lib.hid ((RN3.out.stp (Stp.mk ha4 hk4)).fin HF.out)
  have HZ4 := Lib.hid (hZ c' M2 _ _ _ HRR.out hk4 RN3.out.sub)
  clear ha4 hk4
  go_wp2_with fail
  go_ret
  exact ⟨c', M2, rfl, HZ4.out, HE.out⟩
end

end Go.Proofs.YtaapcfoaaopihaaGreat

namespace Go.Proofs.YtaapcfoaaopihaaGreat
set_option maxRecDepth 100000
set_option linter.unusedVariables false
open Go.RowKit
structure FunX (most : Nat) (M1 : Cells) (H1 : List Nat) (P1 : Nat → Nat) (q : Nat) (Q : Hc → Cells → Prop) (ex : List Nat) (c' : Hc) (M2 : Cells) : Prop where
  bk : Bk (most + 1) M2 H1 P1 (c'.kids ++ ex)
  keeps : Keeps P1 (blank M1 H1) (blank M2 H1)
  holes : ∀ x ∈ H1, M2 x = M1 x
  live : live (most + 1) M2 ≤ Proofs.YtaapcfoaaopihaaGreat.live (most + 1) M1 + q
  nv : c'.vals.length ≤ 4194304
  nk : c'.kids.length ≤ 64
  nx : ex.length ≤ 64
  q : Q c' M2
structure RenX (most : Nat) (M : Cells) (H : List Nat) (P : Nat → Nat) (ow : Int) (q : Nat) (ex : List Nat) (n : Nat) (M' : Cells) (c' : Hc) (M2 : Cells) (H1 : List Nat) : Prop where
  pos : 1 ≤ n
  bk : Bk (most + 1) M' H P (n :: ex)
  cell : M' n = some ({ c' with owner := ow }, 1)
  keeps : Keeps P (blank M H) (blank M' H)
  kids : ∀ k ∈ c'.kids, k ≠ 0 → Pres (blank M2 H1) (blank M' H) k
  hand : ∀ k ∈ ex, k ≠ 0 → Pres (blank M2 H1) (blank M' H) k
  holes : ∀ x ∈ H, M' x = M x
  live : live (most + 1) M' ≤ Proofs.YtaapcfoaaopihaaGreat.live (most + 1) M + q
section
variable {b most : Nat} {M : Cells} {F : Nat → Prop} {H : List Nat} {P : Nat → Nat}
theorem renx_in {P0 : Nat → Nat} {i q : Nat} {ow : Int} {c0 c' : Hc} {M2 : Cells} {ex : List Nat} {Q : Hc → Cells → Prop} (hb : Bk (most + 1) M H P0 [i]) (hKP : Keeps P (blank M H) (blank M (i :: H))) (hP0 : P i = 0) (hM : M i = some (c0, 1)) (hq : FunX most M (i :: H) (addP P i) q Q ex c' M2) :
    RenX most M H P ow q ex i (upd M2 i (some ({ c' with owner := ow }, 1))) c' M2 (i :: H) := by
  have hi := hb.lt (j := i) (by rw [hM]; simp)
  have hiH := (hb.hand (i := i) (by simp) (by omega)).2
  have hM2 : M2 i = some (c0, 1) := (hq.holes i (by simp)).trans hM
  obtain ⟨f1, f2⟩ := Bk.fill (c := { c' with owner := ow }) (hs := ex) hq.bk hiH (fun x hx => by
    have h1 := (hq.bk.hole x (by simp [hx])).1
    have hxi : x ≠ i := fun e => hiH (e ▸ hx)
    unfold addP at h1
    rw [if_neg hxi] at h1
    omega) hM2 hq.nk
  have hnx : i ∉ ex := fun hx => by
    have b1 := hq.bk.bal (i := i) hi.1
    rw [hM2] at b1
    have b2 := List.count_pos_iff.2 hx
    have b3 := addP_self P i
    rw [List.count_append] at b1
    simp only [rf] at b1
    omega
  have hpf : ∀ r, r ≠ i → Pres (blank M2 (i :: H)) (blank (upd M2 i (some ({ c' with owner := ow }, 1))) H) r := fun r hr => hq.bk.pres_fill hiH hM2 hr
  refine ⟨hi.1, f1, upd_same _ _ _, fun r h0 hr => ?_, fun k hk h0 => hpf k (fun e => f2 (e ▸ hk)), fun k hk h0 => hpf k (fun e => hnx (e ▸ hk)), fun x hx => ?_, ?_⟩
  · have hri : r ≠ i := fun e => by rw [e] at hr; omega
    exact ((hKP r h0 hr).trans (hq.keeps r h0 (Nat.le_trans hr (addP_le _ _ _)))).trans (hpf r hri)
  · have hxi : x ≠ i := fun e => hiH (e ▸ hx)
    rw [upd_other _ _ hxi]
    exact hq.holes x (by simp [hx])
  · rw [live_upd_some _ (by rw [hM2]; simp)]
    exact hq.live
theorem renx_new {P0 : Nat → Nat} {i q n : Nat} {ow : Int} {c0 c' : Hc} {M1 M2 M' : Cells} {ex : List Nat} {Q : Hc → Cells → Prop} (hb : Bk (most + 1) M H P0 [i]) (hKP : Keeps P (blank M H) (blank M1 H)) (hw : Way1 most M H P0 i ow c0 M1 H) (hq : FunX most M1 H (addP P i) q Q ex c' M2) (hM1 : ∀ x ∈ H, M1 x = M x)
    (n1 : 1 ≤ n) (n2 : n ≤ most) (n3 : M2 n = none) (hd : Drops (upd M2 n (some ({ c' with owner := ow }, 1))) [i] M') : RenX most M H P ow (q + 1) ex n M' c' M2 H := by
  have hbm := Bk.make (c := { c' with owner := ow }) (hs := ex) hq.bk n1 (by omega) n3 hq.nk
  have hbm2 : Bk (most + 1) (upd M2 n (some ({ c' with owner := ow }, 1))) H P (i :: n :: ex) := hbm.move (fun k _ => by
    rw [show (i :: n :: ex).count k = (n :: ex).count k + (if i == k then 1 else 0) from List.count_cons]
    unfold addP
    by_cases ek : k = i
    · subst ek; simp; omega
    · rw [if_neg ek, if_neg (by simpa using Ne.symm ek)]; omega) (fun x hx => by
    have h1 := (hq.bk.hole x hx).1
    have hxi : x ≠ i := fun e => by
      have h2 := (hb.hole x hx).2
      by_cases h0 : i = 0
      · rw [e, h0, hb.zero] at h2; simp [rf] at h2
      · exact (hb.hand (i := i) (by simp) h0).2 (e ▸ hx)
    unfold addP at h1
    rw [if_neg hxi] at h1
    omega)
  obtain ⟨d1, d2, d3⟩ := hbm2.drop hd
  have hnH : n ∉ H := fun hx => by have := hq.bk.hole n hx; rw [n3] at this; simp [rf] at this
  have hn' := (d1.hand (i := n) (by simp) (by omega)).1
  have hcell : M' n = some ({ c' with owner := ow }, 1) := by
    cases e : M' n with
    | none => exact absurd e hn'
    | some y =>
      obtain ⟨r0, e0, l0⟩ := d2 n y.1 y.2 (by rw [blank_out hnH, e])
      rw [blank_out hnH, upd_same] at e0
      simp only [Option.some.injEq, Prod.mk.injEq] at e0
      have hp := d1.ok.pos n (by rw [blank_out hnH, e]; simp)
      rw [blank_out hnH, e] at hp
      simp only [rf] at hp
      have e1 : y.2 = 1 := by omega
      rw [e0.1, ← e1]
  have hpn : ∀ r, Pres (blank M2 H) (blank (upd M2 n (some ({ c' with owner := ow }, 1))) H) r := fun r => Pres.all (all_blank (all_new n3 _))
  refine ⟨n1, d1, hcell, fun r h0 hr => ?_, fun k hk h0 => ?_, fun k hk h0 => ?_, fun x hx => ?_, ?_⟩
  · have hr' : blank M' H r ≠ none := fun e => d1.held hr h0 (blank_none.1 e)
    exact (((hKP r h0 hr).trans (hq.keeps r h0 (Nat.le_trans hr (addP_le _ _ _)))).trans (hpn r)).trans (Pres.sub d2 d1.ok hr')
  · have hk' : blank M' H k ≠ none := d1.ok.kid (j := n) (by rw [blank_out hnH, hcell]; exact hk) h0
    exact (hpn k).trans (Pres.sub d2 d1.ok hk')
  · have hk' : blank M' H k ≠ none := fun e => (d1.hand (List.mem_cons_of_mem _ hk) h0).1 (blank_none.1 e)
    exact (hpn k).trans (Pres.sub d2 d1.ok hk')
  · have hxn : x ≠ n := fun e => hnH (e ▸ hx)
    rw [d3 x hx, upd_other _ _ hxn, hq.holes x hx, hM1 x hx]
  · have h1 : live (most + 1) M' ≤ live (most + 1) (upd M2 n (some ({ c' with owner := ow }, 1))) := live_mono fun j hj => by
      have : blank M' H j ≠ none := fun e => hj (blank_none.1 e)
      cases e : blank M' H j with
      | none => exact absurd e this
      | some y =>
        obtain ⟨r0, e0, _⟩ := d2 j y.1 y.2 e
        exact fun e1 => by rw [blank_none.2 e1] at e0; cases e0
    have h2 := live_upd (M := M2) (N := most + 1) n (some ({ c' with owner := ow }, 1)) (by omega)
    rw [n3] at h2
    simp only [one] at h2
    have h3 := hq.live
    have h4 := hw.live
    omega

theorem renewX {P0 : Nat → Nat} {X : Nat → Prop} (f : FuncId) (caps : Array Value) (i : Nat) (ow : Int) (c0 : Hc) (q : Nat) (Q : Cells → List Nat → List Nat → World → Hc → Cells → Prop) (w : World) (hX : ∀ x, X x → x < w.heap.size) (h : Ar w b most M F) (hf : ∀ (args : Array Value) (W : World), (callFunc f args).run Tryz.prog W = .ok (.enter f args) W)
    (hm : most ≤ 1048576) (hPP : ∀ k, P k ≤ P0 k) (hP : ∀ j, P0 j ≤ 1152921504606846976) (hb : Bk (most + 1) M H P0 [i]) (hc0 : contC M i = c0) (hroom : live (most + 1) M + q + (if aloneB M i ow = true then 0 else 1) ≤ most)
    (hZ : ∀ M1 H1 ex c' M2, Steady F w (fun W => Q M1 H1 ex W c' M2))
    (hch : ∀ M1 H1, Way1 most M H P0 i ow c0 M1 H1 → ChgY f caps b most F X ow w M1 c0 (fun c' M2 W => ∃ ex, FunX most M1 H1 (addP P i) q (Q M1 H1 ex W) ex c' M2)) :
    Calls Tryz.prog 167 #[ap b, .int .i64 i, .int .u32 ow, .func (.func f) #[] caps] w fun e w' => ∃ n M', e = .returned (.int .i64 (n : Nat)) ∧ StpX w w' b most M' F X ∧
      ∃ M1 H1 ex c' M2, Way1 most M H P0 i ow c0 M1 H1 ∧ Q M1 H1 ex w' c' M2 ∧ RenX most M H P ow (q + if aloneB M i ow = true then 0 else 1) ex n M' c' M2 H1 := by
  have hsm : c0.kids.length ≤ 64 := by
    rw [← hc0]
    unfold contC
    have := hb.small i
    cases e : M i with
    | none => simp
    | some y => rw [e] at this; exact this
  cases hal : aloneB M i ow with
  | true =>
    obtain ⟨c, hM, hco, h0⟩ := alone_cell hal
    have e0 : c = c0 := by rw [← hc0]; unfold contC; rw [hM]
    subst e0
    have hw := way_in hb hM hal
    refine (vrenewY_in f caps (fun c' M2 W => ∃ ex, FunX most M (i :: H) (addP P i) q (Q M (i :: H) ex W) ex c' M2) i ow c w hX h hf hM hco h0 (hch M (i :: H) hw) (fun c' M2 W W' F' ⟨ex, hq⟩ hk hF' => ⟨ex, { hq with q := hZ _ _ ex c' M2 W W' F' hq.q hk hF' }⟩) (fun c' M2 W ⟨ex, hq⟩ => ?_)).mono ?_
    · refine ⟨(hq.holes i (by simp)).trans hM, hq.nv, Nat.le_trans hq.nk (by decide), good_kids fun x hx h0 => (hq.bk.hand (List.mem_append_left _ hx) h0).1⟩
    · rintro e w' ⟨c', M2, rfl, ⟨ex, hq⟩, hs⟩
      refine ⟨i, _, rfl, hs, M, i :: H, ex, c', M2, hw, hq.q, ?_⟩
      exact renx_in hb (hw.keeps.less hPP) (by have h1 := (alone_held hb hM).1; have h2 := hPP i; omega) hM hq
  | false =>
    have hw := way_new hb hc0 hal
    rw [hal] at hroom
    simp only [Bool.false_eq_true, if_false] at hroom
    have hrf : ∀ j, rf (M j) ≤ 1152921504606846976 + 1 + 67108928 := fun j => by
      have h1 := hb.rfb j
      have h2 := hP j
      have h3 : [i].count j ≤ 1 := List.count_le_length
      have h4 : (most + 1) * 64 ≤ 1048577 * 64 := Nat.mul_le_mul_right _ (by omega)
      omega
    refine (vrenewY f caps (fun c' M2 W => ∃ ex, FunX most (keepAll M c0.kids) H (addP P i) q (Q (keepAll M c0.kids) H ex W) ex c' M2) i ow c0 w hX h hf hc0 hal (hch _ H hw) (fun j => by have := hrf j; omega) (by omega) (fun c' M2 W W' F' ⟨ex, hq⟩ hk hF' => ⟨ex, { hq with q := hZ _ _ ex c' M2 W W' F' hq.q hk hF' }⟩) (fun c' M2 W ⟨ex, hq⟩ => ?_)).mono ?_
    · refine ⟨?_, fun j => ?_, hq.nv, Nat.le_trans hq.nk (by decide), good_kids fun x hx h0 => (hq.bk.hand (List.mem_append_left _ hx) h0).1⟩
      · have h1 := hq.live
        have h2 := hw.live
        omega
      · have h1 := hq.bk.rfb j
        have h2 := hP j
        have h6 := hPP j
        have h3 : (c'.kids ++ ex).count j ≤ 128 := by
          rw [List.count_append]
          have a1 := Nat.le_trans (List.count_le_length (a := j)) hq.nk
          have a2 := Nat.le_trans (List.count_le_length (a := j)) hq.nx
          omega
        have h4 : (most + 1) * 64 ≤ 1048577 * 64 := Nat.mul_le_mul_right _ (by omega)
        have h5 : addP P i j ≤ P j + 1 := by unfold addP; split <;> omega
        omega
    · rintro e w' ⟨n, c', M2, M', rfl, ⟨ex, hq⟩, n1, n2, n3, hd, hs⟩
      refine ⟨n, M', rfl, hs, _, H, ex, c', M2, hw, hq.q, ?_⟩
      exact renx_new hb (hw.keeps.less hPP) hw hq (fun x hx => by
        have h1 := (hw.bk.hole x hx).2
        have h2 := (hb.hole x hx).2
        obtain ⟨y, e⟩ : ∃ y, M x = some y := by
          cases e : M x with
          | none => rw [e] at h2; simp [rf] at h2
          | some y => exact ⟨y, rfl⟩
        obtain ⟨q', e'⟩ := all_keepAll (l := c0.kids) x y.1 y.2 e
        rw [e'] at h1
        rw [e] at h2
        simp only [rf] at h1 h2
        rw [e', e, h1, ← h2]) n1 n2 n3 hd
end
end Go.Proofs.YtaapcfoaaopihaaGreat
