/- Several texts in one. -/
import Derived.Test.YtghbbpbhbinioaaGreatMr05
import Derived.Test.YtghbbpbhbinioaaGreatMr01
import Derived.Test.YtghbbpbhbinioaaGreatMr02
import Derived.Test.YtghbbpbhbinioaaGreatProg
import Derived.WalkLawsBesides
import Derived.WalkSpells
import Derived.Deep.RegionWith
import Derived.Lib.Hide
import Derived.RangeFuncNested
import Derived.BigQuiet
import Derived.Deep.RegionHeld3
import Derived.Laws.EntriesVeiled
import Derived.IntWalk
namespace Go.Proofs.YtghbbpbhbinioaaGreat
set_option maxRecDepth 100000
open Go.RowKit

def C3 (w : World) (b : Nat) (t : TypeId) (x0 x1 x2 : Value) : Prop := w.heap[b]? = some (.cells #[x0, x1, x2] t (0, 0))
section
variable {w w' : World} {b : Nat} {t : TypeId} {x0 x1 x2 : Value}
theorem C3.c0 (h : C3 w b t x0 x1 x2) : w.cell? ⟨b, 0, none⟩ = some x0 := by simpa using cell_of_row w b 0 _ _ (0, 0) h
theorem C3.c1 (h : C3 w b t x0 x1 x2) : w.cell? ⟨b, 1, none⟩ = some x1 := by simpa using cell_of_row w b 1 _ _ (0, 0) h
theorem C3.c2 (h : C3 w b t x0 x1 x2) : w.cell? ⟨b, 2, none⟩ = some x2 := by simpa using cell_of_row w b 2 _ _ (0, 0) h
theorem C3.fz (h : C3 w b t x0 x1 x2) (i : Nat) : w.frozen? ⟨b, i, none⟩ = false := frozen_of_row w b i _ _ h
theorem C3.all (h : C3 w b t x0 x1 x2) : w.cell? ⟨b, 0, none⟩ = some x0 ∧ w.cell? ⟨b, 1, none⟩ = some x1 ∧ w.cell? ⟨b, 2, none⟩ = some x2 ∧ w.frozen? ⟨b, 0, none⟩ = false ∧ w.frozen? ⟨b, 1, none⟩ = false ∧ w.frozen? ⟨b, 2, none⟩ = false :=
  ⟨h.c0, h.c1, h.c2, h.fz 0, h.fz 1, h.fz 2⟩
theorem C3.set0 (h : C3 w b t x0 x1 x2) (y : Value) : C3 (w.setCell ⟨b, 0, none⟩ y) b t y x1 x2 := by
  have := heap_setCell_same w b 0 _ _ y h
  simpa [C3] using this
theorem C3.set1 (h : C3 w b t x0 x1 x2) (y : Value) : C3 (w.setCell ⟨b, 1, none⟩ y) b t x0 y x2 := by
  have := heap_setCell_same w b 1 _ _ y h
  simpa [C3] using this
theorem C3.set2 (h : C3 w b t x0 x1 x2) (y : Value) : C3 (w.setCell ⟨b, 2, none⟩ y) b t x0 x1 y := by
  have := heap_setCell_same w b 2 _ _ y h
  simpa [C3] using this
theorem C3.other (h : C3 w b t x0 x1 x2) {g o : Nat} (hg : b ≠ g) (y : Value) : C3 (w.setCell ⟨g, o, none⟩ y) b t x0 x1 x2 := (Below.heap_setCell w ⟨g, o, none⟩ y b hg).trans h
theorem C3.lt (h : C3 w b t x0 x1 x2) : b < w.heap.size := (Array.getElem?_eq_some_iff.1 h).1
theorem C3.kp {F : Nat → Prop} (h : C3 w b t x0 x1 x2) (hk : Kp F w w') (hF : ¬ F b) : C3 w' b t x0 x1 x2 := hk.at h hF
theorem C3.below (h : C3 w b t x0 x1 x2) (hb : Below w.heap.size w w') : C3 w' b t x0 x1 x2 := (hb.block b h.lt).trans h
theorem C3.new (w : World) (t : TypeId) (x0 x1 x2 : Value) : C3 (w.alloc (.cells #[x0, x1, x2] t)) w.heap.size t x0 x1 x2 := heap_alloc_new w _
theorem C3.alloc (h : C3 w b t x0 x1 x2) (o : Obj) : C3 (w.alloc o) b t x0 x1 x2 := (Below.heap_alloc w o b h.lt).trans h
end
abbrev xagg (x : Int × Int × ByteArray) : Value := .agg #[.int .u8 x.1, .int .i64 x.2.1, .string x.2.2]
section
variable {b most : Nat} {M M' : Cells} {F : Nat → Prop}
theorem Stp.from {w w1 w2 : World} (hF : ∀ x, F x → x < w.heap.size) (hb : Below w.heap.size w w1) (h : Stp w1 w2 b most M' F) : Stp w w2 b most M' F :=
  ⟨h.ar.mono (fun _ hx => hx.imp id (fun hx => ⟨Nat.le_trans hb.size hx.1, hx.2⟩)) (fun x hx => hx.elim (fun hx => Nat.lt_of_lt_of_le (hF x hx) (Nat.le_trans hb.size h.kp.size)) (fun hx => hx.2)), (Kp.of_below hb F).trans h.kp (fun _ => .inl)⟩
end
section
variable {b most : Nat} {M : Cells} {F : Nat → Prop}
theorem Stp.close {M' : Cells} {w w1 w2 w3 : World} (hF : ∀ x, F x → x < w.heap.size) (hb : Below w.heap.size w w1) (h : Stp w1 w2 b most M' F) {G : Nat → Prop} (hk : Kp G w2 w3) (hG : ∀ g, G g → w.heap.size ≤ g ∧ g < w1.heap.size) : Stp w w3 b most M' F := by
  have h1 := h.ar.kp hk (fun k hk' hg => by
    have := hG k hg
    rcases hk' with hk' | hk'
    · have := hF k hk'; omega
    · omega)
  refine ⟨h1.mono (fun x hx => hx.imp id (fun hx => ⟨Nat.le_trans hb.size hx.1, Nat.lt_of_lt_of_le hx.2 hk.size⟩)) (fun x hx => hx.elim (fun hx => Nat.lt_of_lt_of_le (hF x hx) (Nat.le_trans hb.size (Nat.le_trans h.kp.size hk.size))) (fun hx => hx.2)), ((Kp.of_below hb F).trans h.kp (fun _ => .inl)).trans hk (fun g hg => .inr (hG g hg).1)⟩
theorem Stp.not {M' : Cells} {w w' : World} (_hF : ∀ x, F x → x < w.heap.size) (_h : Stp w w' b most M' F) {g : Nat} (hg : g < w.heap.size) (hn : ¬ F g) : ¬ Fn F w w' g := by
  rintro (e | e)
  · exact hn e
  · omega
structure Rn (w w' : World) (b most : Nat) (M' : Cells) (F F' : Nat → Prop) : Prop where
  ar : Ar w' b most M' F'
  kp : Kp F w w'
  sub : ∀ x, F' x → F x ∨ w.heap.size ≤ x
section
variable {M' M'' : Cells} {w w' w'' : World} {F' : Nat → Prop}
theorem Rn.below (h : Ar w b most M F) (hb : Below w.heap.size w w') : Rn w w' b most M F F := ⟨h.below hb, Kp.of_below hb F, fun _ => .inl⟩
theorem Rn.stp (h : Rn w w' b most M' F F') (k : Stp w' w'' b most M'' F') : Rn w w'' b most M'' F (Fn F' w' w'') :=
  ⟨k.ar, h.kp.trans k.kp h.sub, fun x hx => by
    rcases hx with hx | hx
    · exact h.sub x hx
    · exact .inr (Nat.le_trans h.kp.size hx.1)⟩
theorem Rn.mine {G : Nat → Prop} (h : Rn w w' b most M' F F') (hk : Kp G w' w'') (hG : ∀ g, G g → w.heap.size ≤ g ∧ ¬ F' g) : Rn w w'' b most M' F F' :=
  ⟨h.ar.kp hk (fun x hx hg => (hG x hg).2 hx), h.kp.trans hk (fun g hg => .inr (hG g hg).1), h.sub⟩
theorem Rn.fin (h : Rn w w' b most M' F F') (hF : ∀ x, F x → x < w.heap.size) : Stp w w' b most M' F :=
  ⟨h.ar.mono (fun x hx => (h.sub x hx).imp id (fun hx' => ⟨hx', h.ar.lt hx⟩)) (fun x hx => hx.elim (fun hx => Nat.lt_of_lt_of_le (hF x hx) h.kp.size) (fun hx => hx.2)), h.kp⟩
end
theorem sumTo_mono {f g : Nat → Nat} (h : ∀ j, f j ≤ g j) : ∀ n, sumTo n f ≤ sumTo n g
  | 0 => Nat.le_refl _
  | n + 1 => by simp only [sumTo]; exact Nat.add_le_add (sumTo_mono h n) (h n)
theorem release_live {N : Nat} (x : Nat) : live N (release M x).1 ≤ live N M := by
  unfold live
  have key : ∀ j, one ((release M x).1 j) ≤ one (M j) := fun j => by
    cases e : M j with
    | none =>
      have h1 : (release M x).1 j = none := by
        have h2 := release_rf (M := M) x j
        unfold release
        cases hM : M x with
        | none => exact e
        | some y =>
          obtain ⟨c, r⟩ := y
          by_cases e' : j = x
          · subst e'; rw [e] at hM; cases hM
          · show (if 1 < r then (upd M x (some (c, r - 1)), []) else (upd M x none, c.kids)).1 j = none
            split
            · show upd M x (some (c, r - 1)) j = none; rw [upd_other _ _ e']; exact e
            · show upd M x none j = none; rw [upd_other _ _ e']; exact e
      rw [h1]; exact Nat.le_refl _
    | some y =>
      cases (release M x).1 j with
      | none => exact Nat.zero_le _
      | some z => exact Nat.le_refl _
  exact sumTo_mono key N
theorem drops_live {N : Nat} {M' : Cells} {t : List Nat} (h : Drops M t M') : live N M' ≤ live N M := by
  induction h with
  | done M => exact Nat.le_refl _
  | step _ ih => exact Nat.le_trans ih (release_live _)
theorem Renewed.live_le {i n : Nat} {ow : Int} {c : Hc} {M' : Cells} (h : Renewed M i ow c most n M') : live (most + 1) M' ≤ live (most + 1) M + (if aloneB M i ow = true then 0 else 1) := by
  unfold Renewed at h
  split at h
  · rename_i hal
    obtain ⟨rfl, rfl⟩ := h
    rw [if_pos hal]
    have h2 : M n ≠ none := by
      unfold aloneB at hal
      intro e
      rw [e] at hal
      simp at hal
    by_cases hlt : n < most + 1
    · have h1 := live_upd (M := M) (N := most + 1) n (some ({ c with owner := ow }, 1)) hlt
      cases e : M n with
      | none => exact absurd e h2
      | some y => rw [e] at h1; simp only [one] at h1; omega
    · have : live (most + 1) (upd M n (some ({ c with owner := ow }, 1))) = live (most + 1) M := sumTo_congr _ fun j hj => by rw [upd_other _ _ (by omega)]
      omega
  · rename_i hal
    obtain ⟨n1, n2, n3, hd⟩ := h
    rw [if_neg hal]
    have h0 := drops_live (N := most + 1) hd
    have h1 := live_upd (M := keepAll M (contC M i).kids) (N := most + 1) n (some ({ c with owner := ow }, 1)) (by omega)
    have h3 : keepAll M (contC M i).kids n = none := keepAll_none.2 n3
    rw [h3] at h1
    simp only [one] at h1
    rw [keepAll_live] at h1
    omega
end

end Go.Proofs.YtghbbpbhbinioaaGreat

namespace Go.Proofs.YtghbbpbhbinioaaGreat
set_option maxRecDepth 100000
open Go.RowKit

def ChgS (f : FuncId) (caps : Array Value) (b most : Nat) (F : Nat → Prop) (w : World) (M1 : Cells) (c : Hc) (R : Hc → Cells → Prop) : Prop :=
  ∀ (o : Int) (v k : Value) (W : World) (F1 : Nat → Prop), Rn w W b most M1 F F1 → (∀ q, v.ownBlock = some q → ¬ F1 q) → (∀ q, k.ownBlock = some q → ¬ F1 q) → W.ownsRow w.heap.size 36 3 v c.vals.length (c.vals.flatMap cells3) → W.ownsRow w.heap.size 3 1 k c.kids.length (nums (ns c.kids)) →
    Calls Tryz.prog f (#[cagg o c.a c.b v k] ++ caps) W fun e W' => ∃ v' k' c' M2 F2, e = .returned (cagg o c'.a c'.b v' k') ∧ Rd W' v' c'.vals.length (c'.vals.flatMap cells3) ∧ Rd W' k' c'.kids.length (nums (ns c'.kids)) ∧ Rn w W' b most M2 F F2 ∧ (∀ q, v'.ownBlock = some q → ¬ F2 q) ∧ (∀ q, k'.ownBlock = some q → ¬ F2 q) ∧ R c' M2
section
variable {b most : Nat} {M : Cells} {F : Nat → Prop}
end

end Go.Proofs.YtghbbpbhbinioaaGreat

namespace Go.Proofs.YtghbbpbhbinioaaGreat
set_option maxRecDepth 100000
open Go.RowKit

section
variable {b most : Nat} {M : Cells} {F : Nat → Prop}
end

end Go.Proofs.YtghbbpbhbinioaaGreat

namespace Go.Proofs.YtghbbpbhbinioaaGreat
set_option maxRecDepth 100000
open Go.RowKit

theorem live_mono {N : Nat} {A B : Cells} (h : ∀ j, A j ≠ none → B j ≠ none) : live N A ≤ live N B := sumTo_mono (fun j => by
  cases e : A j with
  | none => exact Nat.zero_le _
  | some x =>
    cases e' : B j with
    | none => exact absurd e' (h j (by rw [e]; simp))
    | some y => exact Nat.le_refl _) N
theorem live_upd_some (N : Nat) {A : Cells} {x : Nat} (hx : A x ≠ none) (z : Hc × Nat) : live N (upd A x (some z)) = live N A := by
  refine sumTo_congr N fun j _ => ?_
  by_cases e : j = x
  · subst e
    rw [upd_same]
    cases e1 : A j with
    | none => exact absurd e1 hx
    | some y => rfl
  · rw [upd_other _ _ e]
theorem good_kids {M : Cells} {l : List Nat} (h : ∀ q ∈ l, q ≠ 0 → M q ≠ none) : (ns l).all (goodB M) = true := by
  rw [List.all_eq_true]
  intro y hy
  unfold ns at hy
  obtain ⟨q, hq, rfl⟩ := List.mem_map.1 hy
  unfold goodB
  have e : M ((q : Int)).toNat = M q := by rw [Int.toNat_natCast]
  rw [e]
  by_cases h0 : q = 0
  · subst h0; simp
  · cases e1 : M q with
    | none => exact absurd e1 (h q hq h0)
    | some z => simp; omega

structure Fun (most : Nat) (M1 : Cells) (H1 : List Nat) (P1 : Nat → Nat) (q : Nat) (Q : Hc → Cells → Prop) (c' : Hc) (M2 : Cells) : Prop where
  bk : Bk (most + 1) M2 H1 P1 c'.kids
  keeps : Keeps P1 (blank M1 H1) (blank M2 H1)
  holes : ∀ x ∈ H1, M2 x = M1 x
  live : live (most + 1) M2 ≤ Proofs.YtghbbpbhbinioaaGreat.live (most + 1) M1 + q
  nv : c'.vals.length ≤ 4194304
  nk : c'.kids.length ≤ 64
  q : Q c' M2
def Way (M : Cells) (H : List Nat) (i : Nat) (ow : Int) (c0 : Hc) (M1 : Cells) (H1 : List Nat) : Prop :=
  (aloneB M i ow = true ∧ M1 = M ∧ H1 = i :: H) ∨ (aloneB M i ow = false ∧ M1 = keepAll M c0.kids ∧ H1 = H)
structure Way1 (most : Nat) (M : Cells) (H : List Nat) (P : Nat → Nat) (i : Nat) (ow : Int) (c0 : Hc) (M1 : Cells) (H1 : List Nat) : Prop where
  way : Way M H i ow c0 M1 H1
  bk : Bk (most + 1) M1 H1 (addP P i) c0.kids
  keeps : Keeps P (blank M H) (blank M1 H1)
  kids : ∀ k ∈ c0.kids, k ≠ 0 → Pres (blank M H) (blank M1 H1) k
  live : live (most + 1) M1 = Proofs.YtghbbpbhbinioaaGreat.live (most + 1) M
structure Ren (most : Nat) (M : Cells) (H : List Nat) (P : Nat → Nat) (ow : Int) (q : Nat) (n : Nat) (M' : Cells) (c' : Hc) (M2 : Cells) (H1 : List Nat) : Prop where
  pos : 1 ≤ n
  bk : Bk (most + 1) M' H P [n]
  cell : M' n = some ({ c' with owner := ow }, 1)
  keeps : Keeps P (blank M H) (blank M' H)
  kids : ∀ k ∈ c'.kids, k ≠ 0 → Pres (blank M2 H1) (blank M' H) k
  holes : ∀ x ∈ H, M' x = M x
  live : live (most + 1) M' ≤ Proofs.YtghbbpbhbinioaaGreat.live (most + 1) M + q

theorem alone_cell {M : Cells} {i : Nat} {ow : Int} (h : aloneB M i ow = true) : ∃ c, M i = some (c, 1) ∧ c.owner = ow ∧ ¬ ow = 0 := by
  unfold aloneB at h
  cases e : M i with
  | none => rw [e] at h; simp at h
  | some y =>
    obtain ⟨c, r⟩ := y
    rw [e] at h
    simp at h
    obtain ⟨h0, h1, h2⟩ := h
    exact ⟨c, by rw [h1], h2, h0⟩
section
variable {b most : Nat} {M : Cells} {F : Nat → Prop} {H : List Nat} {P : Nat → Nat}
theorem way_in {i : Nat} {ow : Int} {c0 : Hc} (hb : Bk (most + 1) M H P [i]) (hM : M i = some (c0, 1)) (hal : aloneB M i ow = true) : Way1 most M H P i ow c0 M (i :: H) := by
  have hi := hb.lt (j := i) (by rw [hM]; simp)
  have hiH := (hb.hand (i := i) (by simp) (by omega)).2
  have hP0 : P i = 0 := by
    have := hb.bal (i := i) hi.1
    rw [hM] at this
    simp only [rf, List.count_singleton_self] at this
    omega
  refine ⟨.inl ⟨hal, rfl, rfl⟩, ?_, fun r h0 hr => hb.pres_open hM (fun e => by rw [e] at hr; omega), fun k hk h0 => hb.pres_open hM (fun e => ?_), rfl⟩
  · have := hb.open hM
    rwa [List.append_nil] at this
  · subst e
    have h1 : k ∈ kd (blank M H k) := by rw [blank_out hiH, hM]; exact hk
    have h2 := count_le_occ (M := blank M H) hi.2 k
    have h3 := List.count_pos_iff.2 h1
    have h4 := hb.bal (i := k) hi.1
    rw [hM] at h4
    simp only [rf, List.count_singleton_self] at h4
    omega
theorem way_new {i : Nat} {ow : Int} {c0 : Hc} (hb : Bk (most + 1) M H P [i]) (hc0 : contC M i = c0) (hal : aloneB M i ow = false) : Way1 most M H P i ow c0 (keepAll M c0.kids) H := by
  refine ⟨.inr ⟨hal, rfl, rfl⟩, ?_, fun r h0 hr => Pres.all (all_blank all_keepAll), fun k hk h0 => Pres.all (all_blank all_keepAll), keepAll_live⟩
  have h1 := hb.keepAll (l := c0.kids) (fun k hk h0 => by
    cases e : M i with
    | none =>
      have : c0.kids = [] := by rw [← hc0]; unfold contC; rw [e]
      rw [this] at hk
      simp at hk
    | some y =>
      have hi := hb.lt (j := i) (by rw [e]; simp)
      have hiH := (hb.hand (i := i) (by simp) (by omega)).2
      have e0 : c0 = y.1 := by rw [← hc0]; unfold contC; rw [e]
      rw [e0] at hk
      exact hb.kid hiH (show M i = some (y.1, y.2) from e) hk h0)
  refine h1.move (fun k hk => ?_) (fun x hx => Nat.le_trans (hb.hole x hx).1 (addP_le _ _ _))
  rw [List.count_append, List.count_singleton]
  unfold addP
  by_cases ek : k = i
  · subst ek; simp; omega
  · rw [if_neg ek, if_neg (by simpa using Ne.symm ek)]; omega

theorem alone_held {P0 : Nat → Nat} {i : Nat} (hb : Bk (most + 1) M H P0 [i]) {c : Hc} (hM : M i = some (c, 1)) : P0 i = 0 ∧ occ (most + 1) (blank M H) i = 0 := by
  have hi := hb.lt (j := i) (by rw [hM]; simp)
  have := hb.bal (i := i) hi.1
  rw [hM] at this
  simp only [rf, List.count_singleton_self] at this
  omega
end

end Go.Proofs.YtghbbpbhbinioaaGreat

namespace Go.Proofs.YtghbbpbhbinioaaGreat

def flatP (l : List Pr) : List Ky := l.flatMap fun p => [p.1, p.2]
theorem flatP_length : ∀ l : List Pr, (flatP l).length = 2 * l.length
  | [] => rfl
  | p :: l => by
    show ([p.1, p.2] ++ flatP l).length = _
    rw [List.length_append, flatP_length l]
    simp only [List.length_cons, List.length_nil]
    omega
theorem cnt_mono (s : Nat) {a b : Nat} (h : a ≤ b) : cnt s a ≤ cnt s b := by
  obtain ⟨k, rfl⟩ := Nat.exists_eq_add_of_le h
  rw [cnt_add]; exact Nat.le_add_right _ _
theorem cnt_succ {s d : Nat} (h : s.testBit d = true) : cnt s (d + 1) = cnt s d + 1 := by
  show cnt s d + (s.testBit d).toNat = _
  rw [h]; rfl
theorem cnt_lt {s d e : Nat} (h : s.testBit d = true) (hde : d < e) : cnt s d < cnt s e := by
  have h1 := cnt_succ h
  have h2 := cnt_mono s (show d + 1 ≤ e by omega)
  omega
theorem cnt_inj {s d e : Nat} (hd : s.testBit d = true) (he : s.testBit e = true) (h : cnt s d = cnt s e) : d = e := by
  rcases Nat.lt_trichotomy d e with h1 | h1 | h1
  · have := cnt_lt hd h1; omega
  · exact h1
  · have := cnt_lt he h1; omega

section
variable (M : Cells) (hs : Ky → Nat)
def Agr (b : Nat) (l : List Pr) : Prop := ∀ p ∈ l, ∀ q ∈ l, ∀ j, j < b → dg (hs p.1) j = dg (hs q.1) j
structure LeafF (lv i : Nat) (l : List Pr) (c : Hc) (r : Nat) : Prop where
  cell : M i = some (c, r)
  lv : lv ≤ 13
  cb : c.b = 13
  kids : c.kids = []
  vals : c.vals = flatP l
  ne : l ≠ []
  so : l.Pairwise fun p q => vc p.1 q.1 = -1
  agr : Agr hs 13 l
def joinL (L : Nat → List Pr) : List Pr := (List.range 32).flatMap L
structure NodeF (lv i : Nat) (l : List Pr) (c : Hc) (r b s : Nat) (K : Nat → Nat) (L : Nat → List Pr) : Prop where
  cell : M i = some (c, r)
  lv : lv ≤ b
  b13 : b < 13
  cb : c.b = (b : Int)
  s32 : s < 4294967296
  ca : c.a = (s : Int)
  vals : c.vals = []
  len : c.kids.length = cnt s 32
  two : 2 ≤ cnt s 32
  eq : l = joinL L
  agr : Agr hs b l
  no : ∀ d, s.testBit d = false → L d = []
  kid : ∀ d, d < 32 → s.testBit d = true → c.kids[cnt s d]? = some (K d)
  dig : ∀ d, ∀ p ∈ L d, dg (hs p.1) b = d
inductive HT : Nat → Nat → List Pr → Prop
  | leaf {lv i : Nat} {l : List Pr} {c : Hc} {r : Nat} (h : LeafF M hs lv i l c r) : HT lv i l
  | node {lv i : Nat} {l : List Pr} {c : Hc} {r b s : Nat} {K : Nat → Nat} {L : Nat → List Pr} (h : NodeF M hs lv i l c r b s K L) (hT : ∀ d, d < 32 → s.testBit d = true → HT (b + 1) (K d) (L d)) : HT lv i l
end
section
variable {M M' : Cells} {hs : Ky → Nat} {lv i : Nat} {l : List Pr}
theorem mem_joinL {L : Nat → List Pr} {q : Pr} : q ∈ joinL L ↔ ∃ d, d < 32 ∧ q ∈ L d := by
  unfold joinL
  rw [List.mem_flatMap]
  simp
theorem bit_lt {s d : Nat} (h : s < 4294967296) (hd : s.testBit d = true) : d < 32 := by
  refine Nat.lt_of_not_le fun h32 => ?_
  have : s < 2 ^ d := Nat.lt_of_lt_of_le h (Nat.pow_le_pow_right (n := 2) (by decide) h32)
  rw [Nat.testBit_lt_two_pow this] at hd
  cases hd
theorem NodeF.mem {c : Hc} {r b s : Nat} {K : Nat → Nat} {L : Nat → List Pr} (h : NodeF M hs lv i l c r b s K L) {q : Pr} : q ∈ l ↔ q ∈ L (dg (hs q.1) b) := by
  rw [h.eq, mem_joinL]
  constructor
  · rintro ⟨d, _, hq⟩
    rw [h.dig d q hq]; exact hq
  · intro hq
    exact ⟨_, dg_lt _ _, hq⟩
theorem NodeF.bit {c : Hc} {r b s : Nat} {K : Nat → Nat} {L : Nat → List Pr} (h : NodeF M hs lv i l c r b s K L) {d : Nat} {q : Pr} (hq : q ∈ L d) : s.testBit d = true := by
  cases e : s.testBit d with
  | true => rfl
  | false => rw [h.no d e] at hq; cases hq
theorem HT.cell (h : HT M hs lv i l) : M i ≠ none := by
  cases h with
  | leaf h => rw [h.cell]; simp
  | node h _ => rw [h.cell]; simp
theorem HT.pos (h : HT M hs lv i l) (hz : M 0 = none) : i ≠ 0 := fun e => h.cell (by rw [e]; exact hz)
theorem bit_exists {s : Nat} (h : 1 ≤ cnt s 32) : ∃ d, d < 32 ∧ s.testBit d = true := by
  have key : ∀ n, 1 ≤ cnt s n → ∃ d, d < n ∧ s.testBit d = true := fun n => by
    induction n with
    | zero => intro h; simp [cnt] at h
    | succ n ih =>
      intro h
      cases e : s.testBit n with
      | true => exact ⟨n, Nat.lt_succ_self _, e⟩
      | false =>
        have h' : cnt s n + (s.testBit n).toNat = cnt s (n + 1) := rfl
        rw [e] at h'
        obtain ⟨d, hd, hb⟩ := ih (by simp at h'; omega)
        exact ⟨d, by omega, hb⟩
  exact key 32 h
theorem HT.ne (h : HT M hs lv i l) : l ≠ [] := by
  induction h with
  | leaf h => exact h.ne
  | node h _ ih =>
    obtain ⟨d, hd, hb⟩ := bit_exists (Nat.le_trans (by decide) h.two)
    obtain ⟨q, hq⟩ := List.exists_mem_of_ne_nil _ (ih d hd hb)
    exact List.ne_nil_of_mem ((by rw [h.eq]; exact mem_joinL.2 ⟨d, hd, hq⟩ : q ∈ _))
theorem HT.srt (h : HT M hs lv i l) : Srt hs l := by
  induction h with
  | leaf h =>
    refine List.Pairwise.imp_of_mem ?_ h.so
    intro p q hp hq hv
    rw [klt_vc (pt_uniq (Nat.le_refl _) (fun j hj => h.agr p hp q hq j hj) (fun h => absurd h (Nat.lt_irrefl _)))]
    exact hv
  | @node lv i l c r b s K L h _ ih =>
    rw [h.eq]
    unfold joinL
    refine List.pairwise_flatMap.2 ⟨fun d hd => ?_, ?_⟩
    · cases e : s.testBit d with
      | true => exact ih d (List.mem_range.1 hd) e
      | false => rw [h.no d e]; exact List.Pairwise.nil
    · refine List.Pairwise.imp_of_mem ?_ List.pairwise_lt_range
      intro d e hd he hde p hp q hq
      have h1 := h.dig d p hp
      have h2 := h.dig e q hq
      have hpl : p ∈ l := by rw [h.eq]; exact mem_joinL.2 ⟨d, List.mem_range.1 hd, hp⟩
      have hql : q ∈ l := by rw [h.eq]; exact mem_joinL.2 ⟨e, List.mem_range.1 he, hq⟩
      have hp' : pt (hs p.1) (hs q.1) = b := pt_uniq (Nat.le_of_lt h.b13) (fun j hj => h.agr p hpl q hql j hj) (fun _ => by omega)
      rw [klt_dg (by rw [hp']; exact h.b13), hp']
      omega
theorem HT.pres (h : HT M hs lv i l) (hz : M 0 = none) (hp : Pres M M' i) : HT M' hs lv i l := by
  induction h with
  | leaf h =>
    obtain ⟨r', e⟩ := hp _ _ _ .refl h.cell
    exact .leaf { h with cell := e }
  | @node lv i l c r b s K L h hT ih =>
    obtain ⟨r', e⟩ := hp _ _ _ .refl h.cell
    exact .node { h with cell := e } fun d hd hb => ih d hd hb (hp.kid h.cell (List.mem_of_getElem? (h.kid d hd hb)) ((hT d hd hb).pos hz))
end

end Go.Proofs.YtghbbpbhbinioaaGreat

namespace Go.Proofs.YtghbbpbhbinioaaGreat

def Chd (k : Ky) (new : Pr → Prop) (l l' : List Pr) : Prop := ∀ q, q ∈ l' ↔ new q ∨ (q ∈ l ∧ q.1 ≠ k)
section
variable {M M' : Cells} {hs : Ky → Nat} {lv i i' k' r r' b s : Nat} {l : List Pr} {c : Hc} {ow : Int} {K : Nat → Nat} {L : Nat → List Pr} {k : Ky} {new : Pr → Prop}
end

end Go.Proofs.YtghbbpbhbinioaaGreat

namespace Go.Proofs.YtghbbpbhbinioaaGreat

abbrev Vso (l : List Pr) : Prop := l.Pairwise fun p q => vc p.1 q.1 = -1
def lowN (k : Ky) : List Pr → Nat
  | [] => 0
  | q :: l => if vc k q.1 = 1 then lowN k l + 1 else 0
theorem lowN_lt {k : Ky} : ∀ {l : List Pr} {j : Nat} {q : Pr}, j < lowN k l → l[j]? = some q → vc k q.1 = 1
  | [], _, _, _, h => by simp at h
  | x :: l, j, q, hj, h => by
    unfold lowN at hj
    by_cases e : vc k x.1 = 1
    · rw [if_pos e] at hj
      cases j with
      | zero =>
        obtain rfl : x = q := by simpa using h
        exact e
      | succ j => exact lowN_lt (l := l) (j := j) (by omega) (by simpa using h)
    · rw [if_neg e] at hj; omega
theorem lowN_ge {k : Ky} : ∀ {l : List Pr} {j : Nat} {q : Pr}, Vso l → lowN k l ≤ j → l[j]? = some q → vc k q.1 ≠ 1
  | [], _, _, _, _, h => by simp at h
  | x :: l, j, q, hs, hj, h => by
    obtain ⟨h1, h2⟩ := List.pairwise_cons.1 hs
    unfold lowN at hj
    by_cases e : vc k x.1 = 1
    · rw [if_pos e] at hj
      cases j with
      | zero => omega
      | succ j => exact lowN_ge (l := l) (j := j) h2 (by omega) (by simpa using h)
    · cases j with
      | zero =>
        obtain rfl : x = q := by simpa using h
        exact e
      | succ j =>
        have hm : q ∈ l := List.mem_of_getElem? (by simpa using h)
        intro e1
        have h3 := h1 q hm
        have h4 : vc q.1 k = -1 := by rw [vc_swap k q.1, e1]
        have h5 := vc_trans h3 h4
        rw [vc_swap k x.1] at h5
        omega
theorem vc_refl (a : Ky) : vc a a = 0 := vc_eq.2 rfl
def hasN (k : Ky) (l : List Pr) : Bool := match l[lowN k l]? with
  | some q => decide (q.1 = k)
  | none => false
theorem hasN_iff {k : Ky} {l : List Pr} (hs : Vso l) : hasN k l = true ↔ ∃ q ∈ l, q.1 = k := by
  constructor
  · intro h
    unfold hasN at h
    cases e : l[lowN k l]? with
    | none => rw [e] at h; cases h
    | some q => rw [e] at h; exact ⟨q, List.mem_of_getElem? e, of_decide_eq_true h⟩
  · rintro ⟨q, hq, e⟩
    obtain ⟨j, hj⟩ := List.getElem?_of_mem hq
    have h1 : ¬ j < lowN k l := fun h => by
      have := lowN_lt h hj
      rw [e, vc_refl] at this
      omega
    have hjl := (List.getElem?_eq_some_iff.1 hj).1
    have hx := List.getElem?_eq_getElem (l := l) (i := lowN k l) (by omega)
    have h2 := lowN_ge hs (Nat.le_refl _) hx
    have ej : j = lowN k l := by
      refine Nat.le_antisymm ?_ (by omega)
      refine Nat.le_of_not_lt fun hlt => ?_
      have h3 : vc (l[lowN k l]).1 q.1 = -1 := by
        have := List.pairwise_iff_getElem.1 hs (lowN k l) j (by omega) hjl hlt
        rwa [(List.getElem?_eq_some_iff.1 hj).2] at this
      rw [e, vc_swap k] at h3
      omega
    unfold hasN
    rw [← ej, hj]
    exact decide_eq_true e
theorem Vso.key {l : List Pr} (h : Vso l) {p q : Pr} (hp : p ∈ l) (hq : q ∈ l) (e : p.1 = q.1) : p = q := by
  obtain ⟨i, hi⟩ := List.getElem?_of_mem hp
  obtain ⟨j, hj⟩ := List.getElem?_of_mem hq
  obtain ⟨hi1, hi2⟩ := List.getElem?_eq_some_iff.1 hi
  obtain ⟨hj1, hj2⟩ := List.getElem?_eq_some_iff.1 hj
  rcases Nat.lt_trichotomy i j with h1 | h1 | h1
  · have := List.pairwise_iff_getElem.1 h i j hi1 hj1 h1
    rw [hi2, hj2, e, vc_refl] at this
    omega
  · subst h1
    rw [hi] at hj
    exact Option.some.inj hj
  · have := List.pairwise_iff_getElem.1 h j i hj1 hi1 h1
    rw [hi2, hj2, e, vc_refl] at this
    omega
section
variable {M M' : Cells} {hs : Ky → Nat} {lv i i' r r' : Nat} {l : List Pr} {c : Hc} {ow a : Int} {k v : Ky}
end

end Go.Proofs.YtghbbpbhbinioaaGreat

namespace Go.Proofs.YtghbbpbhbinioaaGreat
open Go.RowKit

abbrev vv (k n : Int) (s : ByteArray) : Value := .agg #[.int .u8 k, .int .i64 n, .string s]

end Go.Proofs.YtghbbpbhbinioaaGreat

namespace Go.Proofs.YtghbbpbhbinioaaGreat
set_option maxRecDepth 100000
open Go.RowKit


theorem nan_kind (x : Int) (w : World) : Calls Tryz.prog 182 #[.int .u8 x] w fun e w' => e = .returned (.bool false) ∧ w = w' := by
  go_enter Tryz.func182, Tryz.ntmps182
  go_wp2
  go_ret
  simp
theorem nan_int (x : Int) (w : World) : Calls Tryz.prog 183 #[.int .i64 x] w fun e w' => e = .returned (.bool false) ∧ w = w' := by
  go_enter Tryz.func183, Tryz.ntmps183
  go_wp2
  go_ret
  simp
theorem nan_string (x : ByteArray) (w : World) : Calls Tryz.prog 184 #[.string x] w fun e w' => e = .returned (.bool false) ∧ w = w' := by
  go_enter Tryz.func184, Tryz.ntmps184
  go_wp2
  go_ret
  simp
theorem cmp_kind (a b : Int) (w : World) : Calls Tryz.prog 162 #[.int .u8 a, .int .u8 b] w fun e w' => e = .returned (.int .i64 (icmp a b)) ∧ w = w' := by
  go_enter Tryz.func162, Tryz.ntmps162
  go_wp2_with (go_at_call 182; refine (nan_kind _ _).mono ?_; rintro e w' ⟨rfl, rfl⟩)
  all_goals go_ret
  all_goals exact ⟨ret_int (by first | exact icmp_m1 ‹_› | exact icmp_p1 ‹_› | exact icmp_0 ‹_› ‹_›), rfl⟩
theorem cmp_int (a b : Int) (w : World) : Calls Tryz.prog 163 #[.int .i64 a, .int .i64 b] w fun e w' => e = .returned (.int .i64 (icmp a b)) ∧ w = w' := by
  go_enter Tryz.func163, Tryz.ntmps163
  go_wp2_with (go_at_call 183; refine (nan_int _ _).mono ?_; rintro e w' ⟨rfl, rfl⟩)
  all_goals go_ret
  all_goals exact ⟨ret_int (by first | exact icmp_m1 ‹_› | exact icmp_p1 ‹_› | exact icmp_0 ‹_› ‹_›), rfl⟩
theorem cmp_string (a b : ByteArray) (w : World) : Calls Tryz.prog 164 #[.string a, .string b] w fun e w' => e = .returned (.int .i64 (lcmp a.toList b.toList)) ∧ w = w' := by
  go_enter Tryz.func164, Tryz.ntmps164
  go_wp2_with (go_at_call 184; refine (nan_string _ _).mono ?_; rintro e w' ⟨rfl, rfl⟩)
  all_goals go_ret
  all_goals exact ⟨ret_int (by first | exact lcmp_m1 ‹_› | exact lcmp_p1 ‹_› ‹_› | exact lcmp_0 ‹_›), rfl⟩

set_option maxHeartbeats 400000 in
theorem compare (k n : Int) (s : ByteArray) (k' n' : Int) (s' : ByteArray) (w : World) :
    Calls Tryz.prog 128 #[vv k n s, vv k' n' s'] w fun e w' => e = .returned (.int .i64 (vcmp k n s k' n' s')) ∧ Gw w w' := by
  go_enter Tryz.func128, Tryz.ntmps128
  go_wp2_with (first | (go_at_call 162; refine (cmp_kind _ _ _).mono ?_; rintro e w' ⟨rfl, rfl⟩) | (go_at_call 163; refine (cmp_int _ _ _).mono ?_; rintro e w' ⟨rfl, rfl⟩) | (go_at_call 164; refine (cmp_string _ _ _).mono ?_; rintro e w' ⟨rfl, rfl⟩))
  all_goals go_ret
  all_goals exact ⟨ret_int (by first | exact vc_0 ‹_› ‹_› ‹_› | exact vc_s ‹_› ‹_› | exact vc_n ‹_› ‹_› | exact vc_k ‹_›), ((Gw.refl _).alloc _ _).alloc _ _⟩




end Go.Proofs.YtghbbpbhbinioaaGreat

namespace Go.Proofs.YtghbbpbhbinioaaGreat
open Go.RowKit

def C1 (w : World) (b : Nat) (t : TypeId) (x : Value) : Prop := w.heap[b]? = some (.cells #[x] t (0, 0))
section
variable {w w' : World} {b : Nat} {t : TypeId} {x : Value}
theorem C1.c0 (h : C1 w b t x) : w.cell? ⟨b, 0, none⟩ = some x := by simpa using cell_of_row w b 0 _ _ (0, 0) h
theorem C1.fz (h : C1 w b t x) : w.frozen? ⟨b, 0, none⟩ = false := frozen_of_row w b 0 _ _ h
theorem C1.all (h : C1 w b t x) : w.cell? ⟨b, 0, none⟩ = some x ∧ w.frozen? ⟨b, 0, none⟩ = false := ⟨h.c0, h.fz⟩
theorem C1.set (h : C1 w b t x) (y : Value) : C1 (w.setCell ⟨b, 0, none⟩ y) b t y := by
  have := heap_setCell_same w b 0 _ _ y h
  simpa [C1] using this
theorem C1.other (h : C1 w b t x) {g o : Nat} (hg : b ≠ g) (y : Value) : C1 (w.setCell ⟨g, o, none⟩ y) b t x := (Below.heap_setCell w ⟨g, o, none⟩ y b hg).trans h
theorem C1.lt (h : C1 w b t x) : b < w.heap.size := (Array.getElem?_eq_some_iff.1 h).1
theorem C1.kp {F : Nat → Prop} (h : C1 w b t x) (hk : Kp F w w') (hF : ¬ F b) : C1 w' b t x := hk.at h hF
theorem C1.below (h : C1 w b t x) (hb : Below w.heap.size w w') : C1 w' b t x := (hb.block b h.lt).trans h
theorem C1.new (w : World) (t : TypeId) (x : Value) : C1 (w.alloc (.cells #[x] t)) w.heap.size t x := heap_alloc_new w _
theorem C1.alloc (h : C1 w b t x) (o : Obj) : C1 (w.alloc o) b t x := (Below.heap_alloc w o b h.lt).trans h
theorem C1.drew (h : C1 w b t x) : C1 w.drew b t x := h
theorem C1.own (h : C1 w b t x) {row : Option Nat} {B : Nat} (hg : w.grownBy w' row) (hr : ∀ r, row = some r → B ≤ r ∧ ∃ o : Obj, w.heap[r]? = some o ∧ o.isCells = false) : C1 w' b t x :=
  (hg.block b h.lt fun e => by
    obtain ⟨_, o, ho, hc⟩ := hr b e.symm
    rw [h] at ho
    cases ho
    cases hc).trans h
theorem C1.stored {y : Value} (h : C1 (w.setCell ⟨b, 0, none⟩ y) b t x) : C1 (w.setCell ⟨b, 0, none⟩ y) b t y := by
  have hlt := h.lt
  simp only [World.setCell, Array.size_modify] at hlt
  have := h
  simp only [C1, World.setCell, Array.getElem?_modify, if_true] at this ⊢
  rw [Array.getElem?_eq_getElem hlt] at this ⊢
  simp only [Option.map_some, Option.some.injEq] at this ⊢
  cases ho : w.heap[b] with
  | cells c e f =>
    rw [ho] at this
    simp only [Option.isSome_none, Bool.false_eq_true, if_false, Obj.cells.injEq] at this ⊢
    obtain ⟨h1, rfl, rfl⟩ := this
    have h2 : 0 < c.size := by
      have := congrArg Array.size h1
      simp at this
      omega
    have h3 := congrArg (fun A => A[0]?) h1
    simp [h2] at h3
    rw [h1, h3]
    simp
  | _ => rw [ho] at this; simp at this
theorem C1.put (h : C1 w b t x) {k : Nat} (hk : b ≠ k) (o : Obj) : C1 (w.putObj k o) b t x := (World.putObj_heap_other hk).trans h
end

end Go.Proofs.YtghbbpbhbinioaaGreat

namespace Go.Proofs.YtghbbpbhbinioaaGreat
set_option maxRecDepth 100000
open Go.RowKit

end Go.Proofs.YtghbbpbhbinioaaGreat

namespace Go.Proofs.YtghbbpbhbinioaaGreat

def sdx (s g b : Nat) : Nat := if s.testBit (dg g b) = true then cnt s (dg g b) else 0
section
variable (M : Cells) (hs : Ky → Nat) (g : Nat)
inductive Wy : Nat → Nat → List Pr → List (Nat × Nat) → List Pr → Prop
  | leaf {lv i : Nat} {l : List Pr} {c : Hc} {r : Nat} (h : LeafF M hs lv i l c r) : Wy lv i l [(i, 13)] l
  | node {lv i : Nat} {l : List Pr} {c : Hc} {r b s : Nat} {K : Nat → Nat} {L : Nat → List Pr} {d : Nat} {cl : List (Nat × Nat)} {lf : List Pr} (h : NodeF M hs lv i l c r b s K L) (hT : ∀ d, d < 32 → s.testBit d = true → HT M hs (b + 1) (K d) (L d))
    (hd : s.testBit d = true) (hx : cnt s d = sdx s g b) (hw : Wy (b + 1) (K d) (L d) cl lf) : Wy lv i l ((i, b) :: cl) lf
inductive Wp (k : Ky) : Nat → Nat → List Pr → List (Nat × Nat) → Nat → Nat → List Pr → Prop
  | nil {lv i : Nat} {l : List Pr} (h : HT M hs lv i l) : Wp k lv i l [] lv i l
  | cons {lv i : Nat} {l : List Pr} {c : Hc} {r b s : Nat} {K : Nat → Nat} {L : Nat → List Pr} {cl : List (Nat × Nat)} {lvj j : Nat} {lj : List Pr} (h : NodeF M hs lv i l c r b s K L) (hT : ∀ d, d < 32 → s.testBit d = true → HT M hs (b + 1) (K d) (L d))
    (hd : s.testBit (dg (hs k) b) = true) (ha : ∀ q ∈ l, ∀ x, x < b → dg (hs k) x = dg (hs q.1) x) (hw : Wp k (b + 1) (K (dg (hs k) b)) (L (dg (hs k) b)) cl lvj j lj) : Wp k lv i l ((i, b) :: cl) lvj j lj
end
section
variable {M M' : Cells} {hs : Ky → Nat} {g lv i : Nat} {l lf : List Pr} {cl : List (Nat × Nat)}
theorem Wy.ht (h : Wy M hs g lv i l cl lf) : HT M hs lv i l := by
  cases h with
  | leaf h => exact .leaf h
  | node h hT => exact .node h hT
theorem Wy.sub (h : Wy M hs g lv i l cl lf) : ∀ q ∈ lf, q ∈ l := by
  induction h with
  | leaf h => exact fun _ h => h
  | @node lv i l c r b s K L d cl lf h hT hd hx hw ih =>
    intro q hq
    rw [h.eq]
    exact mem_joinL.2 ⟨d, bit_lt h.s32 hd, ih q hq⟩
theorem Wy.ne (h : Wy M hs g lv i l cl lf) : lf ≠ [] := by
  induction h with
  | leaf h => exact h.ne
  | node _ _ _ _ _ ih => exact ih
theorem Wy.leafF (h : Wy M hs g lv i l cl lf) : ∃ lv' j c r, LeafF M hs lv' j lf c r ∧ cl.getLast? = some (j, 13) := by
  induction h with
  | @leaf lv i l c r h => exact ⟨lv, i, c, r, h, rfl⟩
  | @node lv i l c r b s K L d cl lf h hT hd hx hw ih =>
    obtain ⟨lv', j, c', r', h1, h2⟩ := ih
    refine ⟨lv', j, c', r', h1, ?_⟩
    rw [List.getLast?_cons, h2]
    rfl
theorem Wy.look {p : Pr} (hg : hs p.1 = g) (h : Wy M hs g lv i l cl lf) (hp : p ∈ l) : p ∈ lf := by
  induction h with
  | leaf h => exact hp
  | @node lv i l c r b s K L d cl lf h hT hd hx hw ih =>
    have h1 := h.mem.1 hp
    rw [hg] at h1
    have hb := h.bit h1
    have e : d = dg g b := by
      unfold sdx at hx
      rw [if_pos hb] at hx
      exact cnt_inj hd hb hx
    exact ih (by rw [e]; exact h1)
theorem Wy.has {k : Ky} (hg : hs k = g) (h : Wy M hs g lv i l cl lf) : hasN k lf = true ↔ ∃ q ∈ l, q.1 = k := by
  obtain ⟨_, _, _, _, hl, _⟩ := h.leafF
  rw [hasN_iff hl.so]
  constructor
  · rintro ⟨q, hq, e⟩
    exact ⟨q, h.sub q hq, e⟩
  · rintro ⟨q, hq, e⟩
    exact ⟨q, h.look (by rw [e]; exact hg) hq, e⟩
theorem Wy.split {k : Ky} {near : Pr} {level : Nat} (h : Wy M hs (hs k) lv i l cl lf) (hn : near ∈ lf) (hl : level ≤ pt (hs near.1) (hs k)) :
    ∃ pre post lvj j lj, cl = pre ++ post ∧ Wp M hs k lv i l pre lvj j lj ∧ Wy M hs (hs k) lvj j lj post lf ∧ (∀ x ∈ pre, x.2 < level) ∧ ∃ y rest, post = y :: rest ∧ level ≤ y.2 := by
  have h13 := pt_le (hs near.1) (hs k)
  induction h with
  | leaf h => exact ⟨[], _, _, _, _, rfl, .nil (.leaf h), .leaf h, fun x hx => (by cases hx), _, _, rfl, (by show level ≤ 13; omega)⟩
  | @node lv i l c r b s K L d cl lf h hT hd hx hw ih =>
    by_cases hb : b < level
    · have hnl : near ∈ L d := hw.sub near hn
      have hdd : d = dg (hs k) b := by
        rw [← h.dig d near hnl]
        exact pt_eq (by omega)
      obtain ⟨pre, post, lvj, j, lj, e1, e2, e3, e4, e5⟩ := ih hn
      subst hdd
      have hnl' : near ∈ l := by rw [h.eq]; exact mem_joinL.2 ⟨_, dg_lt _ _, hnl⟩
      refine ⟨(i, b) :: pre, post, lvj, j, lj, by rw [e1]; rfl, .cons h hT hd (fun q hq x hx => ?_) e2, e3, fun x hx => ?_, e5⟩
      · rw [← pt_eq (show x < pt (hs near.1) (hs k) by omega)]
        exact h.agr near hnl' q hq x hx
      · rcases List.mem_cons.1 hx with rfl | hx
        · exact hb
        · exact e4 x hx
    · exact ⟨[], _, _, _, _, rfl, .nil (.node h hT), .node h hT hd hx hw, fun x hx => (by cases hx), _, _, rfl, (by show level ≤ b; omega)⟩
end

end Go.Proofs.YtghbbpbhbinioaaGreat

namespace Go.Proofs.YtghbbpbhbinioaaGreat
set_option maxRecDepth 100000
open Go.RowKit

end Go.Proofs.YtghbbpbhbinioaaGreat

namespace Go.Proofs.YtghbbpbhbinioaaGreat
set_option maxRecDepth 100000
open Go.RowKit

theorem vsound_leaf (o s : Int) (A1 A2 : Option Addr) (n1 c1 n2 c2 : Nat) (w : World) (hn : 0 < n1) :
    Calls Tryz.prog 137 #[cagg o s 13 (.slice A1 n1 c1) (.slice A2 n2 c2)] w fun e w' => e = .returned (.bool true) ∧ Below w.heap.size w w' := by
  have HB := Lib.hid ((Below.refl w.heap.size w).alloc (Nat.le_refl _) (.cells #[.int .u32 o, .int .u32 s, .int .u32 13, .slice A1 n1 c1, .slice A2 n2 c2] 94))
  have hn' : (0 : Int) < (n1 : Int) := by omega
  go_enter Tryz.func137, Tryz.ntmps137
  go_wp2_with fail
  go_ret
  exact ⟨rfl, HB.out⟩
set_option maxHeartbeats 1600000 in
theorem vsound_node (o : Int) (s b : Nat) (A1 A2 : Option Addr) (n1 c1 n2 c2 : Nat) (w : World) (hs : s < 4294967296) (hb : b < 13) (h2 : 2 ≤ n2) (hn : n2 = cnt s 32) :
    Calls Tryz.prog 137 #[cagg o (s : Nat) (b : Nat) (.slice A1 n1 c1) (.slice A2 n2 c2)] w fun e w' => e = .returned (.bool true) ∧ Below w.heap.size w w' := by
  have hb1 : Below w.heap.size w (w.alloc (.cells #[.int .u32 o, .int .u32 (s : Nat), .int .u32 (b : Nat), .slice A1 n1 c1, .slice A2 n2 c2] 94)) := (Below.refl w.heap.size w).alloc (Nat.le_refl _) _
  have q := C5.new w 94 (.int .u32 o) (.int .u32 (s : Nat)) (.int .u32 (b : Nat)) (.slice A1 n1 c1) (.slice A2 n2 c2)
  have HL := Lib.hid (len s hs)
  rw [← hn] at HL
  have hb' : (b : Int) < 13 := by omega
  have h2' : (1 : Int) < (n2 : Int) := by omega
  clear hn
  go_enter Tryz.func137, Tryz.ntmps137
  go_upto_region 2 with fail
  generalize w.alloc (.cells #[.int .u32 o, .int .u32 (s : Nat), .int .u32 (b : Nat), .slice A1 n1 c1, .slice A2 n2 c2] 94) = w1 at q hb1 ⊢
  have HB := Lib.hid hb1
  obtain ⟨z, hz⟩ : ∃ z, z = w.heap.size := ⟨_, rfl⟩
  rw [← hz] at q ⊢
  have HQ := Lib.hid q
  have s0 : ∀ W', Below w1.heap.size w1 W' → W'.cell? ⟨z, 1, none⟩ = some (.int .u32 (s : Nat)) := fun W' h => (HQ.out.below h).c1
  have s1 : ∀ W', Below w1.heap.size w1 W' → W'.cell? ⟨z, 4, none⟩ = some (.slice A2 n2 c2) := fun W' h => (HQ.out.below h).c4
  clear hb1 q hz
  refine wp_region_noPanic ?_
  go_region_held (fun W' => Below w1.heap.size w1 W') (first | with_reducible assumption | exact (Below.refl _ _).drew)
    ((go_at_call 169; refine (HL.out _).mono ?_; rintro e w2 ⟨rfl, gw⟩; have hbn : Below w1.heap.size w1 w2 := (Below.refl _ _).drew.trans (gw.below.mono (Nat.le_refl _))))
  refine NoPanic.normal ?_
  go_wp2_with fail
  go_ret
  exact ⟨rfl, HB.out.trans (hbn.mono HB.out.size)⟩

abbrev land (b bh : Nat) : Value := .agg #[ap b, .pointer (some ⟨bh, 0, none⟩)]
def Sound (c : Hc) : Prop := ∀ (A1 A2 : Option Addr) (c1 c2 : Nat) (w : World), Calls Tryz.prog 137 #[cagg c.owner c.a c.b (.slice A1 c.vals.length c1) (.slice A2 c.kids.length c2)] w fun e w' => e = .returned (.bool true) ∧ Below w.heap.size w w'
theorem LeafF.sound {M : Cells} {hs : Ky → Nat} {lv i : Nat} {l : List Pr} {c : Hc} {r : Nat} (h : LeafF M hs lv i l c r) : Sound c := fun A1 A2 c1 c2 w => by
  rw [h.cb]
  refine vsound_leaf c.owner c.a A1 A2 _ c1 _ c2 w ?_
  rw [h.vals, flatP_length]
  have := List.length_pos_iff.2 h.ne
  omega
theorem NodeF.sound {M : Cells} {hs : Ky → Nat} {lv i : Nat} {l : List Pr} {c : Hc} {r b s : Nat} {K : Nat → Nat} {L : Nat → List Pr} (h : NodeF M hs lv i l c r b s K L) : Sound c := fun A1 A2 c1 c2 w => by
  rw [h.cb, h.ca]
  exact vsound_node c.owner s b A1 A2 _ c1 _ c2 w h.s32 h.b13 (by rw [h.len]; exact h.two) h.len
section
variable {b most : Nat} {M : Cells} {F : Nat → Prop}
end

end Go.Proofs.YtghbbpbhbinioaaGreat

namespace Go.Proofs.YtghbbpbhbinioaaGreat
set_option maxRecDepth 100000
open Go.RowKit

structure Wv where
  b : Nat
  bh : Nat
  ow : Int
  g : Nat
  root : Nat
  A4 : Option Addr
  n4 : Nat
  c4 : Nat
  A5 : Option Addr
  n5 : Nat
  c5 : Nat
  A6 : Option Addr
  n6 : Nat
  c6 : Nat
  at' : Nat
  has : Bool
abbrev wcells (x : Wv) : Array Value := #[ap x.b, .pointer (some ⟨x.bh, 0, none⟩), .int .u32 x.ow, .int .u64 x.g, .int .i64 x.root, .slice x.A4 x.n4 x.c4, .slice x.A5 x.n5 x.c5, .slice x.A6 x.n6 x.c6, .int .i64 x.at', .bool x.has]
def WC (w : World) (z : Nat) (x : Wv) : Prop := w.heap[z]? = some (.cells (wcells x) 104 (0, 0))
section
variable {w w' : World} {z : Nat} {x : Wv}
theorem WC.at {i : Nat} {u : Value} (h : WC w z x) (hi : (wcells x)[i]? = some u) : w.cell? ⟨z, i, none⟩ = some u := by
  have := cell_of_row w z i _ _ (0, 0) h
  rw [this]
  exact hi
theorem WC.lt (h : WC w z x) : z < w.heap.size := (Array.getElem?_eq_some_iff.1 h).1
theorem WC.below (h : WC w z x) (hb : Below w.heap.size w w') : WC w' z x := (hb.block z h.lt).trans h
theorem WC.kp {F : Nat → Prop} (h : WC w z x) (hk : Kp F w w') (hF : ¬ F z) : WC w' z x := hk.at h hF
theorem WC.new (w : World) (x : Wv) : WC (w.alloc (.cells (wcells x) 104)) w.heap.size x := heap_alloc_new w _
theorem WC.alloc (h : WC w z x) (o : Obj) : WC (w.alloc o) z x := (Below.heap_alloc w o z h.lt).trans h
end
section
end

end Go.Proofs.YtghbbpbhbinioaaGreat

namespace Go.Proofs.YtghbbpbhbinioaaGreat
set_option maxRecDepth 100000
open Go.RowKit

theorem WC.all {w : World} {z : Nat} {x : Wv} (h : WC w z x) : w.cell? ⟨z, 0, none⟩ = some (ap x.b) ∧ w.cell? ⟨z, 1, none⟩ = some (.pointer (some ⟨x.bh, 0, none⟩)) ∧ w.cell? ⟨z, 2, none⟩ = some (.int .u32 x.ow) ∧ w.cell? ⟨z, 3, none⟩ = some (.int .u64 x.g) ∧ w.cell? ⟨z, 4, none⟩ = some (.int .i64 x.root) ∧ w.cell? ⟨z, 5, none⟩ = some (.slice x.A4 x.n4 x.c4) ∧ w.cell? ⟨z, 6, none⟩ = some (.slice x.A5 x.n5 x.c5) ∧ w.cell? ⟨z, 7, none⟩ = some (.slice x.A6 x.n6 x.c6) ∧ w.cell? ⟨z, 8, none⟩ = some (.int .i64 x.at') ∧ w.cell? ⟨z, 9, none⟩ = some (.bool x.has) :=
  ⟨h.at rfl, h.at rfl, h.at rfl, h.at rfl, h.at rfl, h.at rfl, h.at rfl, h.at rfl, h.at rfl, h.at rfl⟩
section
end

end Go.Proofs.YtghbbpbhbinioaaGreat

namespace Go.Proofs.YtghbbpbhbinioaaGreat
set_option maxRecDepth 100000
open Go.RowKit
section
end

end Go.Proofs.YtghbbpbhbinioaaGreat

namespace Go.Proofs.YtghbbpbhbinioaaGreat
set_option maxRecDepth 100000
open Go.RowKit
section
end

end Go.Proofs.YtghbbpbhbinioaaGreat

namespace Go.Proofs.YtghbbpbhbinioaaGreat
set_option maxRecDepth 100000
open Go.RowKit
theorem Rd.pair (w : World) (k v : V3) (t : TypeId) (b : Nat) (hb : b = w.heap.size) : Rd (w.alloc (.cells #[.int .u8 k.1, .int .i64 k.2.1, .string k.2.2, .int .u8 v.1, .int .i64 v.2.1, .string v.2.2] t)) (.slice (some ⟨b, 0, none⟩) 2 2) 2 ([k, v].flatMap cells3) := by
  subst hb
  refine .inr ⟨_, 0, 2, rfl, Nat.le_refl _, fun j u hu => ?_⟩
  match j, hu with
  | 0, hu => simp [cells3] at hu; subst hu; simp [go_sem]
  | 1, hu => simp [cells3] at hu; subst hu; simp [go_sem]
  | 2, hu => simp [cells3] at hu; subst hu; simp [go_sem]
  | 3, hu => simp [cells3] at hu; subst hu; simp [go_sem]
  | 4, hu => simp [cells3] at hu; subst hu; simp [go_sem]
  | 5, hu => simp [cells3] at hu; subst hu; simp [go_sem]
  | j + 6, hu => simp [cells3] at hu
section
end

end Go.Proofs.YtghbbpbhbinioaaGreat
