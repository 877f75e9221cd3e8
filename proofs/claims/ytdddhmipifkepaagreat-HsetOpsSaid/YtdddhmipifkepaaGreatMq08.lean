/- Several texts in one. -/
import Derived.Test.YtdddhmipifkepaaGreatMq07
import Derived.Test.YtdddhmipifkepaaGreatMq03
namespace Go.Proofs.YtdddhmipifkepaaGreat
open Go.RowKit

def C3 (w : World) (b : Nat) (t : TypeId) (x0 x1 x2 : Value) : Prop := w.heap[b]? = some (.cells #[x0, x1, x2] t (0, 0))
section
variable {w w' : World} {b : Nat} {t : TypeId} {x0 x1 x2 : Value}
theorem C3.c0 (h : C3 w b t x0 x1 x2) : w.cell? ⟨b, 0, none⟩ = some x0 := by simpa using cell_of_row w b 0 _ _ (0, 0) h
theorem C3.c1 (h : C3 w b t x0 x1 x2) : w.cell? ⟨b, 1, none⟩ = some x1 := by simpa using cell_of_row w b 1 _ _ (0, 0) h
theorem C3.c2 (h : C3 w b t x0 x1 x2) : w.cell? ⟨b, 2, none⟩ = some x2 := by simpa using cell_of_row w b 2 _ _ (0, 0) h
theorem C3.fz (h : C3 w b t x0 x1 x2) (i : Nat) : w.frozen? ⟨b, i, none⟩ = false := frozen_of_row w b i _ _ h
theorem C3.all (h : C3 w b t x0 x1 x2) : w.cell? ⟨b, 0, none⟩ = some x0 ∧ w.cell? ⟨b, 1, none⟩ = some x1 ∧ w.cell? ⟨b, 2, none⟩ = some x2 ∧ w.frozen? ⟨b, 0, none⟩ = false ∧ w.frozen? ⟨b, 1, none⟩ = false ∧ w.frozen? ⟨b, 2, none⟩ = false :=
  ⟨h.c0, h.c1, h.c2, h.fz 0, h.fz 1, h.fz 2⟩
theorem C3.set0 (h : C3 w b t x0 x1 x2) (y : Value) : C3 (w.setCell ⟨b, 0, none⟩ y) b t y x1 x2 := by
  have := heap_setCell_same w b 0 _ _ y h
  simpa [C3] using this
theorem C3.set1 (h : C3 w b t x0 x1 x2) (y : Value) : C3 (w.setCell ⟨b, 1, none⟩ y) b t x0 y x2 := by
  have := heap_setCell_same w b 1 _ _ y h
  simpa [C3] using this
theorem C3.set2 (h : C3 w b t x0 x1 x2) (y : Value) : C3 (w.setCell ⟨b, 2, none⟩ y) b t x0 x1 y := by
  have := heap_setCell_same w b 2 _ _ y h
  simpa [C3] using this
theorem C3.other (h : C3 w b t x0 x1 x2) {g o : Nat} (hg : b ≠ g) (y : Value) : C3 (w.setCell ⟨g, o, none⟩ y) b t x0 x1 x2 := (Below.heap_setCell w ⟨g, o, none⟩ y b hg).trans h
theorem C3.lt (h : C3 w b t x0 x1 x2) : b < w.heap.size := (Array.getElem?_eq_some_iff.1 h).1
theorem C3.kp {F : Nat → Prop} (h : C3 w b t x0 x1 x2) (hk : Kp F w w') (hF : ¬ F b) : C3 w' b t x0 x1 x2 := hk.at h hF
theorem C3.below (h : C3 w b t x0 x1 x2) (hb : Below w.heap.size w w') : C3 w' b t x0 x1 x2 := (hb.block b h.lt).trans h
theorem C3.new (w : World) (t : TypeId) (x0 x1 x2 : Value) : C3 (w.alloc (.cells #[x0, x1, x2] t)) w.heap.size t x0 x1 x2 := heap_alloc_new w _
theorem C3.alloc (h : C3 w b t x0 x1 x2) (o : Obj) : C3 (w.alloc o) b t x0 x1 x2 := (Below.heap_alloc w o b h.lt).trans h
end

section
variable {b most : Nat} {M M' : Cells} {F : Nat → Prop}
theorem Stp.from {w w1 w2 : World} (hF : ∀ x, F x → x < w.heap.size) (hb : Below w.heap.size w w1) (h : Stp w1 w2 b most M' F) : Stp w w2 b most M' F :=
  ⟨h.ar.mono (fun _ hx => hx.imp id (fun hx => ⟨Nat.le_trans hb.size hx.1, hx.2⟩)) (fun x hx => hx.elim (fun hx => Nat.lt_of_lt_of_le (hF x hx) (Nat.le_trans hb.size h.kp.size)) (fun hx => hx.2)), (Kp.of_below hb F).trans h.kp (fun _ => .inl)⟩

structure LeafAt (M : Cells) (v : Vc) (l : Vs) (i x : Nat) : Prop where
  leaf : Leaf M x (chunk l (i / 32))
  tail : i / 32 = (l.length - 1) / 32 → x = v.tail
  trunk : i / 32 ≠ (l.length - 1) / 32 → ∃ c r, M v.root = some (c, r) ∧ c.kids[i / 32]? = some x
theorem flat3_at : ∀ {vs : Vs} {j : Nat} {x : Int × Int × ByteArray}, vs[j]? = some x → (vs.flatMap cells3)[j * 3]? = some (.int .u8 x.1) ∧ (vs.flatMap cells3)[j * 3 + 1]? = some (.int .i64 x.2.1) ∧ (vs.flatMap cells3)[j * 3 + 2]? = some (.string x.2.2)
  | [], _, _, h => by simp at h
  | y :: vs, 0, x, h => by
    simp at h
    subst h
    simp [cells3]
  | y :: vs, j + 1, x, h => by
    have h' : vs[j]? = some x := by simpa using h
    obtain ⟨a0, a1, a2⟩ := flat3_at h'
    have hl : (cells3 y).length = 3 := rfl
    refine ⟨?_, ?_, ?_⟩
    · rw [List.flatMap_cons, List.getElem?_append_right (by rw [hl]; omega), hl, show (j + 1) * 3 - 3 = j * 3 by omega]; exact a0
    · rw [List.flatMap_cons, List.getElem?_append_right (by rw [hl]; omega), hl, show (j + 1) * 3 + 1 - 3 = j * 3 + 1 by omega]; exact a1
    · rw [List.flatMap_cons, List.getElem?_append_right (by rw [hl]; omega), hl, show (j + 1) * 3 + 2 - 3 = j * 3 + 2 by omega]; exact a2
abbrev xagg (x : Int × Int × ByteArray) : Value := .agg #[.int .u8 x.1, .int .i64 x.2.1, .string x.2.2]
end

end Go.Proofs.YtdddhmipifkepaaGreat

namespace Go.Proofs.YtdddhmipifkepaaGreat
open Go.RowKit

section
variable {F : Nat → Prop}
end

section
variable {b most : Nat} {M : Cells} {F : Nat → Prop}
theorem Stp.close {M' : Cells} {w w1 w2 w3 : World} (hF : ∀ x, F x → x < w.heap.size) (hb : Below w.heap.size w w1) (h : Stp w1 w2 b most M' F) {G : Nat → Prop} (hk : Kp G w2 w3) (hG : ∀ g, G g → w.heap.size ≤ g ∧ g < w1.heap.size) : Stp w w3 b most M' F := by
  have h1 := h.ar.kp hk (fun k hk' hg => by
    have := hG k hg
    rcases hk' with hk' | hk'
    · have := hF k hk'; omega
    · omega)
  refine ⟨h1.mono (fun x hx => hx.imp id (fun hx => ⟨Nat.le_trans hb.size hx.1, Nat.lt_of_lt_of_le hx.2 hk.size⟩)) (fun x hx => hx.elim (fun hx => Nat.lt_of_lt_of_le (hF x hx) (Nat.le_trans hb.size (Nat.le_trans h.kp.size hk.size))) (fun hx => hx.2)), ((Kp.of_below hb F).trans h.kp (fun _ => .inl)).trans hk (fun g hg => .inr (hG g hg).1)⟩
theorem Stp.not {M' : Cells} {w w' : World} (_hF : ∀ x, F x → x < w.heap.size) (_h : Stp w w' b most M' F) {g : Nat} (hg : g < w.heap.size) (hn : ¬ F g) : ¬ Fn F w w' g := by
  rintro (e | e)
  · exact hn e
  · omega

structure Rn (w w' : World) (b most : Nat) (M' : Cells) (F F' : Nat → Prop) : Prop where
  ar : Ar w' b most M' F'
  kp : Kp F w w'
  sub : ∀ x, F' x → F x ∨ w.heap.size ≤ x
section
variable {M' M'' : Cells} {w w' w'' : World} {F' : Nat → Prop}
theorem Rn.below (h : Ar w b most M F) (hb : Below w.heap.size w w') : Rn w w' b most M F F := ⟨h.below hb, Kp.of_below hb F, fun _ => .inl⟩
theorem Rn.stp (h : Rn w w' b most M' F F') (k : Stp w' w'' b most M'' F') : Rn w w'' b most M'' F (Fn F' w' w'') :=
  ⟨k.ar, h.kp.trans k.kp h.sub, fun x hx => by
    rcases hx with hx | hx
    · exact h.sub x hx
    · exact .inr (Nat.le_trans h.kp.size hx.1)⟩
theorem Rn.mine {G : Nat → Prop} (h : Rn w w' b most M' F F') (hk : Kp G w' w'') (hG : ∀ g, G g → w.heap.size ≤ g ∧ ¬ F' g) : Rn w w'' b most M' F F' :=
  ⟨h.ar.kp hk (fun x hx hg => (hG x hg).2 hx), h.kp.trans hk (fun g hg => .inr (hG g hg).1), h.sub⟩
theorem Rn.fin (h : Rn w w' b most M' F F') (hF : ∀ x, F x → x < w.heap.size) : Stp w w' b most M' F :=
  ⟨h.ar.mono (fun x hx => (h.sub x hx).imp id (fun hx' => ⟨hx', h.ar.lt hx⟩)) (fun x hx => hx.elim (fun hx => Nat.lt_of_lt_of_le (hF x hx) h.kp.size) (fun hx => hx.2)), h.kp⟩
end

theorem sumTo_mono {f g : Nat → Nat} (h : ∀ j, f j ≤ g j) : ∀ n, sumTo n f ≤ sumTo n g
  | 0 => Nat.le_refl _
  | n + 1 => by simp only [sumTo]; exact Nat.add_le_add (sumTo_mono h n) (h n)
theorem release_live {N : Nat} (x : Nat) : live N (release M x).1 ≤ live N M := by
  unfold live
  have key : ∀ j, one ((release M x).1 j) ≤ one (M j) := fun j => by
    cases e : M j with
    | none =>
      have h1 : (release M x).1 j = none := by
        have h2 := release_rf (M := M) x j
        unfold release
        cases hM : M x with
        | none => exact e
        | some y =>
          obtain ⟨c, r⟩ := y
          by_cases e' : j = x
          · subst e'; rw [e] at hM; cases hM
          · show (if 1 < r then (upd M x (some (c, r - 1)), []) else (upd M x none, c.kids)).1 j = none
            split
            · show upd M x (some (c, r - 1)) j = none; rw [upd_other _ _ e']; exact e
            · show upd M x none j = none; rw [upd_other _ _ e']; exact e
      rw [h1]; exact Nat.le_refl _
    | some y =>
      cases (release M x).1 j with
      | none => exact Nat.zero_le _
      | some z => exact Nat.le_refl _
  exact sumTo_mono key N
theorem drops_live {N : Nat} {M' : Cells} {t : List Nat} (h : Drops M t M') : live N M' ≤ live N M := by
  induction h with
  | done M => exact Nat.le_refl _
  | step _ ih => exact Nat.le_trans ih (release_live _)
theorem Renewed.live_le {i n : Nat} {ow : Int} {c : Hc} {M' : Cells} (h : Renewed M i ow c most n M') : live (most + 1) M' ≤ live (most + 1) M + (if aloneB M i ow = true then 0 else 1) := by
  unfold Renewed at h
  split at h
  · rename_i hal
    obtain ⟨rfl, rfl⟩ := h
    rw [if_pos hal]
    have h2 : M n ≠ none := by
      unfold aloneB at hal
      intro e
      rw [e] at hal
      simp at hal
    by_cases hlt : n < most + 1
    · have h1 := live_upd (M := M) (N := most + 1) n (some ({ c with owner := ow }, 1)) hlt
      cases e : M n with
      | none => exact absurd e h2
      | some y => rw [e] at h1; simp only [one] at h1; omega
    · have : live (most + 1) (upd M n (some ({ c with owner := ow }, 1))) = live (most + 1) M := sumTo_congr _ fun j hj => by rw [upd_other _ _ (by omega)]
      omega
  · rename_i hal
    obtain ⟨n1, n2, n3, hd⟩ := h
    rw [if_neg hal]
    have h0 := drops_live (N := most + 1) hd
    have h1 := live_upd (M := keepAll M (contC M i).kids) (N := most + 1) n (some ({ c with owner := ow }, 1)) (by omega)
    have h3 : keepAll M (contC M i).kids n = none := keepAll_none.2 n3
    rw [h3] at h1
    simp only [one] at h1
    rw [keepAll_live] at h1
    omega
end

end Go.Proofs.YtdddhmipifkepaaGreat

namespace Go.Proofs.YtdddhmipifkepaaGreat
set_option maxRecDepth 100000
open Go.RowKit

def ChgS (f : FuncId) (caps : Array Value) (b most : Nat) (F : Nat → Prop) (w : World) (M1 : Cells) (c : Hc) (R : Hc → Cells → Prop) : Prop :=
  ∀ (o : Int) (v k : Value) (W : World) (F1 : Nat → Prop), Rn w W b most M1 F F1 → (∀ q, v.ownBlock = some q → ¬ F1 q) → (∀ q, k.ownBlock = some q → ¬ F1 q) → W.ownsRow w.heap.size 36 3 v c.vals.length (c.vals.flatMap cells3) → W.ownsRow w.heap.size 3 1 k c.kids.length (nums (ns c.kids)) →
    Calls Tryz.prog f (#[cagg o c.a c.b v k] ++ caps) W fun e W' => ∃ v' k' c' M2 F2, e = .returned (cagg o c'.a c'.b v' k') ∧ Rd W' v' c'.vals.length (c'.vals.flatMap cells3) ∧ Rd W' k' c'.kids.length (nums (ns c'.kids)) ∧ Rn w W' b most M2 F F2 ∧ (∀ q, v'.ownBlock = some q → ¬ F2 q) ∧ (∀ q, k'.ownBlock = some q → ¬ F2 q) ∧ R c' M2
section
variable {b most : Nat} {M : Cells} {F : Nat → Prop}
set_option maxRecDepth 100000 in
set_option maxHeartbeats 4000000 in
theorem vrenewS (f : FuncId) (caps : Array Value) (R : Hc → Cells → Prop) (i : Nat) (ow : Int) (c0 : Hc) (w : World) (h : Ar w b most M F) (hf : ∀ (args : Array Value) (W : World), (callFunc f args).run Tryz.prog W = .ok (.enter f args) W) (hc0 : contC M i = c0) (hal : aloneB M i ow = false) (hch : ChgS f caps b most F w (keepAll M c0.kids) c0 R)
    (hr : ∀ j, rf (M j) + c0.kids.length ≤ 4611686018427387900) (nl : c0.kids.length ≤ 4194304)
    (hR : ∀ c' M2, R c' M2 → live (most + 1) M2 < most ∧ (∀ j, rf (M2 j) ≤ 4611686018427387900) ∧ c'.vals.length ≤ 4194304 ∧ c'.kids.length ≤ 4194304 ∧ (ns c'.kids).all (goodB M2) = true) :
    Calls Tryz.prog 227 #[ap b, .int .i64 i, .int .u32 ow, .func (.func f) #[] caps] w fun e w' => ∃ n c' M2 M', e = .returned (.int .i64 (n : Nat)) ∧ R c' M2 ∧ 1 ≤ n ∧ n ≤ most ∧ M2 n = none ∧ Drops (upd M2 n (some ({ c' with owner := ow }, 1))) [i] M' ∧ Stp w w' b most M' F := by
  have HA := Lib.hid h
  have HC := Lib.hid hch
  have HR := Lib.hid hr
  clear h hch hr
  have hget := vget i w HA.out
  rw [hc0] at hget
  go_enter Tryz.func227, Tryz.ntmps227
  go_wp2_with fail
  refine hget.mono ?_
  rintro e w1 ⟨v, k, rfl, o1, o2, hb1⟩
  obtain ⟨A1, m1, rfl, _⟩ := (Rd.of_own o1).form
  obtain ⟨A2, m2, rfl, _⟩ := (Rd.of_own o2).form
  have O1 := Lib.hid o1
  have O2 := Lib.hid o2
  have B1 := Lib.hid hb1
  clear o1 o2 hb1 hget
  go_wp2_with fail
  refine (valone i ow _ (HA.out.below (B1.out.alloc B1.out.size _))).mono ?_
  rintro e w2 ⟨rfl, hb2⟩
  rw [hal]
  have hb12 : Below w1.heap.size w1 w2 := ((Below.refl _ w1).alloc (Nat.le_refl _) _).trans (hb2.mono (by simp))
  have q1 := (C5.new w1 109 (.int .u32 c0.owner) (.int .u32 c0.a) (.int .u32 c0.b) (.slice A1 c0.vals.length m1) (.slice A2 c0.kids.length m2)).below hb2
  have HB2 := Lib.hid (B1.out.trans (hb12.mono B1.out.size))
  have HZ := Lib.hid (show w.heap.size ≤ w1.heap.size ∧ w1.heap.size < w2.heap.size from ⟨B1.out.size, q1.lt⟩)
  have HK0 := Lib.hid (Kept.mk (w2 := w2) (wr := w2) (B := w.heap.size) (c := c0) (j := 0) (M := M) (b := b) (most := most) (F := F) (Stp.refl (HA.out.below HB2.out)) q1 ((Kp.of_below hb12 (fun _ => False)).own O1.out (fun _ _ => id)) ((Kp.of_below hb12 (fun _ => False)).own O2.out (fun _ _ => id)))
  have HF := Lib.hid (show ∀ x, F x → x < w.heap.size from fun x hx => HA.out.lt hx)
  generalize w1.heap.size = z1 at q1 HZ HK0 ⊢
  have HB1 := Lib.hid B1.out.size
  clear O1 O2 B1 hb2 hb12
  obtain ⟨c1, c2, c3, c4, c5, _⟩ := q1.all
  clear q1
  go_wp2_with fail
  clear c1 c2 c3 c4 c5
  go_loopg [36] c0.kids.length (fun c' iv wr => ∃ j : Nat, j + c' = c0.kids.length ∧ iv = .int .i64 j ∧ Kept w2 wr b most M F w.heap.size z1 c0 (.slice A1 c0.vals.length m1) (.slice A2 c0.kids.length m2) j)
  case atStart => exact ⟨0, by omega, rfl, HK0.out⟩
  case round =>
    obtain ⟨j, hj, rfl, hK⟩ := hrel
    by_cases h1 : j < c0.kids.length
    · obtain ⟨x, hx⟩ : ∃ x, c0.kids[j]? = some x := ⟨_, List.getElem?_eq_getElem h1⟩
      obtain ⟨gx, cx, e, _, hcell, _⟩ := own_at hK.o2 (j := j) (u := .int .i64 (x : Int)) (by rw [nums_at]; unfold ns; rw [List.getElem?_map, hx]; rfl)
      simp only [Value.slice.injEq, true_and] at e
      obtain ⟨rfl, rfl⟩ := e
      have HK := Lib.hid hK
      have HX := Lib.hid hx
      clear hK hx
      have y3 : (0 : Int) ≤ (j : Int) := by omega
      have y4 : (j : Int) < (c0.kids.length : Int) := by omega
      have hrx : rf (keepAll M (c0.kids.take j) x) ≤ 4611686018427387904 := by
        have h1 := keepAll_rf (j := x) (l := c0.kids.take j) (M := M)
        have h2 := HR.out x
        rw [List.length_take] at h1
        omega
      go_wp2_with (go_at_call 115; refine (vkeep1 x _ HK.out.st.ar hrx).mono ?_; rintro e w3 ⟨⟨zz, rfl⟩, hs⟩; have HS := Lib.hid hs; clear hs)
      go_roundg (c0.kids.length - (j + 1))
      case measure => omega
      case rel =>
        refine ⟨j + 1, by omega, by go_num, ?_, HK.out.c5.kp HS.out.kp ?_, HS.out.kp.own HK.out.o1 (fun q hq hf' => ?_), HS.out.kp.own HK.out.o2 (fun q hq hf' => ?_)⟩
        · rw [List.take_add_one, HX.out, Option.toList_some, keepAll_snoc]
          exact HK.out.st.trans HS.out
        · rintro (hf' | hf')
          · have := HF.out _ hf'; have := HZ.out; omega
          · have := HZ.out; omega
        · have h1 := (HK0.out.o1.lt q hq)
          rcases hf' with hf' | hf'
          · have := HF.out _ hf'; omega
          · omega
        · have h1 := (HK0.out.o2.lt q hq)
          rcases hf' with hf' | hf'
          · have := HF.out _ hf'; omega
          · omega
    · obtain rfl : j = c0.kids.length := by omega
      have HK := Lib.hid hK
      clear hK
      obtain ⟨c1, c2, c3, c4, c5, f1, _⟩ := HK.out.c5.all
      have hzn : ¬ Fn F w2 wr z1 := by
        rintro (hf' | hf')
        · have := HF.out _ hf'; have := HZ.out; omega
        · have := HZ.out; omega
      have hvn : ∀ q, (Value.slice A1 c0.vals.length m1).ownBlock = some q → w.heap.size ≤ q ∧ ¬ Fn F w2 wr q := fun q hq => by
        have h1 := (HK0.out.o1.lt q hq)
        refine ⟨h1.1, ?_⟩
        rintro (hf' | hf')
        · have := HF.out _ hf'; omega
        · omega
      have hkn : ∀ q, (Value.slice A2 c0.kids.length m2).ownBlock = some q → w.heap.size ≤ q ∧ ¬ Fn F w2 wr q := fun q hq => by
        have h1 := (HK0.out.o2.lt q hq)
        refine ⟨h1.1, ?_⟩
        rintro (hf' | hf')
        · have := HF.out _ hf'; omega
        · omega
      have HVN := Lib.hid hvn
      have HKN := Lib.hid hkn
      have kz := Kp.one wr z1 0 (.int .u32 ow)
      have hz1 : w.heap.size ≤ z1 := by have := HZ.out; omega
      have kw := ((Kp.of_below HB2.out F).trans HK.out.st.kp (fun _ => .inl)).trans kz (fun q e => .inr (e ▸ hz1))
      have p1 := Lib.hid (kz.own HK.out.o1 (own_ne HK.out.o1 HK.out.c5 (by decide)))
      have p2 := Lib.hid (kz.own HK.out.o2 (own_ne HK.out.o2 HK.out.c5 (by decide)))
      have KW := Lib.hid kw
      have AW := Lib.hid (HK.out.st.ar.kp kz (fun q hq e => hzn (e ▸ hq)))
      clear kz kw hvn hkn
      go_wp2_with fail
      generalize wr.setCell ⟨z1, 0, none⟩ (.int .u32 ow) = w3 at p1 p2 KW AW ⊢
      have RN3 := Lib.hid (show Rn w w3 b most (keepAll M c0.kids) F (Fn F w2 wr) from ⟨by have := AW.out; rw [List.take_length] at this; exact this, KW.out, fun q hq => hq.elim .inl (fun hq => .inr (Nat.le_trans HB2.out.size hq.1))⟩)
      refine (HC.out ow _ _ w3 _ RN3.out (fun q hq => (HVN.out q hq).2) (fun q hq => (HKN.out q hq).2) p1.out p2.out).mono ?_
      rintro e w4 ⟨v', k', c', M2, F2, rfl, r1, r2, rn4, hn1, hn2, hr'⟩
      obtain ⟨A3, m3, rfl, _⟩ := r1.form
      obtain ⟨A4, m4, rfl, _⟩ := r2.form
      obtain ⟨hlv, hrf, nv, nk, hgd⟩ := hR c' M2 hr'
      have R1 := Lib.hid r1
      have R2 := Lib.hid r2
      have RN4 := Lib.hid rn4
      have N1 := Lib.hid hn1
      have N2 := Lib.hid hn2
      have HRR := Lib.hid hr'
      clear r1 r2 rn4 hn1 hn2 hr' c1 c2 c3 c4 c5 f1
      go_wp2_with fail
      refine (amake { c' with owner := ow } _ _ b most _ _ _ RN4.out.ar R1.out R2.out nv nk N1.out N2.out hgd hlv).mono ?_
      rintro e w5 ⟨n, rfl, n1, n2, n3, ha5, hk5⟩
      have RN5 := Lib.hid (RN4.out.stp (Stp.mk ha5 hk5))
      have hr5 : ∀ q, rf (upd M2 n (some ({ c' with owner := ow }, 1)) q) ≤ 4611686018427387904 := fun q => by
        by_cases e : q = n
        · subst e; rw [upd_same]; show 1 ≤ _; decide
        · rw [upd_other _ _ e]
          exact Nat.le_trans (hrf q) (by decide)
      clear ha5 hk5
      go_wp2_with fail
      refine (vdrop1 i _ RN5.out.ar hr5).mono ?_
      rintro e w6 ⟨⟨zz, rfl⟩, M', hd, hs6⟩
      have HD := Lib.hid hd
      have HE := Lib.hid ((RN5.out.stp hs6).fin HF.out)
      clear hd hs6
      go_wp2_with fail
      go_ret
      exact ⟨n, c', M2, M', rfl, HRR.out, n1, n2, n3, HD.out, HE.out⟩
end

end Go.Proofs.YtdddhmipifkepaaGreat

namespace Go.Proofs.YtdddhmipifkepaaGreat
set_option maxRecDepth 100000
open Go.RowKit

section
variable {b most : Nat} {M : Cells} {F : Nat → Prop}
set_option maxRecDepth 100000 in
set_option maxHeartbeats 2000000 in
theorem vrenewS_in (f : FuncId) (caps : Array Value) (R : Hc → Cells → Prop) (i : Nat) (ow : Int) (c0 : Hc) (w : World) (h : Ar w b most M F) (hf : ∀ (args : Array Value) (W : World), (callFunc f args).run Tryz.prog W = .ok (.enter f args) W) (hi : M i = some (c0, 1)) (ho : c0.owner = ow) (h0 : ¬ ow = 0) (hch : ChgS f caps b most F w M c0 R)
    (hR : ∀ c' M2, R c' M2 → M2 i = some (c0, 1) ∧ c'.vals.length ≤ 4194304 ∧ c'.kids.length ≤ 4194304 ∧ (ns c'.kids).all (goodB M2) = true) :
    Calls Tryz.prog 227 #[ap b, .int .i64 i, .int .u32 ow, .func (.func f) #[] caps] w fun e w' => ∃ c' M2, e = .returned (.int .i64 (i : Int)) ∧ R c' M2 ∧ Stp w w' b most (upd M2 i (some ({ c' with owner := ow }, 1))) F := by
  have hal : aloneB M i ow = true := by unfold aloneB; rw [hi]; simp [h0, ho]
  have HA := Lib.hid h
  have HI := Lib.hid hi
  have HC := Lib.hid hch
  have HF := Lib.hid (show ∀ x, F x → x < w.heap.size from fun x hx => h.lt hx)
  clear h hi hch
  go_enter Tryz.func227, Tryz.ntmps227
  go_wp2_with fail
  refine (get i c0 1 b most M F _ HA.out HI.out).mono ?_
  rintro e w1 ⟨v, k, rfl, o1, o2, hb1⟩
  obtain ⟨A1, m1, rfl, _⟩ := (Rd.of_own o1).form
  obtain ⟨A2, m2, rfl, _⟩ := (Rd.of_own o2).form
  have O1 := Lib.hid o1
  have O2 := Lib.hid o2
  have B1 := Lib.hid hb1
  clear o1 o2 hb1
  go_wp2_with fail
  refine (valone i ow _ (HA.out.below (B1.out.alloc B1.out.size _))).mono ?_
  rintro e w2 ⟨rfl, hb2⟩
  rw [hal]
  have hb12 : Below w1.heap.size w1 w2 := ((Below.refl _ w1).alloc (Nat.le_refl _) _).trans (hb2.mono (by simp))
  have q1 := (C5.new w1 109 (.int .u32 ow) (.int .u32 c0.a) (.int .u32 c0.b) (.slice A1 c0.vals.length m1) (.slice A2 c0.kids.length m2)).below hb2
  have O1' := Lib.hid ((Kp.of_below hb12 (fun _ => False)).own O1.out (fun _ _ => id))
  have O2' := Lib.hid ((Kp.of_below hb12 (fun _ => False)).own O2.out (fun _ _ => id))
  have HB2 := Lib.hid (B1.out.trans (hb12.mono B1.out.size))
  generalize w1.heap.size = z1 at q1 ⊢
  obtain ⟨c1, c2, c3, c4, c5, _⟩ := q1.all
  clear O1 O2 B1 hb2 hb12 q1
  have HN1 := Lib.hid (show ∀ q, (Value.slice A1 c0.vals.length m1).ownBlock = some q → ¬ F q from fun q hq hf' => by
    have h1 := O1'.out.lt q hq
    have := HF.out q hf'; omega)
  have HN2 := Lib.hid (show ∀ q, (Value.slice A2 c0.kids.length m2).ownBlock = some q → ¬ F q from fun q hq hf' => by
    have h1 := O2'.out.lt q hq
    have := HF.out q hf'; omega)
  have RN2 := Lib.hid (show Rn w w2 b most M F F from Rn.below HA.out HB2.out)
  go_wp2_with fail
  refine (HC.out ow _ _ w2 F RN2.out HN1.out HN2.out O1'.out O2'.out).mono ?_
  rintro e w3 ⟨v', k', c', M2, F2, rfl, r1, r2, rn3, hn1, hn2, hr'⟩
  obtain ⟨A3, m3, rfl, _⟩ := r1.form
  obtain ⟨A4, m4, rfl, _⟩ := r2.form
  obtain ⟨hi2, nv, nk, hgd⟩ := hR c' M2 hr'
  have R1 := Lib.hid r1
  have R2 := Lib.hid r2
  have RN3 := Lib.hid rn3
  have HRR := Lib.hid hr'
  have HI2 := Lib.hid hi2
  clear r1 r2 rn3 hn1 hn2 hr' hi2 c1 c2 c3 c4 c5
  go_wp2_with fail
  refine (aeditO i ow ow c' c0 { c' with owner := ow } _ _ b most M2 _ _ RN3.out.ar HI2.out ho.symm h0 rfl R1.out R2.out nv nk hgd).mono ?_
  rintro e w4 ⟨rfl, ha4, hk4⟩
  have HE := Lib.hid ((RN3.out.stp (Stp.mk ha4 hk4)).fin HF.out)
  clear ha4 hk4
  go_wp2_with fail
  go_ret
  exact ⟨c', M2, rfl, HRR.out, HE.out⟩
end

end Go.Proofs.YtdddhmipifkepaaGreat

namespace Go.Proofs.YtdddhmipifkepaaGreat
set_option maxRecDepth 100000
open Go.RowKit

theorem live_mono {N : Nat} {A B : Cells} (h : ∀ j, A j ≠ none → B j ≠ none) : live N A ≤ live N B := sumTo_mono (fun j => by
  cases e : A j with
  | none => exact Nat.zero_le _
  | some x =>
    cases e' : B j with
    | none => exact absurd e' (h j (by rw [e]; simp))
    | some y => exact Nat.le_refl _) N
theorem live_upd_some (N : Nat) {A : Cells} {x : Nat} (hx : A x ≠ none) (z : Hc × Nat) : live N (upd A x (some z)) = live N A := by
  refine sumTo_congr N fun j _ => ?_
  by_cases e : j = x
  · subst e
    rw [upd_same]
    cases e1 : A j with
    | none => exact absurd e1 hx
    | some y => rfl
  · rw [upd_other _ _ e]
theorem good_kids {M : Cells} {l : List Nat} (h : ∀ q ∈ l, q ≠ 0 → M q ≠ none) : (ns l).all (goodB M) = true := by
  rw [List.all_eq_true]
  intro y hy
  unfold ns at hy
  obtain ⟨q, hq, rfl⟩ := List.mem_map.1 hy
  unfold goodB
  have e : M ((q : Int)).toNat = M q := by rw [Int.toNat_natCast]
  rw [e]
  by_cases h0 : q = 0
  · subst h0; simp
  · cases e1 : M q with
    | none => exact absurd e1 (h q hq h0)
    | some z => simp; omega

structure Fun (most : Nat) (M1 : Cells) (H1 : List Nat) (P1 : Nat → Nat) (q : Nat) (Q : Hc → Cells → Prop) (c' : Hc) (M2 : Cells) : Prop where
  bk : Bk (most + 1) M2 H1 P1 c'.kids
  keeps : Keeps P1 (blank M1 H1) (blank M2 H1)
  holes : ∀ x ∈ H1, M2 x = M1 x
  live : live (most + 1) M2 ≤ Proofs.YtdddhmipifkepaaGreat.live (most + 1) M1 + q
  nv : c'.vals.length ≤ 4194304
  nk : c'.kids.length ≤ 64
  q : Q c' M2
def Way (M : Cells) (H : List Nat) (i : Nat) (ow : Int) (c0 : Hc) (M1 : Cells) (H1 : List Nat) : Prop :=
  (aloneB M i ow = true ∧ M1 = M ∧ H1 = i :: H) ∨ (aloneB M i ow = false ∧ M1 = keepAll M c0.kids ∧ H1 = H)
structure Way1 (most : Nat) (M : Cells) (H : List Nat) (P : Nat → Nat) (i : Nat) (ow : Int) (c0 : Hc) (M1 : Cells) (H1 : List Nat) : Prop where
  way : Way M H i ow c0 M1 H1
  bk : Bk (most + 1) M1 H1 (addP P i) c0.kids
  keeps : Keeps P (blank M H) (blank M1 H1)
  kids : ∀ k ∈ c0.kids, k ≠ 0 → Pres (blank M H) (blank M1 H1) k
  live : live (most + 1) M1 = Proofs.YtdddhmipifkepaaGreat.live (most + 1) M
structure Ren (most : Nat) (M : Cells) (H : List Nat) (P : Nat → Nat) (ow : Int) (q : Nat) (n : Nat) (M' : Cells) (c' : Hc) (M2 : Cells) (H1 : List Nat) : Prop where
  pos : 1 ≤ n
  bk : Bk (most + 1) M' H P [n]
  cell : M' n = some ({ c' with owner := ow }, 1)
  keeps : Keeps P (blank M H) (blank M' H)
  kids : ∀ k ∈ c'.kids, k ≠ 0 → Pres (blank M2 H1) (blank M' H) k
  holes : ∀ x ∈ H, M' x = M x
  live : live (most + 1) M' ≤ Proofs.YtdddhmipifkepaaGreat.live (most + 1) M + q

theorem alone_cell {M : Cells} {i : Nat} {ow : Int} (h : aloneB M i ow = true) : ∃ c, M i = some (c, 1) ∧ c.owner = ow ∧ ¬ ow = 0 := by
  unfold aloneB at h
  cases e : M i with
  | none => rw [e] at h; simp at h
  | some y =>
    obtain ⟨c, r⟩ := y
    rw [e] at h
    simp at h
    obtain ⟨h0, h1, h2⟩ := h
    exact ⟨c, by rw [h1], h2, h0⟩
section
variable {b most : Nat} {M : Cells} {F : Nat → Prop} {H : List Nat} {P : Nat → Nat}
theorem way_in {i : Nat} {ow : Int} {c0 : Hc} (hb : Bk (most + 1) M H P [i]) (hM : M i = some (c0, 1)) (hal : aloneB M i ow = true) : Way1 most M H P i ow c0 M (i :: H) := by
  have hi := hb.lt (j := i) (by rw [hM]; simp)
  have hiH := (hb.hand (i := i) (by simp) (by omega)).2
  have hP0 : P i = 0 := by
    have := hb.bal (i := i) hi.1
    rw [hM] at this
    simp only [rf, List.count_singleton_self] at this
    omega
  refine ⟨.inl ⟨hal, rfl, rfl⟩, ?_, fun r h0 hr => hb.pres_open hM (fun e => by rw [e] at hr; omega), fun k hk h0 => hb.pres_open hM (fun e => ?_), rfl⟩
  · have := hb.open hM
    rwa [List.append_nil] at this
  · subst e
    have h1 : k ∈ kd (blank M H k) := by rw [blank_out hiH, hM]; exact hk
    have h2 := count_le_occ (M := blank M H) hi.2 k
    have h3 := List.count_pos_iff.2 h1
    have h4 := hb.bal (i := k) hi.1
    rw [hM] at h4
    simp only [rf, List.count_singleton_self] at h4
    omega
theorem way_new {i : Nat} {ow : Int} {c0 : Hc} (hb : Bk (most + 1) M H P [i]) (hc0 : contC M i = c0) (hal : aloneB M i ow = false) : Way1 most M H P i ow c0 (keepAll M c0.kids) H := by
  refine ⟨.inr ⟨hal, rfl, rfl⟩, ?_, fun r h0 hr => Pres.all (all_blank all_keepAll), fun k hk h0 => Pres.all (all_blank all_keepAll), keepAll_live⟩
  have h1 := hb.keepAll (l := c0.kids) (fun k hk h0 => by
    cases e : M i with
    | none =>
      have : c0.kids = [] := by rw [← hc0]; unfold contC; rw [e]
      rw [this] at hk
      simp at hk
    | some y =>
      have hi := hb.lt (j := i) (by rw [e]; simp)
      have hiH := (hb.hand (i := i) (by simp) (by omega)).2
      have e0 : c0 = y.1 := by rw [← hc0]; unfold contC; rw [e]
      rw [e0] at hk
      exact hb.kid hiH (show M i = some (y.1, y.2) from e) hk h0)
  refine h1.move (fun k hk => ?_) (fun x hx => Nat.le_trans (hb.hole x hx).1 (addP_le _ _ _))
  rw [List.count_append, List.count_singleton]
  unfold addP
  by_cases ek : k = i
  · subst ek; simp; omega
  · rw [if_neg ek, if_neg (by simpa using Ne.symm ek)]; omega

theorem ren_in {P0 : Nat → Nat} {i q : Nat} {ow : Int} {c0 c' : Hc} {M2 : Cells} {Q : Hc → Cells → Prop} (hb : Bk (most + 1) M H P0 [i]) (hKP : Keeps P (blank M H) (blank M (i :: H))) (hP0 : P i = 0) (hM : M i = some (c0, 1)) (hq : Fun most M (i :: H) (addP P i) q Q c' M2) :
    Ren most M H P ow q i (upd M2 i (some ({ c' with owner := ow }, 1))) c' M2 (i :: H) := by
  have hi := hb.lt (j := i) (by rw [hM]; simp)
  have hiH := (hb.hand (i := i) (by simp) (by omega)).2
  have hM2 : M2 i = some (c0, 1) := (hq.holes i (by simp)).trans hM
  obtain ⟨f1, f2⟩ := Bk.fill (c := { c' with owner := ow }) (hs := []) (by rw [List.append_nil]; exact hq.bk) hiH (fun x hx => by
    have h1 := (hq.bk.hole x (by simp [hx])).1
    have hxi : x ≠ i := fun e => hiH (e ▸ hx)
    unfold addP at h1
    rw [if_neg hxi] at h1
    omega) hM2 hq.nk
  have hpf : ∀ r, r ≠ i → Pres (blank M2 (i :: H)) (blank (upd M2 i (some ({ c' with owner := ow }, 1))) H) r := fun r hr => hq.bk.pres_fill hiH hM2 hr
  refine ⟨hi.1, f1, upd_same _ _ _, fun r h0 hr => ?_, fun k hk h0 => hpf k (fun e => f2 (e ▸ hk)), fun x hx => ?_, ?_⟩
  · have hri : r ≠ i := fun e => by rw [e] at hr; omega
    exact ((hKP r h0 hr).trans (hq.keeps r h0 (Nat.le_trans hr (addP_le _ _ _)))).trans (hpf r hri)
  · have hxi : x ≠ i := fun e => hiH (e ▸ hx)
    rw [upd_other _ _ hxi]
    exact hq.holes x (by simp [hx])
  · rw [live_upd_some _ (by rw [hM2]; simp)]
    exact hq.live
theorem ren_new {P0 : Nat → Nat} {i q n : Nat} {ow : Int} {c0 c' : Hc} {M1 M2 M' : Cells} {Q : Hc → Cells → Prop} (hb : Bk (most + 1) M H P0 [i]) (hKP : Keeps P (blank M H) (blank M1 H)) (hw : Way1 most M H P0 i ow c0 M1 H) (hq : Fun most M1 H (addP P i) q Q c' M2) (hM1 : ∀ x ∈ H, M1 x = M x)
    (n1 : 1 ≤ n) (n2 : n ≤ most) (n3 : M2 n = none) (hd : Drops (upd M2 n (some ({ c' with owner := ow }, 1))) [i] M') : Ren most M H P ow (q + 1) n M' c' M2 H := by
  have hbm := Bk.make (c := { c' with owner := ow }) (hs := []) (by rw [List.append_nil]; exact hq.bk) n1 (by omega) n3 hq.nk
  have hbm2 : Bk (most + 1) (upd M2 n (some ({ c' with owner := ow }, 1))) H P (i :: [n]) := hbm.move (fun k _ => by
    rw [show (i :: [n]).count k = [n].count k + (if i == k then 1 else 0) from List.count_cons]
    unfold addP
    by_cases ek : k = i
    · subst ek; simp; omega
    · rw [if_neg ek, if_neg (by simpa using Ne.symm ek)]; omega) (fun x hx => by
    have h1 := (hq.bk.hole x hx).1
    have hxi : x ≠ i := fun e => by
      have h2 := (hb.hole x hx).2
      by_cases h0 : i = 0
      · rw [e, h0, hb.zero] at h2; simp [rf] at h2
      · exact (hb.hand (i := i) (by simp) h0).2 (e ▸ hx)
    unfold addP at h1
    rw [if_neg hxi] at h1
    omega)
  obtain ⟨d1, d2, d3⟩ := hbm2.drop hd
  have hnH : n ∉ H := fun hx => by have := hq.bk.hole n hx; rw [n3] at this; simp [rf] at this
  have hn' := (d1.hand (i := n) (by simp) (by omega)).1
  have hcell : M' n = some ({ c' with owner := ow }, 1) := by
    cases e : M' n with
    | none => exact absurd e hn'
    | some y =>
      obtain ⟨r0, e0, l0⟩ := d2 n y.1 y.2 (by rw [blank_out hnH, e])
      rw [blank_out hnH, upd_same] at e0
      simp only [Option.some.injEq, Prod.mk.injEq] at e0
      have hp := d1.ok.pos n (by rw [blank_out hnH, e]; simp)
      rw [blank_out hnH, e] at hp
      simp only [rf] at hp
      have e1 : y.2 = 1 := by omega
      rw [e0.1, ← e1]
  have hpn : ∀ r, Pres (blank M2 H) (blank (upd M2 n (some ({ c' with owner := ow }, 1))) H) r := fun r => Pres.all (all_blank (all_new n3 _))
  refine ⟨n1, d1, hcell, fun r h0 hr => ?_, fun k hk h0 => ?_, fun x hx => ?_, ?_⟩
  · have hr' : blank M' H r ≠ none := fun e => d1.held hr h0 (blank_none.1 e)
    exact (((hKP r h0 hr).trans (hq.keeps r h0 (Nat.le_trans hr (addP_le _ _ _)))).trans (hpn r)).trans (Pres.sub d2 d1.ok hr')
  · have hk' : blank M' H k ≠ none := d1.ok.kid (j := n) (by rw [blank_out hnH, hcell]; exact hk) h0
    exact (hpn k).trans (Pres.sub d2 d1.ok hk')
  · have hxn : x ≠ n := fun e => hnH (e ▸ hx)
    rw [d3 x hx, upd_other _ _ hxn, hq.holes x hx, hM1 x hx]
  · have h1 : live (most + 1) M' ≤ live (most + 1) (upd M2 n (some ({ c' with owner := ow }, 1))) := live_mono fun j hj => by
      have : blank M' H j ≠ none := fun e => hj (blank_none.1 e)
      cases e : blank M' H j with
      | none => exact absurd e this
      | some y =>
        obtain ⟨r0, e0, _⟩ := d2 j y.1 y.2 e
        exact fun e1 => by rw [blank_none.2 e1] at e0; cases e0
    have h2 := live_upd (M := M2) (N := most + 1) n (some ({ c' with owner := ow }, 1)) (by omega)
    rw [n3] at h2
    simp only [one] at h2
    have h3 := hq.live
    have h4 := hw.live
    omega

theorem alone_held {P0 : Nat → Nat} {i : Nat} (hb : Bk (most + 1) M H P0 [i]) {c : Hc} (hM : M i = some (c, 1)) : P0 i = 0 ∧ occ (most + 1) (blank M H) i = 0 := by
  have hi := hb.lt (j := i) (by rw [hM]; simp)
  have := hb.bal (i := i) hi.1
  rw [hM] at this
  simp only [rf, List.count_singleton_self] at this
  omega
theorem renewB {P0 : Nat → Nat} (f : FuncId) (caps : Array Value) (i : Nat) (ow : Int) (c0 : Hc) (q : Nat) (Q : Cells → List Nat → Hc → Cells → Prop) (w : World) (h : Ar w b most M F) (hf : ∀ (args : Array Value) (W : World), (callFunc f args).run Tryz.prog W = .ok (.enter f args) W)
    (hm : most ≤ 1048576) (hPP : ∀ k, P k ≤ P0 k) (hP : ∀ j, P0 j ≤ 1152921504606846976) (hb : Bk (most + 1) M H P0 [i]) (hc0 : contC M i = c0) (hroom : live (most + 1) M + q + (if aloneB M i ow = true then 0 else 1) ≤ most)
    (hch : ∀ M1 H1, Way1 most M H P0 i ow c0 M1 H1 → ChgS f caps b most F w M1 c0 (Fun most M1 H1 (addP P i) q (Q M1 H1))) :
    Calls Tryz.prog 227 #[ap b, .int .i64 i, .int .u32 ow, .func (.func f) #[] caps] w fun e w' => ∃ n M', e = .returned (.int .i64 (n : Nat)) ∧ Stp w w' b most M' F ∧
      ∃ M1 H1 c' M2, Way1 most M H P0 i ow c0 M1 H1 ∧ Q M1 H1 c' M2 ∧ Ren most M H P ow (q + if aloneB M i ow = true then 0 else 1) n M' c' M2 H1 := by
  have hsm : c0.kids.length ≤ 64 := by
    rw [← hc0]
    unfold contC
    have := hb.small i
    cases e : M i with
    | none => simp
    | some y => rw [e] at this; exact this
  cases hal : aloneB M i ow with
  | true =>
    obtain ⟨c, hM, hco, h0⟩ := alone_cell hal
    have e0 : c = c0 := by rw [← hc0]; unfold contC; rw [hM]
    subst e0
    have hw := way_in hb hM hal
    refine (vrenewS_in f caps (Fun most M (i :: H) (addP P i) q (Q M (i :: H))) i ow c w h hf hM hco h0 (hch M (i :: H) hw) (fun c' M2 hq => ?_)).mono ?_
    · refine ⟨(hq.holes i (by simp)).trans hM, hq.nv, Nat.le_trans hq.nk (by decide), good_kids fun x hx h0 => (hq.bk.hand hx h0).1⟩
    · rintro e w' ⟨c', M2, rfl, hq, hs⟩
      refine ⟨i, _, rfl, hs, M, i :: H, c', M2, hw, hq.q, ?_⟩
      exact ren_in hb (hw.keeps.less hPP) (by have h1 := (alone_held hb hM).1; have h2 := hPP i; omega) hM hq
  | false =>
    have hw := way_new hb hc0 hal
    rw [hal] at hroom
    simp only [Bool.false_eq_true, if_false] at hroom
    have hrf : ∀ j, rf (M j) ≤ 1152921504606846976 + 1 + 67108928 := fun j => by
      have h1 := hb.rfb j
      have h2 := hP j
      have h3 : [i].count j ≤ 1 := List.count_le_length
      have h4 : (most + 1) * 64 ≤ 1048577 * 64 := Nat.mul_le_mul_right _ (by omega)
      omega
    refine (vrenewS f caps (Fun most (keepAll M c0.kids) H (addP P i) q (Q (keepAll M c0.kids) H)) i ow c0 w h hf hc0 hal (hch _ H hw) (fun j => by have := hrf j; omega) (by omega) (fun c' M2 hq => ?_)).mono ?_
    · refine ⟨?_, fun j => ?_, hq.nv, Nat.le_trans hq.nk (by decide), good_kids fun x hx h0 => (hq.bk.hand hx h0).1⟩
      · have h1 := hq.live
        have h2 := hw.live
        omega
      · have h1 := hq.bk.rfb j
        have h2 := hP j
        have h6 := hPP j
        have h3 : c'.kids.count j ≤ 64 := Nat.le_trans List.count_le_length hq.nk
        have h4 : (most + 1) * 64 ≤ 1048577 * 64 := Nat.mul_le_mul_right _ (by omega)
        have h5 : addP P i j ≤ P j + 1 := by unfold addP; split <;> omega
        omega
    · rintro e w' ⟨n, c', M2, M', rfl, hq, n1, n2, n3, hd, hs⟩
      refine ⟨n, M', rfl, hs, _, H, c', M2, hw, hq.q, ?_⟩
      exact ren_new hb (hw.keeps.less hPP) hw hq (fun x hx => by
        have h1 := (hw.bk.hole x hx).2
        have h2 := (hb.hole x hx).2
        obtain ⟨y, e⟩ : ∃ y, M x = some y := by
          cases e : M x with
          | none => rw [e] at h2; simp [rf] at h2
          | some y => exact ⟨y, rfl⟩
        obtain ⟨q', e'⟩ := all_keepAll (l := c0.kids) x y.1 y.2 e
        rw [e'] at h1
        rw [e] at h2
        simp only [rf] at h1 h2
        rw [e', e, h1, ← h2]) n1 n2 n3 hd
end

end Go.Proofs.YtdddhmipifkepaaGreat

namespace Go.Proofs.YtdddhmipifkepaaGreat

def flatP (l : List Pr) : List Ky := l.flatMap fun p => [p.1, p.2]
theorem flatP_length : ∀ l : List Pr, (flatP l).length = 2 * l.length
  | [] => rfl
  | p :: l => by
    show ([p.1, p.2] ++ flatP l).length = _
    rw [List.length_append, flatP_length l]
    simp only [List.length_cons, List.length_nil]
    omega
theorem flatP_at : ∀ {l : List Pr} {i : Nat} {p : Pr}, l[i]? = some p → (flatP l)[2 * i]? = some p.1 ∧ (flatP l)[2 * i + 1]? = some p.2
  | [], _, _, h => by simp at h
  | q :: l, 0, p, h => by
    obtain rfl : q = p := by simpa using h
    exact ⟨rfl, rfl⟩
  | q :: l, i + 1, p, h => by
    obtain ⟨h1, h2⟩ := flatP_at (l := l) (i := i) (p := p) (by simpa using h)
    refine ⟨?_, ?_⟩
    · show ([q.1, q.2] ++ flatP l)[2 * (i + 1)]? = _
      rw [List.getElem?_append_right (by simp; omega), ← h1]; congr 1
    · show ([q.1, q.2] ++ flatP l)[2 * (i + 1) + 1]? = _
      rw [List.getElem?_append_right (by simp; omega), ← h2]; congr 1

theorem cnt_mono (s : Nat) {a b : Nat} (h : a ≤ b) : cnt s a ≤ cnt s b := by
  obtain ⟨k, rfl⟩ := Nat.exists_eq_add_of_le h
  rw [cnt_add]; exact Nat.le_add_right _ _
theorem cnt_succ {s d : Nat} (h : s.testBit d = true) : cnt s (d + 1) = cnt s d + 1 := by
  show cnt s d + (s.testBit d).toNat = _
  rw [h]; rfl
theorem cnt_lt {s d e : Nat} (h : s.testBit d = true) (hde : d < e) : cnt s d < cnt s e := by
  have h1 := cnt_succ h
  have h2 := cnt_mono s (show d + 1 ≤ e by omega)
  omega
theorem cnt_inj {s d e : Nat} (hd : s.testBit d = true) (he : s.testBit e = true) (h : cnt s d = cnt s e) : d = e := by
  rcases Nat.lt_trichotomy d e with h1 | h1 | h1
  · have := cnt_lt hd h1; omega
  · exact h1
  · have := cnt_lt he h1; omega

section
variable (M : Cells) (hs : Ky → Nat)
def Agr (b : Nat) (l : List Pr) : Prop := ∀ p ∈ l, ∀ q ∈ l, ∀ j, j < b → dg (hs p.1) j = dg (hs q.1) j
structure LeafF (lv i : Nat) (l : List Pr) (c : Hc) (r : Nat) : Prop where
  cell : M i = some (c, r)
  lv : lv ≤ 13
  cb : c.b = 13
  kids : c.kids = []
  vals : c.vals = flatP l
  ne : l ≠ []
  so : l.Pairwise fun p q => vc p.1 q.1 = -1
  agr : Agr hs 13 l
def joinL (L : Nat → List Pr) : List Pr := (List.range 32).flatMap L
structure NodeF (lv i : Nat) (l : List Pr) (c : Hc) (r b s : Nat) (K : Nat → Nat) (L : Nat → List Pr) : Prop where
  cell : M i = some (c, r)
  lv : lv ≤ b
  b13 : b < 13
  cb : c.b = (b : Int)
  s32 : s < 4294967296
  ca : c.a = (s : Int)
  vals : c.vals = []
  len : c.kids.length = cnt s 32
  two : 2 ≤ cnt s 32
  eq : l = joinL L
  agr : Agr hs b l
  no : ∀ d, s.testBit d = false → L d = []
  kid : ∀ d, d < 32 → s.testBit d = true → c.kids[cnt s d]? = some (K d)
  dig : ∀ d, ∀ p ∈ L d, dg (hs p.1) b = d
inductive HT : Nat → Nat → List Pr → Prop
  | leaf {lv i : Nat} {l : List Pr} {c : Hc} {r : Nat} (h : LeafF M hs lv i l c r) : HT lv i l
  | node {lv i : Nat} {l : List Pr} {c : Hc} {r b s : Nat} {K : Nat → Nat} {L : Nat → List Pr} (h : NodeF M hs lv i l c r b s K L) (hT : ∀ d, d < 32 → s.testBit d = true → HT (b + 1) (K d) (L d)) : HT lv i l
end
section
variable {M M' : Cells} {hs : Ky → Nat} {lv i : Nat} {l : List Pr}
theorem mem_joinL {L : Nat → List Pr} {q : Pr} : q ∈ joinL L ↔ ∃ d, d < 32 ∧ q ∈ L d := by
  unfold joinL
  rw [List.mem_flatMap]
  simp
theorem bit_lt {s d : Nat} (h : s < 4294967296) (hd : s.testBit d = true) : d < 32 := by
  refine Nat.lt_of_not_le fun h32 => ?_
  have : s < 2 ^ d := Nat.lt_of_lt_of_le h (Nat.pow_le_pow_right (n := 2) (by decide) h32)
  rw [Nat.testBit_lt_two_pow this] at hd
  cases hd
theorem NodeF.mem {c : Hc} {r b s : Nat} {K : Nat → Nat} {L : Nat → List Pr} (h : NodeF M hs lv i l c r b s K L) {q : Pr} : q ∈ l ↔ q ∈ L (dg (hs q.1) b) := by
  rw [h.eq, mem_joinL]
  constructor
  · rintro ⟨d, _, hq⟩
    rw [h.dig d q hq]; exact hq
  · intro hq
    exact ⟨_, dg_lt _ _, hq⟩
theorem NodeF.bit {c : Hc} {r b s : Nat} {K : Nat → Nat} {L : Nat → List Pr} (h : NodeF M hs lv i l c r b s K L) {d : Nat} {q : Pr} (hq : q ∈ L d) : s.testBit d = true := by
  cases e : s.testBit d with
  | true => rfl
  | false => rw [h.no d e] at hq; cases hq
theorem HT.cell (h : HT M hs lv i l) : M i ≠ none := by
  cases h with
  | leaf h => rw [h.cell]; simp
  | node h _ => rw [h.cell]; simp
theorem HT.pos (h : HT M hs lv i l) (hz : M 0 = none) : i ≠ 0 := fun e => h.cell (by rw [e]; exact hz)
theorem HT.weak {lv' : Nat} (h : HT M hs lv i l) (hl : lv' ≤ lv) : HT M hs lv' i l := by
  cases h with
  | leaf h => exact .leaf { h with lv := Nat.le_trans hl h.lv }
  | node h hT => exact .node { h with lv := Nat.le_trans hl h.lv } hT
theorem bit_exists {s : Nat} (h : 1 ≤ cnt s 32) : ∃ d, d < 32 ∧ s.testBit d = true := by
  have key : ∀ n, 1 ≤ cnt s n → ∃ d, d < n ∧ s.testBit d = true := fun n => by
    induction n with
    | zero => intro h; simp [cnt] at h
    | succ n ih =>
      intro h
      cases e : s.testBit n with
      | true => exact ⟨n, Nat.lt_succ_self _, e⟩
      | false =>
        have h' : cnt s n + (s.testBit n).toNat = cnt s (n + 1) := rfl
        rw [e] at h'
        obtain ⟨d, hd, hb⟩ := ih (by simp at h'; omega)
        exact ⟨d, by omega, hb⟩
  exact key 32 h
theorem HT.ne (h : HT M hs lv i l) : l ≠ [] := by
  induction h with
  | leaf h => exact h.ne
  | node h _ ih =>
    obtain ⟨d, hd, hb⟩ := bit_exists (Nat.le_trans (by decide) h.two)
    obtain ⟨q, hq⟩ := List.exists_mem_of_ne_nil _ (ih d hd hb)
    exact List.ne_nil_of_mem ((by rw [h.eq]; exact mem_joinL.2 ⟨d, hd, hq⟩ : q ∈ _))
theorem HT.srt (h : HT M hs lv i l) : Srt hs l := by
  induction h with
  | leaf h =>
    refine List.Pairwise.imp_of_mem ?_ h.so
    intro p q hp hq hv
    rw [klt_vc (pt_uniq (Nat.le_refl _) (fun j hj => h.agr p hp q hq j hj) (fun h => absurd h (Nat.lt_irrefl _)))]
    exact hv
  | @node lv i l c r b s K L h _ ih =>
    rw [h.eq]
    unfold joinL
    refine List.pairwise_flatMap.2 ⟨fun d hd => ?_, ?_⟩
    · cases e : s.testBit d with
      | true => exact ih d (List.mem_range.1 hd) e
      | false => rw [h.no d e]; exact List.Pairwise.nil
    · refine List.Pairwise.imp_of_mem ?_ List.pairwise_lt_range
      intro d e hd he hde p hp q hq
      have h1 := h.dig d p hp
      have h2 := h.dig e q hq
      have hpl : p ∈ l := by rw [h.eq]; exact mem_joinL.2 ⟨d, List.mem_range.1 hd, hp⟩
      have hql : q ∈ l := by rw [h.eq]; exact mem_joinL.2 ⟨e, List.mem_range.1 he, hq⟩
      have hp' : pt (hs p.1) (hs q.1) = b := pt_uniq (Nat.le_of_lt h.b13) (fun j hj => h.agr p hpl q hql j hj) (fun _ => by omega)
      rw [klt_dg (by rw [hp']; exact h.b13), hp']
      omega
theorem HT.pres (h : HT M hs lv i l) (hz : M 0 = none) (hp : Pres M M' i) : HT M' hs lv i l := by
  induction h with
  | leaf h =>
    obtain ⟨r', e⟩ := hp _ _ _ .refl h.cell
    exact .leaf { h with cell := e }
  | @node lv i l c r b s K L h hT ih =>
    obtain ⟨r', e⟩ := hp _ _ _ .refl h.cell
    exact .node { h with cell := e } fun d hd hb => ih d hd hb (hp.kid h.cell (List.mem_of_getElem? (h.kid d hd hb)) ((hT d hd hb).pos hz))
end

end Go.Proofs.YtdddhmipifkepaaGreat
