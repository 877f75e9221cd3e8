/- Several texts in one. -/
import Derived.Test.YtkkfhbcnfknmaaaGreatMg07
import Derived.Test.YtkkfhbcnfknmaaaGreatMg08
import Derived.Test.YtkkfhbcnfknmaaaGreatMg06
import Derived.IntWalk
import Derived.RangeFuncNested
import Derived.RangeFuncBound
import Derived.RangeFuncLeaves
import Derived.Shelf.Abstract
import Derived.Test.YtkkfhbcnfknmaaaGreatMg01
import Derived.OrdersIn
import Derived.RangeFuncCalls
import Derived.Shelf.RegionOpen
import Derived.OwnWalkIn
import Derived.TacticsInMore
import Derived.LoopNIn
import Derived.LoopIn
namespace Go.Proofs.YtkkfhbcnfknmaaaGreat
set_option maxRecDepth 100000
open Go.RowKit
theorem Hs.kp {w w' : World} {b seed : Nat} {G : Nat → Prop} (h : Hs w b seed) (hk : Kp G w w') (hn : ¬ G b) : Hs w' b seed := by
  obtain ⟨d, q, key, h, k⟩ := h
  exact ⟨d, q, key, hk.at h hn, k⟩
def ZW (w : World) (z : Nat) : Prop := w.heap[z]? = some (.cells #[.pointer none, .pointer none, .int .u32 0, .int .u64 0, .int .i64 0, .slice none 0 0, .slice none 0 0, .slice none 0 0, .int .i64 0, .bool false] 124 (0, 0))
section
variable {w w' : World} {z : Nat} {x : Wv}
theorem ZW.kp {G : Nat → Prop} (h : ZW w z) (hk : Kp G w w') (hn : ¬ G z) : ZW w' z := hk.at h hn
theorem ZW.lt (h : ZW w z) : z < w.heap.size := (Array.getElem?_eq_some_iff.1 h).1
theorem ZW.all (h : ZW w z) : w.cell? ⟨z, 0, none⟩ = some (.pointer none) ∧ w.cell? ⟨z, 1, none⟩ = some (.pointer none) ∧ w.cell? ⟨z, 2, none⟩ = some (.int .u32 0) ∧ w.cell? ⟨z, 3, none⟩ = some (.int .u64 0) ∧ w.cell? ⟨z, 4, none⟩ = some (.int .i64 0) ∧ w.cell? ⟨z, 5, none⟩ = some (.slice none 0 0) ∧ w.cell? ⟨z, 6, none⟩ = some (.slice none 0 0) ∧ w.cell? ⟨z, 7, none⟩ = some (.slice none 0 0) ∧ w.cell? ⟨z, 8, none⟩ = some (.int .i64 0) ∧ w.cell? ⟨z, 9, none⟩ = some (.bool false) := by
  refine ⟨?_, ?_, ?_, ?_, ?_, ?_, ?_, ?_, ?_, ?_⟩ <;> exact cell_of_row w z _ _ _ (0, 0) h
theorem WC.set5 (h : WC w z x) (A : Option Addr) (n c : Nat) : WC (w.setCell ⟨z, 5, none⟩ (.slice A n c)) z { x with A4 := A, n4 := n, c4 := c } := by
  have := heap_setCell_same w z 5 _ _ (.slice A n c) h
  simpa [WC] using this
set_option maxHeartbeats 1600000 in
theorem ZW.put (h : ZW w z) (x : Wv) : WC ((((((((((w.setCell ⟨z, 0, none⟩ (ap x.b)).setCell ⟨z, 1, none⟩ (.pointer (some ⟨x.bh, 0, none⟩))).setCell ⟨z, 2, none⟩ (.int .u32 x.ow)).setCell ⟨z, 3, none⟩ (.int .u64 x.g)).setCell ⟨z, 4, none⟩ (.int .i64 x.root)).setCell ⟨z, 5, none⟩ (.slice x.A4 x.n4 x.c4)).setCell ⟨z, 6, none⟩ (.slice x.A5 x.n5 x.c5)).setCell ⟨z, 7, none⟩ (.slice x.A6 x.n6 x.c6)).setCell ⟨z, 8, none⟩ (.int .i64 x.at')).setCell ⟨z, 9, none⟩ (.bool x.has)) z x := by
  have h0 := heap_setCell_same _ z 0 _ _ (ap x.b) h
  have h1 := heap_setCell_same _ z 1 _ _ (.pointer (some ⟨x.bh, 0, none⟩)) h0
  have h2 := heap_setCell_same _ z 2 _ _ (.int .u32 x.ow) h1
  have h3 := heap_setCell_same _ z 3 _ _ (.int .u64 x.g) h2
  have h4 := heap_setCell_same _ z 4 _ _ (.int .i64 x.root) h3
  have h5 := heap_setCell_same _ z 5 _ _ (.slice x.A4 x.n4 x.c4) h4
  have h6 := heap_setCell_same _ z 6 _ _ (.slice x.A5 x.n5 x.c5) h5
  have h7 := heap_setCell_same _ z 7 _ _ (.slice x.A6 x.n6 x.c6) h6
  have h8 := heap_setCell_same _ z 8 _ _ (.int .i64 x.at') h7
  have h9 := heap_setCell_same _ z 9 _ _ (.bool x.has) h8
  simpa [WC] using h9
end
section
variable {M : Cells} {hs : Ky → Nat} {g lv i : Nat} {l lf : List Pr} {cl : List (Nat × Nat)}
theorem Wy.step (h : Wy M hs g lv i l cl lf) : ∃ (c : Hc) (r bL : Nat) (rest : List (Nat × Nat)), M i = some (c, r) ∧ c.b = (bL : Int) ∧ lv ≤ bL ∧ bL ≤ 13 ∧ Sound c ∧ cl = (i, bL) :: rest ∧
    ((bL = 13 ∧ rest = [] ∧ c.vals = flatP lf) ∨ (bL < 13 ∧ ∃ (s i' : Nat) (l' : List Pr), c.a = (s : Int) ∧ s < 4294967296 ∧ c.kids[sdx s g bL]? = some i' ∧ Wy M hs g (bL + 1) i' l' rest lf)) := by
  cases h with
  | leaf h => exact ⟨_, _, 13, [], h.cell, by rw [h.cb]; rfl, h.lv, Nat.le_refl _, h.sound, rfl, .inl ⟨rfl, rfl, h.vals⟩⟩
  | @node lv i l c r b s K L d cl lf h hT hd hx hw => exact ⟨c, r, b, cl, h.cell, h.cb, h.lv, Nat.le_of_lt h.b13, h.sound, rfl, .inr ⟨h.b13, s, K d, L d, h.ca, h.s32, by rw [← hx]; exact h.kid d (bit_lt h.s32 hd) hd, hw⟩⟩
theorem Wy.sublist (h : Wy M hs g lv i l cl lf) : lf.Sublist l := by
  induction h with
  | leaf h => exact List.Sublist.refl _
  | @node lv i l c r b s K L d cl lf h hT hd hx hw ih =>
    refine ih.trans ?_
    rw [h.eq]
    unfold joinL
    exact List.sublist_flatten_of_mem (List.mem_map.2 ⟨d, List.mem_range.2 (bit_lt h.s32 hd), rfl⟩) |> fun h => by simpa [List.flatMap] using h
end
section
end
structure Q6S (W : World) (zl zm zk b bh N root : Nat) (k : Ky) : Prop where
  lb : C2 W zl 26 (ap b) (.pointer (some ⟨bh, 0, none⟩))
  mb : C2 W zm 30 (.int .i64 (N : Int)) (.int .i64 (root : Int))
  kb : C3 W zk 36 (.int .u8 k.1) (.int .i64 k.2.1) (.string k.2.2)
theorem Q6S.kp {W W' : World} {zl zm zk b bh N root : Nat} {k : Ky} {G : Nat → Prop} (h : Q6S W zl zm zk b bh N root k) (hk : Kp G W W') (hn : ¬ G zl ∧ ¬ G zm ∧ ¬ G zk) : Q6S W' zl zm zk b bh N root k :=
  ⟨h.lb.kp hk hn.1, h.mb.kp hk hn.2.1, h.kb.kp hk hn.2.2⟩

end Go.Proofs.YtkkfhbcnfknmaaaGreat

namespace Go.Proofs.YtkkfhbcnfknmaaaGreat
set_option maxRecDepth 100000
open Go.RowKit
structure WayR (w w' : World) (bh seed b g root : Nat) (ow : Int) (k : Ky) (x : Wv) (cl : List (Nat × Nat)) (lf : List Pr) : Prop where
  kp : Kp (fun q => q = bh) w w'
  hh : Hs w' bh seed
  xb : x.b = b ∧ x.bh = bh ∧ x.ow = ow ∧ x.g = g ∧ x.root = root ∧ x.at' = 2 * lowN k lf ∧ x.has = hasN k lf
  o4 : w'.ownsRow w.heap.size 3 1 (.slice x.A4 x.n4 x.c4) x.n4 (nums (ns (cl.map Prod.fst)))
  o5 : w'.ownsRow w.heap.size 3 1 (.slice x.A5 x.n5 x.c5) x.n5 (nums (ns (cl.map Prod.snd)))
  o6 : w'.ownsRow w.heap.size 36 3 (.slice x.A6 x.n6 x.c6) x.n6 ((flatP lf).flatMap cells3)
  len : x.n4 = cl.length ∧ x.n5 = cl.length ∧ x.n6 = (flatP lf).length
structure Wt (w W : World) (bh seed zl zk zr z10 b : Nat) (k : Ky) (ow : Int) (g root : Nat) (n4 n5 : Nat) (is ls : List Nat) (vs : List V3) (A4 : Option Addr) (c4 : Nat) (A5 : Option Addr) (c5 : Nat) (A6 : Option Addr) (n6 c6 : Nat) : Prop where
  kp : Kp (fun q => q = bh) w W
  hh : Hs W bh seed
  lb : C2 W zl 26 (ap b) (.pointer (some ⟨bh, 0, none⟩))
  kb : C3 W zk 36 (.int .u8 k.1) (.int .i64 k.2.1) (.string k.2.2)
  rb : ZW W zr
  wy : WC W z10 ⟨b, bh, ow, g, root, A4, n4, c4, A5, n5, c5, A6, n6, c6, 0, false⟩
  o4 : W.ownsRow w.heap.size 3 1 (.slice A4 n4 c4) n4 (nums (ns is))
  o5 : W.ownsRow w.heap.size 3 1 (.slice A5 n5 c5) n5 (nums (ns ls))
  o6 : W.ownsRow w.heap.size 36 3 (.slice A6 n6 c6) n6 (vs.flatMap cells3)
  ne : ∀ q, (Value.slice A4 n4 c4).ownBlock = some q → (Value.slice A5 n5 c5).ownBlock ≠ some q
  far : bh < w.heap.size ∧ w.heap.size ≤ zl ∧ w.heap.size ≤ zk ∧ w.heap.size ≤ zr ∧ w.heap.size ≤ z10 ∧ zl ≠ z10 ∧ zk ≠ z10 ∧ zr ≠ z10
section
variable {w W W' : World} {bh seed zl zk zr z10 b : Nat} {k : Ky} {ow : Int} {g root n4 n5 : Nat} {is ls : List Nat} {vs : List V3} {A4 : Option Addr} {c4 : Nat} {A5 : Option Addr} {c5 : Nat} {A6 : Option Addr} {n6 c6 : Nat}
theorem Wt.below (h : Wt w W bh seed zl zk zr z10 b k ow g root n4 n5 is ls vs A4 c4 A5 c5 A6 n6 c6) (hb : Below W.heap.size W W') : Wt w W' bh seed zl zk zr z10 b k ow g root n4 n5 is ls vs A4 c4 A5 c5 A6 n6 c6 := by
  have hk := Kp.of_below hb (fun _ => False)
  exact ⟨h.kp.trans hk (fun _ h => h.elim), h.hh.below hb, h.lb.below hb, h.kb.below hb, h.rb.kp hk id, h.wy.below hb, hk.own h.o4 (fun _ _ h => h), hk.own h.o5 (fun _ _ h => h), hk.own h.o6 (fun _ _ h => h), h.ne, h.far⟩
end
section
variable {b most : Nat} {M : Cells} {F : Nat → Prop}
end

end Go.Proofs.YtkkfhbcnfknmaaaGreat

namespace Go.Proofs.YtkkfhbcnfknmaaaGreat
open Go.RowKit

theorem Rn.trans {w w1 w2 : World} {b most : Nat} {M1 M2 : Cells} {F F1 F2 : Nat → Prop} (h : Rn w w1 b most M1 F F1) (k : Rn w1 w2 b most M2 F1 F2) : Rn w w2 b most M2 F F2 :=
  ⟨k.ar, h.kp.trans k.kp h.sub, fun x hx => by
    rcases k.sub x hx with h1 | h1
    · exact h.sub x h1
    · exact .inr (Nat.le_trans h.kp.size h1)⟩
section
variable {M M' : Cells} {hs : Ky → Nat} {k : Ky} {lv i lvj j : Nat} {l lj : List Pr} {cl : List (Nat × Nat)}
theorem NodeF.kidm {c : Hc} {r b s : Nat} {K : Nat → Nat} {L : Nat → List Pr} (h : NodeF M hs lv i l c r b s K L) {d : Nat} (hd : s.testBit d = true) : K d ∈ c.kids := List.mem_of_getElem? (h.kid d (bit_lt h.s32 hd) hd)
theorem Wp.ht (h : Wp M hs k lv i l cl lvj j lj) : HT M hs lv i l := by
  cases h with
  | nil h => exact h
  | cons h hT => exact .node h hT
theorem Wp.end (h : Wp M hs k lv i l cl lvj j lj) : HT M hs lvj j lj := by
  induction h with
  | nil h => exact h
  | cons _ _ _ _ _ ih => exact ih
theorem Wp.reach (hz : M 0 = none) (h : Wp M hs k lv i l cl lvj j lj) : Reach M i j := by
  have key : ∀ {x y z : Nat}, Reach M x y → Reach M y z → Reach M x z := fun h1 h2 => by
    induction h2 with
    | refl => exact h1
    | kid _ hk h0 ih => exact .kid ih hk h0
  induction h with
  | nil h => exact .refl
  | @cons lv i l c r b s K L cl lvj j lj h hT hd ha hw ih =>
    exact key (.kid .refl (by rw [h.cell]; exact h.kidm hd) ((hT _ (dg_lt _ _) hd).pos hz)) ih
theorem Wp.pres (hz : M 0 = none) (h : Wp M hs k lv i l cl lvj j lj) (hp : Pres M M' i) : Wp M' hs k lv i l cl lvj j lj := by
  induction h with
  | nil h => exact .nil (h.pres hz hp)
  | @cons lv i l c r b s K L cl lvj j lj h hT hd ha hw ih =>
    obtain ⟨r', e⟩ := hp i c r .refl h.cell
    have hk : ∀ d, d < 32 → s.testBit d = true → Pres M M' (K d) := fun d h32 hd' => hp.kid h.cell (h.kidm hd') ((hT d h32 hd').pos hz)
    exact .cons (r := r') { h with cell := e } (fun d h32 hd' => (hT d h32 hd').pres hz (hk d h32 hd')) hd ha (ih (hk _ (dg_lt _ _) hd))
end

structure PR (most : Nat) (M : Cells) (H : List Nat) (P : Nat → Nat) (hs : Ky → Nat) (k : Ky) (new : Pr → Prop) (lv : Nat) (l : List Pr) (q : Nat) (n : Nat) (M' : Cells) : Prop where
  pos : 1 ≤ n
  bk : Bk (most + 1) M' H P [n]
  keeps : Keeps P (blank M H) (blank M' H)
  holes : ∀ x ∈ H, M' x = M x
  live : live (most + 1) M' ≤ Proofs.YtkkfhbcnfknmaaaGreat.live (most + 1) M + q
  ht : ∃ l', HT (blank M' H) hs lv n l' ∧ Chd k new l l'

section
variable {most : Nat} {hs : Ky → Nat} {k : Ky} {new : Pr → Prop} {lvj j : Nat} {lj : List Pr}
end

end Go.Proofs.YtkkfhbcnfknmaaaGreat

namespace Go.Proofs.YtkkfhbcnfknmaaaGreat
set_option maxRecDepth 100000
open Go.RowKit

def beg1 (M : Cells) (root : Nat) (ow : Int) : Cells := if ow = 0 then keepC M root else M
def out1 (P : Nat → Nat) (root : Nat) (ow : Int) : Nat → Nat := if ow = 0 then addP P root else P
theorem out1_le (P : Nat → Nat) (root : Nat) (ow : Int) (j : Nat) : out1 P root ow j ≤ P j + 1 := by
  unfold out1
  split
  · unfold addP; split <;> omega
  · omega
theorem beg1_pres (M : Cells) (root : Nat) (ow : Int) (r : Nat) : Pres M (beg1 M root ow) r := by
  unfold beg1
  split
  · exact Pres.all all_keepC
  · exact Pres.refl _ _
theorem keepC_live1 {N : Nat} {M : Cells} {i : Nat} : live N (keepC M i) = live N M := by
  unfold keepC
  cases e : M i with
  | none => rfl
  | some x => exact live_upd_some N (by rw [e]; simp) _
theorem beg1_live {N : Nat} (M : Cells) (root : Nat) (ow : Int) : live N (beg1 M root ow) = live N M := by
  unfold beg1
  split
  · exact keepC_live1
  · rfl
theorem Bk.beg1 {N : Nat} {M : Cells} {P : Nat → Nat} {root : Nat} (h : Bk N M [] P [root]) (ow : Int) : Bk N (beg1 M root ow) [] (out1 P root ow) [root] := by
  unfold Proofs.YtkkfhbcnfknmaaaGreat.beg1 out1
  split
  · have h1 := h.keep (i := root) (fun h0 => h.hand (by simp) h0)
    refine h1.move (fun k _ => ?_) (fun x hx => by simp at hx)
    show P k + (root :: [root]).count k = addP P root k + [root].count k
    rw [List.count_cons]
    unfold addP
    by_cases e : k = root
    · subst e; simp
    · rw [if_neg e, if_neg (by simpa using Ne.symm e)]; omega
  · exact h
theorem alone_zero (M : Cells) (i : Nat) : aloneB M i 0 = false := by
  unfold aloneB
  cases M i with
  | none => rfl
  | some y => simp
theorem fresh_zero (M : Cells) : ∀ l, freshN M 0 l = l.length
  | [] => rfl
  | i :: l => by
    show (if aloneB M i 0 = true then freshN M 0 l else l.length + 1) = _
    rw [alone_zero]
    rfl
structure MRes (most : Nat) (M : Cells) (P : Nat → Nat) (hs : Ky → Nat) (k : Ky) (new : Pr → Prop) (root : Nat) (ow : Int) (l : List Pr) (q n : Nat) (M' : Cells) : Prop where
  bk : Bk (most + 1) M' [] (out1 P root ow) [n]
  keeps : Keeps (out1 P root ow) M M'
  live : live (most + 1) M' ≤ Proofs.YtkkfhbcnfknmaaaGreat.live (most + 1) M + q
  ht : ∃ l', HT M' hs 0 n l' ∧ Chd k new l l'
section
variable {most : Nat} {M : Cells} {F : Nat → Prop} {hs : Ky → Nat} {k : Ky} {new : Pr → Prop} {lvj j : Nat} {lj l : List Pr}
end

end Go.Proofs.YtkkfhbcnfknmaaaGreat

namespace Go.Proofs.YtkkfhbcnfknmaaaGreat
set_option maxRecDepth 100000
open Go.RowKit
section
variable {most : Nat} {M : Cells} {F : Nat → Prop} {hs : Ky → Nat} {k : Ky} {new : Pr → Prop} {lvj j : Nat} {lj l : List Pr}
end

end Go.Proofs.YtkkfhbcnfknmaaaGreat

namespace Go.Proofs.YtkkfhbcnfknmaaaGreat
set_option maxRecDepth 100000
open Go.RowKit
theorem Bk.leaf {N : Nat} {M : Cells} {H hs : List Nat} {P : Nat → Nat} (h : Bk N M H P hs) {n : Nat} (c : Hc) (hc : c.kids = []) (h1 : 1 ≤ n) (hN : n < N) (hn : M n = none) : Bk N (upd M n (some (c, 1))) H P (n :: hs) := by
  refine Bk.make (c := c) (hs := hs) ?_ h1 hN hn (by rw [hc]; decide)
  rw [hc]; exact h
section
variable {most : Nat} {M : Cells} {F : Nat → Prop} {hs : Ky → Nat} {k v : Ky} {l lf : List Pr}
theorem Wy.part {lv j b : Nat} {lj : List Pr} {rest : List (Nat × Nat)} {near : Pr} (h : Wy M hs (hs k) lv j lj ((j, b) :: rest) lf) (hb : b < 13) (hn : near ∈ lf) (hp : pt (hs near.1) (hs k) = b) : ∃ c r s K L, NodeF M hs lv j lj c r b s K L ∧ (∀ d, d < 32 → s.testBit d = true → HT M hs (b + 1) (K d) (L d)) ∧ s.testBit (dg (hs k) b) = false := by
  generalize hcl : (j, b) :: rest = cl at h
  cases h with
  | leaf h => injection hcl with e1 e2; injection e1 with _ e3; omega
  | @node _ _ _ c r b' s K L d cl' _ h hT hd hx hw =>
    injection hcl with e1 e2
    injection e1 with _ e3
    subst e3
    refine ⟨c, r, s, K, L, h, hT, ?_⟩
    cases e : s.testBit (dg (hs k) b) with
    | false => rfl
    | true =>
      unfold sdx at hx
      rw [if_pos e] at hx
      have hd2 := cnt_inj hd e hx
      have h1 := h.dig d near (hw.sub near hn)
      exact absurd (h1.trans hd2) (by rw [← hp]; exact pt_ne (by rw [hp]; exact hb))
end

end Go.Proofs.YtkkfhbcnfknmaaaGreat

namespace Go.Proofs.YtkkfhbcnfknmaaaGreat
set_option maxRecDepth 100000
open Go.RowKit
section
variable {most : Nat} {M : Cells} {F : Nat → Prop} {hs : Ky → Nat} {k v : Ky} {l lf : List Pr}
end

end Go.Proofs.YtkkfhbcnfknmaaaGreat

namespace Go.Proofs.YtkkfhbcnfknmaaaGreat
set_option maxRecDepth 100000
open Go.RowKit
section
end
section
variable {most : Nat} {M : Cells} {F : Nat → Prop} {hs : Ky → Nat} {k v : Ky}
end
end Go.Proofs.YtkkfhbcnfknmaaaGreat

namespace Go.Proofs.YtkkfhbcnfknmaaaGreat
set_option maxRecDepth 100000
open Go.RowKit
abbrev OkK (p : Ky) : Prop := 0 ≤ p.1 ∧ p.1 ≤ 255 ∧ 17 + p.2.2.size ≤ 140737488355328
structure StpH (w w' : World) (b bh seed most : Nat) (M' : Cells) (F : Nat → Prop) : Prop where
  ar : Ar w' b most M' (Fn F w w')
  kp : Kp (fun q => F q ∨ q = bh) w w'
  hh : Hs w' bh seed
theorem StpH.mk' {w w1 w' : World} {b bh seed most : Nat} {M' : Cells} {F : Nat → Prop} (hF : ∀ q, F q → q < w.heap.size) (hk : Kp (fun q => q = bh) w w1) (hh : Hs w1 bh seed) (hn : ¬ F bh) (hs : Stp w1 w' b most M' F) : StpH w w' b bh seed most M' F :=
  ⟨hs.ar.mono (fun q hq => by
    rcases hq with hq | hq
    · exact .inl hq
    · exact .inr ⟨Nat.le_trans hk.size hq.1, hq.2⟩) (fun q hq => by
    rcases hq with hq | hq
    · exact Nat.lt_of_lt_of_le (hF q hq) (Nat.le_trans hk.size hs.kp.size)
    · exact hq.2), (hk.mono (fun q h _ => .inr h)).trans hs.kp (fun q h => .inl (.inl h)), hh.kp hs.kp hn⟩
theorem MRes.le {most : Nat} {M : Cells} {P : Nat → Nat} {hs : Ky → Nat} {k : Ky} {new : Pr → Prop} {root : Nat} {ow : Int} {l : List Pr} {q q' n : Nat} {M' : Cells} (h : MRes most M P hs k new root ow l q n M') (hq : q ≤ q') : MRes most M P hs k new root ow l q' n M' :=
  ⟨h.bk, h.keeps, Nat.le_trans h.live (by omega), h.ht⟩
structure Q7S (W : World) (z3 : Nat) (x : Wv) (gL : Nat) (np : Ky) : Prop where
  wy : WC W z3 x
  l7 : W.cell? ⟨z3, 7, none⟩ = some (.slice (some ⟨gL, 0, none⟩) x.n6 x.c6)
  n0 : W.cell? ⟨gL, 0, none⟩ = some (.int .u8 np.1)
  n1 : W.cell? ⟨gL, 1, none⟩ = some (.int .i64 np.2.1)
  n2 : W.cell? ⟨gL, 2, none⟩ = some (.string np.2.2)
theorem Q7S.kp {W W' : World} {z3 : Nat} {x : Wv} {gL : Nat} {np : Ky} {G : Nat → Prop} (h : Q7S W z3 x gL np) (hk : Kp G W W') (hn : ¬ G z3 ∧ ¬ G gL) : Q7S W' z3 x gL np :=
  ⟨h.wy.kp hk hn.1, hk.cell h.l7 hn.1, hk.cell h.n0 hn.2, hk.cell h.n1 hn.2, hk.cell h.n2 hn.2⟩
structure Q8S (W : World) (z3 b9 g5 : Nat) (x : Wv) (level yl n : Nat) : Prop where
  wy : WC W z3 x
  l6 : W.cell? ⟨z3, 6, none⟩ = some (.slice (some ⟨g5, 0, none⟩) x.n5 x.c5)
  lv : C1 W b9 3 (.int .i64 (level : Nat))
  kc : W.cell? ⟨g5, n, none⟩ = some (.int .i64 (yl : Nat))
theorem Q8S.kp {W W' : World} {z3 b9 g5 : Nat} {x : Wv} {level yl n : Nat} (h : Q8S W z3 b9 g5 x level yl n) {G : Nat → Prop} (hk : Kp G W W') (hn : ∀ q, ¬ G q) : Q8S W' z3 b9 g5 x level yl n :=
  ⟨h.wy.kp hk (hn _), hk.cell h.l6 (hn _), h.lv.kp hk (hn _), hk.cell h.kc (hn _)⟩
section
variable {most : Nat} {M : Cells} {F : Nat → Prop} {hs : Ky → Nat} {l lf : List Pr}
end
end Go.Proofs.YtkkfhbcnfknmaaaGreat

namespace Go.Proofs.YtkkfhbcnfknmaaaGreat
set_option maxRecDepth 100000
open Go.RowKit
section
variable {b most : Nat} {M : Cells} {F : Nat → Prop}
end
end Go.Proofs.YtkkfhbcnfknmaaaGreat

namespace Go.Proofs.YtkkfhbcnfknmaaaGreat
set_option maxRecDepth 100000
open Go.RowKit
section
variable {most : Nat} {M : Cells} {F : Nat → Prop} {hs : Ky → Nat}
end
end Go.Proofs.YtkkfhbcnfknmaaaGreat

namespace Go.Proofs.YtkkfhbcnfknmaaaGreat
set_option maxRecDepth 100000
open Go.RowKit
def Mp (M : Cells) (hs : Ky → Nat) (root : Nat) (l : List Pr) : Prop := (l = [] ∧ root = 0) ∨ HT M hs 0 root l
theorem Mp.srt {M : Cells} {hs : Ky → Nat} {root : Nat} {l : List Pr} (h : Mp M hs root l) : Srt hs l := by
  rcases h with ⟨rfl, _⟩ | h
  · exact List.Pairwise.nil
  · exact h.srt
structure MapR (most : Nat) (M : Cells) (P : Nat → Nat) (hs : Ky → Nat) (root : Nat) (ow : Int) (l' : List Pr) (n : Nat) (M' : Cells) : Prop where
  bk : Bk (most + 1) M' [] (out1 P root ow) [n]
  keeps : Keeps (out1 P root ow) M M'
  live : live (most + 1) M' ≤ Proofs.YtkkfhbcnfknmaaaGreat.live (most + 1) M + 16
  mp : Mp M' hs n l'
theorem MRes.put {most : Nat} {M : Cells} {P : Nat → Nat} {hs : Ky → Nat} {k v : Ky} {root : Nat} {ow : Int} {l : List Pr} {n : Nat} {M' : Cells} (h : MRes most M P hs k (fun q => q = (k, v)) root ow l 16 n M') (hl : Srt hs l) : MapR most M P hs root ow (putL hs (k, v) l) n M' := by
  obtain ⟨l', hT, hc⟩ := h.ht
  have e := putL_uniq hl hT.srt hc
  exact ⟨h.bk, h.keeps, h.live, .inr (e ▸ hT)⟩
theorem StpH.close {w w3 w' w'' : World} {b bh seed most : Nat} {M' : Cells} {F G : Nat → Prop} (hF : ∀ q, F q → q < w.heap.size) (hbh : bh < w.heap.size) (hk : Kp (fun q => q = bh) w w3) (hs : StpH w3 w' b bh seed most M' F) (h9 : Kp G w' w'') (hG : ∀ q, G q → w.heap.size ≤ q ∧ q < w3.heap.size) : StpH w w'' b bh seed most M' F := by
  have s1 := hk.size
  have s2 := hs.kp.size
  have s3 := h9.size
  have ha : Ar w'' b most M' (Fn F w3 w') := hs.ar.kp h9 (fun q hq hg => by
    have := hG q hg
    rcases hq with hq | hq
    · have := hF q hq; omega
    · omega)
  refine ⟨ha.mono (fun q hq => ?_) (fun q hq => ?_), ?_, hs.hh.kp h9 (fun hg => by have := hG bh hg; omega)⟩
  · rcases hq with hq | hq
    · exact .inl hq
    · exact .inr ⟨by omega, by omega⟩
  · rcases hq with hq | hq
    · have := hF q hq; omega
    · exact hq.2
  · exact ((hk.mono (fun q h _ => .inr h)).trans hs.kp (fun q h => .inl h)).trans h9 (fun q h => .inr (hG q h).1)
section
variable {most : Nat} {M : Cells} {F : Nat → Prop} {hs : Ky → Nat} {l : List Pr}
end
end Go.Proofs.YtkkfhbcnfknmaaaGreat

namespace Go.Proofs.YtkkfhbcnfknmaaaGreat
set_option maxRecDepth 100000
open Go.RowKit
structure Q10 (W : World) (z5 z6 z7 z8 z10 b bh N root : Nat) (k v : Ky) : Prop where
  lb : C2 W z5 26 (ap b) (.pointer (some ⟨bh, 0, none⟩))
  mb : C2 W z6 30 (.int .i64 (N : Int)) (.int .i64 (root : Int))
  kb : C3 W z7 36 (.int .u8 k.1) (.int .i64 k.2.1) (.string k.2.2)
  vb : C3 W z8 36 (.int .u8 v.1) (.int .i64 v.2.1) (.string v.2.2)
  rb : C2 W z10 30 (.int .i64 0) (.int .i64 0)
theorem Q10.kp {W W' : World} {z5 z6 z7 z8 z10 b bh N root : Nat} {k v : Ky} {G : Nat → Prop} (h : Q10 W z5 z6 z7 z8 z10 b bh N root k v) (hk : Kp G W W') (hn : ∀ q, q = z5 ∨ q = z6 ∨ q = z7 ∨ q = z8 ∨ q = z10 → ¬ G q) : Q10 W' z5 z6 z7 z8 z10 b bh N root k v :=
  ⟨h.lb.kp hk (hn _ (.inl rfl)), h.mb.kp hk (hn _ (.inr (.inl rfl))), h.kb.kp hk (hn _ (.inr (.inr (.inl rfl)))), h.vb.kp hk (hn _ (.inr (.inr (.inr (.inl rfl))))), h.rb.kp hk (hn _ (.inr (.inr (.inr (.inr rfl)))))⟩
section
variable {most : Nat} {M : Cells} {F : Nat → Prop} {hs : Ky → Nat} {l : List Pr}
end
end Go.Proofs.YtkkfhbcnfknmaaaGreat

namespace Go.Proofs.YtkkfhbcnfknmaaaGreat
set_option maxRecDepth 100000
open Go.RowKit
section
variable {most : Nat} {M : Cells} {F : Nat → Prop} {hs : Ky → Nat} {l : List Pr}
end
end Go.Proofs.YtkkfhbcnfknmaaaGreat

namespace Go.Proofs.YtkkfhbcnfknmaaaGreat
set_option maxRecDepth 100000
open Go.RowKit
section
variable {most : Nat} {M : Cells} {F : Nat → Prop} {hs : Ky → Nat} {l : List Pr}
end
end Go.Proofs.YtkkfhbcnfknmaaaGreat

namespace Go.Proofs.YtkkfhbcnfknmaaaGreat
set_option maxRecDepth 100000
open Go Go.RowKit

section
variable {α : Type} {P : Program}

structure Books (D : Nat) (r : Loop) (W : World) : Prop where
  row : W.heap[D + 1]? = some (.loop r)
  def' : W.heap[D]? = some (.deferred (some []))

theorem Books.below {D : Nat} {r : Loop} {A B : World} (h : Books D r A) (g : Below A.heap.size A B) : Books D r B :=
  ⟨(g.block _ (Array.getElem?_eq_some_iff.1 h.row).1).trans h.row, (g.block _ (Array.getElem?_eq_some_iff.1 h.def').1).trans h.def'⟩
theorem Books.keeps {D : Nat} {r : Loop} {A B : World} (h : Books D r A) (g : KeepsOthers A B) : Books D r B := ⟨g.same _ _ h.row rfl, g.same _ _ h.def' rfl⟩
theorem Books.put {D : Nat} {r : Loop} {A : World} (h : Books D r A) (r' : Loop) : Books D r' (A.putObj (D + 1) (.loop r')) :=
  ⟨World.putObj_heap_same (Array.getElem?_eq_some_iff.1 h.row).1, (World.putObj_heap_other (by omega)).trans h.def'⟩

theorem below_own {B : Nat} {I : Nat → World → Prop} (h : OwnFrom B I) {i : Nat} {A C : World} (hI : I i A) (g : Below A.heap.size A C) : I i C :=
  h i A C none hI (grownBy_below g none) (fun r e => by cases e)

end

end Go.Proofs.YtkkfhbcnfknmaaaGreat

namespace Go.Proofs.YtkkfhbcnfknmaaaGreat
open Go Go.RowKit
section
variable {F : Fence} {n : Nat} {P : Program} {ops : Array Oper} {Q : Exit → Act → World → Prop} {S : World → Prop}
def Due (P : Program) (ops : Array Oper) (S : World → Prop) (o : Oper) (v : Value) (a : Act) : Prop :=
  (∀ w, o.about P w a.eval = none) ∧ ((Region.wanted o (yielded ops a.tmps) = true ∧ ∀ w, S w → (execOp a.eval o).run P w = .ok (.value v) w) ∨ (Region.wanted o (yielded ops a.tmps) = false ∧ v = undef))
theorem Due.alike {o : Oper} {v : Value} {a a' : Act} (h : Due P ops S o v a) (e1 : execOp a'.eval o = execOp a.eval o) (e2 : Region.wanted o (yielded ops a'.tmps) = Region.wanted o (yielded ops a.tmps)) (e3 : ∀ w, o.about P w a'.eval = o.about P w a.eval) : Due P ops S o v a' :=
  ⟨fun w => (e3 w).trans (h.1 w), by rw [e1, e2]; exact h.2⟩
def AnyS (F : Fence) (n : Nat) (P : Program) (ops : Array Oper) (Q : Exit → Act → World → Prop) (S : World → Prop) : Nat → Array Bool → Act → World → Prop
  | 0, done, a, w => Region.ready .any ops done = [] ∧ Q .normal a w
  | k + 1, done, a, w => (Region.ready .any ops done = [] → Q .normal a w) ∧ ∀ i ∈ Region.ready .any ops done, wpOpIn F n P ops Q i (fun a' w' => S w' ∧ AnyS F n P ops Q S k (done.setIfInBounds i true) a' w') a w
theorem AnyS.any : ∀ (k : Nat) (done : Array Bool) (a : Act) (w : World), AnyS F n P ops Q S k done a w → wpAnyIn F n P .any ops Q k done a w
  | 0, _, _, _, h => h
  | k + 1, _, _, _, h => ⟨h.1, fun i hi => wpOpIn_mono (fun _ _ h => AnyS.any k _ _ _ h.2) (h.2 i hi)⟩
theorem Due.run {i : Nat} {o : Oper} {v : Value} {a : Act} {w : World} {K : Act → World → Prop} (hro : F.round = none) (hi : ops[i]? = some o) (h : Due P ops S o v a) (hS : S w) (hK : K (a.put o.dst v) w) : wpOpIn F n P ops Q i K a w := by
  have hab : ∀ f, o.about P w a.eval = some f → F.fn f := fun f hf => by rw [h.1 w] at hf; cases hf
  unfold wpOpIn
  simp only [hi]
  rcases h.2 with ⟨e, r⟩ | ⟨e, rfl⟩
  · rw [if_pos e]
    refine ⟨hab, ?_⟩
    rw [hro, Oper.semAt_none, r w hS]
    exact hK
  · rw [e]
    exact ⟨hab, hK⟩
theorem Due.beside {j : Nat} {oi oj : Oper} {v : Value} {K : Act → World → Prop} {a : Act} {w : World} (hro : F.round = none) (hj : ops[j]? = some oj) (hap : oi.apart ops oj = true) (si : ∀ cs b, oi.op ≠ .select cs b) (sj : ∀ cs b, oj.op ≠ .select cs b)
    (hQ : ∀ c a w, Q (.panic c) (a.put oi.dst v) w → Q (.panic c) a w) (h : Due P ops S oi v a) (hw : wpOpIn F n P ops Q j K (a.put oi.dst v) w) : wpOpIn F n P ops Q j (fun a' w' => Due P ops S oi v a' ∧ K (a'.put oi.dst v) w') a w := by
  obtain ⟨p1, p2, p3⟩ := Oper.apart_spec hap
  have put : ∀ (c : Act) (u : Value), Due P ops S oi v c → Due P ops S oi v (c.put oj.dst u) := fun c u hc => hc.alike (execOp_put oi si c oj.dst u p3) (wanted_put oi c oj.dst u p3) (fun w => about_put oi w c oj.dst u p3)
  have swap : ∀ (c : Act) (u : Value) (w' : World), K ((c.put oi.dst v).put oj.dst u) w' → K ((c.put oj.dst u).put oi.dst v) w' := fun c u w' hc => by rw [← Act.put_comm c v u p2]; exact hc
  unfold wpOpIn at hw ⊢
  simp only [hj] at hw ⊢
  rw [wanted_put oj a oi.dst v p1, about_put oj w a oi.dst v p1] at hw
  by_cases hwant : Region.wanted oj (yielded ops a.tmps) = true
  · rw [if_pos hwant] at hw ⊢
    unfold Oper.wpIn at hw ⊢
    rw [about_put oj w a oi.dst v p1, hro, Oper.semAt_none, execOp_put oj sj a oi.dst v p1] at hw
    rw [hro, Oper.semAt_none]
    refine ⟨hw.1, ?_⟩
    have hw2 := hw.2
    generalize (execOp a.eval oj).run P w = r at hw2 ⊢
    have fin : ∀ (e : Ending) (w' : World), (match e, w' with
        | .returned u, w'' => K ((a.put oi.dst v).put oj.dst u) w''
        | .panicked chain, w'' => Q (.panic chain) (a.put oi.dst v) w''
        | .outgrown, _ => LetsOut Q) → (match e, w' with
        | .returned u, w'' => Due P ops S oi v (a.put oj.dst u) ∧ K ((a.put oj.dst u).put oi.dst v) w''
        | .panicked chain, w'' => Q (.panic chain) a w''
        | .outgrown, _ => LetsOut Q) := fun e w' he => by
      cases e with
      | returned u => exact ⟨put a u h, swap a u w' he⟩
      | panicked c => exact hQ _ _ _ he
      | outgrown => exact he
    cases r with
    | halt x w' =>
      cases x <;> first
        | exact hw2.elim
        | exact hQ _ _ _ hw2
    | ok x w' =>
      cases x with
      | value u => exact ⟨put a u h, swap a u w' hw2⟩
      | skip => exact ⟨put a _ h, swap a _ w' hw2⟩
      | defer d =>
        have h' : Due P ops S oi v ({ a with defers := d :: a.defers } : Act) := h.alike rfl rfl (fun _ => rfl)
        refine ⟨put _ undef h', swap _ undef w' ?_⟩
        have e := Act.put_defers a oi.dst v d
        rw [← e]
        exact hw2
      | enter f args => exact ⟨hw2.1, hw2.2.mono fin⟩
      | row rw' args => exact ⟨hw2.1, hw2.2.mono fun u w'' he => ⟨put a u h, swap a u w'' he⟩⟩
      | round l f tmps assign body => exact ⟨hw2.1, hw2.2.mono fin⟩
      | _ => exact hw2.elim
  · rw [if_neg hwant] at hw ⊢
    exact ⟨hw.1, put a _ h, swap a _ w hw.2⟩
theorem AnyS.take {i : Nat} {oi : Oper} {v : Value} (hro : F.round = none) (hi : ops[i]? = some oi) (hs : Region.noSelect ops = true) (hQ : ∀ c a w, Q (.panic c) (a.put oi.dst v) w → Q (.panic c) a w) :
    ∀ (k : Nat) (done : Array Bool) (a : Act) (w : World), (∀ j oj, ops[j]? = some oj → j ≠ i → done.getD j true = false → (∀ e ∈ oj.after, Region.binds .any e = true → e.on ≠ i) → oi.apart ops oj = true) →
      i ∈ Region.ready .any ops done → Due P ops S oi v a → S w → AnyS F n P ops Q S k (done.setIfInBounds i true) (a.put oi.dst v) w → AnyS F n P ops Q S (k + 1) done a w
  | k, done, a, w, hfree, hr, hd, hS, H => by
    refine ⟨fun e => absurd hr (by rw [e]; exact List.not_mem_nil), fun j hj => ?_⟩
    by_cases hji : j = i
    · subst hji; exact hd.run hro hi hS ⟨hS, H⟩
    · have hj2 := ready_mono hj hji
      cases k with
      | zero => rw [H.1] at hj2; cases hj2
      | succ k =>
        obtain ⟨hun, oj, hoj, hall⟩ := mem_ready.1 hj
        have hi0 := (mem_ready.1 hr).1
        have hnot : ∀ e ∈ oj.after, Region.binds .any e = true → e.on ≠ i := fun e he hb e2 => by
          have h1 := hall e he hb
          rw [e2] at h1
          by_cases hlt : i < done.size
          · rw [Array.getD_eq_getD_getElem?, Array.getElem?_eq_getElem hlt] at h1 hi0
            simp only [Option.getD_some] at h1 hi0
            rw [h1] at hi0
            cases hi0
          · rw [Array.getD_eq_getD_getElem?, Array.getElem?_eq_none (by omega)] at hi0
            cases hi0
        have h2 := hd.beside hro hoj (hfree j oj hoj hji hun hnot) (Region.noSelect_spec hs i oi · · hi) (Region.noSelect_spec hs j oj · · hoj) hQ (H.2 j hj2)
        refine wpOpIn_mono (fun a' w' h3 => ⟨h3.2.1, AnyS.take hro hi hs hQ k (done.setIfInBounds j true) a' w' (fun x ox hx hxi hxu hno => ?_) (ready_mono hr (Ne.symm hji)) h3.1 h3.2.1 ?_⟩) h2
        · refine hfree x ox hx hxi ?_ hno
          by_cases hjx : j = x
          · subst hjx; exact hun
          · rwa [getD_set_ne true hjx] at hxu
        · rw [Array.setIfInBounds_comm _ _ hji]
          exact h3.2.2
theorem AnyS.first {i : Nat} {oi : Oper} {v : Value} {k : Nat} {done : Array Bool} {a : Act} {w : World} (hro : F.round = none) (hi : ops[i]? = some oi) (hs : Region.noSelect ops = true) (hf : Region.free .any ops done i = true) (hr : (Region.ready .any ops done).contains i = true)
    (hQ : ∀ c a w, Q (.panic c) (a.put oi.dst v) w → Q (.panic c) a w) (hd : Due P ops S oi v a) (hS : S w) (H : AnyS F n P ops Q S k (done.setIfInBounds i true) (a.put oi.dst v) w) : AnyS F n P ops Q S (k + 1) done a w :=
  AnyS.take hro hi hs hQ k done a w (Region.free_spec hi hf) (by simpa using hr) hd hS H
theorem AnyS.one {i : Nat} {o : Oper} {k : Nat} {done : Array Bool} {a : Act} {w : World} (hr : Region.ready .any ops done = [i]) (ho : ops[i]? = some o)
    (h : ∀ K : Act → World → Prop, (∀ a' w', S w' ∧ AnyS F n P ops Q S k (done.setIfInBounds i true) a' w' → K a' w') → if Region.wanted o (yielded ops a.tmps) = true then Oper.wpIn F n P o a w K Q else (∀ f, o.about P w a.eval = some f → F.fn f) ∧ K (a.put o.dst undef) w) : AnyS F n P ops Q S (k + 1) done a w :=
  ⟨fun e => (by rw [hr] at e; cases e), fun j hj => by
    rw [hr, List.mem_singleton] at hj
    subst hj
    exact wpOpIn_step ho (fun K' hK => h K' hK)⟩
theorem AnyS.done {done : Array Bool} {a : Act} {w : World} (hr : Region.ready .any ops done = []) (h : Q .normal a w) : ∀ k, AnyS F n P ops Q S k done a w
  | 0 => ⟨hr, h⟩
  | _ + 1 => ⟨fun _ => h, by rw [hr]; simp⟩
end
end Go.Proofs.YtkkfhbcnfknmaaaGreat

namespace Go.Proofs.YtkkfhbcnfknmaaaGreat
set_option maxRecDepth 100000
open Go.RowKit
section
def Okay (b most : Nat) (M0 : Cells) (root : Nat) (A : World) : Prop := ∃ M F, Ar A b most M F ∧ Pres M0 M root
def Safe (b most : Nat) (A : World) (q : Nat) : Prop := ∃ M F, Ar A b most M F ∧ ¬ F q
def Vt (t : Nat) : Prop := t = 26 ∨ t = 94 ∨ t = 36 ∨ t = 3
structure Kv (n0 b most : Nat) (M0 : Cells) (root : Nat) (A B : World) : Prop where
  ok : Okay b most M0 root A → Okay b most M0 root B
  same : ∀ q cur t, n0 ≤ q → Vt t → A.heap[q]? = some (.cells cur t (0, 0)) → Safe b most A q → B.heap[q]? = some (.cells cur t (0, 0)) ∧ Safe b most B q
variable {n0 b most root : Nat} {M0 : Cells} {A B C : World}
theorem Okay.below (h : Okay b most M0 root A) (hb : Below A.heap.size A B) : Okay b most M0 root B := by
  obtain ⟨M, F, h1, h2⟩ := h
  exact ⟨M, F, h1.below hb, h2⟩
theorem Safe.below {q : Nat} (h : Safe b most A q) (hb : Below A.heap.size A B) : Safe b most B q := by
  obtain ⟨M, F, h1, h2⟩ := h
  exact ⟨M, F, h1.below hb, h2⟩
theorem Okay.new {q : Nat} (h : Okay b most M0 root A) (hb : Below A.heap.size A B) (hq : A.heap.size ≤ q) : Safe b most B q := by
  obtain ⟨M, F, h1, _⟩ := h
  exact ⟨M, F, h1.below hb, fun hf => by have := h1.lt hf; omega⟩
theorem Kv.trans (h : Kv n0 b most M0 root A B) (k : Kv n0 b most M0 root B C) : Kv n0 b most M0 root A C :=
  ⟨fun o => k.ok (h.ok o), fun q cur t hq ht e s => by
    obtain ⟨e1, s1⟩ := h.same q cur t hq ht e s
    exact k.same q cur t hq ht e1 s1⟩
theorem Kv.below (hb : Below A.heap.size A B) : Kv n0 b most M0 root A B :=
  ⟨fun o => o.below hb, fun q _ _ _ _ e s => ⟨(hb.block q (Array.getElem?_eq_some_iff.1 e).1).trans e, s.below hb⟩⟩
theorem Ar.cut {M : Cells} {F : Nat → Prop} {x : Nat} {o : Obj} (h : Ar A b most M F) (hx : A.heap[x]? = some o) (hc : o.isCells = false) : Ar A b most M (fun k => F k ∧ k ≠ x) := by
  have ne : ∀ {k : Nat} {cur : Array Value} {t : Nat} {z : Nat × Nat}, A.heap[k]? = some (.cells cur t z) → k ≠ x := fun hk e => by
    subst e
    rw [hx] at hk
    cases hk
    cases hc
  have own : ∀ {v : Value} {base e size n : Nat} {xs : List Value}, A.ownsRow base e size v n xs → ∀ k, v.ownBlock = some k → k ≠ x := fun ho k hk => by
    obtain ⟨cur, hcur⟩ := own_type ho k hk
    exact ne hcur
  obtain ⟨n, vc, vf, fr, H, h⟩ := h
  refine ⟨n, vc, vf, fr, H, ⟨h.m1, h.m2, h.row, h.cs, h.fs, fun j c r e => ?_, h.inj, h.nd, h.fi, h.len, h.le, ⟨h.fb, ne h.row⟩, fun k hk => ⟨h.fc k hk, own h.cs k hk⟩, fun k hk => ⟨h.ff k hk, own h.fs k hk⟩, fun k hk => h.lt k hk.1⟩⟩
  obtain ⟨i1, i2, i3, v, k, h1, h2, h3, h4, h5, h6, h7, h8⟩ := h.cel j c r e
  exact ⟨i1, i2, i3, v, k, h1, h2, h3, ⟨h4, ne h1⟩, fun g hg => ⟨h5 g hg, own h2 g hg⟩, fun g hg => ⟨⟨(h6 g hg).1, own h3 g hg⟩, (h6 g hg).2⟩, h7, h8⟩
theorem kp_putObj {x : Nat} {o : Obj} : Kp (fun q => q = x) A (A.putObj x o) :=
  ⟨rfl, rfl, rfl, by simp [World.putObj], fun k _ hk => World.putObj_heap_other hk⟩
theorem Kv.putObj {x : Nat} {o o' : Obj} (hx : A.heap[x]? = some o) (hc : o.isCells = false) : Kv n0 b most M0 root A (A.putObj x o') := by
  have ar : ∀ {M F}, Ar A b most M F → Ar (A.putObj x o') b most M (fun k => F k ∧ k ≠ x) := fun h => (h.cut hx hc).kp kp_putObj (fun k hk => hk.2)
  refine ⟨fun ⟨M, F, h1, h2⟩ => ⟨M, _, ar h1, h2⟩, fun q cur t _ _ e ⟨M, F, h1, h2⟩ => ⟨?_, M, _, ar h1, fun hf => h2 hf.1⟩⟩
  have hne : q ≠ x := fun e2 => by
    subst e2
    rw [hx] at e
    cases e
    cases hc
  exact (World.putObj_heap_other hne).trans e
def Mi (n0 b most : Nat) (A : World) (t size : Nat) (v : Value) (n : Nat) (xs : List Value) : Prop := A.ownsRow n0 t size v n xs ∧ ∀ q, v.ownBlock = some q → Safe b most A q
theorem Mi.kv {t size n : Nat} {v : Value} {xs : List Value} (h : Mi n0 b most A t size v n xs) (ht : Vt t) (hk : Kv n0 b most M0 root A B) : Mi n0 b most B t size v n xs := by
  obtain ⟨ho, hs⟩ := h
  refine ⟨⟨ho.1, ?_⟩, fun q hq => ?_⟩
  · rcases ho.2 with hn | ⟨g, cap, cur, rfl, hg, e, hr⟩
    · exact .inl hn
    · exact .inr ⟨g, cap, cur, rfl, hg, (hk.same g cur t hg ht e (hs g rfl)).1, hr⟩
  · obtain ⟨cur, hcur⟩ := own_type ho q hq
    exact (hk.same q cur t (own_blk ho q hq).1 ht hcur (hs q hq)).2
theorem Mi.below {t size n : Nat} {v : Value} {xs : List Value} (h : Mi n0 b most A t size v n xs) (hb : Below A.heap.size A B) : Mi n0 b most B t size v n xs :=
  ⟨(Kp.of_below hb (fun _ => False)).own h.1 (fun _ _ h => h), fun q hq => (h.2 q hq).below hb⟩
structure VS (n0 b bh most z4 z9 : Nat) (c : Hc) (V K : Value) (A : World) : Prop where
  lb : C2 A z4 26 (ap b) (.pointer (some ⟨bh, 0, none⟩))
  cb : C5 A z9 94 (.int .u32 c.owner) (.int .u32 c.a) (.int .u32 c.b) V K
  vr : Mi n0 b most A 36 3 V c.vals.length (c.vals.flatMap cells3)
  kr : Mi n0 b most A 3 1 K c.kids.length (nums (ns c.kids))
  n4 : n0 ≤ z4 ∧ n0 ≤ z9
  sf : Safe b most A z4 ∧ Safe b most A z9
theorem VS.kv {bh z4 z9 : Nat} {c : Hc} {V K : Value} (h : VS n0 b bh most z4 z9 c V K A) (hk : Kv n0 b most M0 root A B) : VS n0 b bh most z4 z9 c V K B := by
  obtain ⟨e4, s4⟩ := hk.same z4 _ _ h.n4.1 (.inl rfl) h.lb h.sf.1
  obtain ⟨e9, s9⟩ := hk.same z9 _ _ h.n4.2 (.inr (.inl rfl)) h.cb h.sf.2
  exact ⟨e4, e9, h.vr.kv (.inr (.inr (.inl rfl))) hk, h.kr.kv (.inr (.inr (.inr rfl))) hk, h.n4, s4, s9⟩
theorem VS.below {bh z4 z9 : Nat} {c : Hc} {V K : Value} (h : VS n0 b bh most z4 z9 c V K A) (hb : Below A.heap.size A B) : VS n0 b bh most z4 z9 c V K B :=
  ⟨h.lb.below hb, h.cb.below hb, h.vr.below hb, h.kr.below hb, h.n4, h.sf.1.below hb, h.sf.2.below hb⟩
end
end Go.Proofs.YtkkfhbcnfknmaaaGreat

namespace Go.Proofs.YtkkfhbcnfknmaaaGreat
set_option maxRecDepth 100000
open Go Go.RowKit

section
variable {α : Type} {P : Program}
def Gives8 (P : Program) (f : FuncId) (args : Value → Array Value) (encs : α → Array Value) (Kp : World → World → Prop) (xs : List α) (w : World) : Prop :=
  ∀ (l : Nat) (J Jx : Nat → World → Prop) (W : World), Below w.heap.size w W → (∀ i A B, J i A → Below A.heap.size A B → J i B) → (∀ i A B, Jx i A → Below A.heap.size A B → Jx i B) →
    (∀ i x A, xs[i]? = some x → J i A → YieldAt Fence.wide 0 P l (encs x) A fun e B => (e = .returned (.bool true) ∧ J (i + 1) B ∧ Kp A B) ∨ (e = .returned (.bool false) ∧ Jx (i + 1) B ∧ Kp A B)) →
    J 0 W → Calls P f (args (.func (.yield l) #[] #[])) W fun e B => (∃ v, e = .returned v) ∧ (J xs.length B ∨ ∃ i, i ≤ xs.length ∧ Jx i B)

def roundOf8 (Kp : World → World → Prop) (I : Nat → World → Prop) (Ix : Code → Nat → World → Prop) (i : Nat) (A : World) : Exit → Act → World → Prop
  | .normal, _, B => KeepsOthers A B ∧ Kp A B ∧ I i B
  | .ret, _, B => KeepsOthers A B ∧ Kp A B ∧ Ix .ret i B
  | .exit k, _, B => KeepsOthers A B ∧ Kp A B ∧ Ix (.exit k) i B
  | .goto k, _, B => KeepsOthers A B ∧ Kp A B ∧ Ix (.goto k) i B
  | .panic _, _, _ => False
  | .outgrown, _, _ => False

end

end Go.Proofs.YtkkfhbcnfknmaaaGreat

namespace Go.Proofs.YtkkfhbcnfknmaaaGreat
set_option maxRecDepth 100000
open Go.RowKit Go.Shelf
attribute [local go_sem] Oper.semAt_some
abbrev pagg (p : Pr) : Value := .agg #[.int .u8 p.1.1, .int .i64 p.1.2.1, .string p.1.2.2, .int .u8 p.2.1, .int .i64 p.2.2.1, .string p.2.2.2]
structure Rounds (n0 b most : Nat) (M0 : Cells) (root lp : Nat) (J Jx : Nat → World → Prop) (xs : List Pr) : Prop where
  keep : ∀ i A B, J i A → Below A.heap.size A B → J i B
  step : ∀ i x A, xs[i]? = some x → J i A → YieldAt Fence.wide 0 Tryz.prog lp #[pagg x] A fun e B => (e = .returned (.bool true) ∧ J (i + 1) B ∧ Kv n0 b most M0 root A B) ∨ (e = .returned (.bool false) ∧ Jx (i + 1) B ∧ Kv n0 b most M0 root A B)
section
variable {n0 b bh most root lp : Nat} {M0 : Cells} {J Jx : Nat → World → Prop} {xs : List Pr}
theorem own_base {w : World} {base base' t sz n : Nat} {v : Value} {xs : List Value} (h : w.ownsRow base t sz v n xs) (hb : base' ≤ base) : w.ownsRow base' t sz v n xs := by
  refine ⟨h.1, ?_⟩
  rcases h.2 with h | ⟨g, cap, cur, h1, h2, h3⟩
  · exact .inl h
  · exact .inr ⟨g, cap, cur, h1, Nat.le_trans hb h2, h3⟩
end
end Go.Proofs.YtkkfhbcnfknmaaaGreat

namespace Go.Proofs.YtkkfhbcnfknmaaaGreat
set_option maxRecDepth 100000
open Go.RowKit
section
variable {n0 b bh most root lp : Nat} {M0 : Cells} {hs : Ky → Nat} {J Jx : Nat → World → Prop} {xs : List Pr}
end
end Go.Proofs.YtkkfhbcnfknmaaaGreat

namespace Go.Proofs.YtkkfhbcnfknmaaaGreat
set_option maxRecDepth 100000
open Go.RowKit
section
variable {b bh most root N : Nat} {M0 : Cells} {hs : Ky → Nat} {l : List Pr}
end
end Go.Proofs.YtkkfhbcnfknmaaaGreat

namespace Go.Proofs.YtkkfhbcnfknmaaaGreat
set_option maxRecDepth 100000
open Go.RowKit
theorem below_kp {w w1 w9 : World} {F : Nat → Prop} (hb : Below w.heap.size w w1) (hk : Kp F w1 w9) (hF : ∀ q, F q → w.heap.size ≤ q) : Below w.heap.size w w9 := by
  have h := (Kp.of_below hb (fun _ => False)).trans hk (fun q h => .inr (hF q h))
  exact ⟨h.os, h.tape, h.output, h.size, fun k hk => h.block k hk id⟩
section
end
end Go.Proofs.YtkkfhbcnfknmaaaGreat

namespace Go.Proofs.YtkkfhbcnfknmaaaGreat
set_option maxRecDepth 100000
open Go.RowKit
section
end
end Go.Proofs.YtkkfhbcnfknmaaaGreat
