/- Several texts in one. -/
import Derived.Test.YtacoingheieceaaGreatMA22
import Derived.Test.YtacoingheieceaaGreatMA13
import Derived.Test.YtacoingheieceaaGreatMA24
/- Package hamt: wayTo: what it walks over, plainly: the box of a way, one step of the way; the land has both its parts. -/
namespace Go.Proofs.YtacoingheieceaaGreat
set_option maxRecDepth 100000
open Go.RowKit
theorem Hs.kp {w w' : World} {b seed : Nat} {G : Nat → Prop} (h : Hs w b seed) (hk : Kp G w w') (hn : ¬ G b) : Hs w' b seed := by
  obtain ⟨d, q, key, h, k⟩ := h
  exact ⟨d, q, key, hk.at h hn, k⟩
/-- A block of an empty way. -/
def ZW (w : World) (z : Nat) : Prop := w.heap[z]? = some (.cells #[.pointer none, .pointer none, .int .u32 0, .int .u64 0, .int .i64 0, .slice none 0 0, .slice none 0 0, .slice none 0 0, .int .i64 0, .bool false] 138 (0, 0))
section
variable {w w' : World} {z : Nat} {x : Wv}
theorem ZW.kp {G : Nat → Prop} (h : ZW w z) (hk : Kp G w w') (hn : ¬ G z) : ZW w' z := hk.at h hn
theorem ZW.lt (h : ZW w z) : z < w.heap.size := (Array.getElem?_eq_some_iff.1 h).1
theorem ZW.all (h : ZW w z) : w.cell? ⟨z, 0, none⟩ = some (.pointer none) ∧ w.cell? ⟨z, 1, none⟩ = some (.pointer none) ∧ w.cell? ⟨z, 2, none⟩ = some (.int .u32 0) ∧ w.cell? ⟨z, 3, none⟩ = some (.int .u64 0) ∧ w.cell? ⟨z, 4, none⟩ = some (.int .i64 0) ∧ w.cell? ⟨z, 5, none⟩ = some (.slice none 0 0) ∧ w.cell? ⟨z, 6, none⟩ = some (.slice none 0 0) ∧ w.cell? ⟨z, 7, none⟩ = some (.slice none 0 0) ∧ w.cell? ⟨z, 8, none⟩ = some (.int .i64 0) ∧ w.cell? ⟨z, 9, none⟩ = some (.bool false) := by
  refine ⟨?_, ?_, ?_, ?_, ?_, ?_, ?_, ?_, ?_, ?_⟩ <;> exact cell_of_row w z _ _ _ (0, 0) h
theorem ZW.fzs (h : ZW w z) : w.frozen? ⟨z, 0, none⟩ = false ∧ w.frozen? ⟨z, 1, none⟩ = false ∧ w.frozen? ⟨z, 2, none⟩ = false ∧ w.frozen? ⟨z, 3, none⟩ = false ∧ w.frozen? ⟨z, 4, none⟩ = false ∧ w.frozen? ⟨z, 5, none⟩ = false ∧ w.frozen? ⟨z, 6, none⟩ = false ∧ w.frozen? ⟨z, 7, none⟩ = false ∧ w.frozen? ⟨z, 8, none⟩ = false ∧ w.frozen? ⟨z, 9, none⟩ = false :=
  ⟨frozen_of_row w z _ _ _ h, frozen_of_row w z _ _ _ h, frozen_of_row w z _ _ _ h, frozen_of_row w z _ _ _ h, frozen_of_row w z _ _ _ h, frozen_of_row w z _ _ _ h, frozen_of_row w z _ _ _ h, frozen_of_row w z _ _ _ h, frozen_of_row w z _ _ _ h, frozen_of_row w z _ _ _ h⟩
theorem WC.fzs (h : WC w z x) : w.frozen? ⟨z, 0, none⟩ = false ∧ w.frozen? ⟨z, 1, none⟩ = false ∧ w.frozen? ⟨z, 2, none⟩ = false ∧ w.frozen? ⟨z, 3, none⟩ = false ∧ w.frozen? ⟨z, 4, none⟩ = false ∧ w.frozen? ⟨z, 5, none⟩ = false ∧ w.frozen? ⟨z, 6, none⟩ = false ∧ w.frozen? ⟨z, 7, none⟩ = false ∧ w.frozen? ⟨z, 8, none⟩ = false ∧ w.frozen? ⟨z, 9, none⟩ = false :=
  ⟨frozen_of_row w z _ _ _ h, frozen_of_row w z _ _ _ h, frozen_of_row w z _ _ _ h, frozen_of_row w z _ _ _ h, frozen_of_row w z _ _ _ h, frozen_of_row w z _ _ _ h, frozen_of_row w z _ _ _ h, frozen_of_row w z _ _ _ h, frozen_of_row w z _ _ _ h, frozen_of_row w z _ _ _ h⟩
theorem WC.set5 (h : WC w z x) (A : Option Addr) (n c : Nat) : WC (w.setCell ⟨z, 5, none⟩ (.slice A n c)) z { x with A4 := A, n4 := n, c4 := c } := by
  have := heap_setCell_same w z 5 _ _ (.slice A n c) h
  simpa [WC] using this
theorem WC.set6 (h : WC w z x) (A : Option Addr) (n c : Nat) : WC (w.setCell ⟨z, 6, none⟩ (.slice A n c)) z { x with A5 := A, n5 := n, c5 := c } := by
  have := heap_setCell_same w z 6 _ _ (.slice A n c) h
  simpa [WC] using this
theorem WC.set7 (h : WC w z x) (A : Option Addr) (n c : Nat) : WC (w.setCell ⟨z, 7, none⟩ (.slice A n c)) z { x with A6 := A, n6 := n, c6 := c } := by
  have := heap_setCell_same w z 7 _ _ (.slice A n c) h
  simpa [WC] using this
theorem WC.set8 (h : WC w z x) (n : Nat) : WC (w.setCell ⟨z, 8, none⟩ (.int .i64 (n : Int))) z { x with at' := n } := by
  have := heap_setCell_same w z 8 _ _ (.int .i64 (n : Int)) h
  simpa [WC] using this
theorem WC.set9 (h : WC w z x) (n : Bool) : WC (w.setCell ⟨z, 9, none⟩ (.bool n)) z { x with has := n } := by
  have := heap_setCell_same w z 9 _ _ (.bool n) h
  simpa [WC] using this
set_option maxHeartbeats 1600000 in
/-- All ten cells are written. -/
theorem ZW.put (h : ZW w z) (x : Wv) : WC ((((((((((w.setCell ⟨z, 0, none⟩ (ap x.b)).setCell ⟨z, 1, none⟩ (.pointer (some ⟨x.bh, 0, none⟩))).setCell ⟨z, 2, none⟩ (.int .u32 x.ow)).setCell ⟨z, 3, none⟩ (.int .u64 x.g)).setCell ⟨z, 4, none⟩ (.int .i64 x.root)).setCell ⟨z, 5, none⟩ (.slice x.A4 x.n4 x.c4)).setCell ⟨z, 6, none⟩ (.slice x.A5 x.n5 x.c5)).setCell ⟨z, 7, none⟩ (.slice x.A6 x.n6 x.c6)).setCell ⟨z, 8, none⟩ (.int .i64 x.at')).setCell ⟨z, 9, none⟩ (.bool x.has)) z x := by
  have h0 := heap_setCell_same _ z 0 _ _ (ap x.b) h
  have h1 := heap_setCell_same _ z 1 _ _ (.pointer (some ⟨x.bh, 0, none⟩)) h0
  have h2 := heap_setCell_same _ z 2 _ _ (.int .u32 x.ow) h1
  have h3 := heap_setCell_same _ z 3 _ _ (.int .u64 x.g) h2
  have h4 := heap_setCell_same _ z 4 _ _ (.int .i64 x.root) h3
  have h5 := heap_setCell_same _ z 5 _ _ (.slice x.A4 x.n4 x.c4) h4
  have h6 := heap_setCell_same _ z 6 _ _ (.slice x.A5 x.n5 x.c5) h5
  have h7 := heap_setCell_same _ z 7 _ _ (.slice x.A6 x.n6 x.c6) h6
  have h8 := heap_setCell_same _ z 8 _ _ (.int .i64 x.at') h7
  have h9 := heap_setCell_same _ z 9 _ _ (.bool x.has) h8
  simpa [WC] using h9
end
section
variable {M : Cells} {hs : Ky → Nat} {g lv i : Nat} {l lf : List Pr} {cl : List (Nat × Nat)}
/-- One step of the way. -/
theorem Wy.step (h : Wy M hs g lv i l cl lf) : ∃ (c : Hc) (r bL : Nat) (rest : List (Nat × Nat)), M i = some (c, r) ∧ c.b = (bL : Int) ∧ lv ≤ bL ∧ bL ≤ 13 ∧ Sound c ∧ cl = (i, bL) :: rest ∧
    ((bL = 13 ∧ rest = [] ∧ c.vals = flatP lf) ∨ (bL < 13 ∧ ∃ (s i' : Nat) (l' : List Pr), c.a = (s : Int) ∧ s < 4294967296 ∧ c.kids[sdx s g bL]? = some i' ∧ Wy M hs g (bL + 1) i' l' rest lf)) := by
  cases h with
  | leaf h => exact ⟨_, _, 13, [], h.cell, by rw [h.cb]; rfl, h.lv, Nat.le_refl _, h.sound, rfl, .inl ⟨rfl, rfl, h.vals⟩⟩
  | @node lv i l c r b s K L d cl lf h hT hd hx hw => exact ⟨c, r, b, cl, h.cell, h.cb, h.lv, Nat.le_of_lt h.b13, h.sound, rfl, .inr ⟨h.b13, s, K d, L d, h.ca, h.s32, by rw [← hx]; exact h.kid d (bit_lt h.s32 hd) hd, hw⟩⟩
theorem Wy.sublist (h : Wy M hs g lv i l cl lf) : lf.Sublist l := by
  induction h with
  | leaf h => exact List.Sublist.refl _
  | @node lv i l c r b s K L d cl lf h hT hd hx hw ih =>
    refine ih.trans ?_
    rw [h.eq]
    unfold joinL
    exact List.sublist_flatten_of_mem (List.mem_map.2 ⟨d, List.mem_range.2 (bit_lt h.s32 hd), rfl⟩) |> fun h => by simpa [List.flatMap] using h
theorem Wy.cl_len (h : Wy M hs g lv i l cl lf) : cl.length + lv ≤ 14 := by
  induction h with
  | leaf h => have := h.lv; simp only [List.length_cons, List.length_nil]; omega
  | node h _ _ _ _ ih => have := h.lv; simp only [List.length_cons]; omega
end
section
set_option maxHeartbeats 800000 in
theorem vlacks (b bh : Nat) (w : World) : Calls Tryz.prog 74 #[land b bh] w fun e w' => e = .returned (.bool false) ∧ Below w.heap.size w w' := by
  have HB := Lib.hid ((Below.refl w.heap.size w).alloc (Nat.le_refl _) (.cells #[ap b, .pointer (some ⟨bh, 0, none⟩)] 30))
  go_enter Tryz.func74, Tryz.ntmps74
  go_wp2_with fail
  go_ret
  exact ⟨rfl, HB.out⟩
end
/-- What stands while the key's hash is told. -/
structure Q6S (W : World) (zl zm zk b bh N root : Nat) (k : Ky) : Prop where
  lb : C2 W zl 30 (ap b) (.pointer (some ⟨bh, 0, none⟩))
  mb : C2 W zm 33 (.int .i64 (N : Int)) (.int .i64 (root : Int))
  kb : C3 W zk 43 (.int .u8 k.1) (.int .i64 k.2.1) (.string k.2.2)
theorem Q6S.kp {W W' : World} {zl zm zk b bh N root : Nat} {k : Ky} {G : Nat → Prop} (h : Q6S W zl zm zk b bh N root k) (hk : Kp G W W') (hn : ¬ G zl ∧ ¬ G zm ∧ ¬ G zk) : Q6S W' zl zm zk b bh N root k :=
  ⟨h.lb.kp hk hn.1, h.mb.kp hk hn.2.1, h.kb.kp hk hn.2.2⟩

end Go.Proofs.YtacoingheieceaaGreat
