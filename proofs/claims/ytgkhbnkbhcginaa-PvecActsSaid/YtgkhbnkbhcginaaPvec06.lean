/- Package pvec: slot, branch, inTail, Keep, Drop, begin, leaf, Get. -/
import Derived.Test.YtgkhbnkbhcginaaBegin06
import Derived.Test.YtgkhbnkbhcginaaVecs06
namespace Go.Proofs.Ytgkhbnkbhcginaa
open Go.RowKit

/-- A block of 3 cells, known whole. -/
def C3 (w : World) (b : Nat) (t : TypeId) (x0 x1 x2 : Value) : Prop := w.heap[b]? = some (.cells #[x0, x1, x2] t (0, 0))
section
variable {w w' : World} {b : Nat} {t : TypeId} {x0 x1 x2 : Value}
theorem C3.c0 (h : C3 w b t x0 x1 x2) : w.cell? ⟨b, 0, none⟩ = some x0 := by simpa using cell_of_row w b 0 _ _ (0, 0) h
theorem C3.c1 (h : C3 w b t x0 x1 x2) : w.cell? ⟨b, 1, none⟩ = some x1 := by simpa using cell_of_row w b 1 _ _ (0, 0) h
theorem C3.c2 (h : C3 w b t x0 x1 x2) : w.cell? ⟨b, 2, none⟩ = some x2 := by simpa using cell_of_row w b 2 _ _ (0, 0) h
theorem C3.fz (h : C3 w b t x0 x1 x2) (i : Nat) : w.frozen? ⟨b, i, none⟩ = false := frozen_of_row w b i _ _ h
theorem C3.all (h : C3 w b t x0 x1 x2) : w.cell? ⟨b, 0, none⟩ = some x0 ∧ w.cell? ⟨b, 1, none⟩ = some x1 ∧ w.cell? ⟨b, 2, none⟩ = some x2 ∧ w.frozen? ⟨b, 0, none⟩ = false ∧ w.frozen? ⟨b, 1, none⟩ = false ∧ w.frozen? ⟨b, 2, none⟩ = false :=
  ⟨h.c0, h.c1, h.c2, h.fz 0, h.fz 1, h.fz 2⟩
theorem C3.set0 (h : C3 w b t x0 x1 x2) (y : Value) : C3 (w.setCell ⟨b, 0, none⟩ y) b t y x1 x2 := by
  have := heap_setCell_same w b 0 _ _ y h
  simpa [C3] using this
theorem C3.set1 (h : C3 w b t x0 x1 x2) (y : Value) : C3 (w.setCell ⟨b, 1, none⟩ y) b t x0 y x2 := by
  have := heap_setCell_same w b 1 _ _ y h
  simpa [C3] using this
theorem C3.set2 (h : C3 w b t x0 x1 x2) (y : Value) : C3 (w.setCell ⟨b, 2, none⟩ y) b t x0 x1 y := by
  have := heap_setCell_same w b 2 _ _ y h
  simpa [C3] using this
theorem C3.other (h : C3 w b t x0 x1 x2) {g o : Nat} (hg : b ≠ g) (y : Value) : C3 (w.setCell ⟨g, o, none⟩ y) b t x0 x1 x2 := (Below.heap_setCell w ⟨g, o, none⟩ y b hg).trans h
theorem C3.lt (h : C3 w b t x0 x1 x2) : b < w.heap.size := (Array.getElem?_eq_some_iff.1 h).1
theorem C3.kp {F : Nat → Prop} (h : C3 w b t x0 x1 x2) (hk : Kp F w w') (hF : ¬ F b) : C3 w' b t x0 x1 x2 := hk.at h hF
theorem C3.below (h : C3 w b t x0 x1 x2) (hb : Below w.heap.size w w') : C3 w' b t x0 x1 x2 := (hb.block b h.lt).trans h
theorem C3.new (w : World) (t : TypeId) (x0 x1 x2 : Value) : C3 (w.alloc (.cells #[x0, x1, x2] t)) w.heap.size t x0 x1 x2 := heap_alloc_new w _
theorem C3.alloc (h : C3 w b t x0 x1 x2) (o : Obj) : C3 (w.alloc o) b t x0 x1 x2 := (Below.heap_alloc w o b h.lt).trans h
end

set_option maxRecDepth 100000 in
theorem vat0 (i : Nat) (w : World) (hi : i < 1048576) : Calls Try.prog 66 #[.int .u64 i, .int .i64 0] w fun e w' => e = .returned (.int .i64 ((i % 32 : Nat) : Int)) ∧ w = w' := by
  go_enter Try.func66, Try.ntmps66
  go_wp2_with fail
  go_ret
  exact ⟨rfl, rfl⟩
theorem vat1 (i : Nat) (w : World) (hi : i < 1048576) : Calls Try.prog 66 #[.int .u64 i, .int .i64 1] w fun e w' => e = .returned (.int .i64 ((i / 32 % 32 : Nat) : Int)) ∧ w = w' := by
  go_enter Try.func66, Try.ntmps66
  go_wp2_with fail
  go_ret
  exact ⟨rfl, rfl⟩

set_option maxRecDepth 100000 in
theorem vslot (i : Nat) (w : World) (hi : i < 1048576) : Calls Try.prog 41 #[.int .i64 i] w fun e w' => e = .returned (.int .i64 ((i % 32 : Nat) : Int)) ∧ w = w' := by
  go_enter Try.func41, Try.ntmps41
  go_wp2_with (go_at_call 66; refine (vat0 i _ hi).mono ?_; rintro e w' ⟨rfl, rfl⟩)
  go_ret
  exact ⟨rfl, rfl⟩
set_option maxRecDepth 100000 in
theorem vbranch (i : Nat) (w : World) (hi : i < 1024) : Calls Try.prog 51 #[.int .i64 i] w fun e w' => e = .returned (.int .i64 ((i / 32 : Nat) : Int)) ∧ w = w' := by
  have hm : i / 32 % 32 = i / 32 := Nat.mod_eq_of_lt (by omega)
  have h1 := vat1 i w (by omega)
  rw [hm] at h1
  go_enter Try.func51, Try.ntmps51
  go_wp2_with (go_at_call 66; refine h1.mono ?_; rintro e w' ⟨rfl, rfl⟩)
  go_ret
  exact ⟨rfl, rfl⟩

/-- A vector, as it is handed in and out. -/
abbrev vagg (v : Vc) : Value := .agg #[.int .i64 (v.n : Int), .int .i64 (v.root : Int), .int .i64 (v.tail : Int)]
set_option maxRecDepth 100000 in
theorem vinTail (v : Vc) (i : Nat) (w : World) (h1 : 1 ≤ v.n) (h2 : v.n ≤ 1024) (hi : i < 1024) : Calls Try.prog 48 #[vagg v, .int .i64 i] w fun e w' => e = .returned (.bool (decide (i / 32 = (v.n - 1) / 32))) ∧ Below w.heap.size w w' := by
  have e1 : ((v.n : Int) - 1) = ((v.n - 1 : Nat) : Int) := by omega
  have hB := Lib.hid (show Below w.heap.size w (w.alloc (.cells #[.int .i64 (v.n : Int), .int .i64 (v.root : Int), .int .i64 (v.tail : Int)] 30)) from (Below.refl _ w).alloc (Nat.le_refl _) _)
  have B1 := Lib.hid (show ∀ k, Calls Try.prog 51 #[.int .i64 i] ((w.alloc (.cells #[.int .i64 (v.n : Int), .int .i64 (v.root : Int), .int .i64 (v.tail : Int)] 30)).drewN k) fun e w' => e = .returned (.int .i64 ((i / 32 : Nat) : Int)) ∧ (w.alloc (.cells #[.int .i64 (v.n : Int), .int .i64 (v.root : Int), .int .i64 (v.tail : Int)] 30)).drewN k = w' from fun k => vbranch i _ hi)
  have B2 := Lib.hid (show ∀ k, Calls Try.prog 51 #[.int .i64 ((v.n : Int) - 1)] ((w.alloc (.cells #[.int .i64 (v.n : Int), .int .i64 (v.root : Int), .int .i64 (v.tail : Int)] 30)).drewN k) fun e w' => e = .returned (.int .i64 (((v.n - 1) / 32 : Nat) : Int)) ∧ (w.alloc (.cells #[.int .i64 (v.n : Int), .int .i64 (v.root : Int), .int .i64 (v.tail : Int)] 30)).drewN k = w' from fun k => by
    rw [e1]; exact vbranch (v.n - 1) _ (by omega))
  generalize hx : i / 32 = x at B1 ⊢
  generalize hy : (v.n - 1) / 32 = y at B2 ⊢
  clear hx hy e1
  go_enter Try.func48, Try.ntmps48
  go_wp2_with fail
  go_quiet ((go_at_call 51; first | exact quiet_same (B1.out _) | exact quiet_same (B2.out _)))
  go_wp2_with fail
  go_ret
  exact ⟨ret_bool (by rw [Bool.eq_iff_iff, beq_iff_eq, decide_eq_true_eq]; omega), hB.out.trans ((below_drewN _ _).mono hB.out.size)⟩

theorem drops_rf {M M' : Cells} {t : List Nat} (h : Drops M t M') (j : Nat) : rf (M' j) ≤ rf (M j) := by
  induction h with
  | done M => exact Nat.le_refl _
  | step _ ih => exact Nat.le_trans ih (release_rf _ _)
section
variable {b most : Nat} {M M' : Cells} {F : Nat → Prop}
/-- What comes of a world that has grown comes of the world itself. -/
theorem Stp.from {w w1 w2 : World} (hF : ∀ x, F x → x < w.heap.size) (hb : Below w.heap.size w w1) (h : Stp w1 w2 b most M' F) : Stp w w2 b most M' F :=
  ⟨h.ar.mono (fun _ hx => hx.imp id (fun hx => ⟨Nat.le_trans hb.size hx.1, hx.2⟩)) (fun x hx => hx.elim (fun hx => Nat.lt_of_lt_of_le (hF x hx) (Nat.le_trans hb.size h.kp.size)) (fun hx => hx.2)), (Kp.of_below hb F).trans h.kp (fun _ => .inl)⟩

set_option maxRecDepth 100000 in
theorem vkeep (v : Vc) (w : World) (h : Ar w b most M F) (hr : ∀ j, rf (M j) ≤ 4611686018427387900) : Calls Try.prog 19 #[ap b, vagg v] w fun e w' => e = .returned (.tuple #[]) ∧ Stp w w' b most (keepC (keepC M v.root) v.tail) F := by
  have HF := Lib.hid (show ∀ x, F x → x < w.heap.size from fun x hx => h.lt hx)
  have HB := Lib.hid ((Below.refl _ w).alloc (Nat.le_refl _) (.cells #[.int .i64 (v.n : Int), .int .i64 (v.root : Int), .int .i64 (v.tail : Int)] 30))
  have HA := Lib.hid (h.alloc (.cells #[.int .i64 (v.n : Int), .int .i64 (v.root : Int), .int .i64 (v.tail : Int)] 30))
  have q3 := Lib.hid (C3.new w 30 (.int .i64 (v.n : Int)) (.int .i64 (v.root : Int)) (.int .i64 (v.tail : Int)))
  have hr1 : rf (M v.root) ≤ 4611686018427387904 := by have := hr v.root; omega
  have hr2 := Lib.hid (show rf (keepC M v.root v.tail) ≤ 4611686018427387904 from by have h1 := keepC_rf (M := M) (i := v.root) (j := v.tail); have := hr v.tail; omega)
  clear h hr
  go_enter Try.func19, Try.ntmps19
  go_wp2_with fail
  refine (vkeep1 v.root _ HA.out hr1).mono ?_
  rintro e w2 ⟨⟨z1, rfl⟩, hs⟩
  have hzb : ¬ F w.heap.size := fun hx => absurd (HF.out _ hx) (Nat.lt_irrefl _)
  have q4 := Lib.hid (q3.out.kp hs.kp hzb)
  have HS := Lib.hid (Stp.from HF.out HB.out hs)
  generalize w.heap.size = zb at q4 ⊢
  have c2 := q4.out.c2
  clear hs q3 hzb
  go_wp2_with fail
  refine (vkeep1 v.tail _ HS.out.ar hr2.out).mono ?_
  rintro e w3 ⟨⟨z2, rfl⟩, hs⟩
  have HE := Lib.hid (HS.out.trans hs)
  clear hs c2
  go_wp2_with fail
  go_end0
  exact ⟨rfl, HE.out⟩
set_option maxRecDepth 100000 in
theorem vdrop (v : Vc) (w : World) (h : Ar w b most M F) (hr : ∀ j, rf (M j) ≤ 4611686018427387900) : Calls Try.prog 20 #[ap b, vagg v] w fun e w' => e = .returned (.tuple #[]) ∧ ∃ M1 M2, Drops M [v.root] M1 ∧ Drops M1 [v.tail] M2 ∧ Stp w w' b most M2 F := by
  have HF := Lib.hid (show ∀ x, F x → x < w.heap.size from fun x hx => h.lt hx)
  have HB := Lib.hid ((Below.refl _ w).alloc (Nat.le_refl _) (.cells #[.int .i64 (v.n : Int), .int .i64 (v.root : Int), .int .i64 (v.tail : Int)] 30))
  have HA := Lib.hid (h.alloc (.cells #[.int .i64 (v.n : Int), .int .i64 (v.root : Int), .int .i64 (v.tail : Int)] 30))
  have q3 := Lib.hid (C3.new w 30 (.int .i64 (v.n : Int)) (.int .i64 (v.root : Int)) (.int .i64 (v.tail : Int)))
  have hr1 : ∀ j, rf (M j) ≤ 4611686018427387904 := fun j => by have := hr j; omega
  clear h
  go_enter Try.func20, Try.ntmps20
  go_wp2_with fail
  refine (vdrop1 v.root _ HA.out hr1).mono ?_
  rintro e w2 ⟨⟨z1, rfl⟩, M1, hd1, hs⟩
  have hzb : ¬ F w.heap.size := fun hx => absurd (HF.out _ hx) (Nat.lt_irrefl _)
  have q4 := Lib.hid (q3.out.kp hs.kp hzb)
  have HS := Lib.hid (Stp.from HF.out HB.out hs)
  have hr2 := Lib.hid (show ∀ j, rf (M1 j) ≤ 4611686018427387904 from fun j => Nat.le_trans (drops_rf hd1 j) (hr1 j))
  have D1 := Lib.hid hd1
  generalize w.heap.size = zb at q4 ⊢
  have c2 := q4.out.c2
  clear hs q3 hzb hd1
  go_wp2_with fail
  refine (vdrop1 v.tail _ HS.out.ar hr2.out).mono ?_
  rintro e w3 ⟨⟨z2, rfl⟩, M2, hd2, hs⟩
  have HE := Lib.hid (HS.out.trans hs)
  have D2 := Lib.hid hd2
  clear hs c2 hd2
  go_wp2_with fail
  go_end0
  exact ⟨rfl, M1, M2, D1.out, D2.out, HE.out⟩

set_option maxRecDepth 100000 in
/-- begin: what Begin does with the vector's two cells. -/
theorem vbegin_of (v : Vc) (ow : Int) (need : Nat) (r : Bool) (Q : World → Prop) (w : World)
    (hP : ∀ W vs, Below w.heap.size w W → Rd W vs 2 (nums (ns [v.root, v.tail])) → (∀ x, vs.ownBlock = some x → w.heap.size ≤ x ∧ x < W.heap.size) →
      Calls Try.prog 68 #[ap b, .int .u32 ow, .int .i64 (need : Int), vs] W fun e w' => e = .returned (.bool r) ∧ Q w') :
    Calls Try.prog 43 #[ap b, vagg v, .int .u32 ow, .int .i64 (need : Int)] w fun e w' => e = .returned (.bool r) ∧ Q w' := by
  have h1 : (w.alloc (.cells #[.int .i64 (v.n : Int), .int .i64 (v.root : Int), .int .i64 (v.tail : Int)] 30)).heap.size = w.heap.size + 1 := by simp
  have hb : Below w.heap.size w (w.alloc (.cells #[.int .i64 (v.n : Int), .int .i64 (v.root : Int), .int .i64 (v.tail : Int)] 30)) := (Below.refl _ w).alloc (Nat.le_refl _) _
  have hrd := Rd.two (w.alloc (.cells #[.int .i64 (v.n : Int), .int .i64 (v.root : Int), .int .i64 (v.tail : Int)] 30)) (.int .i64 (v.root : Int)) (.int .i64 (v.tail : Int)) 3
  rw [h1] at hrd
  have HC := Lib.hid (hP _ _ (hb.alloc (by rw [h1]; exact Nat.le_succ _) (.cells #[.int .i64 (v.root : Int), .int .i64 (v.tail : Int)] 3)) hrd (fun x hx => by
    simp only [Value.ownBlock, Option.some.injEq] at hx
    subst hx
    exact ⟨Nat.le_succ _, by simp⟩))
  clear hP hb hrd h1
  go_enter Try.func43, Try.ntmps43
  go_wp2_with fail
  refine HC.out.mono ?_
  rintro e w2 ⟨rfl, hq⟩
  have HQ := Lib.hid hq
  clear hq
  go_wp2_with fail
  go_ret
  exact ⟨rfl, HQ.out⟩
/-- begin, where there is no room. -/
theorem vbegin_no (v : Vc) (ow : Int) (need : Nat) (w : World) (h : Ar w b most M F) (hn : most < live (most + 1) M + need) : Calls Try.prog 43 #[ap b, vagg v, .int .u32 ow, .int .i64 (need : Int)] w fun e w' => e = .returned (.bool false) ∧ Below w.heap.size w w' :=
  vbegin_of v ow need false _ w fun W _ hb _ _ => (vBegin_no ow need _ W (h.below hb) hn).mono fun _ _ hq => ⟨hq.1, hb.trans (hq.2.mono hb.size)⟩
/-- begin with an owner. -/
theorem vbegin_own (v : Vc) (ow : Int) (need : Nat) (w : World) (h : Ar w b most M F) (hn : live (most + 1) M + need ≤ most) (h0 : ¬ ow = 0) : Calls Try.prog 43 #[ap b, vagg v, .int .u32 ow, .int .i64 (need : Int)] w fun e w' => e = .returned (.bool true) ∧ Below w.heap.size w w' :=
  vbegin_of v ow need true _ w fun W _ hb _ _ => (vBegin_own ow need _ W (h.below hb) hn h0).mono fun _ _ hq => ⟨hq.1, hb.trans (hq.2.mono hb.size)⟩
/-- begin without an owner: the vector is kept. -/
theorem vbegin_keep (v : Vc) (need : Nat) (w : World) (h : Ar w b most M F) (hn : live (most + 1) M + need ≤ most) (hr : ∀ j, rf (M j) ≤ 4611686018427387900) : Calls Try.prog 43 #[ap b, vagg v, .int .u32 0, .int .i64 (need : Int)] w fun e w' => e = .returned (.bool true) ∧ Stp w w' b most (keepC (keepC M v.root) v.tail) F :=
  vbegin_of v 0 need true _ w fun W vs hb hrd ho => (vBegin_keep need [v.root, v.tail] vs W (h.below hb) hn hrd (fun x hx => ⟨fun hf => Nat.lt_irrefl _ (Nat.lt_of_lt_of_le (h.lt hf) (ho x hx).1), (ho x hx).2⟩) (by show 2 ≤ 4194304; decide) (fun j => by have := hr j; show rf (M j) + 2 ≤ _; omega)).mono fun _ _ hq => ⟨hq.1, Stp.from (fun x hx => h.lt hx) hb hq.2⟩

/-- .. the cell that holds position i: the tail, or a leaf of the trunk. -/
structure LeafAt (M : Cells) (v : Vc) (l : Vs) (i x : Nat) : Prop where
  leaf : Leaf M x (chunk l (i / 32))
  tail : i / 32 = (l.length - 1) / 32 → x = v.tail
  trunk : i / 32 ≠ (l.length - 1) / 32 → ∃ c r, M v.root = some (c, r) ∧ c.kids[i / 32]? = some x
set_option maxRecDepth 100000 in
set_option maxHeartbeats 800000 in
theorem vleaf (v : Vc) (l : Vs) (i : Nat) (w : World) (h : Ar w b most M F) (hv : VecIs M v l) (hi : i < l.length) : Calls Try.prog 47 #[ap b, vagg v, .int .i64 i] w fun e w' => ∃ x, e = .returned (.int .i64 (x : Nat)) ∧ LeafAt M v l i x ∧ Below w.heap.size w w' := by
  have hn := hv.n
  have hle := hv.le
  have HB := Lib.hid ((Below.refl _ w).alloc (Nat.le_refl _) (.cells #[.int .i64 (v.n : Int), .int .i64 (v.root : Int), .int .i64 (v.tail : Int)] 30))
  have HA := Lib.hid (h.alloc (.cells #[.int .i64 (v.n : Int), .int .i64 (v.root : Int), .int .i64 (v.tail : Int)] 30))
  have q3 := Lib.hid (C3.new w 30 (.int .i64 (v.n : Int)) (.int .i64 (v.root : Int)) (.int .i64 (v.tail : Int)))
  have hit := vinTail v i (w.alloc (.cells #[.int .i64 (v.n : Int), .int .i64 (v.root : Int), .int .i64 (v.tail : Int)] 30)) (by omega) (by omega) (by omega)
  by_cases hd : i / 32 = (l.length - 1) / 32
  · have ht := hv.tl (by rintro rfl; simp at hi)
    have hd1 : decide (i / 32 = (v.n - 1) / 32) = true := by rw [hn]; simpa using hd
    rw [hd1] at hit
    rw [← hd] at ht
    have HT := Lib.hid (show LeafAt M v l i v.tail from ⟨ht, fun _ => rfl, fun e => absurd hd e⟩)
    clear h hv ht hn
    go_enter Try.func47, Try.ntmps47
    go_wp2_with fail
    refine hit.mono ?_
    rintro e w2 ⟨rfl, hb2⟩
    have q4 := q3.out.below hb2
    obtain ⟨zb, hzb⟩ : ∃ z, z = w.heap.size := ⟨_, rfl⟩
    rw [← hzb] at q4 ⊢
    clear hzb
    have c2 := q4.c2
    have HE := Lib.hid (HB.out.trans (hb2.mono HB.out.size))
    clear hb2 q3 q4 hit
    go_wp2_with fail
    go_ret
    exact ⟨v.tail, rfl, HT.out, HE.out⟩
  · have hlen : 32 < l.length := by omega
    obtain ⟨c, r, hM, hcv, hck, hkids⟩ := hv.rt hlen
    have hd1 : decide (i / 32 = (v.n - 1) / 32) = false := by rw [hn]; simpa using hd
    rw [hd1] at hit
    have hik : i / 32 < c.kids.length := by rw [hck]; omega
    obtain ⟨x, hx⟩ : ∃ x, c.kids[i / 32]? = some x := ⟨_, List.getElem?_eq_getElem hik⟩
    have hkl : c.kids.length < 1024 := by rw [hck]; omega
    have hbr := Lib.hid (show ∀ W, Calls Try.prog 51 #[.int .i64 i] W fun e w' => e = .returned (.int .i64 ((i / 32 : Nat) : Int)) ∧ W = w' from fun W => vbranch i W (by omega))
    have HT := Lib.hid (show LeafAt M v l i x from ⟨hkids _ _ hx, fun e => absurd e hd, fun _ => ⟨c, r, hM, hx⟩⟩)
    have HM := Lib.hid hM
    have HX := Lib.hid hx
    clear h hv hM hkids hcv hx hn hck
    go_enter Try.func47, Try.ntmps47
    go_wp2_with fail
    refine hit.mono ?_
    rintro e w2 ⟨rfl, hb2⟩
    have q4 := q3.out.below hb2
    obtain ⟨zb, hzb⟩ : ∃ z, z = w.heap.size := ⟨_, rfl⟩
    rw [← hzb] at q4 ⊢
    clear hzb
    have c1 := q4.c1
    have HE := Lib.hid (HB.out.trans (hb2.mono HB.out.size))
    have HA2 := Lib.hid (HA.out.below hb2)
    clear hb2 q3 q4 hit
    go_wp2_with fail
    refine (get v.root c r b most M F _ HA2.out HM.out).mono ?_
    rintro e w3 ⟨vv, kk, rfl, o1, o2, hb3⟩
    obtain ⟨A1, m1, rfl, _⟩ := (Rd.of_own o1).form
    obtain ⟨A2, m2, rfl, _⟩ := (Rd.of_own o2).form
    obtain ⟨gk2, ck2, e, _, hcell, _⟩ := own_at o2 (j := i / 32) (u := .int .i64 (x : Int)) (by rw [nums_at]; unfold ns; rw [List.getElem?_map, HX.out]; rfl)
    simp only [Value.slice.injEq, true_and] at e
    obtain ⟨rfl, rfl⟩ := e
    have hgl : gk2 < w3.heap.size := World.block_lt_of_cell? w3 _ hcell
    have HE3 := Lib.hid (HE.out.trans (hb3.mono HE.out.size))
    clear o1 o2 hb3 c1 HA HA2 HM HE
    generalize i / 32 = q at hik HX hbr hcell
    have hik1 : ¬ (c.kids.length : Int) ≤ (q : Int) := by omega
    have hik2 : (q : Int) < (c.kids.length : Int) := by omega
    have hik3 : (0 : Int) ≤ (q : Int) := by omega
    have q5 := C5.new w3 59 (.int .u32 c.owner) (.int .u32 c.a) (.int .u32 c.b) (.slice A1 c.vals.length m1) (.slice (some ⟨gk2, 0, none⟩) c.kids.length m2)
    have hb4 : Below w3.heap.size w3 (w3.alloc (.cells #[.int .u32 c.owner, .int .u32 c.a, .int .u32 c.b, .slice A1 c.vals.length m1, .slice (some ⟨gk2, 0, none⟩) c.kids.length m2] 59)) := (Below.refl _ w3).alloc (Nat.le_refl _) _
    have hc4 : (w3.alloc (.cells #[.int .u32 c.owner, .int .u32 c.a, .int .u32 c.b, .slice A1 c.vals.length m1, .slice (some ⟨gk2, 0, none⟩) c.kids.length m2] 59)).cell? ⟨gk2, q, none⟩ = some (.int .i64 (x : Int)) := (hb4.cell (p := ⟨gk2, q, none⟩) hgl).trans hcell
    have HE4 := Lib.hid (HE3.out.trans (hb4.mono HE3.out.size))
    clear hcell hgl hb4 HE3
    go_wp2_with fail
    generalize w3.alloc (.cells #[.int .u32 c.owner, .int .u32 c.a, .int .u32 c.b, .slice A1 c.vals.length m1, .slice (some ⟨gk2, 0, none⟩) c.kids.length m2] 59) = w4 at q5 hc4 HE4 ⊢
    generalize w3.heap.size = z3 at q5 ⊢
    have c4 := q5.c4
    clear q5
    go_quiet ((go_at_call 51; exact quiet_same (hbr.out _)))
    go_wp2_with fail
    have c4' : (w4.drewN nq).cell? ⟨z3, 4, none⟩ = some (.slice (some ⟨gk2, 0, none⟩) c.kids.length m2) := c4
    have hc4' : (w4.drewN nq).cell? ⟨gk2, q, none⟩ = some (.int .i64 (x : Int)) := hc4
    have HE5 := Lib.hid (HE4.out.trans ((below_drewN w4 nq).mono HE4.out.size))
    generalize w4.drewN nq = w5 at c4' hc4' HE5 ⊢
    clear c4 hc4 HE4
    go_quiet ((go_at_call 51; exact quiet_same (hbr.out _)))
    go_wp2_with fail
    go_ret
    exact ⟨x, rfl, HT.out, HE5.out.trans ((below_drewN _ _).mono HE5.out.size)⟩

theorem flat3_at : ∀ {vs : Vs} {j : Nat} {x : Int × Int × ByteArray}, vs[j]? = some x → (vs.flatMap cells3)[j * 3]? = some (.int .u8 x.1) ∧ (vs.flatMap cells3)[j * 3 + 1]? = some (.int .i64 x.2.1) ∧ (vs.flatMap cells3)[j * 3 + 2]? = some (.string x.2.2)
  | [], _, _, h => by simp at h
  | y :: vs, 0, x, h => by
    simp at h
    subst h
    simp [cells3]
  | y :: vs, j + 1, x, h => by
    have h' : vs[j]? = some x := by simpa using h
    obtain ⟨a0, a1, a2⟩ := flat3_at h'
    have hl : (cells3 y).length = 3 := rfl
    refine ⟨?_, ?_, ?_⟩
    · rw [List.flatMap_cons, List.getElem?_append_right (by rw [hl]; omega), hl, show (j + 1) * 3 - 3 = j * 3 by omega]; exact a0
    · rw [List.flatMap_cons, List.getElem?_append_right (by rw [hl]; omega), hl, show (j + 1) * 3 + 1 - 3 = j * 3 + 1 by omega]; exact a1
    · rw [List.flatMap_cons, List.getElem?_append_right (by rw [hl]; omega), hl, show (j + 1) * 3 + 2 - 3 = j * 3 + 2 by omega]; exact a2
/-- A value, as it is handed in and out. -/
abbrev xagg (x : Int × Int × ByteArray) : Value := .agg #[.int .u8 x.1, .int .i64 x.2.1, .string x.2.2]
set_option maxRecDepth 100000 in
set_option maxHeartbeats 800000 in
theorem vGet_no (v : Vc) (i : Int) (w : World) (h : i < 0 ∨ (v.n : Int) ≤ i) : Calls Try.prog 27 #[ap b, vagg v, .int .i64 i] w fun e w' => e = .returned (.tuple #[.agg #[.int .u8 0, .int .i64 0, .string ⟨#[]⟩], .int .i64 3]) ∧ Below w.heap.size w w' := by
  have HB := Lib.hid (((Below.refl _ w).alloc (Nat.le_refl _) (.cells #[.int .i64 (v.n : Int), .int .i64 (v.root : Int), .int .i64 (v.tail : Int)] 30)).alloc (by simp) (.cells #[.int .u8 0, .int .i64 0, .string ⟨#[]⟩] 38))
  rcases h with h | h
  · go_enter Try.func27, Try.ntmps27
    go_wp2_with fail
    refine bodyPost_ret (v := .tuple #[.agg #[.int .u8 0, .int .i64 0, .string ⟨#[]⟩], .int .i64 3]) (by simp [results, Try.results27, go_sem]) rfl ⟨rfl, ?_⟩
    exact HB.out
  · by_cases h0 : i < 0
    · exact absurd h (by omega)
    · go_enter Try.func27, Try.ntmps27
      go_wp2_with fail
      refine bodyPost_ret (v := .tuple #[.agg #[.int .u8 0, .int .i64 0, .string ⟨#[]⟩], .int .i64 3]) (by simp [results, Try.results27, go_sem]) rfl ⟨rfl, ?_⟩
      exact HB.out
set_option maxRecDepth 100000 in
set_option maxHeartbeats 1600000 in
theorem vGet (v : Vc) (l : Vs) (i : Nat) (x : Int × Int × ByteArray) (w : World) (h : Ar w b most M F) (hv : VecIs M v l) (hx : l[i]? = some x) : Calls Try.prog 27 #[ap b, vagg v, .int .i64 i] w fun e w' => e = .returned (.tuple #[xagg x, .int .i64 0]) ∧ Below w.heap.size w w' := by
  have HB := Lib.hid (((Below.refl _ w).alloc (Nat.le_refl _) (.cells #[.int .i64 (v.n : Int), .int .i64 (v.root : Int), .int .i64 (v.tail : Int)] 30)).alloc (by simp) (.cells #[.int .u8 0, .int .i64 0, .string ⟨#[]⟩] 38))
  have HA := Lib.hid ((h.alloc (.cells #[.int .i64 (v.n : Int), .int .i64 (v.root : Int), .int .i64 (v.tail : Int)] 30)).alloc (.cells #[.int .u8 0, .int .i64 0, .string ⟨#[]⟩] 38))
  have q3 := Lib.hid ((C3.new w 30 (.int .i64 (v.n : Int)) (.int .i64 (v.root : Int)) (.int .i64 (v.tail : Int))).alloc (.cells #[.int .u8 0, .int .i64 0, .string ⟨#[]⟩] 38))
  have q6 := C3.new (w.alloc (.cells #[.int .i64 (v.n : Int), .int .i64 (v.root : Int), .int .i64 (v.tail : Int)] 30)) 38 (.int .u8 0) (.int .i64 0) (.string ⟨#[]⟩)
  rw [show (w.alloc (.cells #[.int .i64 (v.n : Int), .int .i64 (v.root : Int), .int .i64 (v.tail : Int)] 30)).heap.size = w.heap.size + 1 by simp] at q6
  have Q6 := Lib.hid q6
  have hil : i < l.length := (List.getElem?_eq_some_iff.1 hx).1
  have hn0 : ¬ (i : Int) < 0 := by omega
  have hn1 : ¬ (v.n : Int) ≤ (i : Int) := by have := hv.n; omega
  have hle := hv.le
  have HV := Lib.hid hv
  have hch := chunk_at l i
  rw [hx] at hch
  have HCH := Lib.hid hch
  have hsl := Lib.hid (show ∀ W, Calls Try.prog 41 #[.int .i64 i] W fun e w' => e = .returned (.int .i64 ((i % 32 : Nat) : Int)) ∧ W = w' from fun W => vslot i W (by omega))
  clear h hv hx q6 hch
  go_enter Try.func27, Try.ntmps27
  go_wp2_with fail
  refine (vleaf v l i _ HA.out HV.out hil).mono ?_
  rintro e w2 ⟨xl, rfl, hlf, hb2⟩
  obtain ⟨c, r, hM, hcv, hck⟩ := hlf.leaf
  have HB2 := Lib.hid (HB.out.trans (hb2.mono HB.out.size))
  have HA2 := Lib.hid (HA.out.below hb2)
  have Q62 := Lib.hid (Q6.out.below hb2)
  have HM := Lib.hid hM
  have HCV := Lib.hid hcv
  clear hlf hb2 hM hcv hck HA HB q3 Q6 HV
  obtain ⟨zr, hzr⟩ : ∃ z, z = w.heap.size + 1 := ⟨_, rfl⟩
  rw [← hzr] at Q62 ⊢
  have HZR := Lib.hid (show w.heap.size ≤ zr by omega)
  clear hzr
  go_wp2_with fail
  refine (get xl c r b most M F _ HA2.out HM.out).mono ?_
  rintro e w3 ⟨vv, kk, rfl, o1, o2, hb3⟩
  obtain ⟨A2, m2, rfl, _⟩ := (Rd.of_own o2).form
  rw [HCV.out] at o1
  obtain ⟨f0, f1, f2⟩ := flat3_at HCH.out
  have hq1 : i % 32 < (chunk l (i / 32)).length := (List.getElem?_eq_some_iff.1 HCH.out).1
  have hq32 : i % 32 < 32 := Nat.mod_lt _ (by omega)
  have hcl : (chunk l (i / 32)).length ≤ 32 := by rw [chunk_length]; omega
  obtain ⟨gv, mv, rfl, _, _, _⟩ := own_at o1 f0
  have vr : ∀ (q : Nat) (u : Value), ((chunk l (i / 32)).flatMap cells3)[q]? = some u → w3.cell? ⟨gv, q, none⟩ = some u := fun q u hu => by
    have := o1.cells (g := gv) rfl q u hu
    rwa [add_none, Nat.zero_add] at this
  have v0 := vr _ _ f0
  have v1 := vr _ _ f1
  have v2 := vr _ _ f2
  have hgl : gv < w3.heap.size := World.block_lt_of_cell? w3 _ v0
  have HB3 := Lib.hid (HB2.out.trans (hb3.mono HB2.out.size))
  have Q63 := Lib.hid (Q62.out.below hb3)
  generalize (chunk l (i / 32)).length = nv at hq1 hcl ⊢
  generalize i % 32 = q at v0 v1 v2 hq1 hq32 hsl
  have hik1 : ¬ (nv : Int) ≤ (q : Int) := by omega
  have hik2 : (q : Int) < (nv : Int) := by omega
  have hik3 : (0 : Int) ≤ (q : Int) := by omega
  have q5 := C5.new w3 59 (.int .u32 c.owner) (.int .u32 c.a) (.int .u32 c.b) (.slice (some ⟨gv, 0, none⟩) nv mv) (.slice A2 c.kids.length m2)
  have hb4 : Below w3.heap.size w3 (w3.alloc (.cells #[.int .u32 c.owner, .int .u32 c.a, .int .u32 c.b, .slice (some ⟨gv, 0, none⟩) nv mv, .slice A2 c.kids.length m2] 59)) := (Below.refl _ w3).alloc (Nat.le_refl _) _
  have V0 := Lib.hid ((hb4.cell (p := ⟨gv, q * 3, none⟩) hgl).trans v0)
  have V1 := Lib.hid ((hb4.cell (p := ⟨gv, q * 3 + 1, none⟩) hgl).trans v1)
  have V2 := Lib.hid ((hb4.cell (p := ⟨gv, q * 3 + 2, none⟩) hgl).trans v2)
  have HB4 := Lib.hid (HB3.out.trans (hb4.mono HB3.out.size))
  have Q64 := Lib.hid (Q63.out.below hb4)
  clear vr v0 v1 v2 f0 f1 f2 o1 o2 hb3 hb4 hgl HB3 Q63 HA2 HM HCV HCH HB2 Q62
  go_wp2_with fail
  generalize w3.alloc (.cells #[.int .u32 c.owner, .int .u32 c.a, .int .u32 c.b, .slice (some ⟨gv, 0, none⟩) nv mv, .slice A2 c.kids.length m2] 59) = w4 at q5 V0 V1 V2 HB4 Q64 ⊢
  generalize w3.heap.size = z3 at q5 ⊢
  have c3 := q5.c3
  clear q5
  go_quiet ((go_at_call 41; exact quiet_same (hsl.out _)))
  have c3' : (w4.drewN nq).cell? ⟨z3, 3, none⟩ = some (.slice (some ⟨gv, 0, none⟩) nv mv) := c3
  have v0 : (w4.drewN nq).cell? ⟨gv, q * 3, none⟩ = some (.int .u8 x.1) := V0.out
  have v1 : (w4.drewN nq).cell? ⟨gv, q * 3 + 1, none⟩ = some (.int .i64 x.2.1) := V1.out
  have v2 : (w4.drewN nq).cell? ⟨gv, q * 3 + 2, none⟩ = some (.string x.2.2) := V2.out
  have Q65 := Q64.out.below (below_drewN w4 nq)
  have HB5 := Lib.hid (HB4.out.trans ((below_drewN w4 nq).mono HB4.out.size))
  generalize w4.drewN nq = w5 at c3' v0 v1 v2 Q65 HB5 ⊢
  obtain ⟨r0, r1, r2, g0, g1, g2⟩ := Q65.all
  clear c3 V0 V1 V2 HB4 Q64 Q65
  go_wp2_with fail
  go_region_with (go_at_call 41; refine (hsl.out _).mono ?_; rintro e w' ⟨rfl, rfl⟩)
  all_goals
    go_wp2_with fail
    go_simp
    refine bodyPost_ret (v := .tuple #[xagg x, .int .i64 0]) (by simp [results, Try.results27, go_sem, r0, r1, r2]) rfl ⟨rfl, ?_⟩
    exact (((HB5.out.setCell (p := ⟨zr, 0, none⟩) HZR.out _).setCell (p := ⟨zr, 1, none⟩) HZR.out _).setCell (p := ⟨zr, 2, none⟩) HZR.out _).drew
end

end Go.Proofs.Ytgkhbnkbhcginaa
