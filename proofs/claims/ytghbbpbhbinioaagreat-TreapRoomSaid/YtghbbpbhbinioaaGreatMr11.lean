/- Several texts in one. -/
import Derived.Test.YtghbbpbhbinioaaGreatMr09
import Derived.Deep.RegionHeld
import Derived.Test.YtghbbpbhbinioaaGreatMr10
set_option linter.unusedSimpArgs false
namespace Go.Proofs.YtghbbpbhbinioaaGreat
set_option maxRecDepth 100000
open Go.RowKit
def BC (w : World) (z t : Nat) (cs : Array Value) : Prop := w.heap[z]? = some (.cells cs t (0, 0))
section
variable {w w' : World} {z t : Nat} {cs : Array Value}
theorem BC.at {i : Nat} {u : Value} (h : BC w z t cs) (hi : cs[i]? = some u) : w.cell? ⟨z, i, none⟩ = some u := by
  have := cell_of_row w z i _ _ (0, 0) h
  rw [this]
  exact hi
theorem BC.lt (h : BC w z t cs) : z < w.heap.size := (Array.getElem?_eq_some_iff.1 h).1
theorem BC.below (h : BC w z t cs) (hb : Below w.heap.size w w') : BC w' z t cs := (hb.block z h.lt).trans h
theorem BC.kp {F : Nat → Prop} (h : BC w z t cs) (hk : Kp F w w') (hF : ¬ F z) : BC w' z t cs := hk.at h hF
theorem BC.new (w : World) (t : Nat) (cs : Array Value) : BC (w.alloc (.cells cs t)) w.heap.size t cs := heap_alloc_new w _
theorem BC.alloc (h : BC w z t cs) (o : Obj) : BC (w.alloc o) z t cs := (Below.heap_alloc w o z h.lt).trans h
theorem BC.drew (h : BC w z t cs) : BC w.drew z t cs := h
theorem BC.fz (h : BC w z t cs) (i : Nat) : w.frozen? ⟨z, i, none⟩ = false := frozen_of_row w z i _ _ h
theorem BC.set (h : BC w z t cs) (i : Nat) (y : Value) : BC (w.setCell ⟨z, i, none⟩ y) z t (cs.setIfInBounds i y) := by
  have := heap_setCell_same w z i _ _ y h
  simpa [BC] using this
theorem BC.other (h : BC w z t cs) {g o : Nat} (hg : z ≠ g) (y : Value) : BC (w.setCell ⟨g, o, none⟩ y) z t cs := (Below.heap_setCell w ⟨g, o, none⟩ y z hg).trans h
end
end Go.Proofs.YtghbbpbhbinioaaGreat

/- Shorter words for the steps of a region that draws its order. -/
namespace Go.Proofs.YtghbbpbhbinioaaGreat
open Go
section
variable {P : Program} {ops : Array Oper} {Q : Exit → Act → World → Prop} {S : World → Prop}
theorem tkH (v : Value) (i : Nat) {oi : Oper} {fuel : Nat} {listed : Array Bool} {a : Act} {w : World} (hS : S w) (hy : ∀ w, S w → (execOp a.eval oi).run P w = .ok (.value v) w)
    (h : wpAnyH P .any ops Q S fuel (listed.setIfInBounds i true) (a.put oi.dst v) w) (hi : ops[i]? = some oi := by rfl) (hs : Region.noSelect ops = true := by kernel_rfl) (hf : Region.free .any ops listed i = true := by kernel_rfl) (hr : (Region.ready .any ops listed).contains i = true := by kernel_rfl)
    (hQ : ∀ c a w, Q (.panic c) (a.put oi.dst v) w → Q (.panic c) a w := by exact fun _ _ _ h => h) (hw : Region.wanted oi (yielded ops a.tmps) = true := by rfl) : wpAnyH P .any ops Q S (fuel + 1) listed a w :=
  wpAnyH_take hi hs hf hr hQ (.inl ⟨hw, hy⟩) hS h
theorem rdH (i : Nat) {oi : Oper} {fuel : Nat} {listed : Array Bool} {a : Act} {w : World} (ho : ops[i]? = some oi)
    (h : ∀ K' : Act → World → Prop, Shut (∀ a w, S w → (S w → wpAnyH P .any ops Q S fuel (listed.setIfInBounds i true) a w) → K' a w) → if Region.wanted oi (yielded ops a.tmps) = true then Oper.wp P oi a w K' Q else K' (a.put oi.dst undef) w)
    (hr : Region.ready .any ops listed = [i] := by kernel_rfl) : wpAnyH P .any ops Q S (fuel + 1) listed a w :=
  wpAnyH_ready hr (by simp) (AllReadyH.cons ho h AllReadyH.nil)
theorem tkr : (∀ (a : Act) (d : Nat) (v : Value), a.put (some d) v = { a with tmps := a.tmps.setIfInBounds d v }) ∧ (∀ (a : Act) (v : Value), a.put none v = a) ∧ (∀ (α : Type) (l : List α) (i : Nat) (x : α), l.toArray.setIfInBounds i x = (l.set i x).toArray) ∧ (∀ (α : Type) (x a : α) (l : List α), (x :: l).set 0 a = a :: l) ∧ (∀ (α : Type) (x a : α) (l : List α) (n : Nat), (x :: l).set (n + 1) a = x :: l.set n a) ∧
    (∀ (α : Type) (l : List α) (i : Nat) (h : i < l.toArray.size), l.toArray[i] = l[i]'(by simpa using h)) ∧ (∀ (α : Type) (x : α) (l : List α) (h : 0 < (x :: l).length), (x :: l)[0] = x) ∧ (∀ (α : Type) (x : α) (l : List α) (i : Nat) (h : i + 1 < (x :: l).length), (x :: l)[i + 1] = l[i]'(Nat.lt_of_succ_lt_succ h)) :=
  ⟨fun _ _ _ => rfl, fun _ _ => rfl, fun _ _ _ _ => List.setIfInBounds_toArray .., fun _ _ _ _ => rfl, fun _ _ _ _ _ => rfl, fun _ _ _ _ => rfl, fun _ _ _ _ => rfl, fun _ _ _ _ _ => rfl⟩
end
end Go.Proofs.YtghbbpbhbinioaaGreat

namespace Go.Proofs.YtghbbpbhbinioaaGreat
set_option maxRecDepth 100000
set_option linter.unusedSimpArgs false
set_option linter.unusedVariables false
open Go.RowKit
abbrev ncells (n : Nv) : Array Value := #[.int .u8 n.key.1, .int .i64 n.key.2.1, .string n.key.2.2, .int .u8 n.val.1, .int .i64 n.val.2.1, .string n.val.2.2, .int .i64 (n.cell : Nat), .pointer n.low, .pointer n.high, .int .i64 (n.shared : Nat), .int .u64 n.rank, .int .i64 (n.kx : Nat), .int .i64 (n.ky : Nat), .int .i64 (n.fresh : Nat)]
abbrev nagg (n : Nv) : Value := .agg (ncells n)
abbrev pcell4 (c : Nat) (lo hi : Option Addr) (s : Nat) : Array Value := #[.int .i64 (c : Nat), .pointer lo, .pointer hi, .int .i64 (s : Nat)]
abbrev plagg (c : Nat) (lo hi : Option Addr) (s : Nat) : Value := .agg (pcell4 c lo hi s)
theorem BC.node {W : World} {z : Nat} {n : Nv} (h : BC W z 144 (ncells n)) : W.cell? ⟨z, 0, none⟩ = some (.int .u8 n.key.1) ∧ W.cell? ⟨z, 1, none⟩ = some (.int .i64 n.key.2.1) ∧ W.cell? ⟨z, 2, none⟩ = some (.string n.key.2.2) ∧ W.cell? ⟨z, 3, none⟩ = some (.int .u8 n.val.1) ∧ W.cell? ⟨z, 4, none⟩ = some (.int .i64 n.val.2.1) ∧ W.cell? ⟨z, 5, none⟩ = some (.string n.val.2.2) ∧ W.cell? ⟨z, 6, none⟩ = some (.int .i64 (n.cell : Nat)) ∧ W.cell? ⟨z, 7, none⟩ = some (.pointer n.low) ∧ W.cell? ⟨z, 8, none⟩ = some (.pointer n.high) ∧ W.cell? ⟨z, 9, none⟩ = some (.int .i64 (n.shared : Nat)) ∧ W.cell? ⟨z, 10, none⟩ = some (.int .u64 n.rank) ∧ W.cell? ⟨z, 11, none⟩ = some (.int .i64 (n.kx : Nat)) ∧ W.cell? ⟨z, 12, none⟩ = some (.int .i64 (n.ky : Nat)) ∧ W.cell? ⟨z, 13, none⟩ = some (.int .i64 (n.fresh : Nat)) :=
  ⟨h.at rfl, h.at rfl, h.at rfl, h.at rfl, h.at rfl, h.at rfl, h.at rfl, h.at rfl, h.at rfl, h.at rfl, h.at rfl, h.at rfl, h.at rfl, h.at rfl⟩
theorem BC.place {W : World} {z c s : Nat} {lo hi : Option Addr} (h : BC W z 141 (pcell4 c lo hi s)) : W.cell? ⟨z, 0, none⟩ = some (.int .i64 (c : Nat)) ∧ W.cell? ⟨z, 1, none⟩ = some (.pointer lo) ∧ W.cell? ⟨z, 2, none⟩ = some (.pointer hi) ∧ W.cell? ⟨z, 3, none⟩ = some (.int .i64 (s : Nat)) :=
  ⟨h.at rfl, h.at rfl, h.at rfl, h.at rfl⟩
abbrev setN (W : World) (z : Nat) (n : Nv) : World := (((((((((((((W.setCell ⟨z, 0, none⟩ (.int .u8 n.key.1)).setCell ⟨z, 1, none⟩ (.int .i64 n.key.2.1)).setCell ⟨z, 2, none⟩ (.string n.key.2.2)).setCell ⟨z, 3, none⟩ (.int .u8 n.val.1)).setCell ⟨z, 4, none⟩ (.int .i64 n.val.2.1)).setCell ⟨z, 5, none⟩ (.string n.val.2.2)).setCell ⟨z, 6, none⟩ (.int .i64 (n.cell : Nat))).setCell ⟨z, 7, none⟩ (.pointer n.low)).setCell ⟨z, 8, none⟩ (.pointer n.high)).setCell ⟨z, 9, none⟩ (.int .i64 (n.shared : Nat))).setCell ⟨z, 10, none⟩ (.int .u64 n.rank)).setCell ⟨z, 11, none⟩ (.int .i64 (n.kx : Nat))).setCell ⟨z, 12, none⟩ (.int .i64 (n.ky : Nat))).setCell ⟨z, 13, none⟩ (.int .i64 (n.fresh : Nat))
theorem BC.setN {W : World} {z : Nat} {n0 : Nv} (h : BC W z 144 (ncells n0)) (n : Nv) : BC (setN W z n) z 144 (ncells n) := by
  have := (((((((((((((h.set 0 (.int .u8 n.key.1)).set 1 (.int .i64 n.key.2.1)).set 2 (.string n.key.2.2)).set 3 (.int .u8 n.val.1)).set 4 (.int .i64 n.val.2.1)).set 5 (.string n.val.2.2)).set 6 (.int .i64 (n.cell : Nat))).set 7 (.pointer n.low)).set 8 (.pointer n.high)).set 9 (.int .i64 (n.shared : Nat))).set 10 (.int .u64 n.rank)).set 11 (.int .i64 (n.kx : Nat))).set 12 (.int .i64 (n.ky : Nat))).set 13 (.int .i64 (n.fresh : Nat))
  simp only [List.setIfInBounds_toArray, List.set_cons_zero, List.set_cons_succ] at this
  exact this
theorem kp_setN (W : World) (z : Nat) (n : Nv) : Kp (fun q => q = z) W (setN W z n) := ((((((((((((((Kp.refl (fun q => q = z) W).setCell (.inl rfl) _).setCell (.inl rfl) _).setCell (.inl rfl) _).setCell (.inl rfl) _).setCell (.inl rfl) _).setCell (.inl rfl) _).setCell (.inl rfl) _).setCell (.inl rfl) _).setCell (.inl rfl) _).setCell (.inl rfl) _).setCell (.inl rfl) _).setCell (.inl rfl) _).setCell (.inl rfl) _).setCell (.inl rfl) _
theorem below_setN {w W : World} {k z : Nat} (h : Below k w W) (hz : k ≤ z) (n : Nv) : Below k w (Proofs.YtghbbpbhbinioaaGreat.setN W z n) := (((((((((((((h.setCell hz _).setCell hz _).setCell hz _).setCell hz _).setCell hz _).setCell hz _).setCell hz _).setCell hz _).setCell hz _).setCell hz _).setCell hz _).setCell hz _).setCell hz _).setCell hz _
theorem BC.fz14 {W : World} {z : Nat} {n : Nv} (h : BC W z 144 (ncells n)) : W.frozen? ⟨z, 0, none⟩ = false ∧ W.frozen? ⟨z, 1, none⟩ = false ∧ W.frozen? ⟨z, 2, none⟩ = false ∧ W.frozen? ⟨z, 3, none⟩ = false ∧ W.frozen? ⟨z, 4, none⟩ = false ∧ W.frozen? ⟨z, 5, none⟩ = false ∧ W.frozen? ⟨z, 6, none⟩ = false ∧ W.frozen? ⟨z, 7, none⟩ = false ∧ W.frozen? ⟨z, 8, none⟩ = false ∧ W.frozen? ⟨z, 9, none⟩ = false ∧ W.frozen? ⟨z, 10, none⟩ = false ∧ W.frozen? ⟨z, 11, none⟩ = false ∧ W.frozen? ⟨z, 12, none⟩ = false ∧ W.frozen? ⟨z, 13, none⟩ = false := ⟨h.fz 0, h.fz 1, h.fz 2, h.fz 3, h.fz 4, h.fz 5, h.fz 6, h.fz 7, h.fz 8, h.fz 9, h.fz 10, h.fz 11, h.fz 12, h.fz 13⟩
def sideN (n : Nv) (k : Ky) : Nat := if vc k n.key < 0 then 0 else 1
section
set_option maxHeartbeats 1600000 in
theorem nside (n : Nv) (k : Ky) (w : World) : Calls Tryz.prog 79 #[nagg n, xagg k] w fun e w' => e = .returned (.int .i64 (sideN n k : Nat)) ∧ Below w.heap.size w w' := by
  have hb : Below w.heap.size w ((w.alloc (.cells (ncells n) 144)).alloc (.cells #[.int .u8 k.1, .int .i64 k.2.1, .string k.2.2] 36)) := ((Below.refl _ w).alloc (Nat.le_refl _) _).alloc (by simp) _
  have q0 := (BC.new w 144 (ncells n)).alloc (.cells #[.int .u8 k.1, .int .i64 k.2.1, .string k.2.2] 36)
  have q1 := C3.new (w.alloc (.cells (ncells n) 144)) 36 (.int .u8 k.1) (.int .i64 k.2.1) (.string k.2.2)
  have e1 : (w.alloc (.cells (ncells n) 144)).heap.size = w.heap.size + 1 := by simp
  rw [e1] at q1
  have HB := Lib.hid hb
  clear hb e1
  go_enter Tryz.func79, Tryz.ntmps79
  go_upto_region 1 with fail
  generalize World.alloc (w.alloc _) _ = W1 at q0 q1 HB ⊢
  have x0 := q0.at (i := 0) rfl
  have x1 := q0.at (i := 1) rfl
  have x2 := q0.at (i := 2) rfl
  obtain ⟨y0, y1, y2, _⟩ := q1.all
  by_cases hv : vcmp k.1 k.2.1 k.2.2 n.key.1 n.key.2.1 n.key.2.2 < 0
  · go_wp2_with fail
    refine (compare _ _ _ _ _ _ _).mono ?_
    rintro e w2 ⟨rfl, hg⟩
    have B2 := Lib.hid (HB.out.trans (hg.below.mono HB.out.size))
    clear hg q0 q1 x0 x1 x2 y0 y1 y2
    go_wp2_with fail
    go_ret
    exact ⟨ret_int (by unfold sideN vc; rw [if_pos hv]; rfl), B2.out⟩
  · go_wp2_with fail
    refine (compare _ _ _ _ _ _ _).mono ?_
    rintro e w2 ⟨rfl, hg⟩
    have B2 := Lib.hid (HB.out.trans (hg.below.mono HB.out.size))
    clear hg q0 q1 x0 x1 x2 y0 y1 y2
    go_wp2_with fail
    go_ret
    exact ⟨ret_int (by unfold sideN vc; rw [if_neg (by omega)]; rfl), B2.out⟩
def Lim (W : World) (v : Option Addr) (P : Ky → Prop) : Prop := v = none ∨ ∃ g k, v = some ⟨g, 0, none⟩ ∧ C3 W g 36 (.int .u8 k.1) (.int .i64 k.2.1) (.string k.2.2) ∧ P k
theorem Lim.below {W W' : World} {v : Option Addr} {P : Ky → Prop} (h : Lim W v P) (hb : Below W.heap.size W W') : Lim W' v P := by
  rcases h with h | ⟨g, k, e, c, p⟩
  · exact .inl h
  · exact .inr ⟨g, k, e, c.below hb, p⟩
theorem Lim.mono {W : World} {v : Option Addr} {P Q : Ky → Prop} (h : Lim W v P) (hq : ∀ k, P k → Q k) : Lim W v Q := by
  rcases h with h | ⟨g, k, e, c, p⟩
  · exact .inl h
  · exact .inr ⟨g, k, e, c, hq k p⟩
theorem compareB (a d : Ky) (w : World) : Calls Tryz.prog 128 #[xagg a, xagg d] w fun e w' => e = .returned (.int .i64 (vcmp a.1 a.2.1 a.2.2 d.1 d.2.1 d.2.2)) ∧ Below w.heap.size w w' :=
  (compare _ _ _ _ _ _ w).mono (fun _ _ ⟨h1, h2⟩ => ⟨h1, h2.below⟩)
theorem admE (W : World) (a : Addr) : Sem.run Tryz.prog (binOp .eql 138 (.pointer (some a)) (.pointer none)) W = .ok (.bool false) W := by kernel_rfl
set_option maxHeartbeats 8000000 in
theorem nadmits (c s : Nat) (lo hi : Option Addr) (k : Ky) (w : World) (hl : Lim w lo (fun a => vc a k = -1)) (hh : Lim w hi (fun a => vc k a = -1)) :
    Calls Tryz.prog 127 #[plagg c lo hi s, xagg k] w fun e w' => e = .returned (.bool true) ∧ Below w.heap.size w w' := by
  have hb : Below w.heap.size w ((w.alloc (.cells (pcell4 c lo hi s) 141)).alloc (.cells #[.int .u8 k.1, .int .i64 k.2.1, .string k.2.2] 36)) := ((Below.refl _ w).alloc (Nat.le_refl _) _).alloc (by simp) _
  have q0 := (BC.new w 141 (pcell4 c lo hi s)).alloc (.cells #[.int .u8 k.1, .int .i64 k.2.1, .string k.2.2] 36)
  have q1 := C3.new (w.alloc (.cells (pcell4 c lo hi s) 141)) 36 (.int .u8 k.1) (.int .i64 k.2.1) (.string k.2.2)
  have e1 : (w.alloc (.cells (pcell4 c lo hi s) 141)).heap.size = w.heap.size + 1 := by simp
  rw [e1] at q1
  replace hl := hl.below hb
  replace hh := hh.below hb
  have HB := Lib.hid hb
  clear hb e1
  go_enter Tryz.func127, Tryz.ntmps127
  go_upto_region 1 with fail
  generalize World.alloc (w.alloc _) _ = W1 at q0 q1 HB hl hh ⊢
  have x1 := q0.place.2.1
  have x2 := q0.place.2.2.1
  go_quiet (fail)
  have h2 := below_drewN W1 nq
  have HB2 := Lib.hid (HB.out.trans (h2.mono HB.out.size))
  replace q1 := q1.below h2
  replace hl := hl.below h2
  replace hh := hh.below h2
  clear q0 x1 x2 h2 HB
  generalize W1.drewN nq = W2 at q1 hl hh HB2 ⊢
  go_wp2_with fail
  obtain ⟨y0, y1, y2, _⟩ := q1.all
  have hz := q1.lt
  have k0 := Gb.cell y0 hz
  have k1 := Gb.cell y1 hz
  have k2 := Gb.cell y2 hz
  clear q1 y0 y1 y2 hz
  have lit : ∀ {x : Int}, x = -1 → x < 0 := fun h => by omega
  rcases hl with rfl | ⟨gl, a, rfl, ca, ha⟩ <;> rcases hh with rfl | ⟨gr, d, rfl, cd, hd⟩
  · refine region_below (by kernel_rfl) (by kernel_rfl) ?_
    repeat (go_big_quiet_step (fail))
    refine wpQuiet_nil ?_
    rintro _ ⟨g9, rfl⟩
    have HB6 := Lib.hid (HB2.out.trans (g9.below.mono HB2.out.size))
    generalize g9.at' = w6 at HB6 ⊢
    go_wp2_with fail
    go_ret
    exact ⟨rfl, HB6.out⟩
  · obtain ⟨b0, b1, b2, _⟩ := cd.all
    have v0 := Gb.cell b0 cd.lt
    have v1 := Gb.cell b1 cd.lt
    have v2 := Gb.cell b2 cd.lt
    have e1 := fun W => admE W ⟨gr, 0, none⟩
    have HD := Lib.hid (lit hd)
    clear b0 b1 b2 cd hd
    refine region_below (by kernel_rfl) (by kernel_rfl) ?_
    have hd := HD.out
    unfold vc at hd
    repeat (go_big_quiet_step ((go_at_call 128; exact Gb.calls _ (compareB _ _ _))))
    refine wpQuiet_nil ?_
    rintro _ ⟨g9, rfl⟩
    have HB6 := Lib.hid (HB2.out.trans (g9.below.mono HB2.out.size))
    generalize g9.at' = w6 at HB6 ⊢
    go_wp2_with fail
    go_ret
    exact ⟨rfl, HB6.out⟩
  · obtain ⟨a0, a1, a2, _⟩ := ca.all
    have u0 := Gb.cell a0 ca.lt
    have u1 := Gb.cell a1 ca.lt
    have u2 := Gb.cell a2 ca.lt
    have e2 := fun W => admE W ⟨gl, 0, none⟩
    have HA := Lib.hid (lit ha)
    clear a0 a1 a2 ca ha
    refine region_below (by kernel_rfl) (by kernel_rfl) ?_
    have ha := HA.out
    unfold vc at ha
    repeat (go_big_quiet_step ((go_at_call 128; exact Gb.calls _ (compareB _ _ _))))
    refine wpQuiet_nil ?_
    rintro _ ⟨g9, rfl⟩
    have HB6 := Lib.hid (HB2.out.trans (g9.below.mono HB2.out.size))
    generalize g9.at' = w6 at HB6 ⊢
    go_wp2_with fail
    go_ret
    exact ⟨rfl, HB6.out⟩
  · obtain ⟨a0, a1, a2, _⟩ := ca.all
    have u0 := Gb.cell a0 ca.lt
    have u1 := Gb.cell a1 ca.lt
    have u2 := Gb.cell a2 ca.lt
    have e2 := fun W => admE W ⟨gl, 0, none⟩
    have HA := Lib.hid (lit ha)
    clear a0 a1 a2 ca ha
    obtain ⟨b0, b1, b2, _⟩ := cd.all
    have v0 := Gb.cell b0 cd.lt
    have v1 := Gb.cell b1 cd.lt
    have v2 := Gb.cell b2 cd.lt
    have e1 := fun W => admE W ⟨gr, 0, none⟩
    have HD := Lib.hid (lit hd)
    clear b0 b1 b2 cd hd
    refine region_below (by kernel_rfl) (by kernel_rfl) ?_
    have ha := HA.out
    unfold vc at ha
    have hd := HD.out
    unfold vc at hd
    repeat (go_big_quiet_step ((go_at_call 128; exact Gb.calls _ (compareB _ _ _))))
    refine wpQuiet_nil ?_
    rintro _ ⟨g9, rfl⟩
    have HB6 := Lib.hid (HB2.out.trans (g9.below.mono HB2.out.size))
    generalize g9.at' = w6 at HB6 ⊢
    go_wp2_with fail
    go_ret
    exact ⟨rfl, HB6.out⟩
set_option maxHeartbeats 8000000 in
theorem nbelow0 (n : Nv) (w : World) :
    Calls Tryz.prog 78 #[nagg n, .int .i64 0] w fun e w' => ∃ g, e = .returned (plagg n.kx n.low (some ⟨g, 0, none⟩) n.fresh) ∧ C3 w' g 36 (.int .u8 n.key.1) (.int .i64 n.key.2.1) (.string n.key.2.2) ∧ w.heap.size ≤ g ∧ Below w.heap.size w w' := by
  have hb : Below w.heap.size w ((w.alloc (.cells (ncells n) 144)).alloc (.cells #[.int .i64 0, .pointer none, .pointer none, .int .i64 0] 141)) := ((Below.refl _ w).alloc (Nat.le_refl _) _).alloc (by simp) _
  have q0 := (BC.new w 144 (ncells n)).alloc (.cells #[.int .i64 0, .pointer none, .pointer none, .int .i64 0] 141)
  have q1 := BC.new (w.alloc (.cells (ncells n) 144)) 141 #[.int .i64 0, .pointer none, .pointer none, .int .i64 0]
  have e1 : (w.alloc (.cells (ncells n) 144)).heap.size = w.heap.size + 1 := by simp
  rw [e1] at q1
  have HB := Lib.hid hb
  have HQ1 := Lib.hid q1
  have s1 : w.heap.size + 1 < ((w.alloc (.cells (ncells n) 144)).alloc (.cells #[.int .i64 0, .pointer none, .pointer none, .int .i64 0] 141)).heap.size := q1.lt
  clear hb e1 q1
  go_enter Tryz.func78, Tryz.ntmps78
  go_upto_region 1 with fail
  generalize World.alloc (w.alloc _) _ = W1 at q0 s1 HB HQ1 ⊢
  have HS := Lib.hid s1
  clear s1
  obtain ⟨z2, hz2⟩ : ∃ z, z = w.heap.size := ⟨_, rfl⟩
  obtain ⟨z4, hz4⟩ : ∃ z, z = w.heap.size + 1 := ⟨_, rfl⟩
  have HZ := Lib.hid (And.intro hz2 hz4)
  rw [← hz4] at HQ1
  rw [← hz2] at q0
  rw [← hz4] at HS
  rw [← hz4, ← hz2]
  clear hz2 hz4
  have x : ∀ W, BC W z2 144 (ncells n) → _ := fun W h => BC.node h
  have x0 := fun W h => (x W h).1
  have x1 := fun W h => (x W h).2.1
  have x2 := fun W h => (x W h).2.2.1
  have x7 := fun W h => (x W h).2.2.2.2.2.2.2.1
  have x8 := fun W h => (x W h).2.2.2.2.2.2.2.2.1
  have x11 := fun W h => (x W h).2.2.2.2.2.2.2.2.2.2.2.1
  have x12 := fun W h => (x W h).2.2.2.2.2.2.2.2.2.2.2.2.1
  have x13 := fun W h => (x W h).2.2.2.2.2.2.2.2.2.2.2.2.2
  clear x
  refine wp_region_noPanic ?_
  refine wp_region_held_drew (S := fun W => BC W z2 144 (ncells n)) (by kernel_rfl) q0.drew (fun hH => ?_)
  have b0 := HB.out
  generalize hWc : W1.drew = Wc at hH ⊢
  have bc := Lib.hid (show Below w.heap.size w Wc ∧ BC Wc z4 141 (pcell4 0 none none 0) ∧ z4 < Wc.heap.size from by
    rw [← hWc]
    exact ⟨b0.trans ((Below.refl _ W1).drew.mono b0.size), HQ1.out.drew, HS.out⟩)
  clear hWc b0 HB HS HQ1 q0
  refine tkH ?_ 0 hH ?_ ?_; rotate_left
  · intro W' hS; go_simp; with_reducible rfl
  simp only [tkr]
  refine tkH ?_ 1 hH ?_ ?_; rotate_left
  · intro W' hS; go_simp; with_reducible rfl
  simp only [tkr]
  refine tkH ?_ 2 hH ?_ ?_; rotate_left
  · intro W' hS; go_simp; with_reducible rfl
  simp only [tkr]
  refine tkH ?_ 3 hH ?_ ?_; rotate_left
  · intro W' hS; go_simp; with_reducible rfl
  simp only [tkr]
  refine tkH ?_ 4 hH ?_ ?_; rotate_left
  · intro W' hS; go_simp; with_reducible rfl
  simp only [tkr]
  refine tkH ?_ 5 hH ?_ ?_; rotate_left
  · intro W' hS; go_simp; with_reducible rfl
  simp only [tkr]
  refine tkH ?_ 6 hH ?_ ?_; rotate_left
  · intro W' hS; go_simp; with_reducible rfl
  simp only [tkr]
  refine tkH ?_ 7 hH ?_ ?_; rotate_left
  · intro W' hS; go_simp; with_reducible rfl
  simp only [tkr]
  refine tkH ?_ 8 hH ?_ ?_; rotate_left
  · intro W' hS; go_simp; with_reducible rfl
  simp only [tkr]
  refine tkH ?_ 9 hH ?_ ?_; rotate_left
  · intro W' hS; go_simp; with_reducible rfl
  simp only [tkr]
  refine rdH 10 rfl (fun K hK => ?_)
  go_simp
  have q5 := BC.new Wc 141 #[.int .i64 0, .pointer none, .pointer none, .int .i64 0]
  have hb5 : Below Wc.heap.size Wc (Wc.alloc (.cells #[.int .i64 0, .pointer none, .pointer none, .int .i64 0] 141)) := (Below.refl _ Wc).alloc (Nat.le_refl _) _
  have b5 := Lib.hid (show Below w.heap.size w (Wc.alloc (.cells #[.int .i64 0, .pointer none, .pointer none, .int .i64 0] 141)) ∧ BC (Wc.alloc (.cells #[.int .i64 0, .pointer none, .pointer none, .int .i64 0] 141)) z4 141 #[.int .i64 0, .pointer none, .pointer none, .int .i64 0] ∧ z4 < Wc.heap.size ∧ w.heap.size ≤ Wc.heap.size from ⟨bc.out.1.trans (hb5.mono bc.out.1.size), bc.out.2.1.alloc _, bc.out.2.2, bc.out.1.size⟩)
  have hH2 := hH.below hb5
  refine hK.out _ _ hH2 (fun hH => ?_)
  clear hK K hb5 hH2 bc
  generalize World.alloc _ _ = Wn at q5 b5 hH ⊢
  generalize Wc.heap.size = z5 at q5 b5 ⊢
  rename World => Wc
  refine rdH 11 rfl (fun K hK => ?_)
  have c0 : Wc.cell? ⟨z5, 0, none⟩ = some (.int .i64 0) := q5.at rfl
  have c1 : Wc.cell? ⟨z5, 1, none⟩ = some (.pointer none) := q5.at rfl
  have c2 : Wc.cell? ⟨z5, 2, none⟩ = some (.pointer none) := q5.at rfl
  have c3 : Wc.cell? ⟨z5, 3, none⟩ = some (.int .i64 0) := q5.at rfl
  have f0 := q5.fz 0
  have f1 := q5.fz 1
  have f2 := q5.fz 2
  have f3 := q5.fz 3
  go_simp
  clear c0 c1 c2 c3 f0 f1 f2 f3
  have q6 : BC ((((Wc.setCell ⟨z5, 0, none⟩ (.int .i64 (n.kx : Nat))).setCell ⟨z5, 1, none⟩ (.pointer n.low)).setCell ⟨z5, 2, none⟩ (.pointer n.high)).setCell ⟨z5, 3, none⟩ (.int .i64 (n.fresh : Nat))) z5 141 (pcell4 n.kx n.low n.high n.fresh) := (((q5.set 0 _).set 1 _).set 2 _).set 3 _
  have kz : Kp (fun q => q = z5) Wc ((((Wc.setCell ⟨z5, 0, none⟩ (.int .i64 (n.kx : Nat))).setCell ⟨z5, 1, none⟩ (.pointer n.low)).setCell ⟨z5, 2, none⟩ (.pointer n.high)).setCell ⟨z5, 3, none⟩ (.int .i64 (n.fresh : Nat))) := ((((Kp.refl (fun q => q = z5) Wc).setCell (.inl rfl) _).setCell (.inl rfl) _).setCell (.inl rfl) _).setCell (.inl rfl) _
  have hz5 := b5.out.2.2.2
  have b6 := Lib.hid (show Below w.heap.size w ((((Wc.setCell ⟨z5, 0, none⟩ (.int .i64 (n.kx : Nat))).setCell ⟨z5, 1, none⟩ (.pointer n.low)).setCell ⟨z5, 2, none⟩ (.pointer n.high)).setCell ⟨z5, 3, none⟩ (.int .i64 (n.fresh : Nat))) ∧ BC ((((Wc.setCell ⟨z5, 0, none⟩ (.int .i64 (n.kx : Nat))).setCell ⟨z5, 1, none⟩ (.pointer n.low)).setCell ⟨z5, 2, none⟩ (.pointer n.high)).setCell ⟨z5, 3, none⟩ (.int .i64 (n.fresh : Nat))) z4 141 #[.int .i64 0, .pointer none, .pointer none, .int .i64 0] from ⟨(((b5.out.1.setCell hz5 _).setCell hz5 _).setCell hz5 _).setCell hz5 _, b5.out.2.1.kp kz (by have := b5.out.2.2.1; omega)⟩)
  have hH2 := hH.kp kz (by have := b5.out.2.2.1; have := HZ.out; omega)
  have hz := b5.out.2.2.1
  refine hK.out _ _ hH2 (fun hH => ?_)
  clear hK K kz hH2 q5
  generalize World.setCell _ _ _ = Wn at q6 b6 hH ⊢
  rename World => Wc
  refine wpAnyH_done (by kernel_rfl) ?_ _
  refine NoPanic.normal ?_
  clear x0 x1 x2 x7 x8 x11 x12 x13
  obtain ⟨y0, y1, y2, _⟩ := hH.node
  go_upto_region 3 with fail
  have r6 := C3.new Wc 36 (.int .u8 n.key.1) (.int .i64 n.key.2.1) (.string n.key.2.2)
  have q7 := q6.alloc (.cells #[.int .u8 n.key.1, .int .i64 n.key.2.1, .string n.key.2.2] 36)
  have b7 := Lib.hid (show Below w.heap.size w (Wc.alloc (.cells #[.int .u8 n.key.1, .int .i64 n.key.2.1, .string n.key.2.2] 36)) ∧ BC (Wc.alloc (.cells #[.int .u8 n.key.1, .int .i64 n.key.2.1, .string n.key.2.2] 36)) z4 141 (pcell4 0 none none 0) ∧ z5 < Wc.heap.size ∧ w.heap.size ≤ Wc.heap.size ∧ z4 < z5 ∧ w.heap.size ≤ z4 from ⟨b6.out.1.alloc b6.out.1.size _, b6.out.2.alloc _, q6.lt, b6.out.1.size, hz, by have := HZ.out; omega⟩)
  clear b6 q6 y0 y1 y2 hH hz hz5 b5
  generalize Wc.alloc _ = W7 at r6 q7 b7 ⊢
  generalize Wc.heap.size = z6 at r6 b7 ⊢
  have c1 : W7.cell? ⟨z5, 2, none⟩ = some (.pointer n.high) := q7.place.2.2.1
  have f1 := q7.fz 2
  go_upto_region 4 with fail
  clear c1 f1
  have kz : Kp (fun q => q = z5) W7 (W7.setCell ⟨z5, 2, none⟩ (.pointer (some ⟨z6, 0, none⟩))) := (Kp.refl (fun q => q = z5) W7).setCell (.inl rfl) _
  have q8 : BC (W7.setCell ⟨z5, 2, none⟩ (.pointer (some ⟨z6, 0, none⟩))) z5 141 (pcell4 n.kx n.low (some ⟨z6, 0, none⟩) n.fresh) := q7.set 2 _
  have b8 := Lib.hid (show Below w.heap.size w (W7.setCell ⟨z5, 2, none⟩ (.pointer (some ⟨z6, 0, none⟩))) ∧ C3 (W7.setCell ⟨z5, 2, none⟩ (.pointer (some ⟨z6, 0, none⟩))) z6 36 (.int .u8 n.key.1) (.int .i64 n.key.2.1) (.string n.key.2.2) ∧ w.heap.size ≤ z6 ∧ w.heap.size ≤ z4 ∧ z4 < z6 from ⟨b7.out.1.setCell (show w.heap.size ≤ z5 by have := b7.out; omega) _, r6.kp kz (by have := b7.out; omega), b7.out.2.2.2.1, b7.out.2.2.2.2.2, by have := b7.out; omega⟩)
  have q4 := b7.out.2.1.kp kz (by have := b7.out; omega)
  clear kz q7 r6 b7
  generalize World.setCell _ _ _ = W8 at q8 b8 q4 ⊢
  obtain ⟨c0, c1, c2, c3⟩ := q8.place
  obtain ⟨d0, d1, d2, d3⟩ := q4.place
  have f0 := q4.fz 0
  have f1 := q4.fz 1
  have f2 := q4.fz 2
  have f3 := q4.fz 3
  have q5 := (((q4.set 0 (.int .i64 (n.kx : Nat))).set 1 (.pointer n.low)).set 2 (.pointer (some ⟨z6, 0, none⟩))).set 3 (.int .i64 (n.fresh : Nat))
  have q9 : BC ((((W8.setCell ⟨z4, 0, none⟩ (.int .i64 (n.kx : Nat))).setCell ⟨z4, 1, none⟩ (.pointer n.low)).setCell ⟨z4, 2, none⟩ (.pointer (some ⟨z6, 0, none⟩))).setCell ⟨z4, 3, none⟩ (.int .i64 (n.fresh : Nat))) z4 141 (pcell4 n.kx n.low (some ⟨z6, 0, none⟩) n.fresh) := q5
  clear q5
  have kz : Kp (fun q => q = z4) W8 ((((W8.setCell ⟨z4, 0, none⟩ (.int .i64 (n.kx : Nat))).setCell ⟨z4, 1, none⟩ (.pointer n.low)).setCell ⟨z4, 2, none⟩ (.pointer (some ⟨z6, 0, none⟩))).setCell ⟨z4, 3, none⟩ (.int .i64 (n.fresh : Nat))) := ((((Kp.refl (fun q => q = z4) W8).setCell (.inl rfl) _).setCell (.inl rfl) _).setCell (.inl rfl) _).setCell (.inl rfl) _
  have b9 := Lib.hid (show Below w.heap.size w ((((W8.setCell ⟨z4, 0, none⟩ (.int .i64 (n.kx : Nat))).setCell ⟨z4, 1, none⟩ (.pointer n.low)).setCell ⟨z4, 2, none⟩ (.pointer (some ⟨z6, 0, none⟩))).setCell ⟨z4, 3, none⟩ (.int .i64 (n.fresh : Nat))) ∧ C3 ((((W8.setCell ⟨z4, 0, none⟩ (.int .i64 (n.kx : Nat))).setCell ⟨z4, 1, none⟩ (.pointer n.low)).setCell ⟨z4, 2, none⟩ (.pointer (some ⟨z6, 0, none⟩))).setCell ⟨z4, 3, none⟩ (.int .i64 (n.fresh : Nat))) z6 36 (.int .u8 n.key.1) (.int .i64 n.key.2.1) (.string n.key.2.2) ∧ w.heap.size ≤ z6 from ⟨(((b8.out.1.setCell b8.out.2.2.2.1 _).setCell b8.out.2.2.2.1 _).setCell b8.out.2.2.2.1 _).setCell b8.out.2.2.2.1 _, b8.out.2.1.kp kz (by have := b8.out; omega), b8.out.2.2.1⟩)
  go_wp2_with fail
  clear c0 c1 c2 c3 d0 d1 d2 d3 f0 f1 f2 f3
  obtain ⟨d0, d1, d2, d3⟩ := q9.place
  exact bodyPost_ret (v := plagg n.kx n.low (some ⟨z6, 0, none⟩) n.fresh) (by simp [results, Tryz.results78, go_sem, d0, d1, d2, d3]) rfl ⟨z6, rfl, b9.out.2.1, b9.out.2.2, b9.out.1⟩
set_option maxHeartbeats 8000000 in
theorem nbelow1 (n : Nv) (w : World) :
    Calls Tryz.prog 78 #[nagg n, .int .i64 1] w fun e w' => ∃ g, e = .returned (plagg n.ky (some ⟨g, 0, none⟩) n.high n.fresh) ∧ C3 w' g 36 (.int .u8 n.key.1) (.int .i64 n.key.2.1) (.string n.key.2.2) ∧ w.heap.size ≤ g ∧ Below w.heap.size w w' := by
  have hb : Below w.heap.size w ((w.alloc (.cells (ncells n) 144)).alloc (.cells #[.int .i64 0, .pointer none, .pointer none, .int .i64 0] 141)) := ((Below.refl _ w).alloc (Nat.le_refl _) _).alloc (by simp) _
  have q0 := (BC.new w 144 (ncells n)).alloc (.cells #[.int .i64 0, .pointer none, .pointer none, .int .i64 0] 141)
  have q1 := BC.new (w.alloc (.cells (ncells n) 144)) 141 #[.int .i64 0, .pointer none, .pointer none, .int .i64 0]
  have e1 : (w.alloc (.cells (ncells n) 144)).heap.size = w.heap.size + 1 := by simp
  rw [e1] at q1
  have HB := Lib.hid hb
  have HQ1 := Lib.hid q1
  have s1 : w.heap.size + 1 < ((w.alloc (.cells (ncells n) 144)).alloc (.cells #[.int .i64 0, .pointer none, .pointer none, .int .i64 0] 141)).heap.size := q1.lt
  clear hb e1 q1
  go_enter Tryz.func78, Tryz.ntmps78
  go_upto_region 1 with fail
  generalize World.alloc (w.alloc _) _ = W1 at q0 s1 HB HQ1 ⊢
  have HS := Lib.hid s1
  clear s1
  obtain ⟨z2, hz2⟩ : ∃ z, z = w.heap.size := ⟨_, rfl⟩
  obtain ⟨z4, hz4⟩ : ∃ z, z = w.heap.size + 1 := ⟨_, rfl⟩
  have HZ := Lib.hid (And.intro hz2 hz4)
  rw [← hz4] at HQ1
  rw [← hz2] at q0
  rw [← hz4] at HS
  rw [← hz4, ← hz2]
  clear hz2 hz4
  have x : ∀ W, BC W z2 144 (ncells n) → _ := fun W h => BC.node h
  have x0 := fun W h => (x W h).1
  have x1 := fun W h => (x W h).2.1
  have x2 := fun W h => (x W h).2.2.1
  have x7 := fun W h => (x W h).2.2.2.2.2.2.2.1
  have x8 := fun W h => (x W h).2.2.2.2.2.2.2.2.1
  have x11 := fun W h => (x W h).2.2.2.2.2.2.2.2.2.2.2.1
  have x12 := fun W h => (x W h).2.2.2.2.2.2.2.2.2.2.2.2.1
  have x13 := fun W h => (x W h).2.2.2.2.2.2.2.2.2.2.2.2.2
  clear x
  refine wp_region_noPanic ?_
  refine wp_region_held_drew (S := fun W => BC W z2 144 (ncells n)) (by kernel_rfl) q0.drew (fun hH => ?_)
  have b0 := HB.out
  generalize hWc : W1.drew = Wc at hH ⊢
  have bc := Lib.hid (show Below w.heap.size w Wc ∧ BC Wc z4 141 (pcell4 0 none none 0) ∧ z4 < Wc.heap.size from by
    rw [← hWc]
    exact ⟨b0.trans ((Below.refl _ W1).drew.mono b0.size), HQ1.out.drew, HS.out⟩)
  clear hWc b0 HB HS HQ1 q0
  refine tkH ?_ 0 hH ?_ ?_; rotate_left
  · intro W' hS; go_simp; with_reducible rfl
  simp only [tkr]
  refine tkH ?_ 1 hH ?_ ?_; rotate_left
  · intro W' hS; go_simp; with_reducible rfl
  simp only [tkr]
  refine tkH ?_ 2 hH ?_ ?_; rotate_left
  · intro W' hS; go_simp; with_reducible rfl
  simp only [tkr]
  refine tkH ?_ 3 hH ?_ ?_; rotate_left
  · intro W' hS; go_simp; with_reducible rfl
  simp only [tkr]
  refine tkH ?_ 4 hH ?_ ?_; rotate_left
  · intro W' hS; go_simp; with_reducible rfl
  simp only [tkr]
  refine tkH ?_ 5 hH ?_ ?_; rotate_left
  · intro W' hS; go_simp; with_reducible rfl
  simp only [tkr]
  refine tkH ?_ 6 hH ?_ ?_; rotate_left
  · intro W' hS; go_simp; with_reducible rfl
  simp only [tkr]
  refine tkH ?_ 7 hH ?_ ?_; rotate_left
  · intro W' hS; go_simp; with_reducible rfl
  simp only [tkr]
  refine tkH ?_ 8 hH ?_ ?_; rotate_left
  · intro W' hS; go_simp; with_reducible rfl
  simp only [tkr]
  refine tkH ?_ 9 hH ?_ ?_; rotate_left
  · intro W' hS; go_simp; with_reducible rfl
  simp only [tkr]
  refine rdH 10 rfl (fun K hK => ?_)
  go_simp
  have q5 := BC.new Wc 141 #[.int .i64 0, .pointer none, .pointer none, .int .i64 0]
  have hb5 : Below Wc.heap.size Wc (Wc.alloc (.cells #[.int .i64 0, .pointer none, .pointer none, .int .i64 0] 141)) := (Below.refl _ Wc).alloc (Nat.le_refl _) _
  have b5 := Lib.hid (show Below w.heap.size w (Wc.alloc (.cells #[.int .i64 0, .pointer none, .pointer none, .int .i64 0] 141)) ∧ BC (Wc.alloc (.cells #[.int .i64 0, .pointer none, .pointer none, .int .i64 0] 141)) z4 141 #[.int .i64 0, .pointer none, .pointer none, .int .i64 0] ∧ z4 < Wc.heap.size ∧ w.heap.size ≤ Wc.heap.size from ⟨bc.out.1.trans (hb5.mono bc.out.1.size), bc.out.2.1.alloc _, bc.out.2.2, bc.out.1.size⟩)
  have hH2 := hH.below hb5
  refine hK.out _ _ hH2 (fun hH => ?_)
  clear hK K hb5 hH2 bc
  generalize World.alloc _ _ = Wn at q5 b5 hH ⊢
  generalize Wc.heap.size = z5 at q5 b5 ⊢
  rename World => Wc
  refine rdH 11 rfl (fun K hK => ?_)
  have c0 : Wc.cell? ⟨z5, 0, none⟩ = some (.int .i64 0) := q5.at rfl
  have c1 : Wc.cell? ⟨z5, 1, none⟩ = some (.pointer none) := q5.at rfl
  have c2 : Wc.cell? ⟨z5, 2, none⟩ = some (.pointer none) := q5.at rfl
  have c3 : Wc.cell? ⟨z5, 3, none⟩ = some (.int .i64 0) := q5.at rfl
  have f0 := q5.fz 0
  have f1 := q5.fz 1
  have f2 := q5.fz 2
  have f3 := q5.fz 3
  go_simp
  clear c0 c1 c2 c3 f0 f1 f2 f3
  have q6 : BC ((((Wc.setCell ⟨z5, 0, none⟩ (.int .i64 (n.ky : Nat))).setCell ⟨z5, 1, none⟩ (.pointer n.low)).setCell ⟨z5, 2, none⟩ (.pointer n.high)).setCell ⟨z5, 3, none⟩ (.int .i64 (n.fresh : Nat))) z5 141 (pcell4 n.ky n.low n.high n.fresh) := (((q5.set 0 _).set 1 _).set 2 _).set 3 _
  have kz : Kp (fun q => q = z5) Wc ((((Wc.setCell ⟨z5, 0, none⟩ (.int .i64 (n.ky : Nat))).setCell ⟨z5, 1, none⟩ (.pointer n.low)).setCell ⟨z5, 2, none⟩ (.pointer n.high)).setCell ⟨z5, 3, none⟩ (.int .i64 (n.fresh : Nat))) := ((((Kp.refl (fun q => q = z5) Wc).setCell (.inl rfl) _).setCell (.inl rfl) _).setCell (.inl rfl) _).setCell (.inl rfl) _
  have hz5 := b5.out.2.2.2
  have b6 := Lib.hid (show Below w.heap.size w ((((Wc.setCell ⟨z5, 0, none⟩ (.int .i64 (n.ky : Nat))).setCell ⟨z5, 1, none⟩ (.pointer n.low)).setCell ⟨z5, 2, none⟩ (.pointer n.high)).setCell ⟨z5, 3, none⟩ (.int .i64 (n.fresh : Nat))) ∧ BC ((((Wc.setCell ⟨z5, 0, none⟩ (.int .i64 (n.ky : Nat))).setCell ⟨z5, 1, none⟩ (.pointer n.low)).setCell ⟨z5, 2, none⟩ (.pointer n.high)).setCell ⟨z5, 3, none⟩ (.int .i64 (n.fresh : Nat))) z4 141 #[.int .i64 0, .pointer none, .pointer none, .int .i64 0] from ⟨(((b5.out.1.setCell hz5 _).setCell hz5 _).setCell hz5 _).setCell hz5 _, b5.out.2.1.kp kz (by have := b5.out.2.2.1; omega)⟩)
  have hH2 := hH.kp kz (by have := b5.out.2.2.1; have := HZ.out; omega)
  have hz := b5.out.2.2.1
  refine hK.out _ _ hH2 (fun hH => ?_)
  clear hK K kz hH2 q5
  generalize World.setCell _ _ _ = Wn at q6 b6 hH ⊢
  rename World => Wc
  refine wpAnyH_done (by kernel_rfl) ?_ _
  refine NoPanic.normal ?_
  clear x0 x1 x2 x7 x8 x11 x12 x13
  obtain ⟨y0, y1, y2, _⟩ := hH.node
  go_upto_region 3 with fail
  have r6 := C3.new Wc 36 (.int .u8 n.key.1) (.int .i64 n.key.2.1) (.string n.key.2.2)
  have q7 := q6.alloc (.cells #[.int .u8 n.key.1, .int .i64 n.key.2.1, .string n.key.2.2] 36)
  have b7 := Lib.hid (show Below w.heap.size w (Wc.alloc (.cells #[.int .u8 n.key.1, .int .i64 n.key.2.1, .string n.key.2.2] 36)) ∧ BC (Wc.alloc (.cells #[.int .u8 n.key.1, .int .i64 n.key.2.1, .string n.key.2.2] 36)) z4 141 (pcell4 0 none none 0) ∧ z5 < Wc.heap.size ∧ w.heap.size ≤ Wc.heap.size ∧ z4 < z5 ∧ w.heap.size ≤ z4 from ⟨b6.out.1.alloc b6.out.1.size _, b6.out.2.alloc _, q6.lt, b6.out.1.size, hz, by have := HZ.out; omega⟩)
  clear b6 q6 y0 y1 y2 hH hz hz5 b5
  generalize Wc.alloc _ = W7 at r6 q7 b7 ⊢
  generalize Wc.heap.size = z6 at r6 b7 ⊢
  have c1 : W7.cell? ⟨z5, 1, none⟩ = some (.pointer n.low) := q7.place.2.1
  have f1 := q7.fz 1
  go_upto_region 4 with fail
  clear c1 f1
  have kz : Kp (fun q => q = z5) W7 (W7.setCell ⟨z5, 1, none⟩ (.pointer (some ⟨z6, 0, none⟩))) := (Kp.refl (fun q => q = z5) W7).setCell (.inl rfl) _
  have q8 : BC (W7.setCell ⟨z5, 1, none⟩ (.pointer (some ⟨z6, 0, none⟩))) z5 141 (pcell4 n.ky (some ⟨z6, 0, none⟩) n.high n.fresh) := q7.set 1 _
  have b8 := Lib.hid (show Below w.heap.size w (W7.setCell ⟨z5, 1, none⟩ (.pointer (some ⟨z6, 0, none⟩))) ∧ C3 (W7.setCell ⟨z5, 1, none⟩ (.pointer (some ⟨z6, 0, none⟩))) z6 36 (.int .u8 n.key.1) (.int .i64 n.key.2.1) (.string n.key.2.2) ∧ w.heap.size ≤ z6 ∧ w.heap.size ≤ z4 ∧ z4 < z6 from ⟨b7.out.1.setCell (show w.heap.size ≤ z5 by have := b7.out; omega) _, r6.kp kz (by have := b7.out; omega), b7.out.2.2.2.1, b7.out.2.2.2.2.2, by have := b7.out; omega⟩)
  have q4 := b7.out.2.1.kp kz (by have := b7.out; omega)
  clear kz q7 r6 b7
  generalize World.setCell _ _ _ = W8 at q8 b8 q4 ⊢
  obtain ⟨c0, c1, c2, c3⟩ := q8.place
  obtain ⟨d0, d1, d2, d3⟩ := q4.place
  have f0 := q4.fz 0
  have f1 := q4.fz 1
  have f2 := q4.fz 2
  have f3 := q4.fz 3
  have q5 := (((q4.set 0 (.int .i64 (n.ky : Nat))).set 1 (.pointer (some ⟨z6, 0, none⟩))).set 2 (.pointer n.high)).set 3 (.int .i64 (n.fresh : Nat))
  have q9 : BC ((((W8.setCell ⟨z4, 0, none⟩ (.int .i64 (n.ky : Nat))).setCell ⟨z4, 1, none⟩ (.pointer (some ⟨z6, 0, none⟩))).setCell ⟨z4, 2, none⟩ (.pointer n.high)).setCell ⟨z4, 3, none⟩ (.int .i64 (n.fresh : Nat))) z4 141 (pcell4 n.ky (some ⟨z6, 0, none⟩) n.high n.fresh) := q5
  clear q5
  have kz : Kp (fun q => q = z4) W8 ((((W8.setCell ⟨z4, 0, none⟩ (.int .i64 (n.ky : Nat))).setCell ⟨z4, 1, none⟩ (.pointer (some ⟨z6, 0, none⟩))).setCell ⟨z4, 2, none⟩ (.pointer n.high)).setCell ⟨z4, 3, none⟩ (.int .i64 (n.fresh : Nat))) := ((((Kp.refl (fun q => q = z4) W8).setCell (.inl rfl) _).setCell (.inl rfl) _).setCell (.inl rfl) _).setCell (.inl rfl) _
  have b9 := Lib.hid (show Below w.heap.size w ((((W8.setCell ⟨z4, 0, none⟩ (.int .i64 (n.ky : Nat))).setCell ⟨z4, 1, none⟩ (.pointer (some ⟨z6, 0, none⟩))).setCell ⟨z4, 2, none⟩ (.pointer n.high)).setCell ⟨z4, 3, none⟩ (.int .i64 (n.fresh : Nat))) ∧ C3 ((((W8.setCell ⟨z4, 0, none⟩ (.int .i64 (n.ky : Nat))).setCell ⟨z4, 1, none⟩ (.pointer (some ⟨z6, 0, none⟩))).setCell ⟨z4, 2, none⟩ (.pointer n.high)).setCell ⟨z4, 3, none⟩ (.int .i64 (n.fresh : Nat))) z6 36 (.int .u8 n.key.1) (.int .i64 n.key.2.1) (.string n.key.2.2) ∧ w.heap.size ≤ z6 from ⟨(((b8.out.1.setCell b8.out.2.2.2.1 _).setCell b8.out.2.2.2.1 _).setCell b8.out.2.2.2.1 _).setCell b8.out.2.2.2.1 _, b8.out.2.1.kp kz (by have := b8.out; omega), b8.out.2.2.1⟩)
  go_wp2_with fail
  clear c0 c1 c2 c3 d0 d1 d2 d3 f0 f1 f2 f3
  obtain ⟨d0, d1, d2, d3⟩ := q9.place
  exact bodyPost_ret (v := plagg n.ky (some ⟨z6, 0, none⟩) n.high n.fresh) (by simp [results, Tryz.results78, go_sem, d0, d1, d2, d3]) rfl ⟨z6, rfl, b9.out.2.1, b9.out.2.2, b9.out.1⟩
end
end Go.Proofs.YtghbbpbhbinioaaGreat
