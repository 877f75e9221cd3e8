/- Layer 4's law: a cell as the arena has it (cell). -/
import Derived.Test.YtndbhcdiinpkkaaWorld04
import Derived.Deep.RegionHeld
import Derived.Deep.Cut
namespace Go.Proofs.Ytndbhcdiinpkkaa
open Go.RowKit

theorem lnumber (n : Int) (w : World) : Calls Try.prog 35 #[.int .i64 n] w fun e w' => e = .returned (.agg #[.int .u8 2, .int .i64 n, .string ⟨#[]⟩]) ∧ Below w.heap.size w w' := by
  go_enter Try.func35, Try.ntmps35
  go_wp2_with fail
  exact bodyPost_ret (v := .agg #[.int .u8 2, .int .i64 n, .string ⟨#[]⟩]) (by simp [results, Try.results35, go_sem]) rfl ⟨rfl, (Below.refl _ _).alloc (Nat.le_refl _) _⟩

/-- An act, as it is handed in. -/
abbrev aact (kd : Int) (i : Int) (ow : Int) (p q : Int) (wo : Int) : Value := .agg #[.int .u8 kd, .int .i64 i, .int .u32 ow, .int .i64 p, .int .i64 q, .int .u32 wo]
/-- The complement of a word. -/
def nx (x : Int) : Int := bits .xor .u32 IntKind.u32.max x
def Celled (ow wo : Int) (p q : Nat) (w : World) (e : Ending) (w' : World) : Prop :=
  ∃ v k, e = .returned (cagg (ow % 3) wo (nx wo) v k) ∧ Rd w' v 1 [.int .u8 2, .int .i64 wo, .string ⟨#[]⟩] ∧ Rd w' k 2 (nums (ns [p, q])) ∧ (∀ g, v.ownBlock = some g → w.heap.size ≤ g) ∧ (∀ g, k.ownBlock = some g → w.heap.size ≤ g) ∧ Below w.heap.size w w'

/-- What stands in a cell: a number, a slice. -/
def cI (w : World) (g i : Nat) : Int := match w.cell? ⟨g, i, none⟩ with | some (.int _ n) => n | _ => 0
def cA (w : World) (g i : Nat) : Option Addr := match w.cell? ⟨g, i, none⟩ with | some (.slice A _ _) => A | _ => none
def cN (w : World) (g i : Nat) : Nat := match w.cell? ⟨g, i, none⟩ with | some (.slice _ n _) => n | _ => 0
def cC (w : World) (g i : Nat) : Nat := match w.cell? ⟨g, i, none⟩ with | some (.slice _ _ c) => c | _ => 0
theorem cI_of {w : World} {g i : Nat} {n : Int} (h : w.cell? ⟨g, i, none⟩ = some (.int .u32 n)) : w.cell? ⟨g, i, none⟩ = some (.int .u32 (cI w g i)) := by unfold cI; rw [h]
theorem cS_of {w : World} {g i : Nat} {A : Option Addr} {n c : Nat} (h : w.cell? ⟨g, i, none⟩ = some (.slice A n c)) : w.cell? ⟨g, i, none⟩ = some (.slice (cA w g i) (cN w g i) (cC w g i)) := by unfold cA cN cC; rw [h]

theorem Rd.three (w : World) (x0 x1 x2 : Value) (t : TypeId) (b : Nat) (hb : b = w.heap.size) : Rd (w.alloc (.cells #[x0, x1, x2] t)) (.slice (some ⟨b, 0, none⟩) 1 1) 1 [x0, x1, x2] := by
  subst hb
  refine .inr ⟨_, 0, 1, rfl, Nat.le_refl _, fun j u hu => ?_⟩
  match j, hu with
  | 0, hu => simp at hu; subst hu; simp [go_sem]
  | 1, hu => simp at hu; subst hu; simp [go_sem]
  | 2, hu => simp at hu; subst hu; simp [go_sem]
theorem Rd.two' (w : World) (x y : Value) (t : TypeId) (b : Nat) (hb : b = w.heap.size) : Rd (w.alloc (.cells #[x, y] t)) (.slice (some ⟨b, 0, none⟩) 2 2) 2 [x, y] := hb ▸ Rd.two w x y t
/-- A slice that lies elsewhere, behind a store of five cells. -/
theorem Rd.five {W : World} {v : Value} {n : Nat} {xs : List Value} {z : Nat} (h : Rd W v n xs) (hz : ∀ g, v.ownBlock = some g → z < g) (v0 v1 v2 v3 v4 : Value) :
    Rd (((((W.setCell ⟨z, 0, none⟩ v0).setCell ⟨z, 1, none⟩ v1).setCell ⟨z, 2, none⟩ v2).setCell ⟨z, 3, none⟩ v3).setCell ⟨z, 4, none⟩ v4) v n xs :=
  ((((((Kp.refl (fun k => k = z) W).setCell (.inl rfl) _).setCell (.inl rfl) _).setCell (.inl rfl) _).setCell (.inl rfl) _).setCell (.inl rfl) _).rd h (fun g hg e => by have := hz g hg; omega)
/-- The worlds in which a cell is laid out. -/
structure CSt (w : World) (wb g c nd x y : Nat) (ow wo : Int) (Nx Ny : Nat) (W : World) : Prop where
  bel : Below w.heap.size w W
  sz : w.heap.size + 1 + 1 < W.heap.size
  l1 : W.cell? ⟨w.heap.size, 2, none⟩ = some (.int .u32 ow)
  l2 : W.cell? ⟨w.heap.size, 5, none⟩ = some (.int .u32 wo)
  l3 : W.cell? ⟨w.heap.size + 1, 0, none⟩ = some (.int .i64 (x : Int))
  l4 : W.cell? ⟨w.heap.size + 1, 1, none⟩ = some (.int .i64 (y : Int))
  l5 : W.cell? ⟨wb, 2, none⟩ = some (.slice (some ⟨g, 0, none⟩) nd c)
  l6 : W.cell? ⟨g, x, none⟩ = some (.int .i64 (Nx : Int))
  l7 : W.cell? ⟨g, y, none⟩ = some (.int .i64 (Ny : Int))
  s0 : W.cell? ⟨w.heap.size + 1 + 1, 0, none⟩ = some (.int .u32 (cI W (w.heap.size + 1 + 1) 0))
  s1 : W.cell? ⟨w.heap.size + 1 + 1, 1, none⟩ = some (.int .u32 (cI W (w.heap.size + 1 + 1) 1))
  s2 : W.cell? ⟨w.heap.size + 1 + 1, 2, none⟩ = some (.int .u32 (cI W (w.heap.size + 1 + 1) 2))
  s3 : W.cell? ⟨w.heap.size + 1 + 1, 3, none⟩ = some (.slice (cA W (w.heap.size + 1 + 1) 3) (cN W (w.heap.size + 1 + 1) 3) (cC W (w.heap.size + 1 + 1) 3))
  s4 : W.cell? ⟨w.heap.size + 1 + 1, 4, none⟩ = some (.slice (cA W (w.heap.size + 1 + 1) 4) (cN W (w.heap.size + 1 + 1) 4) (cC W (w.heap.size + 1 + 1) 4))
  f0 : W.frozen? ⟨w.heap.size + 1 + 1, 0, none⟩ = false
  f1 : W.frozen? ⟨w.heap.size + 1 + 1, 1, none⟩ = false
  f2 : W.frozen? ⟨w.heap.size + 1 + 1, 2, none⟩ = false
  f3 : W.frozen? ⟨w.heap.size + 1 + 1, 3, none⟩ = false
  f4 : W.frozen? ⟨w.heap.size + 1 + 1, 4, none⟩ = false
section
variable {w : World} {wb g c nd x y : Nat} {ow wo : Int} {Nx Ny : Nat} {W W' : World}
theorem CSt.grow (h : CSt w wb g c nd x y ow wo Nx Ny W) (hb : Below W.heap.size W W') : CSt w wb g c nd x y ow wo Nx Ny W' := by
  have key : ∀ (p : Addr) u, W.cell? p = some u → W'.cell? p = some u := fun p u hu => (hb.cell (World.block_lt_of_cell? W p hu)).trans hu
  have key2 : ∀ (p : Addr), p.block < W.heap.size → W.frozen? p = false → W'.frozen? p = false := fun p hp hu => (hb.frozen hp).trans hu
  exact ⟨h.bel.trans (hb.mono h.bel.size), Nat.lt_of_lt_of_le h.sz hb.size, key _ _ h.l1, key _ _ h.l2, key _ _ h.l3, key _ _ h.l4, key _ _ h.l5, key _ _ h.l6, key _ _ h.l7, cI_of (key _ _ h.s0), cI_of (key _ _ h.s1), cI_of (key _ _ h.s2), cS_of (key _ _ h.s3), cS_of (key _ _ h.s4), key2 _ h.sz h.f0, key2 _ h.sz h.f1, key2 _ h.sz h.f2, key2 _ h.sz h.f3, key2 _ h.sz h.f4⟩
theorem CSt.alloc (h : CSt w wb g c nd x y ow wo Nx Ny W) (o : Obj) : CSt w wb g c nd x y ow wo Nx Ny (W.alloc o) := h.grow ((Below.refl _ _).alloc (Nat.le_refl _) o)
theorem CSt.alloc' (h : CSt w wb g c nd x y ow wo Nx Ny W.drew) (o : Obj) : CSt w wb g c nd x y ow wo Nx Ny (W.alloc o).drew := h.grow (W := W.drew) ⟨rfl, rfl, rfl, by simp, fun k hk => Below.heap_alloc W o k hk⟩
theorem CSt.store (h : CSt w wb g c nd x y ow wo Nx Ny W) (hw : wb < w.heap.size) (hg : g < w.heap.size) (v0 v1 v2 : Int) (A3 : Option Addr) (n3 c3 : Nat) (A4 : Option Addr) (n4 c4 : Nat) : CSt w wb g c nd x y ow wo Nx Ny (((((W.setCell ⟨w.heap.size + 1 + 1, 0, none⟩ (.int .u32 v0)).setCell ⟨w.heap.size + 1 + 1, 1, none⟩ (.int .u32 v1)).setCell ⟨w.heap.size + 1 + 1, 2, none⟩ (.int .u32 v2)).setCell ⟨w.heap.size + 1 + 1, 3, none⟩ (.slice A3 n3 c3)).setCell ⟨w.heap.size + 1 + 1, 4, none⟩ (.slice A4 n4 c4)) := by
  have kk : Kp (fun k => k = w.heap.size + 1 + 1) W (((((W.setCell ⟨w.heap.size + 1 + 1, 0, none⟩ (.int .u32 v0)).setCell ⟨w.heap.size + 1 + 1, 1, none⟩ (.int .u32 v1)).setCell ⟨w.heap.size + 1 + 1, 2, none⟩ (.int .u32 v2)).setCell ⟨w.heap.size + 1 + 1, 3, none⟩ (.slice A3 n3 c3)).setCell ⟨w.heap.size + 1 + 1, 4, none⟩ (.slice A4 n4 c4)) := (((((Kp.refl (fun k => k = w.heap.size + 1 + 1) W).setCell (.inl rfl) _).setCell (.inl rfl) _).setCell (.inl rfl) _).setCell (.inl rfl) _).setCell (.inl rfl) _
  have key : ∀ g' o' u, g' ≠ w.heap.size + 1 + 1 → W.cell? ⟨g', o', none⟩ = some u → (((((W.setCell ⟨w.heap.size + 1 + 1, 0, none⟩ (.int .u32 v0)).setCell ⟨w.heap.size + 1 + 1, 1, none⟩ (.int .u32 v1)).setCell ⟨w.heap.size + 1 + 1, 2, none⟩ (.int .u32 v2)).setCell ⟨w.heap.size + 1 + 1, 3, none⟩ (.slice A3 n3 c3)).setCell ⟨w.heap.size + 1 + 1, 4, none⟩ (.slice A4 n4 c4)).cell? ⟨g', o', none⟩ = some u := fun g' o' u hp hu => kk.cell hu hp
  have key2 : ∀ (p : Addr), W.frozen? p = false → (((((W.setCell ⟨w.heap.size + 1 + 1, 0, none⟩ (.int .u32 v0)).setCell ⟨w.heap.size + 1 + 1, 1, none⟩ (.int .u32 v1)).setCell ⟨w.heap.size + 1 + 1, 2, none⟩ (.int .u32 v2)).setCell ⟨w.heap.size + 1 + 1, 3, none⟩ (.slice A3 n3 c3)).setCell ⟨w.heap.size + 1 + 1, 4, none⟩ (.slice A4 n4 c4)).frozen? p = false := fun p hu => by simp only [World.frozen?_setCell]; exact hu
  have b0 := h.s0
  have b1 := h.s1
  have b2 := h.s2
  have b3 := h.s3
  have b4 := h.s4
  refine ⟨(((((h.bel.setCell (by simp; omega) _).setCell (by simp; omega) _).setCell (by simp; omega) _).setCell (by simp; omega) _).setCell (by simp; omega) _), by simpa using h.sz, key _ _ _ (by omega) h.l1, key _ _ _ (by omega) h.l2, key _ _ _ (by omega) h.l3, key _ _ _ (by omega) h.l4, key _ _ _ (by omega) h.l5, key _ _ _ (by omega) h.l6, key _ _ _ (by omega) h.l7, cI_of (n := v0) ?_, cI_of (n := v1) ?_, cI_of (n := v2) ?_, cS_of (A := A3) (n := n3) (c := c3) ?_, cS_of (A := A4) (n := n4) (c := c4) ?_, key2 _ h.f0, key2 _ h.f1, key2 _ h.f2, key2 _ h.f3, key2 _ h.f4⟩
  all_goals simp [go_sem, b0, b1, b2, b3, b4]
end

section
variable {B wb b rb nd most : Nat} {vC vn vm : Value} {D : Nat → Dc} {K : Nat → Value} {Nm mine : Nat → Nat}
set_option maxRecDepth 100000 in
set_option maxHeartbeats 800000 in
theorem lcell (kd i ow p q wo : Int) (x y : Nat) (w : World) (h : Mem w B wb b rb nd most vC vn vm D K Nm mine) (hx : x < nd) (hy : y < nd) (ho1 : 0 ≤ ow) (ho2 : ow ≤ 4294967295) (hw1 : 0 ≤ wo) (hw2 : wo ≤ 4294967295) :
    Calls Try.prog 38 #[wp' wb, aact kd i ow p q wo, two x y] w (Celled ow wo (Nm x) (Nm y) w) := by
  have n2 := h.doc.n2
  obtain ⟨g, c, hvn, hcx⟩ := h.nameAt hx
  obtain ⟨g', c', hvn', hcy⟩ := h.nameAt hy
  rw [hvn] at hvn'
  simp only [Value.slice.injEq, Option.some.injEq, Addr.mk.injEq, and_true, true_and] at hvn'
  obtain ⟨rfl, rfl⟩ := hvn'
  have c2 := h.wd.c2
  rw [hvn] at c2
  have HM := Lib.hid h
  have hgl : g < w.heap.size := World.block_lt_of_cell? w _ hcx
  have hwl := h.wd.lt
  have q0 := ((C6.new w 38 (.int .u8 kd) (.int .i64 i) (.int .u32 ow) (.int .i64 p) (.int .i64 q) (.int .u32 wo)).alloc (.cells #[.int .i64 (x : Int), .int .i64 (y : Int)] 36)).alloc (.cells #[.int .u32 0, .int .u32 0, .int .u32 0, .slice none 0 0, .slice none 0 0] 47)
  have q1 := (C2.new (w.alloc (.cells #[.int .u8 kd, .int .i64 i, .int .u32 ow, .int .i64 p, .int .i64 q, .int .u32 wo] 38)) 36 (.int .i64 (x : Int)) (.int .i64 (y : Int))).alloc (.cells #[.int .u32 0, .int .u32 0, .int .u32 0, .slice none 0 0, .slice none 0 0] 47)
  have q2 := C5.new ((w.alloc (.cells #[.int .u8 kd, .int .i64 i, .int .u32 ow, .int .i64 p, .int .i64 q, .int .u32 wo] 38)).alloc (.cells #[.int .i64 (x : Int), .int .i64 (y : Int)] 36)) 47 (.int .u32 0) (.int .u32 0) (.int .u32 0) (.slice none 0 0) (.slice none 0 0)
  have e1 : (w.alloc (.cells #[.int .u8 kd, .int .i64 i, .int .u32 ow, .int .i64 p, .int .i64 q, .int .u32 wo] 38)).heap.size = w.heap.size + 1 := by simp
  have e2 : ((w.alloc (.cells #[.int .u8 kd, .int .i64 i, .int .u32 ow, .int .i64 p, .int .i64 q, .int .u32 wo] 38)).alloc (.cells #[.int .i64 (x : Int), .int .i64 (y : Int)] 36)).heap.size = w.heap.size + 1 + 1 := by simp
  rw [e1] at q1
  rw [e2] at q2
  have hb0 : Below w.heap.size w (((w.alloc (.cells #[.int .u8 kd, .int .i64 i, .int .u32 ow, .int .i64 p, .int .i64 q, .int .u32 wo] 38)).alloc (.cells #[.int .i64 (x : Int), .int .i64 (y : Int)] 36)).alloc (.cells #[.int .u32 0, .int .u32 0, .int .u32 0, .slice none 0 0, .slice none 0 0] 47)) := (((Below.refl _ w).alloc (Nat.le_refl _) _).alloc (by simp) _).alloc (by simp; omega) _
  have hS0 : CSt w wb g c nd x y ow wo (Nm x) (Nm y) (((w.alloc (.cells #[.int .u8 kd, .int .i64 i, .int .u32 ow, .int .i64 p, .int .i64 q, .int .u32 wo] 38)).alloc (.cells #[.int .i64 (x : Int), .int .i64 (y : Int)] 36)).alloc (.cells #[.int .u32 0, .int .u32 0, .int .u32 0, .slice none 0 0, .slice none 0 0] 47)).drew := by
    have hbc : ∀ b' o u, b' < w.heap.size → w.cell? ⟨b', o, none⟩ = some u → (((w.alloc (.cells #[.int .u8 kd, .int .i64 i, .int .u32 ow, .int .i64 p, .int .i64 q, .int .u32 wo] 38)).alloc (.cells #[.int .i64 (x : Int), .int .i64 (y : Int)] 36)).alloc (.cells #[.int .u32 0, .int .u32 0, .int .u32 0, .slice none 0 0, .slice none 0 0] 47)).cell? ⟨b', o, none⟩ = some u := fun b' o u hb' hu => (hb0.cell (p := ⟨b', o, none⟩) hb').trans hu
    exact ⟨hb0.drew, q2.lt, q0.c2, q0.c5, q1.c0, q1.c1, hbc _ _ _ hwl c2, hbc _ _ _ hgl hcx, hbc _ _ _ hgl hcy, cI_of q2.c0, cI_of q2.c1, cI_of q2.c2, cS_of q2.c3, cS_of q2.c4, q2.fz 0, q2.fz 1, q2.fz 2, q2.fz 3, q2.fz 4⟩
  have HS0 := Lib.hid hS0
  clear hS0 hb0 e1 e2 q0 q1 q2 hcx hcy c2
  have y1 : IntKind.i64.wrap wo = wo := IntWalk.i64_in _ (by omega)
  have y2 : ow.tmod 3 = ow % 3 := Int.tmod_eq_emod_of_nonneg ho1
  have y5 : (0 : Int) ≤ (x : Int) := by omega
  have y6 : (x : Int) < (nd : Int) := by omega
  have y7 : (0 : Int) ≤ (y : Int) := by omega
  have y8 : (y : Int) < (nd : Int) := by omega
  have rl1 : ∀ W, CSt w wb g c nd x y ow wo (Nm x) (Nm y) W → W.cell? ⟨w.heap.size, 2, none⟩ = some (.int .u32 ow) := fun W h => h.l1
  have rl2 : ∀ W, CSt w wb g c nd x y ow wo (Nm x) (Nm y) W → W.cell? ⟨w.heap.size, 5, none⟩ = some (.int .u32 wo) := fun W h => h.l2
  have rl3 : ∀ W, CSt w wb g c nd x y ow wo (Nm x) (Nm y) W → W.cell? ⟨w.heap.size + 1, 0, none⟩ = some (.int .i64 (x : Int)) := fun W h => h.l3
  have rl4 : ∀ W, CSt w wb g c nd x y ow wo (Nm x) (Nm y) W → W.cell? ⟨w.heap.size + 1, 1, none⟩ = some (.int .i64 (y : Int)) := fun W h => h.l4
  have rl5 : ∀ W, CSt w wb g c nd x y ow wo (Nm x) (Nm y) W → W.cell? ⟨wb, 2, none⟩ = some (.slice (some ⟨g, 0, none⟩) nd c) := fun W h => h.l5
  have rl6 : ∀ W, CSt w wb g c nd x y ow wo (Nm x) (Nm y) W → W.cell? ⟨g, x, none⟩ = some (.int .i64 (Nm x : Int)) := fun W h => h.l6
  have rl7 : ∀ W, CSt w wb g c nd x y ow wo (Nm x) (Nm y) W → W.cell? ⟨g, y, none⟩ = some (.int .i64 (Nm y : Int)) := fun W h => h.l7
  have rs0 : ∀ W, CSt w wb g c nd x y ow wo (Nm x) (Nm y) W → W.cell? ⟨w.heap.size + 1 + 1, 0, none⟩ = some (.int .u32 (cI W (w.heap.size + 1 + 1) 0)) := fun W h => h.s0
  have rs1 : ∀ W, CSt w wb g c nd x y ow wo (Nm x) (Nm y) W → W.cell? ⟨w.heap.size + 1 + 1, 1, none⟩ = some (.int .u32 (cI W (w.heap.size + 1 + 1) 1)) := fun W h => h.s1
  have rs2 : ∀ W, CSt w wb g c nd x y ow wo (Nm x) (Nm y) W → W.cell? ⟨w.heap.size + 1 + 1, 2, none⟩ = some (.int .u32 (cI W (w.heap.size + 1 + 1) 2)) := fun W h => h.s2
  have rs3 : ∀ W, CSt w wb g c nd x y ow wo (Nm x) (Nm y) W → W.cell? ⟨w.heap.size + 1 + 1, 3, none⟩ = some (.slice (cA W (w.heap.size + 1 + 1) 3) (cN W (w.heap.size + 1 + 1) 3) (cC W (w.heap.size + 1 + 1) 3)) := fun W h => h.s3
  have rs4 : ∀ W, CSt w wb g c nd x y ow wo (Nm x) (Nm y) W → W.cell? ⟨w.heap.size + 1 + 1, 4, none⟩ = some (.slice (cA W (w.heap.size + 1 + 1) 4) (cN W (w.heap.size + 1 + 1) 4) (cC W (w.heap.size + 1 + 1) 4)) := fun W h => h.s4
  have rf0 : ∀ W, CSt w wb g c nd x y ow wo (Nm x) (Nm y) W → W.frozen? ⟨w.heap.size + 1 + 1, 0, none⟩ = false := fun W h => h.f0
  have rf1 : ∀ W, CSt w wb g c nd x y ow wo (Nm x) (Nm y) W → W.frozen? ⟨w.heap.size + 1 + 1, 1, none⟩ = false := fun W h => h.f1
  have rf2 : ∀ W, CSt w wb g c nd x y ow wo (Nm x) (Nm y) W → W.frozen? ⟨w.heap.size + 1 + 1, 2, none⟩ = false := fun W h => h.f2
  have rf3 : ∀ W, CSt w wb g c nd x y ow wo (Nm x) (Nm y) W → W.frozen? ⟨w.heap.size + 1 + 1, 3, none⟩ = false := fun W h => h.f3
  have rf4 : ∀ W, CSt w wb g c nd x y ow wo (Nm x) (Nm y) W → W.frozen? ⟨w.heap.size + 1 + 1, 4, none⟩ = false := fun W h => h.f4
  have rsz : ∀ W, CSt w wb g c nd x y ow wo (Nm x) (Nm y) W → w.heap.size + 1 + 1 < W.heap.size := fun W h => h.sz
  go_enter Try.func38, Try.ntmps38
  go_wp2_with fail
  go_region_held (fun W => CSt w wb g c nd x y ow wo (Nm x) (Nm y) W)
    (first | with_reducible assumption | with_reducible exact HS0.out | (rename CSt _ _ _ _ _ _ _ _ _ _ _ _ => hH; with_reducible exact hH.grow hby) | (rename CSt _ _ _ _ _ _ _ _ _ _ _ _ => hH; with_reducible exact hH.alloc _) | (rename CSt _ _ _ _ _ _ _ _ _ _ _ _ => hH; with_reducible exact hH.alloc' _) | (rename CSt _ _ _ _ _ _ _ _ _ _ _ _ => hH; with_reducible exact hH.store hwl hgl _ _ _ _ _ _ _ _ _))
    ((go_at_call 35; refine (lnumber wo _).mono ?_; rintro e wy ⟨rfl, hby⟩))
  · rename CSt _ _ _ _ _ _ _ _ _ _ _ _ => hH
    have hbel := Lib.hid hH.bel
    have hy := HS0.out.grow hby
    have hyl := hy.sz
    have hpre := (hy.alloc (.cells #[.int .u8 2, .int .i64 wo, .string ⟨#[]⟩] 63)).alloc (.cells #[.int .i64 (Nm x : Int), .int .i64 (Nm y : Int)] 3)
    have t0 := hpre.s0
    have t1 := hpre.s1
    have t2 := hpre.s2
    have t3 := hpre.s3
    have t4 := hpre.s4
    have R1 := Lib.hid ((Rd.three wy (.int .u8 2) (.int .i64 wo) (.string ⟨#[]⟩) 63 _ rfl).alloc (.cells #[.int .i64 (Nm x : Int), .int .i64 (Nm y : Int)] 3))
    have R2 := Lib.hid (Rd.two' (wy.alloc (.cells #[.int .u8 2, .int .i64 wo, .string ⟨#[]⟩] 63)) (.int .i64 (Nm x : Int)) (.int .i64 (Nm y : Int)) 3 (wy.heap.size + 1) (by simp))
    clear hH hpre hy hby rl1 rl2 rl3 rl4 rl5 rl6 rl7 rs0 rs1 rs2 rs3 rs4 rf0 rf1 rf2 rf3 rf4 rsz
    go_wp2_with fail
    refine bodyPost_ret (v := cagg (ow % 3) wo (nx wo) (.slice (some ⟨wy.heap.size, 0, none⟩) 1 1) (.slice (some ⟨wy.heap.size + 1, 0, none⟩) 2 2)) (by simp [results, Try.results38, go_sem, t0, t1, t2, t3, t4, nx]) rfl ⟨_, _, rfl, R1.out.five (fun g hg => by cases hg; first | (simp; done) | (simp; omega)) _ _ _ _ _, R2.out.five (fun g hg => by cases hg; first | (simp; done) | (simp; omega)) _ _ _ _ _, fun g hg => by cases hg; first | (simp; done) | (simp; omega), fun g hg => by cases hg; first | (simp; done) | (simp; omega), hbel.out⟩
  · rename CSt _ _ _ _ _ _ _ _ _ _ _ _ => hH
    have hbel := Lib.hid hH.bel
    have hy := HS0.out.grow hby
    have hyl := hy.sz
    have hpre := (hy.alloc (.cells #[.int .i64 (Nm x : Int), .int .i64 (Nm y : Int)] 3)).alloc (.cells #[.int .u8 2, .int .i64 wo, .string ⟨#[]⟩] 63)
    have t0 := hpre.s0
    have t1 := hpre.s1
    have t2 := hpre.s2
    have t3 := hpre.s3
    have t4 := hpre.s4
    have R1 := Lib.hid (Rd.three (wy.alloc (.cells #[.int .i64 (Nm x : Int), .int .i64 (Nm y : Int)] 3)) (.int .u8 2) (.int .i64 wo) (.string ⟨#[]⟩) 63 (wy.heap.size + 1) (by simp))
    have R2 := Lib.hid ((Rd.two' wy (.int .i64 (Nm x : Int)) (.int .i64 (Nm y : Int)) 3 _ rfl).alloc (.cells #[.int .u8 2, .int .i64 wo, .string ⟨#[]⟩] 63))
    clear hH hpre hy hby rl1 rl2 rl3 rl4 rl5 rl6 rl7 rs0 rs1 rs2 rs3 rs4 rf0 rf1 rf2 rf3 rf4 rsz
    go_wp2_with fail
    refine bodyPost_ret (v := cagg (ow % 3) wo (nx wo) (.slice (some ⟨wy.heap.size + 1, 0, none⟩) 1 1) (.slice (some ⟨wy.heap.size, 0, none⟩) 2 2)) (by simp [results, Try.results38, go_sem, t0, t1, t2, t3, t4, nx]) rfl ⟨_, _, rfl, R1.out.five (fun g hg => by cases hg; first | (simp; done) | (simp; omega)) _ _ _ _ _, R2.out.five (fun g hg => by cases hg; first | (simp; done) | (simp; omega)) _ _ _ _ _, fun g hg => by cases hg; first | (simp; done) | (simp; omega), fun g hg => by cases hg; first | (simp; done) | (simp; omega), hbel.out⟩
  · rename CSt _ _ _ _ _ _ _ _ _ _ _ _ => hH
    have hbel := Lib.hid hH.bel
    have hy := (HS0.out.alloc' _).grow hby
    have hyl := hy.sz
    have hpre := hy.alloc (.cells #[.int .u8 2, .int .i64 wo, .string ⟨#[]⟩] 63)
    have t0 := hpre.s0
    have t1 := hpre.s1
    have t2 := hpre.s2
    have t3 := hpre.s3
    have t4 := hpre.s4
    have R1 := Lib.hid (Rd.three wy (.int .u8 2) (.int .i64 wo) (.string ⟨#[]⟩) 63 _ rfl)
    have R2 := Lib.hid (((Rd.two' (((w.alloc (.cells #[.int .u8 kd, .int .i64 i, .int .u32 ow, .int .i64 p, .int .i64 q, .int .u32 wo] 38)).alloc (.cells #[.int .i64 (x : Int), .int .i64 (y : Int)] 36)).alloc (.cells #[.int .u32 0, .int .u32 0, .int .u32 0, .slice none 0 0, .slice none 0 0] 47)) (.int .i64 (Nm x : Int)) (.int .i64 (Nm y : Int)) 3 (w.heap.size + 1 + 1 + 1) (by simp)).drew.below hby).alloc (.cells #[.int .u8 2, .int .i64 wo, .string ⟨#[]⟩] 63))
    clear hH hpre hy hby rl1 rl2 rl3 rl4 rl5 rl6 rl7 rs0 rs1 rs2 rs3 rs4 rf0 rf1 rf2 rf3 rf4 rsz
    go_wp2_with fail
    refine bodyPost_ret (v := cagg (ow % 3) wo (nx wo) (.slice (some ⟨wy.heap.size, 0, none⟩) 1 1) (.slice (some ⟨w.heap.size + 1 + 1 + 1, 0, none⟩) 2 2)) (by simp [results, Try.results38, go_sem, t0, t1, t2, t3, t4, nx]) rfl ⟨_, _, rfl, R1.out.five (fun g hg => by cases hg; first | (simp; done) | (simp; omega)) _ _ _ _ _, R2.out.five (fun g hg => by cases hg; first | (simp; done) | (simp; omega)) _ _ _ _ _, fun g hg => by cases hg; first | (simp; done) | (simp; omega), fun g hg => by cases hg; first | (simp; done) | (simp; omega), hbel.out⟩
end

end Go.Proofs.Ytndbhcdiinpkkaa
