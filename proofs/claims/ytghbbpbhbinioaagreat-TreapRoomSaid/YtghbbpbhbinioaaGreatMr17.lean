/- Several texts in one. -/
import Derived.Test.YtghbbpbhbinioaaGreatMr16
import Derived.IntWalk
import Derived.Test.YtghbbpbhbinioaaGreatMr15
import Derived.Test.YtghbbpbhbinioaaGreatMr08
namespace Go.Proofs.YtghbbpbhbinioaaGreat
set_option maxRecDepth 100000
set_option linter.unusedSimpArgs false
set_option linter.unusedVariables false
open Go.RowKit
structure WayP (M : Cells) (root : Nat) (ow : Int) (k : Ky) (l : List Pr) (cl : List Nv) (i : Nat) (lj pre suf : List Pr) : Prop where
  chain : Ch M k cl root 0 l [] i 0 lj [] pre suf
  frs : ∀ n ∈ cl, n.fresh ≤ 1 ∧ (ow = 0 → n.fresh = 1)
  short : cl.length + lj.length ≤ l.length
structure WayT (M : Cells) (W : World) (B b bh root : Nat) (ow : Int) (k : Ky) (l : List Pr) (x : Yv) (cl : List Nv) (i : Nat) (lj pre suf : List Pr) : Prop where
  head : x.b = b ∧ x.bh = bh ∧ x.ow = ow ∧ x.key = k ∧ x.root = root ∧ x.n = cl.length
  row : OwnN W B x.A x.c cl
  way : WayP M root ow k l cl i lj pre suf
theorem WayT.below {M : Cells} {W W' : World} {B b bh root i : Nat} {ow : Int} {k : Ky} {l lj pre suf : List Pr} {x : Yv} {cl : List Nv} (h : WayT M W B b bh root ow k l x cl i lj pre suf) (hb : Below W.heap.size W W') : WayT M W' B b bh root ow k l x cl i lj pre suf :=
  ⟨h.head, (Kp.of_below hb (fun _ => False)).own h.row (fun _ _ h => h), h.way⟩
abbrev yx (b bh : Nat) (ow : Int) (k : Ky) (root : Nat) (A : Option Addr) (n c : Nat) : Yv := ⟨b, bh, ow, k, root, A, n, c, nzero, false⟩
abbrev yd (b bh : Nat) (ow : Int) (k : Ky) (root : Nat) (A : Option Addr) (n c : Nat) (nd : Nv) (has : Bool) : Yv := ⟨b, bh, ow, k, root, A, n, c, nd, has⟩
structure WayQ (w W : World) (z6 z8 z9 z10 : Nat) (k : Ky) (x : Yv) (n : Nv) (cl : List Nv) : Prop where
  key : C3 W z6 36 (.int .u8 k.1) (.int .i64 k.2.1) (.string k.2.2)
  res : ∃ old : Array Value, old.size = 23 ∧ BC W z8 146 old
  way : BC W z9 146 (ycells x)
  node : BC W z10 144 (ncells n)
  row : OwnN W (z10 + 1) x.A x.c cl
  far : Below w.heap.size w W ∧ w.heap.size ≤ z6 ∧ w.heap.size ≤ z8 ∧ w.heap.size ≤ z9 ∧ w.heap.size ≤ z10 ∧ z6 < z8 ∧ z8 < z9 ∧ z9 < z10
section
variable {w W W' : World} {z6 z8 z9 z10 : Nat} {k : Ky} {x : Yv} {n : Nv} {cl : List Nv}
theorem WayQ.below (h : WayQ w W z6 z8 z9 z10 k x n cl) (hb : Below W.heap.size W W') : WayQ w W' z6 z8 z9 z10 k x n cl := by
  obtain ⟨old, ho, hr⟩ := h.res
  exact ⟨h.key.below hb, ⟨old, ho, hr.below hb⟩, h.way.below hb, h.node.below hb, (Kp.of_below hb (fun _ => False)).own h.row (fun _ _ h => h), h.far.1.trans (hb.mono h.far.1.size), h.far.2⟩
theorem WayQ.set (h : WayQ w W z6 z8 z9 z10 k x n cl) (m : Nv) : WayQ w (setN W z10 m) z6 z8 z9 z10 k x m cl := by
  obtain ⟨f0, f1, f2, f3, f4, f5, f6, f7⟩ := h.far
  have kz := kp_setN W z10 m
  obtain ⟨old, ho, hr⟩ := h.res
  exact ⟨h.key.kp kz (by omega), ⟨old, ho, hr.kp kz (by omega)⟩, h.way.kp kz (by omega), h.node.setN m, kz.own h.row (fun q hq e => by have := (own_blk h.row q hq).1; omega), below_setN f0 f4 m, f1, f2, f3, f4, f5, f6, f7⟩
theorem WayQ.push {b bh root c c2 : Nat} {ow : Int} {A A2 : Option Addr} {W2 : World} (h : WayQ w W z6 z8 z9 z10 k (yx b bh ow k root A cl.length c) n cl) (hk : Kp (fun q => (Value.slice A cl.length c).ownBlock = some q) W W2) (ho : W2.ownsRow (z10 + 1) 144 14 (.slice A2 (cl.length + 1) c2) (cl.length + 1) (cl.flatMap nlist ++ nlist n)) :
    WayQ w (W2.setCell ⟨z9, 7, none⟩ (.slice A2 (cl.length + 1) c2)) z6 z8 z9 z10 k (yx b bh ow k root A2 (cl ++ [n]).length c2) n (cl ++ [n]) ∧ Kp (fun q => (Value.slice A cl.length c).ownBlock = some q ∨ q = z9) W (W2.setCell ⟨z9, 7, none⟩ (.slice A2 (cl.length + 1) c2)) := by
  obtain ⟨f0, f1, f2, f3, f4, f5, f6, f7⟩ := h.far
  obtain ⟨old, hol, hr⟩ := h.res
  have hlo : ∀ q, (Value.slice A cl.length c).ownBlock = some q → z10 + 1 ≤ q := fun q hq => (own_blk h.row q hq).1
  have n6 : ¬ (Value.slice A cl.length c).ownBlock = some z6 := fun e => by have := hlo _ e; omega
  have n8 : ¬ (Value.slice A cl.length c).ownBlock = some z8 := fun e => by have := hlo _ e; omega
  have n9 : ¬ (Value.slice A cl.length c).ownBlock = some z9 := fun e => by have := hlo _ e; omega
  have n10 : ¬ (Value.slice A cl.length c).ownBlock = some z10 := fun e => by have := hlo _ e; omega
  have kz := Kp.one W2 z9 7 (.slice A2 (cl.length + 1) c2)
  have k2 : Kp (fun q => (Value.slice A cl.length c).ownBlock = some q ∨ q = z9) W (W2.setCell ⟨z9, 7, none⟩ (.slice A2 (cl.length + 1) c2)) := (hk.mono (fun _ h _ => .inl h)).trans kz (fun _ e => .inl (.inr e))
  have hlen : (cl ++ [n]).length = cl.length + 1 := by simp
  have q9 := (h.way.kp hk n9).set 7 (.slice A2 (cl.length + 1) c2)
  simp only [List.setIfInBounds_toArray, List.set_cons_zero, List.set_cons_succ] at q9
  have hrow : OwnN (W2.setCell ⟨z9, 7, none⟩ (.slice A2 (cl.length + 1) c2)) (z10 + 1) A2 c2 (cl ++ [n]) := by
    have h1 := kz.own ho (fun q hq e => by have := (own_blk ho q hq).1; omega)
    show World.ownsRow _ _ _ 14 (.slice A2 (cl ++ [n]).length c2) _ _
    rw [hlen, List.flatMap_append]
    simpa using h1
  refine ⟨⟨(h.key.kp hk n6).kp kz (by omega), ⟨old, hol, (hr.kp hk n8).kp kz (by omega)⟩, ?_, (h.node.kp hk n10).kp kz (by omega), hrow, ?_, f1, f2, f3, f4, f5, f6, f7⟩, k2⟩
  · rw [hlen]; exact q9
  · exact ((Kp.of_below f0 (fun q => w.heap.size ≤ q)).trans k2 (fun q hq => .inl (hq.elim (fun e => by have := hlo _ e; omega) (fun e => by omega)))).below (fun _ h => h)
theorem WayQ.nov {q : Nat} {b bh root c : Nat} {ow : Int} {A : Option Addr} (h : WayQ w W z6 z8 z9 z10 k (yx b bh ow k root A cl.length c) n cl) (hq : (Value.slice A cl.length c).ownBlock = some q ∨ q = z9) : NoV W q := by
  rcases hq with e | rfl
  · obtain ⟨cur, e2⟩ := own_type h.row q e
    exact ⟨_, _, e2, by decide⟩
  · exact h.way.nov (by decide)
end
section
variable {b bh most : Nat} {M : Cells} {F : Nat → Prop} {l : List Pr}
set_option maxHeartbeats 8000000 in
theorem wayTo (N root : Nat) (k : Ky) (ow : Int) (w : World) (h : Ar w b most M F) (hz : M 0 = none) (hT : TT M root l) (hl : l.length ≤ 1024) :
    Calls Tryz.prog 69 #[land b bh, .agg #[.int .i64 (N : Nat), .int .i64 (root : Nat)], xagg k, .int .u32 ow] w fun e w' => ∃ x cl i lj pre suf, e = .returned (yagg x) ∧ WayT M w' w.heap.size b bh root ow k l x cl i lj pre suf ∧ Below w.heap.size w w' ∧
      (x.has = false ∧ i = 0 ∧ lj = [] ∧ lookL k l = none ∨ x.has = true ∧ x.nd.key = k ∧ x.nd.cell = i ∧ x.nd.shared ≤ 1 ∧ (ow = 0 → x.nd.fresh = 1) ∧ lookL k l = some x.nd.val ∧ ∃ la lb, NdP M w' x.nd la lb lj) := by
  obtain ⟨W0, hW0⟩ : ∃ W0, W0 = (((w.alloc (.cells #[ap b, .pointer (some ⟨bh, 0, none⟩)] 26)).alloc (.cells #[.int .i64 (N : Int), .int .i64 (root : Int)] 72)).alloc (.cells #[.int .u8 k.1, .int .i64 k.2.1, .string k.2.2] 36)).alloc (.cells #[.pointer none, .pointer none, .int .u32 0, .int .u8 0, .int .i64 0, .string ⟨#[]⟩, .int .i64 0, .slice none 0 0, .int .u8 0, .int .i64 0, .string ⟨#[]⟩, .int .u8 0, .int .i64 0, .string ⟨#[]⟩, .int .i64 0, .pointer none, .pointer none, .int .i64 0, .int .u64 0, .int .i64 0, .int .i64 0, .int .i64 0, .bool false] 146) := ⟨_, rfl⟩
  have hsz : W0.heap.size = w.heap.size + 1 + 1 + 1 + 1 := by rw [hW0]; simp
  have hb0 : Below w.heap.size w W0 := by rw [hW0]; exact ((((Below.refl _ w).alloc (Nat.le_refl _) _).alloc (by simp) _).alloc (by simp; omega) _).alloc (by simp; omega) _
  have q1 : C2 W0 w.heap.size 26 (ap b) (.pointer (some ⟨bh, 0, none⟩)) := by rw [hW0]; exact (((C2.new w 26 (ap b) (.pointer (some ⟨bh, 0, none⟩))).alloc _).alloc _).alloc _
  have q2 : C2 W0 (w.heap.size + 1) 72 (.int .i64 (N : Int)) (.int .i64 (root : Int)) := by
    have h := ((C2.new (w.alloc (.cells #[ap b, .pointer (some ⟨bh, 0, none⟩)] 26)) 72 (.int .i64 (N : Int)) (.int .i64 (root : Int))).alloc (.cells #[.int .u8 k.1, .int .i64 k.2.1, .string k.2.2] 36)).alloc (.cells #[.pointer none, .pointer none, .int .u32 0, .int .u8 0, .int .i64 0, .string ⟨#[]⟩, .int .i64 0, .slice none 0 0, .int .u8 0, .int .i64 0, .string ⟨#[]⟩, .int .u8 0, .int .i64 0, .string ⟨#[]⟩, .int .i64 0, .pointer none, .pointer none, .int .i64 0, .int .u64 0, .int .i64 0, .int .i64 0, .int .i64 0, .bool false] 146)
    rw [hW0]
    simpa using h
  have q3 : C3 W0 (w.heap.size + 1 + 1) 36 (.int .u8 k.1) (.int .i64 k.2.1) (.string k.2.2) := by
    have h := (C3.new ((w.alloc (.cells #[ap b, .pointer (some ⟨bh, 0, none⟩)] 26)).alloc (.cells #[.int .i64 (N : Int), .int .i64 (root : Int)] 72)) 36 (.int .u8 k.1) (.int .i64 k.2.1) (.string k.2.2)).alloc (.cells #[.pointer none, .pointer none, .int .u32 0, .int .u8 0, .int .i64 0, .string ⟨#[]⟩, .int .i64 0, .slice none 0 0, .int .u8 0, .int .i64 0, .string ⟨#[]⟩, .int .u8 0, .int .i64 0, .string ⟨#[]⟩, .int .i64 0, .pointer none, .pointer none, .int .i64 0, .int .u64 0, .int .i64 0, .int .i64 0, .int .i64 0, .bool false] 146)
    rw [hW0]
    simpa using h
  have q4 : BC W0 (w.heap.size + 1 + 1 + 1) 146 #[.pointer none, .pointer none, .int .u32 0, .int .u8 0, .int .i64 0, .string ⟨#[]⟩, .int .i64 0, .slice none 0 0, .int .u8 0, .int .i64 0, .string ⟨#[]⟩, .int .u8 0, .int .i64 0, .string ⟨#[]⟩, .int .i64 0, .pointer none, .pointer none, .int .i64 0, .int .u64 0, .int .i64 0, .int .i64 0, .int .i64 0, .bool false] := by
    have h := BC.new (((w.alloc (.cells #[ap b, .pointer (some ⟨bh, 0, none⟩)] 26)).alloc (.cells #[.int .i64 (N : Int), .int .i64 (root : Int)] 72)).alloc (.cells #[.int .u8 k.1, .int .i64 k.2.1, .string k.2.2] 36)) 146 #[.pointer none, .pointer none, .int .u32 0, .int .u8 0, .int .i64 0, .string ⟨#[]⟩, .int .i64 0, .slice none 0 0, .int .u8 0, .int .i64 0, .string ⟨#[]⟩, .int .u8 0, .int .i64 0, .string ⟨#[]⟩, .int .i64 0, .pointer none, .pointer none, .int .i64 0, .int .u64 0, .int .i64 0, .int .i64 0, .int .i64 0, .bool false]
    rw [hW0]
    simpa using h
  obtain ⟨z4, hz4⟩ : ∃ z, z = w.heap.size := ⟨_, rfl⟩
  obtain ⟨z5, hz5⟩ : ∃ z, z = w.heap.size + 1 := ⟨_, rfl⟩
  obtain ⟨z6, hz6⟩ : ∃ z, z = w.heap.size + 1 + 1 := ⟨_, rfl⟩
  obtain ⟨z8, hz8⟩ : ∃ z, z = w.heap.size + 1 + 1 + 1 := ⟨_, rfl⟩
  have HW0 := Lib.hid hW0
  have HZZ := Lib.hid (And.intro hz4 (And.intro hz5 (And.intro hz6 hz8)))
  have ZL := Lib.hid (show z6 = w.heap.size + 2 ∧ z8 = w.heap.size + 3 ∧ W0.heap.size = w.heap.size + 4 from ⟨hz6, hz8, hsz⟩)
  rw [← hz8] at q4
  rw [← hz4] at q1
  rw [← hz5] at q2
  rw [← hz6] at q3
  have HRD := Lib.hid (fun (x : Yv) (hxb : x.b = b) (i s : Nat) (lo hi : Option Addr) (l' : List Pr) (W : World) (hW : Below w.heap.size w W) (hp : Pl M W i s lo hi l') => tread_way x i s lo hi W (h := by rw [hxb]; exact h.below hW) hz hp)
  have HR0 := Lib.hid (show Pl M W0 root 0 none none l from .root hT)
  have HT := Lib.hid (And.intro hT (And.intro hl hb0))
  obtain ⟨x0, x1, _⟩ := q1.all
  obtain ⟨x2, x3, _⟩ := q2.all
  obtain ⟨x4, x5, x6, _⟩ := q3.all
  have QQ := Lib.hid (And.intro q3 q4)
  clear h hz hT hl hW0 hb0 hsz q1 q2 q3 q4 hz4 hz5 hz6 hz8
  go_enter Tryz.func69, Tryz.ntmps69
  go_upto_region 1 with fail
  rw [← HW0.out]
  clear HW0
  obtain ⟨e1, e2, e3, e4⟩ := HZZ.out
  rw [← e4, ← e3, ← e2, ← e1]
  clear e1 e2 e3 e4 HZZ
  go_upto_region 2 with (first | (refine wpList_build_to rfl _ _ rfl (ycells (yx b bh ow k root none 0 0)) (by kernel_rfl) ?_) | (refine wpList_store_whole rfl _ _ _ rfl W0.heap.size _ _ (ycells (yx b bh ow k root none 0 0)) rfl rfl (BC.new W0 _ _) rfl way_size (ycells_one _) ?_))
  intro W1 q9 k1
  have hb1 : Below W0.heap.size W0 W1 := (((Kp.refl (fun q => q = W0.heap.size) W0).alloc _).trans k1 (fun _ e => .inl e)).below (fun _ e => by omega)
  clear k1
  have HR1 := Lib.hid (HR0.out.below hb1)
  have HT1 := Lib.hid (And.intro HT.out.1 (And.intro HT.out.2.1 (HT.out.2.2.trans (hb1.mono HT.out.2.2.size))))
  have QQ1 := Lib.hid (And.intro (QQ.out.1.below hb1) (QQ.out.2.below hb1))
  have y3 : W1.cell? ⟨z5, 1, none⟩ = some (.int .i64 (root : Int)) := (Kp.of_below hb1 (fun _ => False)).cell x3 (fun h => h)
  clear hb1 QQ HT HR0 x0 x1 x2 x3 x4 x5 x6
  obtain ⟨z9, hz9⟩ : ∃ z, z = W0.heap.size := ⟨_, rfl⟩
  rw [← hz9] at q9 ⊢
  have HZ9 := Lib.hid (show z9 = w.heap.size + 4 by rw [hz9]; exact ZL.out.2.2)
  clear hz9
  have HQ9 := Lib.hid q9
  clear q9
  go_wp2_with (refine wpList_load_whole rfl _ _ rfl z9 _ rfl (ycells (yx b bh ow k root none 0 0)) _ HQ9.out Tryz.underlying146 rfl way_size ?_)
  refine (HRD.out (yx b bh ow k root none 0 0) rfl root 0 none none l _ HT1.out.2.2 HR1.out).mono ?_
  rintro e w2 ⟨n, ok, rfl, hrp, hfr, hb2⟩
  have hb3 : Below w2.heap.size w2 (w2.alloc (.cells (ncells n) 144)) := (Below.refl _ w2).alloc (Nat.le_refl _) _
  have hb4 := hb2.trans (hb3.mono hb2.size)
  have hwq : WayQ w (w2.alloc (.cells (ncells n) 144)) z6 z8 z9 w2.heap.size k (yx b bh ow k root none 0 0) n [] := by
    obtain ⟨s1, s2, s3⟩ := ZL.out
    have s4 := HZ9.out
    have s5 := hb2.size
    have s6 := HQ9.out.lt
    exact ⟨QQ1.out.1.below hb4, ⟨_, rfl, QQ1.out.2.below hb4⟩, HQ9.out.below hb4, BC.new w2 _ _, World.ownsRow_nil _ _ _ _, HT1.out.2.2.trans (hb4.mono HT1.out.2.2.size), by omega, by omega, by omega, by omega, by omega, by omega, by omega⟩
  have HLK := Lib.hid hwq
  have HRP := Lib.hid (And.intro (hrp.below hb3) hfr)
  have q9 := BC.new w2 144 (ncells nzero)
  obtain ⟨f0, f1, f2, f3, f4, f5, f6, f7, f8, f9, f10, f11, f12, f13⟩ := q9.fz14
  obtain ⟨c0, c1, c2, c3, c4, c5, c6, c7, c8, c9, c10, c11, c12, c13⟩ := q9.node
  clear hwq hrp hfr hb2 hb3 hb4 q9 y3
  simp only at c0 c1 c2 c3 c4 c5 c6 c7 c8 c9 c10 c11 c12 c13
  go_wp2_with fail
  clear f0 f1 f2 f3 f4 f5 f6 f7 f8 f9 f10 f11 f12 f13 c0 c1 c2 c3 c4 c5 c6 c7 c8 c9 c10 c11 c12 c13
  change Code.wp _ _ _ _ (w2.alloc (.cells (ncells n) 144))
  obtain ⟨z10, hz10⟩ : ∃ z, z = w2.heap.size := ⟨_, rfl⟩
  rw [← hz10] at HLK ⊢
  clear hz10
  generalize w2.alloc _ = W2 at HLK HRP ⊢
  clear QQ1 ZL HR1 HQ9 HZ9
  go_loopg [11] l.length (fun c' s11 wr => ∃ n ok i s lo hi lj A c cl pre suf, s11 = .bool ok ∧ lj.length = c' ∧ lookL k l = lookL k lj ∧ WayQ w wr z6 z8 z9 z10 k (yx b bh ow k root A cl.length c) n cl ∧ Rp M wr i s lo hi lj n ok ∧ s ≤ 1 ∧ (ok = true → ow = 0 → n.fresh = 1) ∧ WayP M root ow k l cl i lj pre suf)
  case atStart => exact ⟨n, ok, root, 0, none, none, l, none, 0, [], [], [], rfl, rfl, rfl, HLK.out, HRP.out.1, Nat.zero_le _, HRP.out.2, ⟨.nil HT1.out.1 .nil, fun _ h => (by cases h), by simp⟩⟩
  case round =>
    clear HLK HRP
    obtain ⟨n, ok, i, s, lo, hi, lj, A, c, cl, pre, suf, rfl, hlj, hlook, hlk, hrp, hs1, hfr, hwt⟩ := hrel
    obtain ⟨a0, a1, a2, _⟩ := hlk.key.all
    obtain ⟨c0, c1, c2, _⟩ := hlk.node.node
    have HLK := Lib.hid hlk
    have HWT := Lib.hid hwt
    have HFR := Lib.hid (And.intro hfr hs1)
    rcases hrp with ⟨rfl, rfl, rfl, hv, -⟩ | ⟨rfl, hc, hs, hlo, hhi, la, lb, hnd⟩
    · have HV := Lib.hid (And.intro hv hlook)
      clear hlk hlook hlj hv hfr hs1 hwt a0 a1 a2 c0 c1 c2
      go_wp2_with (first | (refine wpList_load_whole rfl _ _ rfl z10 _ rfl (ncells n) _ HLK.out.node Tryz.underlying144 rfl node_size ?_) | (refine wpList_store_part rfl _ _ _ rfl z9 8 _ _ (ncells n) rfl rfl HLK.out.way (show 8 + 14 ≤ 23 by decide) node_size (ncells_one _) ?_))
      intro W7 q7 k7
      have q7' : BC W7 z9 146 (ycells (yd b bh ow k root A cl.length c n false)) := by
        simp only [setA, List.setIfInBounds_toArray, List.set_cons_zero, List.set_cons_succ] at q7
        exact q7
      have HQ7 := Lib.hid (And.intro q7' k7)
      have c22 := q7'.way.2.2.2.2.2.2.2.2.2.2.2.2.2.2.2.2.2.2.2.2.2.2
      have f22 := q7'.fz 22
      clear q7 q7' k7
      go_upto_region 7 with fail
      have q8 : BC (W7.setCell ⟨z9, 22, none⟩ (.bool false)) z9 146 (ycells (yd b bh ow k root A cl.length c n false)) := by
        have := HQ7.out.1.set 22 (.bool false)
        simp only [List.setIfInBounds_toArray, List.set_cons_zero, List.set_cons_succ] at this
        exact this
      have k8 : Kp (fun q => q = z9) wr (W7.setCell ⟨z9, 22, none⟩ (.bool false)) := HQ7.out.2.setCell (.inl rfl) _
      have HQ8 := Lib.hid (And.intro q8 k8)
      clear q8 k8 c22 f22 HQ7
      generalize W7.setCell _ _ = W8 at HQ8 ⊢
      obtain ⟨old, ho, hres⟩ := HLK.out.res
      have HRS := Lib.hid (And.intro ho (hres.kp HQ8.out.2 (by have := HLK.out.far; omega)))
      clear ho hres
      go_wp2_with (first | (refine wpList_load_whole rfl _ _ rfl z9 _ rfl (ycells (yd b bh ow k root A cl.length c n false)) _ HQ8.out.1 Tryz.underlying146 rfl way_size ?_) | (refine wpList_store_whole rfl _ _ _ rfl z8 _ _ (ycells (yd b bh ow k root A cl.length c n false)) rfl rfl HRS.out.2 HRS.out.1 way_size (ycells_one _) ?_))
      intro W9 q9 k9
      have kk : Kp (fun q => q = z9 ∨ q = z8) wr W9 := (HQ8.out.2.mono (fun _ h _ => .inl h)).trans (k9.mono (fun _ h _ => .inr h)) (fun _ => .inl)
      have HFIN := Lib.hid (And.intro q9 kk)
      clear q9 kk k9 HRS HQ8
      go_wp2_with fail
      refine bodyPost_ret (v := yagg (yd b bh ow k root A cl.length c n false)) (by exact results_cell_row rfl _ _ z8 _ _ (0, 0) _ rfl HFIN.out.1 Tryz.underlying146 rfl way_size) rfl ?_
      have hWT : WayT M W9 w.heap.size b bh root ow k l (yd b bh ow k root A cl.length c n false) cl 0 [] pre suf := ⟨⟨rfl, rfl, rfl, rfl, rfl, rfl⟩, own_base (HFIN.out.2.own HLK.out.row (fun q hq e => by have h1 := (own_blk HLK.out.row q hq).1; have h2 := HLK.out.far; omega)) (by have h2 := HLK.out.far; omega), HWT.out⟩
      have hBW : Below w.heap.size w W9 := ((Kp.of_below HLK.out.far.1 (fun q => w.heap.size ≤ q)).trans HFIN.out.2 (fun q hq => .inl (by have h2 := HLK.out.far; omega))).below (fun _ h => h)
      exact ⟨_, cl, 0, [], pre, suf, rfl, hWT, hBW, .inl ⟨rfl, rfl, rfl, HV.out.2⟩⟩
    · have HND := Lib.hid (And.intro hnd (And.intro hc hs))
      clear hlk hnd hlo hhi hs hc hfr hs1 hwt
      by_cases hk : n.key = k
      · have HV := Lib.hid (And.intro hk hlook)
        have e0 : n.key.1 = k.1 := by rw [hk]
        have e1 : n.key.2.1 = k.2.1 := by rw [hk]
        have e2 : n.key.2.2 = k.2.2 := by rw [hk]
        rw [e0] at c0
        rw [e1] at c1
        rw [e2] at c2
        clear hk hlook hlj e0 e1 e2
        go_upto_region 6 with fail
        clear a0 a1 a2 c0 c1 c2
        go_wp2_with (first | (refine wpList_load_whole rfl _ _ rfl z10 _ rfl (ncells n) _ HLK.out.node Tryz.underlying144 rfl node_size ?_) | (refine wpList_store_part rfl _ _ _ rfl z9 8 _ _ (ncells n) rfl rfl HLK.out.way (show 8 + 14 ≤ 23 by decide) node_size (ncells_one _) ?_))
        intro W7 q7 k7
        have q7' : BC W7 z9 146 (ycells (yd b bh ow k root A cl.length c n false)) := by
          simp only [setA, List.setIfInBounds_toArray, List.set_cons_zero, List.set_cons_succ] at q7
          exact q7
        have HQ7 := Lib.hid (And.intro q7' k7)
        have c22 := q7'.way.2.2.2.2.2.2.2.2.2.2.2.2.2.2.2.2.2.2.2.2.2.2
        have f22 := q7'.fz 22
        clear q7 q7' k7
        go_upto_region 7 with fail
        have q8 : BC (W7.setCell ⟨z9, 22, none⟩ (.bool true)) z9 146 (ycells (yd b bh ow k root A cl.length c n true)) := by
          have := HQ7.out.1.set 22 (.bool true)
          simp only [List.setIfInBounds_toArray, List.set_cons_zero, List.set_cons_succ] at this
          exact this
        have k8 : Kp (fun q => q = z9) wr (W7.setCell ⟨z9, 22, none⟩ (.bool true)) := HQ7.out.2.setCell (.inl rfl) _
        have HQ8 := Lib.hid (And.intro q8 k8)
        clear q8 k8 c22 f22 HQ7
        generalize W7.setCell _ _ = W8 at HQ8 ⊢
        obtain ⟨old, ho, hres⟩ := HLK.out.res
        have HRS := Lib.hid (And.intro ho (hres.kp HQ8.out.2 (by have := HLK.out.far; omega)))
        clear ho hres
        go_wp2_with (first | (refine wpList_load_whole rfl _ _ rfl z9 _ rfl (ycells (yd b bh ow k root A cl.length c n true)) _ HQ8.out.1 Tryz.underlying146 rfl way_size ?_) | (refine wpList_store_whole rfl _ _ _ rfl z8 _ _ (ycells (yd b bh ow k root A cl.length c n true)) rfl rfl HRS.out.2 HRS.out.1 way_size (ycells_one _) ?_))
        intro W9 q9 k9
        have kk : Kp (fun q => q = z9 ∨ q = z8) wr W9 := (HQ8.out.2.mono (fun _ h _ => .inl h)).trans (k9.mono (fun _ h _ => .inr h)) (fun _ => .inl)
        have HFIN := Lib.hid (And.intro q9 kk)
        clear q9 kk k9 HRS HQ8
        go_wp2_with fail
        refine bodyPost_ret (v := yagg (yd b bh ow k root A cl.length c n true)) (by exact results_cell_row rfl _ _ z8 _ _ (0, 0) _ rfl HFIN.out.1 Tryz.underlying146 rfl way_size) rfl ?_
        have hWT : WayT M W9 w.heap.size b bh root ow k l (yd b bh ow k root A cl.length c n true) cl i lj pre suf := ⟨⟨rfl, rfl, rfl, rfl, rfl, rfl⟩, own_base (HFIN.out.2.own HLK.out.row (fun q hq e => by have h1 := (own_blk HLK.out.row q hq).1; have h2 := HLK.out.far; omega)) (by have h2 := HLK.out.far; omega), HWT.out⟩
        have hBW : Below w.heap.size w W9 := ((Kp.of_below HLK.out.far.1 (fun q => w.heap.size ≤ q)).trans HFIN.out.2 (fun q hq => .inl (by have h2 := HLK.out.far; omega))).below (fun _ h => h)
        have hND : NdP M W9 n la lb lj := HND.out.1.kpt HFIN.out.2 (fun q hq => by
          obtain ⟨old, _, hr⟩ := HLK.out.res
          exact hq.elim (fun e => e ▸ HLK.out.way.nov (by decide)) (fun e => e ▸ hr.nov (by decide)))
        exact ⟨_, cl, i, lj, pre, suf, rfl, hWT, hBW, .inr ⟨rfl, HV.out.1, HND.out.2.1, by show n.shared ≤ 1; have := HND.out.2.2; have := HFR.out.2; omega, fun h0 => HFR.out.1 (by first | rfl | trivial) h0, HV.out.2.trans (by rw [← HV.out.1]; exact look_here HND.out.1), la, lb, hND⟩⟩
      · have h3 : ¬ n.key.1 = k.1 ∨ (k.1 = n.key.1 ∧ ¬ n.key.2.1 = k.2.1) ∨ (k.1 = n.key.1 ∧ k.2.1 = n.key.2.1 ∧ ¬ n.key.2.2.toList = k.2.2.toList) := by
          by_cases e0 : n.key.1 = k.1
          · by_cases e1 : n.key.2.1 = k.2.1
            · exact .inr (.inr ⟨e0.symm, e1.symm, fun e2 => hk (Prod.ext e0 (Prod.ext e1 (bytes_ext e2)))⟩)
            · exact .inr (.inl ⟨e0.symm, e1⟩)
          · exact .inl e0
        have HV := Lib.hid (And.intro hk (And.intro hlook hlj))
        have HWL := Lib.hid (show cl.length ≤ 1024 by have := HWT.out.short; have := HT1.out.2.1; omega)
        clear hk hlook hlj
        rcases h3 with e0 | ⟨e0, e1⟩ | ⟨e0, e1, e2⟩
        all_goals try rw [e0] at a0
        all_goals try rw [e1] at a1
        all_goals go_upto_region 4 with fail
        all_goals try clear e2
        all_goals try clear e1
        all_goals try clear e0
        all_goals
          clear a0 a1 a2 c0 c1 c2
          obtain ⟨i1, hi1, hy0, hy1, hy2⟩ := info_parts ninfo
          have HI1 := Lib.hid hi1
          clear hi1
          have y7 := HLK.out.way.way.2.2.2.2.2.2.2.1
          go_wp2_with (first | (refine wpList_load_whole rfl _ _ rfl z10 _ rfl (ncells n) _ HLK.out.node Tryz.underlying144 rfl node_size ?_) | (at_builtin; refine wpList_append_rd rfl _ _ 137 rfl (z10 + 1) 144 i1 _ 14 128 Tryz.underlying137 HI1.out hy0 hy1 hy2 rfl (by decide) (.slice A cl.length c) cl.length (cl.flatMap nlist) rfl ((Kp.of_below ((Below.refl _ wr).alloc (Nat.le_refl _) _) (fun _ => False)).own HLK.out.row (fun _ _ h => h)) _ 1 (nlist n) rfl (rd14 _ _ _) rfl (nlist_one n) (by unfold maxLen; have := HWL.out; omega) (by have := HWL.out; omega) (by have := HLK.out.node.lt; simp; omega) ?_))
          intro v2 W2 hown hgr hat
          obtain ⟨A2, c2, rfl, _⟩ := (Rd.of_own hown).form
          have kp2 : Kp (fun q => (Value.slice A cl.length c).ownBlock = some q) wr W2 := ((Kp.refl _ wr).alloc _).trans (Kp.of_grown hgr (fun q hq => .inl hq)) (fun _ => .inl)
          have PU := HLK.out.push kp2 hown
          have HND2 := Lib.hid (HND.out.1.kpt PU.2 (fun q hq => HLK.out.nov hq))
          have y7' := (HLK.out.way.kp kp2 (fun e => by have h1 := (own_blk HLK.out.row _ e).1; have h2 := HLK.out.far; omega)).way.2.2.2.2.2.2.2.1
          have f7' := (HLK.out.way.kp kp2 (fun e => by have h1 := (own_blk HLK.out.row _ e).1; have h2 := HLK.out.far; omega)).fz 7
          have HLK2 := Lib.hid PU.1
          clear PU hown hgr hat kp2 y7 HI1 hy0 hy1 hy2
          go_upto_region 5 with fail
          clear y7' f7' HLK
          generalize W2.setCell _ _ = W3 at HND2 HLK2 ⊢
          obtain ⟨x1, hx1⟩ : ∃ x1, x1 = yx b bh ow k root A2 (cl ++ [n]).length c2 := ⟨_, rfl⟩
          obtain ⟨cl1, hcl1⟩ : ∃ cl1, cl1 = cl ++ [n] := ⟨_, rfl⟩
          have HX1 := Lib.hid (And.intro hx1 (And.intro hcl1 (show x1.b = b by rw [hx1])))
          rw [← hx1, ← hcl1] at HLK2
          clear hx1 hcl1
          have k0 : ∀ W', WayQ w W' z6 z8 z9 z10 k x1 n cl1 → W'.cell? ⟨z6, 0, none⟩ = some (.int .u8 k.1) := fun W' h => h.key.c0
          have k1 : ∀ W', WayQ w W' z6 z8 z9 z10 k x1 n cl1 → W'.cell? ⟨z6, 1, none⟩ = some (.int .i64 k.2.1) := fun W' h => h.key.c1
          have k2 : ∀ W', WayQ w W' z6 z8 z9 z10 k x1 n cl1 → W'.cell? ⟨z6, 2, none⟩ = some (.string k.2.2) := fun W' h => h.key.c2
          refine wp_region_noPanic ?_
          refine anyW_region (S := fun W' => WayQ w W' z6 z8 z9 z10 k x1 n cl1) [10, 11] (by kernel_rfl) (HLK2.out.below (Below.refl _ W3).drew) (fun hH => ?_)
          have HND3 := Lib.hid (HND2.out.below (Below.refl _ W3).drew)
          generalize W3.drew = Wc at hH HND3 ⊢
          clear HLK2 HND2
          refine AnyW.first (i := 0) (v := yagg x1) (by kernel_rfl) rfl (by kernel_rfl) (by kernel_rfl) (by kernel_rfl) (fun _ _ _ h => h) (Or.inl ⟨by rfl, fun W' hS => exec_way rfl rfl (WayQ.way hS)⟩) hH ?_
          simp only [Act.put, List.setIfInBounds_toArray, List.set_cons_zero, List.set_cons_succ, List.getElem_toArray, List.getElem_cons_zero, List.getElem_cons_succ]
          refine AnyW.first (i := 1) (v := nagg n) (by kernel_rfl) rfl (by kernel_rfl) (by kernel_rfl) (by kernel_rfl) (fun _ _ _ h => h) (Or.inl ⟨by rfl, fun W' hS => exec_node rfl rfl (WayQ.node hS)⟩) hH ?_
          simp only [Act.put, List.setIfInBounds_toArray, List.set_cons_zero, List.set_cons_succ, List.getElem_toArray, List.getElem_cons_zero, List.getElem_cons_succ]
          refine AnyW.first (i := 2) (v := nagg n) (by kernel_rfl) rfl (by kernel_rfl) (by kernel_rfl) (by kernel_rfl) (fun _ _ _ h => h) (Or.inl ⟨by rfl, fun W' hS => exec_node rfl rfl (WayQ.node hS)⟩) hH ?_
          simp only [Act.put, List.setIfInBounds_toArray, List.set_cons_zero, List.set_cons_succ, List.getElem_toArray, List.getElem_cons_zero, List.getElem_cons_succ]
          refine AnyW.first (i := 3) (v := ?_) (by kernel_rfl) rfl (by kernel_rfl) (by kernel_rfl) (by kernel_rfl) (fun _ _ _ h => h) (Or.inl ⟨by rfl, ?_⟩) hH ?_
          rotate_left
          · intro W' hS
            go_simp
            with_reducible rfl
          simp only [Act.put, List.setIfInBounds_toArray, List.set_cons_zero, List.set_cons_succ, List.getElem_toArray, List.getElem_cons_zero, List.getElem_cons_succ]
          refine AnyW.one (i := 4) (by kernel_rfl) rfl (fun K hK => ?_)
          go_simp
          refine (nside n k _).mono ?_
          rintro e Wn ⟨rfl, hbn⟩
          have hH2 := hH.below hbn
          have HND4 := Lib.hid (HND3.out.below hbn)
          simp only
          refine hK.out _ _ (.inr fun _ => hH2) ?_
          clear hK K hbn hH HND3
          rename WayQ _ _ _ _ _ _ _ _ _ _ => hH
          refine AnyW.one (i := 5) (by kernel_rfl) rfl (fun K hK => ?_)
          go_simp
          refine (nbelow_at k _ HND4.out).mono ?_
          rintro e Wm ⟨lo', hi', rfl, hpl, hbn⟩
          have hH2 := hH.below hbn
          have HPL := Lib.hid hpl
          simp only
          refine hK.out _ _ (.inr fun _ => hH2) ?_
          clear hK K hbn hH hpl
          rename WayQ _ _ _ _ _ _ _ _ _ _ => hH
          refine AnyW.one (i := 6) (by kernel_rfl) rfl (fun K hK => ?_)
          go_simp
          refine (HRD.out x1 HX1.out.2.2 _ _ lo' hi' _ _ hH.far.1 HPL.out).mono ?_
          rintro e Wpp ⟨m, okm, rfl, hrp, hfm, hbn⟩
          have hH2 := hH.below hbn
          have HRP := Lib.hid (And.intro hrp hfm)
          simp only
          refine hK.out _ _ (.inr fun _ => hH2) ?_
          clear hK K hbn hH hrp hfm HPL
          rename WayQ _ _ _ _ _ _ _ _ _ _ => hH
          refine AnyW.first (i := 7) (v := ?_) (by kernel_rfl) rfl (by kernel_rfl) (by kernel_rfl) (by kernel_rfl) (fun _ _ _ h => h) (Or.inl ⟨by rfl, ?_⟩) hH ?_
          rotate_left
          · intro W' hS
            go_simp
            with_reducible rfl
          simp only [Act.put, List.setIfInBounds_toArray, List.set_cons_zero, List.set_cons_succ, List.getElem_toArray, List.getElem_cons_zero, List.getElem_cons_succ]
          refine AnyW.first (i := 8) (v := ?_) (by kernel_rfl) rfl (by kernel_rfl) (by kernel_rfl) (by kernel_rfl) (fun _ _ _ h => h) (Or.inl ⟨by rfl, ?_⟩) hH ?_
          rotate_left
          · intro W' hS
            go_simp
            with_reducible rfl
          simp only [Act.put, List.setIfInBounds_toArray, List.set_cons_zero, List.set_cons_succ, List.getElem_toArray, List.getElem_cons_zero, List.getElem_cons_succ]
          refine AnyW.firstV (i := 9) (v := ?_) rfl (by kernel_rfl) (by kernel_rfl) (by kernel_rfl) (fun _ _ _ h => h) (Or.inl ⟨by rfl, ?_⟩) ?_
          rotate_left
          · intro W' hS
            go_simp
            with_reducible rfl
          simp only [Act.put, List.setIfInBounds_toArray, List.set_cons_zero, List.set_cons_succ, List.getElem_toArray, List.getElem_cons_zero, List.getElem_cons_succ]
          refine AnyW.one (i := 10) (by kernel_rfl) rfl (fun K hK => ?_)
          have hH2 := hH.set m
          have hrp2 := HRP.out.1.kpt (kp_setN Wpp z10 m) (fun q e => e ▸ hH.node.nov (by decide))
          have HFIN := Lib.hid (And.intro hrp2 (And.intro hH2 HRP.out.2))
          clear hrp2 hH2 HRP
          obtain ⟨f0, f1, f2, f3, f4, f5, f6, f7, f8, f9, f10, f11, f12, f13⟩ := hH.node.fz14
          obtain ⟨c0, c1, c2, c3, c4, c5, c6, c7, c8, c9, c10, c11, c12, c13⟩ := hH.node.node
          go_simp
          clear f0 f1 f2 f3 f4 f5 f6 f7 f8 f9 f10 f11 f12 f13 c0 c1 c2 c3 c4 c5 c6 c7 c8 c9 c10 c11 c12 c13
          change K _ (setN Wpp z10 m)
          generalize setN Wpp z10 m = Wq' at HFIN ⊢
          refine hK.out _ _ (.inl (by simp)) ?_
          clear hK K hH
          refine AnyW.one (i := 11) (by kernel_rfl) rfl (fun K hK => ?_)
          go_simp
          refine hK.out _ _ (.inl (by simp)) ?_
          clear hK K
          refine AnyW.done (by kernel_rfl) ?_ _
          refine NoPanic.normal ?_
          clear k0 k1 k2
          go_wp2_with fail
          obtain ⟨pre', suf', hch⟩ := Ch.next (by rw [HND.out.2.1]; exact HWT.out.chain) HND.out.1 HV.out.1
          have hnl := nxt_len (k := k) HND.out.1
          have hlk2 := nxt_look HND.out.1 HV.out.1
          have hnf := HND.out.1.fresh
          have hsh := HWT.out.short
          have hfrs := HWT.out.frs
          have hfr1 : ow = 0 → n.fresh = 1 := fun h0 => HFR.out.1 (by first | rfl | trivial) h0
          have HALL := Lib.hid (And.intro hch (And.intro hnl (And.intro hlk2 (And.intro hnf (And.intro hsh (And.intro hfrs hfr1))))))
          clear hch hnl hlk2 hnf hsh hfrs hfr1
          go_roundg (nxt n k la lb).length
          case measure => have := HALL.out.2.1; have := HV.out.2.2; omega
          case rel =>
            obtain ⟨hch, hnl, hlk2, hnf, hsh, hfrs, hfr1⟩ := HALL.out
            have hlk3 := HFIN.out.2.1
            have hfr3 := HFIN.out.2.2
            rw [HX1.out.1] at hlk3 hfr3
            rw [HX1.out.2.1] at hlk3
            refine ⟨m, okm, _, _, lo', hi', nxt n k la lb, A2, c2, cl ++ [n], pre', suf', rfl, rfl, HV.out.2.1.trans hlk2, hlk3, HFIN.out.1, hnf, hfr3, hch, fun q hq => ?_, by rw [List.length_append]; simp; omega⟩
            rcases List.mem_append.1 hq with hq | hq
            · exact hfrs q hq
            · rw [List.mem_singleton] at hq; subst hq; exact ⟨hnf, hfr1⟩
end
end Go.Proofs.YtghbbpbhbinioaaGreat

namespace Go.Proofs.YtghbbpbhbinioaaGreat
set_option maxRecDepth 100000
set_option linter.unusedSimpArgs false
set_option linter.unusedVariables false
open Go.RowKit
structure TRes (most : Nat) (M : Cells) (P : Nat → Nat) (root : Nat) (ow : Int) (l' : List Pr) (q n : Nat) (M' : Cells) : Prop where
  bk : Bk (most + 1) M' [] (out1 P root ow) [n]
  keeps : Keeps (out1 P root ow) M M'
  live : live (most + 1) M' ≤ Proofs.YtghbbpbhbinioaaGreat.live (most + 1) M + q
  tt : TT M' n l'
section
variable {most : Nat} {M : Cells} {F X0 : Nat → Prop}
set_option maxHeartbeats 1600000 in
theorem tdo_no (x : Yv) (need : Nat) (fv : Value) (w : World) (h : Ar w x.b most M F) (hroom : most < live (most + 1) M + need) :
    Calls Tryz.prog 112 #[yagg x, .int .i64 (need : Nat), fv] w fun e w' => e = .returned (.tuple #[.int .i64 0, .int .i64 5]) ∧ Below w.heap.size w w' := by
  have hb : Below w.heap.size w (w.alloc (.cells (ycells x) 146)) := (Below.refl _ w).alloc (Nat.le_refl _) _
  have q3 := BC.new w 146 (ycells x)
  have HA := Lib.hid (h.below hb)
  have HB := Lib.hid hb
  have HR := Lib.hid hroom
  clear hb h hroom
  go_enter Tryz.func112, Tryz.ntmps112
  go_upto_region 1 with fail
  change Code.wp _ _ _ _ (w.alloc (.cells (ycells x) 146))
  generalize w.alloc _ = W1 at q3 HA HB ⊢
  have x0 := q3.way.1
  have x2 := q3.way.2.2.1
  have x6 := q3.way.2.2.2.2.2.2.1
  have HC := Lib.hid (fun (vs : Value) (W : World) (hb : Below W1.heap.size W1 W) => vBegin_no x.ow need vs W (HA.out.below hb) HR.out)
  have hb2 : Below W1.heap.size W1 (W1.alloc (.cells #[.int .i64 (x.root : Int)] 3)) := (Below.refl _ W1).alloc (Nat.le_refl _) _
  have HB2 := Lib.hid hb2
  clear q3 hb2
  go_wp2_with fail
  refine (HC.out _ _ HB2.out).mono ?_
  rintro e w2 ⟨rfl, hb3⟩
  have HB3 := Lib.hid (HB.out.trans ((HB2.out.trans (hb3.mono HB2.out.size)).mono HB.out.size))
  clear hb3 x0 x2 x6 HC
  go_wp2_with fail
  exact bodyPost_ret (v := .tuple #[.int .i64 0, .int .i64 5]) (by simp [results, Tryz.results112, go_sem]) rfl ⟨rfl, HB3.out⟩
set_option maxHeartbeats 1600000 in
theorem tdo_yes (x : Yv) (need : Nat) (f : FuncId) (caps : Array Value) (Q : World → Prop) (R : Value → World → Prop) (w : World) (hfe : ∀ (args : Array Value) (W : World), (callFunc f args).run Tryz.prog W = .ok (.enter f args) W)
    (hB : ∀ W vs, Below w.heap.size w W → Rd W vs 1 (nums (ns [x.root])) → (∀ q, vs.ownBlock = some q → w.heap.size ≤ q ∧ q < W.heap.size) →
      Calls Tryz.prog 158 #[ap x.b, .int .u32 x.ow, .int .i64 (need : Nat), vs] W fun e W' => e = .returned (.bool true) ∧ Q W')
    (hP : ∀ W, Q W → Calls Tryz.prog f caps W fun e W' => ∃ v, e = .returned v ∧ R v W') :
    Calls Tryz.prog 112 #[yagg x, .int .i64 (need : Nat), .func (.func f) #[] caps] w fun e w' => ∃ v, e = .returned (.tuple #[v, .int .i64 0]) ∧ R v w' := by
  have hb : Below w.heap.size w (w.alloc (.cells (ycells x) 146)) := (Below.refl _ w).alloc (Nat.le_refl _) _
  have q3 := BC.new w 146 (ycells x)
  have HB := Lib.hid hb
  have HC := Lib.hid hB
  have HP := Lib.hid hP
  clear hb hB hP
  go_enter Tryz.func112, Tryz.ntmps112
  go_upto_region 1 with fail
  change Code.wp _ _ _ _ (w.alloc (.cells (ycells x) 146))
  generalize w.alloc _ = W1 at q3 HB ⊢
  have x0 := q3.way.1
  have x2 := q3.way.2.2.1
  have x6 := q3.way.2.2.2.2.2.2.1
  have HC2 := Lib.hid (HC.out (W1.alloc (.cells #[.int .i64 (x.root : Int)] 3)) (.slice (some ⟨W1.heap.size, 0, none⟩) 1 1) (HB.out.alloc HB.out.size _) (Rd.one W1 (.int .i64 (x.root : Int)) 3) (fun q hq => by
    simp only [Value.ownBlock, Option.some.injEq] at hq
    subst hq
    exact ⟨HB.out.size, by simp⟩))
  clear q3 HC
  go_wp2_with fail
  refine HC2.out.mono ?_
  rintro e w2 ⟨rfl, hq⟩
  have HQ := Lib.hid hq
  clear hq x0 x2 x6 HC2
  go_wp2_with fail
  refine (HP.out _ HQ.out).mono ?_
  rintro e w3 ⟨v, rfl, hR⟩
  have HR := Lib.hid hR
  clear hR HP HQ
  go_wp2_with fail
  exact bodyPost_ret (v := .tuple #[v, .int .i64 0]) (by simp [results, Tryz.results112, go_sem]) rfl ⟨v, rfl, HR.out⟩
theorem tdo_bk (x : Yv) (f : FuncId) (caps : Array Value) (need q : Nat) (L : List Pr) (P : Nat → Nat) (w : World) (h : Ar w x.b most M F) (hm : most ≤ 1048576) (hfe : ∀ (args : Array Value) (W : World), (callFunc f args).run Tryz.prog W = .ok (.enter f args) W)
    (hX : ∀ z, X0 z → z < w.heap.size ∧ ¬ F z) (hb : Bk (most + 1) M [] P [x.root]) (hP : ∀ j, P j ≤ 576460752303423488) (hroom : live (most + 1) M + need ≤ most)
    (hsw : ∀ (W : World) (M1 : Cells) (P1 : Nat → Nat) (F1 : Nat → Prop), Rn w W x.b most M1 F F1 → P1 = out1 P x.root x.ow → Bk (most + 1) M1 [] P1 [x.root] → (∀ j, P1 j ≤ P j + 1) → (∀ r, Pres M M1 r) → live (most + 1) M1 = live (most + 1) M →
      Calls Tryz.prog f caps W fun e W' => ∃ (n2 : Nat) (M2 : Cells), e = .returned (.int .i64 (n2 : Nat)) ∧ TR most M1 [] P1 L q n2 M2 ∧ StpX W W' x.b most M2 F1 X0) :
    Calls Tryz.prog 112 #[yagg x, .int .i64 (need : Nat), .func (.func f) #[] caps] w fun e w' => ∃ (n : Nat) (M' : Cells), e = .returned (.tuple #[.int .i64 (n : Nat), .int .i64 0]) ∧ TRes most M P x.root x.ow L q n M' ∧ StpX w w' x.b most M' F X0 := by
  have hF : ∀ q, F q → q < w.heap.size := fun q hq => h.lt hq
  have hbb := hb.beg1 x.ow
  refine (tdo_yes x need f caps (fun W => Stp w W x.b most (beg1 M x.root x.ow) F) (fun v w' => ∃ (n : Nat) (M' : Cells), v = .int .i64 (n : Nat) ∧ TRes most M P x.root x.ow L q n M' ∧ StpX w w' x.b most M' F X0) w hfe (fun W vs hW hrd hown => ?_) (fun W hS => ?_)).mono ?_
  · have hA := h.below hW
    by_cases h0 : x.ow = 0
    · rw [h0]
      refine (vBegin_keep need [x.root] vs W hA hroom hrd (fun q hq => ⟨fun hf => by have h1 := hown q hq; have h2 := h.lt hf; omega, (hown q hq).2⟩) (by show 1 ≤ _; decide) (fun j => by
        have h1 := bk_rf hm hP hb (by show 1 ≤ 64; decide) j
        show rf (M j) + 1 ≤ _
        omega)).mono ?_
      rintro e W' ⟨rfl, hs2⟩
      have hs3 : Stp w W' x.b most (beg1 M x.root 0) F := Stp.from (fun y hy => h.lt hy) hW (by unfold beg1; rw [if_pos rfl]; exact hs2)
      exact ⟨rfl, hs3⟩
    · refine (vBegin_own x.ow need vs W hA hroom h0).mono ?_
      rintro e W' ⟨rfl, hb2⟩
      refine ⟨rfl, ?_⟩
      unfold beg1
      rw [if_neg h0]
      exact Stp.below h (hW.trans (hb2.mono hW.size))
  · have hRn : Rn w W x.b most (beg1 M x.root x.ow) F (Fn F w W) := ⟨hS.ar, hS.kp, fun y hy => hy.imp id (fun hy => hy.1)⟩
    refine (hsw W (beg1 M x.root x.ow) (out1 P x.root x.ow) (Fn F w W) hRn rfl hbb (fun j => out1_le P x.root x.ow j) (fun r => beg1_pres M x.root x.ow r) (beg1_live _ _ _)).mono ?_
    rintro e W2 ⟨n, M', rfl, hr, hs2⟩
    refine ⟨_, rfl, n, M', rfl, ⟨hr.bk, fun r h0 hp => ?_, by have := hr.live; rw [beg1_live] at this; exact this, ?_⟩, ⟨?_, ?_⟩⟩
    · have := hr.keeps r h0 hp
      rw [blank_nil, blank_nil] at this
      exact (beg1_pres M x.root x.ow r).trans this
    · have := hr.tt
      rwa [blank_nil] at this
    · have hs0 := hS.kp.size
      have hs1 := hs2.kp.size
      refine hs2.ar.mono (fun z hz => ?_) (fun z hz => hz.elim (fun hz => by have := hF z hz; omega) (fun hz => hz.2))
      rcases hz with (hz | hz) | hz
      · exact .inl hz
      · exact .inr ⟨hz.1, by omega⟩
      · exact .inr ⟨by omega, hz.2⟩
    · refine (hS.kp.fx (fun z hz => .inl hz) : Kp (FX F X0) w W).trans hs2.kp (fun z hz => ?_)
      rcases hz with (hz | hz) | hz
      · exact .inl (.inl hz)
      · exact .inr hz.1
      · exact .inl (.inr hz)
  · rintro e w' ⟨v, rfl, n, M', rfl, h1, h2⟩
    exact ⟨n, M', rfl, h1, h2⟩
end
end Go.Proofs.YtghbbpbhbinioaaGreat
