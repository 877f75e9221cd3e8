/- Package pvec: what Set's function does to a leaf. -/
import Derived.Test.YtgkhbnkbhcginaaRenewS06
namespace Go.Proofs.Ytgkhbnkbhcginaa
open Go.RowKit

theorem flat3_set {l : Vs} {m : Nat} {x : Int × Int × ByteArray} (hm : m < l.length) {j : Nat} {u : Value} (h : ((l.set m x).flatMap cells3)[j]? = some u) :
    (j = m * 3 ∧ u = .int .u8 x.1) ∨ (j = m * 3 + 1 ∧ u = .int .i64 x.2.1) ∨ (j = m * 3 + 2 ∧ u = .string x.2.2) ∨ ((j < m * 3 ∨ m * 3 + 2 < j) ∧ (l.flatMap cells3)[j]? = some u) := by
  have hlt : j < (l.set m x).length * 3 := by rw [← flat_len]; exact (List.getElem?_eq_some_iff.1 h).1
  rw [List.length_set] at hlt
  have hq : j / 3 < l.length := by omega
  have hj : j = j / 3 * 3 + j % 3 := by omega
  have hr : j % 3 < 3 := Nat.mod_lt _ (by omega)
  by_cases e : j / 3 = m
  · have hx : (l.set m x)[j / 3]? = some x := by rw [e, List.getElem?_set_self hm]
    have h1 := flat_get _ _ _ hx (j % 3) hr
    rw [← hj, h] at h1
    generalize j % 3 = t at hj hr h1
    match t, hr with
    | 0, _ => simp [cells3] at h1; exact .inl ⟨by omega, h1⟩
    | 1, _ => simp [cells3] at h1; exact .inr (.inl ⟨by omega, h1⟩)
    | 2, _ => simp [cells3] at h1; exact .inr (.inr (.inl ⟨by omega, h1⟩))
  · obtain ⟨y, hy⟩ : ∃ y, l[j / 3]? = some y := ⟨_, List.getElem?_eq_getElem hq⟩
    have hx : (l.set m x)[j / 3]? = some y := by rw [List.getElem?_set_ne (Ne.symm e)]; exact hy
    have h1 := flat_get _ _ _ hx (j % 3) hr
    have h2 := flat_get _ _ _ hy (j % 3) hr
    rw [← hj, h] at h1
    rw [← hj, ← h1] at h2
    exact .inr (.inr (.inr ⟨by omega, h2⟩))

/-- A row in which one value has been set. -/
theorem rd_put {w : World} {base g n cp m : Nat} {l : Vs} (x : Int × Int × ByteArray) (h : w.ownsRow base 38 3 (.slice (some ⟨g, 0, none⟩) n cp) n (l.flatMap cells3)) (hn : l.length = n) (hm : m < l.length) :
    Rd (((w.setCell ⟨g, m * 3, none⟩ (.int .u8 x.1)).setCell ⟨g, m * 3 + 1, none⟩ (.int .i64 x.2.1)).setCell ⟨g, m * 3 + 2, none⟩ (.string x.2.2)) (.slice (some ⟨g, 0, none⟩) n cp) (l.set m x).length ((l.set m x).flatMap cells3) := by
  obtain ⟨y, hy⟩ : ∃ y, l[m]? = some y := ⟨_, List.getElem?_eq_getElem hm⟩
  obtain ⟨f0, f1, f2⟩ := flat3_at hy
  have key : ∀ (q : Nat) (u : Value), (l.flatMap cells3)[q]? = some u → w.cell? ⟨g, q, none⟩ = some u := fun q u hu => by
    have := h.cells (g := g) rfl q u hu
    rwa [add_none, Nat.zero_add] at this
  have k0 := key _ _ f0
  have k1 := key _ _ f1
  have k2 := key _ _ f2
  have ne : ∀ a b : Nat, a ≠ b → (⟨g, a, none⟩ : Addr) ≠ ⟨g, b, none⟩ := fun a b hab e => hab (by injection e)
  rw [List.length_set, hn]
  have hcp : n ≤ cp := by
    obtain ⟨_, _, e', hle⟩ := (Rd.of_own h).form
    simp only [Value.slice.injEq] at e'
    omega
  refine .inr ⟨g, 0, cp, rfl, hcp, fun j u hu => ?_⟩
  rw [Nat.zero_add]
  rcases flat3_set hm hu with ⟨rfl, rfl⟩ | ⟨rfl, rfl⟩ | ⟨rfl, rfl⟩ | ⟨hj, hu'⟩
  · rw [World.cell?_setCell_other _ _ _ _ (ne (m * 3 + 2) (m * 3) (by omega)), World.cell?_setCell_other _ _ _ _ (ne (m * 3 + 1) (m * 3) (by omega)), World.cell?_setCell_same _ _ _ k0]
  · rw [World.cell?_setCell_other _ _ _ _ (ne (m * 3 + 2) (m * 3 + 1) (by omega)), World.cell?_setCell_same _ _ _ ((World.cell?_setCell_other _ _ _ _ (ne (m * 3) (m * 3 + 1) (by omega))).trans k1)]
  · rw [World.cell?_setCell_same _ _ _ ((World.cell?_setCell_other _ _ _ _ (ne (m * 3 + 1) (m * 3 + 2) (by omega))).trans ((World.cell?_setCell_other _ _ _ _ (ne (m * 3) (m * 3 + 2) (by omega))).trans k2))]
  · rw [World.cell?_setCell_other _ _ _ _ (ne (m * 3 + 2) j (by omega)), World.cell?_setCell_other _ _ _ _ (ne (m * 3 + 1) j (by omega)), World.cell?_setCell_other _ _ _ _ (ne (m * 3) j (by omega))]
    exact key _ _ hu'

section
variable {b most : Nat} {M1 : Cells} {F : Nat → Prop}
set_option maxRecDepth 100000 in
set_option maxHeartbeats 1600000 in
/-- One of its values is another. -/
theorem chgS_put (x : Int × Int × ByteArray) (i zx zi : Nat) (w : World) (hx : C3 w zx 38 (.int .u8 x.1) (.int .i64 x.2.1) (.string x.2.2)) (hi : w.cell? ⟨zi, 0, none⟩ = some (.int .i64 (i : Int))) (nx : ¬ F zx) (ni : ¬ F zi) (c : Hc) (hlt : i % 32 < c.vals.length) (hi2 : i < 1048576) :
    ChgS 49 #[.pointer (some ⟨zx, 0, none⟩), .pointer (some ⟨zi, 0, none⟩)] b most F w M1 c (fun c' M2 => c' = { c with vals := c.vals.set (i % 32) x } ∧ M2 = M1) := by
  intro o v k W F1 hRn nv nk o1 o2
  obtain ⟨y, hy⟩ : ∃ y, (c.vals.flatMap cells3)[0]? = some y := by
    cases e : c.vals with
    | nil => rw [e] at hlt; simp at hlt
    | cons x l => exact ⟨_, rfl⟩
  obtain ⟨g, m1, rfl, hm1, _, _⟩ := own_at o1 hy
  obtain ⟨A2, m2, rfl, _⟩ := (Rd.of_own o2).form
  have hX := hx.kp hRn.kp nx
  obtain ⟨p0, p1, p2, _⟩ := hX.all
  have hz : W.cell? ⟨zi, 0, none⟩ = some (.int .i64 (i : Int)) := hRn.kp.cell hi ni
  have hzl : zi < W.heap.size := World.block_lt_of_cell? W _ hz
  have hxl : zx < W.heap.size := hX.lt
  have hws := hRn.kp.size
  have hg := own_blk o1 g rfl
  have hsl := Lib.hid (show ∀ W, Calls Try.prog 41 #[.int .i64 (i : Int)] W fun e w' => e = .returned (.int .i64 ((i % 32 : Nat) : Int)) ∧ W = w' from fun W => vslot i W (by omega))
  have O1 := Lib.hid o1
  have O2 := Lib.hid o2
  have O2' := Lib.hid o2
  have RN := Lib.hid hRn
  have NV := Lib.hid nv
  have NK := Lib.hid nk
  have hxg : zx ≠ g := by
    rintro rfl
    have := hx.lt
    omega
  have hig : zi ≠ g := by
    rintro rfl
    have : zi < w.heap.size := World.block_lt_of_cell? w _ hi
    omega
  clear o1 o2 hRn nv nk hx hi hX hy
  show Calls Try.prog 49 #[cagg o c.a c.b (.slice (some ⟨g, 0, none⟩) c.vals.length m1) (.slice A2 c.kids.length m2), .pointer (some ⟨zx, 0, none⟩), .pointer (some ⟨zi, 0, none⟩)] W _
  go_enter Try.func49, Try.ntmps49
  go_wp2_with fail
  have hb2 : Below W.heap.size W ((W.alloc (.cells #[.int .u32 o, .int .u32 c.a, .int .u32 c.b, .slice (some ⟨g, 0, none⟩) c.vals.length m1, .slice A2 c.kids.length m2] 59)).alloc (.cells #[.int .u32 0, .int .u32 0, .int .u32 0, .slice none 0 0, .slice none 0 0] 59)) := ((Below.refl _ W).alloc (Nat.le_refl _) _).alloc (by simp) _
  have q1 := (C5.new W 59 (.int .u32 o) (.int .u32 c.a) (.int .u32 c.b) (.slice (some ⟨g, 0, none⟩) c.vals.length m1) (.slice A2 c.kids.length m2)).alloc (.cells #[.int .u32 0, .int .u32 0, .int .u32 0, .slice none 0 0, .slice none 0 0] 59)
  have q2 := C5.new (W.alloc (.cells #[.int .u32 o, .int .u32 c.a, .int .u32 c.b, .slice (some ⟨g, 0, none⟩) c.vals.length m1, .slice A2 c.kids.length m2] 59)) 59 (.int .u32 0) (.int .u32 0) (.int .u32 0) (.slice none 0 0) (.slice none 0 0)
  rw [show (W.alloc (.cells #[.int .u32 o, .int .u32 c.a, .int .u32 c.b, .slice (some ⟨g, 0, none⟩) c.vals.length m1, .slice A2 c.kids.length m2] 59)).heap.size = W.heap.size + 1 by simp] at q2
  have HK := Lib.hid (Kp.of_below hb2 (fun _ => False))
  have hz2 := HK.out.cell hz id
  have P0 := HK.out.cell p0 id
  have P1 := HK.out.cell p1 id
  have P2 := HK.out.cell p2 id
  have O1a := Lib.hid (HK.out.own O1.out (fun _ _ h => h))
  have O2a := Lib.hid (HK.out.own O2.out (fun _ _ h => h))
  generalize (W.alloc (.cells #[.int .u32 o, .int .u32 c.a, .int .u32 c.b, .slice (some ⟨g, 0, none⟩) c.vals.length m1, .slice A2 c.kids.length m2] 59)).alloc (.cells #[.int .u32 0, .int .u32 0, .int .u32 0, .slice none 0 0, .slice none 0 0] 59) = w2 at q1 q2 hz2 P0 P1 P2 HK O1a O2a ⊢
  obtain ⟨x0, x1, x2, x3, x4, y0, y1, y2, y3, y4⟩ := q1.all
  obtain ⟨z0, z1, z2, z3, z4, u0, u1, u2, u3, u4⟩ := q2.all
  generalize hm : i % 32 = m at hlt hsl
  have NG := Lib.hid (show (∀ q, (Value.slice A2 c.kids.length m2).ownBlock = some q → q ≠ g) ∧ g < W.heap.size ∧ w.heap.size ≤ g from ⟨fun q hq => by
    obtain ⟨cur, hcur⟩ := own_type O1.out g rfl
    exact own_ne O2.out hcur (by decide) q hq, hg.2, hg.1⟩)
  obtain ⟨y, hy⟩ : ∃ y, c.vals[m]? = some y := ⟨_, List.getElem?_eq_getElem hlt⟩
  obtain ⟨k0, k1, k2⟩ := flat3_at hy
  obtain ⟨_, _, e, _, v0, g0⟩ := own_at O1a.out k0
  simp only [Value.slice.injEq, Option.some.injEq, Addr.mk.injEq, and_true, true_and] at e
  obtain ⟨rfl, rfl⟩ := e
  obtain ⟨_, _, e, _, v1, g1⟩ := own_at O1a.out k1
  simp only [Value.slice.injEq, Option.some.injEq, Addr.mk.injEq, and_true, true_and] at e
  obtain ⟨rfl, rfl⟩ := e
  obtain ⟨_, _, e, _, v2, g2⟩ := own_at O1a.out k2
  simp only [Value.slice.injEq, Option.some.injEq, Addr.mk.injEq, and_true, true_and] at e
  obtain ⟨rfl, rfl⟩ := e
  have hm3 : (0 : Int) ≤ (m : Int) := by omega
  have hm4 : (m : Int) < (c.vals.length : Int) := by omega
  have HLT := Lib.hid hlt
  have HM := Lib.hid hm
  clear q1 q2 hb2 hz O1 O2 p0 p1 p2 hy k0 k1 k2 hlt hm
  go_region_with (go_at_call 41; refine (hsl.out _).mono ?_; rintro e w' ⟨rfl, rfl⟩)
  all_goals
    go_wp2_with fail
    have hput := rd_put x O1a.out rfl HLT.out
    have hk1 : Kp (fun q => q = g) W (((w2.setCell ⟨g, m * 3, none⟩ (.int .u8 x.1)).setCell ⟨g, m * 3 + 1, none⟩ (.int .i64 x.2.1)).setCell ⟨g, m * 3 + 2, none⟩ (.string x.2.2)) := ((((HK.out.mono (G := fun q => q = g) (fun _ h _ => h.elim)).setCell (.inl rfl) _).setCell (.inl rfl) _).setCell (.inl rfl) _)
    have hk2 : Kp (fun q => q = W.heap.size + 1) (((w2.setCell ⟨g, m * 3, none⟩ (.int .u8 x.1)).setCell ⟨g, m * 3 + 1, none⟩ (.int .i64 x.2.1)).setCell ⟨g, m * 3 + 2, none⟩ (.string x.2.2)) ((((((((w2.setCell ⟨g, m * 3, none⟩ (.int .u8 x.1)).setCell ⟨g, m * 3 + 1, none⟩ (.int .i64 x.2.1)).setCell ⟨g, m * 3 + 2, none⟩ (.string x.2.2)).setCell ⟨W.heap.size + 1, 0, none⟩ (.int .u32 o)).setCell ⟨W.heap.size + 1, 1, none⟩ (.int .u32 c.a)).setCell ⟨W.heap.size + 1, 2, none⟩ (.int .u32 c.b)).setCell ⟨W.heap.size + 1, 3, none⟩ (.slice (some ⟨g, 0, none⟩) c.vals.length m1)).setCell ⟨W.heap.size + 1, 4, none⟩ (.slice A2 c.kids.length m2)).drew := ((((((Kp.refl (fun q => q = W.heap.size + 1) _).setCell (.inl rfl) _).setCell (.inl rfl) _).setCell (.inl rfl) _).setCell (.inl rfl) _).setCell (.inl rfl) _).drew
    have hk12 := hk1.trans hk2 (fun q e => .inr (by omega))
    refine bodyPost_ret (v := cagg o c.a c.b (.slice (some ⟨g, 0, none⟩) c.vals.length m1) (.slice A2 c.kids.length m2)) (by simp [results, Try.results49, go_sem, z0, z1, z2, z3, z4]) rfl ⟨_, _, { c with vals := c.vals.set (i % 32) x }, M1, F1, by simp, ?_, ?_, RN.out.mine hk12 (fun q e => e ▸ ⟨NG.out.2.2, NV.out g rfl⟩), NV.out, NK.out, rfl, rfl⟩
    · rw [HM.out]
      exact hk2.rd hput (fun q hq => by have e : g = q := Option.some.inj hq; have := NG.out.2.1; omega)
    · exact hk12.rd (Rd.of_own O2'.out) (fun q hq => NG.out.1 q hq)
end

end Go.Proofs.Ytgkhbnkbhcginaa
