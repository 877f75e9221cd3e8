/- Several texts in one. -/
import Derived.Test.YtfiledbjbpkleaaGreatMs24
import Derived.Test.YtfiledbjbpkleaaGreatMs22
import Derived.Laws.EntriesVeiled
import Derived.IntWalk
import Derived.Test.YtfiledbjbpkleaaGreatMs02
import Derived.Test.YtfiledbjbpkleaaGreatMs09
import Derived.Test.YtfiledbjbpkleaaGreatMs03
import Derived.Test.YtfiledbjbpkleaaGreatMs16
namespace Go.Proofs.YtfiledbjbpkleaaGreat
set_option maxRecDepth 100000
set_option linter.unusedSimpArgs false
set_option linter.unusedVariables false
open Go.RowKit Go.Shelf
attribute [local go_sem] Oper.semAt_some
def gaF (most : Nat) (wb : Nat → Pr → Bool) : Nat → List Pr → List Pr → List Pr
  | _, [], acc => acc
  | i, p :: l, acc => if acc.length = most then acc else gaF most wb (i + 1) l (if wb i p then acc ++ [p] else acc)
structure GR (W0 : World) (n5 zl zm zt zc zg : Nat) (b bh N root most : Nat) (f : FuncId) (caps : Array Value) (acc : List Pr) (vg : Value) (W : World) : Prop where
  tb : C1 W zt 3 (.int .i64 (most : Int))
  cb : C1 W zc 150 (.func (.func f) #[] caps)
  gb : C1 W zg 45 vg
  own : W.ownsRow n5 48 6 vg acc.length (acc.flatMap pcells)
  zs : W0.heap.size ≤ zt ∧ W0.heap.size ≤ zc ∧ W0.heap.size ≤ zg ∧ zt < n5 ∧ zc < n5 ∧ zg < n5 ∧ zt ≠ zg ∧ zc ≠ zg ∧ n5 ≤ W.heap.size
section
variable {W0 W W' : World} {n5 zl zm zt zc zg b bh N root most : Nat} {f : FuncId} {caps : Array Value} {acc : List Pr} {vg : Value}
theorem GR.kp {G : Nat → Prop} (h : GR W0 n5 zl zm zt zc zg b bh N root most f caps acc vg W) (hk : Kp G W W') (hG : ∀ q, G q → q ≠ zt ∧ q ≠ zc ∧ q ≠ zg ∧ vg.ownBlock ≠ some q) : GR W0 n5 zl zm zt zc zg b bh N root most f caps acc vg W' := by
  obtain ⟨s1, s2, s3, s4, s5, s6, s7, s8, s9⟩ := h.zs
  have := hk.size
  exact ⟨h.tb.kp hk (fun hg => (hG _ hg).1 rfl), h.cb.kp hk (fun hg => (hG _ hg).2.1 rfl), h.gb.kp hk (fun hg => (hG _ hg).2.2.1 rfl), hk.own h.own (fun q hq hg => (hG q hg).2.2.2 hq), ⟨s1, s2, s3, s4, s5, s6, s7, s8, by omega⟩⟩
theorem GR.below (h : GR W0 n5 zl zm zt zc zg b bh N root most f caps acc vg W) (hb : Below W.heap.size W W') : GR W0 n5 zl zm zt zc zg b bh N root most f caps acc vg W' :=
  h.kp (Kp.of_below hb (fun _ => False)) (fun _ h => h.elim)
theorem GR.old {G : Nat → Prop} (h : GR W0 n5 zl zm zt zc zg b bh N root most f caps acc vg W) (hk : Kp G W W') (hG : ∀ q, G q → q < W0.heap.size) : GR W0 n5 zl zm zt zc zg b bh N root most f caps acc vg W' := by
  obtain ⟨s1, s2, s3, s4, s5, s6, s7, s8, s9⟩ := h.zs
  refine h.kp hk (fun q hg => ?_)
  have := hG q hg
  exact ⟨by omega, by omega, by omega, fun hv => by have := (own_blk h.own q hv).1; omega⟩
theorem GR.grown {row : Option Nat} (h : GR W0 n5 zl zm zt zc zg b bh N root most f caps acc vg W) (hg : W.grownBy W' row) (hr : ∀ r, row = some r → n5 ≤ r ∧ ∃ o : Obj, W.heap[r]? = some o ∧ o.isCells = false) : GR W0 n5 zl zm zt zc zg b bh N root most f caps acc vg W' := by
  obtain ⟨s1, s2, s3, s4, s5, s6, s7, s8, s9⟩ := h.zs
  refine h.kp (Kp.of_grown hg (fun q e => .inl e)) (fun q e => ?_)
  obtain ⟨h1, o, h2, h3⟩ := hr q e
  refine ⟨by omega, by omega, by omega, fun hv => ?_⟩
  obtain ⟨cur, hc⟩ := own_type h.own q hv
  rw [h2] at hc
  obtain rfl := Option.some.inj hc
  cases h3
theorem GR.next {v' : Value} {p : Pr} {W2 W3 : World} (h : GR W0 n5 zl zm zt zc zg b bh N root most f caps acc vg W) (hb : Below W.heap.size W W2) (ho : W3.ownsRow n5 48 6 v' (acc.length + 1) (acc.flatMap pcells ++ pcells p)) (hg : W2.grownBy W3 vg.ownBlock) :
    GR W0 n5 zl zm zt zc zg b bh N root most f caps (acc ++ [p]) v' (W3.setCell ⟨zg, 0, none⟩ v') ∧ Kp (fun q => q = zg ∨ vg.ownBlock = some q) W (W3.setCell ⟨zg, 0, none⟩ v') := by
  obtain ⟨s1, s2, s3, s4, s5, s6, s7, s8, s9⟩ := h.zs
  have hs2 := hb.size
  have hs3 := (Kp.of_grown hg (F := fun q => vg.ownBlock = some q) (fun q e => .inl e)).size
  have k2 : Kp (fun q => vg.ownBlock = some q) W W3 := (Kp.of_below hb _).trans (Kp.of_grown hg (fun q e => .inl e)) (fun q e => .inl e)
  have kz : Kp (fun q => q = zg) W3 (W3.setCell ⟨zg, 0, none⟩ v') := Kp.one W3 zg 0 v'
  have hblk : ∀ q, vg.ownBlock = some q → n5 ≤ q := fun q hq => (own_blk h.own q hq).1
  have hv' : ∀ q, v'.ownBlock = some q → n5 ≤ q := fun q hq => (own_blk ho q hq).1
  refine ⟨⟨(h.tb.kp k2 (fun e => by have := hblk _ e; omega)).kp kz s7, (h.cb.kp k2 (fun e => by have := hblk _ e; omega)).kp kz s8, (h.gb.kp k2 (fun e => by have := hblk _ e; omega)).set _, ?_, ⟨s1, s2, s3, s4, s5, s6, s7, s8, by simp; omega⟩⟩, (k2.mono (fun q h _ => .inr h)).trans kz (fun q h => .inl (.inl h))⟩
  rw [List.length_append, List.flatMap_append]
  refine kz.own (by simpa using ho) (fun q hq e => ?_)
  have := hv' q hq
  omega
theorem GR.kv {n most' root' : Nat} {M0 M : Cells} {F : Nat → Prop} (h : GR W0 n5 zl zm zt zc zg b bh N root most f caps acc vg W) (ha : Ar W b most' M F) (hF : ∀ q, F q → q < W0.heap.size) (hn5 : n5 ≤ n) (hk : Kp (fun q => q = zg ∨ vg.ownBlock = some q) W W') : Kv n b most' M0 root' W W' ∧ KeepsOthers W W' := by
  obtain ⟨s1, s2, s3, s4, s5, s6, s7, s8, s9⟩ := h.zs
  refine ⟨Kv.of_kp ha hk (fun q hq hf => ?_) (fun q cur t hq hn hc => ?_), KeepsOthers.of_kp hk (fun q o hq ho => ?_)⟩
  · have := hF q hf
    rcases hq with rfl | hq
    · omega
    · have := (own_blk h.own q hq).1; omega
  · rcases hq with rfl | hq
    · omega
    · obtain ⟨cur', hc'⟩ := own_type h.own q hq
      rw [hc] at hc'
      simp only [Option.some.injEq, Obj.cells.injEq] at hc'
      rw [hc'.2.1]
      unfold Vt
      decide
  · rcases hq with rfl | hq
    · have h1 : W.heap[q]? = some _ := h.gb
      rw [ho] at h1
      rw [Option.some.inj h1]
      rfl
    · obtain ⟨cur', hc'⟩ := own_type h.own q hq
      rw [ho] at hc'
      rw [Option.some.inj hc']
      rfl
end
theorem hinfo9 : (Tryz.prog.info? 48).map (fun i => (i.zero, i.size, i.bytes)) = some (some (.agg #[.int .u8 0, .int .i64 0, .string ⟨#[]⟩, .int .u8 0, .int .i64 0, .string ⟨#[]⟩]), 6, 64) := by kernel_rfl
structure Wants (n0 : Nat) (f : FuncId) (caps : Array Value) (l : List Pr) (wb : Nat → Pr → Bool) (Gc : Nat → Prop) (C : Nat → World → Prop) : Prop where
  run : ∀ (args : Array Value) (W : World), (callFunc f args).run Tryz.prog W = .ok (.enter f args) W
  call : ∀ i p W, l[i]? = some p → C i W → Calls Tryz.prog f (#[pagg p] ++ caps) W fun e W' => e = .returned (.bool (wb i p)) ∧ C (i + 1) W' ∧ Kp Gc W W'
  keep : ∀ i A B G, C i A → Kp G A B → (∀ q, G q → n0 ≤ q) → C i B
  cells : ∀ i A q o, C i A → Gc q → A.heap[q]? = some o → o.isCells = true
  old : ∀ q, Gc q → q < n0
def Ing (w : World) (n5 zt zc zg b bh N root most : Nat) (f : FuncId) (caps : Array Value) (Gc : Nat → Prop) (C : Nat → World → Prop) (wb : Nat → Pr → Bool) (l : List Pr) (i : Nat) (W : World) : Prop :=
  ∃ (acc : List Pr) (vg : Value), GR w n5 0 0 zt zc zg b bh N root most f caps acc vg W ∧ Kp Gc w W ∧ C i W ∧ gaF most wb i (l.drop i) acc = gaF most wb 0 l [] ∧ acc.length ≤ i
def Brk (w : World) (n5 zt zc zg b bh N root most : Nat) (f : FuncId) (caps : Array Value) (Gc : Nat → Prop) (C : Nat → World → Prop) (wb : Nat → Pr → Bool) (l : List Pr) (W : World) : Prop :=
  ∃ vg : Value, GR w n5 0 0 zt zc zg b bh N root most f caps (gaF most wb 0 l []) vg W ∧ Kp Gc w W ∧ ∃ j, C j W
theorem Ing.grown {w W W' : World} {n5 zt zc zg b bh N root most : Nat} {f : FuncId} {caps : Array Value} {Gc : Nat → Prop} {C : Nat → World → Prop} {wb : Nat → Pr → Bool} {l l0 : List Pr} {i : Nat} {row : Option Nat} (h : Ing w n5 zt zc zg b bh N root most f caps Gc C wb l i W) (hw : Wants w.heap.size f caps l0 wb Gc C) (hg : W.grownBy W' row) (hr : ∀ r, row = some r → n5 ≤ r ∧ ∃ o : Obj, W.heap[r]? = some o ∧ o.isCells = false) : Ing w n5 zt zc zg b bh N root most f caps Gc C wb l i W' := by
  obtain ⟨acc, vg, h1, h2, h3, h5⟩ := h
  have hn := h1.zs
  exact ⟨acc, vg, h1.grown hg hr, h2.trans (Kp.of_grown hg (F := fun q => row = some q) (fun q e => .inl e)) (fun q e => .inr (by have := (hr q e).1; omega)), hw.keep i _ _ _ h3 (Kp.of_grown hg (F := fun q => row = some q) (fun q e => .inl e)) (fun q e => by have := (hr q e).1; omega), h5⟩
theorem Brk.grown {w W W' : World} {n5 zt zc zg b bh N root most : Nat} {f : FuncId} {caps : Array Value} {Gc : Nat → Prop} {C : Nat → World → Prop} {wb : Nat → Pr → Bool} {l l0 : List Pr} {row : Option Nat} (h : Brk w n5 zt zc zg b bh N root most f caps Gc C wb l W) (hw : Wants w.heap.size f caps l0 wb Gc C) (hg : W.grownBy W' row) (hr : ∀ r, row = some r → n5 ≤ r ∧ ∃ o : Obj, W.heap[r]? = some o ∧ o.isCells = false) : Brk w n5 zt zc zg b bh N root most f caps Gc C wb l W' := by
  obtain ⟨vg, h1, h2, j, h3⟩ := h
  have hn := h1.zs
  exact ⟨vg, h1.grown hg hr, h2.trans (Kp.of_grown hg (F := fun q => row = some q) (fun q e => .inl e)) (fun q e => .inr (by have := (hr q e).1; omega)), j, hw.keep j _ _ _ h3 (Kp.of_grown hg (F := fun q => row = some q) (fun q e => .inl e)) (fun q e => by have := (hr q e).1; omega)⟩
section
set_option maxHeartbeats 8000000 in
theorem vgather {b bh N root most mostA : Nat} {M : Cells} {F : Nat → Prop} {hs : Ky → Nat} {l : List Pr} {f : FuncId} {caps : Array Value} {wb : Nat → Pr → Bool} {Gc : Nat → Prop} {C : Nat → World → Prop} (w : World) (ha : Ar w b mostA M F) (hz : M 0 = none) (hT : Mp M hs root l) (hl : l.length ≤ 1024) (hm : most ≤ 2000)
    (hw : Wants w.heap.size f caps l wb Gc C) (hGF : ∀ q, Gc q → ¬ F q) (h0 : C 0 w) :
    Calls Tryz.prog 96 #[land b bh, .agg #[.int .i64 (N : Nat), .int .i64 (root : Nat)], .int .i64 (most : Nat), .func (.func f) #[] caps] w fun e w' => ∃ v, e = .returned v ∧ w'.ownsRow w.heap.size 48 6 v (gaF most wb 0 l []).length ((gaF most wb 0 l []).flatMap pcells) ∧ (∃ i, C i w') ∧ Kp Gc w w' := by
  have HW := Lib.hid hw
  have HA := Lib.hid (And.intro ha (And.intro hz (And.intro hT (And.intro hl hm))))
  have HGF := Lib.hid hGF
  have HC0 := Lib.hid h0
  obtain ⟨i1, hi1, hy0, hy1, hy2⟩ := info_parts hinfo9
  have HI1 := Lib.hid hi1
  clear hw ha hz hT hl hm hGF h0 hi1
  refine (callsIn_wide (n := 3)).1 ?_
  refine callsIn_of_wp_marks Tryz.func96 rfl trivial ?_ rfl
  refine wpIn_wide.2 ?_
  simp only [Tryz.ntmps96, List.size_toArray, List.length_cons, List.length_nil, Nat.reduceAdd, Nat.reduceSub, Array.replicate_succ, Array.replicate_zero, List.push_toArray, List.append_toArray, List.nil_append, List.cons_append]
  have g0 : GR w (w.heap.size + 1 + 1 + 1 + 1 + 1) 0 0 (w.heap.size + 1 + 1) (w.heap.size + 1 + 1 + 1) (w.heap.size + 1 + 1 + 1 + 1) b bh N root most f caps [] (.slice none 0 0) (((((w.alloc (.cells #[ap b, .pointer (some ⟨bh, 0, none⟩)] 26)).alloc (.cells #[.int .i64 (N : Int), .int .i64 (root : Int)] 30)).alloc (.cells #[.int .i64 (most : Int)] 3)).alloc (.cells #[.func (.func f) #[] caps] 150)).alloc (.cells #[.slice none 0 0] 45)) ∧ C2 (((((w.alloc (.cells #[ap b, .pointer (some ⟨bh, 0, none⟩)] 26)).alloc (.cells #[.int .i64 (N : Int), .int .i64 (root : Int)] 30)).alloc (.cells #[.int .i64 (most : Int)] 3)).alloc (.cells #[.func (.func f) #[] caps] 150)).alloc (.cells #[.slice none 0 0] 45)) w.heap.size 26 (ap b) (.pointer (some ⟨bh, 0, none⟩)) ∧ C2 (((((w.alloc (.cells #[ap b, .pointer (some ⟨bh, 0, none⟩)] 26)).alloc (.cells #[.int .i64 (N : Int), .int .i64 (root : Int)] 30)).alloc (.cells #[.int .i64 (most : Int)] 3)).alloc (.cells #[.func (.func f) #[] caps] 150)).alloc (.cells #[.slice none 0 0] 45)) (w.heap.size + 1) 30 (.int .i64 (N : Int)) (.int .i64 (root : Int)) ∧ Below w.heap.size w (((((w.alloc (.cells #[ap b, .pointer (some ⟨bh, 0, none⟩)] 26)).alloc (.cells #[.int .i64 (N : Int), .int .i64 (root : Int)] 30)).alloc (.cells #[.int .i64 (most : Int)] 3)).alloc (.cells #[.func (.func f) #[] caps] 150)).alloc (.cells #[.slice none 0 0] 45)) := by
    refine ⟨⟨?_, ?_, ?_, World.ownsRow_nil _ _ _ _, by simp; omega⟩, ?_, ?_, ?_⟩
    · have h := ((C1.new ((w.alloc (.cells #[ap b, .pointer (some ⟨bh, 0, none⟩)] 26)).alloc (.cells #[.int .i64 (N : Int), .int .i64 (root : Int)] 30)) 3 (.int .i64 (most : Int))).alloc (.cells #[.func (.func f) #[] caps] 150)).alloc (.cells #[.slice none 0 0] 45)
      simpa using h
    · have h := (C1.new (((w.alloc (.cells #[ap b, .pointer (some ⟨bh, 0, none⟩)] 26)).alloc (.cells #[.int .i64 (N : Int), .int .i64 (root : Int)] 30)).alloc (.cells #[.int .i64 (most : Int)] 3)) 150 (.func (.func f) #[] caps)).alloc (.cells #[.slice none 0 0] 45)
      simpa using h
    · have h := C1.new ((((w.alloc (.cells #[ap b, .pointer (some ⟨bh, 0, none⟩)] 26)).alloc (.cells #[.int .i64 (N : Int), .int .i64 (root : Int)] 30)).alloc (.cells #[.int .i64 (most : Int)] 3)).alloc (.cells #[.func (.func f) #[] caps] 150)) 45 (.slice none 0 0)
      simpa using h
    · exact ((((C2.new w _ _ _).alloc _).alloc _).alloc _).alloc _
    · have h := (((C2.new (w.alloc (.cells #[ap b, .pointer (some ⟨bh, 0, none⟩)] 26)) 30 (.int .i64 (N : Int)) (.int .i64 (root : Int))).alloc (.cells #[.int .i64 (most : Int)] 3)).alloc (.cells #[.func (.func f) #[] caps] 150)).alloc (.cells #[.slice none 0 0] 45)
      simpa using h
    · exact (((((Below.refl _ w).alloc (Nat.le_refl _) _).alloc (by simp) _).alloc (by simp; omega) _).alloc (by simp; omega) _).alloc (by simp; omega) _
  go_upto_region 2 with fail
  generalize (((((w.alloc (.cells #[ap b, .pointer (some ⟨bh, 0, none⟩)] 26)).alloc (.cells #[.int .i64 (N : Int), .int .i64 (root : Int)] 30)).alloc (.cells #[.int .i64 (most : Int)] 3)).alloc (.cells #[.func (.func f) #[] caps] 150)).alloc (.cells #[.slice none 0 0] 45)) = W1 at g0 ⊢
  obtain ⟨n5, hn5⟩ : ∃ n, n = w.heap.size + 1 + 1 + 1 + 1 + 1 := ⟨_, rfl⟩
  obtain ⟨zg, hzg⟩ : ∃ n, n = w.heap.size + 1 + 1 + 1 + 1 := ⟨_, rfl⟩
  obtain ⟨zc, hzc⟩ : ∃ n, n = w.heap.size + 1 + 1 + 1 := ⟨_, rfl⟩
  obtain ⟨zt, hzt⟩ : ∃ n, n = w.heap.size + 1 + 1 := ⟨_, rfl⟩
  obtain ⟨z5, hz5⟩ : ∃ n, n = w.heap.size + 1 := ⟨_, rfl⟩
  obtain ⟨z4, hz4⟩ : ∃ n, n = w.heap.size := ⟨_, rfl⟩
  have g0 := Lib.hid (show GR w n5 0 0 zt zc zg b bh N root most f caps [] (.slice none 0 0) W1 ∧ C2 W1 z4 26 (ap b) (.pointer (some ⟨bh, 0, none⟩)) ∧ C2 W1 z5 30 (.int .i64 (N : Int)) (.int .i64 (root : Int)) ∧ Below w.heap.size w W1 by rw [hn5, hzg, hzc, hzt, hz5, hz4]; exact g0)
  rw [← hzg, ← hzc, ← hzt, ← hz5, ← hz4]
  clear hn5 hzg hzc hzt hz5 hz4
  have x0 := g0.out.2.1.c0
  have x1 := g0.out.2.1.c1
  have x2 := g0.out.2.2.1.c0
  have x3 := g0.out.2.2.1.c1
  go_wp2_with fail
  refine (vPairs b bh N root W1).mono ?_
  rintro x W3 ⟨zl, zm, rfl, ql, qm, hl1, hl2, hb3⟩
  have G3 := Lib.hid (show GR w n5 0 0 zt zc zg b bh N root most f caps [] (.slice none 0 0) W3 ∧ Below w.heap.size w W3 from ⟨g0.out.1.below hb3, g0.out.2.2.2.trans (hb3.mono g0.out.2.2.2.size)⟩)
  have ha3 := HA.out.1.below G3.out.2
  have H3 := Lib.hid (And.intro (show ∀ q, F q → q < w.heap.size from fun q hq => HA.out.1.lt hq) (show n5 ≤ W3.heap.size from G3.out.1.zs.2.2.2.2.2.2.2.2))
  have HG := Lib.hid (pairs_gives (b := b) (bh := bh) (most := mostA) (root := root) (N := N) (M0 := M) (hs := hs) (l := l) zl zm W3 (by have := HA.out.2.2.2.1; omega) HA.out.2.1 HA.out.2.2.1 ⟨M, F, ha3, Pres.refl M root⟩ ql qm)
  clear ql qm hl1 hl2 hb3 x0 x1 x2 x3 ha3 g0
  go_wp2_with fail
  refine wp_range9 (encs := fun p : Pr => #[pagg p]) (first := #[]) (last := #[.pointer (some ⟨zl, 0, none⟩), .pointer (some ⟨zm, 0, none⟩)]) (f := 90) rfl (fun _ _ => rfl) (fun _ => rfl) HG.out (fun h1 h2 => h1.trans h2) (fun W l o o' _ ho hc _ => Kv.putObj ho hc)
    (fun i W' => Ing w n5 zt zc zg b bh N root most f caps Gc C wb l i W') (fun c i W' => c = .exit 0 ∧ Brk w n5 zt zc zg b bh N root most f caps Gc C wb l W') (fun i A B row h hg hr => h.grown HW.out hg (fun r hr' => ⟨Nat.le_trans H3.out.2 (hr r hr').1, (hr r hr').2⟩)) (fun c i A B row h hg hr => ⟨h.1, h.2.grown HW.out hg (fun r hr' => ⟨Nat.le_trans H3.out.2 (hr r hr').1, (hr r hr').2⟩)⟩) ?_ (fun A B hb => Kv.below hb) ?_ ?_ ?_
  · exact ⟨[], _, G3.out.1, Kp.of_below G3.out.2 _, HW.out.keep 0 _ _ _ HC0.out (Kp.of_below G3.out.2 (fun _ => False)) (fun _ h => h.elim), rfl, Nat.le_refl _⟩
  · intro lp i x W4 hx hI hsz
    have I4 := Lib.hid hI
    have HX := Lib.hid hx
    clear hI hx HG G3
    gi_wp2
    have hbA : Below W4.heap.size W4 (W4.alloc (.cells #[.int .u8 x.1.1, .int .i64 x.1.2.1, .string x.1.2.2, .int .u8 x.2.1, .int .i64 x.2.2.1, .string x.2.2.2] 48)) := (Below.refl _ W4).alloc (Nat.le_refl _) _
    refine ⟨hbA, fun j W' => Ing w n5 zt zc zg b bh N root most f caps Gc C wb l j W' ∧ C6 W' W4.heap.size 48 (.int .u8 x.1.1) (.int .i64 x.1.2.1) (.string x.1.2.2) (.int .u8 x.2.1) (.int .i64 x.2.2.1) (.string x.2.2.2), fun j A B row h hg hr => ⟨h.1.grown HW.out hg (fun r hr' => ⟨Nat.le_trans H3.out.2 (hr r hr').1, (hr r hr').2⟩), h.2.own hg (fun r hr' => (hr r hr').2)⟩, ⟨?_, C6.new _ _ _ _ _ _ _ _⟩, fun W5 hJ hs5 => ?_⟩
    · obtain ⟨acc, vg, h1, h2, h3, h5⟩ := I4.out
      exact ⟨acc, vg, h1.below hbA, h2.trans (Kp.of_below hbA (fun _ => False)) (fun _ h => h.elim), HW.out.keep i _ _ _ h3 (Kp.of_below hbA (fun _ => False)) (fun _ h => h.elim), h5⟩
    · obtain ⟨⟨acc, vg, gr5, kp5, c5, hga, hle⟩, p6⟩ := hJ
      have S5 := Lib.hid (And.intro gr5 (And.intro kp5 (And.intro c5 (And.intro hga (And.intro hle p6)))))
      obtain ⟨Ag, cg, hvg, _⟩ := (Rd.of_own gr5.own).form
      subst hvg
      have y0 := gr5.gb.c0
      have y1 := gr5.tb.c0
      have y2 := gr5.cb.c0
      have m0 := p6.c0
      have m1 := p6.c1
      have m2 := p6.c2
      have m3 := p6.c3
      have m4 := p6.c4
      have m5 := p6.c5
      clear gr5 kp5 c5 hga hle p6 I4 hs5 hbA
      have hm2 := HA.out.2.2.2.2
      by_cases hfull : acc.length = most
      · have hf2 : ((acc.length : Int) == (most : Int)) = true := by simp [hfull]
        have hf3 : (acc.length : Int) = (most : Int) := by omega
        gi_wp2
        refine ⟨KeepsOthers.refl W5, Kv.below (Below.refl _ W5), rfl, .slice Ag acc.length cg, ?_, S5.out.2.1, i, S5.out.2.2.1⟩
        have h1 := S5.out.2.2.2.1
        have hdr : l.drop i = x :: l.drop (i + 1) := by
          obtain ⟨hlt, hxe⟩ := List.getElem?_eq_some_iff.1 HX.out
          rw [← hxe]
          exact List.drop_eq_getElem_cons hlt
        rw [hdr] at h1
        have h2 : gaF most wb i (x :: l.drop (i + 1)) acc = acc := by unfold gaF; rw [if_pos hfull]
        rw [h2] at h1
        rw [← h1]
        exact S5.out.1
      · have hf2 : ((acc.length : Int) == (most : Int)) = false := by
          have : ¬ (acc.length : Int) = (most : Int) := by omega
          simpa using this
        have hf3 : ¬ (acc.length : Int) = (most : Int) := by omega
        have HX2 := Lib.hid (show gaF most wb (i + 1) (l.drop (i + 1)) (if wb i x then acc ++ [x] else acc) = gaF most wb 0 l [] by
          have h1 := S5.out.2.2.2.1
          have hdr : l.drop i = x :: l.drop (i + 1) := by
            obtain ⟨hlt, hxe⟩ := List.getElem?_eq_some_iff.1 HX.out
            rw [← hxe]
            exact List.drop_eq_getElem_cons hlt
          rw [hdr] at h1
          rw [← h1]
          show _ = gaF most wb i (x :: l.drop (i + 1)) acc
          rw [gaF, if_neg hfull])
        have hrun := HW.out.run
        clear hfull
        gi_wp2
        clear hrun
        refine ⟨trivial, rfl, ?_⟩
        refine (CallsIn.inRound lp ((callsIn_wide (n := 0)).2 (HW.out.call i x W5 HX.out S5.out.2.2.1))).mono ?_
        rintro e6 W6 ⟨rfl, hc6, hk6⟩
        have g6 := S5.out.1.old hk6 HW.out.old
        have hkv6 : Kv W3.heap.size b mostA M root W5 W6 := Kv.of_kp (HA.out.1.kp S5.out.2.1 (fun q hf hg => HGF.out q hg hf)) hk6 HGF.out (fun q cur t hq hn hc => by
          have h1 := HW.out.old q hq
          have h2 := H3.out.2
          have h3 := g6.zs
          omega)
        have hko6 : KeepsOthers W5 W6 := KeepsOthers.of_kp hk6 (fun q o hq ho => HW.out.cells i W5 q o S5.out.2.2.1 hq ho)
        have p66 := S5.out.2.2.2.2.2.kp hk6 (fun hg => by
          have h1 := HW.out.old _ hg
          have h2 := H3.out.2
          have h3 := g6.zs
          omega)
        have S6 := Lib.hid (And.intro g6 (And.intro (S5.out.2.1.trans hk6 (fun q h => .inl h)) (And.intro hc6 (And.intro hkv6 (And.intro hko6 p66)))))
        have y0 := g6.gb.c0
        have y9 := g6.gb.fz
        have m0 := p66.c0
        have m1 := p66.c1
        have m2 := p66.c2
        have m3 := p66.c3
        have m4 := p66.c4
        have m5 := p66.c5
        clear hc6 hk6 g6 hkv6 hko6 p66 y1 y2 hf2 hf3
        cases hwb : wb i x
        · have hga : gaF most wb (i + 1) (l.drop (i + 1)) acc = gaF most wb 0 l [] := by have := HX2.out; rw [hwb] at this; exact this
          have HGA := Lib.hid hga
          clear hga hwb
          gi_wp2
          exact ⟨S6.out.2.2.2.2.1, S6.out.2.2.2.1, acc, _, S6.out.1, S6.out.2.1, S6.out.2.2.1, HGA.out, by have := S5.out.2.2.2.2.1; omega⟩
        · have hga : gaF most wb (i + 1) (l.drop (i + 1)) (acc ++ [x]) = gaF most wb 0 l [] := by have := HX2.out; rw [hwb] at this; exact this
          have HGA := Lib.hid hga
          clear hga hwb
          gi_wp2_with (gi_at_builtin; refine wpListIn_append_rd (fun _ => trivial) rfl _ _ 45 rfl n5 48 i1 _ 6 64 Tryz.underlying45 HI1.out hy0 hy1 hy2 rfl (by decide) (.slice Ag acc.length cg) acc.length (acc.flatMap pcells) rfl ?k0 _ 1 [.int .u8 x.1.1, .int .i64 x.1.2.1, .string x.1.2.2, .int .u8 x.2.1, .int .i64 x.2.2.1, .string x.2.2.2] rfl ?k1 rfl (by simp [Value.oneCell']) ?k2 ?k3 ?k4 ?_)
          case k0 => exact (Kp.of_below ((Below.refl _ W6).alloc (Nat.le_refl _) (.cells #[.int .u8 x.1.1, .int .i64 x.1.2.1, .string x.1.2.2, .int .u8 x.2.1, .int .i64 x.2.2.1, .string x.2.2.2] 48)) (fun _ => False)).own S6.out.1.own (fun _ _ => id)
          case k1 => exact rd_six _ _ _ _ _ _ _ _ _ rfl
          case k2 => have := S5.out.2.2.2.2.1; have := (List.getElem?_eq_some_iff.1 HX.out).1; have := HA.out.2.2.2.1; unfold maxLen; omega
          case k3 => have := S5.out.2.2.2.2.1; have := (List.getElem?_eq_some_iff.1 HX.out).1; have := HA.out.2.2.2.1; omega
          case k4 => have := S6.out.1.zs; simp; omega
          intro v9 W9 hown hgr _
          obtain ⟨A9, m9, rfl, _⟩ := (Rd.of_own hown).form
          have hbl : Below W6.heap.size W6 (W6.alloc (.cells #[.int .u8 x.1.1, .int .i64 x.1.2.1, .string x.1.2.2, .int .u8 x.2.1, .int .i64 x.2.2.1, .string x.2.2.2] 48)) := (Below.refl _ W6).alloc (Nat.le_refl _) _
          have nx := S6.out.1.next (p := x) hbl hown hgr
          obtain ⟨q0, q1⟩ := ((S6.out.1.gb.alloc (.cells #[.int .u8 x.1.1, .int .i64 x.1.2.1, .string x.1.2.2, .int .u8 x.2.1, .int .i64 x.2.2.1, .string x.2.2.2] 48)).kp (Kp.of_grown hgr (F := fun q => (Value.slice Ag acc.length cg).ownBlock = some q) (fun q e => .inl e)) (fun e => by have := (own_blk S6.out.1.own _ e).1; have := S6.out.1.zs; omega)).all
          have kv9 := S6.out.1.kv (root' := root) (M0 := M) (HA.out.1.kp S6.out.2.1 (fun q hf hg => HGF.out q hg hf)) H3.out.1 H3.out.2 nx.2
          have c9 := HW.out.keep _ _ _ _ S6.out.2.2.1 nx.2 (fun q hq => by
            have h1 := S6.out.1.zs
            rcases hq with hq | hq
            · omega
            · have := (own_blk S6.out.1.own q hq).1; omega)
          have kp9 := S6.out.2.1.trans nx.2 (fun q hq => .inr (by
            have h1 := S6.out.1.zs
            rcases hq with hq | hq
            · omega
            · have := (own_blk S6.out.1.own q hq).1; omega))
          have FIN := Lib.hid (And.intro (S6.out.2.2.2.2.1.trans kv9.2) (And.intro (S6.out.2.2.2.1.trans kv9.1) (And.intro nx.1 (And.intro kp9 c9))))
          clear hown hgr nx kv9 c9 kp9 y0 y9 m0 m1 m2 m3 m4 m5 hbl
          gi_wp2
          exact ⟨FIN.out.1, FIN.out.2.1, acc ++ [x], _, FIN.out.2.2.1, FIN.out.2.2.2.1, FIN.out.2.2.2.2, HGA.out, by have := S5.out.2.2.2.2.1; simp; omega⟩
  · intro D W10 hD hI hdef
    obtain ⟨acc, vg, gr, kp, hc, hga, hle⟩ := hI
    rw [List.drop_length] at hga
    have e1 : acc = gaF most wb 0 l [] := by rw [← hga]; rfl
    subst e1
    obtain ⟨Ag, cg, rfl, _⟩ := (Rd.of_own gr.own).form
    have S := Lib.hid (And.intro gr (And.intro kp (And.intro hc (And.intro hdef (show w.heap.size ≤ D from by have := H3.out.2; have := gr.zs; omega)))))
    have y0 := gr.gb.c0
    clear gr kp hc hdef HG G3
    go_wp2_with fail
    refine ⟨by simp, .inl ⟨_, _, rfl, run_takeDeferred S.out.2.2.2.1, ?_⟩⟩
    obtain ⟨s1, s2, s3, s4, s5⟩ := S.out
    refine ⟨.slice Ag (gaF most wb 0 l []).length cg, by simp [results, Tryz.results96, go_sem], .slice Ag (gaF most wb 0 l []).length cg, rfl, own_base (base := n5) ((kp_putObj (x := D)).own s1.own (fun q hq e => ?_)) (by have := s1.zs; omega), ⟨_, HW.out.keep _ _ _ (fun q => q = D) s3 kp_putObj (fun q e => by rw [e]; exact s5)⟩, s2.trans (kp_putObj (x := D)) (fun q e => .inr (by rw [e]; exact s5))⟩
    obtain ⟨cur, hc⟩ := own_type s1.own q hq
    rw [e, s4] at hc
    cases hc
  · rintro D c i W' hD hi ⟨rfl, vg, gr, kp, j, hc⟩ hdef
    obtain ⟨Ag, cg, rfl, _⟩ := (Rd.of_own gr.own).form
    have S := Lib.hid (And.intro gr (And.intro kp (And.intro hc (And.intro hdef (show w.heap.size ≤ D from by have := H3.out.2; have := gr.zs; omega)))))
    have y0 := gr.gb.c0
    clear gr kp hc hdef HG G3
    go_wp2_with fail
    refine ⟨by simp, .inl ⟨_, _, rfl, run_takeDeferred S.out.2.2.2.1, ?_⟩⟩
    obtain ⟨s1, s2, s3, s4, s5⟩ := S.out
    refine ⟨.slice Ag (gaF most wb 0 l []).length cg, by simp [results, Tryz.results96, go_sem], .slice Ag (gaF most wb 0 l []).length cg, rfl, own_base (base := n5) ((kp_putObj (x := D)).own s1.own (fun q hq e => ?_)) (by have := s1.zs; omega), ⟨_, HW.out.keep _ _ _ (fun q => q = D) s3 kp_putObj (fun q e => by rw [e]; exact s5)⟩, s2.trans (kp_putObj (x := D)) (fun q e => .inr (by rw [e]; exact s5))⟩
    obtain ⟨cur, hc⟩ := own_type s1.own q hq
    rw [e, s4] at hc
    cases hc
end
end Go.Proofs.YtfiledbjbpkleaaGreat

namespace Go.Proofs.YtfiledbjbpkleaaGreat
set_option maxRecDepth 100000
set_option linter.unusedSimpArgs false
set_option linter.unusedVariables false
open Go.RowKit
def ordN (g h : Nat) (a b : Ky) : Int := if pt g h < 13 then icmp (dg g (pt g h)) (dg h (pt g h)) else vc a b
theorem ordN_at {g h j : Nat} {a b : Ky} (hj : j < 13) (he : ∀ i, i < j → dg g i = dg h i) (hn : dg g j ≠ dg h j) : ordN g h a b = icmp (dg g j) (dg h j) := by
  have e : pt g h = j := pt_uniq (by omega) he (fun _ => hn)
  unfold ordN
  rw [e, if_pos hj]
theorem ordN_vc {g h : Nat} {a b : Ky} (he : ∀ i, i < 13 → dg g i = dg h i) : ordN g h a b = vc a b := by
  have e : pt g h = 13 := pt_uniq (Nat.le_refl _) he (fun h => absurd h (Nat.lt_irrefl _))
  unfold ordN
  rw [e, if_neg (by omega)]
section
set_option maxHeartbeats 4000000 in
theorem vorder (g h : Nat) (a b : Ky) (w : World) : Calls Tryz.prog 100 #[xagg a, xagg b, .int .u64 (g : Nat), .int .u64 (h : Nat)] w fun e w' => e = .returned (.int .i64 (ordN g h a b)) ∧ Below w.heap.size w w' := by
  have q4 : C3 ((w.alloc (.cells #[.int .u8 a.1, .int .i64 a.2.1, .string a.2.2] 36)).alloc (.cells #[.int .u8 b.1, .int .i64 b.2.1, .string b.2.2] 36)) w.heap.size 36 (.int .u8 a.1) (.int .i64 a.2.1) (.string a.2.2) := (C3.new w _ _ _ _).alloc _
  have q5 : C3 ((w.alloc (.cells #[.int .u8 a.1, .int .i64 a.2.1, .string a.2.2] 36)).alloc (.cells #[.int .u8 b.1, .int .i64 b.2.1, .string b.2.2] 36)) (w.heap.size + 1) 36 (.int .u8 b.1) (.int .i64 b.2.1) (.string b.2.2) := by
    have h := C3.new (w.alloc (.cells #[.int .u8 a.1, .int .i64 a.2.1, .string a.2.2] 36)) 36 (.int .u8 b.1) (.int .i64 b.2.1) (.string b.2.2)
    simpa using h
  have hb0 : Below w.heap.size w ((w.alloc (.cells #[.int .u8 a.1, .int .i64 a.2.1, .string a.2.2] 36)).alloc (.cells #[.int .u8 b.1, .int .i64 b.2.1, .string b.2.2] 36)) := ((Below.refl _ w).alloc (Nat.le_refl _) _).alloc (by simp) _
  go_enter Tryz.func100, Tryz.ntmps100
  go_upto_region 1 with fail
  generalize (w.alloc (.cells #[.int .u8 a.1, .int .i64 a.2.1, .string a.2.2] 36)).alloc (.cells #[.int .u8 b.1, .int .i64 b.2.1, .string b.2.2] 36) = W0 at q4 q5 hb0 ⊢
  have HQ := Lib.hid (And.intro q4 (And.intro q5 hb0))
  clear q4 q5 hb0
  go_wp2_with fail
  go_loopw [11] (fun s11 wr => ∃ j : Nat, s11 = .int .i64 (j : Int) ∧ j ≤ 13 ∧ Hid (∀ i, i < j → dg g i = dg h i) ∧ wr = W0) (fun s11 _ => 13 - (intOf s11).toNat)
  case atStart => exact ⟨0, rfl, by decide, fun i hi => by omega, rfl⟩
  case round =>
    obtain ⟨j, rfl, hj, HE, rfl⟩ := hrel
    by_cases hj13 : j < 13
    · have hlt : (j : Int) < 13 := by omega
      have hw1 : IntKind.i64.wrap ((j : Int) + 1) = (j : Int) + 1 := IntWalk.i64_in _ (by omega)
      go_wp2_with fail
      refine (dg_run g j hj13 _).mono ?_
      rintro e w1 ⟨rfl, rfl⟩
      go_wp2_with fail
      refine (dg_run h j hj13 _).mono ?_
      rintro e w1 ⟨rfl, rfl⟩
      go_wp2_with fail
      refine (cmp_i _ _ _).mono ?_
      rintro e w1 ⟨rfl, rfl⟩
      by_cases hd : dg g j = dg h j
      · have hic : icmp ((dg g j : Nat) : Int) ((dg h j : Nat) : Int) = 0 := by
          rw [hd]
          unfold icmp
          simp
        rw [hic]
        have HD := Lib.hid hd
        clear hd hic
        go_wp2_with fail
        go_roundw
        case rel => exact ⟨j + 1, rfl, by omega, fun i hi => by
          by_cases e : i = j
          · rw [e]; exact HD.out
          · exact HE.out i (by omega), trivial⟩
        case measure => simp [intOf]; omega
      · have hic : icmp ((dg g j : Nat) : Int) ((dg h j : Nat) : Int) = ordN g h a b := (ordN_at hj13 HE.out hd).symm
        have hne : ¬ ordN g h a b = 0 := by
          rw [← hic]
          show ¬ icmp ((dg g j : Nat) : Int) ((dg h j : Nat) : Int) = 0
          unfold icmp
          split
          · decide
          · split
            · decide
            · omega
        have hne2 : (ordN g h a b != 0) = true := by simpa using hne
        rw [hic]
        clear hic hd
        go_wp2_with fail
        go_ret
        exact ⟨rfl, HQ.out.2.2⟩
    · have hlt : ¬ (j : Int) < 13 := by omega
      obtain rfl : j = 13 := by omega
      obtain ⟨a0, a1, a2, _⟩ := HQ.out.1.all
      obtain ⟨b0, b1, b2, _⟩ := HQ.out.2.1.all
      have HO := Lib.hid (ordN_vc (a := a) (b := b) HE.out)
      go_wp2_with fail
      refine (compare a.1 a.2.1 a.2.2 b.1 b.2.1 b.2.2 _).mono ?_
      rintro e w1 ⟨rfl, g1⟩
      have HB := Lib.hid (HQ.out.2.2.trans (g1.below.mono HQ.out.2.2.size))
      clear g1 a0 a1 a2 b0 b1 b2
      go_wp2_with fail
      go_ret
      exact ⟨by rw [HO.out]; rfl, HB.out⟩
end
end Go.Proofs.YtfiledbjbpkleaaGreat
