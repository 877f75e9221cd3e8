/- Several texts in one. -/
import Derived.Test.YtkkfhbcnfknmaaaGreatMg23
import Derived.Test.YtkkfhbcnfknmaaaGreatMg10
import Derived.Test.YtkkfhbcnfknmaaaGreatMg11
set_option linter.unusedSimpArgs false
namespace Go.Proofs.YtkkfhbcnfknmaaaGreat
set_option maxRecDepth 100000
set_option linter.unusedSimpArgs false
set_option linter.unusedVariables false
open Go.RowKit Go.Shelf
attribute [local go_sem] Oper.semAt_some
abbrev pcs (r : Pr) : Array Value := #[.int .u8 r.1.1, .int .i64 r.1.2.1, .string r.1.2.2, .int .u8 r.2.1, .int .i64 r.2.2.1, .string r.2.2.2]
abbrev pzero : Pr := ((0, 0, ⟨#[]⟩), (0, 0, ⟨#[]⟩))
abbrev setP (W : World) (z : Nat) (r : Pr) : World := (((((W.setCell ⟨z, 0, none⟩ (.int .u8 r.1.1)).setCell ⟨z, 1, none⟩ (.int .i64 r.1.2.1)).setCell ⟨z, 2, none⟩ (.string r.1.2.2)).setCell ⟨z, 3, none⟩ (.int .u8 r.2.1)).setCell ⟨z, 4, none⟩ (.int .i64 r.2.2.1)).setCell ⟨z, 5, none⟩ (.string r.2.2.2)
theorem BC.setP {W : World} {z : Nat} {r0 : Pr} (h : BC W z 48 (pcs r0)) (r : Pr) : BC (setP W z r) z 48 (pcs r) := by
  have := (((((h.set 0 (.int .u8 r.1.1)).set 1 (.int .i64 r.1.2.1)).set 2 (.string r.1.2.2)).set 3 (.int .u8 r.2.1)).set 4 (.int .i64 r.2.2.1)).set 5 (.string r.2.2.2)
  simp only [List.setIfInBounds_toArray, List.set_cons_zero, List.set_cons_succ] at this
  exact this
theorem kp_setP (W : World) (z : Nat) (r : Pr) : Kp (fun q => q = z) W (setP W z r) := ((((((Kp.refl (fun q => q = z) W).setCell (.inl rfl) _).setCell (.inl rfl) _).setCell (.inl rfl) _).setCell (.inl rfl) _).setCell (.inl rfl) _).setCell (.inl rfl) _
theorem BC.pair {W : World} {z : Nat} {r : Pr} (h : BC W z 48 (pcs r)) : W.cell? ⟨z, 0, none⟩ = some (.int .u8 r.1.1) ∧ W.cell? ⟨z, 1, none⟩ = some (.int .i64 r.1.2.1) ∧ W.cell? ⟨z, 2, none⟩ = some (.string r.1.2.2) ∧ W.cell? ⟨z, 3, none⟩ = some (.int .u8 r.2.1) ∧ W.cell? ⟨z, 4, none⟩ = some (.int .i64 r.2.2.1) ∧ W.cell? ⟨z, 5, none⟩ = some (.string r.2.2.2) := ⟨h.at rfl, h.at rfl, h.at rfl, h.at rfl, h.at rfl, h.at rfl⟩
structure PB (w : World) (n5 zk z6 z7 : Nat) (k : Ky) (r : Pr) (ok : Bool) (W : World) : Prop where
  key : C3 W zk 36 (.int .u8 k.1) (.int .i64 k.2.1) (.string k.2.2)
  pr : BC W z6 48 (pcs r)
  ok : C1 W z7 4 (.bool ok)
  zs : w.heap.size ≤ zk ∧ w.heap.size ≤ z6 ∧ w.heap.size ≤ z7 ∧ zk < n5 ∧ z6 < n5 ∧ z7 < n5 ∧ zk ≠ z6 ∧ zk ≠ z7 ∧ z6 ≠ z7 ∧ n5 ≤ W.heap.size
  bel : Below w.heap.size w W
section
variable {w W W' : World} {n5 zk z6 z7 : Nat} {k : Ky} {r : Pr} {ok : Bool}
theorem PB.kp {G : Nat → Prop} (h : PB w n5 zk z6 z7 k r ok W) (hk : Kp G W W') (hG : ∀ q, G q → n5 ≤ q) : PB w n5 zk z6 z7 k r ok W' := by
  obtain ⟨s1, s2, s3, s4, s5, s6, s7, s8, s9, s10⟩ := h.zs
  have := hk.size
  exact ⟨h.key.kp hk (fun e => by have := hG _ e; omega), h.pr.kp hk (fun e => by have := hG _ e; omega), h.ok.kp hk (fun e => by have := hG _ e; omega), ⟨s1, s2, s3, s4, s5, s6, s7, s8, s9, by omega⟩, below_kp h.bel hk (fun q e => by have := hG q e; omega)⟩
theorem PB.below (h : PB w n5 zk z6 z7 k r ok W) (hb : Below W.heap.size W W') : PB w n5 zk z6 z7 k r ok W' := h.kp (Kp.of_below hb (fun _ => False)) (fun _ h => h.elim)
theorem PB.grown {row : Option Nat} (h : PB w n5 zk z6 z7 k r ok W) (hg : W.grownBy W' row) (hr : ∀ r, row = some r → n5 ≤ r) : PB w n5 zk z6 z7 k r ok W' := h.kp (Kp.of_grown hg (F := fun q => row = some q) (fun q e => .inl e)) hr
theorem PB.put (h : PB w n5 zk z6 z7 k r ok W) (x : Pr) (v : Bool) : PB w n5 zk z6 z7 k x v ((setP W z6 x).setCell ⟨z7, 0, none⟩ (.bool v)) ∧ Kp (fun q => q = z6 ∨ q = z7) W ((setP W z6 x).setCell ⟨z7, 0, none⟩ (.bool v)) := by
  obtain ⟨s1, s2, s3, s4, s5, s6, s7, s8, s9, s10⟩ := h.zs
  have k1 := kp_setP W z6 x
  have k2 := Kp.one (setP W z6 x) z7 0 (.bool v)
  have kk : Kp (fun q => q = z6 ∨ q = z7) W ((setP W z6 x).setCell ⟨z7, 0, none⟩ (.bool v)) := (k1.mono (fun _ e _ => .inl e)).trans (k2.mono (fun _ e _ => .inr e)) (fun _ => .inl)
  have hsz := kk.size
  exact ⟨⟨h.key.kp kk (fun e => by omega), (h.pr.setP x).kp k2 (fun e => by omega), (h.ok.kp k1 (fun e => by omega)).set _, ⟨s1, s2, s3, s4, s5, s6, s7, s8, s9, by omega⟩, below_kp h.bel kk (fun q e => by omega)⟩, kk⟩
theorem PB.set {b most n root : Nat} {M0 M : Cells} {F : Nat → Prop} (h : PB w n5 zk z6 z7 k r ok W) (ha : Ar W b most M F) (hF : ∀ q, F q → q < w.heap.size) (hn5 : n5 ≤ n) (x : Pr) : PB w n5 zk z6 z7 k x true ((setP W z6 x).setCell ⟨z7, 0, none⟩ (.bool true)) ∧ K11 n b most M0 root W ((setP W z6 x).setCell ⟨z7, 0, none⟩ (.bool true)) ∧ KeepsOthers W ((setP W z6 x).setCell ⟨z7, 0, none⟩ (.bool true)) := by
  obtain ⟨hp, kk⟩ := h.put x true
  obtain ⟨s1, s2, s3, s4, s5, s6, s7, s8, s9, s10⟩ := h.zs
  have hsz := kk.size
  refine ⟨hp, K11.of_kp ha kk (fun q e hf => by have := hF q hf; omega) (fun q cur t e hn _ => by omega), KeepsOthers.of_kp kk (fun q o e ho => ?_)⟩
  rcases e with rfl | rfl
  · have h1 : W.heap[q]? = some _ := h.pr
    rw [ho] at h1
    rw [Option.some.inj h1]
    rfl
  · have h1 : W.heap[q]? = some _ := h.ok
    rw [ho] at h1
    rw [Option.some.inj h1]
    rfl
end
section
variable {b bh most root N : Nat} {M : Cells} {F : Nat → Prop} {l : List Pr}
structure CeilP (l : List Pr) (k : Ky) (w : World) (e : Ending) (w' : World) : Prop where
  has : ∃ (r : Pr) (ok : Bool), e = .returned (.tuple #[pagg r, .bool ok]) ∧ (ok = true ∧ l[ctB k l]? = some r ∨ ok = false ∧ ctB k l = l.length ∧ r = pzero)
  bel : Below w.heap.size w w'
set_option maxHeartbeats 4000000 in
theorem rCeil (N root : Nat) (k : Ky) (w : World) (ha : Ar w b most M F) (hT : TT M root l) (hl : l.length ≤ 2000) :
    Calls Tryz.prog 54 #[land b bh, .agg #[.int .i64 (N : Nat), .int .i64 (root : Nat)], xagg k] w (CeilP l k w) := by
  obtain ⟨W0, hW0⟩ : ∃ W0, W0 = (((((w.alloc (.cells #[ap b, .pointer (some ⟨bh, 0, none⟩)] 26)).alloc (.cells #[.int .i64 (N : Int), .int .i64 (root : Int)] 72)).alloc (.cells #[.int .u8 k.1, .int .i64 k.2.1, .string k.2.2] 36)).alloc (.cells #[.int .u8 0, .int .i64 0, .string ⟨#[]⟩, .int .u8 0, .int .i64 0, .string ⟨#[]⟩] 48)).alloc (.cells #[.bool false] 4)) := ⟨_, rfl⟩
  have hsz : W0.heap.size = w.heap.size + 1 + 1 + 1 + 1 + 1 := by rw [hW0]; simp
  have hb0 : Below w.heap.size w W0 := by rw [hW0]; exact (((((Below.refl _ w).alloc (Nat.le_refl _) _).alloc (by simp) _).alloc (by simp; omega) _).alloc (by simp; omega) _).alloc (by simp; omega) _
  have q1 : C2 W0 w.heap.size 26 (ap b) (.pointer (some ⟨bh, 0, none⟩)) := by
    have h := ((((C2.new w 26 (ap b) (.pointer (some ⟨bh, 0, none⟩))).alloc (.cells #[.int .i64 (N : Int), .int .i64 (root : Int)] 72)).alloc (.cells #[.int .u8 k.1, .int .i64 k.2.1, .string k.2.2] 36)).alloc (.cells #[.int .u8 0, .int .i64 0, .string ⟨#[]⟩, .int .u8 0, .int .i64 0, .string ⟨#[]⟩] 48)).alloc (.cells #[.bool false] 4)
    rw [hW0]
    simpa using h
  have q2 : C2 W0 (w.heap.size + 1) 72 (.int .i64 (N : Int)) (.int .i64 (root : Int)) := by
    have h := (((C2.new (w.alloc (.cells #[ap b, .pointer (some ⟨bh, 0, none⟩)] 26)) 72 (.int .i64 (N : Int)) (.int .i64 (root : Int))).alloc (.cells #[.int .u8 k.1, .int .i64 k.2.1, .string k.2.2] 36)).alloc (.cells #[.int .u8 0, .int .i64 0, .string ⟨#[]⟩, .int .u8 0, .int .i64 0, .string ⟨#[]⟩] 48)).alloc (.cells #[.bool false] 4)
    rw [hW0]
    simpa using h
  have q3 : C3 W0 (w.heap.size + 1 + 1) 36 (.int .u8 k.1) (.int .i64 k.2.1) (.string k.2.2) := by
    have h := ((C3.new ((w.alloc (.cells #[ap b, .pointer (some ⟨bh, 0, none⟩)] 26)).alloc (.cells #[.int .i64 (N : Int), .int .i64 (root : Int)] 72)) 36 (.int .u8 k.1) (.int .i64 k.2.1) (.string k.2.2)).alloc (.cells #[.int .u8 0, .int .i64 0, .string ⟨#[]⟩, .int .u8 0, .int .i64 0, .string ⟨#[]⟩] 48)).alloc (.cells #[.bool false] 4)
    rw [hW0]
    simpa using h
  have q4 : BC W0 (w.heap.size + 1 + 1 + 1) 48 #[.int .u8 0, .int .i64 0, .string ⟨#[]⟩, .int .u8 0, .int .i64 0, .string ⟨#[]⟩] := by
    have h := (BC.new (((w.alloc (.cells #[ap b, .pointer (some ⟨bh, 0, none⟩)] 26)).alloc (.cells #[.int .i64 (N : Int), .int .i64 (root : Int)] 72)).alloc (.cells #[.int .u8 k.1, .int .i64 k.2.1, .string k.2.2] 36)) 48 #[.int .u8 0, .int .i64 0, .string ⟨#[]⟩, .int .u8 0, .int .i64 0, .string ⟨#[]⟩]).alloc (.cells #[.bool false] 4)
    rw [hW0]
    simpa using h
  have q5 : C1 W0 (w.heap.size + 1 + 1 + 1 + 1) 4 (.bool false) := by
    have h := C1.new ((((w.alloc (.cells #[ap b, .pointer (some ⟨bh, 0, none⟩)] 26)).alloc (.cells #[.int .i64 (N : Int), .int .i64 (root : Int)] 72)).alloc (.cells #[.int .u8 k.1, .int .i64 k.2.1, .string k.2.2] 36)).alloc (.cells #[.int .u8 0, .int .i64 0, .string ⟨#[]⟩, .int .u8 0, .int .i64 0, .string ⟨#[]⟩] 48)) 4 (.bool false)
    rw [hW0]
    simpa using h
  obtain ⟨z3, hz3⟩ : ∃ z, z = w.heap.size := ⟨_, rfl⟩
  obtain ⟨z4, hz4⟩ : ∃ z, z = w.heap.size + 1 := ⟨_, rfl⟩
  obtain ⟨zk, hzk⟩ : ∃ z, z = w.heap.size + 1 + 1 := ⟨_, rfl⟩
  obtain ⟨z6, hz6⟩ : ∃ z, z = w.heap.size + 1 + 1 + 1 := ⟨_, rfl⟩
  obtain ⟨z7, hz7⟩ : ∃ z, z = w.heap.size + 1 + 1 + 1 + 1 := ⟨_, rfl⟩
  have HW0 := Lib.hid hW0
  have HZZ := Lib.hid (And.intro hz3 (And.intro hz4 (And.intro hzk (And.intro hz6 hz7))))
  have HBI := Lib.hid (show PB w W0.heap.size zk z6 z7 k pzero false W0 by rw [hzk, hz6, hz7]; exact ⟨q3, q4, q5, by omega, hb0⟩)
  have HA := Lib.hid (And.intro ha (And.intro hT (And.intro hl (show ∀ q, F q → q < w.heap.size from fun q hq => ha.lt hq))))
  rw [← hz3] at q1
  rw [← hz4] at q2
  obtain ⟨a0, a1, _⟩ := q1.all
  obtain ⟨c0, c1, _⟩ := q2.all
  clear hW0 hsz hb0 q1 q2 q3 q4 q5 ha hT hl hz3 hz4 hzk hz6 hz7
  refine (callsIn_wide (n := 3)).1 ?_
  refine callsIn_of_wp_marks Tryz.func54 rfl trivial ?_ rfl
  refine wpIn_wide.2 ?_
  simp only [Tryz.ntmps54, List.size_toArray, List.length_cons, List.length_nil, Nat.reduceAdd, Nat.reduceSub, Array.replicate_succ, Array.replicate_zero, List.push_toArray, List.append_toArray, List.nil_append, List.cons_append]
  go_upto_region 1 with fail
  rw [← HW0.out]
  clear HW0
  obtain ⟨e1, e2, e3, e4, e5⟩ := HZZ.out
  rw [← e5, ← e4, ← e3, ← e2, ← e1]
  clear e1 e2 e3 e4 e5 HZZ
  go_wp2_with fail
  refine (tPairs b bh N root W0).mono ?_
  rintro e w3 ⟨zl, zm, rfl, ql, qm, _, _, hb3⟩
  have hbi := HBI.out.below hb3
  obtain ⟨n5, hn5⟩ : ∃ n5, n5 = W0.heap.size := ⟨_, rfl⟩
  rw [← hn5] at hbi
  have HG := Lib.hid (pairs_gives11 (b := b) (bh := bh) (most := most) (root := root) (N := N) (M0 := M) (l := l) zl zm w3 HA.out.1.zero HA.out.2.1 ⟨M, F, HA.out.1.below hbi.bel, Pres.refl M root⟩ ql qm)
  have H3 := Lib.hid (show n5 ≤ w3.heap.size from hbi.zs.2.2.2.2.2.2.2.2.2)
  have HI := Lib.hid hbi
  clear ql qm hb3 hbi HBI hn5 a0 a1 c0 c1
  go_wp2_with fail
  refine wp_range9 (encs := fun p : Pr => #[pagg p]) (first := #[]) (last := #[.pointer (some ⟨zl, 0, none⟩), .pointer (some ⟨zm, 0, none⟩)]) (f := 94) rfl (fun _ _ => rfl) (fun _ => rfl) HG.out (fun h1 h2 => h1.trans h2) (fun W l o o' _ ho hc _ => K11.putObj ho hc)
    (fun i W' => PB w n5 zk z6 z7 k pzero false W' ∧ LtB k l i) (fun c i W' => c = .ret ∧ (∃ x, PB w n5 zk z6 z7 k x true W' ∧ l[i - 1]? = some x) ∧ LtB k l (i - 1) ∧ GeB k l (i - 1)) ?_ ?_ ⟨HI.out, fun _ _ _ h => by omega⟩ (fun A B hb => K11.below hb) ?_ ?_ ?_
  · rintro i A B row ⟨h1, h2⟩ hg hr
    exact ⟨h1.grown hg (fun r hr' => Nat.le_trans H3.out (hr r hr').1), h2⟩
  · rintro c i A B row ⟨h0, ⟨x, h1, hx⟩, h2⟩ hg hr
    exact ⟨h0, ⟨x, h1.grown hg (fun r hr' => Nat.le_trans H3.out (hr r hr').1), hx⟩, h2⟩
  · intro lp i x W4 hx hI hsz
    have HX4 := Lib.hid hx
    have I4 := Lib.hid hI
    clear hx hI HG HI
    gi_wp2
    have hbA : Below W4.heap.size W4 (W4.alloc (.cells #[.int .u8 x.1.1, .int .i64 x.1.2.1, .string x.1.2.2, .int .u8 x.2.1, .int .i64 x.2.2.1, .string x.2.2.2] 48)) := (Below.refl _ W4).alloc (Nat.le_refl _) _
    refine ⟨hbA, fun j W' => (PB w n5 zk z6 z7 k pzero false W' ∧ LtB k l j) ∧ C6 W' W4.heap.size 48 (.int .u8 x.1.1) (.int .i64 x.1.2.1) (.string x.1.2.2) (.int .u8 x.2.1) (.int .i64 x.2.2.1) (.string x.2.2.2), fun j A B row h hg hr => ⟨⟨h.1.1.grown hg (fun r hr' => Nat.le_trans H3.out (hr r hr').1), h.1.2⟩, h.2.own hg (fun r hr' => (hr r hr').2)⟩, ⟨⟨I4.out.1.below hbA, I4.out.2⟩, C6.new _ _ _ _ _ _ _ _⟩, fun W5 hJ hs5 => ?_⟩
    obtain ⟨⟨bi, hall⟩, p6⟩ := hJ
    have S5 := Lib.hid (And.intro bi (And.intro hall p6))
    obtain ⟨k0, k1, k2, _⟩ := bi.key.all
    have m0 := p6.c0
    have m1 := p6.c1
    have m2 := p6.c2
    clear bi hall p6 I4 hs5 hbA
    gi_wp2
    refine ⟨trivial, rfl, (CallsIn.inRound lp ((callsIn_wide (n := 0)).2 (vcompare x.1 k W5))).mono ?_⟩
    rintro e7 W7 ⟨rfl, hb7⟩
    have p67 := S5.out.2.2.below hb7
    have S7 := Lib.hid (And.intro (S5.out.1.below hb7) (show Below W5.heap.size W5 W7 from hb7))
    clear hb7 k0 k1 k2 m0 m1 m2
    by_cases hv : 0 ≤ vc x.1 k
    · have HV := Lib.hid hv
      have FIN := Lib.hid (S7.out.1.set (root := root) (M0 := M) (HA.out.1.below S7.out.1.bel) HA.out.2.2.2 H3.out x)
      have m0 := p67.c0
      have m1 := p67.c1
      have m2 := p67.c2
      have m3 := p67.c3
      have m4 := p67.c4
      have m5 := p67.c5
      obtain ⟨d0, d1, d2, d3, d4, d5⟩ := S7.out.1.pr.pair
      have f0 := S7.out.1.pr.fz 0
      have f1 := S7.out.1.pr.fz 1
      have f2 := S7.out.1.pr.fz 2
      have f3 := S7.out.1.pr.fz 3
      have f4 := S7.out.1.pr.fz 4
      have f5 := S7.out.1.pr.fz 5
      obtain ⟨y0, y1⟩ := S7.out.1.ok.all
      have ne67 : ¬ z7 = z6 := fun e => S7.out.1.zs.2.2.2.2.2.2.2.2.1 e.symm
      clear p67
      gi_wp2
      refine ⟨(KeepsOthers.of_kp (Kp.of_below S7.out.2 (fun _ => False)) (fun _ _ h => h.elim)).trans FIN.out.2.2, (K11.below S7.out.2).trans FIN.out.2.1, rfl, ⟨x, FIN.out.1, ?_⟩, ?_, ?_⟩
      · rw [Nat.add_sub_cancel]; exact HX4.out
      · rw [Nat.add_sub_cancel]; exact S5.out.2.1
      · rw [Nat.add_sub_cancel]
        intro p hp
        rw [HX4.out] at hp
        cases hp
        have := HV.out
        omega
    · have HV := Lib.hid hv
      clear p67
      gi_wp2
      refine ⟨KeepsOthers.of_kp (Kp.of_below S7.out.2 (fun _ => False)) (fun _ _ h => h.elim), K11.below S7.out.2, S7.out.1, fun j p hp hj => ?_⟩
      by_cases e : j < i
      · exact S5.out.2.1 j p hp e
      · obtain rfl : j = i := by omega
        rw [HX4.out] at hp
        cases hp
        have := HV.out
        omega
  · intro D W10 hD hI hdef
    have HC := Lib.hid (ctB_of (k := k) (l := l) (Nat.le_refl _) hI.2 (fun p hp => by simp at hp))
    have S := Lib.hid (And.intro hI.1 (And.intro hdef (show n5 ≤ D from by have := H3.out; omega)))
    obtain ⟨d0, d1, d2, d3, d4, d5⟩ := hI.1.pr.pair
    have f0 := hI.1.pr.fz 0
    have f1 := hI.1.pr.fz 1
    have f2 := hI.1.pr.fz 2
    have f3 := hI.1.pr.fz 3
    have f4 := hI.1.pr.fz 4
    have f5 := hI.1.pr.fz 5
    obtain ⟨y0, y1⟩ := hI.1.ok.all
    have ne67 : ¬ z7 = z6 := fun e => hI.1.zs.2.2.2.2.2.2.2.2.1 e.symm
    clear hI hdef HG HI
    go_wp2_with fail
    have P := ((S.out.1.put pzero false).1.kp (kp_putObj (x := D) (o := .deferred none)) (fun q e => by have := S.out.2.2; omega))
    obtain ⟨g0, g1, g2, g3, g4, g5⟩ := P.pr.pair
    obtain ⟨o0, _⟩ := P.ok.all
    have HD := ((S.out.1.put pzero false).2.block D (Array.getElem?_eq_some_iff.1 S.out.2.1).1 (fun e => by have := S.out.1.zs; have := S.out.2.2; omega)).trans S.out.2.1
    refine ⟨by simp, .inl ⟨_, _, rfl, run_takeDeferred HD, ?_⟩⟩
    have HCo := HC.out
    clear d0 d1 d2 d3 d4 d5 f0 f1 f2 f3 f4 f5 y0 y1 HD
    change LeavesInM _ _ _ _ _ _ _ _ (((setP W10 z6 pzero).setCell ⟨z7, 0, none⟩ (.bool false)).putObj D (.deferred none))
    generalize (((setP W10 z6 pzero).setCell ⟨z7, 0, none⟩ (.bool false)).putObj D (.deferred none)) = W11 at *
    exact ⟨.tuple #[pagg pzero, .bool false], by simp [results, Tryz.results54, go_sem, g0, g1, g2, g3, g4, g5, o0], ⟨pzero, false, rfl, .inr ⟨rfl, HCo, rfl⟩⟩, P.bel⟩
  · rintro D c i W10 hD hi ⟨rfl, ⟨x, h1, hx⟩, h2, h3⟩ hdef
    have HC := Lib.hid (ctB_of (k := k) (l := l) (by omega) h2 h3)
    have S := Lib.hid (And.intro h1 (And.intro hdef (And.intro (show n5 ≤ D from by have := H3.out; omega) hx)))
    obtain ⟨d0, d1, d2, d3, d4, d5⟩ := h1.pr.pair
    obtain ⟨y0, y1⟩ := h1.ok.all
    clear h1 h2 h3 hdef HG HI hx
    go_wp2_with fail
    have P := (S.out.1.kp (kp_putObj (x := D) (o := .deferred none)) (fun q e => by have := S.out.2.2.1; omega))
    obtain ⟨g0, g1, g2, g3, g4, g5⟩ := P.pr.pair
    obtain ⟨o0, _⟩ := P.ok.all
    refine ⟨by simp, .inl ⟨_, _, rfl, run_takeDeferred S.out.2.1, ?_⟩⟩
    have HCo := HC.out
    clear d0 d1 d2 d3 d4 d5 y0 y1
    generalize hW11 : W10.putObj D (.deferred none) = W11 at *
    exact ⟨.tuple #[pagg x, .bool true], by simp [results, Tryz.results54, go_sem, g0, g1, g2, g3, g4, g5, o0], ⟨x, true, rfl, .inl ⟨rfl, by rw [HCo]; exact S.out.2.2.2⟩⟩, P.bel⟩
end
end Go.Proofs.YtkkfhbcnfknmaaaGreat

namespace Go.Proofs.YtkkfhbcnfknmaaaGreat
set_option maxRecDepth 100000
set_option linter.unusedSimpArgs false
set_option linter.unusedVariables false
open Go.RowKit Go.Shelf
section
end
end Go.Proofs.YtkkfhbcnfknmaaaGreat

namespace Go.Proofs.YtkkfhbcnfknmaaaGreat
set_option maxRecDepth 100000
set_option linter.unusedSimpArgs false
set_option linter.unusedVariables false
open Go.RowKit Go.Shelf
attribute [local go_sem] Oper.semAt_some
def ctF (k : Ky) (l : List Pr) : Nat := (l.takeWhile (fun p => decide (vc p.1 k ≤ 0))).length
def LeF (k : Ky) (l : List Pr) (i : Nat) : Prop := ∀ j p, l[j]? = some p → j < i → vc p.1 k ≤ 0
def GtF (k : Ky) (l : List Pr) (i : Nat) : Prop := ∀ p, l[i]? = some p → ¬ vc p.1 k ≤ 0
theorem ctF_of {k : Ky} : ∀ {l : List Pr} {m : Nat}, m ≤ l.length → LeF k l m → GtF k l m → ctF k l = m
  | [], m, hm, _, _ => by
    simp only [List.length_nil, Nat.le_zero_eq] at hm
    rw [hm]
    rfl
  | x :: l, 0, _, _, h => by
    have := h x rfl
    unfold ctF
    rw [List.takeWhile_cons, if_neg (by simpa using this)]
    rfl
  | x :: l, m + 1, hm, h1, h2 => by
    have h0 := h1 0 x rfl (by omega)
    have ih := ctF_of (k := k) (l := l) (m := m) (by simpa using hm) (fun j p e hj => h1 (j + 1) p (by simpa using e) (by omega)) (fun p e => h2 p (by simpa using e))
    unfold ctF at ih ⊢
    rw [List.takeWhile_cons, if_pos (by simpa using h0), List.length_cons, ih]
structure PRes (w : World) (n5 zk zr z6 z7 : Nat) (k : Ky) (r : Pr) (ok : Bool) (W : World) : Prop where
  pb : PB w n5 zk z6 z7 k r ok W
  res : BC W zr 48 (pcs pzero)
  zz : w.heap.size ≤ zr ∧ zr < n5 ∧ zr ≠ zk ∧ zr ≠ z6 ∧ zr ≠ z7
section
variable {w W W' : World} {n5 zk zr z6 z7 : Nat} {k : Ky} {r : Pr} {ok : Bool}
theorem PRes.kp {G : Nat → Prop} (h : PRes w n5 zk zr z6 z7 k r ok W) (hk : Kp G W W') (hG : ∀ q, G q → n5 ≤ q) : PRes w n5 zk zr z6 z7 k r ok W' := ⟨h.pb.kp hk hG, h.res.kp hk (fun e => by have := hG _ e; have := h.zz; omega), h.zz⟩
theorem PRes.below (h : PRes w n5 zk zr z6 z7 k r ok W) (hb : Below W.heap.size W W') : PRes w n5 zk zr z6 z7 k r ok W' := h.kp (Kp.of_below hb (fun _ => False)) (fun _ h => h.elim)
theorem PRes.grown {row : Option Nat} (h : PRes w n5 zk zr z6 z7 k r ok W) (hg : W.grownBy W' row) (hr : ∀ r, row = some r → n5 ≤ r) : PRes w n5 zk zr z6 z7 k r ok W' := h.kp (Kp.of_grown hg (F := fun q => row = some q) (fun q e => .inl e)) hr
theorem PRes.set {b most n root : Nat} {M0 M : Cells} {F : Nat → Prop} (h : PRes w n5 zk zr z6 z7 k r ok W) (ha : Ar W b most M F) (hF : ∀ q, F q → q < w.heap.size) (hn5 : n5 ≤ n) (x : Pr) : PRes w n5 zk zr z6 z7 k x true ((setP W z6 x).setCell ⟨z7, 0, none⟩ (.bool true)) ∧ K11 n b most M0 root W ((setP W z6 x).setCell ⟨z7, 0, none⟩ (.bool true)) ∧ KeepsOthers W ((setP W z6 x).setCell ⟨z7, 0, none⟩ (.bool true)) := by
  obtain ⟨h1, h2, h3⟩ := h.pb.set (root := root) (M0 := M0) ha hF hn5 x
  have hz := h.zz
  exact ⟨⟨h1, h.res.kp (h.pb.put x true).2 (fun e => by omega), hz⟩, h2, h3⟩
end
structure PRq (w : World) (n5 zk zr z6 z7 : Nat) (k : Ky) (r : Pr) (ok : Bool) (D : Nat) (W : World) : Prop where
  pb : PB w n5 zk z6 z7 k r ok W
  res : ∃ t0, BC W zr 48 (pcs t0)
  zz : w.heap.size ≤ zr ∧ zr < n5 ∧ zr ≠ zk ∧ zr ≠ z6 ∧ zr ≠ z7
  def' : W.heap[D]? = some (.deferred (some []))
  dn : n5 ≤ D
theorem PB.drew {w W : World} {n5 zk z6 z7 : Nat} {k : Ky} {r : Pr} {ok : Bool} (h : PB w n5 zk z6 z7 k r ok W) : PB w n5 zk z6 z7 k r ok W.drew := h.below (Below.refl _ W).drew
theorem PRq.drew {w W : World} {n5 zk zr z6 z7 D : Nat} {k : Ky} {r : Pr} {ok : Bool} (h : PRq w n5 zk zr z6 z7 k r ok D W) : PRq w n5 zk zr z6 z7 k r ok D W.drew := ⟨h.pb.drew, h.res, h.zz, h.def', h.dn⟩
theorem PRq.put {w W : World} {n5 zk zr z6 z7 D : Nat} {k : Ky} {r : Pr} {ok : Bool} (h : PRq w n5 zk zr z6 z7 k r ok D W) (x : Pr) : PRq w n5 zk zr z6 z7 k r ok D (setP W zr x) := by
  have kk := kp_setP W zr x
  obtain ⟨t0, ht⟩ := h.res
  obtain ⟨s1, s2, s3, s4, s5, s6, s7, s8, s9, s10⟩ := h.pb.zs
  have hz := h.zz
  have hs := kk.size
  have hd := h.dn
  exact ⟨⟨h.pb.key.kp kk (fun e => by omega), h.pb.pr.kp kk (fun e => by omega), h.pb.ok.kp kk (fun e => by omega), ⟨s1, s2, s3, s4, s5, s6, s7, s8, s9, by omega⟩, below_kp h.pb.bel kk (fun q e => by omega)⟩, ⟨x, ht.setP x⟩, hz, (kk.block D (Array.getElem?_eq_some_iff.1 h.def').1 (fun e => by omega)).trans h.def', hd⟩
def FlB (l : List Pr) (i : Nat) (x : Pr) (ok : Bool) : Prop := i = 0 ∧ ok = false ∧ x = pzero ∨ 0 < i ∧ ok = true ∧ l[i - 1]? = some x
def FlI (w : World) (n5 zk zr z6 z7 : Nat) (k : Ky) (l : List Pr) (i : Nat) (W : World) : Prop := ∃ x ok, PRes w n5 zk zr z6 z7 k x ok W ∧ FlB l i x ok
structure FloorP (l : List Pr) (k : Ky) (w : World) (e : Ending) (w' : World) : Prop where
  has : ∃ (r : Pr) (ok : Bool), e = .returned (.tuple #[pagg r, .bool ok]) ∧ FlB l (ctF k l) r ok
  bel : Below w.heap.size w w'
section
variable {b bh most root N : Nat} {M : Cells} {F : Nat → Prop} {l : List Pr}
set_option maxHeartbeats 4000000 in
theorem rFloor (N root : Nat) (k : Ky) (w : World) (ha : Ar w b most M F) (hT : TT M root l) (hl : l.length ≤ 2000) :
    Calls Tryz.prog 53 #[land b bh, .agg #[.int .i64 (N : Nat), .int .i64 (root : Nat)], xagg k] w (FloorP l k w) := by
  obtain ⟨W0, hW0⟩ : ∃ W0, W0 = ((((((w.alloc (.cells #[ap b, .pointer (some ⟨bh, 0, none⟩)] 26)).alloc (.cells #[.int .i64 (N : Int), .int .i64 (root : Int)] 72)).alloc (.cells #[.int .u8 k.1, .int .i64 k.2.1, .string k.2.2] 36)).alloc (.cells #[.int .u8 0, .int .i64 0, .string ⟨#[]⟩, .int .u8 0, .int .i64 0, .string ⟨#[]⟩] 48)).alloc (.cells #[.int .u8 0, .int .i64 0, .string ⟨#[]⟩, .int .u8 0, .int .i64 0, .string ⟨#[]⟩] 48)).alloc (.cells #[.bool false] 4)) := ⟨_, rfl⟩
  have hsz : W0.heap.size = w.heap.size + 1 + 1 + 1 + 1 + 1 + 1 := by rw [hW0]; simp
  have hb0 : Below w.heap.size w W0 := by rw [hW0]; exact ((((((Below.refl _ w).alloc (Nat.le_refl _) _).alloc (by simp) _).alloc (by simp; omega) _).alloc (by simp; omega) _).alloc (by simp; omega) _).alloc (by simp; omega) _
  have q1 : C2 W0 w.heap.size 26 (ap b) (.pointer (some ⟨bh, 0, none⟩)) := by
    have h := (((((C2.new w 26 (ap b) (.pointer (some ⟨bh, 0, none⟩))).alloc (.cells #[.int .i64 (N : Int), .int .i64 (root : Int)] 72)).alloc (.cells #[.int .u8 k.1, .int .i64 k.2.1, .string k.2.2] 36)).alloc (.cells #[.int .u8 0, .int .i64 0, .string ⟨#[]⟩, .int .u8 0, .int .i64 0, .string ⟨#[]⟩] 48)).alloc (.cells #[.int .u8 0, .int .i64 0, .string ⟨#[]⟩, .int .u8 0, .int .i64 0, .string ⟨#[]⟩] 48)).alloc (.cells #[.bool false] 4)
    rw [hW0]
    simpa using h
  have q2 : C2 W0 (w.heap.size + 1) 72 (.int .i64 (N : Int)) (.int .i64 (root : Int)) := by
    have h := ((((C2.new (w.alloc (.cells #[ap b, .pointer (some ⟨bh, 0, none⟩)] 26)) 72 (.int .i64 (N : Int)) (.int .i64 (root : Int))).alloc (.cells #[.int .u8 k.1, .int .i64 k.2.1, .string k.2.2] 36)).alloc (.cells #[.int .u8 0, .int .i64 0, .string ⟨#[]⟩, .int .u8 0, .int .i64 0, .string ⟨#[]⟩] 48)).alloc (.cells #[.int .u8 0, .int .i64 0, .string ⟨#[]⟩, .int .u8 0, .int .i64 0, .string ⟨#[]⟩] 48)).alloc (.cells #[.bool false] 4)
    rw [hW0]
    simpa using h
  have q3 : C3 W0 (w.heap.size + 1 + 1) 36 (.int .u8 k.1) (.int .i64 k.2.1) (.string k.2.2) := by
    have h := (((C3.new ((w.alloc (.cells #[ap b, .pointer (some ⟨bh, 0, none⟩)] 26)).alloc (.cells #[.int .i64 (N : Int), .int .i64 (root : Int)] 72)) 36 (.int .u8 k.1) (.int .i64 k.2.1) (.string k.2.2)).alloc (.cells #[.int .u8 0, .int .i64 0, .string ⟨#[]⟩, .int .u8 0, .int .i64 0, .string ⟨#[]⟩] 48)).alloc (.cells #[.int .u8 0, .int .i64 0, .string ⟨#[]⟩, .int .u8 0, .int .i64 0, .string ⟨#[]⟩] 48)).alloc (.cells #[.bool false] 4)
    rw [hW0]
    simpa using h
  have q4r : BC W0 (w.heap.size + 1 + 1 + 1) 48 #[.int .u8 0, .int .i64 0, .string ⟨#[]⟩, .int .u8 0, .int .i64 0, .string ⟨#[]⟩] := by
    have h := ((BC.new (((w.alloc (.cells #[ap b, .pointer (some ⟨bh, 0, none⟩)] 26)).alloc (.cells #[.int .i64 (N : Int), .int .i64 (root : Int)] 72)).alloc (.cells #[.int .u8 k.1, .int .i64 k.2.1, .string k.2.2] 36)) 48 #[.int .u8 0, .int .i64 0, .string ⟨#[]⟩, .int .u8 0, .int .i64 0, .string ⟨#[]⟩]).alloc (.cells #[.int .u8 0, .int .i64 0, .string ⟨#[]⟩, .int .u8 0, .int .i64 0, .string ⟨#[]⟩] 48)).alloc (.cells #[.bool false] 4)
    rw [hW0]
    simpa using h
  have q4 : BC W0 (w.heap.size + 1 + 1 + 1 + 1) 48 #[.int .u8 0, .int .i64 0, .string ⟨#[]⟩, .int .u8 0, .int .i64 0, .string ⟨#[]⟩] := by
    have h := (BC.new ((((w.alloc (.cells #[ap b, .pointer (some ⟨bh, 0, none⟩)] 26)).alloc (.cells #[.int .i64 (N : Int), .int .i64 (root : Int)] 72)).alloc (.cells #[.int .u8 k.1, .int .i64 k.2.1, .string k.2.2] 36)).alloc (.cells #[.int .u8 0, .int .i64 0, .string ⟨#[]⟩, .int .u8 0, .int .i64 0, .string ⟨#[]⟩] 48)) 48 #[.int .u8 0, .int .i64 0, .string ⟨#[]⟩, .int .u8 0, .int .i64 0, .string ⟨#[]⟩]).alloc (.cells #[.bool false] 4)
    rw [hW0]
    simpa using h
  have q5 : C1 W0 (w.heap.size + 1 + 1 + 1 + 1 + 1) 4 (.bool false) := by
    have h := C1.new (((((w.alloc (.cells #[ap b, .pointer (some ⟨bh, 0, none⟩)] 26)).alloc (.cells #[.int .i64 (N : Int), .int .i64 (root : Int)] 72)).alloc (.cells #[.int .u8 k.1, .int .i64 k.2.1, .string k.2.2] 36)).alloc (.cells #[.int .u8 0, .int .i64 0, .string ⟨#[]⟩, .int .u8 0, .int .i64 0, .string ⟨#[]⟩] 48)).alloc (.cells #[.int .u8 0, .int .i64 0, .string ⟨#[]⟩, .int .u8 0, .int .i64 0, .string ⟨#[]⟩] 48)) 4 (.bool false)
    rw [hW0]
    simpa using h
  obtain ⟨z3, hz3⟩ : ∃ z, z = w.heap.size := ⟨_, rfl⟩
  obtain ⟨z4, hz4⟩ : ∃ z, z = w.heap.size + 1 := ⟨_, rfl⟩
  obtain ⟨zk, hzk⟩ : ∃ z, z = w.heap.size + 1 + 1 := ⟨_, rfl⟩
  obtain ⟨zr, hzr⟩ : ∃ z, z = w.heap.size + 1 + 1 + 1 := ⟨_, rfl⟩
  obtain ⟨z6, hz6⟩ : ∃ z, z = w.heap.size + 1 + 1 + 1 + 1 := ⟨_, rfl⟩
  obtain ⟨z7, hz7⟩ : ∃ z, z = w.heap.size + 1 + 1 + 1 + 1 + 1 := ⟨_, rfl⟩
  have HW0 := Lib.hid hW0
  have HZZ := Lib.hid (And.intro hz3 (And.intro hz4 (And.intro hzk (And.intro hzr (And.intro hz6 hz7)))))
  have HBI := Lib.hid (show PRes w W0.heap.size zk zr z6 z7 k pzero false W0 by rw [hzk, hzr, hz6, hz7]; exact ⟨⟨q3, q4, q5, by omega, hb0⟩, q4r, by omega⟩)
  have HA := Lib.hid (And.intro ha (And.intro hT (And.intro hl (show ∀ q, F q → q < w.heap.size from fun q hq => ha.lt hq))))
  rw [← hz3] at q1
  rw [← hz4] at q2
  obtain ⟨a0, a1, _⟩ := q1.all
  obtain ⟨c0, c1, _⟩ := q2.all
  clear hW0 hsz hb0 q1 q2 q3 q4 q4r q5 ha hT hl hz3 hz4 hzk hzr hz6 hz7
  refine (callsIn_wide (n := 3)).1 ?_
  refine callsIn_of_wp_marks Tryz.func53 rfl trivial ?_ rfl
  refine wpIn_wide.2 ?_
  simp only [Tryz.ntmps53, List.size_toArray, List.length_cons, List.length_nil, Nat.reduceAdd, Nat.reduceSub, Array.replicate_succ, Array.replicate_zero, List.push_toArray, List.append_toArray, List.nil_append, List.cons_append]
  go_upto_region 3 with fail
  rw [← HW0.out]
  clear HW0
  obtain ⟨e1, e2, e3, e4, e5, e6⟩ := HZZ.out
  rw [← e6, ← e5, ← e4, ← e3, ← e2, ← e1]
  clear e1 e2 e3 e4 e5 e6 HZZ
  go_wp2_with fail
  refine (tPairs b bh N root W0).mono ?_
  rintro e w3 ⟨zl, zm, rfl, ql, qm, _, _, hb3⟩
  have hbi := HBI.out.below hb3
  obtain ⟨n5, hn5⟩ : ∃ n5, n5 = W0.heap.size := ⟨_, rfl⟩
  rw [← hn5] at hbi
  have HG := Lib.hid (pairs_gives11 (b := b) (bh := bh) (most := most) (root := root) (N := N) (M0 := M) (l := l) zl zm w3 HA.out.1.zero HA.out.2.1 ⟨M, F, HA.out.1.below hbi.pb.bel, Pres.refl M root⟩ ql qm)
  have H3 := Lib.hid (show n5 ≤ w3.heap.size from hbi.pb.zs.2.2.2.2.2.2.2.2.2)
  have HI := Lib.hid hbi
  clear ql qm hb3 hbi HBI hn5 a0 a1 c0 c1
  go_wp2_with fail
  refine wp_range9 (encs := fun p : Pr => #[pagg p]) (first := #[]) (last := #[.pointer (some ⟨zl, 0, none⟩), .pointer (some ⟨zm, 0, none⟩)]) (f := 94) rfl (fun _ _ => rfl) (fun _ => rfl) HG.out (fun h1 h2 => h1.trans h2) (fun W l o o' _ ho hc _ => K11.putObj ho hc)
    (fun i W' => FlI w n5 zk zr z6 z7 k l i W' ∧ LeF k l i) (fun c i W' => c = .exit 0 ∧ FlI w n5 zk zr z6 z7 k l (i - 1) W' ∧ LeF k l (i - 1) ∧ GtF k l (i - 1)) ?_ ?_ ⟨⟨_, _, HI.out, .inl ⟨rfl, rfl, rfl⟩⟩, fun _ _ _ h => by omega⟩ (fun A B hb => K11.below hb) ?_ ?_ ?_
  · rintro i A B row ⟨⟨x, ok, h1, h3⟩, h2⟩ hg hr
    exact ⟨⟨x, ok, h1.grown hg (fun r hr' => Nat.le_trans H3.out (hr r hr').1), h3⟩, h2⟩
  · rintro c i A B row ⟨h0, ⟨x, ok, h1, h3⟩, h2⟩ hg hr
    exact ⟨h0, ⟨x, ok, h1.grown hg (fun r hr' => Nat.le_trans H3.out (hr r hr').1), h3⟩, h2⟩
  · intro lp i x W4 hx hI hsz
    have HX4 := Lib.hid hx
    obtain ⟨⟨r, ok, hpb, hfl⟩, hlt⟩ := hI
    have HF4 := Lib.hid hfl
    have I4 := Lib.hid (And.intro hpb hlt)
    clear hx hpb hfl hlt HG HI
    gi_wp2
    have hbA : Below W4.heap.size W4 (W4.alloc (.cells #[.int .u8 x.1.1, .int .i64 x.1.2.1, .string x.1.2.2, .int .u8 x.2.1, .int .i64 x.2.2.1, .string x.2.2.2] 48)) := (Below.refl _ W4).alloc (Nat.le_refl _) _
    refine ⟨hbA, fun j W' => (PRes w n5 zk zr z6 z7 k r ok W' ∧ LeF k l j) ∧ C6 W' W4.heap.size 48 (.int .u8 x.1.1) (.int .i64 x.1.2.1) (.string x.1.2.2) (.int .u8 x.2.1) (.int .i64 x.2.2.1) (.string x.2.2.2), fun j A B row h hg hr => ⟨⟨h.1.1.grown hg (fun r hr' => Nat.le_trans H3.out (hr r hr').1), h.1.2⟩, h.2.own hg (fun r hr' => (hr r hr').2)⟩, ⟨⟨I4.out.1.below hbA, I4.out.2⟩, C6.new _ _ _ _ _ _ _ _⟩, fun W5 hJ hs5 => ?_⟩
    obtain ⟨⟨bi, hall⟩, p6⟩ := hJ
    have S5 := Lib.hid (And.intro bi (And.intro hall p6))
    obtain ⟨k0, k1, k2, _⟩ := bi.pb.key.all
    have m0 := p6.c0
    have m1 := p6.c1
    have m2 := p6.c2
    clear bi hall p6 I4 hs5 hbA
    gi_wp2
    refine ⟨trivial, rfl, (CallsIn.inRound lp ((callsIn_wide (n := 0)).2 (vcompare x.1 k W5))).mono ?_⟩
    rintro e7 W7 ⟨rfl, hb7⟩
    have p67 := S5.out.2.2.below hb7
    have S7 := Lib.hid (And.intro (S5.out.1.below hb7) (show Below W5.heap.size W5 W7 from hb7))
    clear hb7 k0 k1 k2 m0 m1 m2
    by_cases hv : 0 < vc x.1 k
    · have HV := Lib.hid hv
      clear p67
      gi_wp2
      refine ⟨KeepsOthers.of_kp (Kp.of_below S7.out.2 (fun _ => False)) (fun _ _ h => h.elim), K11.below S7.out.2, rfl, ?_, ?_, ?_⟩
      · rw [Nat.add_sub_cancel]; exact ⟨r, ok, S7.out.1, HF4.out⟩
      · rw [Nat.add_sub_cancel]; exact S5.out.2.1
      · rw [Nat.add_sub_cancel]
        intro p hp
        rw [HX4.out] at hp
        cases hp
        have := HV.out
        omega
    · have HV := Lib.hid hv
      have FIN := Lib.hid (S7.out.1.set (root := root) (M0 := M) (HA.out.1.below S7.out.1.pb.bel) HA.out.2.2.2 H3.out x)
      have m0 := p67.c0
      have m1 := p67.c1
      have m2 := p67.c2
      have m3 := p67.c3
      have m4 := p67.c4
      have m5 := p67.c5
      obtain ⟨d0, d1, d2, d3, d4, d5⟩ := S7.out.1.pb.pr.pair
      have f0 := S7.out.1.pb.pr.fz 0
      have f1 := S7.out.1.pb.pr.fz 1
      have f2 := S7.out.1.pb.pr.fz 2
      have f3 := S7.out.1.pb.pr.fz 3
      have f4 := S7.out.1.pb.pr.fz 4
      have f5 := S7.out.1.pb.pr.fz 5
      obtain ⟨y0, y1⟩ := S7.out.1.pb.ok.all
      have ne67 : ¬ z7 = z6 := fun e => S7.out.1.pb.zs.2.2.2.2.2.2.2.2.1 e.symm
      clear p67
      gi_wp2
      refine ⟨(KeepsOthers.of_kp (Kp.of_below S7.out.2 (fun _ => False)) (fun _ _ h => h.elim)).trans FIN.out.2.2, (K11.below S7.out.2).trans FIN.out.2.1, ⟨x, true, FIN.out.1, .inr ⟨by omega, rfl, by rw [Nat.add_sub_cancel]; exact HX4.out⟩⟩, fun j p hp hj => ?_⟩
      by_cases e : j < i
      · exact S5.out.2.1 j p hp e
      · obtain rfl : j = i := by omega
        rw [HX4.out] at hp
        cases hp
        have := HV.out
        omega
  · intro D W10 hD hI hdef
    obtain ⟨⟨r, ok, hpb, hfl⟩, hlt⟩ := hI
    have HC := Lib.hid (ctF_of (k := k) (l := l) (Nat.le_refl _) hlt (fun p hp => by simp at hp))
    have S := Lib.hid (And.intro hpb (And.intro hdef (And.intro (show n5 ≤ D from by have := H3.out; omega) hfl)))
    obtain ⟨d0, d1, d2, d3, d4, d5⟩ := hpb.pb.pr.pair
    obtain ⟨y0, y1⟩ := hpb.pb.ok.all
    clear hpb hfl hlt hdef HG HI
    go_wp2_with fail
    have HS0 : PRq w n5 zk zr z6 z7 k r ok D W10 := ⟨S.out.1.pb, ⟨pzero, S.out.1.res⟩, S.out.1.zz, S.out.2.1, S.out.2.2.1⟩
    have HFL := Lib.hid (show FlB l (ctF k l) r ok by rw [HC.out]; exact S.out.2.2.2)
    clear S HC d0 d1 d2 d3 d4 d5 y0 y1
    have l6 : ∀ W', PRq w n5 zk zr z6 z7 k r ok D W' → W'.cell? ⟨z6, 0, none⟩ = some (.int .u8 r.1.1) ∧ W'.cell? ⟨z6, 1, none⟩ = some (.int .i64 r.1.2.1) ∧ W'.cell? ⟨z6, 2, none⟩ = some (.string r.1.2.2) ∧ W'.cell? ⟨z6, 3, none⟩ = some (.int .u8 r.2.1) ∧ W'.cell? ⟨z6, 4, none⟩ = some (.int .i64 r.2.2.1) ∧ W'.cell? ⟨z6, 5, none⟩ = some (.string r.2.2.2) := fun W' h => h.pb.pr.pair
    have l7 : ∀ W', PRq w n5 zk zr z6 z7 k r ok D W' → W'.cell? ⟨z7, 0, none⟩ = some (.bool ok) := fun W' h => h.pb.ok.c0
    refine wp_region_noPanic ?_
    refine wp_region_held_drew (S := fun W' => PRq w n5 zk zr z6 z7 k r ok D W') (by kernel_rfl) HS0.drew (fun hH => ?_)
    generalize W10.drew = Wc at hH ⊢
    clear HS0
    refine tkH ?_ 0 hH ?_ ?_; rotate_left
    · intro W' hS; go_simp; with_reducible rfl
    simp only [tkr]
    refine tkH ?_ 1 hH ?_ ?_; rotate_left
    · intro W' hS; go_simp; with_reducible rfl
    simp only [tkr]
    refine rdH 2 rfl (fun K hK => ?_)
    obtain ⟨t0, ht0⟩ := hH.res
    obtain ⟨d0, d1, d2, d3, d4, d5⟩ := hH.pb.pr.pair
    obtain ⟨u0, u1, u2, u3, u4, u5⟩ := ht0.pair
    have HQ := Lib.hid (And.intro (hH.put r) (ht0.setP r))
    have f0 := ht0.fz 0
    have f1 := ht0.fz 1
    have f2 := ht0.fz 2
    have f3 := ht0.fz 3
    have f4 := ht0.fz 4
    have f5 := ht0.fz 5
    go_simp
    clear d0 d1 d2 d3 d4 d5 u0 u1 u2 u3 u4 u5 f0 f1 f2 f3 f4 f5 ht0
    refine hK.out _ _ HQ.out.1 (fun hH => ?_)
    refine tkH ?_ 3 hH ?_ ?_; rotate_left
    · intro W' hS; go_simp; with_reducible rfl
    simp only [tkr]
    refine wpAnyH_done (by kernel_rfl) ?_ _
    clear hH hK K t0 l6 l7
    change NoPanic _ _ _ (setP Wc zr r)
    obtain ⟨hH, hR⟩ := HQ.out
    clear HQ
    generalize setP Wc zr r = Wn at hH hR ⊢
    refine NoPanic.normal ?_
    have P := hH.pb.kp (kp_putObj (x := D) (o := .deferred none)) (fun q e => by have := hH.dn; omega)
    have R := hR.kp (kp_putObj (x := D) (o := .deferred none)) (fun e => by have := hH.dn; have := hH.zz; omega)
    have HD := hH.def'
    have HFo := HFL.out
    clear hH hR HFL
    obtain ⟨g0, g1, g2, g3, g4, g5⟩ := R.pair
    go_wp2_with fail
    refine ⟨by simp, .inl ⟨_, _, rfl, run_takeDeferred HD, ?_⟩⟩
    exact ⟨.tuple #[pagg r, .bool ok], by simp [results, Tryz.results53, go_sem, g0, g1, g2, g3, g4, g5], ⟨r, ok, rfl, HFo⟩, P.bel⟩
  · rintro D c i W10 hD hi ⟨rfl, ⟨r, ok, hpb, hfl⟩, h2, h3⟩ hdef
    have HC := Lib.hid (ctF_of (k := k) (l := l) (by omega) h2 h3)
    have S := Lib.hid (And.intro hpb (And.intro hdef (And.intro (show n5 ≤ D from by have := H3.out; omega) hfl)))
    obtain ⟨d0, d1, d2, d3, d4, d5⟩ := hpb.pb.pr.pair
    obtain ⟨y0, y1⟩ := hpb.pb.ok.all
    clear hpb hfl h2 h3 hdef HG HI
    go_wp2_with fail
    have HS0 : PRq w n5 zk zr z6 z7 k r ok D W10 := ⟨S.out.1.pb, ⟨pzero, S.out.1.res⟩, S.out.1.zz, S.out.2.1, S.out.2.2.1⟩
    have HFL := Lib.hid (show FlB l (ctF k l) r ok by rw [HC.out]; exact S.out.2.2.2)
    clear S HC d0 d1 d2 d3 d4 d5 y0 y1
    have l6 : ∀ W', PRq w n5 zk zr z6 z7 k r ok D W' → W'.cell? ⟨z6, 0, none⟩ = some (.int .u8 r.1.1) ∧ W'.cell? ⟨z6, 1, none⟩ = some (.int .i64 r.1.2.1) ∧ W'.cell? ⟨z6, 2, none⟩ = some (.string r.1.2.2) ∧ W'.cell? ⟨z6, 3, none⟩ = some (.int .u8 r.2.1) ∧ W'.cell? ⟨z6, 4, none⟩ = some (.int .i64 r.2.2.1) ∧ W'.cell? ⟨z6, 5, none⟩ = some (.string r.2.2.2) := fun W' h => h.pb.pr.pair
    have l7 : ∀ W', PRq w n5 zk zr z6 z7 k r ok D W' → W'.cell? ⟨z7, 0, none⟩ = some (.bool ok) := fun W' h => h.pb.ok.c0
    refine wp_region_noPanic ?_
    refine wp_region_held_drew (S := fun W' => PRq w n5 zk zr z6 z7 k r ok D W') (by kernel_rfl) HS0.drew (fun hH => ?_)
    generalize W10.drew = Wc at hH ⊢
    clear HS0
    refine tkH ?_ 0 hH ?_ ?_; rotate_left
    · intro W' hS; go_simp; with_reducible rfl
    simp only [tkr]
    refine tkH ?_ 1 hH ?_ ?_; rotate_left
    · intro W' hS; go_simp; with_reducible rfl
    simp only [tkr]
    refine rdH 2 rfl (fun K hK => ?_)
    obtain ⟨t0, ht0⟩ := hH.res
    obtain ⟨d0, d1, d2, d3, d4, d5⟩ := hH.pb.pr.pair
    obtain ⟨u0, u1, u2, u3, u4, u5⟩ := ht0.pair
    have HQ := Lib.hid (And.intro (hH.put r) (ht0.setP r))
    have f0 := ht0.fz 0
    have f1 := ht0.fz 1
    have f2 := ht0.fz 2
    have f3 := ht0.fz 3
    have f4 := ht0.fz 4
    have f5 := ht0.fz 5
    go_simp
    clear d0 d1 d2 d3 d4 d5 u0 u1 u2 u3 u4 u5 f0 f1 f2 f3 f4 f5 ht0
    refine hK.out _ _ HQ.out.1 (fun hH => ?_)
    refine tkH ?_ 3 hH ?_ ?_; rotate_left
    · intro W' hS; go_simp; with_reducible rfl
    simp only [tkr]
    refine wpAnyH_done (by kernel_rfl) ?_ _
    clear hH hK K t0 l6 l7
    change NoPanic _ _ _ (setP Wc zr r)
    obtain ⟨hH, hR⟩ := HQ.out
    clear HQ
    generalize setP Wc zr r = Wn at hH hR ⊢
    refine NoPanic.normal ?_
    have P := hH.pb.kp (kp_putObj (x := D) (o := .deferred none)) (fun q e => by have := hH.dn; omega)
    have R := hR.kp (kp_putObj (x := D) (o := .deferred none)) (fun e => by have := hH.dn; have := hH.zz; omega)
    have HD := hH.def'
    have HFo := HFL.out
    clear hH hR HFL
    obtain ⟨g0, g1, g2, g3, g4, g5⟩ := R.pair
    go_wp2_with fail
    refine ⟨by simp, .inl ⟨_, _, rfl, run_takeDeferred HD, ?_⟩⟩
    exact ⟨.tuple #[pagg r, .bool ok], by simp [results, Tryz.results53, go_sem, g0, g1, g2, g3, g4, g5], ⟨r, ok, rfl, HFo⟩, P.bel⟩
end
end Go.Proofs.YtkkfhbcnfknmaaaGreat

namespace Go.Proofs.YtkkfhbcnfknmaaaGreat
set_option linter.unusedSimpArgs false
theorem srt_at {l : List Pr} (h : Srt h0 l) {i j : Nat} {p q : Pr} (hp : l[i]? = some p) (hq : l[j]? = some q) (hij : i < j) : vc p.1 q.1 = -1 := by
  obtain ⟨hi, rfl⟩ := List.getElem?_eq_some_iff.1 hp
  obtain ⟨hj, rfl⟩ := List.getElem?_eq_some_iff.1 hq
  have := List.pairwise_iff_getElem.1 h i j hi hj hij
  exact h0_klt.1 this
end Go.Proofs.YtkkfhbcnfknmaaaGreat
