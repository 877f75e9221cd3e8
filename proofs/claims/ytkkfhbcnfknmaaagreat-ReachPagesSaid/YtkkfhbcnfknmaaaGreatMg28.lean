/- Several texts in one. -/
import Derived.Test.YtkkfhbcnfknmaaaGreatMg24
import Derived.Test.YtkkfhbcnfknmaaaGreatMg27
import Derived.Test.YtkkfhbcnfknmaaaGreatMg25
namespace Go.Proofs.YtkkfhbcnfknmaaaGreat
set_option maxRecDepth 100000
set_option linter.unusedSimpArgs false
set_option linter.unusedVariables false
open Go.RowKit Go.Shelf
attribute [local go_sem] Oper.semAt_some
def pgF (n : Nat) (eb wb : Ky → Bool) : List Pr → List Pr → List Pr
  | [], acc => acc
  | p :: l, acc => if acc.length = n then acc else if eb p.1 = true then acc else pgF n eb wb l (if wb p.1 then acc ++ [p] else acc)
theorem pgF_full {n : Nat} {eb wb : Ky → Bool} {p : Pr} {l acc : List Pr} (h : acc.length = n) : pgF n eb wb (p :: l) acc = acc := by rw [pgF, if_pos h]
theorem pgF_end {n : Nat} {eb wb : Ky → Bool} {p : Pr} {l acc : List Pr} (h : ¬ acc.length = n) (h2 : true = eb p.1) : pgF n eb wb (p :: l) acc = acc := by rw [pgF, if_neg h, if_pos h2.symm]
theorem pgF_go {n : Nat} {eb wb : Ky → Bool} {p : Pr} {l acc : List Pr} {v : Bool} (h : ¬ acc.length = n) (h2 : false = eb p.1) (h3 : v = wb p.1) : pgF n eb wb (p :: l) acc = pgF n eb wb l (if v then acc ++ [p] else acc) := by rw [pgF, if_neg h, if_neg (by rw [← h2]; decide), ← h3]
abbrev bcs (k : Ky) (o : Bool) : Array Value := #[.int .u8 k.1, .int .i64 k.2.1, .string k.2.2, .bool o]
abbrev endB (k : Ky) (o : Bool) (x : Ky) : Bool := !o && decide (0 ≤ vc x k)
abbrev begB (k : Ky) (o : Bool) (x : Ky) : Bool := o || decide (0 ≤ vc x k)
theorem BC.bound {W : World} {z : Nat} {k : Ky} {o : Bool} (h : BC W z 113 (bcs k o)) : W.cell? ⟨z, 0, none⟩ = some (.int .u8 k.1) ∧ W.cell? ⟨z, 1, none⟩ = some (.int .i64 k.2.1) ∧ W.cell? ⟨z, 2, none⟩ = some (.string k.2.2) ∧ W.cell? ⟨z, 3, none⟩ = some (.bool o) := ⟨h.at rfl, h.at rfl, h.at rfl, h.at rfl⟩
structure PG (w : World) (n5 zf zt zn zg : Nat) (fa : Ky) (fo : Bool) (ta : Ky) (tb : Bool) (n : Nat) (acc : List Pr) (vg : Value) (W : World) : Prop where
  fb : BC W zf 113 (bcs fa fo)
  tb : BC W zt 113 (bcs ta tb)
  cnt : C1 W zn 3 (.int .i64 (n : Int))
  gb : C1 W zg 45 vg
  own : W.ownsRow n5 48 6 vg acc.length (acc.flatMap pcells)
  zs : w.heap.size ≤ zf ∧ w.heap.size ≤ zt ∧ w.heap.size ≤ zn ∧ w.heap.size ≤ zg ∧ zf < n5 ∧ zt < n5 ∧ zn < n5 ∧ zg < n5 ∧ zf ≠ zg ∧ zt ≠ zg ∧ zn ≠ zg ∧ n5 ≤ W.heap.size
  bel : Below w.heap.size w W
section
variable {w W W' : World} {n5 zf zt zn zg b most n : Nat} {fa ta : Ky} {fo tb : Bool} {acc : List Pr} {vg : Value}
theorem PG.kp {G : Nat → Prop} (h : PG w n5 zf zt zn zg fa fo ta tb n acc vg W) (hk : Kp G W W') (hG : ∀ q, G q → n5 ≤ q ∧ vg.ownBlock ≠ some q) : PG w n5 zf zt zn zg fa fo ta tb n acc vg W' := by
  obtain ⟨s1, s2, s3, s4, s5, s6, s7, s8, s9, s10, s11, s12⟩ := h.zs
  have := hk.size
  exact ⟨h.fb.kp hk (fun e => by have := (hG _ e).1; omega), h.tb.kp hk (fun e => by have := (hG _ e).1; omega), h.cnt.kp hk (fun e => by have := (hG _ e).1; omega), h.gb.kp hk (fun e => by have := (hG _ e).1; omega), hk.own h.own (fun q hq hg => (hG q hg).2 hq), ⟨s1, s2, s3, s4, s5, s6, s7, s8, s9, s10, s11, by omega⟩, below_kp h.bel hk (fun q hg => by have := (hG q hg).1; omega)⟩
theorem PG.below (h : PG w n5 zf zt zn zg fa fo ta tb n acc vg W) (hb : Below W.heap.size W W') : PG w n5 zf zt zn zg fa fo ta tb n acc vg W' := h.kp (Kp.of_below hb (fun _ => False)) (fun _ h => h.elim)
theorem PG.grown {row : Option Nat} (h : PG w n5 zf zt zn zg fa fo ta tb n acc vg W) (hg : W.grownBy W' row) (hr : ∀ r, row = some r → n5 ≤ r ∧ ∃ o : Obj, W.heap[r]? = some o ∧ o.isCells = false) : PG w n5 zf zt zn zg fa fo ta tb n acc vg W' := by
  refine h.kp (Kp.of_grown hg (F := fun q => row = some q) (fun q e => .inl e)) (fun q e => ?_)
  obtain ⟨h1, o, h2, h3⟩ := hr q e
  refine ⟨h1, fun hv => ?_⟩
  obtain ⟨cur, hc⟩ := own_type h.own q hv
  rw [h2] at hc
  obtain rfl := Option.some.inj hc
  cases h3
theorem PG.next {v' : Value} {p : Pr} {W2 W3 : World} (h : PG w n5 zf zt zn zg fa fo ta tb n acc vg W) (hb : Below W.heap.size W W2) (ho : W3.ownsRow n5 48 6 v' (acc.length + 1) (acc.flatMap pcells ++ pcells p)) (hg : W2.grownBy W3 vg.ownBlock) :
    PG w n5 zf zt zn zg fa fo ta tb n (acc ++ [p]) v' (W3.setCell ⟨zg, 0, none⟩ v') ∧ Kp (fun q => q = zg ∨ vg.ownBlock = some q) W (W3.setCell ⟨zg, 0, none⟩ v') := by
  obtain ⟨s1, s2, s3, s4, s5, s6, s7, s8, s9, s10, s11, s12⟩ := h.zs
  have hs2 := hb.size
  have hs3 := (Kp.of_grown hg (F := fun q => vg.ownBlock = some q) (fun q e => .inl e)).size
  have k2 : Kp (fun q => vg.ownBlock = some q) W W3 := (Kp.of_below hb _).trans (Kp.of_grown hg (fun q e => .inl e)) (fun q e => .inl e)
  have kz : Kp (fun q => q = zg) W3 (W3.setCell ⟨zg, 0, none⟩ v') := Kp.one W3 zg 0 v'
  have hblk : ∀ q, vg.ownBlock = some q → n5 ≤ q := fun q hq => (own_blk h.own q hq).1
  have hv' : ∀ q, v'.ownBlock = some q → n5 ≤ q := fun q hq => (own_blk ho q hq).1
  have kk : Kp (fun q => q = zg ∨ vg.ownBlock = some q) W (W3.setCell ⟨zg, 0, none⟩ v') := (k2.mono (fun q h _ => .inr h)).trans kz (fun q h => .inl (.inl h))
  refine ⟨⟨h.fb.kp kk (fun e => e.elim s9 (fun e => by have := hblk _ e; omega)), h.tb.kp kk (fun e => e.elim s10 (fun e => by have := hblk _ e; omega)), h.cnt.kp kk (fun e => e.elim s11 (fun e => by have := hblk _ e; omega)), (h.gb.kp k2 (fun e => by have := hblk _ e; omega)).set _, ?_, ⟨s1, s2, s3, s4, s5, s6, s7, s8, s9, s10, s11, by simp; omega⟩, below_kp h.bel kk (fun q hq => hq.elim (fun e => by omega) (fun e => by have := hblk _ e; omega))⟩, kk⟩
  rw [List.length_append, List.flatMap_append]
  refine kz.own (by simpa using ho) (fun q hq e => ?_)
  have := hv' q hq
  omega
theorem PG.kv {n9 root : Nat} {M0 M : Cells} {F : Nat → Prop} (h : PG w n5 zf zt zn zg fa fo ta tb n acc vg W) (ha : Ar W b most M F) (hF : ∀ q, F q → q < w.heap.size) (hn5 : n5 ≤ n9) (hk : Kp (fun q => q = zg ∨ vg.ownBlock = some q) W W') : K11 n9 b most M0 root W W' ∧ KeepsOthers W W' := by
  obtain ⟨s1, s2, s3, s4, s5, s6, s7, s8, s9, s10, s11, s12⟩ := h.zs
  exact (GC.mk (w := w) h.gb h.own ⟨s4, s8, s12⟩ h.bel).kv ha hF hn5 hk
end
section
variable {b bh most root N : Nat} {M : Cells} {F : Nat → Prop} {l : List Pr}
theorem rPage_no (b bh N root : Nat) (fa ta : Ky) (fo tb : Bool) (n : Int) (hn : n < 0 ∨ 64 < n) (w : World) :
    Calls Tryz.prog 57 #[land b bh, .agg #[.int .i64 (N : Nat), .int .i64 (root : Nat)], bagg fa fo, bagg ta tb, .int .i64 n] w fun e w' => e = .returned (.tuple #[.slice none 0 0, .int .i64 1]) ∧ Below w.heap.size w w' := by
  have hb0 : Below w.heap.size w (((((w.alloc (.cells #[ap b, .pointer (some ⟨bh, 0, none⟩)] 26)).alloc (.cells #[.int .i64 (N : Int), .int .i64 (root : Int)] 72)).alloc (.cells #[.int .u8 fa.1, .int .i64 fa.2.1, .string fa.2.2, .bool fo] 113)).alloc (.cells #[.int .u8 ta.1, .int .i64 ta.2.1, .string ta.2.2, .bool tb] 113)).alloc (.cells #[.int .i64 n] 3)) := (((((Below.refl _ w).alloc (Nat.le_refl _) _).alloc (by simp) _).alloc (by simp; omega) _).alloc (by simp; omega) _).alloc (by simp; omega) _
  have HB0 := Lib.hid hb0
  clear hb0
  refine (callsIn_wide (n := 3)).1 ?_
  refine callsIn_of_wp_marks Tryz.func57 rfl trivial ?_ rfl
  refine wpIn_wide.2 ?_
  simp only [Tryz.ntmps57, List.size_toArray, List.length_cons, List.length_nil, Nat.reduceAdd, Nat.reduceSub, Array.replicate_succ, Array.replicate_zero, List.push_toArray, List.append_toArray, List.nil_append, List.cons_append]
  rcases Int.lt_or_le n 0 with h0 | h0
  · clear hn
    go_wp2_with fail
    exact ⟨.tuple #[.slice none 0 0, .int .i64 1], by simp [results, Tryz.results57, go_sem], rfl, HB0.out⟩
  · have h1 : (64 : Int) < n := by omega
    have h2 : ¬ n < 0 := by omega
    clear hn h0
    go_wp2_with fail
    exact ⟨.tuple #[.slice none 0 0, .int .i64 1], by simp [results, Tryz.results57, go_sem], rfl, HB0.out⟩
set_option maxHeartbeats 4000000 in
theorem rPage (N root : Nat) (fa ta : Ky) (fo tb : Bool) (n : Nat) (hn : n ≤ 64) (w : World) (ha : Ar w b most M F) (hT : TT M root l) (hl : l.length ≤ 2000) :
    Calls Tryz.prog 57 #[land b bh, .agg #[.int .i64 (N : Nat), .int .i64 (root : Nat)], bagg fa fo, bagg ta tb, .int .i64 (n : Int)] w fun e w' => ∃ v, e = .returned (.tuple #[v, .int .i64 0]) ∧ w'.ownsRow w.heap.size 48 6 v (pgF n (endB ta tb) (begB fa fo) l []).length ((pgF n (endB ta tb) (begB fa fo) l []).flatMap pcells) ∧ Below w.heap.size w w' := by
  obtain ⟨eb, heb⟩ : ∃ eb, eb = endB ta tb := ⟨_, rfl⟩
  obtain ⟨wb, hwb⟩ : ∃ wb, wb = begB fa fo := ⟨_, rfl⟩
  rw [← heb, ← hwb]
  have HEB := Lib.hid (And.intro heb hwb)
  clear heb hwb
  obtain ⟨W0, hW0⟩ : ∃ W0, W0 = ((((((w.alloc (.cells #[ap b, .pointer (some ⟨bh, 0, none⟩)] 26)).alloc (.cells #[.int .i64 (N : Int), .int .i64 (root : Int)] 72)).alloc (.cells #[.int .u8 fa.1, .int .i64 fa.2.1, .string fa.2.2, .bool fo] 113)).alloc (.cells #[.int .u8 ta.1, .int .i64 ta.2.1, .string ta.2.2, .bool tb] 113)).alloc (.cells #[.int .i64 (n : Int)] 3)).alloc (.cells #[.slice none 0 0] 45)) := ⟨_, rfl⟩
  have hsz : W0.heap.size = w.heap.size + 1 + 1 + 1 + 1 + 1 + 1 := by rw [hW0]; simp
  have hb0 : Below w.heap.size w W0 := by rw [hW0]; exact ((((((Below.refl _ w).alloc (Nat.le_refl _) _).alloc (by simp) _).alloc (by simp; omega) _).alloc (by simp; omega) _).alloc (by simp; omega) _).alloc (by simp; omega) _
  have q1 : C2 W0 w.heap.size 26 (ap b) (.pointer (some ⟨bh, 0, none⟩)) := by
    have h := ((((((C2.new w 26 (ap b) (.pointer (some ⟨bh, 0, none⟩))).alloc (.cells #[.int .i64 (N : Int), .int .i64 (root : Int)] 72)).alloc (.cells #[.int .u8 fa.1, .int .i64 fa.2.1, .string fa.2.2, .bool fo] 113)).alloc (.cells #[.int .u8 ta.1, .int .i64 ta.2.1, .string ta.2.2, .bool tb] 113)).alloc (.cells #[.int .i64 (n : Int)] 3)).alloc (.cells #[.slice none 0 0] 45))
    rw [hW0]
    simpa using h
  have q2 : C2 W0 (w.heap.size + 1) 72 (.int .i64 (N : Int)) (.int .i64 (root : Int)) := by
    have h := (((((C2.new (w.alloc (.cells #[ap b, .pointer (some ⟨bh, 0, none⟩)] 26)) 72 (.int .i64 (N : Int)) (.int .i64 (root : Int))).alloc (.cells #[.int .u8 fa.1, .int .i64 fa.2.1, .string fa.2.2, .bool fo] 113)).alloc (.cells #[.int .u8 ta.1, .int .i64 ta.2.1, .string ta.2.2, .bool tb] 113)).alloc (.cells #[.int .i64 (n : Int)] 3)).alloc (.cells #[.slice none 0 0] 45))
    rw [hW0]
    simpa using h
  have q3 : BC W0 (w.heap.size + 1 + 1) 113 (bcs fa fo) := by
    have h := ((((BC.new ((w.alloc (.cells #[ap b, .pointer (some ⟨bh, 0, none⟩)] 26)).alloc (.cells #[.int .i64 (N : Int), .int .i64 (root : Int)] 72)) 113 (bcs fa fo)).alloc (.cells #[.int .u8 ta.1, .int .i64 ta.2.1, .string ta.2.2, .bool tb] 113)).alloc (.cells #[.int .i64 (n : Int)] 3)).alloc (.cells #[.slice none 0 0] 45))
    rw [hW0]
    simpa using h
  have q4 : BC W0 (w.heap.size + 1 + 1 + 1) 113 (bcs ta tb) := by
    have h := (((BC.new (((w.alloc (.cells #[ap b, .pointer (some ⟨bh, 0, none⟩)] 26)).alloc (.cells #[.int .i64 (N : Int), .int .i64 (root : Int)] 72)).alloc (.cells #[.int .u8 fa.1, .int .i64 fa.2.1, .string fa.2.2, .bool fo] 113)) 113 (bcs ta tb)).alloc (.cells #[.int .i64 (n : Int)] 3)).alloc (.cells #[.slice none 0 0] 45))
    rw [hW0]
    simpa using h
  have q5 : C1 W0 (w.heap.size + 1 + 1 + 1 + 1) 3 (.int .i64 (n : Int)) := by
    have h := ((C1.new ((((w.alloc (.cells #[ap b, .pointer (some ⟨bh, 0, none⟩)] 26)).alloc (.cells #[.int .i64 (N : Int), .int .i64 (root : Int)] 72)).alloc (.cells #[.int .u8 fa.1, .int .i64 fa.2.1, .string fa.2.2, .bool fo] 113)).alloc (.cells #[.int .u8 ta.1, .int .i64 ta.2.1, .string ta.2.2, .bool tb] 113)) 3 (.int .i64 (n : Int))).alloc (.cells #[.slice none 0 0] 45))
    rw [hW0]
    simpa using h
  have q6 : C1 W0 (w.heap.size + 1 + 1 + 1 + 1 + 1) 45 (.slice none 0 0) := by
    have h := (C1.new (((((w.alloc (.cells #[ap b, .pointer (some ⟨bh, 0, none⟩)] 26)).alloc (.cells #[.int .i64 (N : Int), .int .i64 (root : Int)] 72)).alloc (.cells #[.int .u8 fa.1, .int .i64 fa.2.1, .string fa.2.2, .bool fo] 113)).alloc (.cells #[.int .u8 ta.1, .int .i64 ta.2.1, .string ta.2.2, .bool tb] 113)).alloc (.cells #[.int .i64 (n : Int)] 3)) 45 (.slice none 0 0))
    rw [hW0]
    simpa using h
  obtain ⟨z3, hz3⟩ : ∃ z, z = w.heap.size := ⟨_, rfl⟩
  obtain ⟨z4, hz4⟩ : ∃ z, z = w.heap.size + 1 := ⟨_, rfl⟩
  obtain ⟨zf, hzf⟩ : ∃ z, z = w.heap.size + 1 + 1 := ⟨_, rfl⟩
  obtain ⟨zt, hzt⟩ : ∃ z, z = w.heap.size + 1 + 1 + 1 := ⟨_, rfl⟩
  obtain ⟨zn, hzn⟩ : ∃ z, z = w.heap.size + 1 + 1 + 1 + 1 := ⟨_, rfl⟩
  obtain ⟨zg, hzg⟩ : ∃ z, z = w.heap.size + 1 + 1 + 1 + 1 + 1 := ⟨_, rfl⟩
  have HW0 := Lib.hid hW0
  have HZZ := Lib.hid (And.intro hz3 (And.intro hz4 (And.intro hzf (And.intro hzt (And.intro hzn hzg)))))
  have HBI := Lib.hid (show PG w W0.heap.size zf zt zn zg fa fo ta tb n [] (.slice none 0 0) W0 by rw [hzf, hzt, hzn, hzg]; exact ⟨q3, q4, q5, q6, World.ownsRow_nil _ _ _ _, by omega, hb0⟩)
  have HA := Lib.hid (And.intro ha (And.intro hT (And.intro hl (And.intro (show ∀ q, F q → q < w.heap.size from fun q hq => ha.lt hq) hn))))
  rw [← hz3] at q1
  rw [← hz4] at q2
  obtain ⟨a0, a1, _⟩ := q1.all
  obtain ⟨c0, c1, _⟩ := q2.all
  obtain ⟨i1, hi1, hy0, hy1, hy2⟩ := info_parts pinfo11
  have HI1 := Lib.hid hi1
  have hn0 : ¬ (n : Int) < 0 := by omega
  have hn1 : ¬ (64 : Int) < (n : Int) := by omega
  clear hW0 hsz hb0 q1 q2 q3 q4 q5 q6 ha hT hl hz3 hz4 hzf hzt hzn hzg hi1 hn
  refine (callsIn_wide (n := 3)).1 ?_
  refine callsIn_of_wp_marks Tryz.func57 rfl trivial ?_ rfl
  refine wpIn_wide.2 ?_
  simp only [Tryz.ntmps57, List.size_toArray, List.length_cons, List.length_nil, Nat.reduceAdd, Nat.reduceSub, Array.replicate_succ, Array.replicate_zero, List.push_toArray, List.append_toArray, List.nil_append, List.cons_append]
  go_upto_region 4 with fail
  rw [← HW0.out]
  clear HW0 hn0 hn1
  obtain ⟨e1, e2, e3, e4, e5, e6⟩ := HZZ.out
  rw [← e6, ← e5, ← e4, ← e3, ← e2, ← e1]
  clear e1 e2 e3 e4 e5 e6 HZZ
  go_wp2_with fail
  refine (tPairs b bh N root W0).mono ?_
  rintro e w3 ⟨zl, zm, rfl, ql, qm, _, _, hb3⟩
  have hbi := HBI.out.below hb3
  obtain ⟨n5, hn5⟩ : ∃ n5, n5 = W0.heap.size := ⟨_, rfl⟩
  rw [← hn5] at hbi
  have HG := Lib.hid (pairs_gives11 (b := b) (bh := bh) (most := most) (root := root) (N := N) (M0 := M) (l := l) zl zm w3 HA.out.1.zero HA.out.2.1 ⟨M, F, HA.out.1.below hbi.bel, Pres.refl M root⟩ ql qm)
  have H3 := Lib.hid (show n5 ≤ w3.heap.size from hbi.zs.2.2.2.2.2.2.2.2.2.2.2)
  have HI := Lib.hid hbi
  clear ql qm hb3 hbi HBI hn5 a0 a1 c0 c1
  go_wp2_with fail
  refine wp_range9 (encs := fun p : Pr => #[pagg p]) (first := #[]) (last := #[.pointer (some ⟨zl, 0, none⟩), .pointer (some ⟨zm, 0, none⟩)]) (f := 94) rfl (fun _ _ => rfl) (fun _ => rfl) HG.out (fun h1 h2 => h1.trans h2) (fun W l o o' _ ho hc _ => K11.putObj ho hc)
    (fun i W' => ∃ acc vg, PG w n5 zf zt zn zg fa fo ta tb n acc vg W' ∧ pgF n eb wb (l.drop i) acc = pgF n eb wb l [] ∧ acc.length ≤ i) (fun c i W' => c = .exit 0 ∧ ∃ vg, PG w n5 zf zt zn zg fa fo ta tb n (pgF n eb wb l []) vg W') ?_ ?_ ⟨[], _, HI.out, rfl, Nat.le_refl _⟩ (fun A B hb => K11.below hb) ?_ ?_ ?_
  · rintro i A B row ⟨acc, vg, h1, h2⟩ hg hr
    exact ⟨acc, vg, h1.grown hg (fun r hr' => ⟨Nat.le_trans H3.out (hr r hr').1, (hr r hr').2⟩), h2⟩
  · rintro c i A B row ⟨h0, vg, h1⟩ hg hr
    exact ⟨h0, vg, h1.grown hg (fun r hr' => ⟨Nat.le_trans H3.out (hr r hr').1, (hr r hr').2⟩)⟩
  · intro lp i x W4 hx hI hsz
    have HX4 := Lib.hid hx
    have I4 := Lib.hid hI
    clear hx hI HG HI
    gi_wp2
    have hbA : Below W4.heap.size W4 (W4.alloc (.cells #[.int .u8 x.1.1, .int .i64 x.1.2.1, .string x.1.2.2, .int .u8 x.2.1, .int .i64 x.2.2.1, .string x.2.2.2] 48)) := (Below.refl _ W4).alloc (Nat.le_refl _) _
    refine ⟨hbA, fun j W' => (∃ acc vg, PG w n5 zf zt zn zg fa fo ta tb n acc vg W' ∧ pgF n eb wb (l.drop j) acc = pgF n eb wb l [] ∧ acc.length ≤ j) ∧ C6 W' W4.heap.size 48 (.int .u8 x.1.1) (.int .i64 x.1.2.1) (.string x.1.2.2) (.int .u8 x.2.1) (.int .i64 x.2.2.1) (.string x.2.2.2), ?_, ⟨?_, C6.new _ _ _ _ _ _ _ _⟩, fun W5 hJ hs5 => ?_⟩
    · rintro j A B row ⟨⟨acc, vg, h1, h2⟩, h3⟩ hg hr
      exact ⟨⟨acc, vg, h1.grown hg (fun r hr' => ⟨Nat.le_trans H3.out (hr r hr').1, (hr r hr').2⟩), h2⟩, h3.own hg (fun r hr' => (hr r hr').2)⟩
    · obtain ⟨acc, vg, h1, h2⟩ := I4.out
      exact ⟨acc, vg, h1.below hbA, h2⟩
    obtain ⟨⟨acc, vg, gr5, hga, hle⟩, p6⟩ := hJ
    have hdr : l.drop i = x :: l.drop (i + 1) := by
      obtain ⟨hlt, hxe⟩ := List.getElem?_eq_some_iff.1 HX4.out
      rw [← hxe]
      exact List.drop_eq_getElem_cons hlt
    rw [hdr] at hga
    obtain ⟨Ag, cg, hvg, _⟩ := (Rd.of_own gr5.own).form
    subst hvg
    have S5 := Lib.hid (And.intro gr5 (And.intro hga (And.intro hle p6)))
    have y0 := gr5.gb.c0
    have y1 := gr5.cnt.c0
    obtain ⟨t0, t1, t2, t3⟩ := gr5.tb.bound
    have m0 := p6.c0
    have m1 := p6.c1
    have m2 := p6.c2
    clear gr5 hga hle p6 I4 hs5 hbA hdr
    by_cases hfull : acc.length = n
    · have HF := Lib.hid hfull
      have hf2 : ((acc.length : Int) == (n : Int)) = true := by simp [hfull]
      have hf3 : (acc.length : Int) = (n : Int) := by omega
      gi_wp2
      refine ⟨trivial, ?_⟩
      gi_wp2
      refine ⟨KeepsOthers.refl W5, K11.below (Below.refl _ W5), rfl, .slice Ag acc.length cg, ?_⟩
      have h1 := S5.out.2.1
      rw [pgF_full HF.out] at h1
      rw [← h1]
      exact S5.out.1
    · have hf2 : ((acc.length : Int) == (n : Int)) = false := by
        have : ¬ (acc.length : Int) = (n : Int) := by omega
        simpa using this
      have hf3 : ¬ (acc.length : Int) = (n : Int) := by omega
      have HF := Lib.hid (show acc.length < n ∨ n < acc.length by omega)
      clear hfull
      gi_wp2
      refine ⟨trivial, rfl, (CallsIn.inRound lp ((callsIn_wide (n := 0)).2 (vended ta tb x.1 W5))).mono ?_⟩
      rintro e7 W7 ⟨rfl, hb7⟩
      have p67 := S5.out.2.2.2.below hb7
      have gr7 := S5.out.1.below hb7
      have S7 := Lib.hid (And.intro gr7 (And.intro (show Below W5.heap.size W5 W7 from hb7) p67))
      clear hb7 y0 y1 t0 t1 t2 t3 m0 m1 m2 hf2 hf3
      obtain ⟨b7, hb7⟩ : ∃ b7, b7 = (!tb && decide (0 ≤ vc x.1 ta)) := ⟨_, rfl⟩
      rw [← hb7]
      have HB7 := Lib.hid (show b7 = eb x.1 by rw [hb7, HEB.out.1])
      clear hb7
      cases b7 with
      | true =>
        clear p67 gr7
        gi_wp2
        refine ⟨KeepsOthers.of_kp (Kp.of_below S7.out.2.1 (fun _ => False)) (fun _ _ h => h.elim), K11.below S7.out.2.1, rfl, .slice Ag acc.length cg, ?_⟩
        have h1 := S5.out.2.1
        rw [pgF_end (by have := HF.out; omega) HB7.out] at h1
        rw [← h1]
        exact S7.out.1
      | false =>
        obtain ⟨t0, t1, t2, t3⟩ := gr7.fb.bound
        have m0 := p67.c0
        have m1 := p67.c1
        have m2 := p67.c2
        clear p67 gr7
        gi_wp2
        refine ⟨trivial, rfl, (CallsIn.inRound lp ((callsIn_wide (n := 0)).2 (vbegun fa fo x.1 W7))).mono ?_⟩
        rintro e8 W8 ⟨rfl, hb8⟩
        have p68 := S7.out.2.2.below hb8
        have gr8 := S7.out.1.below hb8
        have hb58 : Below W5.heap.size W5 W8 := S7.out.2.1.trans (hb8.mono S7.out.2.1.size)
        have S8 := Lib.hid (And.intro gr8 (And.intro (show K11 w3.heap.size b most M root W5 W8 from K11.below hb58) (And.intro (show KeepsOthers W5 W8 from KeepsOthers.of_kp (Kp.of_below hb58 (fun _ => False)) (fun _ _ h => h.elim)) p68)))
        clear hb8 hb58 t0 t1 t2 t3 m0 m1 m2
        obtain ⟨b8, hb8⟩ : ∃ b8, b8 = (fo || decide (0 ≤ vc x.1 fa)) := ⟨_, rfl⟩
        rw [← hb8]
        have HB8 := Lib.hid (show b8 = wb x.1 by rw [hb8, HEB.out.2])
        clear hb8
        have HGA := Lib.hid (show pgF n eb wb (l.drop (i + 1)) (if b8 then acc ++ [x] else acc) = pgF n eb wb l [] by
          have h1 := S5.out.2.1
          rw [pgF_go (by have := HF.out; omega) HB7.out HB8.out] at h1
          exact h1)
        cases b8 with
        | false =>
          clear p68 gr8
          gi_wp2
          exact ⟨S8.out.2.2.1, S8.out.2.1, acc, _, S8.out.1, HGA.out, by have := S5.out.2.2.1; omega⟩
        | true =>
          have y0 := gr8.gb.c0
          have y9 := gr8.gb.fz
          have m0 := p68.c0
          have m1 := p68.c1
          have m2 := p68.c2
          have m3 := p68.c3
          have m4 := p68.c4
          have m5 := p68.c5
          clear p68 gr8
          gi_wp2_with (gi_at_builtin; refine wpListIn_append_rd (fun _ => trivial) rfl _ _ 45 rfl n5 48 i1 _ 6 64 Tryz.underlying45 HI1.out hy0 hy1 hy2 rfl (by decide) (.slice Ag acc.length cg) acc.length (acc.flatMap pcells) rfl ?k0 _ 1 [.int .u8 x.1.1, .int .i64 x.1.2.1, .string x.1.2.2, .int .u8 x.2.1, .int .i64 x.2.2.1, .string x.2.2.2] rfl ?k1 rfl (by simp [Value.oneCell']) ?k2 ?k3 ?k4 ?_)
          case k0 => exact (Kp.of_below ((Below.refl _ W8).alloc (Nat.le_refl _) (.cells #[.int .u8 x.1.1, .int .i64 x.1.2.1, .string x.1.2.2, .int .u8 x.2.1, .int .i64 x.2.2.1, .string x.2.2.2] 48)) (fun _ => False)).own S8.out.1.own (fun _ _ => id)
          case k1 => exact rd_six _ _ _ _ _ _ _ _ _ rfl
          case k2 => have := S5.out.2.2.1; have := (List.getElem?_eq_some_iff.1 HX4.out).1; have := HA.out.2.2.1; unfold maxLen; omega
          case k3 => have := S5.out.2.2.1; have := (List.getElem?_eq_some_iff.1 HX4.out).1; have := HA.out.2.2.1; omega
          case k4 => have := S8.out.1.zs; simp; omega
          intro v9 W9 hown hgr _
          obtain ⟨A9, m9, rfl, _⟩ := (Rd.of_own hown).form
          have hbl : Below W8.heap.size W8 (W8.alloc (.cells #[.int .u8 x.1.1, .int .i64 x.1.2.1, .string x.1.2.2, .int .u8 x.2.1, .int .i64 x.2.2.1, .string x.2.2.2] 48)) := (Below.refl _ W8).alloc (Nat.le_refl _) _
          have nx := S8.out.1.next (p := x) hbl hown hgr
          obtain ⟨q0, q1⟩ := ((S8.out.1.gb.alloc (.cells #[.int .u8 x.1.1, .int .i64 x.1.2.1, .string x.1.2.2, .int .u8 x.2.1, .int .i64 x.2.2.1, .string x.2.2.2] 48)).kp (Kp.of_grown hgr (F := fun q => (Value.slice Ag acc.length cg).ownBlock = some q) (fun q e => .inl e)) (fun e => by have := (own_blk S8.out.1.own _ e).1; have := S8.out.1.zs; omega)).all
          have kv9 := S8.out.1.kv (root := root) (M0 := M) (HA.out.1.below S8.out.1.bel) HA.out.2.2.2.1 H3.out nx.2
          have FIN := Lib.hid (And.intro (S8.out.2.2.1.trans kv9.2) (And.intro (S8.out.2.1.trans kv9.1) nx.1))
          clear hown hgr nx kv9 y0 y9 m0 m1 m2 m3 m4 m5 hbl
          gi_wp2
          exact ⟨FIN.out.1, FIN.out.2.1, acc ++ [x], _, FIN.out.2.2, HGA.out, by have := S5.out.2.2.1; simp; omega⟩
  · intro D W10 hD hI hdef
    obtain ⟨acc, vg, gr, hga, hle⟩ := hI
    rw [List.drop_length] at hga
    have e1 : acc = pgF n eb wb l [] := by rw [← hga]; rfl
    subst e1
    obtain ⟨Ag, cg, rfl, _⟩ := (Rd.of_own gr.own).form
    have S := Lib.hid (And.intro gr (And.intro hdef (show n5 ≤ D from by have := H3.out; omega)))
    have y0 := gr.gb.c0
    clear gr hdef HG HI
    go_wp2_with fail
    refine ⟨by simp, .inl ⟨_, _, rfl, run_takeDeferred S.out.2.1, ?_⟩⟩
    obtain ⟨s1, s2, s3⟩ := S.out
    refine ⟨.tuple #[.slice Ag (pgF n eb wb l []).length cg, .int .i64 0], by simp [results, Tryz.results57, go_sem], .slice Ag (pgF n eb wb l []).length cg, rfl, own_base (base := n5) ((kp_putObj (x := D)).own s1.own (fun q hq e => ?_)) (by have := s1.zs; omega), below_kp s1.bel (kp_putObj (x := D)) (fun q e => by have := s1.zs; omega)⟩
    obtain ⟨cur, hc⟩ := own_type s1.own q hq
    rw [e, s2] at hc
    cases hc
  · rintro D c i W10 hD hi ⟨rfl, vg, gr⟩ hdef
    obtain ⟨Ag, cg, rfl, _⟩ := (Rd.of_own gr.own).form
    have S := Lib.hid (And.intro gr (And.intro hdef (show n5 ≤ D from by have := H3.out; omega)))
    have y0 := gr.gb.c0
    clear gr hdef HG HI
    go_wp2_with fail
    refine ⟨by simp, .inl ⟨_, _, rfl, run_takeDeferred S.out.2.1, ?_⟩⟩
    obtain ⟨s1, s2, s3⟩ := S.out
    refine ⟨.tuple #[.slice Ag (pgF n eb wb l []).length cg, .int .i64 0], by simp [results, Tryz.results57, go_sem], .slice Ag (pgF n eb wb l []).length cg, rfl, own_base (base := n5) ((kp_putObj (x := D)).own s1.own (fun q hq e => ?_)) (by have := s1.zs; omega), below_kp s1.bel (kp_putObj (x := D)) (fun q e => by have := s1.zs; omega)⟩
    obtain ⟨cur, hc⟩ := own_type s1.own q hq
    rw [e, s2] at hc
    cases hc
end
end Go.Proofs.YtkkfhbcnfknmaaaGreat

namespace Go.Proofs.YtkkfhbcnfknmaaaGreat
set_option maxRecDepth 100000
set_option linter.unusedSimpArgs false
set_option linter.unusedVariables false
open Go.RowKit Go.Shelf
def btF (n : Nat) (ib : Ky → Bool) : List Pr → List Pr → List Pr
  | [], acc => acc
  | p :: l, acc => if acc.length < n then btF n ib l (if ib p.1 then acc ++ [p] else acc) else acc
abbrev inK (f t : Ky) (x : Ky) : Bool := decide (0 ≤ vc x f) && decide (vc x t < 0)
theorem btF_full {n : Nat} {ib : Ky → Bool} {l acc : List Pr} (h : ¬ acc.length < n) : btF n ib l acc = acc := by
  cases l with
  | nil => rfl
  | cons p l => rw [btF, if_neg h]
theorem btF_go {n : Nat} {ib : Ky → Bool} {l acc : List Pr} {j : Nat} {q : Pr} (hq : l[j]? = some q) (h : acc.length < n) : btF n ib (l.drop j) acc = btF n ib (l.drop (j + 1)) (if ib q.1 then acc ++ [q] else acc) := by
  have hdr : l.drop j = q :: l.drop (j + 1) := by
    obtain ⟨hlt, hxe⟩ := List.getElem?_eq_some_iff.1 hq
    rw [← hxe]
    exact List.drop_eq_getElem_cons hlt
  rw [hdr, btF, if_pos h]
section
set_option maxHeartbeats 6400000 in
theorem rbetween11 (base : Nat) (v : Value) (f t : Ky) (n : Nat) (l : List Pr) (w : World) (hl : l.length ≤ 1000000) (hkf : f.2.2.size ≤ 9223372036854775807) (hkt : t.2.2.size ≤ 9223372036854775807) (hq : ∀ q ∈ l, q.1.2.2.size ≤ 9223372036854775807) (ho : w.ownsRow base 109 6 v l.length (l.flatMap pcells)) :
    Calls Tryz.prog 58 #[v, vv f.1 f.2.1 f.2.2, vv t.1 t.2.1 t.2.2, .int .i64 (n : Int)] w fun e w' => ∃ y, e = .returned y ∧ w'.ownsRow w.heap.size 109 6 y (btF n (inK f t) l []).length ((btF n (inK f t) l []).flatMap pcells) ∧ Below w.heap.size w w' := by
  obtain ⟨fk, fn, fs⟩ := f
  obtain ⟨tk, tn, ts⟩ := t
  obtain ⟨A, c, rfl, hc⟩ := (Rd.of_own ho).form
  obtain ⟨W0, hW0⟩ : ∃ W0, W0 = (w.alloc (.cells #[.int .u8 fk, .int .i64 fn, .string fs] 82)).alloc (.cells #[.int .u8 tk, .int .i64 tn, .string ts] 82) := ⟨_, rfl⟩
  have hb0 : Below w.heap.size w W0 := by rw [hW0]; exact ((Below.refl _ w).alloc (Nat.le_refl _) _).alloc (by simp) _
  have q3 : C3 W0 w.heap.size 82 (.int .u8 fk) (.int .i64 fn) (.string fs) := by rw [hW0]; exact (C3.new w _ _ _ _).alloc _
  have q4 : C3 W0 (w.heap.size + 1) 82 (.int .u8 tk) (.int .i64 tn) (.string ts) := by
    have h := C3.new (w.alloc (.cells #[.int .u8 fk, .int .i64 fn, .string fs] 82)) 82 (.int .u8 tk) (.int .i64 tn) (.string ts)
    rw [World.size_alloc] at h
    rw [hW0]
    exact h
  have HB0 := Lib.hid hb0
  have HQ := Lib.hid (And.intro q3 (And.intro q4 ((Kp.of_below hb0 (fun _ => False)).own ho (fun _ _ h => h))))
  have HP := Lib.hid (Tk8.mk (w := W0) (m := []) (x := .slice none 0 0) (Below.refl _ W0) (World.ownsRow_nil _ _ _ _))
  have HKL := Lib.hid (fun (x : Pr) {j : Nat} (hx : l[j]? = some x) => hq x (List.mem_of_getElem? hx))
  have HK := Lib.hid (And.intro hkf hkt)
  have HS := Lib.hid hl
  obtain ⟨ib, hib⟩ : ∃ ib, ib = inK (fk, fn, fs) (tk, tn, ts) := ⟨_, rfl⟩
  have HI := Lib.hid (show ∀ x, ib x = (decide (0 ≤ vc x (fk, fn, fs)) && decide (vc x (tk, tn, ts) < 0)) from fun x => by rw [hib])
  rw [← hib]
  obtain ⟨z, hz⟩ : ∃ z, z = w.heap.size := ⟨_, rfl⟩
  obtain ⟨y, hy⟩ : ∃ y, y = w.heap.size + 1 := ⟨_, rfl⟩
  have HZ := Lib.hid (And.intro hz hy)
  rw [← hy, ← hz] at HQ
  obtain ⟨i1, hi1, hy0, hy1, hy2⟩ := info_parts pinfo8
  clear ho q3 q4 hb0 hq hkf hkt hib
  go_enter Tryz.func58, Tryz.ntmps58
  go_upto_block 0 with fail
  rw [← hW0, ← hy, ← hz]
  clear hW0 hz hy
  go_cut [9, 10] from 11 to 11 (fun s _ wc => Tk8 W0 wc (btF n ib l []) s)
  case first =>
    go_wp2_with fail
    go_loopg [9, 10] l.length (fun c' s i wr => ∃ (j : Nat) (m : List Pr), j + c' = l.length ∧ i = .int .i64 (j : Nat) ∧ Tk8 W0 wr m s ∧ Hid (btF n ib (l.drop j) m = btF n ib l [] ∧ m.length ≤ j))
    case atStart => exact ⟨0, [], by omega, rfl, HP.out, Lib.hid ⟨rfl, Nat.le_refl _⟩⟩
    case round =>
      obtain ⟨j, m, hj, rfl, hP, HM⟩ := hrel
      obtain ⟨A1, m1, rfl, hm1⟩ := (Rd.of_own hP.own).form
      by_cases hjl : j < l.length
      · have hlt : (j : Int) < (l.length : Int) := by omega
        by_cases hmn : m.length < n
        · have hmn' : (m.length : Int) < (n : Int) := by omega
          have HB := Lib.hid hP.bel
          have HO := Lib.hid hP.own
          have HJ := Lib.hid (And.intro hj (And.intro hjl hmn))
          have hj0 : (0 : Int) ≤ (j : Int) := by omega
          obtain ⟨q, hp⟩ : ∃ q, l[j]? = some q := ⟨_, List.getElem?_eq_getElem hjl⟩
          have HR := Lib.hid ((Kp.of_below hP.bel (fun _ => False)).own HQ.out.2.2 (fun _ _ h => h))
          obtain ⟨g, rfl, c0, c1, c2, c3, c4, c5⟩ := row6 HR.out hp
          have hb := HQ.out.1.below HB.out
          have hb' := HQ.out.2.1.below HB.out
          obtain ⟨b0, b1, b2, _⟩ := hb.all
          obtain ⟨d0, d1, d2, _⟩ := hb'.all
          have hzz : z < wr.heap.size := hb.lt
          have hyy : y < wr.heap.size := hb'.lt
          have hgg := World.block_lt_of_cell? wr _ c0
          have z0 := Gb.cell b0 hzz
          have z1 := Gb.cell b1 hzz
          have z2 := Gb.cell b2 hzz
          have x0 := Gb.cell d0 hyy
          have x1 := Gb.cell d1 hyy
          have x2 := Gb.cell d2 hyy
          have y0 := Gb.cell c0 hgg
          have y1 := Gb.cell c1 hgg
          have y2 := Gb.cell c2 hgg
          have HX := Lib.hid hp
          have HCM := Lib.hid (fun W => show Calls Tryz.prog 97 #[vv q.1.1 q.1.2.1 q.1.2.2, vv fk fn fs] W fun e w' => e = .returned (.int .i64 (vc q.1 (fk, fn, fs))) ∧ Below W.heap.size W w' from (ref_compare q.1.1 q.1.2.1 q.1.2.2 fk fn fs W (HKL.out _ hp) HK.out.1).mono (fun e w' h => ⟨h.1, h.2.below.mono (Nat.le_refl _)⟩))
          have HCN := Lib.hid (fun W => show Calls Tryz.prog 97 #[vv q.1.1 q.1.2.1 q.1.2.2, vv tk tn ts] W fun e w' => e = .returned (.int .i64 (vc q.1 (tk, tn, ts))) ∧ Below W.heap.size W w' from (ref_compare q.1.1 q.1.2.1 q.1.2.2 tk tn ts W (HKL.out _ hp) HK.out.2).mono (fun e w' h => ⟨h.1, h.2.below.mono (Nat.le_refl _)⟩))
          clear hp hP hj HR hb hb' b0 b1 b2 d0 d1 d2 c0 c1 c2 c3 c4 c5 hzz hyy hgg hmn
          go_wp2_with fail
          have hi := HI.out q.1
          obtain ⟨v1, hv1⟩ : ∃ v1, v1 = vc q.1 (fk, fn, fs) := ⟨_, rfl⟩
          obtain ⟨v2, hv2⟩ : ∃ v2, v2 = vc q.1 (tk, tn, ts) := ⟨_, rfl⟩
          rw [← hv1, ← hv2] at hi
          rw [← hv1] at HCM
          rw [← hv2] at HCN
          clear hv1 hv2
          by_cases h1 : 0 ≤ v1
          · by_cases h2 : v2 < 0
            · have HV := Lib.hid (show ib q.1 = true by rw [hi]; simp [h1, h2])
              clear hi
              refine region_below (by kernel_rfl) (by kernel_rfl) ?_
              repeat (go_big_quiet_step ((go_at_call 97; first | with_reducible_and_instances exact Gb.calls _ (HCM.out _) | with_reducible_and_instances exact Gb.calls _ (HCN.out _) | exact Gb.calls _ (HCM.out _) | exact Gb.calls _ (HCN.out _))))
              refine wpQuiet_nil ?_
              rintro _ ⟨g9, rfl⟩
              have HB6 := Lib.hid (HB.out.trans (g9.below.mono HB.out.size))
              have HO6 := Lib.hid ((Kp.of_below g9.below (fun _ => False)).own HO.out (fun _ _ => id))
              generalize g9.at' = w6 at HB6 HO6 ⊢
              try clear h2
              clear h1 hmn'
              clear z0 z1 z2 x0 x1 x2 y0 y1 y2 HB HO HCM HCN g9
              obtain ⟨c0, c1, c2, c3, c4, c5⟩ := row6g ((Kp.of_below HB6.out (fun _ => False)).own HQ.out.2.2 (fun _ _ h => h)) HX.out
              go_wp2_with (at_builtin; refine wpList_append_rd rfl _ _ 61 rfl W0.heap.size 109 i1 _ 6 64 Tryz.underlying61 hi1 hy0 hy1 hy2 rfl (by decide) (.slice A1 (m.length) m1) (m.length) (m.flatMap pcells) rfl ?k0 _ 1 [.int .u8 q.1.1, .int .i64 q.1.2.1, .string q.1.2.2, .int .u8 q.2.1, .int .i64 q.2.2.1, .string q.2.2.2] rfl ?k1 rfl (by simp [Value.oneCell']) ?k2 ?k3 ?k4 ?_)
              case k0 => exact (Kp.of_below ((Below.refl _ w6).alloc (Nat.le_refl _) _) (fun _ => False)).own HO6.out (fun _ _ => id)
              case k1 => exact rd_six _ _ _ _ _ _ _ _ _ rfl
              case k2 => have := HM.out.2; have := HS.out; unfold maxLen; omega
              case k3 => have := HM.out.2; have := HS.out; omega
              case k4 => have := HB6.out.size; simp; omega
              intro v7 w7 hown hg hat
              obtain ⟨A7, m7, rfl, _⟩ := (Rd.of_own hown).form
              have hb3 : Below w6.heap.size w6 (w6.alloc (.cells #[.int .u8 q.1.1, .int .i64 q.1.2.1, .string q.1.2.2, .int .u8 q.2.1, .int .i64 q.2.2.1, .string q.2.2.2] 109)) := (Below.refl _ w6).alloc (Nat.le_refl _) _
              have HB7 := Lib.hid ((HB6.out.trans (hb3.mono HB6.out.size)).grown hg (HB6.out.trans (hb3.mono HB6.out.size)).size (fun q e => (HO6.out.lt q e).1))
              have HO7 := Lib.hid hown
              clear hg hat hown hb3 c0 c1 c2 c3 c4 c5
              have w1 : wrap64 ((j : Int) + 1) = (j : Int) + 1 := IntWalk.wrap64_in _ (by have := HS.out; omega)
              go_wp2_with fail
              go_roundg (l.length - (j + 1))
              case measure => have := HJ.out; omega
              case rel => exact ⟨j + 1, m ++ [q], by have := HJ.out; omega, by go_num, Tk8.one HB7.out HO7.out, Lib.hid ⟨by
                have h3 := btF_go (ib := ib) HX.out HJ.out.2.2
                rw [HV.out, if_pos rfl] at h3
                rw [← h3]
                exact HM.out.1, by have := HM.out.2; simp; omega⟩⟩
            · have HV := Lib.hid (show ib q.1 = false by rw [hi]; simp [h2])
              clear hi
              refine region_below (by kernel_rfl) (by kernel_rfl) ?_
              repeat (go_big_quiet_step ((go_at_call 97; first | with_reducible_and_instances exact Gb.calls _ (HCM.out _) | with_reducible_and_instances exact Gb.calls _ (HCN.out _) | exact Gb.calls _ (HCM.out _) | exact Gb.calls _ (HCN.out _))))
              refine wpQuiet_nil ?_
              rintro _ ⟨g9, rfl⟩
              have HB6 := Lib.hid (HB.out.trans (g9.below.mono HB.out.size))
              have HO6 := Lib.hid ((Kp.of_below g9.below (fun _ => False)).own HO.out (fun _ _ => id))
              generalize g9.at' = w6 at HB6 HO6 ⊢
              try clear h2
              clear h1 hmn'
              clear z0 z1 z2 x0 x1 x2 y0 y1 y2 HB HO HCM HCN g9
              have w1 : wrap64 ((j : Int) + 1) = (j : Int) + 1 := IntWalk.wrap64_in _ (by have := HS.out; omega)
              go_wp2_with fail
              go_roundg (l.length - (j + 1))
              case measure => have := HJ.out; omega
              case rel => exact ⟨j + 1, m, by have := HJ.out; omega, by go_num, ⟨HB6.out, HO6.out⟩, Lib.hid ⟨by
                have h3 := btF_go (ib := ib) HX.out HJ.out.2.2
                rw [HV.out, if_neg (by decide)] at h3
                rw [← h3]
                exact HM.out.1, by have := HM.out.2; omega⟩⟩
          · have HV := Lib.hid (show ib q.1 = false by rw [hi]; simp [h1])
            clear hi
            refine region_below (by kernel_rfl) (by kernel_rfl) ?_
            repeat (go_big_quiet_step ((go_at_call 97; first | with_reducible_and_instances exact Gb.calls _ (HCM.out _) | with_reducible_and_instances exact Gb.calls _ (HCN.out _) | exact Gb.calls _ (HCM.out _) | exact Gb.calls _ (HCN.out _))))
            refine wpQuiet_nil ?_
            rintro _ ⟨g9, rfl⟩
            have HB6 := Lib.hid (HB.out.trans (g9.below.mono HB.out.size))
            have HO6 := Lib.hid ((Kp.of_below g9.below (fun _ => False)).own HO.out (fun _ _ => id))
            generalize g9.at' = w6 at HB6 HO6 ⊢
            try clear h2
            clear h1 hmn'
            clear z0 z1 z2 x0 x1 x2 y0 y1 y2 HB HO HCM HCN g9
            have w1 : wrap64 ((j : Int) + 1) = (j : Int) + 1 := IntWalk.wrap64_in _ (by have := HS.out; omega)
            go_wp2_with fail
            go_roundg (l.length - (j + 1))
            case measure => have := HJ.out; omega
            case rel => exact ⟨j + 1, m, by have := HJ.out; omega, by go_num, ⟨HB6.out, HO6.out⟩, Lib.hid ⟨by
              have h3 := btF_go (ib := ib) HX.out HJ.out.2.2
              rw [HV.out, if_neg (by decide)] at h3
              rw [← h3]
              exact HM.out.1, by have := HM.out.2; omega⟩⟩
        · have hmn' : ¬ (m.length : Int) < (n : Int) := by omega
          have e : btF n ib (l.drop j) m = m := btF_full hmn
          have hm := HM.out.1
          rw [e] at hm
          subst hm
          have HP6 := Lib.hid hP
          clear hP hmn e
          go_wp2_with fail
          go_meet
          case rel => exact HP6.out
      · have hlt : ¬ (j : Int) < (l.length : Int) := by omega
        have e : l.drop j = [] := List.drop_eq_nil_of_le (by omega)
        have hm := HM.out.1
        rw [e] at hm
        have hm' : m = btF n ib l [] := hm
        subst hm'
        have HP6 := Lib.hid hP
        clear hP hj e hm
        go_wp2_with fail
        go_meet
        case rel => exact HP6.out
  case rest =>
    obtain ⟨A1, m1, rfl, hm1⟩ := (Rd.of_own hcut.own).form
    have HR := Lib.hid hcut
    clear hcut
    go_wp2_with fail
    refine bodyPost_ret (v := .slice A1 (btF n ib l []).length m1) (by simp [results, Tryz.results58, go_sem]) rfl ⟨_, rfl, own_less HR.out.own HB0.out.size, HB0.out.trans (HR.out.bel.mono HB0.out.size)⟩
end
end Go.Proofs.YtkkfhbcnfknmaaaGreat

namespace Go.Proofs.YtkkfhbcnfknmaaaGreat
set_option linter.unusedSimpArgs false
open Go.RowKit
theorem btF_none {n : Nat} {ib : Ky → Bool} : ∀ (l acc : List Pr), (∀ p ∈ l, ib p.1 = false) → btF n ib l acc = acc
  | [], _, _ => rfl
  | p :: l, acc, h => by
    rw [btF]
    split
    · rw [h p (List.mem_cons_self ..)]
      exact btF_none l acc (fun q hq => h q (List.mem_cons_of_mem _ hq))
    · rfl
theorem pg_bt {n : Nat} {eb wb ib : Ky → Bool} : ∀ (l acc : List Pr), l.Pairwise (fun p q => eb p.1 = true → eb q.1 = true) → (∀ p ∈ l, ib p.1 = (wb p.1 && !eb p.1)) → acc.length ≤ n → pgF n eb wb l acc = btF n ib l acc
  | [], _, _, _, _ => rfl
  | p :: l, acc, hm, hi, hn => by
    obtain ⟨hm1, hm2⟩ := List.pairwise_cons.1 hm
    have hp := hi p (List.mem_cons_self ..)
    by_cases hf : acc.length = n
    · rw [pgF_full hf, btF_full (by omega)]
    · cases he : eb p.1
      · rw [pgF_go hf he.symm rfl, btF, if_pos (show acc.length < n by omega), hp, he]
        have ih := fun a (h : a.length ≤ n) => pg_bt (n := n) (eb := eb) (wb := wb) (ib := ib) l a hm2 (fun q hq => hi q (List.mem_cons_of_mem _ hq)) h
        cases wb p.1
        · simpa using ih acc hn
        · simpa using ih (acc ++ [p]) (by simp; omega)
      · rw [pgF_end hf he.symm]
        refine (btF_none (p :: l) acc (fun q hq => ?_)).symm
        rcases List.mem_cons.1 hq with rfl | hq'
        · rw [hp, he]; simp
        · rw [hi q (List.mem_cons_of_mem _ hq'), hm1 q hq' he]; simp
abbrev fromK (k : Ky) (o : Bool) : Ky := if o then (0, -9223372036854775808, ⟨#[]⟩) else k
abbrev toK (k : Ky) (o : Bool) : Ky := if o then (255, 0, ⟨#[]⟩) else k
theorem right_kind {x : Ky} (h : rightB x.1 x.2.1 x.2.2 = true) : x.1 = 0 ∧ x.2.1 = 0 ∨ 1 ≤ x.1 ∧ x.1 ≤ 3 := by
  unfold rightB at h
  split at h
  · rename_i e
    simp only [Bool.and_eq_true, decide_eq_true_eq] at h
    exact .inl ⟨e, h.1⟩
  · split at h
    · exact .inr (by omega)
    · split at h
      · exact .inr (by omega)
      · split at h
        · exact .inr (by omega)
        · cases h
theorem from_open {x : Ky} (h : rightB x.1 x.2.1 x.2.2 = true) : 0 ≤ vc x (0, -9223372036854775808, ⟨#[]⟩) := by
  unfold vc vcmp
  rcases right_kind h with ⟨h1, h2⟩ | h1
  · rw [h1, h2, if_pos rfl, if_neg (by decide)]
    unfold icmp
    decide
  · rw [if_neg (show ¬ x.1 = 0 by omega)]
    unfold icmp
    split
    · omega
    · split <;> omega
theorem to_open {x : Ky} (h : rightB x.1 x.2.1 x.2.2 = true) : vc x (255, 0, ⟨#[]⟩) < 0 := by
  have h1 : x.1 < 255 := by rcases right_kind h with ⟨h1, h2⟩ | h1 <;> omega
  unfold vc vcmp
  rw [if_neg (show ¬ x.1 = 255 by omega)]
  show icmp x.1 255 < 0
  rw [(icmp_lt x.1 255).2 h1]
  decide
theorem page_between {n : Nat} {fa ta : Ky} {fo tb : Bool} {l : List Pr} (hs : Srt h0 l) (hr : ∀ p ∈ l, rightB p.1.1 p.1.2.1 p.1.2.2 = true) :
    pgF n (endB ta tb) (begB fa fo) l [] = btF n (inK (fromK fa fo) (toK ta tb)) l [] := by
  refine pg_bt l [] ?_ ?_ (Nat.zero_le _)
  · refine hs.imp ?_
    intro p q hpq he
    cases tb
    · have h1 : vc p.1 q.1 = -1 := h0_klt.1 hpq
      simp only [endB, Bool.not_false, Bool.true_and, decide_eq_true_eq] at he ⊢
      rcases Int.lt_or_le (vc q.1 ta) 0 with h2 | h2
      · have := vc_trans h1 (vc_lt.1 h2)
        omega
      · exact h2
    · simp [endB] at he
  · intro p hp
    have h := hr p hp
    have e1 : begB fa fo p.1 = decide (0 ≤ vc p.1 (fromK fa fo)) := by
      cases fo
      · simp [begB, fromK]
      · simpa [begB, fromK] using from_open h
    have e2 : (!endB ta tb p.1) = decide (vc p.1 (toK ta tb) < 0) := by
      cases tb
      · by_cases hv : vc p.1 ta < 0
        · have : ¬ 0 ≤ vc p.1 ta := by omega
          simp [endB, toK, hv, this]
        · have : 0 ≤ vc p.1 ta := by omega
          simp [endB, toK, hv, this]
      · simpa [endB, toK] using to_open h
    rw [e1, e2]
end Go.Proofs.YtkkfhbcnfknmaaaGreat
