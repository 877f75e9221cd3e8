/- Several texts in one. -/
import Derived.Test.YtdddhmipifkepaaGreatMq30
import Derived.Test.YtdddhmipifkepaaGreatMq11
set_option linter.unusedSimpArgs false
namespace Go.Proofs.YtdddhmipifkepaaGreat
set_option maxRecDepth 100000
set_option linter.unusedSimpArgs false
set_option linter.unusedVariables false
open Go.RowKit Go.Shelf
theorem FromR.held {w0 w' : World} {F0 F' : Nat → Prop} {b bh seed most n cnt : Nat} {M0 M' : Cells} {P : Nat → Nat} (h : FromR w0 w' F0 b bh seed most M0 P M' F' [n] cnt) : Bk (most + 1) M' [] (fun j => P j + [n].count j) [] :=
  h.bk.move (fun k _ => by simp) (fun x hx => by simp at hx)
theorem rd_lst10 {w : World} {A : Option Addr} {c : Nat} {l : List Ky} (h : Rd w (.slice A l.length c) l.length (l.flatMap cells3)) : Lst w A l := by
  rcases h with ⟨e, hn, _⟩ | ⟨g, o, c', e, hc, hcell⟩
  · exact .inl (List.eq_nil_of_length_eq_zero hn)
  · by_cases hl : l = []
    · exact .inl hl
    · simp only [Value.slice.injEq] at e
      obtain ⟨rfl, _, _⟩ := e
      obtain ⟨x0, hx0⟩ : ∃ x, l[0]? = some x := ⟨_, List.getElem?_eq_getElem (List.length_pos_iff.2 hl)⟩
      refine .inr ⟨g, o, rfl, World.block_lt_of_cell? w _ (hcell _ _ (flat3_at hx0).1), fun i x hx => ?_⟩
      obtain ⟨f0, f1, f2⟩ := flat3_at hx
      exact ⟨hcell _ _ f0, by rw [Nat.add_assoc]; exact hcell _ _ f1, by rw [Nat.add_assoc]; exact hcell _ _ f2⟩
section
variable {w W : World} {b bh seed z7 z5 : Nat} {v5 : Value} {M : Cells} {F : Nat → Prop} {bs : List (Nat × Nat × Nat)} {hs : Ky → Nat}
theorem Ob.none (h : Ob w b bh seed z7 z5 v5 M F bs W) : Ob w b bh seed z7 z5 v5 M F [] W := ⟨h.ls, h.mb, h.n5, fun x hx => by cases hx⟩
theorem oblist (ob : Ob w b bh seed z7 z5 v5 M F bs W) (hhs : ∀ q, OkK q → hs q = hashN seed q.1 q.2.1 q.2.2) (A : Option Addr) (l : List Ky) (c : Nat) (f : FuncId) (caps : Array Value) (wb : Ky → Bool) (L : List Pr) (hLe : addAll hs wb l [] = L) (hL : Lst W A l) (hok : ∀ k ∈ l, OkK k) (hn : l.length ≤ 100000)
    (hf : ∀ (args : Array Value) (W : World), (callFunc f args).run Tryz.prog W = .ok (.enter f args) W)
    (hw : ∀ W' k, Ob w b bh seed z7 z5 v5 M F bs W' → k ∈ l → Calls Tryz.prog f (#[xagg k] ++ caps) W' fun e W'' => e = .returned (.bool (wb k)) ∧ Below W'.heap.size W' W'') :
    Calls Tryz.prog 33 #[.int .u64 (seed : Nat), .slice A l.length c, .func (.func f) #[] caps] W fun e W' => ∃ y, e = .returned y ∧ Rd W' y L.length (L.flatMap pcells) ∧ (∀ q, y.ownBlock = some q → q < W'.heap.size ∧ q ≠ bh) ∧ (∀ q ∈ L, OkK q.1) ∧ Ob w b bh seed z7 z5 v5 M F bs W' := by
  subst hLe
  refine (llist hs seed hhs A l c f caps wb W hL hok hn hf (fun W' k hb hk => hw W' k (ob.below hb) hk)).mono ?_
  rintro e W' ⟨y, rfl, hy, hk, hb⟩
  exact ⟨y, rfl, Rd.of_own hy, fun q hq => ⟨(own_blk hy q hq).2, fun e => by have := (own_blk hy q hq).1; have := ob.ls.hh.lt; omega⟩, hk, ob.below hb⟩
theorem obsame {n : Nat} {L : List Pr} {y : Value} (ob : Ob w b bh seed z7 z5 v5 M F bs W) (hT : Mp M hs n L) (hhs : ∀ q, OkK q → hs q = hashN seed q.1 q.2.1 q.2.2) (hok : ∀ q ∈ L, OkK q.1) (hn : L.length ≤ 1000) (hy : Rd W y L.length (L.flatMap pcells)) (hyl : ∀ q, y.ownBlock = some q → q < W.heap.size ∧ q ≠ bh) :
    Calls Tryz.prog 32 #[land b bh, .agg #[.int .i64 (L.length : Nat), .int .i64 (n : Nat)], y] W fun e W' => e = .returned (.bool true) ∧ Ob w b bh seed z7 z5 v5 M F bs W' :=
  (lsame10 y W ob.ls.ar ob.ls.ar.zero hT ob.ls.hh ob.ls.nb hhs hok hn hy hyl).mono (fun _ _ ⟨h1, h2, h3⟩ => ⟨h1, ob.hash h2 h3⟩)
end
section
set_option maxHeartbeats 16000000 in
theorem lops10 (seed : Nat) (A : Option Addr) (l : List Ky) (c : Nat) (A2 : Option Addr) (m : List Ky) (c2 : Nat) (w : World) (h : Lst w A l) (hA : A = none → c = 0) (hf : ∀ k ∈ l, 0 ≤ k.1 ∧ k.1 ≤ 255) (hll : l.length ≤ 140737488355328) (h2 : Lst w A2 m) (hA2 : A2 = none → c2 = 0) (hf2 : ∀ k ∈ m, 0 ≤ k.1 ∧ k.1 ≤ 255) (hll2 : m.length ≤ 140737488355328) :
    Calls Tryz.prog 4 #[.int .u64 (seed : Nat), .slice A l.length c, .slice A2 m.length c2] w fun e w' => e = .returned (.bool true) ∧ Below w.heap.size w w' := by
  obtain ⟨hs, hhs⟩ : ∃ hs : Ky → Nat, ∀ q, OkK q → hs q = hashN seed q.1 q.2.1 q.2.2 := ⟨fun q => hashN seed q.1 q.2.1 q.2.2, fun _ _ => rfl⟩
  have HHS := Lib.hid hhs
  have HRG := Lib.hid (fun (W : World) (hb : Below w.heap.size w W) => And.intro ((h.below hb).rg hA) ((h2.below hb).rg hA2))
  have HL := Lib.hid (And.intro h (And.intro hf hll))
  have HM := Lib.hid (And.intro h2 (And.intro hf2 hll2))
  have B0 := Lib.hid (And.intro ((Below.refl _ w).alloc (Nat.le_refl _) (.cells #[.slice A2 m.length c2] 50)) (C1.new w 50 (.slice A2 m.length c2)))
  clear hhs h hA hf hll h2 hA2 hf2 hll2
  go_enter Tryz.func4, Tryz.ntmps4
  go_upto_region 1 with fail
  generalize w.alloc (.cells #[.slice A2 m.length c2] 50) = w0 at B0 ⊢
  obtain ⟨z5, hz5⟩ : ∃ z, z = w.heap.size := ⟨_, rfl⟩
  have C5 := Lib.hid (show C1 w0 z5 50 (.slice A2 m.length c2) ∧ w.heap.size ≤ z5 from by rw [hz5]; exact ⟨B0.out.2, Nat.le_refl _⟩)
  rw [← hz5]
  clear hz5
  go_wp2_with fail
  refine (llives10 w0).mono ?_
  rintro e w1 ⟨rfl, hb1⟩
  have H1 := Lib.hid (And.intro (B0.out.1.trans (hb1.mono B0.out.1.size)) (C5.out.1.below hb1))
  clear hb1
  go_wp2_with fail
  refine (lright A l c w1 (HL.out.1.below H1.out.1) HL.out.2.2).mono ?_
  rintro e w2 ⟨rfl, hb2⟩
  have H2 := Lib.hid (And.intro (H1.out.1.trans (hb2.mono H1.out.1.size)) (H1.out.2.below hb2))
  clear hb2
  cases hr : right10 l
  · clear hr
    go_wp2_with fail
    refine (llives10 w2).mono ?_
    rintro e w3 ⟨rfl, hb3⟩
    have H3 := Lib.hid (H2.out.1.trans (hb3.mono H2.out.1.size))
    clear hb3
    go_wp2_with fail
    go_ret
    exact ⟨rfl, H3.out⟩
  obtain ⟨r1, r2⟩ := right10_all hr
  have HR := Lib.hid (And.intro (fun k hk => ok10_ok (r1 k hk) (HL.out.2.1 k hk) : ∀ k ∈ l, OkK k) r2)
  clear hr r1 r2
  have x5 := H2.out.2.c0
  go_wp2_with fail
  refine (lright A2 m c2 w2 (HM.out.1.below H2.out.1) HM.out.2.2).mono ?_
  rintro e w3 ⟨rfl, hb3⟩
  have H3 := Lib.hid (And.intro (H2.out.1.trans (hb3.mono H2.out.1.size)) (H2.out.2.below hb3))
  clear hb3 x5
  cases hr : right10 m
  · clear hr
    go_wp2_with fail
    refine (llives10 w3).mono ?_
    rintro e w4 ⟨rfl, hb4⟩
    have H4 := Lib.hid (H3.out.1.trans (hb4.mono H3.out.1.size))
    clear hb4
    go_wp2_with fail
    go_ret
    exact ⟨rfl, H4.out⟩
  obtain ⟨r1, r2⟩ := right10_all hr
  have HR2 := Lib.hid (And.intro (fun k hk => ok10_ok (r1 k hk) (HM.out.2.1 k hk) : ∀ k ∈ m, OkK k) r2)
  clear hr r1 r2 H1 H2
  go_wp2_with fail
  refine (lland10 seed w3).mono ?_
  rintro e w4 ⟨b, bh, rfl, ha, hh, hne, hb0, hbh, hb4⟩
  have LB := Lib.hid (And.intro ha (And.intro hh (And.intro hne (And.intro hb0 (And.intro hbh (And.intro (H3.out.1.trans (hb4.mono H3.out.1.size)) (H3.out.2.below hb4)))))))
  have hs3 := H3.out.1.size
  have hbb := ha.blt
  have hhb := hh.lt
  have ls : LS w b bh seed 16384 w4.heap.size (fun _ => none) (fun k => k = b) (w4.alloc (.cells #[ap b, .pointer (some ⟨bh, 0, none⟩)] 26)) ∧ C1 (w4.alloc (.cells #[ap b, .pointer (some ⟨bh, 0, none⟩)] 26)) z5 50 (.slice A2 m.length c2) := by
    obtain ⟨ha, hh, hne, hb0, hbh, hbl, h5⟩ := LB.out
    exact ⟨⟨ha.alloc _, hh.alloc _, fun e => hne e.symm, C2.new _ _ _ _, ⟨fun e => by omega, by omega⟩, hbl.alloc hbl.size _, fun q e => by omega, ⟨hbl.size, by omega⟩⟩, h5.alloc _⟩
  have S0 := Lib.hid (show Ob w b bh seed w4.heap.size z5 (.slice A2 m.length c2) (fun _ => none) (fun k => k = b) [] (w4.alloc (.cells #[ap b, .pointer (some ⟨bh, 0, none⟩)] 26)) from ⟨ls.1, ls.2, by have h5 := H3.out.2.lt; exact ⟨by omega, by omega⟩, fun x hx => by cases hx⟩)
  clear ha hh hne hb0 hbh hb4 hbb hhb hs3 ls LB
  go_upto_region 4 with fail
  generalize w4.alloc (.cells #[ap b, .pointer (some ⟨bh, 0, none⟩)] 26) = w5 at S0 ⊢
  generalize w4.heap.size = z7 at S0 ⊢
  obtain ⟨x0, x1, _⟩ := S0.out.ls.lb.all
  go_wp2_with fail
  refine (lmade10 (P := fun _ => 0) (hs := hs) A l c w5 S0.out.ls.ar (by decide) (fun _ => Nat.zero_le _) ((bk0 16384).perm (fun j hj => by rw [count1r, if_neg (by omega)]; rfl)) S0.out.ls.hh S0.out.ls.nb HHS.out (fun W hk => HL.out.1.below (below_kp S0.out.ls.bel hk (fun q e => e.elim (fun e => S0.out.ls.fr q e) (fun e => by rw [e]; exact S0.out.ls.lo.2)))) HR.out.1 (by have := HR.out.2; omega) (by rw [live_zero (fun _ => rfl)]; have := HR.out.2; omega)).mono ?_
  rintro e w6 ⟨n1, M1, F1, rfl, hr1, hm1, hk1⟩
  have S1 := Lib.hid (S0.out.from hr1)
  obtain ⟨P1, hP1⟩ : ∃ P1 : Nat → Nat, P1 = fun j => 0 + [n1].count j := ⟨_, rfl⟩
  have M1H := Lib.hid (show Bk (16384 + 1) M1 [] P1 [] ∧ (∀ j, P1 j ≤ 1) ∧ 1 ≤ P1 n1 ∧ live (16384 + 1) M1 ≤ 16 * 120 ∧ Mp M1 hs n1 (addAll hs (fun _ => true) l []) ∧ (∀ q ∈ addAll hs (fun _ => true) l [], OkK q.1) from by
    refine ⟨by rw [hP1]; exact hr1.held, fun j => ?_, ?_, ?_, hm1, hk1⟩
    · rw [hP1]
      have e2 : [n1].count j ≤ 1 := List.count_le_length
      show 0 + [n1].count j ≤ 1
      omega
    · rw [hP1]
      show 1 ≤ 0 + [n1].count n1
      simp
    · have h1 := hr1.live
      rw [live_zero (fun _ => rfl)] at h1
      have h2 := HR.out.2
      omega)
  have HP1 := Lib.hid hP1
  clear hr1 hm1 hk1 hP1 x0 x1 S0
  obtain ⟨La, hLa⟩ : ∃ La, La = addAll hs (fun _ => true) l [] := ⟨_, rfl⟩
  rw [← hLa] at M1H
  have S2 := Lib.hid (S1.out.box La.length n1)
  go_upto_region 5 with fail
  rw [← hLa]
  generalize w6.alloc (.cells #[.int .i64 (La.length : Nat), .int .i64 (n1 : Nat)] 54) = w7 at S2 ⊢
  generalize w6.heap.size = z8 at S2 ⊢
  obtain ⟨x0, x1, _⟩ := S2.out.ls.lb.all
  have x2 := S2.out.mb.c0
  go_wp2_with fail
  refine (lmade10 (P := P1) (hs := hs) A2 m c2 w7 S2.out.ls.ar (by decide) (fun j => Nat.le_trans (M1H.out.2.1 j) (by decide)) M1H.out.1 S2.out.ls.hh S2.out.ls.nb HHS.out (fun W hk => HM.out.1.below (below_kp S2.out.ls.bel hk (fun q e => e.elim (fun e => S2.out.ls.fr q e) (fun e => by rw [e]; exact S2.out.ls.lo.2)))) HR2.out.1 (by have := HR2.out.2; omega) (by have := HR2.out.2; have := M1H.out.2.2.2.1; omega)).mono ?_
  rintro e w8 ⟨n2, M2, F2, rfl, hr2, hm2, hk2⟩
  have S3 := Lib.hid (S2.out.from hr2)
  obtain ⟨Lb, hLb⟩ : ∃ Lb, Lb = addAll hs (fun _ => true) m [] := ⟨_, rfl⟩
  rw [← hLb] at hm2 hk2
  obtain ⟨P2, hP2⟩ : ∃ P2 : Nat → Nat, P2 = fun j => P1 j + [n2].count j := ⟨_, rfl⟩
  have M2H := Lib.hid (show Bk (16384 + 1) M2 [] P2 [] ∧ (∀ j, P2 j ≤ 2) ∧ (1 ≤ P2 n1 ∧ 1 ≤ P2 n2) ∧ live (16384 + 1) M2 ≤ 16 * 240 ∧ Mp M2 hs n1 La ∧ Mp M2 hs n2 Lb ∧ (∀ q ∈ La, OkK q.1) ∧ (∀ q ∈ Lb, OkK q.1) from by
    obtain ⟨g1, g2, g3, g4, g5, g6⟩ := M1H.out
    refine ⟨by rw [hP2]; exact hr2.held, fun j => ?_, ⟨?_, ?_⟩, ?_, g5.pres S2.out.ls.ar.zero (fun e => hr2.keeps n1 e g3), hm2, g6, hk2⟩
    · rw [hP2]
      have e2 : [n2].count j ≤ 1 := List.count_le_length
      have e3 := g2 j
      show P1 j + [n2].count j ≤ 2
      omega
    · rw [hP2]
      show 1 ≤ P1 n1 + [n2].count n1
      omega
    · rw [hP2]
      show 1 ≤ P1 n2 + [n2].count n2
      simp
    · have h1 := hr2.live
      have h2 := HR2.out.2
      omega)
  have HLL := Lib.hid (show La.length ≤ 120 ∧ Lb.length ≤ 120 from by
    have h1 := addAll_len (hs := hs) (wb := fun _ => true) l (L := []) List.Pairwise.nil
    have h2 := addAll_len (hs := hs) (wb := fun _ => true) m (L := []) List.Pairwise.nil
    rw [← hLa] at h1
    rw [← hLb] at h2
    have h3 := HR.out.2
    have h4 := HR2.out.2
    simp only [List.length_nil] at h1 h2
    omega)
  have HLA := Lib.hid (And.intro hLa hLb)
  have HP2 := Lib.hid hP2
  clear hr2 hm2 hk2 hP2 x0 x1 x2 S2 S1 hLa M1H
  have S4 := Lib.hid (S3.out.box Lb.length n2)
  go_upto_region 6 with fail
  rw [← hLb]
  clear hLb
  generalize w8.alloc (.cells #[.int .i64 (Lb.length : Nat), .int .i64 (n2 : Nat)] 54) = w9 at S4 ⊢
  generalize w8.heap.size = z10 at S4 ⊢
  obtain ⟨x0, x1, _⟩ := S4.out.ls.lb.all
  obtain ⟨x2, x3, _⟩ := (S4.out.bx (z10, Lb.length, n2) (by simp)).1.all
  obtain ⟨x4, x5, _⟩ := (S4.out.bx (z8, La.length, n1) (by simp)).1.all
  simp only at x2 x3 x4 x5
  go_wp2_with fail
  refine (vOr (la := La) (lb := Lb) (ra := n1) (rb := n2) (P := P2) (hs := hs) w9 S4.out.ls.ar (by decide) (fun j => Nat.le_trans (M2H.out.2.1 j) (by decide)) M2H.out.1 S4.out.ls.hh S4.out.ls.nb HHS.out (.inr M2H.out.2.2.1.1) (.inr M2H.out.2.2.1.2) M2H.out.2.2.2.2.1 M2H.out.2.2.2.2.2.1 M2H.out.2.2.2.2.2.2.1 M2H.out.2.2.2.2.2.2.2 (by have := HLL.out; omega)).mono ?_
  rintro e w10 ⟨N, n, er, rfl, ⟨n3, M3, F3, ⟨e1, e2, e3⟩, hr3, hm3⟩ | ⟨M3, F3, _, hfull, _⟩⟩
  · subst e1 e2 e3
    have S5 := Lib.hid (S4.out.from hr3)
    obtain ⟨Lo, hLo⟩ : ∃ Lo, Lo = addAll hs (fun _ => true) (La.map Prod.fst ++ Lb.map Prod.fst) [] := ⟨_, rfl⟩
    rw [← hLo] at hm3
    obtain ⟨P3, hP3⟩ : ∃ P3 : Nat → Nat, P3 = fun j => P2 j + [n3].count j := ⟨_, rfl⟩
    have M3H := Lib.hid (show Bk (16384 + 1) M3 [] P3 [] ∧ (∀ j, P3 j ≤ 3) ∧ (1 ≤ P3 n1 ∧ 1 ≤ P3 n2 ∧ 1 ≤ P3 n3) ∧ live (16384 + 1) M3 ≤ 16 * 480 ∧ Mp M3 hs n1 La ∧ Mp M3 hs n2 Lb ∧ Mp M3 hs n3 Lo from by
      obtain ⟨g1, g2, ⟨g3, g3'⟩, g4, g5, g6, g7, g8⟩ := M2H.out
      refine ⟨by rw [hP3]; exact hr3.held, fun j => ?_, ⟨?_, ?_, ?_⟩, ?_, g5.pres S4.out.ls.ar.zero (fun e => hr3.keeps n1 e g3), g6.pres S4.out.ls.ar.zero (fun e => hr3.keeps n2 e g3'), hm3⟩
      · rw [hP3]
        have e2 : [n3].count j ≤ 1 := List.count_le_length
        have e3 := g2 j
        show P2 j + [n3].count j ≤ 3
        omega
      · rw [hP3]
        show 1 ≤ P2 n1 + [n3].count n1
        omega
      · rw [hP3]
        show 1 ≤ P2 n2 + [n3].count n2
        omega
      · rw [hP3]
        show 1 ≤ P2 n3 + [n3].count n3
        simp
      · have h1 := hr3.live
        have h2 := HLL.out
        omega)
    have HLO := Lib.hid hLo
    have HP3 := Lib.hid hP3
    clear hr3 hm3 hP3 x0 x1 x2 x3 x4 x5 S4
    have S6 := Lib.hid (S5.out.box Lo.length n3)
    go_upto_region 7 with fail
    rw [← hLo]
    clear hLo
    generalize w10.alloc (.cells #[.int .i64 (Lo.length : Nat), .int .i64 (n3 : Nat)] 54) = w11 at S6 ⊢
    generalize w10.heap.size = z12 at S6 ⊢
    obtain ⟨x0, x1, _⟩ := S6.out.ls.lb.all
    obtain ⟨x2, x3, _⟩ := (S6.out.bx (z10, Lb.length, n2) (by simp)).1.all
    obtain ⟨x4, x5, _⟩ := (S6.out.bx (z8, La.length, n1) (by simp)).1.all
    simp only at x2 x3 x4 x5
    go_wp2_with fail
    refine (vAnd (la := La) (lb := Lb) (ra := n1) (rb := n2) (P := P3) (hs := hs) w11 S6.out.ls.ar (by decide) (fun j => Nat.le_trans (M3H.out.2.1 j) (by decide)) M3H.out.1 S6.out.ls.hh S6.out.ls.nb HHS.out (.inr M3H.out.2.2.1.1) (.inr M3H.out.2.2.1.2.1) M3H.out.2.2.2.2.1 M3H.out.2.2.2.2.2.1 M2H.out.2.2.2.2.2.2.1 M2H.out.2.2.2.2.2.2.2 (by have := HLL.out; omega)).mono ?_
    rintro e w12 ⟨N, n, er, rfl, ⟨n4, M4, F4, ⟨e1, e2, e3⟩, hr4, hm4⟩ | ⟨M4, F4, _, hfull, _⟩⟩
    · subst e1 e2 e3
      have S7 := Lib.hid (S6.out.from hr4)
      obtain ⟨Ln, hLn⟩ : ∃ Ln, Ln = addAll hs (fun k => hasB k Lb) (La.map Prod.fst) [] := ⟨_, rfl⟩
      rw [← hLn] at hm4
      obtain ⟨P4, hP4⟩ : ∃ P4 : Nat → Nat, P4 = fun j => P3 j + [n4].count j := ⟨_, rfl⟩
      have M4H := Lib.hid (show Bk (16384 + 1) M4 [] P4 [] ∧ (∀ j, P4 j ≤ 4) ∧ (1 ≤ P4 n1 ∧ 1 ≤ P4 n2 ∧ 1 ≤ P4 n3 ∧ 1 ≤ P4 n4) ∧ live (16384 + 1) M4 ≤ 16 * 600 ∧ Mp M4 hs n1 La ∧ Mp M4 hs n2 Lb ∧ Mp M4 hs n3 Lo ∧ Mp M4 hs n4 Ln from by
        obtain ⟨g1, g2, ⟨g3, g3', g3''⟩, g4, g5, g6, g7⟩ := M3H.out
        refine ⟨by rw [hP4]; exact hr4.held, fun j => ?_, ⟨?_, ?_, ?_, ?_⟩, ?_, g5.pres S6.out.ls.ar.zero (fun e => hr4.keeps n1 e g3), g6.pres S6.out.ls.ar.zero (fun e => hr4.keeps n2 e g3'), g7.pres S6.out.ls.ar.zero (fun e => hr4.keeps n3 e g3''), hm4⟩
        · rw [hP4]
          have e2 : [n4].count j ≤ 1 := List.count_le_length
          have e3 := g2 j
          show P3 j + [n4].count j ≤ 4
          omega
        · rw [hP4]
          show 1 ≤ P3 n1 + [n4].count n1
          omega
        · rw [hP4]
          show 1 ≤ P3 n2 + [n4].count n2
          omega
        · rw [hP4]
          show 1 ≤ P3 n3 + [n4].count n3
          omega
        · rw [hP4]
          show 1 ≤ P3 n4 + [n4].count n4
          simp
        · have h1 := hr4.live
          have h2 := HLL.out
          omega)
      have HLN := Lib.hid hLn
      have HP4 := Lib.hid hP4
      clear hr4 hm4 hP4 x0 x1 x2 x3 x4 x5 S6
      have S8 := Lib.hid (S7.out.box Ln.length n4)
      go_upto_region 8 with fail
      rw [← hLn]
      clear hLn
      generalize w12.alloc (.cells #[.int .i64 (Ln.length : Nat), .int .i64 (n4 : Nat)] 54) = w13 at S8 ⊢
      generalize w12.heap.size = z14 at S8 ⊢
      obtain ⟨x0, x1, _⟩ := S8.out.ls.lb.all
      obtain ⟨x2, x3, _⟩ := (S8.out.bx (z10, Lb.length, n2) (by simp)).1.all
      obtain ⟨x4, x5, _⟩ := (S8.out.bx (z8, La.length, n1) (by simp)).1.all
      simp only at x2 x3 x4 x5
      go_wp2_with fail
      refine (vMinus (la := La) (lb := Lb) (ra := n1) (rb := n2) (P := P4) (hs := hs) w13 S8.out.ls.ar (by decide) (fun j => Nat.le_trans (M4H.out.2.1 j) (by decide)) M4H.out.1 S8.out.ls.hh S8.out.ls.nb HHS.out (.inr M4H.out.2.2.1.1) (.inr M4H.out.2.2.1.2.1) M4H.out.2.2.2.2.1 M4H.out.2.2.2.2.2.1 M2H.out.2.2.2.2.2.2.1 M2H.out.2.2.2.2.2.2.2 (by have := HLL.out; omega)).mono ?_
      rintro e w14 ⟨N, n, er, rfl, ⟨n5, M5, F5, ⟨e1, e2, e3⟩, hr5, hm5⟩ | ⟨M5, F5, _, hfull, _⟩⟩
      · subst e1 e2 e3
        have S9 := Lib.hid (S8.out.from hr5)
        obtain ⟨Lm, hLm⟩ : ∃ Lm, Lm = addAll hs (fun k => !hasB k Lb) (La.map Prod.fst) [] := ⟨_, rfl⟩
        rw [← hLm] at hm5
        obtain ⟨P5, hP5⟩ : ∃ P5 : Nat → Nat, P5 = fun j => P4 j + [n5].count j := ⟨_, rfl⟩
        have M5H := Lib.hid (show Bk (16384 + 1) M5 [] P5 [] ∧ P5 = (fun j => P4 j + [n5].count j) ∧ (∀ j, P5 j ≤ 5) ∧ Mp M5 hs n1 La ∧ Mp M5 hs n2 Lb ∧ Mp M5 hs n3 Lo ∧ Mp M5 hs n4 Ln ∧ Mp M5 hs n5 Lm from by
          obtain ⟨g1, g2, ⟨ga, gb, gc, gd⟩, g4, g5, g6, g7, g8⟩ := M4H.out
          refine ⟨by rw [hP5]; exact hr5.held, hP5, fun j => ?_, g5.pres S8.out.ls.ar.zero (fun e => hr5.keeps n1 e ga), g6.pres S8.out.ls.ar.zero (fun e => hr5.keeps n2 e gb), g7.pres S8.out.ls.ar.zero (fun e => hr5.keeps n3 e gc), g8.pres S8.out.ls.ar.zero (fun e => hr5.keeps n4 e gd), hm5⟩
          rw [hP5]
          have e2 : [n5].count j ≤ 1 := List.count_le_length
          have e3 := g2 j
          show P4 j + [n5].count j ≤ 5
          omega)
        have HLM := Lib.hid hLm
        clear hr5 hm5 hP5 x0 x1 x2 x3 x4 x5 S8
        have S10 := Lib.hid (S9.out.box Lm.length n5)
        go_upto_region 14 with fail
        rw [← hLm]
        clear hLm
        generalize w14.alloc (.cells #[.int .i64 (Lm.length : Nat), .int .i64 (n5 : Nat)] 54) = w15 at S10 ⊢
        generalize w14.heap.size = z16 at S10 ⊢
        obtain ⟨lm, hlm⟩ : ∃ lm, lm = l ++ m := ⟨_, rfl⟩
        have HLM0 := Lib.hid (show lm = l ++ m ∧ (∀ k ∈ lm, OkK k) ∧ lm.length ≤ 240 ∧ addAll hs (fun _ => true) lm [] = Lo from by
          rw [hlm]
          refine ⟨rfl, fun k hk => (List.mem_append.1 hk).elim (HR.out.1 k) (HR2.out.1 k), by have := HR.out.2; have := HR2.out.2; rw [List.length_append]; omega, ?_⟩
          rw [HLO.out, HLA.out.1, HLA.out.2]; exact (or_doc l m).symm)
        clear hlm
        have HD := Lib.hid (show addAll hs (fun _ => true) (l ++ m) [] = Lo ∧ addAll hs (fun k => inB k m) l [] = Ln ∧ addAll hs (fun k => !inB k m) l [] = Lm ∧ addAll hs (fun _ => true) l [] = La ∧ addAll hs (fun _ => true) m [] = Lb from by
          obtain ⟨ea, eb⟩ := HLA.out
          refine ⟨?_, ?_, ?_, ea.symm, eb.symm⟩
          · rw [HLO.out, ea, eb]; exact (or_doc l m).symm
          · rw [HLN.out, ea, eb]; exact (and_doc l m).symm
          · rw [HLM.out, ea, eb]; exact (minus_doc l m).symm)
        have HLN2 := Lib.hid (show Lo.length ≤ 240 ∧ Ln.length ≤ 120 ∧ Lm.length ≤ 120 from by
          have h1 := addAll_len (hs := hs) (wb := fun _ => true) (l ++ m) (L := []) List.Pairwise.nil
          have h2 := addAll_len (hs := hs) (wb := fun k => inB k m) l (L := []) List.Pairwise.nil
          have h3 := addAll_len (hs := hs) (wb := fun k => !inB k m) l (L := []) List.Pairwise.nil
          rw [HD.out.1] at h1
          rw [HD.out.2.1] at h2
          rw [HD.out.2.2.1] at h3
          have h4 := HR.out.2
          have h5 := HR2.out.2
          simp only [List.length_nil, List.length_append] at h1 h2 h3
          omega)
        clear HLO HLN HLM HLA M3H M4H
        have qa0 : ∀ W, Ob w b bh seed z7 z5 (.slice A2 m.length c2) M5 F5 [(z16, Lm.length, n5), (z14, Ln.length, n4), (z12, Lo.length, n3), (z10, Lb.length, n2), (z8, La.length, n1)] W → W.cell? ⟨z16, 0, none⟩ = some (.int .i64 (Lm.length : Nat)) := fun W h => (h.bx (z16, Lm.length, n5) (by simp)).1.c0
        have qa1 : ∀ W, Ob w b bh seed z7 z5 (.slice A2 m.length c2) M5 F5 [(z16, Lm.length, n5), (z14, Ln.length, n4), (z12, Lo.length, n3), (z10, Lb.length, n2), (z8, La.length, n1)] W → W.cell? ⟨z16, 1, none⟩ = some (.int .i64 (n5 : Nat)) := fun W h => (h.bx (z16, Lm.length, n5) (by simp)).1.c1
        have qb0 : ∀ W, Ob w b bh seed z7 z5 (.slice A2 m.length c2) M5 F5 [(z16, Lm.length, n5), (z14, Ln.length, n4), (z12, Lo.length, n3), (z10, Lb.length, n2), (z8, La.length, n1)] W → W.cell? ⟨z14, 0, none⟩ = some (.int .i64 (Ln.length : Nat)) := fun W h => (h.bx (z14, Ln.length, n4) (by simp)).1.c0
        have qb1 : ∀ W, Ob w b bh seed z7 z5 (.slice A2 m.length c2) M5 F5 [(z16, Lm.length, n5), (z14, Ln.length, n4), (z12, Lo.length, n3), (z10, Lb.length, n2), (z8, La.length, n1)] W → W.cell? ⟨z14, 1, none⟩ = some (.int .i64 (n4 : Nat)) := fun W h => (h.bx (z14, Ln.length, n4) (by simp)).1.c1
        have qc0 : ∀ W, Ob w b bh seed z7 z5 (.slice A2 m.length c2) M5 F5 [(z16, Lm.length, n5), (z14, Ln.length, n4), (z12, Lo.length, n3), (z10, Lb.length, n2), (z8, La.length, n1)] W → W.cell? ⟨z12, 0, none⟩ = some (.int .i64 (Lo.length : Nat)) := fun W h => (h.bx (z12, Lo.length, n3) (by simp)).1.c0
        have qc1 : ∀ W, Ob w b bh seed z7 z5 (.slice A2 m.length c2) M5 F5 [(z16, Lm.length, n5), (z14, Ln.length, n4), (z12, Lo.length, n3), (z10, Lb.length, n2), (z8, La.length, n1)] W → W.cell? ⟨z12, 1, none⟩ = some (.int .i64 (n3 : Nat)) := fun W h => (h.bx (z12, Lo.length, n3) (by simp)).1.c1
        have qd0 : ∀ W, Ob w b bh seed z7 z5 (.slice A2 m.length c2) M5 F5 [(z16, Lm.length, n5), (z14, Ln.length, n4), (z12, Lo.length, n3), (z10, Lb.length, n2), (z8, La.length, n1)] W → W.cell? ⟨z10, 0, none⟩ = some (.int .i64 (Lb.length : Nat)) := fun W h => (h.bx (z10, Lb.length, n2) (by simp)).1.c0
        have qd1 : ∀ W, Ob w b bh seed z7 z5 (.slice A2 m.length c2) M5 F5 [(z16, Lm.length, n5), (z14, Ln.length, n4), (z12, Lo.length, n3), (z10, Lb.length, n2), (z8, La.length, n1)] W → W.cell? ⟨z10, 1, none⟩ = some (.int .i64 (n2 : Nat)) := fun W h => (h.bx (z10, Lb.length, n2) (by simp)).1.c1
        have qe0 : ∀ W, Ob w b bh seed z7 z5 (.slice A2 m.length c2) M5 F5 [(z16, Lm.length, n5), (z14, Ln.length, n4), (z12, Lo.length, n3), (z10, Lb.length, n2), (z8, La.length, n1)] W → W.cell? ⟨z8, 0, none⟩ = some (.int .i64 (La.length : Nat)) := fun W h => (h.bx (z8, La.length, n1) (by simp)).1.c0
        have qe1 : ∀ W, Ob w b bh seed z7 z5 (.slice A2 m.length c2) M5 F5 [(z16, Lm.length, n5), (z14, Ln.length, n4), (z12, Lo.length, n3), (z10, Lb.length, n2), (z8, La.length, n1)] W → W.cell? ⟨z8, 1, none⟩ = some (.int .i64 (n1 : Nat)) := fun W h => (h.bx (z8, La.length, n1) (by simp)).1.c1
        have q70 : ∀ W, Ob w b bh seed z7 z5 (.slice A2 m.length c2) M5 F5 [(z16, Lm.length, n5), (z14, Ln.length, n4), (z12, Lo.length, n3), (z10, Lb.length, n2), (z8, La.length, n1)] W → W.cell? ⟨z7, 0, none⟩ = some (ap b) := fun W h => h.ls.lb.c0
        have q71 : ∀ W, Ob w b bh seed z7 z5 (.slice A2 m.length c2) M5 F5 [(z16, Lm.length, n5), (z14, Ln.length, n4), (z12, Lo.length, n3), (z10, Lb.length, n2), (z8, La.length, n1)] W → W.cell? ⟨z7, 1, none⟩ = some (.pointer (some ⟨bh, 0, none⟩)) := fun W h => h.ls.lb.c1
        have q50 : ∀ W, Ob w b bh seed z7 z5 (.slice A2 m.length c2) M5 F5 [(z16, Lm.length, n5), (z14, Ln.length, n4), (z12, Lo.length, n3), (z10, Lb.length, n2), (z8, La.length, n1)] W → W.cell? ⟨z5, 0, none⟩ = some (.slice A2 m.length c2) := fun W h => h.mb.c0
        refine wp_region_noPanic ?_
        refine wp_region_held_drew (S := fun W => Ob w b bh seed z7 z5 (.slice A2 m.length c2) M5 F5 [(z16, Lm.length, n5), (z14, Ln.length, n4), (z12, Lo.length, n3), (z10, Lb.length, n2), (z8, La.length, n1)] W) (by kernel_rfl) (S10.out.below (Below.refl _ w15).drew) (fun hH => ?_)
        replace hH := S10.out.below (Below.refl _ w15).drew
        clear S10
        generalize w15.drew = Wc at hH ⊢
        clear w15
        refine tkH ?_ 0 hH ?_ ?_; rotate_left
        · intro W' hS; go_simp; with_reducible rfl
        simp only [tkr]
        refine tkH ?_ 1 hH ?_ ?_; rotate_left
        · intro W' hS; go_simp; with_reducible rfl
        simp only [tkr]
        refine tkH ?_ 2 hH ?_ ?_; rotate_left
        · intro W' hS; go_simp; with_reducible rfl
        simp only [tkr]
        refine tkH ?_ 3 hH ?_ ?_; rotate_left
        · intro W' hS; go_simp; with_reducible rfl
        simp only [tkr]
        refine tkH ?_ 4 hH ?_ ?_; rotate_left
        · intro W' hS; go_simp; with_reducible rfl
        simp only [tkr]
        refine wpAnyH_take (i := 7) (v := .func (.func 28) #[] #[]) rfl (by kernel_rfl) (by kernel_rfl) (by kernel_rfl) (fun _ _ _ h => h) (Or.inl ⟨by rfl, fun W' hS => by kernel_rfl⟩) hH ?_
        simp only [Act.put, List.setIfInBounds_toArray, List.set_cons_zero, List.set_cons_succ, List.getElem_toArray, List.getElem_cons_zero, List.getElem_cons_succ]
        refine rdH 5 rfl (fun K hK => ?_)
        go_simp
        have vg := C2.new Wc 50 (.slice A l.length c) (.slice A2 m.length c2)
        have hb9 : Below Wc.heap.size Wc (Wc.alloc (.cells #[.slice A l.length c, .slice A2 m.length c2] 50)) := (Below.refl _ Wc).alloc (Nat.le_refl _) _
        have hH2 := hH.below hb9
        refine hK.out _ _ hH2 (fun hH => ?_)
        clear hK K hb9 hH2
        generalize World.alloc _ _ = Wn at vg hH ⊢
        generalize Wc.heap.size = g0 at vg ⊢
        rename World => Wc
        refine rdH 6 rfl (fun K hK => ?_)
        go_simp
        refine (vconcat g0 A A2 c c2 l m Wc vg.c0 vg.c1 (HRG.out Wc hH.ls.bel).1 (HRG.out Wc hH.ls.bel).2 (by have := HR.out.2; omega) (by have := HR2.out.2; omega)).mono ?_
        rintro e Wn ⟨x, rfl, hox, hbn⟩
        rw [← HLM0.out.1] at hox
        obtain ⟨A3, c3, rfl, _⟩ := (Rd.of_own hox).form
        have L3 := Lib.hid (rd_lst10 (Rd.of_own hox))
        have hH2 := hH.below hbn
        clear hox hbn vg
        simp only
        refine hK.out _ _ hH2 (fun hH => ?_)
        clear hK K hH2
        rename World => Wc
        refine rdH 8 rfl (fun K hK => ?_)
        go_simp
        refine (oblist hH HHS.out A3 lm c3 28 #[] (fun _ => true) Lo HLM0.out.2.2.2 L3.out HLM0.out.2.1 (by have := HLM0.out.2.2.1; omega) (fun _ _ => rfl) (fun W' k _ _ => lany k W')).mono ?_
        rintro e Wn ⟨y, rfl, hy, hyl, hky, hH2⟩
        have Y := Lib.hid (And.intro hy (And.intro hyl hky))
        clear hy hyl hky
        simp only
        refine hK.out _ _ hH2 (fun hH => ?_)
        clear hK K hH2
        rename World => Wc
        refine rdH 9 rfl (fun K hK => ?_)
        go_simp
        refine (obsame (n := n3) (L := Lo) hH M5H.out.2.2.2.2.2.1 HHS.out Y.out.2.2 (by have := HLN2.out; omega) Y.out.1 Y.out.2.1).mono ?_
        rintro e Wn ⟨rfl, hH2⟩
        clear Y
        simp only
        refine hK.out _ _ hH2 (fun hH => ?_)
        clear hK K hH2
        rename World => Wc
        refine tkH ?_ 10 hH ?_ ?_; rotate_left
        · intro W' hS; go_simp; with_reducible rfl
        simp only [tkr]
        refine tkH ?_ 11 hH ?_ ?_; rotate_left
        · intro W' hS; go_simp; with_reducible rfl
        simp only [tkr]
        refine tkH ?_ 12 hH ?_ ?_; rotate_left
        · intro W' hS; go_simp; with_reducible rfl
        simp only [tkr]
        refine tkH ?_ 13 hH ?_ ?_; rotate_left
        · intro W' hS; go_simp; with_reducible rfl
        simp only [tkr]
        refine tkH ?_ 14 hH ?_ ?_; rotate_left
        · intro W' hS; go_simp; with_reducible rfl
        simp only [tkr]
        refine tkH ?_ 15 hH ?_ ?_; rotate_left
        · intro W' hS; go_simp; with_reducible rfl
        simp only [tkr]
        refine wpAnyH_take (i := 16) (v := .func (.func 29) #[] #[.pointer (some ⟨z5, 0, none⟩)]) rfl (by kernel_rfl) (by kernel_rfl) (by kernel_rfl) (fun _ _ _ h => h) (Or.inl ⟨by rfl, fun W' hS => by kernel_rfl⟩) hH ?_
        simp only [Act.put, List.setIfInBounds_toArray, List.set_cons_zero, List.set_cons_succ, List.getElem_toArray, List.getElem_cons_zero, List.getElem_cons_succ]
        refine rdH 17 rfl (fun K hK => ?_)
        go_simp
        refine (oblist hH HHS.out A (l) c 29 #[.pointer (some ⟨z5, 0, none⟩)] (fun k => inB k m) Ln HD.out.2.1 (HL.out.1.below hH.ls.bel) HR.out.1 (by have := HR.out.2; omega) (fun _ _ => rfl) (fun W' k ho _ => lin A2 m c2 z5 k W' (HM.out.1.below ho.ls.bel) (by have := HR2.out.2; omega) ho.mb)).mono ?_
        rintro e Wn ⟨y, rfl, hy, hyl, hky, hH2⟩
        have Y := Lib.hid (And.intro hy (And.intro hyl hky))
        clear hy hyl hky
        simp only
        refine hK.out _ _ hH2 (fun hH => ?_)
        clear hK K hH2
        rename World => Wc
        refine rdH 18 rfl (fun K hK => ?_)
        go_simp
        refine (obsame (n := n4) (L := Ln) hH M5H.out.2.2.2.2.2.2.1 HHS.out Y.out.2.2 (by have := HLN2.out; omega) Y.out.1 Y.out.2.1).mono ?_
        rintro e Wn ⟨rfl, hH2⟩
        clear Y
        simp only
        refine hK.out _ _ hH2 (fun hH => ?_)
        clear hK K hH2
        rename World => Wc
        refine tkH ?_ 19 hH ?_ ?_; rotate_left
        · intro W' hS; go_simp; with_reducible rfl
        simp only [tkr]
        refine tkH ?_ 20 hH ?_ ?_; rotate_left
        · intro W' hS; go_simp; with_reducible rfl
        simp only [tkr]
        refine tkH ?_ 21 hH ?_ ?_; rotate_left
        · intro W' hS; go_simp; with_reducible rfl
        simp only [tkr]
        refine tkH ?_ 22 hH ?_ ?_; rotate_left
        · intro W' hS; go_simp; with_reducible rfl
        simp only [tkr]
        refine tkH ?_ 23 hH ?_ ?_; rotate_left
        · intro W' hS; go_simp; with_reducible rfl
        simp only [tkr]
        refine tkH ?_ 24 hH ?_ ?_; rotate_left
        · intro W' hS; go_simp; with_reducible rfl
        simp only [tkr]
        refine tkH ?_ 25 hH ?_ ?_; rotate_left
        · intro W' hS; go_simp; with_reducible rfl
        simp only [tkr]
        refine wpAnyH_take (i := 26) (v := .func (.func 31) #[] #[.pointer (some ⟨z5, 0, none⟩)]) rfl (by kernel_rfl) (by kernel_rfl) (by kernel_rfl) (fun _ _ _ h => h) (Or.inl ⟨by rfl, fun W' hS => by kernel_rfl⟩) hH ?_
        simp only [Act.put, List.setIfInBounds_toArray, List.set_cons_zero, List.set_cons_succ, List.getElem_toArray, List.getElem_cons_zero, List.getElem_cons_succ]
        refine rdH 27 rfl (fun K hK => ?_)
        go_simp
        refine (oblist hH HHS.out A (l) c 31 #[.pointer (some ⟨z5, 0, none⟩)] (fun k => !inB k m) Lm HD.out.2.2.1 (HL.out.1.below hH.ls.bel) HR.out.1 (by have := HR.out.2; omega) (fun _ _ => rfl) (fun W' k ho _ => lout A2 m c2 z5 k W' (HM.out.1.below ho.ls.bel) (by have := HR2.out.2; omega) ho.mb)).mono ?_
        rintro e Wn ⟨y, rfl, hy, hyl, hky, hH2⟩
        have Y := Lib.hid (And.intro hy (And.intro hyl hky))
        clear hy hyl hky
        simp only
        refine hK.out _ _ hH2 (fun hH => ?_)
        clear hK K hH2
        rename World => Wc
        refine rdH 28 rfl (fun K hK => ?_)
        go_simp
        refine (obsame (n := n5) (L := Lm) hH M5H.out.2.2.2.2.2.2.2 HHS.out Y.out.2.2 (by have := HLN2.out; omega) Y.out.1 Y.out.2.1).mono ?_
        rintro e Wn ⟨rfl, hH2⟩
        clear Y
        simp only
        refine hK.out _ _ hH2 (fun hH => ?_)
        clear hK K hH2
        rename World => Wc
        refine tkH ?_ 29 hH ?_ ?_; rotate_left
        · intro W' hS; go_simp; with_reducible rfl
        simp only [tkr]
        refine tkH ?_ 30 hH ?_ ?_; rotate_left
        · intro W' hS; go_simp; with_reducible rfl
        simp only [tkr]
        refine tkH ?_ 31 hH ?_ ?_; rotate_left
        · intro W' hS; go_simp; with_reducible rfl
        simp only [tkr]
        refine tkH ?_ 32 hH ?_ ?_; rotate_left
        · intro W' hS; go_simp; with_reducible rfl
        simp only [tkr]
        refine tkH ?_ 33 hH ?_ ?_; rotate_left
        · intro W' hS; go_simp; with_reducible rfl
        simp only [tkr]
        refine tkH ?_ 34 hH ?_ ?_; rotate_left
        · intro W' hS; go_simp; with_reducible rfl
        simp only [tkr]
        refine tkH ?_ 35 hH ?_ ?_; rotate_left
        · intro W' hS; go_simp; with_reducible rfl
        simp only [tkr]
        refine wpAnyH_take (i := 36) (v := .func (.func 28) #[] #[]) rfl (by kernel_rfl) (by kernel_rfl) (by kernel_rfl) (fun _ _ _ h => h) (Or.inl ⟨by rfl, fun W' hS => by kernel_rfl⟩) hH ?_
        simp only [Act.put, List.setIfInBounds_toArray, List.set_cons_zero, List.set_cons_succ, List.getElem_toArray, List.getElem_cons_zero, List.getElem_cons_succ]
        refine rdH 37 rfl (fun K hK => ?_)
        go_simp
        refine (oblist hH HHS.out A (l) c 28 #[] (fun _ => true) La HD.out.2.2.2.1 (HL.out.1.below hH.ls.bel) HR.out.1 (by have := HR.out.2; omega) (fun _ _ => rfl) (fun W' k _ _ => lany k W')).mono ?_
        rintro e Wn ⟨y, rfl, hy, hyl, hky, hH2⟩
        have Y := Lib.hid (And.intro hy (And.intro hyl hky))
        clear hy hyl hky
        simp only
        refine hK.out _ _ hH2 (fun hH => ?_)
        clear hK K hH2
        rename World => Wc
        refine rdH 38 rfl (fun K hK => ?_)
        go_simp
        refine (obsame (n := n1) (L := La) hH M5H.out.2.2.2.1 HHS.out Y.out.2.2 (by have := HLL.out; omega) Y.out.1 Y.out.2.1).mono ?_
        rintro e Wn ⟨rfl, hH2⟩
        clear Y
        simp only
        refine hK.out _ _ hH2 (fun hH => ?_)
        clear hK K hH2
        rename World => Wc
        refine tkH ?_ 39 hH ?_ ?_; rotate_left
        · intro W' hS; go_simp; with_reducible rfl
        simp only [tkr]
        refine tkH ?_ 40 hH ?_ ?_; rotate_left
        · intro W' hS; go_simp; with_reducible rfl
        simp only [tkr]
        refine tkH ?_ 41 hH ?_ ?_; rotate_left
        · intro W' hS; go_simp; with_reducible rfl
        simp only [tkr]
        refine tkH ?_ 42 hH ?_ ?_; rotate_left
        · intro W' hS; go_simp; with_reducible rfl
        simp only [tkr]
        refine tkH ?_ 43 hH ?_ ?_; rotate_left
        · intro W' hS; go_simp; with_reducible rfl
        simp only [tkr]
        refine tkH ?_ 44 hH ?_ ?_; rotate_left
        · intro W' hS; go_simp; with_reducible rfl
        simp only [tkr]
        refine tkH ?_ 45 hH ?_ ?_; rotate_left
        · intro W' hS; go_simp; with_reducible rfl
        simp only [tkr]
        refine wpAnyH_take (i := 46) (v := .func (.func 28) #[] #[]) rfl (by kernel_rfl) (by kernel_rfl) (by kernel_rfl) (fun _ _ _ h => h) (Or.inl ⟨by rfl, fun W' hS => by kernel_rfl⟩) hH ?_
        simp only [Act.put, List.setIfInBounds_toArray, List.set_cons_zero, List.set_cons_succ, List.getElem_toArray, List.getElem_cons_zero, List.getElem_cons_succ]
        refine rdH 47 rfl (fun K hK => ?_)
        go_simp
        refine (oblist hH HHS.out A2 (m) c2 28 #[] (fun _ => true) Lb HD.out.2.2.2.2 (HM.out.1.below hH.ls.bel) HR2.out.1 (by have := HR2.out.2; omega) (fun _ _ => rfl) (fun W' k _ _ => lany k W')).mono ?_
        rintro e Wn ⟨y, rfl, hy, hyl, hky, hH2⟩
        have Y := Lib.hid (And.intro hy (And.intro hyl hky))
        clear hy hyl hky
        simp only
        refine hK.out _ _ hH2 (fun hH => ?_)
        clear hK K hH2
        rename World => Wc
        refine rdH 48 rfl (fun K hK => ?_)
        go_simp
        refine (obsame (n := n2) (L := Lb) hH M5H.out.2.2.2.2.1 HHS.out Y.out.2.2 (by have := HLL.out; omega) Y.out.1 Y.out.2.1).mono ?_
        rintro e Wn ⟨rfl, hH2⟩
        clear Y
        simp only
        refine hK.out _ _ hH2 (fun hH => ?_)
        clear hK K hH2
        rename World => Wc
        refine tkH ?_ 49 hH ?_ ?_; rotate_left
        · intro W' hS; go_simp; with_reducible rfl
        simp only [tkr]
        refine tkH ?_ 50 hH ?_ ?_; rotate_left
        · intro W' hS; go_simp; with_reducible rfl
        simp only [tkr]
        refine wpAnyH_done (by kernel_rfl) ?_ _
        refine NoPanic.normal ?_
        have a0 := qe0 Wc hH
        have a1 := qe1 Wc hH
        have a2 := qd0 Wc hH
        have a3 := qd1 Wc hH
        have a4 := qc0 Wc hH
        have a5 := qc1 Wc hH
        have a6 := qb0 Wc hH
        have a7 := qb1 Wc hH
        have a8 := qa0 Wc hH
        have a9 := qa1 Wc hH
        clear qa0 qa1 qb0 qb1 qc0 qc1 qd0 qd1 qe0 qe1 q70 q71 q50
        have HBK := Lib.hid (show Bk (16384 + 1) M5 [] (fun _ => 0) [n1, n2, n3, n4, n5] from M5H.out.1.move (fun k _ => by
          rw [M5H.out.2.1, HP4.out, HP3.out, HP2.out, HP1.out]
          show 0 + [n1].count k + [n2].count k + [n3].count k + [n4].count k + [n5].count k + [].count k = 0 + [n1, n2, n3, n4, n5].count k
          simp only [List.count_cons, List.count_nil]
          omega) (fun x hx => by simp at hx))
        clear M5H HP1 HP2 HP3 HP4 HLM0 HLN2 HLL HD HRG HM HL HR HR2 HHS L3
        go_wp2_with fail
        clear a0 a1 a2 a3 a4 a5 a6 a7 a8 a9
        have hX := BC.new Wc 54 #[.int .i64 (La.length : Nat), .int .i64 (n1 : Nat), .int .i64 (Lb.length : Nat), .int .i64 (n2 : Nat), .int .i64 (Lo.length : Nat), .int .i64 (n3 : Nat), .int .i64 (Ln.length : Nat), .int .i64 (n4 : Nat), .int .i64 (Lm.length : Nat), .int .i64 (n5 : Nat)]
        have hO := (hH.below ((Below.refl _ Wc).alloc (Nat.le_refl _) (.cells #[.int .i64 (La.length : Nat), .int .i64 (n1 : Nat), .int .i64 (Lb.length : Nat), .int .i64 (n2 : Nat), .int .i64 (Lo.length : Nat), .int .i64 (n3 : Nat), .int .i64 (Ln.length : Nat), .int .i64 (n4 : Nat), .int .i64 (Lm.length : Nat), .int .i64 (n5 : Nat)] 54))).none
        have hN : ¬ F5 Wc.heap.size ∧ Wc.heap.size ≠ bh := ⟨fun hf => by have := hH.ls.ar.lt hf; omega, fun e => by have := hH.ls.hh.lt; omega⟩
        clear hH
        generalize Wc.alloc _ = W0 at hX hO ⊢
        generalize Wc.heap.size = g at hX hN ⊢
        clear Wc
        have hcell : ∀ W, BC W g 54 #[.int .i64 (La.length : Nat), .int .i64 (n1 : Nat), .int .i64 (Lb.length : Nat), .int .i64 (n2 : Nat), .int .i64 (Lo.length : Nat), .int .i64 (n3 : Nat), .int .i64 (Ln.length : Nat), .int .i64 (n4 : Nat), .int .i64 (Lm.length : Nat), .int .i64 (n5 : Nat)] → ∀ j, j < 5 → ∃ N n : Nat, [n1, n2, n3, n4, n5][j]? = some n ∧ W.cell? ⟨g, j * 2, none⟩ = some (.int .i64 (N : Nat)) ∧ W.cell? ⟨g, j * 2 + 1, none⟩ = some (.int .i64 (n : Nat)) := fun W h j hj => by
          match j, hj with
          | 0, _ => exact ⟨_, _, rfl, h.at rfl, h.at rfl⟩
          | 1, _ => exact ⟨_, _, rfl, h.at rfl, h.at rfl⟩
          | 2, _ => exact ⟨_, _, rfl, h.at rfl, h.at rfl⟩
          | 3, _ => exact ⟨_, _, rfl, h.at rfl, h.at rfl⟩
          | 4, _ => exact ⟨_, _, rfl, h.at rfl, h.at rfl⟩
        have HC := Lib.hid hcell
        obtain ⟨NS, hNS⟩ : ∃ NS, NS = [n1, n2, n3, n4, n5] := ⟨_, rfl⟩
        rw [← hNS] at HBK HC
        have HNL := Lib.hid (show NS.length = 5 from by rw [hNS]; rfl)
        have ST := Lib.hid (And.intro hO (And.intro HBK.out (And.intro hX hN)))
        clear hcell hNS hO hX hN HBK
        go_loopg [149] 5 (fun c' s wr => ∃ (j : Nat) (M : Cells) (F : Nat → Prop), j + c' = 5 ∧ s = .int .i64 (j : Int) ∧ Ob w b bh seed z7 z5 (.slice A2 m.length c2) M F [] wr ∧ Bk (16384 + 1) M [] (fun _ => 0) (NS.drop j) ∧ BC wr g 54 #[.int .i64 (La.length : Nat), .int .i64 (n1 : Nat), .int .i64 (Lb.length : Nat), .int .i64 (n2 : Nat), .int .i64 (Lo.length : Nat), .int .i64 (n3 : Nat), .int .i64 (Ln.length : Nat), .int .i64 (n4 : Nat), .int .i64 (Lm.length : Nat), .int .i64 (n5 : Nat)] ∧ ¬ F g ∧ g ≠ bh)
        case atStart => exact ⟨0, M5, F5, rfl, rfl, ST.out⟩
        case round =>
          clear ST
          obtain ⟨j, M, F, hj, rfl, ho, hbk, hx, hng⟩ := hrel
          by_cases h1 : j < 5
          · obtain ⟨N, n, hn, c0, c1⟩ := HC.out wr hx j h1
            rw [drop_get hn] at hbk
            have hP : Bk (16384 + 1) M [] (fun k => (NS.drop (j + 1)).count k) [n] := hbk.move (fun k _ => by
              simp only [List.count_cons, List.count_nil]
              omega) (fun x hx => by simp at hx)
            have HP := Lib.hid (And.intro hP (And.intro ho (And.intro hx (And.intro hng (And.intro hj h1)))))
            have y0 : (0 : Int) ≤ (j : Int) := by omega
            have y1 : (j : Int) < 5 := by omega
            clear hP ho hx hng hj h1 hbk hn
            go_upto_region 19 with fail
            clear c0 c1 y0 y1
            have q1 := C2.new wr 54 (.int .i64 (N : Nat)) (.int .i64 (n : Nat))
            have hb1 : Below wr.heap.size wr (wr.alloc (.cells #[.int .i64 (N : Nat), .int .i64 (n : Nat)] 54)) := (Below.refl _ wr).alloc (Nat.le_refl _) _
            have ho1 := HP.out.2.1.below hb1
            have hx1 := HP.out.2.2.1.below hb1
            clear hb1
            generalize wr.alloc _ = W5 at q1 ho1 hx1 ⊢
            generalize wr.heap.size = z22 at q1 ⊢
            obtain ⟨x0, x1, _⟩ := ho1.ls.lb.all
            obtain ⟨x2, x3, _⟩ := q1.all
            have HS5 := Lib.hid (And.intro ho1 hx1)
            have HDR := Lib.hid (drop1_bk n W5 ho1.ls.ar (by decide) (fun k => Nat.le_trans List.count_le_length (by rw [List.length_drop, HNL.out]; omega)) HP.out.1)
            clear ho1 hx1 q1
            have hw1 : IntKind.i64.wrap ((j : Int) + 1) = (j : Int) + 1 := IntWalk.i64_in _ (by have := HP.out; omega)
            have hw2 : wrap64 ((j : Int) + 1) = (j : Int) + 1 := IntWalk.wrap64_in _ (by have := HP.out; omega)
            go_wp2_with fail
            refine HDR.out.mono ?_
            rintro e W6 ⟨⟨z, rfl⟩, M', hb', _, _, hs'⟩
            have ho6 := HS5.out.1.stp hs'
            have hx6 := HS5.out.2.kp hs'.kp HP.out.2.2.2.1.1
            have hg6 : ¬ Fn F W5 W6 g := fun hf => hf.elim HP.out.2.2.2.1.1 (fun e => by have := HS5.out.2.lt; omega)
            have H6 := Lib.hid (And.intro ho6 (And.intro hb' (And.intro hx6 hg6)))
            clear hs' ho6 hb' hx6 hg6 x0 x1 x2 x3 HDR
            go_wp2_with fail
            go_roundg (5 - (j + 1))
            case measure => have := HP.out; omega
            case rel => exact ⟨j + 1, M', _, by have := HP.out; omega, by go_num, H6.out.1, H6.out.2.1.move (fun k _ => by simp) (fun x hx => by simp at hx), H6.out.2.2.1, H6.out.2.2.2, HP.out.2.2.2.1.2⟩
          · obtain rfl : j = 5 := by omega
            rw [List.drop_eq_nil_of_le (by rw [HNL.out]; exact Nat.le_refl 5)] at hbk
            have hl := Lib.hid (bk_nobody hbk)
            have HBE := Lib.hid ho.ls.bel
            obtain ⟨x0, x1, _⟩ := ho.ls.lb.all
            have HAL := Lib.hid (alive b 16384 M F wr ho.ls.ar)
            clear ho hx hng hbk hj h1
            go_wp2_with fail
            refine HAL.out.mono ?_
            rintro e w' ⟨rfl, rfl⟩
            rw [hl.out]
            clear x0 x1 HAL hl
            go_wp2_with fail
            go_ret
            exact ⟨rfl, HBE.out⟩
      · exfalso
        have h1 := M4H.out.2.2.2.1
        have h2 := HLL.out
        omega
    · exfalso
      have h1 := M3H.out.2.2.2.1
      have h2 := HLL.out
      omega
  · exfalso
    have h1 := M2H.out.2.2.2.1
    have h2 := HLL.out
    omega
end
end Go.Proofs.YtdddhmipifkepaaGreat
