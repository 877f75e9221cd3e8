/- Several texts in one. -/
import Derived.Test.YtkkfhbcnfknmaaaGreatMg22
import Derived.Test.YtkkfhbcnfknmaaaGreatMg09
import Derived.Test.YtkkfhbcnfknmaaaGreatMg10
import Derived.TacticsIn
import Derived.RangeFuncLeaves
import Derived.Test.YtkkfhbcnfknmaaaGreatMg21
import Derived.IntWalk
namespace Go.Proofs.YtkkfhbcnfknmaaaGreat
set_option maxRecDepth 100000
set_option linter.unusedSimpArgs false
set_option linter.unusedVariables false
open Go.RowKit Go.Shelf
attribute [local go_sem] Oper.semAt_some
section
variable {n0 b bh most root lp : Nat} {M0 : Cells} {J Jx : Nat → World → Prop} {xs : List Pr}
set_option maxHeartbeats 4000000 in
theorem vvisit_no11 (lp s : Nat) (lo hi : Option Addr) (A : World) {M : Cells} {F : Nat → Prop} (h : Ar A b most M F) (hs : s ≤ 1) (hlo : LimL A lo []) (hhi : LimH A hi []) :
    Calls Tryz.prog 95 #[land b bh, plagg 0 lo hi s, .func (.yield lp) #[] #[]] A fun e B => e = .returned (.bool true) ∧ Below A.heap.size A B := by
  have hb : Below A.heap.size A ((A.alloc (.cells #[ap b, .pointer (some ⟨bh, 0, none⟩)] 26)).alloc (.cells (pcell4 0 lo hi s) 159)) := ((Below.refl _ A).alloc (Nat.le_refl _) _).alloc (by simp) _
  have e1 : (A.alloc (.cells #[ap b, .pointer (some ⟨bh, 0, none⟩)] 26)).heap.size = A.heap.size + 1 := by simp
  have q3 := (C2.new A 26 (ap b) (.pointer (some ⟨bh, 0, none⟩))).alloc (.cells (pcell4 0 lo hi s) 159)
  have q4 := BC.new (A.alloc (.cells #[ap b, .pointer (some ⟨bh, 0, none⟩)] 26)) 159 (pcell4 0 lo hi s)
  rw [e1] at q4
  have HRD := Lib.hid (tread (l := []) (bh := bh) 0 s lo hi _ (h.below hb) h.zero ⟨.nil, hlo.below hb, hhi.below hb, hs⟩)
  have HB := Lib.hid hb
  obtain ⟨a0, a1, _⟩ := q3.all
  obtain ⟨p0, p1, p2, p3⟩ := q4.place
  clear hb e1 q3 q4 h hs hlo hhi
  refine (callsIn_wide (n := 1)).1 ?_
  refine callsIn_of_wp Tryz.func95 rfl trivial ?_ rfl
  simp only [Tryz.ntmps95, List.size_toArray, List.length_cons, List.length_nil, Nat.reduceAdd, Nat.reduceSub, Array.replicate_succ, Array.replicate_zero, List.push_toArray, List.append_toArray, List.nil_append, List.cons_append]
  gi_wp2
  refine ⟨trivial, (callsIn_wide.2 HRD.out).mono ?_⟩
  rintro e w2 ⟨nd, ok, rfl, hrp, hb2⟩
  obtain rfl : ok = false := by
    rcases hrp with ⟨e, _⟩ | ⟨_, hc, _, _, _, la, lb, hnd⟩
    · exact e
    · exact absurd hc hnd.node.ne
  have hb3 : Below A.heap.size A (w2.alloc (.cells (ncells nd) 162)) := (HB.out.trans (hb2.mono HB.out.size)).alloc (Nat.le_trans HB.out.size hb2.size) _
  have HV := Lib.hid hb3
  have q9 := BC.new w2 162 (ncells nzero)
  obtain ⟨f0, f1, f2, f3, f4, f5, f6, f7, f8, f9, f10, f11, f12, f13⟩ := q9.fz14
  obtain ⟨c0, c1, c2, c3, c4, c5, c6, c7, c8, c9, c10, c11, c12, c13⟩ := q9.node
  clear q9 hrp hb2 hb3 a0 a1 p0 p1 p2 p3 HRD HB
  simp only at c0 c1 c2 c3 c4 c5 c6 c7 c8 c9 c10 c11 c12 c13
  gi_wp2
  clear f0 f1 f2 f3 f4 f5 f6 f7 f8 f9 f10 f11 f12 f13 c0 c1 c2 c3 c4 c5 c6 c7 c8 c9 c10 c11 c12 c13
  change Code.wpIn _ _ _ _ _ _ (w2.alloc (.cells (ncells nd) 162))
  generalize w2.alloc _ = w3 at HV ⊢
  generalize w2.heap.size = z7 at HV ⊢
  refine anyX_region (S := fun W' => Below A.heap.size A W') (X := []) (by kernel_rfl) ?_
  have hH : Below A.heap.size A w3.drew := HV.out.trans ((Below.refl _ w3).drew.mono HV.out.size)
  generalize w3.drew = W1 at hH ⊢
  clear HV
  refine AnyX.first (i := 0) (v := ?_) (by kernel_rfl) (by kernel_rfl) rfl (by kernel_rfl) (by kernel_rfl) (by kernel_rfl) (fun _ _ _ h => h) ⟨fun _ => rfl, Or.inl ⟨by rfl, ?_⟩⟩ hH ?_
  rotate_left
  · intro W' hS
    go_simp
    with_reducible rfl
  simp only [Act.put, List.setIfInBounds_toArray, List.set_cons_zero, List.set_cons_succ, List.getElem_toArray, List.getElem_cons_zero, List.getElem_cons_succ]
  refine AnyX.first (i := 1) (v := ?_) (by kernel_rfl) (by kernel_rfl) rfl (by kernel_rfl) (by kernel_rfl) (by kernel_rfl) (fun _ _ _ h => h) ⟨fun _ => rfl, Or.inl ⟨by rfl, ?_⟩⟩ hH ?_
  rotate_left
  · intro W' hS
    go_simp
    with_reducible rfl
  simp only [Act.put, List.setIfInBounds_toArray, List.set_cons_zero, List.set_cons_succ, List.getElem_toArray, List.getElem_cons_zero, List.getElem_cons_succ]
  refine AnyX.first (i := 2) (v := ?_) (by kernel_rfl) (by kernel_rfl) rfl (by kernel_rfl) (by kernel_rfl) (by kernel_rfl) (fun _ _ _ h => h) ⟨fun _ => rfl, Or.inl ⟨by rfl, ?_⟩⟩ hH ?_
  rotate_left
  · intro W' hS
    go_simp
    with_reducible rfl
  simp only [Act.put, List.setIfInBounds_toArray, List.set_cons_zero, List.set_cons_succ, List.getElem_toArray, List.getElem_cons_zero, List.getElem_cons_succ]
  refine AnyX.first (i := 3) (v := undef) (by kernel_rfl) (by kernel_rfl) rfl (by kernel_rfl) (by kernel_rfl) (by kernel_rfl) (fun _ _ _ h => h) ⟨fun _ => rfl, Or.inr ⟨by rfl, rfl⟩⟩ hH ?_
  simp only [Act.put, List.setIfInBounds_toArray, List.set_cons_zero, List.set_cons_succ, List.getElem_toArray, List.getElem_cons_zero, List.getElem_cons_succ]
  refine AnyX.first (i := 4) (v := undef) (by kernel_rfl) (by kernel_rfl) rfl (by kernel_rfl) (by kernel_rfl) (by kernel_rfl) (fun _ _ _ h => h) ⟨fun _ => rfl, Or.inr ⟨by rfl, rfl⟩⟩ hH ?_
  simp only [Act.put, List.setIfInBounds_toArray, List.set_cons_zero, List.set_cons_succ, List.getElem_toArray, List.getElem_cons_zero, List.getElem_cons_succ]
  refine AnyX.first (i := 6) (v := undef) (by kernel_rfl) (by kernel_rfl) rfl (by kernel_rfl) (by kernel_rfl) (by kernel_rfl) (fun _ _ _ h => h) ⟨fun _ => rfl, Or.inr ⟨by rfl, rfl⟩⟩ hH ?_
  simp only [Act.put, List.setIfInBounds_toArray, List.set_cons_zero, List.set_cons_succ, List.getElem_toArray, List.getElem_cons_zero, List.getElem_cons_succ]
  refine AnyX.one (i := 5) (by kernel_rfl) rfl (fun K hK => ?_)
  replace hK := Lib.hid hK
  go_simp
  refine ⟨trivial, ?_⟩
  refine hK.out _ _ ⟨.inr hH, ?_⟩
  clear hK K
  refine AnyX.one (i := 7) (by kernel_rfl) rfl (fun K hK => ?_)
  replace hK := Lib.hid hK
  go_simp
  refine ⟨trivial, ?_⟩
  refine hK.out _ _ ⟨.inr hH, ?_⟩
  clear hK K
  refine AnyX.first (i := 8) (v := undef) (by kernel_rfl) (by kernel_rfl) rfl (by kernel_rfl) (by kernel_rfl) (by kernel_rfl) (fun _ _ _ h => h) ⟨fun _ => rfl, Or.inr ⟨by rfl, rfl⟩⟩ hH ?_
  simp only [Act.put, List.setIfInBounds_toArray, List.set_cons_zero, List.set_cons_succ, List.getElem_toArray, List.getElem_cons_zero, List.getElem_cons_succ]
  refine AnyX.first (i := 9) (v := undef) (by kernel_rfl) (by kernel_rfl) rfl (by kernel_rfl) (by kernel_rfl) (by kernel_rfl) (fun _ _ _ h => h) ⟨fun _ => rfl, Or.inr ⟨by rfl, rfl⟩⟩ hH ?_
  simp only [Act.put, List.setIfInBounds_toArray, List.set_cons_zero, List.set_cons_succ, List.getElem_toArray, List.getElem_cons_zero, List.getElem_cons_succ]
  refine AnyX.first (i := 10) (v := undef) (by kernel_rfl) (by kernel_rfl) rfl (by kernel_rfl) (by kernel_rfl) (by kernel_rfl) (fun _ _ _ h => h) ⟨fun _ => rfl, Or.inr ⟨by rfl, rfl⟩⟩ hH ?_
  simp only [Act.put, List.setIfInBounds_toArray, List.set_cons_zero, List.set_cons_succ, List.getElem_toArray, List.getElem_cons_zero, List.getElem_cons_succ]
  refine AnyX.first (i := 11) (v := undef) (by kernel_rfl) (by kernel_rfl) rfl (by kernel_rfl) (by kernel_rfl) (by kernel_rfl) (fun _ _ _ h => h) ⟨fun _ => rfl, Or.inr ⟨by rfl, rfl⟩⟩ hH ?_
  simp only [Act.put, List.setIfInBounds_toArray, List.set_cons_zero, List.set_cons_succ, List.getElem_toArray, List.getElem_cons_zero, List.getElem_cons_succ]
  refine AnyX.first (i := 12) (v := undef) (by kernel_rfl) (by kernel_rfl) rfl (by kernel_rfl) (by kernel_rfl) (by kernel_rfl) (fun _ _ _ h => h) ⟨fun _ => rfl, Or.inr ⟨by rfl, rfl⟩⟩ hH ?_
  simp only [Act.put, List.setIfInBounds_toArray, List.set_cons_zero, List.set_cons_succ, List.getElem_toArray, List.getElem_cons_zero, List.getElem_cons_succ]
  refine AnyX.first (i := 13) (v := undef) (by kernel_rfl) (by kernel_rfl) rfl (by kernel_rfl) (by kernel_rfl) (by kernel_rfl) (fun _ _ _ h => h) ⟨fun _ => rfl, Or.inr ⟨by rfl, rfl⟩⟩ hH ?_
  simp only [Act.put, List.setIfInBounds_toArray, List.set_cons_zero, List.set_cons_succ, List.getElem_toArray, List.getElem_cons_zero, List.getElem_cons_succ]
  refine AnyX.first (i := 14) (v := undef) (by kernel_rfl) (by kernel_rfl) rfl (by kernel_rfl) (by kernel_rfl) (by kernel_rfl) (fun _ _ _ h => h) ⟨fun _ => rfl, Or.inr ⟨by rfl, rfl⟩⟩ hH ?_
  simp only [Act.put, List.setIfInBounds_toArray, List.set_cons_zero, List.set_cons_succ, List.getElem_toArray, List.getElem_cons_zero, List.getElem_cons_succ]
  refine AnyX.first (i := 15) (v := undef) (by kernel_rfl) (by kernel_rfl) rfl (by kernel_rfl) (by kernel_rfl) (by kernel_rfl) (fun _ _ _ h => h) ⟨fun _ => rfl, Or.inr ⟨by rfl, rfl⟩⟩ hH ?_
  simp only [Act.put, List.setIfInBounds_toArray, List.set_cons_zero, List.set_cons_succ, List.getElem_toArray, List.getElem_cons_zero, List.getElem_cons_succ]
  refine AnyX.first (i := 16) (v := undef) (by kernel_rfl) (by kernel_rfl) rfl (by kernel_rfl) (by kernel_rfl) (by kernel_rfl) (fun _ _ _ h => h) ⟨fun _ => rfl, Or.inr ⟨by rfl, rfl⟩⟩ hH ?_
  simp only [Act.put, List.setIfInBounds_toArray, List.set_cons_zero, List.set_cons_succ, List.getElem_toArray, List.getElem_cons_zero, List.getElem_cons_succ]
  refine AnyX.first (i := 18) (v := undef) (by kernel_rfl) (by kernel_rfl) rfl (by kernel_rfl) (by kernel_rfl) (by kernel_rfl) (fun _ _ _ h => h) ⟨fun _ => rfl, Or.inr ⟨by rfl, rfl⟩⟩ hH ?_
  simp only [Act.put, List.setIfInBounds_toArray, List.set_cons_zero, List.set_cons_succ, List.getElem_toArray, List.getElem_cons_zero, List.getElem_cons_succ]
  refine AnyX.one (i := 17) (by kernel_rfl) rfl (fun K hK => ?_)
  replace hK := Lib.hid hK
  go_simp
  refine ⟨trivial, ?_⟩
  refine hK.out _ _ ⟨.inr hH, ?_⟩
  clear hK K
  refine AnyX.one (i := 19) (by kernel_rfl) rfl (fun K hK => ?_)
  replace hK := Lib.hid hK
  go_simp
  refine ⟨trivial, ?_⟩
  refine hK.out _ _ ⟨.inr hH, ?_⟩
  clear hK K
  refine AnyX.first (i := 20) (v := undef) (by kernel_rfl) (by kernel_rfl) rfl (by kernel_rfl) (by kernel_rfl) (by kernel_rfl) (fun _ _ _ h => h) ⟨fun _ => rfl, Or.inr ⟨by rfl, rfl⟩⟩ hH ?_
  simp only [Act.put, List.setIfInBounds_toArray, List.set_cons_zero, List.set_cons_succ, List.getElem_toArray, List.getElem_cons_zero, List.getElem_cons_succ]
  refine AnyX.first (i := 21) (v := ?_) (by kernel_rfl) (by kernel_rfl) rfl (by kernel_rfl) (by kernel_rfl) (by kernel_rfl) (fun _ _ _ h => h) ⟨fun _ => rfl, Or.inl ⟨by rfl, ?_⟩⟩ hH ?_
  rotate_left
  · intro W' hS
    go_simp
    with_reducible rfl
  simp only [Act.put, List.setIfInBounds_toArray, List.set_cons_zero, List.set_cons_succ, List.getElem_toArray, List.getElem_cons_zero, List.getElem_cons_succ]
  refine AnyX.first (i := 22) (v := ?_) (by kernel_rfl) (by kernel_rfl) rfl (by kernel_rfl) (by kernel_rfl) (by kernel_rfl) (fun _ _ _ h => h) ⟨fun _ => rfl, Or.inl ⟨by rfl, ?_⟩⟩ hH ?_
  rotate_left
  · intro W' hS
    go_simp
    with_reducible rfl
  simp only [Act.put, List.setIfInBounds_toArray, List.set_cons_zero, List.set_cons_succ, List.getElem_toArray, List.getElem_cons_zero, List.getElem_cons_succ]
  refine AnyX.done (by kernel_rfl) ?_ _
  have HF := Lib.hid hH
  clear hH
  gi_wp2
  exact bodyPost_ret (v := .bool true) (by simp [results, Tryz.results95, go_sem]) rfl ⟨rfl, HF.out⟩
theorem vvisit11 (R : Rounds11 n0 b most M0 root lp J Jx xs) (hz : M0 0 = none) {i : Nat} {l : List Pr} (hT : TT M0 i l) : ∀ (s : Nat) (lo hi : Option Addr) (n : Nat) (A : World), s ≤ 1 → LimL A lo l → LimH A hi l → SafeL n0 b most A lo → SafeL n0 b most A hi → (i ≠ 0 → ∀ M, Pres M0 M root → Pres M0 M i) → Okay b most M0 root A → n0 ≤ A.heap.size → (∀ j p, l[j]? = some p → xs[n + j]? = some p) → n + l.length ≤ xs.length → J n A →
    Calls Tryz.prog 95 #[land b bh, plagg i lo hi s, .func (.yield lp) #[] #[]] A (Vis11 n0 b most M0 root J Jx xs (n + l.length) A) := by
  induction hT with
  | nil =>
    intro s lo hi n A hs hlo hhi _ _ _ ok h0 hxs hlen hJ
    obtain ⟨M, F, hA, _⟩ := ok
    refine (vvisit_no11 (bh := bh) lp s lo hi A hA hs hlo hhi).mono ?_
    rintro e B ⟨rfl, hb⟩
    exact .inl ⟨rfl, R.keep _ _ _ hJ hb, K11.below hb⟩
  | @node i r x y c k v lx ly hn hx hy hsr ihx ihy =>
    intro s lo hi n A hs hlo hhi hsl hsh hsub ok h0 hxs hlen hJ
    obtain ⟨M, F, hA, hPr⟩ := id ok
    have hpi := hsub hn.ne M hPr
    obtain ⟨r', hni⟩ := hn.pres hpi
    have htM : TT M i (lx ++ (k, v) :: ly) := (TT.node hn hx hy hsr).pres (fun _ => hpi)
    have hs1 := List.pairwise_append.1 hsr
    have hs2 := List.pairwise_cons.1 hs1.2.1
    rw [show n + (lx ++ (k, v) :: ly).length = (n + lx.length + 1) + ly.length by rw [List.length_append, List.length_cons]; omega]
    rw [List.length_append, List.length_cons] at hlen
    refine vvisit_cell11 R i s n (n + lx.length) _ x y lo hi lx ly (k, v) A (fun W hW => ?_) hlo hhi ⟨hsl, hsh⟩ ⟨fun q hq => h0_klt.1 (hs1.2.2 q hq (k, v) (List.mem_cons_self ..)), fun q hq => h0_klt.1 (hs2.1 q hq)⟩ (fun lo' hi' s' B h1 h2 h3 h4 h5 h6 h7 h8 => ?_) ?_ (fun lo' hi' s' B h1 h2 h3 h4 h5 h6 h7 h8 => ?_) ok h0 hJ (by omega)
    · refine (tread (bh := bh) i s lo hi W (hA.below hW) hA.zero ⟨htM, hlo.below hW, hhi.below hW, hs⟩).mono ?_
      rintro e W' ⟨nd, ok', rfl, hrp, hb⟩
      rcases hrp with ⟨_, hi0, _⟩ | ⟨rfl, hc, hsd, h1, h2, la, lb, hnd⟩
      · exact absurd hi0 hn.ne
      · obtain ⟨c', r2, hcn⟩ := hnd.node
        rw [hc] at hcn
        have e := hni.cell.symm.trans hcn.cell
        simp only [Option.some.injEq, Prod.mk.injEq] at e
        obtain ⟨rfl, rfl⟩ := e
        have ev := hni.vals.symm.trans hcn.vals
        have ek := hni.kids.symm.trans hcn.kids
        simp only [List.cons.injEq, and_true] at ev ek
        exact ⟨nd, rfl, ⟨ev.1.symm, ev.2.symm, h1, h2, ek.1.symm, ek.2.symm, hnd.fresh⟩, hb⟩
    · exact ihx s' lo' hi' n B h1 h2 h3 h4 h5 (fun hx0 M1 hM1 => hn.presx (hsub hn.ne M1 hM1) hx0) h6 h7 (fun j p e => hxs j p (by rw [List.getElem?_append_left (List.getElem?_eq_some_iff.1 e).1]; exact e)) (by omega) h8
    · exact hxs lx.length (k, v) (by rw [List.getElem?_append_right (Nat.le_refl _)]; simp)
    · refine ihy s' lo' hi' (n + lx.length + 1) B h1 h2 h3 h4 h5 (fun hy0 M1 hM1 => hn.presy (hsub hn.ne M1 hM1) hy0) h6 h7 (fun j p e => ?_) (by omega) h8
      rw [show n + lx.length + 1 + j = n + (lx.length + (j + 1)) by omega]
      apply hxs
      rw [List.getElem?_append_right (by omega), Nat.add_sub_cancel_left, List.getElem?_cons_succ]
      exact e
end
abbrev seqt (zl zm : Nat) : Value := .func (.func 94) #[] #[.pointer (some ⟨zl, 0, none⟩), .pointer (some ⟨zm, 0, none⟩)]
section
variable {b bh most root N : Nat} {M0 : Cells} {l : List Pr}
theorem tPairs (b bh N root : Nat) (w : World) :
    Calls Tryz.prog 47 #[land b bh, .agg #[.int .i64 (N : Nat), .int .i64 (root : Nat)]] w fun e w' => ∃ zl zm, e = .returned (seqt zl zm) ∧ C2 w' zl 26 (ap b) (.pointer (some ⟨bh, 0, none⟩)) ∧ C2 w' zm 72 (.int .i64 (N : Int)) (.int .i64 (root : Int)) ∧ w.heap.size ≤ zl ∧ w.heap.size ≤ zm ∧ Below w.heap.size w w' := by
  have hb : Below w.heap.size w ((w.alloc (.cells #[ap b, .pointer (some ⟨bh, 0, none⟩)] 26)).alloc (.cells #[.int .i64 (N : Int), .int .i64 (root : Int)] 72)) := ((Below.refl _ w).alloc (Nat.le_refl _) _).alloc (by simp) _
  have e1 : (w.alloc (.cells #[ap b, .pointer (some ⟨bh, 0, none⟩)] 26)).heap.size = w.heap.size + 1 := by simp
  have q1 := (C2.new w 26 (ap b) (.pointer (some ⟨bh, 0, none⟩))).alloc (.cells #[.int .i64 (N : Int), .int .i64 (root : Int)] 72)
  have q2 := C2.new (w.alloc (.cells #[ap b, .pointer (some ⟨bh, 0, none⟩)] 26)) 72 (.int .i64 (N : Int)) (.int .i64 (root : Int))
  rw [e1] at q2
  have HX := Lib.hid (And.intro q1 (And.intro q2 (And.intro (Nat.le_refl w.heap.size) (And.intro (Nat.le_succ w.heap.size) hb))))
  clear hb e1 q1 q2
  go_enter Tryz.func47, Tryz.ntmps47
  go_wp2_with fail
  exact bodyPost_ret (v := seqt w.heap.size (w.heap.size + 1)) (by simp [results, Tryz.results47, go_sem]) rfl ⟨_, _, rfl, HX.out⟩
set_option maxHeartbeats 1600000 in
theorem pairs_gives11 (zl zm : Nat) (w : World) (hz : M0 0 = none) (hT : TT M0 root l) (ok : Okay b most M0 root w) (q1 : C2 w zl 26 (ap b) (.pointer (some ⟨bh, 0, none⟩))) (q2 : C2 w zm 72 (.int .i64 (N : Int)) (.int .i64 (root : Int))) :
    Gives8 Tryz.prog 94 (fun v => #[] ++ #[v] ++ #[.pointer (some ⟨zl, 0, none⟩), .pointer (some ⟨zm, 0, none⟩)]) (fun p : Pr => #[pagg p]) (K11 w.heap.size b most M0 root) l w := by
  intro lp J Jx W hW hJ hJx hY h0
  have R : Rounds11 w.heap.size b most M0 root lp J Jx l := ⟨hJ, hY⟩
  have hnil : ∀ W : World, Sem.run Tryz.prog (binOp .neq 127 (.func (.yield lp) #[] #[]) .nilFunc) W = .ok (.bool true) W := fun _ => by kernel_rfl
  have HV : Hid (Calls Tryz.prog 95 #[land b bh, plagg root none none 0, .func (.yield lp) #[] #[]] W fun e B => (∃ v, e = .returned v) ∧ (J l.length B ∨ ∃ i, i ≤ l.length ∧ Jx i B)) := Lib.hid (by
    refine (vvisit11 R hz hT 0 none none 0 W (by omega) (.inl rfl) (.inl rfl) (fun a e => by cases e) (fun a e => by cases e) (fun _ M h => h) (ok.below hW) hW.size (fun j p e => by rw [Nat.zero_add]; exact e) (by omega) h0).mono ?_
    rintro e B (⟨rfl, h1, _⟩ | ⟨rfl, _, h1⟩)
    · rw [Nat.zero_add] at h1
      exact ⟨⟨_, rfl⟩, .inl h1⟩
    · exact ⟨⟨_, rfl⟩, .inr h1⟩)
  have x0 := (q1.below hW).c0
  have x1 := (q1.below hW).c1
  have y1 := (q2.below hW).c1
  clear hz hT ok q1 q2 hJ hJx hY h0 R
  refine (callsIn_wide (n := 1)).1 ?_
  refine callsIn_of_wp Tryz.func94 rfl trivial ?_ rfl
  simp only [Tryz.ntmps94, List.size_toArray, List.length_cons, List.length_nil, Nat.reduceAdd, Nat.reduceSub, Array.replicate_succ, Array.replicate_zero, List.push_toArray, List.append_toArray, List.nil_append, List.cons_append]
  gi_wp2
  refine ⟨trivial, (callsIn_wide.2 HV.out).mono ?_⟩
  rintro e w' ⟨⟨v, rfl⟩, h1⟩
  have H1 := Lib.hid h1
  clear h1 x0 x1 y1
  gi_wp2
  go_end0
  exact ⟨⟨_, rfl⟩, H1.out⟩
end
end Go.Proofs.YtkkfhbcnfknmaaaGreat

namespace Go.Proofs.YtkkfhbcnfknmaaaGreat
open Go Go.RowKit
theorem wpListIn_append_rd {F : Fence} {n' : Nat} {P : Program} {ops : Array Oper} {rest : List Oper} {o : Oper} {a : Act} {Q : Exit → Act → World → Prop} {w : World} (hfn : ∀ f, F.fn f) (hgd : o.guard = none) (s x : Operand) (t : TypeId)
    (ho : o.op = .call { callee := .builtin .append, args := #[s, x], argTypes := #[t, t] })
    (B : Nat) (e : TypeId) (i : TypeInfo) (z : Value) (size bytes : Nat) (ht : P.underlying t = some (.slice e)) (hi : P.info? e = some i) (hz : i.zero = some z) (hsize : i.size = size) (hby : i.bytes = bytes) (hzs : z.cells.size = size) (hsz : 0 < size)
    (v : Value) (n : Nat) (xs : List Value) (hs : a.eval s = v) (hown : w.ownsRow B e size v n xs) (y : Value) (m : Nat) (ys : List Value) (hx : a.eval x = y) (hy : Rd w y m ys) (hl : ys.length = m * size) (h1 : ∀ u ∈ ys, u.oneCell' = true)
    (h63 : n + m ≤ maxLen) (hbytes : (n + m) * bytes ≤ 140737488355328) (hB : B ≤ w.heap.size)
    (h : ∀ v' w', w'.ownsRow B e size v' (n + m) (xs ++ ys) → w.grownBy w' v.ownBlock → (v'.ownBlock = v.ownBlock ∨ v'.ownBlock = some w.heap.size) → wpListIn F n' P ops Q rest (a.put o.dst v') w') : wpListIn F n' P ops Q (o :: rest) a w :=
  wpListIn_plain hgd fun K hK => by
    have h2 := stepX_append_rd (F := F) (n := n') (P := P) (ops := ops) (Q := Q) (K := K) (E := False) hfn hgd s x t ho B e i z size bytes ht hi hz hsize hby hzs hsz v n xs hs hown y m ys hx hy hl h1 h63 hbytes hB fun v' w' h2 h3 h4 => hK _ _ (h v' w' h2 h3 h4)
    rwa [if_pos (by simp [Region.wanted, hgd])] at h2
end Go.Proofs.YtkkfhbcnfknmaaaGreat

namespace Go.Proofs.YtkkfhbcnfknmaaaGreat
set_option maxRecDepth 100000
set_option linter.unusedSimpArgs false
set_option linter.unusedVariables false
open Go.RowKit Go.Shelf
attribute [local go_sem] Oper.semAt_some
structure GC (w : World) (n5 zg : Nat) (acc : List Pr) (vg : Value) (W : World) : Prop where
  gb : C1 W zg 45 vg
  own : W.ownsRow n5 48 6 vg acc.length (acc.flatMap pcells)
  zs : w.heap.size ≤ zg ∧ zg < n5 ∧ n5 ≤ W.heap.size
  bel : Below w.heap.size w W
section
variable {w W W' : World} {n5 zg b most : Nat} {acc : List Pr} {vg : Value}
theorem GC.kp {G : Nat → Prop} (h : GC w n5 zg acc vg W) (hk : Kp G W W') (hG : ∀ q, G q → w.heap.size ≤ q ∧ q ≠ zg ∧ vg.ownBlock ≠ some q) : GC w n5 zg acc vg W' := by
  obtain ⟨s1, s2, s3⟩ := h.zs
  have := hk.size
  exact ⟨h.gb.kp hk (fun hg => (hG _ hg).2.1 rfl), hk.own h.own (fun q hq hg => (hG q hg).2.2 hq), ⟨s1, s2, by omega⟩, below_kp h.bel hk (fun q hg => (hG q hg).1)⟩
theorem GC.below (h : GC w n5 zg acc vg W) (hb : Below W.heap.size W W') : GC w n5 zg acc vg W' := h.kp (Kp.of_below hb (fun _ => False)) (fun _ h => h.elim)
theorem GC.grown {row : Option Nat} (h : GC w n5 zg acc vg W) (hg : W.grownBy W' row) (hr : ∀ r, row = some r → n5 ≤ r ∧ ∃ o : Obj, W.heap[r]? = some o ∧ o.isCells = false) : GC w n5 zg acc vg W' := by
  obtain ⟨s1, s2, s3⟩ := h.zs
  refine h.kp (Kp.of_grown hg (F := fun q => row = some q) (fun q e => .inl e)) (fun q e => ?_)
  obtain ⟨h1, o, h2, h3⟩ := hr q e
  refine ⟨by omega, by omega, fun hv => ?_⟩
  obtain ⟨cur, hc⟩ := own_type h.own q hv
  rw [h2] at hc
  obtain rfl := Option.some.inj hc
  cases h3
theorem GC.next {v' : Value} {p : Pr} {W2 W3 : World} (h : GC w n5 zg acc vg W) (hb : Below W.heap.size W W2) (ho : W3.ownsRow n5 48 6 v' (acc.length + 1) (acc.flatMap pcells ++ pcells p)) (hg : W2.grownBy W3 vg.ownBlock) :
    GC w n5 zg (acc ++ [p]) v' (W3.setCell ⟨zg, 0, none⟩ v') ∧ Kp (fun q => q = zg ∨ vg.ownBlock = some q) W (W3.setCell ⟨zg, 0, none⟩ v') := by
  obtain ⟨s1, s2, s3⟩ := h.zs
  have hs2 := hb.size
  have hs3 := (Kp.of_grown hg (F := fun q => vg.ownBlock = some q) (fun q e => .inl e)).size
  have k2 : Kp (fun q => vg.ownBlock = some q) W W3 := (Kp.of_below hb _).trans (Kp.of_grown hg (fun q e => .inl e)) (fun q e => .inl e)
  have kz : Kp (fun q => q = zg) W3 (W3.setCell ⟨zg, 0, none⟩ v') := Kp.one W3 zg 0 v'
  have hblk : ∀ q, vg.ownBlock = some q → n5 ≤ q := fun q hq => (own_blk h.own q hq).1
  have hv' : ∀ q, v'.ownBlock = some q → n5 ≤ q := fun q hq => (own_blk ho q hq).1
  have kk : Kp (fun q => q = zg ∨ vg.ownBlock = some q) W (W3.setCell ⟨zg, 0, none⟩ v') := (k2.mono (fun q h _ => .inr h)).trans kz (fun q h => .inl (.inl h))
  refine ⟨⟨(h.gb.kp k2 (fun e => by have := hblk _ e; omega)).set _, ?_, ⟨s1, s2, by simp; omega⟩, below_kp h.bel kk (fun q hq => hq.elim (fun e => by omega) (fun e => by have := hblk _ e; omega))⟩, kk⟩
  rw [List.length_append, List.flatMap_append]
  refine kz.own (by simpa using ho) (fun q hq e => ?_)
  have := hv' q hq
  omega
theorem GC.kv {n root : Nat} {M0 M : Cells} {F : Nat → Prop} (h : GC w n5 zg acc vg W) (ha : Ar W b most M F) (hF : ∀ q, F q → q < w.heap.size) (hn5 : n5 ≤ n) (hk : Kp (fun q => q = zg ∨ vg.ownBlock = some q) W W') : K11 n b most M0 root W W' ∧ KeepsOthers W W' := by
  obtain ⟨s1, s2, s3⟩ := h.zs
  refine ⟨K11.of_kp ha hk (fun q hq hf => ?_) (fun q cur t hq hn hc => ?_), KeepsOthers.of_kp hk (fun q o hq ho => ?_)⟩
  · have := hF q hf
    rcases hq with rfl | hq
    · omega
    · have := (own_blk h.own q hq).1; omega
  · rcases hq with rfl | hq
    · omega
    · obtain ⟨cur', hc'⟩ := own_type h.own q hq
      rw [hc] at hc'
      simp only [Option.some.injEq, Obj.cells.injEq] at hc'
      rw [hc'.2.1]
      unfold Vt11
      decide
  · rcases hq with rfl | hq
    · have h1 : W.heap[q]? = some _ := h.gb
      rw [ho] at h1
      rw [Option.some.inj h1]
      rfl
    · obtain ⟨cur', hc'⟩ := own_type h.own q hq
      rw [ho] at hc'
      rw [Option.some.inj hc']
      rfl
end
theorem pinfo11 : (Tryz.prog.info? 48).map (fun i => (i.zero, i.size, i.bytes)) = some (some (.agg #[.int .u8 0, .int .i64 0, .string ⟨#[]⟩, .int .u8 0, .int .i64 0, .string ⟨#[]⟩]), 6, 64) := by kernel_rfl
section
variable {b bh most root N : Nat} {M : Cells} {F : Nat → Prop} {l : List Pr}
end
end Go.Proofs.YtkkfhbcnfknmaaaGreat

namespace Go.Proofs.YtkkfhbcnfknmaaaGreat
set_option maxRecDepth 100000
set_option linter.unusedSimpArgs false
set_option linter.unusedVariables false
open Go.RowKit Go.Shelf
def Own11 (w : World) (F : Nat → Prop) (z1 bh z : Nat) : Prop := w.heap.size ≤ z ∧ ¬ F z ∧ ¬ z1 = z ∧ ¬ z = bh
theorem LS.fresh11 {w W : World} {b bh seed most z1 : Nat} {M : Cells} {F : Nat → Prop} (h : LS w b bh seed most z1 M F W) : Own11 w F z1 bh W.heap.size :=
  ⟨h.bel.size, fun hf => absurd (h.ar.lt hf) (Nat.lt_irrefl _), fun e => absurd h.lb.lt (by rw [e]; exact Nat.lt_irrefl _), fun e => absurd h.hh.lt (by rw [← e]; exact Nat.lt_irrefl _)⟩
theorem put11 {b bh z1 most : Nat} {M : Cells} {P : Nat → Nat} {F : Nat → Prop} {w : World} (seed root : Nat) (ow : Int) (k v : Ky) (l : List Pr) (hm : most ≤ 1048576) (hk : OkK k) (hb : Bk (most + 1) M [] P [root]) (hP : ∀ j, P j ≤ 1000000) (hT : TT M root l) (hl : l.length ≤ 900) (hroom : live (most + 1) M + (l.length + 1) ≤ most) (W : World) (h : LS w b bh seed most z1 M F W) :
    Calls Tryz.prog 41 #[land b bh, .agg #[.int .i64 (l.length : Nat), .int .i64 (root : Nat)], xagg k, xagg v, .int .u32 ow] W fun e W' => ∃ (n : Nat) (M' : Cells) (F' : Nat → Prop), e = .returned (.tuple #[.agg #[.int .i64 ((putL h0 (k, v) l).length : Nat), .int .i64 (n : Nat)], .int .i64 0]) ∧ LS w b bh seed most z1 M' F' W' ∧ TRes most M P root ow (putL h0 (k, v) l) (l.length + 1) n M' ∧ (∀ q, q < W.heap.size → ¬ F q → ¬ F' q) ∧ Kp (fun q => F q ∨ q = bh) W W' := by
  refine (tPut b bh seed root k v ow l P W h.ar hm hb (fun j => by have := hP j; omega) hT h.hh h.nb hk hl (.inr hroom)).mono ?_
  rintro e W' ⟨N, n, er, rfl, hR⟩
  rcases hR with ⟨m, M', rfl, rfl, rfl, hT', hS⟩ | ⟨_, _, _, _, h5, _⟩
  · exact ⟨m, M', _, rfl, h.put hS, hT', fun q hq hf hf2 => hf2.elim hf (fun e => by omega), hS.kp⟩
  · omega
section
end
end Go.Proofs.YtkkfhbcnfknmaaaGreat

namespace Go.Proofs.YtkkfhbcnfknmaaaGreat
set_option maxRecDepth 100000
set_option linter.unusedSimpArgs false
set_option linter.unusedVariables false
open Go.RowKit Go.Shelf
attribute [local go_sem] Oper.semAt_some
theorem vcompare (a c : Ky) (w : World) : Calls Tryz.prog 98 #[xagg a, xagg c] w fun e w' => e = .returned (.int .i64 (vc a c)) ∧ Below w.heap.size w w' := by
  refine (compare a.1 a.2.1 a.2.2 c.1 c.2.1 c.2.2 w).mono ?_
  rintro e w' ⟨rfl, gw⟩
  exact ⟨rfl, gw.below.mono (Nat.le_refl _)⟩
def ctB (k : Ky) (l : List Pr) : Nat := (l.takeWhile (fun p => decide (vc p.1 k < 0))).length
def LtB (k : Ky) (l : List Pr) (i : Nat) : Prop := ∀ j p, l[j]? = some p → j < i → vc p.1 k < 0
def GeB (k : Ky) (l : List Pr) (i : Nat) : Prop := ∀ p, l[i]? = some p → ¬ vc p.1 k < 0
theorem ctB_of {k : Ky} : ∀ {l : List Pr} {m : Nat}, m ≤ l.length → (∀ j p, l[j]? = some p → j < m → vc p.1 k < 0) → (∀ p, l[m]? = some p → ¬ vc p.1 k < 0) → ctB k l = m
  | [], m, hm, _, _ => by
    simp only [List.length_nil, Nat.le_zero_eq] at hm
    rw [hm]
    rfl
  | x :: l, 0, _, _, h => by
    have := h x rfl
    unfold ctB
    rw [List.takeWhile_cons, if_neg (by simpa using this)]
    rfl
  | x :: l, m + 1, hm, h1, h2 => by
    have h0 := h1 0 x rfl (by omega)
    have ih := ctB_of (k := k) (l := l) (m := m) (by simpa using hm) (fun j p e hj => h1 (j + 1) p (by simpa using e) (by omega)) (fun p e => h2 p (by simpa using e))
    unfold ctB at ih ⊢
    rw [List.takeWhile_cons, if_pos (by simpa using h0), List.length_cons, ih]
structure BI (w : World) (n5 zk zn : Nat) (k : Ky) (i : Nat) (W : World) : Prop where
  key : C3 W zk 36 (.int .u8 k.1) (.int .i64 k.2.1) (.string k.2.2)
  cnt : C1 W zn 3 (.int .i64 (i : Nat))
  zs : w.heap.size ≤ zk ∧ w.heap.size ≤ zn ∧ zk < n5 ∧ zn < n5 ∧ zk ≠ zn ∧ n5 ≤ W.heap.size
  bel : Below w.heap.size w W
section
variable {w W W' : World} {n5 zk zn i : Nat} {k : Ky}
theorem BI.below (h : BI w n5 zk zn k i W) (hb : Below W.heap.size W W') : BI w n5 zk zn k i W' := by
  obtain ⟨s1, s2, s3, s4, s5, s6⟩ := h.zs
  have := hb.size
  exact ⟨h.key.below hb, h.cnt.below hb, ⟨s1, s2, s3, s4, s5, by omega⟩, h.bel.trans (hb.mono h.bel.size)⟩
theorem BI.grown {row : Option Nat} (h : BI w n5 zk zn k i W) (hg : W.grownBy W' row) (hr : ∀ r, row = some r → n5 ≤ r ∧ ∃ o : Obj, W.heap[r]? = some o ∧ o.isCells = false) : BI w n5 zk zn k i W' := by
  obtain ⟨s1, s2, s3, s4, s5, s6⟩ := h.zs
  have hk : Kp (fun q => row = some q) W W' := Kp.of_grown hg (fun q e => .inl e)
  have hl : ∀ q, row = some q → n5 ≤ q := fun q e => (hr q e).1
  have := hk.size
  exact ⟨h.key.kp hk (fun e => by have := hl _ e; omega), h.cnt.kp hk (fun e => by have := hl _ e; omega), ⟨s1, s2, s3, s4, s5, by omega⟩, below_kp h.bel hk (fun q e => by have := hl q e; omega)⟩
theorem BI.set {b most n root : Nat} {M0 M : Cells} {F : Nat → Prop} (h : BI w n5 zk zn k i W) (ha : Ar W b most M F) (hF : ∀ q, F q → q < w.heap.size) (hn5 : n5 ≤ n) (j : Nat) : BI w n5 zk zn k j (W.setCell ⟨zn, 0, none⟩ (.int .i64 (j : Nat))) ∧ K11 n b most M0 root W (W.setCell ⟨zn, 0, none⟩ (.int .i64 (j : Nat))) := by
  obtain ⟨s1, s2, s3, s4, s5, s6⟩ := h.zs
  have kz := Kp.one W zn 0 (.int .i64 (j : Nat))
  exact ⟨⟨h.key.kp kz s5, h.cnt.set _, ⟨s1, s2, s3, s4, s5, by simp; omega⟩, below_kp h.bel kz (fun q e => by omega)⟩, K11.of_kp ha kz (fun q e hf => by have := hF q hf; omega) (fun q cur t e hn _ => by omega)⟩
end
section
variable {b bh most root N : Nat} {M : Cells} {F : Nat → Prop} {l : List Pr}
end
end Go.Proofs.YtkkfhbcnfknmaaaGreat
