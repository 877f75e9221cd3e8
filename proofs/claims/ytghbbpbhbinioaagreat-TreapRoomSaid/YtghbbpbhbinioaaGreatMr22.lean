/- Several texts in one. -/
import Derived.Test.YtghbbpbhbinioaaGreatMr21
import Derived.Test.YtghbbpbhbinioaaGreatMr09
import Derived.TacticsIn
import Derived.RangeFuncLeaves
namespace Go.Proofs.YtghbbpbhbinioaaGreat
set_option maxRecDepth 100000
set_option linter.unusedSimpArgs false
set_option linter.unusedVariables false
open Go.RowKit Go.Shelf
attribute [local go_sem] Oper.semAt_some
section
variable {n0 b bh most root lp : Nat} {M0 : Cells} {J Jx : Nat → World → Prop} {xs : List Pr}
set_option maxHeartbeats 4000000 in
theorem vvisit_no11 (lp s : Nat) (lo hi : Option Addr) (A : World) {M : Cells} {F : Nat → Prop} (h : Ar A b most M F) (hs : s ≤ 1) (hlo : LimL A lo []) (hhi : LimH A hi []) :
    Calls Tryz.prog 82 #[land b bh, plagg 0 lo hi s, .func (.yield lp) #[] #[]] A fun e B => e = .returned (.bool true) ∧ Below A.heap.size A B := by
  have hb : Below A.heap.size A ((A.alloc (.cells #[ap b, .pointer (some ⟨bh, 0, none⟩)] 26)).alloc (.cells (pcell4 0 lo hi s) 141)) := ((Below.refl _ A).alloc (Nat.le_refl _) _).alloc (by simp) _
  have e1 : (A.alloc (.cells #[ap b, .pointer (some ⟨bh, 0, none⟩)] 26)).heap.size = A.heap.size + 1 := by simp
  have q3 := (C2.new A 26 (ap b) (.pointer (some ⟨bh, 0, none⟩))).alloc (.cells (pcell4 0 lo hi s) 141)
  have q4 := BC.new (A.alloc (.cells #[ap b, .pointer (some ⟨bh, 0, none⟩)] 26)) 141 (pcell4 0 lo hi s)
  rw [e1] at q4
  have HRD := Lib.hid (tread (l := []) (bh := bh) 0 s lo hi _ (h.below hb) h.zero ⟨.nil, hlo.below hb, hhi.below hb, hs⟩)
  have HB := Lib.hid hb
  obtain ⟨a0, a1, _⟩ := q3.all
  obtain ⟨p0, p1, p2, p3⟩ := q4.place
  clear hb e1 q3 q4 h hs hlo hhi
  refine (callsIn_wide (n := 1)).1 ?_
  refine callsIn_of_wp Tryz.func82 rfl trivial ?_ rfl
  simp only [Tryz.ntmps82, List.size_toArray, List.length_cons, List.length_nil, Nat.reduceAdd, Nat.reduceSub, Array.replicate_succ, Array.replicate_zero, List.push_toArray, List.append_toArray, List.nil_append, List.cons_append]
  gi_wp2
  refine ⟨trivial, (callsIn_wide.2 HRD.out).mono ?_⟩
  rintro e w2 ⟨nd, ok, rfl, hrp, hb2⟩
  obtain rfl : ok = false := by
    rcases hrp with ⟨e, _⟩ | ⟨_, hc, _, _, _, la, lb, hnd⟩
    · exact e
    · exact absurd hc hnd.node.ne
  have hb3 : Below A.heap.size A (w2.alloc (.cells (ncells nd) 144)) := (HB.out.trans (hb2.mono HB.out.size)).alloc (Nat.le_trans HB.out.size hb2.size) _
  have HV := Lib.hid hb3
  have q9 := BC.new w2 144 (ncells nzero)
  obtain ⟨f0, f1, f2, f3, f4, f5, f6, f7, f8, f9, f10, f11, f12, f13⟩ := q9.fz14
  obtain ⟨c0, c1, c2, c3, c4, c5, c6, c7, c8, c9, c10, c11, c12, c13⟩ := q9.node
  clear q9 hrp hb2 hb3 a0 a1 p0 p1 p2 p3 HRD HB
  simp only at c0 c1 c2 c3 c4 c5 c6 c7 c8 c9 c10 c11 c12 c13
  gi_wp2
  clear f0 f1 f2 f3 f4 f5 f6 f7 f8 f9 f10 f11 f12 f13 c0 c1 c2 c3 c4 c5 c6 c7 c8 c9 c10 c11 c12 c13
  change Code.wpIn _ _ _ _ _ _ (w2.alloc (.cells (ncells nd) 144))
  generalize w2.alloc _ = w3 at HV ⊢
  generalize w2.heap.size = z7 at HV ⊢
  refine anyX_region (S := fun W' => Below A.heap.size A W') (X := []) (by kernel_rfl) ?_
  have hH : Below A.heap.size A w3.drew := HV.out.trans ((Below.refl _ w3).drew.mono HV.out.size)
  generalize w3.drew = W1 at hH ⊢
  clear HV
  refine AnyX.first (i := 0) (v := ?_) (by kernel_rfl) (by kernel_rfl) rfl (by kernel_rfl) (by kernel_rfl) (by kernel_rfl) (fun _ _ _ h => h) ⟨fun _ => rfl, Or.inl ⟨by rfl, ?_⟩⟩ hH ?_
  rotate_left
  · intro W' hS
    go_simp
    with_reducible rfl
  simp only [Act.put, List.setIfInBounds_toArray, List.set_cons_zero, List.set_cons_succ, List.getElem_toArray, List.getElem_cons_zero, List.getElem_cons_succ]
  refine AnyX.first (i := 1) (v := ?_) (by kernel_rfl) (by kernel_rfl) rfl (by kernel_rfl) (by kernel_rfl) (by kernel_rfl) (fun _ _ _ h => h) ⟨fun _ => rfl, Or.inl ⟨by rfl, ?_⟩⟩ hH ?_
  rotate_left
  · intro W' hS
    go_simp
    with_reducible rfl
  simp only [Act.put, List.setIfInBounds_toArray, List.set_cons_zero, List.set_cons_succ, List.getElem_toArray, List.getElem_cons_zero, List.getElem_cons_succ]
  refine AnyX.first (i := 2) (v := ?_) (by kernel_rfl) (by kernel_rfl) rfl (by kernel_rfl) (by kernel_rfl) (by kernel_rfl) (fun _ _ _ h => h) ⟨fun _ => rfl, Or.inl ⟨by rfl, ?_⟩⟩ hH ?_
  rotate_left
  · intro W' hS
    go_simp
    with_reducible rfl
  simp only [Act.put, List.setIfInBounds_toArray, List.set_cons_zero, List.set_cons_succ, List.getElem_toArray, List.getElem_cons_zero, List.getElem_cons_succ]
  refine AnyX.first (i := 3) (v := undef) (by kernel_rfl) (by kernel_rfl) rfl (by kernel_rfl) (by kernel_rfl) (by kernel_rfl) (fun _ _ _ h => h) ⟨fun _ => rfl, Or.inr ⟨by rfl, rfl⟩⟩ hH ?_
  simp only [Act.put, List.setIfInBounds_toArray, List.set_cons_zero, List.set_cons_succ, List.getElem_toArray, List.getElem_cons_zero, List.getElem_cons_succ]
  refine AnyX.first (i := 4) (v := undef) (by kernel_rfl) (by kernel_rfl) rfl (by kernel_rfl) (by kernel_rfl) (by kernel_rfl) (fun _ _ _ h => h) ⟨fun _ => rfl, Or.inr ⟨by rfl, rfl⟩⟩ hH ?_
  simp only [Act.put, List.setIfInBounds_toArray, List.set_cons_zero, List.set_cons_succ, List.getElem_toArray, List.getElem_cons_zero, List.getElem_cons_succ]
  refine AnyX.first (i := 6) (v := undef) (by kernel_rfl) (by kernel_rfl) rfl (by kernel_rfl) (by kernel_rfl) (by kernel_rfl) (fun _ _ _ h => h) ⟨fun _ => rfl, Or.inr ⟨by rfl, rfl⟩⟩ hH ?_
  simp only [Act.put, List.setIfInBounds_toArray, List.set_cons_zero, List.set_cons_succ, List.getElem_toArray, List.getElem_cons_zero, List.getElem_cons_succ]
  refine AnyX.one (i := 5) (by kernel_rfl) rfl (fun K hK => ?_)
  replace hK := Lib.hid hK
  go_simp
  refine ⟨trivial, ?_⟩
  refine hK.out _ _ ⟨.inr hH, ?_⟩
  clear hK K
  refine AnyX.one (i := 7) (by kernel_rfl) rfl (fun K hK => ?_)
  replace hK := Lib.hid hK
  go_simp
  refine ⟨trivial, ?_⟩
  refine hK.out _ _ ⟨.inr hH, ?_⟩
  clear hK K
  refine AnyX.first (i := 8) (v := undef) (by kernel_rfl) (by kernel_rfl) rfl (by kernel_rfl) (by kernel_rfl) (by kernel_rfl) (fun _ _ _ h => h) ⟨fun _ => rfl, Or.inr ⟨by rfl, rfl⟩⟩ hH ?_
  simp only [Act.put, List.setIfInBounds_toArray, List.set_cons_zero, List.set_cons_succ, List.getElem_toArray, List.getElem_cons_zero, List.getElem_cons_succ]
  refine AnyX.first (i := 9) (v := undef) (by kernel_rfl) (by kernel_rfl) rfl (by kernel_rfl) (by kernel_rfl) (by kernel_rfl) (fun _ _ _ h => h) ⟨fun _ => rfl, Or.inr ⟨by rfl, rfl⟩⟩ hH ?_
  simp only [Act.put, List.setIfInBounds_toArray, List.set_cons_zero, List.set_cons_succ, List.getElem_toArray, List.getElem_cons_zero, List.getElem_cons_succ]
  refine AnyX.first (i := 10) (v := undef) (by kernel_rfl) (by kernel_rfl) rfl (by kernel_rfl) (by kernel_rfl) (by kernel_rfl) (fun _ _ _ h => h) ⟨fun _ => rfl, Or.inr ⟨by rfl, rfl⟩⟩ hH ?_
  simp only [Act.put, List.setIfInBounds_toArray, List.set_cons_zero, List.set_cons_succ, List.getElem_toArray, List.getElem_cons_zero, List.getElem_cons_succ]
  refine AnyX.first (i := 11) (v := undef) (by kernel_rfl) (by kernel_rfl) rfl (by kernel_rfl) (by kernel_rfl) (by kernel_rfl) (fun _ _ _ h => h) ⟨fun _ => rfl, Or.inr ⟨by rfl, rfl⟩⟩ hH ?_
  simp only [Act.put, List.setIfInBounds_toArray, List.set_cons_zero, List.set_cons_succ, List.getElem_toArray, List.getElem_cons_zero, List.getElem_cons_succ]
  refine AnyX.first (i := 12) (v := undef) (by kernel_rfl) (by kernel_rfl) rfl (by kernel_rfl) (by kernel_rfl) (by kernel_rfl) (fun _ _ _ h => h) ⟨fun _ => rfl, Or.inr ⟨by rfl, rfl⟩⟩ hH ?_
  simp only [Act.put, List.setIfInBounds_toArray, List.set_cons_zero, List.set_cons_succ, List.getElem_toArray, List.getElem_cons_zero, List.getElem_cons_succ]
  refine AnyX.first (i := 13) (v := undef) (by kernel_rfl) (by kernel_rfl) rfl (by kernel_rfl) (by kernel_rfl) (by kernel_rfl) (fun _ _ _ h => h) ⟨fun _ => rfl, Or.inr ⟨by rfl, rfl⟩⟩ hH ?_
  simp only [Act.put, List.setIfInBounds_toArray, List.set_cons_zero, List.set_cons_succ, List.getElem_toArray, List.getElem_cons_zero, List.getElem_cons_succ]
  refine AnyX.first (i := 14) (v := undef) (by kernel_rfl) (by kernel_rfl) rfl (by kernel_rfl) (by kernel_rfl) (by kernel_rfl) (fun _ _ _ h => h) ⟨fun _ => rfl, Or.inr ⟨by rfl, rfl⟩⟩ hH ?_
  simp only [Act.put, List.setIfInBounds_toArray, List.set_cons_zero, List.set_cons_succ, List.getElem_toArray, List.getElem_cons_zero, List.getElem_cons_succ]
  refine AnyX.first (i := 15) (v := undef) (by kernel_rfl) (by kernel_rfl) rfl (by kernel_rfl) (by kernel_rfl) (by kernel_rfl) (fun _ _ _ h => h) ⟨fun _ => rfl, Or.inr ⟨by rfl, rfl⟩⟩ hH ?_
  simp only [Act.put, List.setIfInBounds_toArray, List.set_cons_zero, List.set_cons_succ, List.getElem_toArray, List.getElem_cons_zero, List.getElem_cons_succ]
  refine AnyX.first (i := 16) (v := undef) (by kernel_rfl) (by kernel_rfl) rfl (by kernel_rfl) (by kernel_rfl) (by kernel_rfl) (fun _ _ _ h => h) ⟨fun _ => rfl, Or.inr ⟨by rfl, rfl⟩⟩ hH ?_
  simp only [Act.put, List.setIfInBounds_toArray, List.set_cons_zero, List.set_cons_succ, List.getElem_toArray, List.getElem_cons_zero, List.getElem_cons_succ]
  refine AnyX.first (i := 18) (v := undef) (by kernel_rfl) (by kernel_rfl) rfl (by kernel_rfl) (by kernel_rfl) (by kernel_rfl) (fun _ _ _ h => h) ⟨fun _ => rfl, Or.inr ⟨by rfl, rfl⟩⟩ hH ?_
  simp only [Act.put, List.setIfInBounds_toArray, List.set_cons_zero, List.set_cons_succ, List.getElem_toArray, List.getElem_cons_zero, List.getElem_cons_succ]
  refine AnyX.one (i := 17) (by kernel_rfl) rfl (fun K hK => ?_)
  replace hK := Lib.hid hK
  go_simp
  refine ⟨trivial, ?_⟩
  refine hK.out _ _ ⟨.inr hH, ?_⟩
  clear hK K
  refine AnyX.one (i := 19) (by kernel_rfl) rfl (fun K hK => ?_)
  replace hK := Lib.hid hK
  go_simp
  refine ⟨trivial, ?_⟩
  refine hK.out _ _ ⟨.inr hH, ?_⟩
  clear hK K
  refine AnyX.first (i := 20) (v := undef) (by kernel_rfl) (by kernel_rfl) rfl (by kernel_rfl) (by kernel_rfl) (by kernel_rfl) (fun _ _ _ h => h) ⟨fun _ => rfl, Or.inr ⟨by rfl, rfl⟩⟩ hH ?_
  simp only [Act.put, List.setIfInBounds_toArray, List.set_cons_zero, List.set_cons_succ, List.getElem_toArray, List.getElem_cons_zero, List.getElem_cons_succ]
  refine AnyX.first (i := 21) (v := ?_) (by kernel_rfl) (by kernel_rfl) rfl (by kernel_rfl) (by kernel_rfl) (by kernel_rfl) (fun _ _ _ h => h) ⟨fun _ => rfl, Or.inl ⟨by rfl, ?_⟩⟩ hH ?_
  rotate_left
  · intro W' hS
    go_simp
    with_reducible rfl
  simp only [Act.put, List.setIfInBounds_toArray, List.set_cons_zero, List.set_cons_succ, List.getElem_toArray, List.getElem_cons_zero, List.getElem_cons_succ]
  refine AnyX.first (i := 22) (v := ?_) (by kernel_rfl) (by kernel_rfl) rfl (by kernel_rfl) (by kernel_rfl) (by kernel_rfl) (fun _ _ _ h => h) ⟨fun _ => rfl, Or.inl ⟨by rfl, ?_⟩⟩ hH ?_
  rotate_left
  · intro W' hS
    go_simp
    with_reducible rfl
  simp only [Act.put, List.setIfInBounds_toArray, List.set_cons_zero, List.set_cons_succ, List.getElem_toArray, List.getElem_cons_zero, List.getElem_cons_succ]
  refine AnyX.done (by kernel_rfl) ?_ _
  have HF := Lib.hid hH
  clear hH
  gi_wp2
  exact bodyPost_ret (v := .bool true) (by simp [results, Tryz.results82, go_sem]) rfl ⟨rfl, HF.out⟩
theorem vvisit11 (R : Rounds11 n0 b most M0 root lp J Jx xs) (hz : M0 0 = none) {i : Nat} {l : List Pr} (hT : TT M0 i l) : ∀ (s : Nat) (lo hi : Option Addr) (n : Nat) (A : World), s ≤ 1 → LimL A lo l → LimH A hi l → SafeL n0 b most A lo → SafeL n0 b most A hi → (i ≠ 0 → ∀ M, Pres M0 M root → Pres M0 M i) → Okay b most M0 root A → n0 ≤ A.heap.size → (∀ j p, l[j]? = some p → xs[n + j]? = some p) → n + l.length ≤ xs.length → J n A →
    Calls Tryz.prog 82 #[land b bh, plagg i lo hi s, .func (.yield lp) #[] #[]] A (Vis11 n0 b most M0 root J Jx xs (n + l.length) A) := by
  induction hT with
  | nil =>
    intro s lo hi n A hs hlo hhi _ _ _ ok h0 hxs hlen hJ
    obtain ⟨M, F, hA, _⟩ := ok
    refine (vvisit_no11 (bh := bh) lp s lo hi A hA hs hlo hhi).mono ?_
    rintro e B ⟨rfl, hb⟩
    exact .inl ⟨rfl, R.keep _ _ _ hJ hb, K11.below hb⟩
  | @node i r x y c k v lx ly hn hx hy hsr ihx ihy =>
    intro s lo hi n A hs hlo hhi hsl hsh hsub ok h0 hxs hlen hJ
    obtain ⟨M, F, hA, hPr⟩ := id ok
    have hpi := hsub hn.ne M hPr
    obtain ⟨r', hni⟩ := hn.pres hpi
    have htM : TT M i (lx ++ (k, v) :: ly) := (TT.node hn hx hy hsr).pres (fun _ => hpi)
    have hs1 := List.pairwise_append.1 hsr
    have hs2 := List.pairwise_cons.1 hs1.2.1
    rw [show n + (lx ++ (k, v) :: ly).length = (n + lx.length + 1) + ly.length by rw [List.length_append, List.length_cons]; omega]
    rw [List.length_append, List.length_cons] at hlen
    refine vvisit_cell11 R i s n (n + lx.length) _ x y lo hi lx ly (k, v) A (fun W hW => ?_) hlo hhi ⟨hsl, hsh⟩ ⟨fun q hq => h0_klt.1 (hs1.2.2 q hq (k, v) (List.mem_cons_self ..)), fun q hq => h0_klt.1 (hs2.1 q hq)⟩ (fun lo' hi' s' B h1 h2 h3 h4 h5 h6 h7 h8 => ?_) ?_ (fun lo' hi' s' B h1 h2 h3 h4 h5 h6 h7 h8 => ?_) ok h0 hJ (by omega)
    · refine (tread (bh := bh) i s lo hi W (hA.below hW) hA.zero ⟨htM, hlo.below hW, hhi.below hW, hs⟩).mono ?_
      rintro e W' ⟨nd, ok', rfl, hrp, hb⟩
      rcases hrp with ⟨_, hi0, _⟩ | ⟨rfl, hc, hsd, h1, h2, la, lb, hnd⟩
      · exact absurd hi0 hn.ne
      · obtain ⟨c', r2, hcn⟩ := hnd.node
        rw [hc] at hcn
        have e := hni.cell.symm.trans hcn.cell
        simp only [Option.some.injEq, Prod.mk.injEq] at e
        obtain ⟨rfl, rfl⟩ := e
        have ev := hni.vals.symm.trans hcn.vals
        have ek := hni.kids.symm.trans hcn.kids
        simp only [List.cons.injEq, and_true] at ev ek
        exact ⟨nd, rfl, ⟨ev.1.symm, ev.2.symm, h1, h2, ek.1.symm, ek.2.symm, hnd.fresh⟩, hb⟩
    · exact ihx s' lo' hi' n B h1 h2 h3 h4 h5 (fun hx0 M1 hM1 => hn.presx (hsub hn.ne M1 hM1) hx0) h6 h7 (fun j p e => hxs j p (by rw [List.getElem?_append_left (List.getElem?_eq_some_iff.1 e).1]; exact e)) (by omega) h8
    · exact hxs lx.length (k, v) (by rw [List.getElem?_append_right (Nat.le_refl _)]; simp)
    · refine ihy s' lo' hi' (n + lx.length + 1) B h1 h2 h3 h4 h5 (fun hy0 M1 hM1 => hn.presy (hsub hn.ne M1 hM1) hy0) h6 h7 (fun j p e => ?_) (by omega) h8
      rw [show n + lx.length + 1 + j = n + (lx.length + (j + 1)) by omega]
      apply hxs
      rw [List.getElem?_append_right (by omega), Nat.add_sub_cancel_left, List.getElem?_cons_succ]
      exact e
end
abbrev seqt (zl zm : Nat) : Value := .func (.func 81) #[] #[.pointer (some ⟨zl, 0, none⟩), .pointer (some ⟨zm, 0, none⟩)]
section
variable {b bh most root N : Nat} {M0 : Cells} {l : List Pr}
theorem tPairs (b bh N root : Nat) (w : World) :
    Calls Tryz.prog 45 #[land b bh, .agg #[.int .i64 (N : Nat), .int .i64 (root : Nat)]] w fun e w' => ∃ zl zm, e = .returned (seqt zl zm) ∧ C2 w' zl 26 (ap b) (.pointer (some ⟨bh, 0, none⟩)) ∧ C2 w' zm 72 (.int .i64 (N : Int)) (.int .i64 (root : Int)) ∧ w.heap.size ≤ zl ∧ w.heap.size ≤ zm ∧ Below w.heap.size w w' := by
  have hb : Below w.heap.size w ((w.alloc (.cells #[ap b, .pointer (some ⟨bh, 0, none⟩)] 26)).alloc (.cells #[.int .i64 (N : Int), .int .i64 (root : Int)] 72)) := ((Below.refl _ w).alloc (Nat.le_refl _) _).alloc (by simp) _
  have e1 : (w.alloc (.cells #[ap b, .pointer (some ⟨bh, 0, none⟩)] 26)).heap.size = w.heap.size + 1 := by simp
  have q1 := (C2.new w 26 (ap b) (.pointer (some ⟨bh, 0, none⟩))).alloc (.cells #[.int .i64 (N : Int), .int .i64 (root : Int)] 72)
  have q2 := C2.new (w.alloc (.cells #[ap b, .pointer (some ⟨bh, 0, none⟩)] 26)) 72 (.int .i64 (N : Int)) (.int .i64 (root : Int))
  rw [e1] at q2
  have HX := Lib.hid (And.intro q1 (And.intro q2 (And.intro (Nat.le_refl w.heap.size) (And.intro (Nat.le_succ w.heap.size) hb))))
  clear hb e1 q1 q2
  go_enter Tryz.func45, Tryz.ntmps45
  go_wp2_with fail
  exact bodyPost_ret (v := seqt w.heap.size (w.heap.size + 1)) (by simp [results, Tryz.results45, go_sem]) rfl ⟨_, _, rfl, HX.out⟩
set_option maxHeartbeats 1600000 in
theorem pairs_gives11 (zl zm : Nat) (w : World) (hz : M0 0 = none) (hT : TT M0 root l) (ok : Okay b most M0 root w) (q1 : C2 w zl 26 (ap b) (.pointer (some ⟨bh, 0, none⟩))) (q2 : C2 w zm 72 (.int .i64 (N : Int)) (.int .i64 (root : Int))) :
    Gives8 Tryz.prog 81 (fun v => #[] ++ #[v] ++ #[.pointer (some ⟨zl, 0, none⟩), .pointer (some ⟨zm, 0, none⟩)]) (fun p : Pr => #[pagg p]) (K11 w.heap.size b most M0 root) l w := by
  intro lp J Jx W hW hJ hJx hY h0
  have R : Rounds11 w.heap.size b most M0 root lp J Jx l := ⟨hJ, hY⟩
  have hnil : ∀ W : World, Sem.run Tryz.prog (binOp .neq 107 (.func (.yield lp) #[] #[]) .nilFunc) W = .ok (.bool true) W := fun _ => by kernel_rfl
  have HV : Hid (Calls Tryz.prog 82 #[land b bh, plagg root none none 0, .func (.yield lp) #[] #[]] W fun e B => (∃ v, e = .returned v) ∧ (J l.length B ∨ ∃ i, i ≤ l.length ∧ Jx i B)) := Lib.hid (by
    refine (vvisit11 R hz hT 0 none none 0 W (by omega) (.inl rfl) (.inl rfl) (fun a e => by cases e) (fun a e => by cases e) (fun _ M h => h) (ok.below hW) hW.size (fun j p e => by rw [Nat.zero_add]; exact e) (by omega) h0).mono ?_
    rintro e B (⟨rfl, h1, _⟩ | ⟨rfl, _, h1⟩)
    · rw [Nat.zero_add] at h1
      exact ⟨⟨_, rfl⟩, .inl h1⟩
    · exact ⟨⟨_, rfl⟩, .inr h1⟩)
  have x0 := (q1.below hW).c0
  have x1 := (q1.below hW).c1
  have y1 := (q2.below hW).c1
  clear hz hT ok q1 q2 hJ hJx hY h0 R
  refine (callsIn_wide (n := 1)).1 ?_
  refine callsIn_of_wp Tryz.func81 rfl trivial ?_ rfl
  simp only [Tryz.ntmps81, List.size_toArray, List.length_cons, List.length_nil, Nat.reduceAdd, Nat.reduceSub, Array.replicate_succ, Array.replicate_zero, List.push_toArray, List.append_toArray, List.nil_append, List.cons_append]
  gi_wp2
  refine ⟨trivial, (callsIn_wide.2 HV.out).mono ?_⟩
  rintro e w' ⟨⟨v, rfl⟩, h1⟩
  have H1 := Lib.hid h1
  clear h1 x0 x1 y1
  gi_wp2
  go_end0
  exact ⟨⟨_, rfl⟩, H1.out⟩
end
end Go.Proofs.YtghbbpbhbinioaaGreat

namespace Go.Proofs.YtghbbpbhbinioaaGreat
open Go Go.RowKit
theorem wpListIn_append_rd {F : Fence} {n' : Nat} {P : Program} {ops : Array Oper} {rest : List Oper} {o : Oper} {a : Act} {Q : Exit → Act → World → Prop} {w : World} (hfn : ∀ f, F.fn f) (hgd : o.guard = none) (s x : Operand) (t : TypeId)
    (ho : o.op = .call { callee := .builtin .append, args := #[s, x], argTypes := #[t, t] })
    (B : Nat) (e : TypeId) (i : TypeInfo) (z : Value) (size bytes : Nat) (ht : P.underlying t = some (.slice e)) (hi : P.info? e = some i) (hz : i.zero = some z) (hsize : i.size = size) (hby : i.bytes = bytes) (hzs : z.cells.size = size) (hsz : 0 < size)
    (v : Value) (n : Nat) (xs : List Value) (hs : a.eval s = v) (hown : w.ownsRow B e size v n xs) (y : Value) (m : Nat) (ys : List Value) (hx : a.eval x = y) (hy : Rd w y m ys) (hl : ys.length = m * size) (h1 : ∀ u ∈ ys, u.oneCell' = true)
    (h63 : n + m ≤ maxLen) (hbytes : (n + m) * bytes ≤ 140737488355328) (hB : B ≤ w.heap.size)
    (h : ∀ v' w', w'.ownsRow B e size v' (n + m) (xs ++ ys) → w.grownBy w' v.ownBlock → (v'.ownBlock = v.ownBlock ∨ v'.ownBlock = some w.heap.size) → wpListIn F n' P ops Q rest (a.put o.dst v') w') : wpListIn F n' P ops Q (o :: rest) a w :=
  wpListIn_plain hgd fun K hK => by
    have h2 := stepX_append_rd (F := F) (n := n') (P := P) (ops := ops) (Q := Q) (K := K) (E := False) hfn hgd s x t ho B e i z size bytes ht hi hz hsize hby hzs hsz v n xs hs hown y m ys hx hy hl h1 h63 hbytes hB fun v' w' h2 h3 h4 => hK _ _ (h v' w' h2 h3 h4)
    rwa [if_pos (by simp [Region.wanted, hgd])] at h2
end Go.Proofs.YtghbbpbhbinioaaGreat

namespace Go.Proofs.YtghbbpbhbinioaaGreat
set_option maxRecDepth 100000
set_option linter.unusedSimpArgs false
set_option linter.unusedVariables false
open Go.RowKit Go.Shelf
attribute [local go_sem] Oper.semAt_some
structure GC (w : World) (n5 zg : Nat) (acc : List Pr) (vg : Value) (W : World) : Prop where
  gb : C1 W zg 45 vg
  own : W.ownsRow n5 48 6 vg acc.length (acc.flatMap pcells)
  zs : w.heap.size ≤ zg ∧ zg < n5 ∧ n5 ≤ W.heap.size
  bel : Below w.heap.size w W
section
variable {w W W' : World} {n5 zg b most : Nat} {acc : List Pr} {vg : Value}
theorem GC.kp {G : Nat → Prop} (h : GC w n5 zg acc vg W) (hk : Kp G W W') (hG : ∀ q, G q → w.heap.size ≤ q ∧ q ≠ zg ∧ vg.ownBlock ≠ some q) : GC w n5 zg acc vg W' := by
  obtain ⟨s1, s2, s3⟩ := h.zs
  have := hk.size
  exact ⟨h.gb.kp hk (fun hg => (hG _ hg).2.1 rfl), hk.own h.own (fun q hq hg => (hG q hg).2.2 hq), ⟨s1, s2, by omega⟩, below_kp h.bel hk (fun q hg => (hG q hg).1)⟩
theorem GC.below (h : GC w n5 zg acc vg W) (hb : Below W.heap.size W W') : GC w n5 zg acc vg W' := h.kp (Kp.of_below hb (fun _ => False)) (fun _ h => h.elim)
theorem GC.grown {row : Option Nat} (h : GC w n5 zg acc vg W) (hg : W.grownBy W' row) (hr : ∀ r, row = some r → n5 ≤ r ∧ ∃ o : Obj, W.heap[r]? = some o ∧ o.isCells = false) : GC w n5 zg acc vg W' := by
  obtain ⟨s1, s2, s3⟩ := h.zs
  refine h.kp (Kp.of_grown hg (F := fun q => row = some q) (fun q e => .inl e)) (fun q e => ?_)
  obtain ⟨h1, o, h2, h3⟩ := hr q e
  refine ⟨by omega, by omega, fun hv => ?_⟩
  obtain ⟨cur, hc⟩ := own_type h.own q hv
  rw [h2] at hc
  obtain rfl := Option.some.inj hc
  cases h3
theorem GC.next {v' : Value} {p : Pr} {W2 W3 : World} (h : GC w n5 zg acc vg W) (hb : Below W.heap.size W W2) (ho : W3.ownsRow n5 48 6 v' (acc.length + 1) (acc.flatMap pcells ++ pcells p)) (hg : W2.grownBy W3 vg.ownBlock) :
    GC w n5 zg (acc ++ [p]) v' (W3.setCell ⟨zg, 0, none⟩ v') ∧ Kp (fun q => q = zg ∨ vg.ownBlock = some q) W (W3.setCell ⟨zg, 0, none⟩ v') := by
  obtain ⟨s1, s2, s3⟩ := h.zs
  have hs2 := hb.size
  have hs3 := (Kp.of_grown hg (F := fun q => vg.ownBlock = some q) (fun q e => .inl e)).size
  have k2 : Kp (fun q => vg.ownBlock = some q) W W3 := (Kp.of_below hb _).trans (Kp.of_grown hg (fun q e => .inl e)) (fun q e => .inl e)
  have kz : Kp (fun q => q = zg) W3 (W3.setCell ⟨zg, 0, none⟩ v') := Kp.one W3 zg 0 v'
  have hblk : ∀ q, vg.ownBlock = some q → n5 ≤ q := fun q hq => (own_blk h.own q hq).1
  have hv' : ∀ q, v'.ownBlock = some q → n5 ≤ q := fun q hq => (own_blk ho q hq).1
  have kk : Kp (fun q => q = zg ∨ vg.ownBlock = some q) W (W3.setCell ⟨zg, 0, none⟩ v') := (k2.mono (fun q h _ => .inr h)).trans kz (fun q h => .inl (.inl h))
  refine ⟨⟨(h.gb.kp k2 (fun e => by have := hblk _ e; omega)).set _, ?_, ⟨s1, s2, by simp; omega⟩, below_kp h.bel kk (fun q hq => hq.elim (fun e => by omega) (fun e => by have := hblk _ e; omega))⟩, kk⟩
  rw [List.length_append, List.flatMap_append]
  refine kz.own (by simpa using ho) (fun q hq e => ?_)
  have := hv' q hq
  omega
theorem GC.kv {n root : Nat} {M0 M : Cells} {F : Nat → Prop} (h : GC w n5 zg acc vg W) (ha : Ar W b most M F) (hF : ∀ q, F q → q < w.heap.size) (hn5 : n5 ≤ n) (hk : Kp (fun q => q = zg ∨ vg.ownBlock = some q) W W') : K11 n b most M0 root W W' ∧ KeepsOthers W W' := by
  obtain ⟨s1, s2, s3⟩ := h.zs
  refine ⟨K11.of_kp ha hk (fun q hq hf => ?_) (fun q cur t hq hn hc => ?_), KeepsOthers.of_kp hk (fun q o hq ho => ?_)⟩
  · have := hF q hf
    rcases hq with rfl | hq
    · omega
    · have := (own_blk h.own q hq).1; omega
  · rcases hq with rfl | hq
    · omega
    · obtain ⟨cur', hc'⟩ := own_type h.own q hq
      rw [hc] at hc'
      simp only [Option.some.injEq, Obj.cells.injEq] at hc'
      rw [hc'.2.1]
      unfold Vt11
      decide
  · rcases hq with rfl | hq
    · have h1 : W.heap[q]? = some _ := h.gb
      rw [ho] at h1
      rw [Option.some.inj h1]
      rfl
    · obtain ⟨cur', hc'⟩ := own_type h.own q hq
      rw [ho] at hc'
      rw [Option.some.inj hc']
      rfl
end
theorem pinfo11 : (Tryz.prog.info? 48).map (fun i => (i.zero, i.size, i.bytes)) = some (some (.agg #[.int .u8 0, .int .i64 0, .string ⟨#[]⟩, .int .u8 0, .int .i64 0, .string ⟨#[]⟩]), 6, 64) := by kernel_rfl
section
variable {b bh most root N : Nat} {M : Cells} {F : Nat → Prop} {l : List Pr}
set_option maxHeartbeats 4000000 in
theorem tappend (zl zm : Nat) (w : World) (ha : Ar w b most M F) (hT : TT M root l) (hl : l.length ≤ 2000) (ql : C2 w zl 26 (ap b) (.pointer (some ⟨bh, 0, none⟩))) (qm : C2 w zm 72 (.int .i64 (N : Int)) (.int .i64 (root : Int))) :
    Calls Tryz.prog 54 #[.slice none 0 0, seqt zl zm] w fun e w' => ∃ v, e = .returned v ∧ w'.ownsRow w.heap.size 48 6 v l.length (l.flatMap pcells) ∧ Below w.heap.size w w' := by
  have hb : Below w.heap.size w (w.alloc (.cells #[.slice none 0 0] 45)) := (Below.refl _ w).alloc (Nat.le_refl _) _
  have q2 := C1.new w 45 (.slice none 0 0)
  have hsz : (w.alloc (.cells #[.slice none 0 0] 45)).heap.size = w.heap.size + 1 := by simp
  have HG := Lib.hid (pairs_gives11 (b := b) (bh := bh) (most := most) (root := root) (N := N) (M0 := M) (l := l) zl zm (w.alloc (.cells #[.slice none 0 0] 45)) ha.zero hT ⟨M, F, ha.below hb, Pres.refl M root⟩ (ql.below hb) (qm.below hb))
  have HX := Lib.hid (show GC w (w.heap.size + 1) w.heap.size [] (.slice none 0 0) (w.alloc (.cells #[.slice none 0 0] 45)) from ⟨q2, World.ownsRow_nil _ _ _ _, ⟨Nat.le_refl _, by omega, by omega⟩, hb⟩)
  have HA := Lib.hid (And.intro ha (And.intro hl (show ∀ q, F q → q < w.heap.size from fun q hq => ha.lt hq)))
  obtain ⟨i1, hi1, hy0, hy1, hy2⟩ := info_parts pinfo11
  have HI1 := Lib.hid hi1
  clear hb q2 ha hT hl ql qm hi1
  refine (callsIn_wide (n := 3)).1 ?_
  refine callsIn_of_wp_marks Tryz.func54 rfl trivial ?_ rfl
  refine wpIn_wide.2 ?_
  simp only [Tryz.ntmps54, List.size_toArray, List.length_cons, List.length_nil, Nat.reduceAdd, Nat.reduceSub, Array.replicate_succ, Array.replicate_zero, List.push_toArray, List.append_toArray, List.nil_append, List.cons_append]
  go_wp2_with fail
  generalize w.alloc (.cells #[.slice none 0 0] 45) = W3 at HG HX hsz ⊢
  obtain ⟨zg, hzg⟩ : ∃ z, z = w.heap.size := ⟨_, rfl⟩
  obtain ⟨n5, hn5⟩ : ∃ z, z = w.heap.size + 1 := ⟨_, rfl⟩
  have H3 := Lib.hid (show n5 = W3.heap.size from by rw [hn5, hsz])
  have HZ := Lib.hid hzg
  rw [← hn5, ← hzg] at HX
  rw [← hzg]
  clear hsz hn5 hzg
  refine wp_range9 (encs := fun p : Pr => #[pagg p]) (first := #[]) (last := #[.pointer (some ⟨zl, 0, none⟩), .pointer (some ⟨zm, 0, none⟩)]) (f := 81) rfl (fun _ _ => rfl) (fun _ => rfl) HG.out (fun h1 h2 => h1.trans h2) (fun W l o o' _ ho hc _ => K11.putObj ho hc)
    (fun i W' => ∃ vg, GC w n5 zg (l.take i) vg W') (fun _ _ _ => False) ?_ (fun c _ _ _ _ h => h.elim) ⟨_, HX.out⟩ (fun A B hb => K11.below hb) ?_ ?_ (fun _ _ _ _ _ _ h => h.elim)
  · rintro i A B row ⟨vg, h⟩ hg hr
    exact ⟨vg, h.grown hg (fun r hr' => ⟨by have := H3.out; have := (hr r hr').1; omega, (hr r hr').2⟩)⟩
  · intro lp i x W4 hx hI hsz
    have HX4 := Lib.hid hx
    have I4 := Lib.hid hI
    clear hx hI HG HX
    gi_wp2
    have hbA : Below W4.heap.size W4 (W4.alloc (.cells #[.int .u8 x.1.1, .int .i64 x.1.2.1, .string x.1.2.2, .int .u8 x.2.1, .int .i64 x.2.2.1, .string x.2.2.2] 48)) := (Below.refl _ W4).alloc (Nat.le_refl _) _
    refine ⟨hbA, fun j W' => (∃ vg, GC w n5 zg (l.take j) vg W') ∧ C6 W' W4.heap.size 48 (.int .u8 x.1.1) (.int .i64 x.1.2.1) (.string x.1.2.2) (.int .u8 x.2.1) (.int .i64 x.2.2.1) (.string x.2.2.2), fun j A B row h hg hr => ⟨?_, h.2.own hg (fun r hr' => (hr r hr').2)⟩, ⟨?_, C6.new _ _ _ _ _ _ _ _⟩, fun W5 hJ hs5 => ?_⟩
    · obtain ⟨vg, h1⟩ := h.1
      exact ⟨vg, h1.grown hg (fun r hr' => ⟨by have := H3.out; have := (hr r hr').1; omega, (hr r hr').2⟩)⟩
    · obtain ⟨vg, h1⟩ := I4.out
      exact ⟨vg, h1.below hbA⟩
    · obtain ⟨⟨vg, gc⟩, p6⟩ := hJ
      obtain ⟨Ag, cg, hvg, _⟩ := (Rd.of_own gc.own).form
      subst hvg
      have S5 := Lib.hid gc
      have y0 := gc.gb.c0
      have m0 := p6.c0
      have m1 := p6.c1
      have m2 := p6.c2
      have m3 := p6.c3
      have m4 := p6.c4
      have m5 := p6.c5
      have hil := (List.getElem?_eq_some_iff.1 HX4.out).1
      have htk : l.take (i + 1) = l.take i ++ [x] := by rw [List.take_add_one, HX4.out]; rfl
      have HTK := Lib.hid (And.intro htk (show (l.take i).length ≤ 2000 by rw [List.length_take]; have := HA.out.2.1; omega))
      obtain ⟨acc, hacc⟩ : ∃ acc, acc = l.take i := ⟨_, rfl⟩
      rw [← hacc] at S5 HTK y0
      clear gc p6 I4 hs5 hbA hil htk hacc
      gi_wp2_with (gi_at_builtin; refine wpListIn_append_rd (fun _ => trivial) rfl _ _ 45 rfl n5 48 i1 _ 6 64 Tryz.underlying45 HI1.out hy0 hy1 hy2 rfl (by decide) (.slice Ag acc.length cg) acc.length (acc.flatMap pcells) rfl ?k0 _ 1 [.int .u8 x.1.1, .int .i64 x.1.2.1, .string x.1.2.2, .int .u8 x.2.1, .int .i64 x.2.2.1, .string x.2.2.2] rfl ?k1 rfl (by simp [Value.oneCell']) ?k2 ?k3 ?k4 ?_)
      case k0 => exact (Kp.of_below ((Below.refl _ W5).alloc (Nat.le_refl _) (.cells #[.int .u8 x.1.1, .int .i64 x.1.2.1, .string x.1.2.2, .int .u8 x.2.1, .int .i64 x.2.2.1, .string x.2.2.2] 48)) (fun _ => False)).own S5.out.own (fun _ _ => id)
      case k1 => exact rd_six _ _ _ _ _ _ _ _ _ rfl
      case k2 => have := HTK.out.2; unfold maxLen; omega
      case k3 => have := HTK.out.2; omega
      case k4 => have := S5.out.zs; simp; omega
      intro v9 W9 hown hgr _
      obtain ⟨A9, m9, rfl, _⟩ := (Rd.of_own hown).form
      have hbl : Below W5.heap.size W5 (W5.alloc (.cells #[.int .u8 x.1.1, .int .i64 x.1.2.1, .string x.1.2.2, .int .u8 x.2.1, .int .i64 x.2.2.1, .string x.2.2.2] 48)) := (Below.refl _ W5).alloc (Nat.le_refl _) _
      have nx := S5.out.next (p := x) hbl hown hgr
      obtain ⟨q0, q1⟩ := ((S5.out.gb.alloc (.cells #[.int .u8 x.1.1, .int .i64 x.1.2.1, .string x.1.2.2, .int .u8 x.2.1, .int .i64 x.2.2.1, .string x.2.2.2] 48)).kp (Kp.of_grown hgr (F := fun q => (Value.slice Ag acc.length cg).ownBlock = some q) (fun q e => .inl e)) (fun e => by have := (own_blk S5.out.own _ e).1; have := S5.out.zs; omega)).all
      have kv9 := S5.out.kv (root := root) (M0 := M) (HA.out.1.below S5.out.bel) HA.out.2.2 (Nat.le_of_eq H3.out) nx.2
      have FIN := Lib.hid (And.intro kv9.2 (And.intro kv9.1 nx.1))
      clear hown hgr nx kv9 y0 m0 m1 m2 m3 m4 m5 hbl
      gi_wp2
      exact ⟨FIN.out.1, FIN.out.2.1, .slice A9 (acc.length + 1) m9, by rw [HTK.out.1]; exact FIN.out.2.2⟩
  · intro D W10 hD hI hdef
    obtain ⟨vg, gc⟩ := hI
    rw [List.take_length] at gc
    obtain ⟨Ag, cg, rfl, _⟩ := (Rd.of_own gc.own).form
    have S := Lib.hid (And.intro gc (And.intro hdef (show n5 ≤ D from by have := H3.out; omega)))
    have y0 := gc.gb.c0
    clear gc hdef HG HX
    go_wp2_with fail
    refine ⟨by simp, .inl ⟨_, _, rfl, run_takeDeferred S.out.2.1, ?_⟩⟩
    obtain ⟨s1, s2, s3⟩ := S.out
    have hz := HZ.out
    refine ⟨.slice Ag l.length cg, by simp [results, Tryz.results54, go_sem], .slice Ag l.length cg, rfl, own_base (base := n5) ((kp_putObj (x := D)).own s1.own (fun q hq e => ?_)) (by have := s1.zs; omega), below_kp s1.bel (kp_putObj (x := D)) (fun q e => by have := s1.zs; omega)⟩
    obtain ⟨cur, hc⟩ := own_type s1.own q hq
    rw [e, s2] at hc
    cases hc
theorem tcollect (zl zm : Nat) (w : World) (ha : Ar w b most M F) (hT : TT M root l) (hl : l.length ≤ 2000) (ql : C2 w zl 26 (ap b) (.pointer (some ⟨bh, 0, none⟩))) (qm : C2 w zm 72 (.int .i64 (N : Int)) (.int .i64 (root : Int))) :
    Calls Tryz.prog 15 #[seqt zl zm] w fun e w' => ∃ v, e = .returned v ∧ w'.ownsRow w.heap.size 48 6 v l.length (l.flatMap pcells) ∧ Below w.heap.size w w' := by
  have HA := Lib.hid (tappend zl zm w ha hT hl ql qm)
  clear ha hT hl ql qm
  go_enter Tryz.func15, Tryz.ntmps15
  go_wp2_with fail
  refine HA.out.mono ?_
  rintro e w' ⟨v, rfl, hb⟩
  have HB := Lib.hid hb
  clear hb
  go_wp2_with fail
  go_ret
  exact ⟨v, rfl, HB.out⟩
end
end Go.Proofs.YtghbbpbhbinioaaGreat
