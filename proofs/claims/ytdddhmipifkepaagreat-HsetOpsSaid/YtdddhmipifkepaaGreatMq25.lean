/- Several texts in one. -/
import Derived.Test.YtdddhmipifkepaaGreatMq24
import Derived.RangeFuncNested
import Derived.RangeFuncLeaves
import Derived.RecoverIn
namespace Go.Proofs.YtdddhmipifkepaaGreat
set_option maxRecDepth 100000
set_option linter.unusedSimpArgs false
set_option linter.unusedVariables false
open Go.RowKit Go.Shelf
attribute [local go_sem] Oper.semAt_some
structure Kw (n0 l b most : Nat) (M0 : Cells) (root : Nat) (A B : World) : Prop where
  kv : Kv n0 b most M0 root A B
  kf : ∀ q x, n0 ≤ q → C1 A q 59 x → Safe b most A q → C1 B q 59 x ∧ Safe b most B q
  ko : ∀ q o, n0 ≤ q → q ≠ l → A.heap[q]? = some o → o.isCells = false → B.heap[q]? = some o
  sz : A.heap.size ≤ B.heap.size
section
variable {n0 n1 l b most root : Nat} {M0 : Cells} {A B C : World}
theorem Kv.later (h : Kv n0 b most M0 root A B) (hn : n0 ≤ n1) : Kv n1 b most M0 root A B := ⟨h.ok, fun q cur t hq => h.same q cur t (Nat.le_trans hn hq)⟩
theorem Safe.putObj {q x : Nat} {o o' : Obj} (h : Safe b most A q) (hx : A.heap[x]? = some o) (hc : o.isCells = false) : Safe b most (A.putObj x o') q := by
  obtain ⟨M, F, h1, h2⟩ := h
  exact ⟨M, _, (h1.cut hx hc).kp kp_putObj (fun k hk => hk.2), fun hf => h2 hf.1⟩
theorem Safe.own {q : Nat} {row : Option Nat} (h : Safe b most A q) (hg : A.grownBy B row) (hr : ∀ r, row = some r → ∃ o : Obj, A.heap[r]? = some o ∧ o.isCells = false) : Safe b most B q := by
  obtain ⟨M, F, h1, h2⟩ := h
  cases row with
  | none => exact ⟨M, F, h1.kp (Kp.of_grown hg (F := fun _ => False) (fun q e => by cases e)) (fun _ _ h => h), h2⟩
  | some x =>
    obtain ⟨o, hx, hc⟩ := hr x rfl
    exact ⟨M, _, (h1.cut hx hc).kp (Kp.of_grown hg (F := fun q => q = x) (fun q e => .inl (Option.some.inj e).symm)) (fun k hk => hk.2), fun hf => h2 hf.1⟩
theorem Kw.trans (h : Kw n0 l b most M0 root A B) (k : Kw n0 l b most M0 root B C) : Kw n0 l b most M0 root A C :=
  ⟨h.kv.trans k.kv, fun q x hq hc hs => let ⟨c1, s1⟩ := h.kf q x hq hc hs; k.kf q x hq c1 s1, fun q o hq hl ho hc => k.ko q o hq hl (h.ko q o hq hl ho hc) hc, Nat.le_trans h.sz k.sz⟩
theorem Kw.below (hb : Below A.heap.size A B) : Kw n0 l b most M0 root A B :=
  ⟨Kv.below hb, fun q x _ hc hs => ⟨hc.below hb, hs.below hb⟩, fun q o _ _ ho _ => (hb.block q (Array.getElem?_eq_some_iff.1 ho).1).trans ho, hb.size⟩
theorem Kw.putObj {o o' : Obj} (hx : A.heap[l]? = some o) (hc : o.isCells = false) : Kw n0 l b most M0 root A (A.putObj l o') :=
  ⟨Kv.putObj hx hc, fun q x _ h hs => ⟨h.put (fun e => by
    subst e
    have h1 : A.heap[q]? = some _ := h
    rw [hx] at h1
    cases h1
    cases hc) o', hs.putObj hx hc⟩, fun q o _ hl ho _ => (World.putObj_heap_other hl).trans ho, by simp [World.putObj]⟩
theorem Kw.from (h : Kw n0 l b most M0 root A B) {D : Nat} (hD : n0 ≤ D) (hl : l < D) : KeepsFrom D A B :=
  ⟨h.sz, fun k o hk ho hc => h.ko k o (Nat.le_trans hD hk) (by omega) ho hc⟩
end
abbrev seqs (zl zs : Nat) : Value := .func (.func 112) #[] #[.pointer (some ⟨zl, 0, none⟩), .pointer (some ⟨zs, 0, none⟩)]
section
variable {b bh most root N : Nat} {M0 : Cells} {hs : Ky → Nat} {l : List Pr}
theorem vValues (b bh N root : Nat) (w : World) :
    Calls Tryz.prog 51 #[land b bh, .agg #[.int .i64 (N : Nat), .int .i64 (root : Nat)]] w fun e w' => ∃ zl zs, e = .returned (seqs zl zs) ∧ C2 w' zl 26 (ap b) (.pointer (some ⟨bh, 0, none⟩)) ∧ C2 w' zs 54 (.int .i64 (N : Int)) (.int .i64 (root : Int)) ∧ w.heap.size ≤ zl ∧ w.heap.size ≤ zs ∧ Below w.heap.size w w' := by
  have hb : Below w.heap.size w ((w.alloc (.cells #[ap b, .pointer (some ⟨bh, 0, none⟩)] 26)).alloc (.cells #[.int .i64 (N : Int), .int .i64 (root : Int)] 54)) := ((Below.refl _ w).alloc (Nat.le_refl _) _).alloc (by simp) _
  have e1 : (w.alloc (.cells #[ap b, .pointer (some ⟨bh, 0, none⟩)] 26)).heap.size = w.heap.size + 1 := by simp
  have q1 := (C2.new w 26 (ap b) (.pointer (some ⟨bh, 0, none⟩))).alloc (.cells #[.int .i64 (N : Int), .int .i64 (root : Int)] 54)
  have q2 := C2.new (w.alloc (.cells #[ap b, .pointer (some ⟨bh, 0, none⟩)] 26)) 54 (.int .i64 (N : Int)) (.int .i64 (root : Int))
  rw [e1] at q2
  have HX := Lib.hid (And.intro q1 (And.intro q2 (And.intro (Nat.le_refl w.heap.size) (And.intro (Nat.le_succ w.heap.size) hb))))
  clear hb e1 q1 q2
  go_enter Tryz.func51, Tryz.ntmps51
  go_wp2_with fail
  exact bodyPost_ret (v := seqs w.heap.size (w.heap.size + 1)) (by simp [results, Tryz.results51, go_sem]) rfl ⟨_, _, rfl, HX.out⟩
set_option maxHeartbeats 4000000 in
theorem values_gives (zl zs : Nat) (w : World) (hx : l.length ≤ 4096) (hz : M0 0 = none) (hT : Mp M0 hs root l) (ok : Okay b most M0 root w) (q1 : C2 w zl 26 (ap b) (.pointer (some ⟨bh, 0, none⟩))) (q2 : C2 w zs 54 (.int .i64 (N : Int)) (.int .i64 (root : Int))) :
    GivesL Tryz.prog 112 (fun v => #[] ++ #[v] ++ #[.pointer (some ⟨zl, 0, none⟩), .pointer (some ⟨zs, 0, none⟩)]) (fun p : Pr => #[xagg p.1]) (fun lp => Kw w.heap.size lp b most M0 root) l w := by
  intro lp J Jx W hW hl1 hl2 hJ hJx hY h0
  have hnil : ∀ W : World, Sem.run Tryz.prog (binOp .eql 59 (.func (.yield lp) #[] #[]) .nilFunc) W = .ok (.bool false) W := fun _ => by kernel_rfl
  have hbA : Below W.heap.size W (W.alloc (.cells #[.func (.yield lp) #[] #[]] 59)) := (Below.refl _ W).alloc (Nat.le_refl _) _
  have HQ := Lib.hid (And.intro ((q1.below hW).below hbA) (And.intro ((q2.below hW).below hbA) (C1.new W 59 (.func (.yield lp) #[] #[]))))
  have HO := Lib.hid (And.intro hx (And.intro hz (And.intro hT ((ok.below hW).below hbA))))
  have SF := Lib.hid (show Safe b most (W.alloc (.cells #[.func (.yield lp) #[] #[]] 59)) W.heap.size from (ok.below hW).new hbA (Nat.le_refl _))
  have HB := Lib.hid (And.intro hbA (And.intro hW (And.intro hl1 hl2)))
  have HJ := Lib.hid (And.intro hJ (And.intro hJx (And.intro hY (hJ.alloc (.cells #[.func (.yield lp) #[] #[]] 59) h0))))
  clear hbA q1 q2 hx hz hT ok hW hl1 hl2 hJ hJx hY h0
  refine (callsIn_wide (n := 3)).1 ?_
  refine callsIn_of_wp_marks Tryz.func112 rfl trivial ?_ rfl
  refine wpIn_wide.2 ?_
  simp only [Tryz.ntmps112, List.size_toArray, List.length_cons, List.length_nil, Nat.reduceAdd, Nat.reduceSub, Array.replicate_succ, Array.replicate_zero, List.push_toArray, List.append_toArray, List.nil_append, List.cons_append]
  go_upto_region 1 with fail
  generalize W.alloc (.cells #[.func (.yield lp) #[] #[]] 59) = W1 at HQ HO HB HJ SF ⊢
  obtain ⟨zy, hzy⟩ : ∃ z, z = W.heap.size := ⟨_, rfl⟩
  rw [← hzy] at SF ⊢
  have QY := Lib.hid (show C1 W1 zy 59 (.func (.yield lp) #[] #[]) from by rw [hzy]; exact HQ.out.2.2)
  have ZY := Lib.hid hzy
  obtain ⟨x0, x1, _⟩ := HQ.out.1.all
  obtain ⟨x2, x3, _⟩ := HQ.out.2.1.all
  have x4 := QY.out.c0
  clear hzy
  go_wp2_with fail
  refine (vPairs b bh N root W1).mono ?_
  rintro x W3 ⟨zl2, zm, rfl, ql, qm, hl1, hl2, hb3⟩
  have Q3 := Lib.hid (And.intro (QY.out.below hb3) (And.intro (below_own HJ.out.1 HJ.out.2.2.2 hb3) (show W.heap.size ≤ W3.heap.size ∧ lp < W3.heap.size ∧ zy < W3.heap.size ∧ w.heap.size ≤ W3.heap.size ∧ w.heap.size ≤ zy from by
    have h1 := HB.out.1.size; have h2 := hb3.size; have h3 := HB.out.2.2.2; have h4 := QY.out.lt; have h5 := HB.out.2.1.size; have h6 := ZY.out
    omega)))
  have SF3 := Lib.hid (show Safe b most W3 zy from SF.out.below hb3)
  have HG := Lib.hid (pairs_gives (b := b) (bh := bh) (most := most) (root := root) (N := N) (M0 := M0) (hs := hs) (l := l) zl2 zm W3 HO.out.1 HO.out.2.1 HO.out.2.2.1 (HO.out.2.2.2.below hb3) ql qm)
  clear ql qm hl1 hl2 hb3 x0 x1 x2 x3 x4 hnil
  go_wp2_with fail
  refine wp_rangeL (encs := fun p : Pr => #[pagg p]) (Kp := fun _ => Kv W3.heap.size b most M0 root) (first := #[]) (last := #[.pointer (some ⟨zl2, 0, none⟩), .pointer (some ⟨zm, 0, none⟩)]) (f := 97) rfl (fun _ _ => rfl) (fun _ => rfl) (HG.out.toL (fun _ _ _ h => h)) (fun h1 h2 => h1.trans h2) (fun W o o' ho hc => Kv.putObj ho hc)
    (fun i W' => J i W' ∧ C1 W' zy 59 (.func (.yield lp) #[] #[]) ∧ Safe b most W' zy) (fun c i W' => c = .ret ∧ Jx i W') (fun i A B row h hg hr => ⟨HJ.out.1 i A B row h.1 hg (fun r hr' => ⟨Nat.le_trans Q3.out.2.2.1 (hr r hr').1, (hr r hr').2⟩), h.2.1.own hg (B := W3.heap.size) hr, h.2.2.own hg (fun r hr' => (hr r hr').2)⟩) (fun c i A B row h hg hr => ⟨h.1, HJ.out.2.1 i A B row h.2 hg (fun r hr' => ⟨Nat.le_trans Q3.out.2.2.1 (hr r hr').1, (hr r hr').2⟩)⟩) ?_ (fun A B hb => Kv.below hb) ?_ ?_ ?_
  · exact ⟨Q3.out.2.1, Q3.out.1, SF3.out⟩
  · intro lq i x W4 hx hI hsz
    have HX := Lib.hid hx
    have HI := Lib.hid hI
    have HS := Lib.hid hsz
    clear hI hx HG hsz
    gi_wp2
    have hbA : Below W4.heap.size W4 (W4.alloc (.cells #[.int .u8 x.1.1, .int .i64 x.1.2.1, .string x.1.2.2, .int .u8 x.2.1, .int .i64 x.2.2.1, .string x.2.2.2] 48)) := (Below.refl _ W4).alloc (Nat.le_refl _) _
    refine ⟨hbA, fun j W' => (J j W' ∧ C1 W' zy 59 (.func (.yield lp) #[] #[]) ∧ Safe b most W' zy) ∧ C6 W' W4.heap.size 48 (.int .u8 x.1.1) (.int .i64 x.1.2.1) (.string x.1.2.2) (.int .u8 x.2.1) (.int .i64 x.2.2.1) (.string x.2.2.2), fun j A B row h hg hr => ⟨⟨HJ.out.1 j A B row h.1.1 hg (fun r hr' => ⟨Nat.le_trans Q3.out.2.2.1 (hr r hr').1, (hr r hr').2⟩), h.1.2.1.own hg (B := W3.heap.size) hr, h.1.2.2.own hg (fun r hr' => (hr r hr').2)⟩, h.2.own hg (fun r hr' => (hr r hr').2)⟩, ⟨⟨HJ.out.1.alloc _ HI.out.1, HI.out.2.1.alloc _, HI.out.2.2.below hbA⟩, C6.new _ _ _ _ _ _ _ _⟩, fun W5 hJ5 hs5 => ?_⟩
    obtain ⟨⟨hj5, y5, s5⟩, p6⟩ := hJ5
    have hY := HJ.out.2.2.1 i x W5 HX.out hj5
    obtain ⟨fn, tmps, assign, body, hy, hR⟩ := hY
    have HR := Lib.hid hR
    have HY5 := Lib.hid (And.intro y5 s5)
    have y0 := y5.c0
    obtain ⟨m0, m1, m2, m3, m4, m5, _⟩ := p6.all
    clear hR hj5 y5 s5 p6 hbA hs5
    gi_wp2
    refine ⟨rfl, ?_⟩
    refine RoundIn.mono (show RoundIn (Fence.wide.inRound lq) 0 Tryz.prog lp fn tmps assign body W5 _ from HR.out) ?_
    clear hy y0 m0 m1 m2 m3 m4 m5 HR
    rintro e W6 (⟨rfl, hj6, hk6⟩ | ⟨rfl, hj6, hk6⟩)
    · have S6 := Lib.hid (And.intro hj6 hk6)
      clear hj6 hk6
      gi_wp2
      exact ⟨S6.out.2.from Q3.out.2.2.2.2.2.1 Q3.out.2.2.2.1, S6.out.2.kv.later Q3.out.2.2.2.2.2.1, S6.out.1, S6.out.2.kf zy _ Q3.out.2.2.2.2.2.2 HY5.out.1 HY5.out.2⟩
    · have S6 := Lib.hid (And.intro hj6 hk6)
      clear hj6 hk6
      gi_wp2
      exact ⟨S6.out.2.from Q3.out.2.2.2.2.2.1 Q3.out.2.2.2.1, S6.out.2.kv.later Q3.out.2.2.2.2.2.1, rfl, S6.out.1⟩
  · intro D W10 hD hI hdef
    have S := Lib.hid (And.intro hI.1 (And.intro hdef hD))
    clear hI hdef HG
    go_wp2_with fail
    refine ⟨by simp, .inl ⟨_, _, rfl, run_takeDeferred S.out.2.1, ?_⟩⟩
    exact ⟨_, results_none rfl _ _ _, ⟨_, rfl⟩, .inl (HJ.out.1.putObj _ S.out.1 (Nat.le_trans Q3.out.2.2.1 S.out.2.2) S.out.2.1 rfl)⟩
  · rintro D c i W' hD hi ⟨rfl, hjx⟩ hdef
    have S := Lib.hid (And.intro hjx (And.intro hdef (And.intro hD hi)))
    clear hjx hdef HG
    go_wp2_with fail
    refine ⟨by simp, .inl ⟨_, _, rfl, run_takeDeferred S.out.2.1, ?_⟩⟩
    exact ⟨_, results_none rfl _ _ _, ⟨_, rfl⟩, .inr ⟨i, S.out.2.2.2, HJ.out.2.1.putObj _ S.out.1 (Nat.le_trans Q3.out.2.2.1 S.out.2.2.1) S.out.2.1 rfl⟩⟩
end
end Go.Proofs.YtdddhmipifkepaaGreat

namespace Go.Proofs.YtdddhmipifkepaaGreat
set_option maxRecDepth 100000
set_option linter.unusedSimpArgs false
set_option linter.unusedVariables false
open Go.RowKit Go.Shelf
attribute [local go_sem] Oper.semAt_some
section
variable {b most : Nat} {M : Cells} {P : Nat → Nat} {F : Nat → Prop}
theorem from1_ok (z7 z3 z8 n : Nat) (w : World) (h7 : w.cell? ⟨z7, 0, none⟩ = some (.int .i64 0)) :
    CallsDIn Fence.wide n Tryz.prog 110 #[.pointer (some ⟨z7, 0, none⟩), .pointer (some ⟨z3, 0, none⟩), .pointer (some ⟨z8, 0, none⟩)] .returning w fun e u' w' => (∃ v, e = .returned v) ∧ u' = .returning ∧ w' = w := by
  refine callsDIn_of_wpSIn Tryz.func110 rfl trivial fun c₀ cs hu => ?_
  simp only [Tryz.ntmps110, List.size_toArray, List.length_cons, List.length_nil, Nat.reduceAdd, Nat.reduceSub, Array.replicate_succ, Array.replicate_zero, List.push_toArray, List.append_toArray, List.nil_append, List.cons_append]
  apply wpSIn_seq
  apply wpSIn_region
  simp [wpOpsSIn, go_sem, recoverD, hu, Exit.thenS]
  refine wpSIn_of_wpIn rfl ?_
  gi_wp2
  cases c₀
  simp_all [bodyPostS, results, Tryz.results110]
theorem from1_no (z7 z3 z8 n root N bh : Nat) (er : Int) (w : World) (hn : 2 ≤ n) (h7 : w.cell? ⟨z7, 0, none⟩ = some (.int .i64 er)) (he : er ≠ 0) (h3 : C2 w z3 26 (ap b) (.pointer (some ⟨bh, 0, none⟩))) (h8 : C2 w z8 54 (.int .i64 (N : Int)) (.int .i64 (root : Int)))
    (h : Ar w b most M F) (hm : most ≤ 1048576) (hP : ∀ j, P j ≤ 576460752303423488) (hb : Bk (most + 1) M [] P [root]) :
    CallsDIn Fence.wide n Tryz.prog 110 #[.pointer (some ⟨z7, 0, none⟩), .pointer (some ⟨z3, 0, none⟩), .pointer (some ⟨z8, 0, none⟩)] .returning w fun e u' w' => (∃ v, e = .returned v) ∧ u' = .returning ∧ ∃ M', Bk (most + 1) M' [] P [] ∧ Keeps P M M' ∧ live (most + 1) M' ≤ live (most + 1) M ∧ Stp w w' b most M' F := by
  have HD := Lib.hid (drop1_bk root w h hm hP hb)
  obtain ⟨x0, x1, _⟩ := h3.all
  obtain ⟨x2, x3, _⟩ := h8.all
  have hne : (er != 0) = true := by simpa using he
  clear h hm hP hb h3 h8
  refine callsDIn_of_wpSIn Tryz.func110 rfl trivial fun c₀ cs hu => ?_
  simp only [Tryz.ntmps110, List.size_toArray, List.length_cons, List.length_nil, Nat.reduceAdd, Nat.reduceSub, Array.replicate_succ, Array.replicate_zero, List.push_toArray, List.append_toArray, List.nil_append, List.cons_append]
  apply wpSIn_seq
  apply wpSIn_region
  simp [wpOpsSIn, go_sem, recoverD, hu, Exit.thenS]
  refine wpSIn_of_wpIn rfl ?_
  gi_wp2
  refine ⟨trivial, fun _ => by omega, (callsIn_wide.2 HD.out).mono ?_⟩
  rintro e w' ⟨⟨z, rfl⟩, hM⟩
  have HM := Lib.hid hM
  clear hM HD x0 x1 x2 x3 h7 hne he
  gi_wp2
  have hM := HM.out
  clear HM
  cases c₀
  simp_all [bodyPostS, results, Tryz.results110]
end
abbrev mark (D : Nat) : Deferred := { target := .collected D, args := #[] }
theorem leaves_marks {Fe : Fence} {n : Nat} {P : Program} {fn : Func} {tmps : Array Value} {R : Ending → World → Prop} {ds : List Deferred} : ∀ (Ds : List Nat) (W : World), Ds.Nodup → (∀ D ∈ Ds, W.heap[D]? = some (.deferred (some []))) →
    (∀ W', Kp (fun q => q ∈ Ds) W W' → LeavesInM Fe n P fn tmps R ds .returning W') → LeavesInM Fe n P fn tmps R (Ds.map mark ++ ds) .returning W
  | [], W, _, _, h => h W (Kp.refl _ W)
  | D :: Ds, W, hn, hD, h => by
    have h1 := hD D (by simp)
    refine ⟨by simp, .inl ⟨_, _, rfl, run_takeDeferred h1, ?_⟩⟩
    refine leaves_marks Ds _ (List.nodup_cons.1 hn).2 (fun D' hD' => ?_) (fun W' hk => h W' ((kp_putObj.mono (fun q e _ => by rw [e]; simp)).trans hk (fun q e => .inl (by simp [e]))))
    exact (World.putObj_heap_other (by rintro rfl; exact (List.nodup_cons.1 hn).1 hD')).trans (hD D' (by simp [hD']))
end Go.Proofs.YtdddhmipifkepaaGreat

namespace Go.Proofs.YtdddhmipifkepaaGreat
set_option maxRecDepth 100000
set_option linter.unusedSimpArgs false
set_option linter.unusedVariables false
open Go.RowKit Go.Shelf
theorem LeastF.cells {A : World} {b most q : Nat} {M : Cells} {F : Nat → Prop} {o : Obj} (h : Ar A b most M F) (hq : LeastF A b most F q) (ho : A.heap[q]? = some o) : o.isCells = true := by
  cases hc : o.isCells with
  | true => rfl
  | false => exact absurd rfl (hq.2 M _ (h.cut ho hc)).2
def addAll (hs : Ky → Nat) (wb : Ky → Bool) : List Ky → List Pr → List Pr
  | [], L => L
  | k :: ks, L => addAll hs wb ks (if wb k then putL hs (k, noV) L else L)
theorem addAll_append {hs : Ky → Nat} {wb : Ky → Bool} : ∀ (a c : List Ky) (L : List Pr), addAll hs wb (a ++ c) L = addAll hs wb c (addAll hs wb a L)
  | [], _, _ => rfl
  | k :: a, c, L => by
    show addAll hs wb (a ++ c) _ = _
    rw [addAll_append a c]
    rfl
theorem addAll_step {hs : Ky → Nat} {wb : Ky → Bool} {xs : List Ky} {i : Nat} {k : Ky} (h : xs[i]? = some k) (L : List Pr) : addAll hs wb (xs.take (i + 1)) L = if wb k then putL hs (k, noV) (addAll hs wb (xs.take i) L) else addAll hs wb (xs.take i) L := by
  rw [List.take_add_one, h, Option.toList_some, addAll_append]
  rfl
def Rt (P : Nat → Nat) (rt : Nat) : Prop := rt = 0 ∨ 1 ≤ P rt
structure Kx (w0 : World) (F0 : Nat → Prop) (bh : Nat) (M0 : Cells) (P : Nat → Nat) (n0 l b most : Nat) (A B : World) : Prop where
  kw : ∀ rt, Rt P rt → Kw n0 l b most M0 rt A B
  old : Kp (fun q => F0 q ∨ q = bh) w0 A → Kp (fun q => F0 q ∨ q = bh) w0 B
section
variable {w0 : World} {F0 : Nat → Prop} {bh seed n0 l b most : Nat} {M0 M M' : Cells} {P : Nat → Nat} {F G : Nat → Prop} {A B C : World}
theorem Kx.trans (h : Kx w0 F0 bh M0 P n0 l b most A B) (k : Kx w0 F0 bh M0 P n0 l b most B C) : Kx w0 F0 bh M0 P n0 l b most A C := ⟨fun rt hr => (h.kw rt hr).trans (k.kw rt hr), fun h0 => k.old (h.old h0)⟩
theorem Kx.of_kp (h : Ar A b most M F) (hk : Kp G A B) (hF : ∀ q, G q → ¬ F q) (hG : ∀ q, G q → q < n0 ∧ ∀ o : Obj, A.heap[q]? = some o → o.isCells = true) (hO : ∀ q, G q → q = bh ∨ w0.heap.size ≤ q) : Kx w0 F0 bh M0 P n0 l b most A B := by
  refine ⟨fun rt _ => ⟨Kv.of_kp h hk hF (fun q cur t hq hn _ => by have := (hG q hq).1; omega), fun q x hn hc hs => ⟨hc.kp hk (fun hq => by have := (hG q hq).1; omega), ?_⟩, fun q o hn _ ho hc => ?_, hk.size⟩, fun h0 => h0.trans hk (fun q hq => (hO q hq).imp .inr id)⟩
  · obtain ⟨M1, F1, h1, h2⟩ := hs
    exact ⟨M1, _, (h1.meet h).kp hk (fun q hf hg => hF q hg hf.2), fun hf => h2 hf.1⟩
  · exact (hk.block q (Array.getElem?_eq_some_iff.1 ho).1 (fun hq => by have := (hG q hq).1; omega)).trans ho
theorem Kx.below (hb : Below A.heap.size A B) : Kx w0 F0 bh M0 P n0 l b most A B := ⟨fun rt _ => Kw.below hb, fun h0 => h0.trans (Kp.of_below hb (fun _ => False)) (fun _ h => h.elim)⟩
theorem reach_zero (h : M 0 = none) {x : Nat} (hx : _root_.Go.Proofs.YtdddhmipifkepaaGreat.Reach M 0 x) : x = 0 := by
  induction hx with
  | refl => rfl
  | @kid y k hy hk h0 ih =>
    rw [ih, h] at hk
    simp [kd] at hk
theorem pres_zero (h : M 0 = none) : Pres M M' 0 := fun x c q hx e => by
  rw [reach_zero h hx, h] at e
  cases e
theorem Hs.cells {w : World} (h : Hs w bh seed) (o : Obj) (ho : w.heap[bh]? = some o) : o.isCells = true := by
  obtain ⟨_, _, _, h, _⟩ := h
  have h1 : w.heap[bh]? = some _ := h
  rw [ho] at h1
  rw [Option.some.inj h1]
  rfl
theorem Kx.put (h : Ar A b most M F) (hs : StpH A B b bh seed most M' (LeastF A b most F)) (hbh : bh < n0 ∧ bh < w0.heap.size) (hA : n0 ≤ A.heap.size) (hF : ∀ q, F q → F0 q ∨ w0.heap.size ≤ q) (hz : M0 0 = none) (hp : Keeps P M0 M') (hbc : ∀ o : Obj, A.heap[bh]? = some o → o.isCells = true) : Kx w0 F0 bh M0 P n0 l b most A B := by
  have key : ∀ rt, Rt P rt → Pres M0 M' rt := fun rt hr => by
    rcases hr with rfl | hr
    · exact pres_zero hz
    · by_cases h0 : rt = 0
      · subst h0; exact pres_zero hz
      · exact hp rt h0 hr
  refine ⟨fun rt hr => ⟨Kv.of_put (G := fun q => q = bh) hs.kp hs.ar (fun q hq => hq.elim .inl (fun h => .inr (.inr h.1))) (key rt hr) (fun q cur t hq hn _ => by omega), fun q x hn hc hsf => ?_, fun q o hn _ ho hc => ?_, hs.kp.size⟩, fun h0 => h0.trans hs.kp (fun q hq => hq.elim (fun hq => (hF q hq.1).imp .inl id) (fun e => .inl (.inr e)))⟩
  · have hne : ¬ (LeastF A b most F q ∨ q = bh) := fun hq => hq.elim (LeastF.safe hsf) (fun e => by omega)
    exact ⟨hc.kp hs.kp hne, M', _, hs.ar, fun hf => hf.elim (LeastF.safe hsf) (fun e => by have := hc.lt; omega)⟩
  · refine (hs.kp.block q (Array.getElem?_eq_some_iff.1 ho).1 (fun hq => hq.elim (fun hq => ?_) (fun e => by omega))).trans ho
    rw [LeastF.cells h hq ho] at hc
    cases hc
theorem Kx.others (h : Ar A b most M F) (hs : StpH A B b bh seed most M' (LeastF A b most F)) (hbc : ∀ o : Obj, A.heap[bh]? = some o → o.isCells = true) : KeepsOthers A B :=
  KeepsOthers.of_kp hs.kp (fun q o hq ho => hq.elim (fun hq => LeastF.cells h hq ho) (fun e => hbc o (e ▸ ho)))
theorem Kx.putObj {o o' : Obj} (hx : A.heap[l]? = some o) (hc : o.isCells = false) (hl : w0.heap.size ≤ l) : Kx w0 F0 bh M0 P n0 l b most A (A.putObj l o') :=
  ⟨fun rt _ => Kw.putObj hx hc, fun h0 => h0.trans (kp_putObj (x := l) (o := o')) (fun q e => .inr (by rw [e]; exact hl))⟩
end
end Go.Proofs.YtdddhmipifkepaaGreat
