/- Several texts in one. -/
import Derived.Test.YtkkfhbcnfknmaaaGreatMg24
import Derived.Test.YtkkfhbcnfknmaaaGreatMg20
import Derived.Deep.CutRange
import Derived.Deep.CutBlock
namespace Go.Proofs.YtkkfhbcnfknmaaaGreat
set_option maxRecDepth 100000
set_option linter.unusedSimpArgs false
set_option linter.unusedVariables false
open Go.RowKit Go.Shelf
section
variable {ev : Operand → Value} {o : Oper} {W : World} {x y : Operand} {A : Option Addr} {n c t : Nat}
theorem elem_pr8 (w : World) : (sizeOf (Tryz.prog.elem 61)).run Tryz.prog w = .ok 6 w := by kernel_rfl
theorem und_pr8 : Tryz.prog.underlying 61 = some (.slice (Tryz.prog.elem 61)) := by kernel_rfl
theorem exec_slice_pr8 (ho : o.op = .slice 61 x (some y) none none) (hx : ev x = .slice A n c) (hy : ev y = .int .i64 (t : Nat)) (ht : t ≤ n) : (execOp ev o).run Tryz.prog W = .ok (.value (.slice (if c = t then A else A.map (·.add (t * 6))) (n - t) (c - t))) W := by
  have h1 := run_slice_l (P := Tryz.prog) (w := W) 61 A n c und_pr8 .i64 (t : Int) (by omega) (by omega)
  rw [elem_pr8, Int.toNat_natCast] at h1
  unfold execOp
  simp only [ho, hx, hy, Option.map_some, Option.map_none, run_sliceAt_slice _ _ _ _ _ _ und_pr8, h1, Result.andThen_ok, Sem.run_bind, Sem.run_pure, sliced]
theorem wpList_slice_pr8 {ops : Array Oper} {rest : List Oper} {a : Act} {Q : Exit → Act → World → Prop} (hgd : o.guard = none) (x y : Operand) (ho : o.op = .slice 61 x (some y) none none) (A : Option Addr) (n c t : Nat) (hx : a.eval x = .slice A n c) (hy : a.eval y = .int .i64 (t : Nat)) (ht : t ≤ n)
    (A' : Option Addr) (n' c' : Nat) (hA : (A', n', c') = (if c = t then A else A.map (·.add (t * 6)), n - t, c - t)) (h : wpList Tryz.prog ops Q rest (a.put o.dst (.slice A' n' c')) W) : wpList Tryz.prog ops Q (o :: rest) a W :=
  wpList_plain hgd fun K hK => by
    simp only [Prod.mk.injEq] at hA
    obtain ⟨rfl, rfl, rfl⟩ := hA
    unfold Oper.wp
    rw [exec_slice_pr8 ho hx hy ht]
    exact hK _ _ h
end
theorem rd_drop8 {w : World} {base c t n' c' : Nat} {A A' : Option Addr} {l : List Pr} (h : w.ownsRow base 109 6 (.slice A l.length c) l.length (l.flatMap pcells)) (ht : t ≤ l.length)
    (hA : (A', n', c') = (if c = t then A else A.map (·.add (t * 6)), l.length - t, c - t)) : Rd w (.slice A' (l.drop t).length c') (l.drop t).length ((l.drop t).flatMap pcells) := by
  simp only [Prod.mk.injEq] at hA
  obtain ⟨rfl, rfl, rfl⟩ := hA
  have hfl : (l.drop t).flatMap pcells = (l.flatMap pcells).drop (t * 6) := by
    have h1 : l.flatMap pcells = (l.take t).flatMap pcells ++ (l.drop t).flatMap pcells := by rw [← List.flatMap_append, List.take_append_drop]
    have h2 : ((l.take t).flatMap pcells).length = t * 6 := by rw [pflat_len, List.length_take, Nat.min_eq_left ht]
    rw [h1, ← h2, List.drop_left]
  rcases Rd.of_own h with ⟨e, e2, e3⟩ | ⟨b, o, c', e, hc, hx⟩
  · have h0 : l = [] := List.eq_nil_of_length_eq_zero e2
    subst h0
    simp only [Value.slice.injEq] at e
    obtain ⟨rfl, _, rfl⟩ := e
    simp only [List.length_nil, Nat.le_zero] at ht
    subst ht
    exact .inl ⟨by simp, rfl, rfl⟩
  · simp only [Value.slice.injEq, true_and] at e
    obtain ⟨rfl, rfl⟩ := e
    by_cases hct : c = t
    · rw [if_pos hct]
      refine .inr ⟨b, o, c - t, rfl, by rw [List.length_drop]; omega, fun j u hu => ?_⟩
      have h4 : l.length = t := by omega
      rw [List.drop_eq_nil_of_le (by omega)] at hu
      simp at hu
    · rw [if_neg hct]
      refine .inr ⟨b, o + t * 6, c - t, by simp [add_none], by rw [List.length_drop]; omega, fun j u hu => ?_⟩
      rw [hfl, List.getElem?_drop] at hu
      have := hx _ _ hu
      rwa [Nat.add_assoc]
theorem lt_klt {l : List Pr} {k : Ky} {j : Nat} (h : LtB k l j) : ∀ p ∈ l.take j, klt h0 p.1 k := fun p hp => by
  obtain ⟨i, hi⟩ := List.mem_iff_getElem?.1 hp
  rw [List.getElem?_take] at hi
  split at hi
  · rename_i hij
    exact h0_klt.2 (vc_lt.1 (h i p hi hij))
  · cases hi
theorem ge_klt {l : List Pr} {k : Ky} {j : Nat} (hs : Srt h0 l) (h : ∀ p, l[j]? = some p → ¬ vc p.1 k < 0 ∧ p.1 ≠ k) : ∀ p ∈ l.drop j, klt h0 k p.1 := fun p hp => by
  obtain ⟨i, hi⟩ := List.mem_iff_getElem?.1 hp
  rw [List.getElem?_drop] at hi
  have hlt : j < l.length := by have := (List.getElem?_eq_some_iff.1 hi).1; omega
  obtain ⟨q, hq⟩ : ∃ q, l[j]? = some q := ⟨_, List.getElem?_eq_getElem hlt⟩
  obtain ⟨h1, h2⟩ := h q hq
  have h3 : vc k q.1 = -1 := by
    have h4 := vc_swap k q.1
    have h5 : ¬ vc q.1 k = 0 := fun e => h2 (vc_eq.1 e)
    have h6 := vc_lt (a := k) (b := q.1)
    omega
  by_cases e : i = 0
  · subst e
    rw [Nat.add_zero, hq] at hi
    cases hi
    exact h0_klt.2 h3
  · exact h0_klt.2 (vc_trans h3 (srt_at hs hq hi (by omega)))
theorem pone (l : List Pr) : ∀ u ∈ l.flatMap pcells, u.oneCell' = true := fun u hu => by
  obtain ⟨p, _, hp⟩ := List.mem_flatMap.1 hu
  simp only [pcells, cells3, List.cons_append, List.nil_append, List.mem_cons, List.not_mem_nil, or_false] at hp
  rcases hp with rfl | rfl | rfl | rfl | rfl | rfl <;> rfl
theorem put_new {l : List Pr} {p : Pr} {j : Nat} (hs : Srt h0 l) (h : LtB p.1 l j) (hn : ∀ q, l[j]? = some q → ¬ vc q.1 p.1 < 0 ∧ q.1 ≠ p.1) : l.take j ++ [p] ++ l.drop j = putL h0 p l := by
  have h1 := put_mid (v := p.2) (k := p.1) (pre := l.take j) (suf := l.drop j) (by rwa [List.take_append_drop]) (lt_klt h) (ge_klt hs hn)
  rw [List.take_append_drop] at h1
  rw [List.append_assoc]
  exact h1
theorem put_old {l : List Pr} {p q : Pr} {j : Nat} (hs : Srt h0 l) (hq : l[j]? = some q) (hk : q.1 = p.1) : l.take j ++ [p] ++ l.drop (j + 1) = putL h0 p l := by
  have h0' : l = l.take j ++ (p.1, q.2) :: l.drop (j + 1) := by
    have h2 : l.drop j = q :: l.drop (j + 1) := by
      obtain ⟨hlt, rfl⟩ := List.getElem?_eq_some_iff.1 hq
      exact List.drop_eq_getElem_cons hlt
    have e : (p.1, q.2) = q := by rw [← hk]
    rw [e, ← h2, List.take_append_drop]
  have h1 := put_val (k := p.1) (v := q.2) (v' := p.2) (pre := l.take j) (suf := l.drop (j + 1)) (h0' ▸ hs)
  rw [List.append_assoc]
  rw [← h0'] at h1
  exact h1
section
set_option maxHeartbeats 6400000 in
theorem rput11 (base : Nat) (v : Value) (p : Pr) (l : List Pr) (w : World) (hs : Srt h0 l) (hl : l.length ≤ 1000000) (hk : p.1.2.2.size ≤ 9223372036854775807) (hq : ∀ q ∈ l, q.1.2.2.size ≤ 9223372036854775807) (ho : w.ownsRow base 109 6 v l.length (l.flatMap pcells)) :
    Calls Tryz.prog 96 #[v, .agg #[.int .u8 p.1.1, .int .i64 p.1.2.1, .string p.1.2.2, .int .u8 p.2.1, .int .i64 p.2.2.1, .string p.2.2.2]] w fun e w' => ∃ y, e = .returned y ∧ w'.ownsRow w.heap.size 109 6 y (putL h0 p l).length ((putL h0 p l).flatMap pcells) ∧ Below w.heap.size w w' := by
  obtain ⟨⟨pk, pn, ps⟩, pv⟩ := p
  obtain ⟨A, c, rfl, hc⟩ := (Rd.of_own ho).form
  obtain ⟨W0, hW0⟩ : ∃ W0, W0 = w.alloc (.cells #[.int .u8 pk, .int .i64 pn, .string ps, .int .u8 pv.1, .int .i64 pv.2.1, .string pv.2.2] 109) := ⟨_, rfl⟩
  have hb0 : Below w.heap.size w W0 := by rw [hW0]; exact (Below.refl _ w).alloc (Nat.le_refl _) _
  have q3 : C6 W0 w.heap.size 109 (.int .u8 pk) (.int .i64 pn) (.string ps) (.int .u8 pv.1) (.int .i64 pv.2.1) (.string pv.2.2) := by rw [hW0]; exact C6.new w _ _ _ _ _ _ _
  have HB0 := Lib.hid hb0
  have HQ := Lib.hid (And.intro q3 ((Kp.of_below hb0 (fun _ => False)).own ho (fun _ _ h => h)))
  have HP := Lib.hid (Tk8.mk (w := W0) (m := []) (x := .slice none 0 0) (Below.refl _ W0) (World.ownsRow_nil _ _ _ _))
  have HKL := Lib.hid (fun (x : Pr) {j : Nat} (hx : l[j]? = some x) => hq x (List.mem_of_getElem? hx))
  have HK := Lib.hid hk
  have HS := Lib.hid (And.intro hs hl)
  clear hs
  obtain ⟨z, hz⟩ : ∃ z, z = w.heap.size := ⟨_, rfl⟩
  have HZ := Lib.hid hz
  rw [← hz] at HQ
  obtain ⟨i1, hi1, hy0, hy1, hy2⟩ := info_parts pinfo8
  clear ho q3 hb0 hq hk
  go_enter Tryz.func96, Tryz.ntmps96
  go_upto_block 0 with fail
  rw [← hW0, ← hz]
  clear hW0 hz
  go_cut [5, 6] from 7 to 7 (fun s i wc => ∃ j : Nat, i = .int .i64 (j : Nat) ∧ j ≤ l.length ∧ Tk8 W0 wc (l.take j) s ∧ Hid (LtB (pk, pn, ps) l j ∧ ∀ q, l[j]? = some q → ¬ vc q.1 (pk, pn, ps) < 0))
  case first =>
    go_wp2_with fail
    go_loopg [5, 6] l.length (fun c' s i wr => ∃ (j : Nat) (m : List Pr), j + c' = l.length ∧ i = .int .i64 (j : Nat) ∧ Tk8 W0 wr m s ∧ Hid (m = l.take j ∧ LtB (pk, pn, ps) l j))
    case atStart => exact ⟨0, [], by omega, rfl, HP.out, Lib.hid ⟨rfl, fun _ _ _ h => by omega⟩⟩
    case round =>
      obtain ⟨j, m, hj, rfl, hP, HM⟩ := hrel
      obtain ⟨A1, m1, rfl, hm1⟩ := (Rd.of_own hP.own).form
      by_cases hjl : j < l.length
      · have HB := Lib.hid hP.bel
        have HO := Lib.hid hP.own
        have HJ := Lib.hid (And.intro hj hjl)
        have hlt : (j : Int) < (l.length : Int) := by omega
        have hj0 : (0 : Int) ≤ (j : Int) := by omega
        obtain ⟨q, hp⟩ : ∃ q, l[j]? = some q := ⟨_, List.getElem?_eq_getElem hjl⟩
        have HR := Lib.hid ((Kp.of_below hP.bel (fun _ => False)).own HQ.out.2 (fun _ _ h => h))
        obtain ⟨g, rfl, c0, c1, c2, c3, c4, c5⟩ := row6 HR.out hp
        have hb := HQ.out.1.below HB.out
        obtain ⟨b0, b1, b2, b3, b4, b5, _⟩ := hb.all
        have hzz : z < wr.heap.size := hb.lt
        have hgg := World.block_lt_of_cell? wr _ c0
        have z0 := Gb.cell b0 hzz
        have z1 := Gb.cell b1 hzz
        have z2 := Gb.cell b2 hzz
        have y0 := Gb.cell c0 hgg
        have y1 := Gb.cell c1 hgg
        have y2 := Gb.cell c2 hgg
        have HX := Lib.hid hp
        have HCM := Lib.hid (fun W => show Calls Tryz.prog 97 #[vv q.1.1 q.1.2.1 q.1.2.2, vv pk pn ps] W fun e w' => e = .returned (.int .i64 (vc q.1 (pk, pn, ps))) ∧ Below W.heap.size W w' from (ref_compare q.1.1 q.1.2.1 q.1.2.2 pk pn ps W (HKL.out _ hp) HK.out).mono (fun e w' h => ⟨h.1, h.2.below.mono (Nat.le_refl _)⟩))
        clear hp hP hj HR hb b0 b1 b2 b3 b4 b5 c0 c1 c2 c3 c4 c5 hzz hgg
        go_wp2_with fail
        refine region_below (by kernel_rfl) (by kernel_rfl) ?_
        repeat (go_big_quiet_step ((go_at_call 97; exact Gb.calls _ (HCM.out _))))
        refine wpQuiet_nil ?_
        rintro _ ⟨g9, rfl⟩
        have HB6 := Lib.hid (HB.out.trans (g9.below.mono HB.out.size))
        have HO6 := Lib.hid ((Kp.of_below g9.below (fun _ => False)).own HO.out (fun _ _ => id))
        generalize g9.at' = w6 at HB6 HO6 ⊢
        clear z0 z1 z2 y0 y1 y2 HB HO HCM g9
        by_cases hv : vc q.1 (pk, pn, ps) < 0
        · have HV := Lib.hid hv
          obtain ⟨c0, c1, c2, c3, c4, c5⟩ := row6g ((Kp.of_below HB6.out (fun _ => False)).own HQ.out.2 (fun _ _ h => h)) HX.out
          go_wp2_with (at_builtin; refine wpList_append_rd rfl _ _ 61 rfl W0.heap.size 109 i1 _ 6 64 Tryz.underlying61 hi1 hy0 hy1 hy2 rfl (by decide) (.slice A1 (m.length) m1) (m.length) (m.flatMap pcells) rfl ?k0 _ 1 [.int .u8 q.1.1, .int .i64 q.1.2.1, .string q.1.2.2, .int .u8 q.2.1, .int .i64 q.2.2.1, .string q.2.2.2] rfl ?k1 rfl (by simp [Value.oneCell']) ?k2 ?k3 ?k4 ?_)
          case k0 => exact (Kp.of_below ((Below.refl _ w6).alloc (Nat.le_refl _) _) (fun _ => False)).own HO6.out (fun _ _ => id)
          case k1 => exact rd_six _ _ _ _ _ _ _ _ _ rfl
          case k2 => have := HM.out.1; have : m.length ≤ l.length := by rw [this, List.length_take]; omega
                     unfold maxLen; omega
          case k3 => have := HM.out.1; have : m.length ≤ l.length := by rw [this, List.length_take]; omega
                     omega
          case k4 => have := HB6.out.size; simp; omega
          intro v7 w7 hown hg hat
          obtain ⟨A7, m7, rfl, _⟩ := (Rd.of_own hown).form
          have hb3 : Below w6.heap.size w6 (w6.alloc (.cells #[.int .u8 q.1.1, .int .i64 q.1.2.1, .string q.1.2.2, .int .u8 q.2.1, .int .i64 q.2.2.1, .string q.2.2.2] 109)) := (Below.refl _ w6).alloc (Nat.le_refl _) _
          have HB7 := Lib.hid ((HB6.out.trans (hb3.mono HB6.out.size)).grown hg (HB6.out.trans (hb3.mono HB6.out.size)).size (fun q e => (HO6.out.lt q e).1))
          have HO7 := Lib.hid hown
          clear hg hat hown hb3 c0 c1 c2 c3 c4 c5
          have w1 : wrap64 ((j : Int) + 1) = (j : Int) + 1 := IntWalk.wrap64_in _ (by omega)
          go_wp2_with fail
          go_roundg (l.length - (j + 1))
          case measure => have := HJ.out; omega
          case rel => exact ⟨j + 1, m ++ [q], by have := HJ.out; omega, by go_num, Tk8.one HB7.out HO7.out, Lib.hid ⟨by rw [HM.out.1, List.take_add_one, HX.out]; rfl, fun t p ht hlt' => by
            by_cases e : t < j
            · exact HM.out.2 t p ht e
            · obtain rfl : t = j := by omega
              rw [HX.out] at ht
              cases ht
              exact HV.out⟩⟩
        · have HV := Lib.hid hv
          go_wp2_with fail
          go_meet
          case rel =>
            have hm := HM.out.1
            subst hm
            exact ⟨j, rfl, by have := HJ.out; omega, ⟨HB6.out, HO6.out⟩, Lib.hid ⟨HM.out.2, fun q' hq' => by rw [HX.out] at hq'; cases hq'; exact HV.out⟩⟩
      · have hlt : ¬ (j : Int) < (l.length : Int) := by omega
        have HB6 := Lib.hid hP.bel
        have HO6 := Lib.hid hP.own
        have HJ := Lib.hid (show j = l.length by omega)
        clear hP hj
        go_wp2_with fail
        go_quiet (fail)
        go_wp2_with fail
        go_meet
        case rel =>
          have hm := HM.out.1
          subst hm
          have hb := (below_drewN wr nq)
          exact ⟨j, rfl, by have := HJ.out; omega, ⟨HB6.out.trans (hb.mono HB6.out.size), (Kp.of_below hb (fun _ => False)).own HO6.out (fun _ _ => id)⟩, Lib.hid ⟨HM.out.2, fun q' hq' => by have := (List.getElem?_eq_some_iff.1 hq').1; have := HJ.out; omega⟩⟩
  case rest =>
    obtain ⟨j, rfl, hj, hP, HM⟩ := hcut
    obtain ⟨A1, m1, rfl, hm1⟩ := (Rd.of_own hP.own).form
    have hlt : (l.take j).length = j := by rw [List.length_take, Nat.min_eq_left hj]
    rw [hlt] at hm1 ⊢
    have HO5 := Lib.hid (show wc.ownsRow W0.heap.size 109 6 (.slice A1 j m1) j ((l.take j).flatMap pcells) from by have := hP.own; rwa [hlt] at this)
    have HB5 := Lib.hid hP.bel
    obtain ⟨b0, b1, b2, b3, b4, b5, _⟩ := (HQ.out.1.below HB5.out).all
    clear hP hlt
    go_upto_region 7 with (at_builtin; refine wpList_append_rd rfl _ _ 61 rfl W0.heap.size 109 i1 _ 6 64 Tryz.underlying61 hi1 hy0 hy1 hy2 rfl (by decide) (.slice A1 j m1) j ((l.take j).flatMap pcells) rfl ?k0 _ 1 [.int .u8 pk, .int .i64 pn, .string ps, .int .u8 pv.1, .int .i64 pv.2.1, .string pv.2.2] rfl ?k1 rfl (by simp [Value.oneCell']) ?k2 ?k3 ?k4 ?_)
    case k0 => exact (Kp.of_below ((Below.refl _ wc).alloc (Nat.le_refl _) _) (fun _ => False)).own HO5.out (fun _ _ => id)
    case k1 => exact rd_six _ _ _ _ _ _ _ _ _ rfl
    case k2 => unfold maxLen; omega
    case k3 => omega
    case k4 => have := HB5.out.size; omega
    intro v7 w7 hown hg hat
    obtain ⟨A7, m7, rfl, _⟩ := (Rd.of_own hown).form
    have hb3 : Below wc.heap.size wc (wc.alloc (.cells #[.int .u8 pk, .int .i64 pn, .string ps, .int .u8 pv.1, .int .i64 pv.2.1, .string pv.2.2] 109)) := (Below.refl _ wc).alloc (Nat.le_refl _) _
    have HB7 := Lib.hid ((HB5.out.trans (hb3.mono HB5.out.size)).grown hg (HB5.out.trans (hb3.mono HB5.out.size)).size (fun q e => (HO5.out.lt q e).1))
    have HO7 := Lib.hid (show w7.ownsRow W0.heap.size 109 6 (.slice A7 (j + 1) m7) (j + 1) ((l.take j ++ [((pk, pn, ps), pv)]).flatMap pcells) from by rw [List.flatMap_append, List.flatMap_singleton]; exact hown)
    clear hg hat hown hb3 b0 b1 b2 b3 b4 b5
    go_upto_region 7 with fail
    obtain ⟨b0, b1, b2, b3, b4, b5, _⟩ := (HQ.out.1.below HB7.out).all
    have HR7 := Lib.hid ((Kp.of_below HB7.out (fun _ => False)).own HQ.out.2 (fun _ _ h => h))
    go_cut [48] from 35 to 47 (fun s48 wd => ∃ (e : Bool) (q : Nat), s48 = .bool e ∧ wd = w7.drewN q ∧ Hid ((if e then j + 1 else j) ≤ l.length ∧ l.take j ++ [((pk, pn, ps), pv)] ++ l.drop (if e then j + 1 else j) = putL h0 ((pk, pn, ps), pv) l))
    case first =>
      by_cases hjl : j < l.length
      · obtain ⟨q, hp⟩ : ∃ q, l[j]? = some q := ⟨_, List.getElem?_eq_getElem hjl⟩
        obtain ⟨g, rfl, c0, c1, c2, c3, c4, c5⟩ := row6 HR7.out hp
        have hlt : (j : Int) < (l.length : Int) := by omega
        have hj0 : (0 : Int) ≤ (j : Int) := by omega
        have w1 : wrap64 ((j : Int) + 1) = (j : Int) + 1 := IntWalk.wrap64_in _ (by omega)
        have HX := Lib.hid (And.intro hp hjl)
        obtain ⟨⟨qk, qn, qs⟩, qv⟩ := q
        simp only at c0 c1 c2 c3 c4 c5
        have HGE : Hid (¬ vc (qk, qn, qs) (pk, pn, ps) < 0) := Lib.hid (by have hge := HM.out.2 _ hp; simp only [Int.not_lt] at hge ⊢; exact hge)
        have hnew : ((qk, qn, qs) : Ky) ≠ (pk, pn, ps) → Hid (j ≤ l.length ∧ l.take j ++ [((pk, pn, ps), pv)] ++ l.drop j = putL h0 ((pk, pn, ps), pv) l) := fun hne => Lib.hid ⟨by omega, put_new HS.out.1 HM.out.1 (fun q' hq' => by
          have := HX.out.1
          rw [this] at hq'
          cases hq'
          exact ⟨HGE.out, hne⟩)⟩
        clear hp hjl
        by_cases e0 : qk = pk
        · by_cases e1 : qn = pn
          · by_cases e2 : qs = ps
            · subst e0 e1 e2
              have hold : Hid (j + 1 ≤ l.length ∧ l.take j ++ [((qk, qn, qs), pv)] ++ l.drop (j + 1) = putL h0 ((qk, qn, qs), pv) l) := Lib.hid ⟨by have := HX.out.2; omega, put_old HS.out.1 HX.out.1 rfl⟩
              clear hnew
              go_wp2_with fail
              go_quiet (fail)
              go_wp2_with fail
              go_meet
              case rel => exact ⟨true, nq, rfl, rfl, hold⟩
            · have e3 : ¬ qs.toList = ps.toList := fun h => e2 (bytes_ext h)
              have hh := hnew (fun e => e2 (congrArg (fun x : Ky => x.2.2) e))
              clear hnew
              subst e0 e1
              go_wp2_with fail
              go_quiet (fail)
              go_wp2_with fail
              go_meet
              case rel => exact ⟨false, nq, rfl, rfl, hh⟩
          · have hh := hnew (fun e => e1 (congrArg (fun x : Ky => x.2.1) e))
            clear hnew
            subst e0
            go_wp2_with fail
            go_quiet (fail)
            go_wp2_with fail
            go_meet
            case rel => exact ⟨false, nq, rfl, rfl, hh⟩
        · have hh := hnew (fun e => e0 (congrArg (fun x : Ky => x.1) e))
          clear hnew
          go_wp2_with fail
          go_quiet (fail)
          go_wp2_with fail
          go_meet
          case rel => exact ⟨false, nq, rfl, rfl, hh⟩
      · have hlt : ¬ (j : Int) < (l.length : Int) := by omega
        have hh : Hid (j ≤ l.length ∧ l.take j ++ [((pk, pn, ps), pv)] ++ l.drop j = putL h0 ((pk, pn, ps), pv) l) := Lib.hid ⟨hj, put_new HS.out.1 HM.out.1 (fun q' hq' => by have := (List.getElem?_eq_some_iff.1 hq').1; omega)⟩
        go_wp2_with fail
        go_quiet (fail)
        go_wp2_with fail
        go_meet
        case rel => exact ⟨false, nq, rfl, rfl, hh⟩
    case rest =>
      obtain ⟨e, q, rfl, rfl, HJ⟩ := hcut
      have hb8 := below_drewN w7 q
      have HO8 := Lib.hid ((Kp.of_below hb8 (fun _ => False)).own HO7.out (fun _ _ => id))
      have HR8 := Lib.hid ((Kp.of_below hb8 (fun _ => False)).own HR7.out (fun _ _ => id))
      have HB8 := Lib.hid (HB7.out.trans (hb8.mono HB7.out.size))
      have HW := Lib.hid (show wrap64 ((j : Int) + 1) = ((j + 1 : Nat) : Int) from by rw [IntWalk.wrap64_in _ (by omega)]; rfl)
      clear b0 b1 b2 b3 b4 b5 hb8
      generalize w7.drewN q = w8 at HO8 HR8 HB8 ⊢
      cases e
      · replace HJ := Lib.hid (show j ≤ l.length ∧ l.take j ++ [((pk, pn, ps), pv)] ++ l.drop (j) = putL h0 ((pk, pn, ps), pv) l from HJ.out)
        have hjj := HJ.out.1
        have hjn : (0 : Int) ≤ ((j : Nat) : Int) := by omega
        obtain ⟨A9, n9, c9, hA9⟩ : ∃ A9 n9 c9, (A9, n9, c9) = (if c = j then A else A.map (·.add ((j) * 6)), l.length - (j), c - (j)) := ⟨_, _, _, rfl⟩
        have e9 : n9 = (l.drop (j)).length := by simp only [Prod.mk.injEq] at hA9; rw [hA9.2.1, List.length_drop]
        have HA9 := Lib.hid hA9
        have HRD := Lib.hid (rd_drop8 HR8.out hjj hA9)
        have HE9 := Lib.hid e9
        clear hA9 e9
        go_wp2_with (first | (refine wpList_slice_pr8 rfl _ _ rfl A l.length c (j) rfl rfl hjj A9 n9 c9 HA9.out ?_) | (at_builtin; refine wpList_append_rd rfl _ _ 61 rfl W0.heap.size 109 i1 _ 6 64 Tryz.underlying61 hi1 hy0 hy1 hy2 rfl (by decide) (.slice A7 (j + 1) m7) (j + 1) ((l.take j ++ [((pk, pn, ps), pv)]).flatMap pcells) rfl HO8.out _ n9 ((l.drop (j)).flatMap pcells) rfl (by rw [HE9.out]; exact HRD.out) (by rw [HE9.out, pflat_len]) (pone _) (by rw [HE9.out, List.length_drop]; unfold maxLen; omega) (by rw [HE9.out, List.length_drop]; omega) HB8.out.size ?_))
        intro v9 w9 hown hg hat
        have hfin : w9.ownsRow w.heap.size 109 6 v9 (putL h0 ((pk, pn, ps), pv) l).length ((putL h0 ((pk, pn, ps), pv) l).flatMap pcells) := by
          rw [← HJ.out.2]
          have h := own_less hown HB0.out.size
          have e : (l.take j ++ [((pk, pn, ps), pv)] ++ l.drop (j)).length = j + 1 + n9 := by rw [HE9.out, List.length_append, List.length_append, List.length_take, Nat.min_eq_left hj]; rfl
          rw [e, List.flatMap_append, List.flatMap_append, List.flatMap_singleton, List.append_assoc]
          exact h
        have hbel := HB0.out.trans ((HB8.out.grown hg HB8.out.size (fun q e => (HO8.out.lt q e).1)).mono HB0.out.size)
        have HF := Lib.hid (And.intro hfin hbel)
        clear hfin hbel hown hg hat
        go_wp2_with fail
        go_ret
        exact ⟨v9, rfl, HF.out.1, HF.out.2⟩
      · replace HJ := Lib.hid (show j + 1 ≤ l.length ∧ l.take j ++ [((pk, pn, ps), pv)] ++ l.drop (j + 1) = putL h0 ((pk, pn, ps), pv) l from HJ.out)
        have hjj := HJ.out.1
        have hjn : (0 : Int) ≤ ((j + 1 : Nat) : Int) := by omega
        obtain ⟨A9, n9, c9, hA9⟩ : ∃ A9 n9 c9, (A9, n9, c9) = (if c = j + 1 then A else A.map (·.add ((j + 1) * 6)), l.length - (j + 1), c - (j + 1)) := ⟨_, _, _, rfl⟩
        have e9 : n9 = (l.drop (j + 1)).length := by simp only [Prod.mk.injEq] at hA9; rw [hA9.2.1, List.length_drop]
        have HA9 := Lib.hid hA9
        have HRD := Lib.hid (rd_drop8 HR8.out hjj hA9)
        have HE9 := Lib.hid e9
        clear hA9 e9
        go_upto_region 9 with fail
        go_wp2_with (first | (refine wpList_slice_pr8 rfl _ _ rfl A l.length c (j + 1) rfl rfl hjj A9 n9 c9 HA9.out ?_) | (at_builtin; refine wpList_append_rd rfl _ _ 61 rfl W0.heap.size 109 i1 _ 6 64 Tryz.underlying61 hi1 hy0 hy1 hy2 rfl (by decide) (.slice A7 (j + 1) m7) (j + 1) ((l.take j ++ [((pk, pn, ps), pv)]).flatMap pcells) rfl HO8.out _ n9 ((l.drop (j + 1)).flatMap pcells) rfl (by rw [HE9.out]; exact HRD.out) (by rw [HE9.out, pflat_len]) (pone _) (by rw [HE9.out, List.length_drop]; unfold maxLen; omega) (by rw [HE9.out, List.length_drop]; omega) HB8.out.size ?_))
        intro v9 w9 hown hg hat
        have hfin : w9.ownsRow w.heap.size 109 6 v9 (putL h0 ((pk, pn, ps), pv) l).length ((putL h0 ((pk, pn, ps), pv) l).flatMap pcells) := by
          rw [← HJ.out.2]
          have h := own_less hown HB0.out.size
          have e : (l.take j ++ [((pk, pn, ps), pv)] ++ l.drop (j + 1)).length = j + 1 + n9 := by rw [HE9.out, List.length_append, List.length_append, List.length_take, Nat.min_eq_left hj]; rfl
          rw [e, List.flatMap_append, List.flatMap_append, List.flatMap_singleton, List.append_assoc]
          exact h
        have hbel := HB0.out.trans ((HB8.out.grown hg HB8.out.size (fun q e => (HO8.out.lt q e).1)).mono HB0.out.size)
        have HF := Lib.hid (And.intro hfin hbel)
        clear hfin hbel hown hg hat
        go_wp2_with fail
        go_ret
        exact ⟨v9, rfl, HF.out.1, HF.out.2⟩
end
end Go.Proofs.YtkkfhbcnfknmaaaGreat

namespace Go.Proofs.YtkkfhbcnfknmaaaGreat
set_option maxRecDepth 100000
set_option linter.unusedSimpArgs false
set_option linter.unusedVariables false
open Go.RowKit Go.Shelf
set_option maxHeartbeats 1600000 in
theorem lof12 (k : Ky) (w : World) : Calls Tryz.prog 51 #[vv k.1 k.2.1 k.2.2] w fun e w' => e = .returned (vv k.1 k.2.1 k.2.2) ∧ Below w.heap.size w w' := by
  go_enter Tryz.func51, Tryz.ntmps51
  go_wp2_with fail
  refine bodyPost_ret (v := vv k.1 k.2.1 k.2.2) (by simp [results, Tryz.results51, go_sem, vv]) rfl ⟨rfl, ?_⟩
  exact ((Below.refl _ w).alloc (Nat.le_refl _) _).alloc (by simp) _
end Go.Proofs.YtkkfhbcnfknmaaaGreat
