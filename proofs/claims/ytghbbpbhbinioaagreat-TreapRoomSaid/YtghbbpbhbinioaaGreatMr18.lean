/- Several texts in one. -/
import Derived.Test.YtghbbpbhbinioaaGreatMr17
import Derived.Test.YtghbbpbhbinioaaGreatMr11
import Derived.Test.YtghbbpbhbinioaaGreatMr16
import Derived.Test.YtghbbpbhbinioaaGreatMr15
set_option linter.unusedSimpArgs false
namespace Go.Proofs.YtghbbpbhbinioaaGreat
set_option maxRecDepth 100000
set_option linter.unusedSimpArgs false
set_option linter.unusedVariables false
open Go.RowKit
theorem BC.wnode {W : World} {z : Nat} {x : Yv} (h : BC W z 146 (ycells x)) : W.rangeAt z 8 (nlist x.nd) := fun j v hv => by
  refine h.at ?_
  have e : (ycells x).toList = (ycells x).toList.take 8 ++ (nlist x.nd ++ [.bool x.has]) := rfl
  rw [← Array.getElem?_toList, e, List.getElem?_append_right (by simp), show 8 + j - ((ycells x).toList.take 8).length = j by simp, List.getElem?_append_left (List.getElem?_eq_some_iff.1 hv).1]
  exact hv
section
set_option maxHeartbeats 1600000 in
theorem vset3 (n : Nv) (v : Ky) (z4 z3 : Nat) (w : World) (q4 : BC w z4 144 (ncells n)) (q3 : C3 w z3 36 (.int .u8 v.1) (.int .i64 v.2.1) (.string v.2.2)) :
    Calls Tryz.prog 118 #[.pointer (some ⟨z4, 0, none⟩), .pointer (some ⟨z3, 0, none⟩)] w fun e w' => (∃ r, e = .returned r) ∧ BC w' z4 144 (ncells { n with val := v }) ∧ Kp (fun q => q = z4) w w' := by
  have hq := ((q4.set 3 (.int .u8 v.1)).set 4 (.int .i64 v.2.1)).set 5 (.string v.2.2)
  simp only [List.setIfInBounds_toArray, List.set_cons_zero, List.set_cons_succ] at hq
  have hk := (((Kp.refl (fun q => q = z4) w).setCell (o := 3) (.inl rfl) (.int .u8 v.1)).setCell (o := 4) (.inl rfl) (.int .i64 v.2.1)).setCell (o := 5) (.inl rfl) (.string v.2.2)
  have HQ := Lib.hid (And.intro hq hk)
  obtain ⟨_, _, _, c3, c4, c5, _⟩ := q4.node
  obtain ⟨_, _, _, f3, f4, f5, _⟩ := q4.fz14
  obtain ⟨x0, x1, x2, _⟩ := q3.all
  clear hq hk q4 q3
  go_enter Tryz.func118, Tryz.ntmps118
  go_wp2_with fail
  go_end0
  exact ⟨⟨_, rfl⟩, HQ.out⟩
end
section
variable {most : Nat} {M : Cells} {H : List Nat} {P : Nat → Nat} {F : Nat → Prop}
set_option maxHeartbeats 4000000 in
theorem tedit_set (x : Yv) (n : Nv) (v : Ky) (z3 : Nat) (la lb : List Pr) (w : World) (h : Ar w x.b most M F) (hm : most ≤ 1048576) (hb : Bk (most + 1) M H P [n.cell]) (hP : ∀ j, P j ≤ 1152921504606846976)
    (hN : NdN (blank M H) n) (ha : TT (blank M H) n.kx la) (hbb : TT (blank M H) n.ky lb) (hsrt : Srt h0 (la ++ (n.key, v) :: lb)) (hroom : live (most + 1) M + 1 ≤ most) (q3 : C3 w z3 36 (.int .u8 v.1) (.int .i64 v.2.1) (.string v.2.2)) (nz3 : ¬ F z3) :
    Calls Tryz.prog 117 #[yagg x, nagg n, .func (.func 118) #[] #[.pointer (some ⟨z3, 0, none⟩)]] w fun e w' => ∃ (m : Nat) (M' : Cells), e = .returned (.int .i64 (m : Nat)) ∧ TR most M H P (la ++ (n.key, v) :: lb) 1 m M' ∧ StpX w w' x.b most M' F (fun _ => False) := by
  have hF : ∀ q, F q → q < w.heap.size := fun q hq => h.lt hq
  obtain ⟨c0, r0, hN0⟩ := hN
  have hiH := (hb.hand (i := n.cell) (by simp) hN0.ne).2
  have hMi : M n.cell = some (c0, r0) := by have := hN0.cell; rwa [blank_out hiH] at this
  have hcc : contC M n.cell = c0 := by unfold contC; rw [hMi]
  refine (vedit_cell x n 118 #[.pointer (some ⟨z3, 0, none⟩)] (fun u w' => ∃ (m : Nat) (M' : Cells), u = .int .i64 (m : Nat) ∧ TR most M H P (la ++ (n.key, v) :: lb) 1 m M' ∧ StpX w w' x.b most M' F (fun _ => False)) w (fun W2 y3 y4 y5 hW2 k3 k4 k5 ne34 ne45 d3 d4 d5 => ?_)).mono ?_
  · have hA2 := h.below hW2
    have hW2s := hW2.size
    have l3 := q3.lt
    have hFs : ∀ z, w.heap.size ≤ z → ¬ F z := fun z hz hf => by have := hF z hf; omega
    have hXX : ∀ z, (fun z => z = y4) z → z < W2.heap.size := fun z e => by subst e; exact d4.lt
    refine (renewX (P := P) (P0 := P) (X := fun z => z = y4) 160 #[.pointer (some ⟨y5, 0, none⟩), .pointer (some ⟨y4, 0, none⟩), .pointer (some ⟨y3, 0, none⟩)] n.cell x.ow c0 0
      (fun M1 H1 ex _ c' M2 => ex = [] ∧ M2 = M1 ∧ c'.vals = [n.key, v] ∧ c'.kids = [n.kx, n.ky]) W2 hXX hA2 (fun args W => by kernel_rfl) hm (fun k => Nat.le_refl _) (fun j => by have := hP j; omega) hb hcc (by split <;> omega) (fun _ _ _ _ _ => Steady.of _ _ _) (fun M1 H1 hw1 => ?_)).mono ?_
    · refine (chgY_edit (X := fun z => z = y4) (Rin := fun n' M2 _ => n' = { n with val := v } ∧ M2 = M1) x n y3 y4 y5 118 #[.pointer (some ⟨z3, 0, none⟩)] c0 W2 (fun _ _ => Steady.of _ _ _) (fun args W => by kernel_rfl) hXX d3 d4 d5 ⟨hFs _ (by omega), ne34⟩ (hFs _ (by omega)) (hFs _ (by omega)) (fun W5 F1 hRn hnb => ?_)).mono ?_
      · have l4 := d4.lt
        have nF1 : ¬ F1 y4 := fun hz => (hRn.sub _ hz).elim (hFs _ (by omega)) (fun h3 => by omega)
        refine (vset3 n v y4 z3 W5 hnb ((q3.below hW2).kp hRn.kp nz3)).mono ?_
        rintro e W' ⟨⟨r, rfl⟩, hq, hk⟩
        exact ⟨r, _, M1, F1, rfl, hq, ⟨hRn.ar.kp hk (fun z hz e => nF1 (e ▸ hz)), hk.fx (fun q e => .inr e), fun q hq => .inl hq⟩, rfl, rfl⟩
      · rintro c' M2 _ ⟨n', ⟨rfl, rfl⟩, hv, hk⟩
        refine ⟨[], ⟨hw1.bk.move (fun k' _ => by rw [List.append_nil, hk, hN0.kids]) (fun y hy => ?_), Keeps.refl _ _, fun _ _ => rfl, Nat.le_refl _, by rw [hv]; exact (by decide : 2 ≤ 4194304), by rw [hk]; exact (by decide : 2 ≤ 64), Nat.zero_le _, rfl, rfl, hv, hk⟩⟩
        exact (hw1.bk.hole y hy).1
    · rintro e W' ⟨m, M', rfl, hst, M1, H1, ex, c', M2, hw1, ⟨rfl, rfl, hv, hk⟩, hren⟩
      have hmH := (hren.bk.hand (i := m) (by simp) (by have := hren.pos; omega)).2
      have hnd : NdC (blank M' H) m { c' with owner := x.ow } 1 n.key v n.kx n.ky := ⟨by rw [blank_out hmH]; exact hren.cell, by have := hren.pos; omega, hv, hk⟩
      have hkid : ∀ k, k ∈ [n.kx, n.ky] → k ≠ 0 → Pres (blank M H) (blank M' H) k := fun k hk' h0 => (hw1.kids k (by rw [hN0.kids]; exact hk') h0).trans (hren.kids k (by rw [hk]; exact hk') h0)
      have htt : TT (blank M' H) m (la ++ (n.key, v) :: lb) := .node hnd (ha.pres (fun h0 => hkid _ (by simp) h0)) (hbb.pres (fun h0 => hkid _ (by simp) h0)) hsrt
      have hlv := hren.live
      have hif : (if aloneB M n.cell x.ow = true then 0 else 1) ≤ 1 := by split <;> decide
      have hws := hst.kp.size
      exact ⟨_, rfl, m, M', rfl, ⟨hren.bk, hren.keeps, hren.holes, by omega, htt⟩, ⟨hst.ar.mono (fun z hz => hz.imp id (fun hz => ⟨by omega, hz.2⟩)) (fun z hz => hz.elim (fun hz => by have := hF z hz; omega) (fun hz => hz.2)), (Kp.of_below hW2 (FX F (fun _ => False))).trans hst.kp (fun z hz => hz.elim (fun hz => .inl (.inl hz)) (fun hz => .inr (by omega)))⟩⟩
  · rintro e W' ⟨v', rfl, m, M', rfl, hT, hS⟩
    exact ⟨m, M', rfl, hT, hS⟩
end
structure Ws (W : World) (z2 z3 : Nat) (x : Yv) (v : Ky) : Prop where
  way : BC W z2 146 (ycells x)
  val : C3 W z3 36 (.int .u8 v.1) (.int .i64 v.2.1) (.string v.2.2)
theorem Ws.kp {W W' : World} {z2 z3 : Nat} {x : Yv} {v : Ky} {G : Nat → Prop} (h : Ws W z2 z3 x v) (hk : Kp G W W') (h2 : ¬ G z2) (h3 : ¬ G z3) : Ws W' z2 z3 x v := ⟨h.way.kp hk h2, h.val.kp hk h3⟩
theorem Ws.below {W W' : World} {z2 z3 : Nat} {x : Yv} {v : Ky} (h : Ws W z2 z3 x v) (hb : Below W.heap.size W W') : Ws W' z2 z3 x v := h.kp (Kp.of_below hb (fun _ => False)) id id
section
set_option maxHeartbeats 1600000 in
theorem vset2 (x : Yv) (v : Ky) (z2 z3 : Nat) (R : Value → World → Prop) (w : World) (hs : Ws w z2 z3 x v)
    (hE : Calls Tryz.prog 117 #[yagg x, nagg x.nd, .func (.func 118) #[] #[.pointer (some ⟨z3, 0, none⟩)]] w fun e W' => ∃ u, e = .returned u ∧ R u W') :
    Calls Tryz.prog 116 #[.pointer (some ⟨z2, 0, none⟩), .pointer (some ⟨z3, 0, none⟩)] w fun e W' => ∃ u, e = .returned u ∧ R u W' := by
  have HS := Lib.hid hs
  have HE := Lib.hid hE
  clear hs hE
  go_enter Tryz.func116, Tryz.ntmps116
  go_wp2_with (first | (refine wpList_load_whole rfl _ _ rfl z2 _ rfl (ycells x) _ HS.out.way Tryz.underlying146 rfl way_size ?_) | (refine wpList_load_mid rfl _ _ rfl z2 8 rfl (nlist x.nd) _ HS.out.way.wnode Tryz.underlying144 rfl node_size ?_))
  refine HE.out.mono ?_
  rintro e w2 ⟨u, rfl, hR⟩
  have HR := Lib.hid hR
  clear hR
  go_wp2_with fail
  go_ret
  exact ⟨u, rfl, HR.out⟩
set_option maxHeartbeats 1600000 in
theorem vset1 (x : Yv) (v : Ky) (z2 z3 : Nat) (R : Value → World → Prop) (w : World) (hs : Ws w z2 z3 x v)
    (hE : Calls Tryz.prog 115 #[yagg x, .slice x.A x.n x.c, .func (.func 116) #[] #[.pointer (some ⟨z2, 0, none⟩), .pointer (some ⟨z3, 0, none⟩)]] w fun e W' => ∃ u, e = .returned u ∧ R u W') :
    Calls Tryz.prog 114 #[.pointer (some ⟨z2, 0, none⟩), .pointer (some ⟨z3, 0, none⟩)] w fun e W' => ∃ u, e = .returned u ∧ R u W' := by
  have HS := Lib.hid hs
  have HE := Lib.hid hE
  have y7 := hs.way.way.2.2.2.2.2.2.2.1
  clear hs hE
  go_enter Tryz.func114, Tryz.ntmps114
  go_wp2_with (refine wpList_load_whole rfl _ _ rfl z2 _ rfl (ycells x) _ HS.out.way Tryz.underlying146 rfl way_size ?_)
  refine HE.out.mono ?_
  rintro e w2 ⟨u, rfl, hR⟩
  have HR := Lib.hid hR
  clear hR y7
  go_wp2_with fail
  go_ret
  exact ⟨u, rfl, HR.out⟩
end
def ChgR (w w' : World) (b most : Nat) (M : Cells) (F : Nat → Prop) (P : Nat → Nat) (root : Nat) (ow : Int) (L : List Pr) (q : Nat) (e : Ending) : Prop :=
  (∃ (n : Nat) (M' : Cells), e = .returned (.tuple #[.int .i64 (n : Nat), .int .i64 0]) ∧ TRes most M P root ow L q n M' ∧ Stp w w' b most M' F) ∨ (e = .returned (.tuple #[.int .i64 0, .int .i64 5]) ∧ ow = 0 ∧ most < live (most + 1) M + q ∧ Below w.heap.size w w')
theorem StpX.stp {w w' : World} {b most : Nat} {M' : Cells} {F : Nat → Prop} (h : StpX w w' b most M' F (fun _ => False)) : Stp w w' b most M' F := ⟨h.ar, h.kp.mono (fun q hq _ => hq.elim id (fun h => h.elim))⟩
section
variable {most : Nat} {M : Cells} {F : Nat → Prop}
theorem Bk.zero2 {N : Nat} {M : Cells} {H : List Nat} {P : Nat → Nat} {i : Nat} (h : Bk N M H P [i]) : Bk N M H P [i, 0] := h.perm (fun k hk => by
  rw [count2]
  have : [0].count k = 0 := by rw [List.count_cons_of_ne (by simpa using (by omega : 0 ≠ k))]; rfl
  omega)
theorem Bk.zero1 {N : Nat} {M : Cells} {H : List Nat} {P : Nat → Nat} {i : Nat} (h : Bk N M H P [i, 0]) : Bk N M H P [i] := h.perm (fun k hk => by
  rw [count2]
  have : [0].count k = 0 := by rw [List.count_cons_of_ne (by simpa using (by omega : 0 ≠ k))]; rfl
  omega)
theorem tset_do (x : Yv) (v : Ky) (z2 z3 B need : Nat) (cl : List Nv) (l lj pre suf la lb : List Pr) (P : Nat → Nat) (w : World) (h : Ar w x.b most M F) (hm : most ≤ 1048576) (hb : Bk (most + 1) M [] P [x.root]) (hP : ∀ j, P j ≤ 576460752303423488)
    (hwt : WayT M w B x.b x.bh x.root x.ow x.key l x cl x.nd.cell lj pre suf) (hnd : NdP M w x.nd la lb lj) (hsrt : Srt h0 (pre ++ (la ++ (x.nd.key, v) :: lb) ++ suf)) (hl : l.length ≤ 1024) (hB : ∀ q, F q → q < B) (hs : Ws w z2 z3 x v) (nF : ¬ F z2 ∧ ¬ F z3) (hneed : live (most + 1) M + need ≤ most) (hroom : live (most + 1) M + (cl.length + 1) ≤ most) :
    Calls Tryz.prog 112 #[yagg x, .int .i64 (need : Nat), .func (.func 114) #[] #[.pointer (some ⟨z2, 0, none⟩), .pointer (some ⟨z3, 0, none⟩)]] w fun e w' => ∃ (n : Nat) (M' : Cells), e = .returned (.tuple #[.int .i64 (n : Nat), .int .i64 0]) ∧ TRes most M P x.root x.ow (pre ++ (la ++ (x.nd.key, v) :: lb) ++ suf) (cl.length + 1) n M' ∧ StpX w w' x.b most M' F (fun _ => False) := by
  have hn : x.n = cl.length := hwt.head.2.2.2.2.2
  have l2 := hs.way.lt
  have l3 := hs.val.lt
  have hsh := hwt.way.short
  have hcap := hwt.row.cap
  have hss : Srt h0 (la ++ (x.nd.key, v) :: lb) := List.Pairwise.sublist ((List.sublist_append_right _ _).trans (List.sublist_append_left _ _)) hsrt
  refine tdo_bk (X0 := fun _ => False) x 114 _ need (cl.length + 1) _ P w h hm (fun args W => by kernel_rfl) (fun _ h => h.elim) hb hP hneed (fun W M1 P1 F1 r1 e1 b1 p1 pr1 lv1 => ?_)
  have ws1 := hs.kp r1.kp nF.1 nF.2
  have nl1 : NL W x.A cl := hwt.row.nl.kp r1.kp (fun a e _ hf => by
    have := (own_blk hwt.row a.block (by rw [e]; rfl)).1
    have := hB _ hf; omega)
  refine (vset1 x v z2 z3 (fun u W' => ∃ (n2 : Nat) (M2 : Cells), u = .int .i64 (n2 : Nat) ∧ TR most M1 [] P1 (pre ++ (la ++ (x.nd.key, v) :: lb) ++ suf) (cl.length + 1) n2 M2 ∧ StpX W W' x.b most M2 F1 (fun _ => False)) W ws1 ?_).mono ?_
  · rw [hn]
    refine (vrelink_bk (X0 := fun _ => False) x 116 _ 1 (la ++ (x.nd.key, v) :: lb) x.nd.cell 0 lj [] hm 1152921504606846976 (Nat.le_refl _) (fun args W => by kernel_rfl) cl x.A x.c x.root 0 l [] pre suf M1 [] P1 F1 W r1.ar (fun _ h => h.elim) b1.zero2 (fun j => by have := p1 j; have := hP j; omega) (by rw [blank_nil]; exact hwt.way.chain.pres (fun _ => pr1 _) (fun _ => pr1 _)) hsrt (by omega) (by omega) nl1 (fun a e _ => ⟨fun hf => by
      have h1 := (own_blk hwt.row a.block (by rw [e]; rfl))
      rcases r1.sub _ hf with hf | hf
      · have := hB _ hf; omega
      · omega, fun h => h⟩) (by omega) (fun W2 M2 H2 P2 F2 t1 t2 t3 t4 _ t6 => ?_)).mono ?_
    · have ws2 := ws1.kp t1.kp (fun hf => (r1.sub _ hf).elim nF.1 (fun h => by omega)) (fun hf => (r1.sub _ hf).elim nF.2 (fun h => by omega))
      have hpn : Pres M (blank M2 H2) x.nd.cell := by
        have := (pr1 x.nd.cell).trans (by have := t4 hnd.node.ne; rwa [blank_nil] at this)
        exact this
      have n2 : ¬ F2 z3 := fun hf => (t1.sub _ hf).elim (fun hf => (r1.sub _ hf).elim nF.2 (fun h => by omega)) (fun h => by have := r1.kp.size; omega)
      refine (vset2 x v z2 z3 (fun u W' => ∃ (n3 : Nat) (M3 : Cells), u = .int .i64 (n3 : Nat) ∧ TR most M2 H2 P2 (la ++ (x.nd.key, v) :: lb) 1 n3 M3 ∧ StpX W2 W' x.b most M3 F2 (fun _ => False)) W2 ws2 ?_).mono ?_
      · refine (tedit_set x x.nd v z3 la lb W2 t1.ar hm t2.zero1 t3 (hnd.node.pres hpn) (hnd.treex.pres (fun h0 => hnd.node.presx hpn h0)) (hnd.treey.pres (fun h0 => hnd.node.presy hpn h0)) hss (by omega) ws2.val n2).mono ?_
        rintro e W' ⟨m, M', rfl, hT, hS⟩
        exact ⟨_, rfl, m, M', rfl, hT, hS⟩
      · rintro e W' ⟨u, rfl, m, M', rfl, hT, hS⟩
        exact ⟨m, M', rfl, hT, hS⟩
    · rintro e W' ⟨m, M', rfl, hT, hS⟩
      exact ⟨_, rfl, m, M', rfl, hT, hS⟩
  · rintro e W' ⟨u, rfl, m, M', rfl, hT, hS⟩
    exact ⟨m, M', rfl, hT, hS⟩
set_option maxHeartbeats 4000000 in
theorem tset (x : Yv) (v : Ky) (B : Nat) (cl : List Nv) (l lj pre suf la lb : List Pr) (P : Nat → Nat) (w : World) (h : Ar w x.b most M F) (hm : most ≤ 1048576) (hb : Bk (most + 1) M [] P [x.root]) (hP : ∀ j, P j ≤ 576460752303423488)
    (hwt : WayT M w B x.b x.bh x.root x.ow x.key l x cl x.nd.cell lj pre suf) (hnd : NdP M w x.nd la lb lj) (hfr : x.ow = 0 → x.nd.fresh = 1) (hsrt : Srt h0 (pre ++ (la ++ (x.nd.key, v) :: lb) ++ suf)) (hl : l.length ≤ 1024) (hB : ∀ q, F q → q < B) (hroom : x.ow = 0 ∨ live (most + 1) M + (cl.length + 1) ≤ most) :
    Calls Tryz.prog 71 #[yagg x, xagg v] w fun e w' => ChgR w w' x.b most M F P x.root x.ow (pre ++ (la ++ (x.nd.key, v) :: lb) ++ suf) (cl.length + 1) e := by
  have hF : ∀ q, F q → q < w.heap.size := fun q hq => h.lt hq
  have hn : x.n = cl.length := hwt.head.2.2.2.2.2
  have hsh := hwt.way.short
  have hcl : cl.length ≤ 1024 := by omega
  have hfs : sumF cl ≤ cl.length := sumF_le cl (fun n hn => (hwt.way.frs n hn).1)
  have hf1 := hnd.fresh
  have hfa : x.ow = 0 → sumF cl = cl.length := fun h0 => sumF_all cl (fun n hn => (hwt.way.frs n hn).2 h0)
  have hb1 : Below w.heap.size w ((w.alloc (.cells (ycells x) 146)).alloc (.cells #[.int .u8 v.1, .int .i64 v.2.1, .string v.2.2] 36)) := ((Below.refl _ w).alloc (Nat.le_refl _) _).alloc (by simp) _
  have e1 : (w.alloc (.cells (ycells x) 146)).heap.size = w.heap.size + 1 := by simp
  have q2 := (BC.new w 146 (ycells x)).alloc (.cells #[.int .u8 v.1, .int .i64 v.2.1, .string v.2.2] 36)
  have q3 := C3.new (w.alloc (.cells (ycells x) 146)) 36 (.int .u8 v.1) (.int .i64 v.2.1) (.string v.2.2)
  rw [e1] at q3
  have HWS := Lib.hid (Ws.mk q2 q3)
  have HNL := Lib.hid (fun (W : World) (hW : Below w.heap.size w W) => wfresh x.A cl x.c W (hwt.row.nl.below hW) (by omega) (fun n hn => (hwt.way.frs n hn).1))
  rw [← hn] at HNL
  obtain ⟨need, hneed⟩ : ∃ need, need = sumF cl + x.nd.fresh := ⟨_, rfl⟩
  have hcs : (sumF cl : Int) + (x.nd.fresh : Int) = (need : Int) := by omega
  have hrg : -9223372036854775808 ≤ (sumF cl : Int) + (x.nd.fresh : Int) ∧ (sumF cl : Int) + (x.nd.fresh : Int) ≤ 9223372036854775807 := by omega
  have W3 := Lib.hid (show wrap64 ((sumF cl : Int) + (x.nd.fresh : Int)) = (need : Int) from (IntWalk.wrap64_in _ hrg).trans hcs)
  have W4 := Lib.hid (show IntKind.i64.wrap ((sumF cl : Int) + (x.nd.fresh : Int)) = (need : Int) from (IntWalk.i64_in _ hrg).trans hcs)
  have HDO := Lib.hid (fun (W : World) (z2 z3 : Nat) (hW : Below w.heap.size w W) (hs : Ws W z2 z3 x v) (h2 : w.heap.size ≤ z2) (h3 : w.heap.size ≤ z3) => show Calls Tryz.prog 112 #[yagg x, .int .i64 (need : Nat), .func (.func 114) #[] #[.pointer (some ⟨z2, 0, none⟩), .pointer (some ⟨z3, 0, none⟩)]] W (fun e w' => ∃ v1 v2, e = .returned (.tuple #[v1, v2]) ∧ ChgR w w' x.b most M F P x.root x.ow (pre ++ (la ++ (x.nd.key, v) :: lb) ++ suf) (cl.length + 1) e ∧ Ws w' z2 z3 x v) from by
    by_cases hr : live (most + 1) M + need ≤ most
    · refine (tset_do x v z2 z3 B need cl l lj pre suf la lb P W (h.below hW) hm hb hP (hwt.below hW) (hnd.below hW) hsrt hl hB hs ⟨fun hf => by have := hF _ hf; omega, fun hf => by have := hF _ hf; omega⟩ hr (by
        rcases hroom with h0 | h0
        · have := hfa h0; have := hfr h0; omega
        · exact h0)).mono ?_
      rintro e w' ⟨n, M', rfl, hT, hS⟩
      exact ⟨_, _, rfl, .inl ⟨n, M', rfl, hT, Stp.from (fun y hy => h.lt hy) hW hS.stp⟩, hs.kp hS.stp.kp (fun hf => by have := hF _ hf; omega) (fun hf => by have := hF _ hf; omega)⟩
    · refine (tdo_no x need _ W (h.below hW) (by omega)).mono ?_
      rintro e w' ⟨rfl, hb⟩
      have h0 : x.ow = 0 := by
        rcases hroom with h0 | h0
        · exact h0
        · exact absurd h0 (by omega)
      exact ⟨_, _, rfl, .inr ⟨rfl, h0, by omega, hW.trans (hb.mono hW.size)⟩, hs.below hb⟩)
  have HB1 := Lib.hid hb1
  clear h hb hP hwt hnd hfr hsrt hroom hsh hcl hfs hf1 hfa hneed hcs hrg hb1 e1 q2 q3 hF hn hB hl hm
  go_enter Tryz.func71, Tryz.ntmps71
  go_upto_region 1 with fail
  change Code.wp _ _ _ _ ((w.alloc (.cells (ycells x) 146)).alloc (.cells #[.int .u8 v.1, .int .i64 v.2.1, .string v.2.2] 36))
  generalize World.alloc (w.alloc _) _ = W1 at HWS HB1 ⊢
  obtain ⟨z2, hz2⟩ : ∃ z, z = w.heap.size := ⟨_, rfl⟩
  obtain ⟨z3, hz3⟩ : ∃ z, z = w.heap.size + 1 := ⟨_, rfl⟩
  rw [← hz3, ← hz2] at HWS ⊢
  have HZ := Lib.hid (And.intro hz2 hz3)
  clear hz2 hz3
  have l7 : ∀ W', Ws W' z2 z3 x v → W'.cell? ⟨z2, 7, none⟩ = some (.slice x.A x.n x.c) := fun W' h => h.way.way.2.2.2.2.2.2.2.1
  have l21 : ∀ W', Ws W' z2 z3 x v → W'.cell? ⟨z2, 21, none⟩ = some (.int .i64 (x.nd.fresh : Nat)) := fun W' h => h.way.way.2.2.2.2.2.2.2.2.2.2.2.2.2.2.2.2.2.2.2.2.2.1
  refine wp_region_noPanic ?_
  refine wp_region_held_drew (S := fun W' => Ws W' z2 z3 x v) (by kernel_rfl) (HWS.out.below (Below.refl _ W1).drew) (fun hH => ?_)
  have hB := HB1.out.trans ((Below.refl _ W1).drew.mono HB1.out.size)
  generalize W1.drew = Wc at hH hB ⊢
  clear HWS HB1
  refine wpAnyH_take (i := 0) (v := yagg x) rfl (by kernel_rfl) (by kernel_rfl) (by kernel_rfl) (fun _ _ _ h => h) (Or.inl ⟨by rfl, fun W' hS => exec_way rfl rfl (Ws.way hS)⟩) hH ?_
  simp only [Act.put, List.setIfInBounds_toArray, List.set_cons_zero, List.set_cons_succ, List.getElem_toArray, List.getElem_cons_zero, List.getElem_cons_succ]
  refine tkH ?_ 1 hH ?_ ?_; rotate_left
  · intro W' hS; go_simp; with_reducible rfl
  simp only [tkr]
  refine tkH ?_ 2 hH ?_ ?_; rotate_left
  · intro W' hS; go_simp; with_reducible rfl
  simp only [tkr]
  refine tkH ?_ 4 hH ?_ ?_; rotate_left
  · intro W' hS; go_simp; with_reducible rfl
  simp only [tkr]
  refine tkH ?_ 5 hH ?_ ?_; rotate_left
  · intro W' hS; go_simp; with_reducible rfl
  simp only [tkr]
  refine tkH ?_ 6 hH ?_ ?_; rotate_left
  · intro W' hS; go_simp; with_reducible rfl
  simp only [tkr]
  refine wpAnyH_take (i := 8) (v := .func (.func 114) #[] #[.pointer (some ⟨z2, 0, none⟩), .pointer (some ⟨z3, 0, none⟩)]) rfl (by kernel_rfl) (by kernel_rfl) (by kernel_rfl) (fun _ _ _ h => h) (Or.inl ⟨by rfl, fun W' hS => by kernel_rfl⟩) hH ?_
  simp only [Act.put, List.setIfInBounds_toArray, List.set_cons_zero, List.set_cons_succ, List.getElem_toArray, List.getElem_cons_zero, List.getElem_cons_succ]
  refine rdH 3 rfl (fun K hK => ?_)
  go_simp
  refine (HNL.out _ hB).mono ?_
  rintro e Wn ⟨rfl, hbn⟩
  have hH2 : Ws Wn z2 z3 x v := hH.below hbn
  replace hB := hB.trans (hbn.mono hB.size)
  simp only
  have w3 := W3.out
  have w4 := W4.out
  refine hK.out _ _ hH2 (fun hH => ?_)
  clear hK K hH2 hbn
  rename World => Wc
  refine tkH ?_ 7 hH ?_ ?_; rotate_left
  · intro W' hS; go_simp; with_reducible rfl
  simp only [tkr]
  refine rdH 9 rfl (fun K hK => ?_)
  clear w3 w4
  go_simp
  first | rw [W3.out] | rw [W4.out] | skip
  refine (HDO.out _ z2 z3 hB hH (by have := HZ.out; omega) (by have := HZ.out; omega)).mono ?_
  rintro e Wn ⟨v1, v2, rfl, hR, hH2⟩
  have HR := Lib.hid hR
  simp only
  refine hK.out _ _ hH2 (fun hH => ?_)
  clear hK K hR hH2
  rename World => Wc
  refine tkH ?_ 10 hH ?_ ?_; rotate_left
  · intro W' hS; go_simp; with_reducible rfl
  simp only [tkr]
  refine tkH ?_ 11 hH ?_ ?_; rotate_left
  · intro W' hS; go_simp; with_reducible rfl
  simp only [tkr]
  refine tkH ?_ 12 hH ?_ ?_; rotate_left
  · intro W' hS; go_simp; with_reducible rfl
  simp only [tkr]
  refine tkH ?_ 13 hH ?_ ?_; rotate_left
  · intro W' hS; go_simp; with_reducible rfl
  simp only [tkr]
  refine wpAnyH_done (by kernel_rfl) ?_ _
  refine NoPanic.normal ?_
  clear l7 l21
  go_wp2_with fail
  exact bodyPost_ret (v := .tuple #[v1, v2]) (by simp [results, Tryz.results71, go_sem]) rfl HR.out
end
end Go.Proofs.YtghbbpbhbinioaaGreat

namespace Go.Proofs.YtghbbpbhbinioaaGreat
set_option maxRecDepth 100000
set_option linter.unusedSimpArgs false
set_option linter.unusedVariables false
open Go.RowKit
theorem RnY.mineX {w w' w'' : World} {b most : Nat} {M' : Cells} {F F' X G : Nat → Prop} (h : RnY w w' b most M' F X F') (hk : Kp G w' w'') (hG : ∀ g, G g → X g ∧ ¬ F' g) : RnY w w'' b most M' F X F' :=
  ⟨h.ar.kp hk (fun x hx hg => (hG x hg).2 hx), h.kp.trans hk (fun g hg => .inl (.inr (hG g hg).1)), h.sub⟩
structure Wz (W : World) (z2 z7 : Nat) (x : Yv) (t : Nat) : Prop where
  way : BC W z2 146 (ycells x)
  top : C1 W z7 3 (.int .i64 (t : Nat))
section
variable {W W' : World} {z2 z7 z6 t : Nat} {x : Yv} {n : Nv}
theorem Wz.kp {G : Nat → Prop} (h : Wz W z2 z7 x t) (hk : Kp G W W') (h2 : ¬ G z2) (h7 : ¬ G z7) : Wz W' z2 z7 x t := ⟨h.way.kp hk h2, h.top.kp hk h7⟩
theorem Wz.below (h : Wz W z2 z7 x t) (hb : Below W.heap.size W W') : Wz W' z2 z7 x t := h.kp (Kp.of_below hb (fun _ => False)) id id
theorem BC.kids {p0 p1 : Nat} (h : BC W z6 144 (ncells n)) : BC ((W.setCell ⟨z6, 11, none⟩ (.int .i64 (p0 : Nat))).setCell ⟨z6, 12, none⟩ (.int .i64 (p1 : Nat))) z6 144 (ncells { n with kx := p0, ky := p1 }) ∧ Kp (fun q => q = z6) W ((W.setCell ⟨z6, 11, none⟩ (.int .i64 (p0 : Nat))).setCell ⟨z6, 12, none⟩ (.int .i64 (p1 : Nat))) := by
  have kz := ((Kp.refl (fun q => q = z6) W).setCell (o := 11) (.inl rfl) (.int .i64 (p0 : Nat))).setCell (o := 12) (.inl rfl) (.int .i64 (p1 : Nat))
  have hq := (h.set 11 (.int .i64 (p0 : Nat))).set 12 (.int .i64 (p1 : Nat))
  simp only [List.setIfInBounds_toArray, List.set_cons_zero, List.set_cons_succ] at hq
  exact ⟨hq, kz⟩
end
section
variable {most : Nat} {M : Cells} {H : List Nat} {P : Nat → Nat} {F : Nat → Prop}
set_option maxHeartbeats 8000000 in
theorem tadd_end (x : Yv) (n : Nv) (t z2 z7 z6 B xm : Nat) (cl : List Nv) (lxm pb sb : List Pr) (w : World) (h : Ar w x.b most M F) (hm : most ≤ 1048576) (hb : Bk (most + 1) M H P [xm]) (hP : ∀ j, P j + 64 * cl.length ≤ 1152921504606846976)
    (hs : Wz w z2 z7 x t) (hq6 : BC w z6 144 (ncells n)) (hn : x.n = cl.length) (hrow : OwnN w B x.A x.c cl) (hB : ∀ q, F q → q < w.heap.size → (Value.slice x.A cl.length x.c).ownBlock ≠ some q) (ht : t ≤ cl.length) (hl : cl.length ≤ 1024) (hch : Ch (blank M H) x.key (cl.drop t) xm 0 lxm [] 0 0 [] [] pb sb) (hsrt : Srt h0 (pb ++ (n.key, n.val) :: sb)) (hsz : z2 ≠ z6 ∧ z7 ≠ z6) (nF : ¬ F z2 ∧ ¬ F z7 ∧ ¬ F z6) (hroom : live (most + 1) M + ((cl.drop t).length + 1) ≤ most) :
    Calls Tryz.prog 123 #[.pointer (some ⟨z2, 0, none⟩), .pointer (some ⟨z7, 0, none⟩), .pointer (some ⟨z6, 0, none⟩)] w fun e w' => ∃ (m : Nat) (M' : Cells), e = .returned (.int .i64 (m : Nat)) ∧ TR most M H P (pb ++ (n.key, n.val) :: sb) ((cl.drop t).length + 1) m M' ∧ StpX w w' x.b most M' F (fun z => z = z6) := by
  have hF : ∀ q, F q → q < w.heap.size := fun q hq => h.lt hq
  obtain ⟨nlA, blA⟩ := NL.drop hrow t ht
  have hcap := hrow.cap
  obtain ⟨A1, hA1⟩ : ∃ A1, A1 = (if x.c = t then x.A else x.A.map (·.add (t * 14))) := ⟨_, rfl⟩
  obtain ⟨b, hbb⟩ : ∃ b, b = cl.drop t := ⟨_, rfl⟩
  obtain ⟨c1, hc1⟩ : ∃ c1, c1 = x.c - t := ⟨_, rfl⟩
  have hbl : b.length = cl.length - t := by rw [hbb, List.length_drop]
  have hnb : x.n - t = b.length := by rw [hbl, hn]
  rw [← hA1, ← hbb] at nlA
  rw [← hA1] at blA
  rw [← hbb] at hch hroom blA ⊢
  have HSL := Lib.hid (And.intro hA1 (And.intro hc1 (And.intro hnb (show t ≤ x.n by omega))))
  have l2 := hs.way.lt
  have l7' := hs.top.lt
  have l6 := hq6.lt
  have HPART := Lib.hid (fun (W : World) (hW : Below w.heap.size w W) => vpart_bk (most := most) x hm b A1 c1 xm 0 lxm [] 0 0 [] [] pb sb M H P F W (h.below hW) hb (fun j => by have := hP j; omega) hch rfl rfl rfl (by
    refine List.Pairwise.sublist ?_ hsrt
    exact List.Sublist.append (List.Sublist.refl _) (List.sublist_cons_self _ _)) (by omega) (by omega) (nlA.below hW) (fun a e hne hf => hB a.block hf (hF _ hf) (blA a e hne)) (by omega))
  have HS := Lib.hid (And.intro hs hq6)
  have HX := Lib.hid (And.intro hF (And.intro nF (And.intro hsz (And.intro hsrt (And.intro hroom (And.intro hb (And.intro l2 (And.intro l7' (And.intro l6 h)))))))))
  clear hA1 hc1 hbb nlA blA hcap hbl hnb hF hP hb hs hq6 hrow hB ht hl hch hsrt hsz nF hroom h l2 l7' l6 hm hn
  go_enter Tryz.func123, Tryz.ntmps123
  go_upto_region 1 with fail
  have y7 : ∀ W', Wz W' z2 z7 x t → W'.cell? ⟨z2, 7, none⟩ = some (.slice x.A x.n x.c) := fun W' h => h.way.way.2.2.2.2.2.2.2.1
  have t0 : ∀ W', Wz W' z2 z7 x t → W'.cell? ⟨z7, 0, none⟩ = some (.int .i64 (t : Nat)) := fun W' h => h.top.c0
  obtain ⟨X, hXe⟩ : ∃ X : Nat → Prop, X = fun z => z = z6 := ⟨_, rfl⟩
  have HXE := Lib.hid hXe
  have HKN := Lib.hid (show ∀ (W' : World) (M' : Cells) (F' : Nat → Prop), RnY w W' x.b most M' F X F' → ∀ z, (z = z2 ∨ z = z7 ∨ z = z6) → ¬ F' z from fun W' M' F' hr z hz hf => (hr.sub z hf).elim (fun hf => by
    have h1 := HX.out.2.1
    rcases hz with e | e | e
    · exact h1.1 (e ▸ hf)
    · exact h1.2.1 (e ▸ hf)
    · exact h1.2.2 (e ▸ hf)) (fun hf => by have h1 := HX.out.2.2.2.2.2.2; omega))
  clear hXe
  refine wp_region_noPanic ?_
  refine wp_region_held_drew (S := fun W' => Wz W' z2 z7 x t) (by kernel_rfl) (HS.out.1.below (Below.refl _ w).drew) (fun hH => ?_)
  have hR : RnY w w.drew x.b most M F X F := ⟨(HX.out.2.2.2.2.2.2.2.2.2).below (Below.refl _ w).drew, Kp.of_below (Below.refl _ w).drew (FX F X), fun _ => .inl⟩
  have hB0 : Below w.heap.size w w.drew := (Below.refl _ w).drew
  have hN := HS.out.2.below hB0
  generalize w.drew = Wc at hH hR hB0 hN ⊢
  clear HS
  refine wpAnyH_take (i := 0) (v := yagg x) rfl (by kernel_rfl) (by kernel_rfl) (by kernel_rfl) (fun _ _ _ h => h) (Or.inl ⟨by rfl, fun W' hS => exec_way rfl rfl (Wz.way hS)⟩) hH ?_
  simp only [Act.put, List.setIfInBounds_toArray, List.set_cons_zero, List.set_cons_succ, List.getElem_toArray, List.getElem_cons_zero, List.getElem_cons_succ]
  refine tkH ?_ 1 hH ?_ ?_; rotate_left
  · intro W' hS; go_simp; with_reducible rfl
  simp only [tkr]
  refine tkH ?_ 2 hH ?_ ?_; rotate_left
  · intro W' hS; go_simp; with_reducible rfl
  simp only [tkr]
  refine tkH ?_ 3 hH ?_ ?_; rotate_left
  · intro W' hS; go_simp; with_reducible rfl
  simp only [tkr]
  refine wpAnyH_take (i := 4) (v := .slice A1 (x.n - t) c1) rfl (by kernel_rfl) (by kernel_rfl) (by kernel_rfl) (fun _ _ _ h => h) (Or.inl ⟨by rfl, fun W' hS => by rw [HSL.out.1, HSL.out.2.1]; exact exec_slice_from rfl rfl rfl HSL.out.2.2.2⟩) hH ?_
  simp only [Act.put, List.setIfInBounds_toArray, List.set_cons_zero, List.set_cons_succ, List.getElem_toArray, List.getElem_cons_zero, List.getElem_cons_succ]
  refine rdH 5 rfl (fun K hK => ?_)
  go_simp
  rw [HSL.out.2.2.1]
  refine (HPART.out _ hB0).mono ?_
  rintro e Wn ⟨p0, p1, M1, rfl, hT, hS1⟩
  replace hR := (RnY.of_rn ⟨hR.ar, Kp.of_below hB0 F, fun _ => .inl⟩ ⟨hS1.ar, hS1.kp.fx (fun q hq => .inl hq), fun q hq => hq.imp id (fun h => h.1)⟩ : RnY w Wn x.b most M1 F X _)
  have hH2 := hH.kp hS1.kp HX.out.2.1.1 HX.out.2.1.2.1
  replace hN := hN.kp hS1.kp HX.out.2.1.2.2
  have HT := Lib.hid hT
  simp only
  refine hK.out _ _ hH2 (fun hH => ?_)
  clear hK K hH2 hS1 hB0 hT
  rename World => Wc
  refine tkH ?_ 6 hH ?_ ?_; rotate_left
  · intro W' hS; go_simp; with_reducible rfl
  simp only [tkr]
  refine rdH 7 rfl (fun K hK => ?_)
  obtain ⟨_, _, _, _, _, _, _, _, _, _, _, c11, c12, _⟩ := hN.node
  obtain ⟨_, _, _, _, _, _, _, _, _, _, _, f11, f12, _⟩ := hN.fz14
  go_simp
  clear c11 c12 f11 f12
  have hK6 := BC.kids (p0 := p0) (p1 := p1) hN
  have hH2 := hH.kp hK6.2 HX.out.2.2.1.1 HX.out.2.2.1.2
  have hR2 := hR.mineX hK6.2 (fun g e => ⟨by rw [HXE.out]; exact e, HKN.out _ _ _ hR g (.inr (.inr e))⟩)
  have hN2 := hK6.1
  refine hK.out _ _ hH2 (fun hH => ?_)
  clear hK K hK6 hH2 hR hN
  generalize World.setCell _ _ _ = Wn at hH hR2 hN2 ⊢
  rename World => Wc
  refine wpAnyH_done (by kernel_rfl) ?_ _
  refine NoPanic.normal ?_
  clear y7 t0
  go_upto_region 2 with fail
  have x0 : ∀ W', Wz W' z2 z7 x t ∧ BC W' z6 144 (ncells { n with kx := p0, ky := p1 }) → W'.cell? ⟨z2, 0, none⟩ = some (ap x.b) := fun W' h => h.1.way.way.1
  have x2 : ∀ W', Wz W' z2 z7 x t ∧ BC W' z6 144 (ncells { n with kx := p0, ky := p1 }) → W'.cell? ⟨z2, 2, none⟩ = some (.int .u32 x.ow) := fun W' h => h.1.way.way.2.2.1
  have hbd : Below Wc.heap.size Wc Wc.drew := (Below.refl _ Wc).drew
  refine wp_region_noPanic ?_
  refine wp_region_held_drew (S := fun W' => Wz W' z2 z7 x t ∧ BC W' z6 144 (ncells { n with kx := p0, ky := p1 })) (by kernel_rfl) ⟨hH.below hbd, hN2.below hbd⟩ (fun hH2 => ?_)
  have hR3 := hR2.mine (Kp.of_below hbd (fun _ => False)) (fun _ h => h.elim)
  clear hR2 hH hN2
  generalize Wc.drew = Wd at hH2 hR3 ⊢
  generalize Fn F _ _ = F2 at hR3
  clear hbd
  rename Wz Wd z2 z7 x t ∧ _ => hH
  refine tkH ?_ 0 hH ?_ ?_; rotate_left
  · intro W' hS; go_simp; with_reducible rfl
  simp only [tkr]
  refine tkH ?_ 1 hH ?_ ?_; rotate_left
  · intro W' hS; go_simp; with_reducible rfl
  simp only [tkr]
  refine tkH ?_ 2 hH ?_ ?_; rotate_left
  · intro W' hS; go_simp; with_reducible rfl
  simp only [tkr]
  refine wpAnyH_take (i := 3) (v := nagg { n with kx := p0, ky := p1 }) rfl (by kernel_rfl) (by kernel_rfl) (by kernel_rfl) (fun _ _ _ h => h) (Or.inl ⟨by rfl, fun W' hS => exec_node rfl rfl hS.2⟩) hH ?_
  simp only [Act.put, List.setIfInBounds_toArray, List.set_cons_zero, List.set_cons_succ, List.getElem_toArray, List.getElem_cons_zero, List.getElem_cons_succ]
  refine tkH ?_ 4 hH ?_ ?_; rotate_left
  · intro W' hS; go_simp; with_reducible rfl
  simp only [tkr]
  refine tkH ?_ 5 hH ?_ ?_; rotate_left
  · intro W' hS; go_simp; with_reducible rfl
  simp only [tkr]
  refine rdH 6 rfl (fun K hK => ?_)
  go_simp
  refine (npack { n with kx := p0, ky := p1 } x.ow _).mono ?_
  rintro e Wn ⟨a, d, g, g', rfl, r1, r2, g1, g2, hbn⟩
  have hFW : ∀ q, Wd.heap.size ≤ q → ¬ F2 q := fun q hq hf => absurd (hR3.ar.lt hf) (by omega)
  replace hR3 := hR3.mine (Kp.of_below hbn (fun _ => False)) (fun _ h => h.elim)
  have hH3 : Wz Wn z2 z7 x t ∧ BC Wn z6 144 (ncells { n with kx := p0, ky := p1 }) := ⟨hH.1.below hbn, hH.2.below hbn⟩
  have HG := Lib.hid (And.intro r1 (And.intro r2 (And.intro (hFW g g1) (hFW g' g2))))
  simp only
  refine hK.out _ _ hH3 (fun hH => ?_)
  clear hK K hH3 r1 r2 hFW g1 g2 hbn
  rename World => Wd
  refine rdH 7 rfl (fun K hK => ?_)
  go_simp
  refine (amake ⟨x.ow, a, d, [n.key, n.val], [p0, p1]⟩ _ _ x.b most M1 _ _ hR3.ar HG.out.1 HG.out.2.1 (show 2 ≤ 4194304 by decide) (show 2 ≤ 4194304 by decide) (fun q e hf => HG.out.2.2.1 (by cases e; exact hf)) (fun q e hf => HG.out.2.2.2 (by cases e; exact hf)) (good_kids fun y hy h0 => (HT.out.bk.hand hy h0).1) (by have h1 := HT.out.live; have h2 := HX.out.2.2.2.2.1; omega)).mono ?_
  rintro e Wn ⟨i, rfl, i1, i2, i3, hA, hk⟩
  have hR4 := hR3.stp (Stp.mk' ⟨hA, hk⟩)
  have hH3 : Wz Wn z2 z7 x t ∧ BC Wn z6 144 (ncells { n with kx := p0, ky := p1 }) := ⟨hH.1.kp hk (HKN.out _ _ _ hR3 _ (.inl rfl)) (HKN.out _ _ _ hR3 _ (.inr (.inl rfl))), hH.2.kp hk (HKN.out _ _ _ hR3 _ (.inr (.inr rfl)))⟩
  have HI := Lib.hid (And.intro i1 (And.intro i2 (And.intro i3 hR4)))
  simp only
  refine hK.out _ _ hH3 (fun hH => ?_)
  clear hK K hH3 hA hk hR3 hR4 i1 i2 i3
  rename World => Wd
  refine tkH ?_ 8 hH ?_ ?_; rotate_left
  · intro W' hS; go_simp; with_reducible rfl
  simp only [tkr]
  refine tkH ?_ 9 hH ?_ ?_; rotate_left
  · intro W' hS; go_simp; with_reducible rfl
  simp only [tkr]
  refine tkH ?_ 10 hH ?_ ?_; rotate_left
  · intro W' hS; go_simp; with_reducible rfl
  simp only [tkr]
  refine tkH ?_ 11 hH ?_ ?_; rotate_left
  · intro W' hS; go_simp; with_reducible rfl
  simp only [tkr]
  refine tkH ?_ 12 hH ?_ ?_; rotate_left
  · intro W' hS; go_simp; with_reducible rfl
  simp only [tkr]
  refine wpAnyH_done (by kernel_rfl) ?_ _
  refine NoPanic.normal ?_
  clear x0 x2
  go_wp2_with fail
  obtain ⟨i1, i2, i3, hR4⟩ := HI.out
  have hT := HT.out
  obtain ⟨hF, nF, hsz, hsrt, hroom, hb, l2, l7', l6, h⟩ := HX.out
  have hnH : i ∉ H := fun hx => by have := hT.bk.hole i hx; rw [i3] at this; simp [rf] at this
  have hpn : ∀ r, Pres (blank M1 H) (blank (upd M1 i (some (⟨x.ow, a, d, [n.key, n.val], [p0, p1]⟩, 1))) H) r := fun r => Pres.all (all_blank (all_new i3 _))
  have hlu := live_upd (M := M1) (N := most + 1) i (some ((⟨x.ow, a, d, [n.key, n.val], [p0, p1]⟩ : Hc), 1)) (by omega)
  rw [i3] at hlu
  simp only [one] at hlu
  have hlv := hT.live
  have hnd : NdC (blank (upd M1 i (some (⟨x.ow, a, d, [n.key, n.val], [p0, p1]⟩, 1))) H) i ⟨x.ow, a, d, [n.key, n.val], [p0, p1]⟩ 1 n.key n.val p0 p1 := ⟨by rw [blank_out hnH, upd_same], by omega, rfl, rfl⟩
  have htr : TR most M H P (pb ++ (n.key, n.val) :: sb) (b.length + 1) i (upd M1 i (some (⟨x.ow, a, d, [n.key, n.val], [p0, p1]⟩, 1))) := ⟨Bk.make (c := ⟨x.ow, a, d, [n.key, n.val], [p0, p1]⟩) (hs := []) hT.bk i1 (by omega) i3 (by show 2 ≤ 64; decide), fun r h0 hp => (hT.keeps r h0 hp).trans (hpn r), fun y hy => by
    have hyi : y ≠ i := fun e => hnH (e ▸ hy)
    rw [upd_other _ _ hyi]
    exact hT.holes y hy, by omega, .node hnd (hT.t0.pres fun _ => hpn _) (hT.t1.pres fun _ => hpn _) hsrt⟩
  have hst := hR4.fin hF
  rw [HXE.out] at hst
  exact bodyPost_ret (v := .int .i64 (i : Nat)) (by simp [results, Tryz.results123, go_sem]) rfl ⟨i, rfl, _, htr, hst⟩
end
end Go.Proofs.YtghbbpbhbinioaaGreat
