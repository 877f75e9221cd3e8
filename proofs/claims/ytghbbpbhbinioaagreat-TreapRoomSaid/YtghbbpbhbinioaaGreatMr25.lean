/- Several texts in one. -/
import Derived.Test.YtghbbpbhbinioaaGreatMr24
import Derived.Test.YtghbbpbhbinioaaGreatMr11
set_option linter.unusedSimpArgs false
namespace Go.Proofs.YtghbbpbhbinioaaGreat
set_option maxRecDepth 100000
set_option linter.unusedSimpArgs false
set_option linter.unusedVariables false
open Go.RowKit
abbrev frN (n : Nv) (f : Nat) : Nv := { n with fresh := f }
theorem NdP.fr {M : Cells} {W : World} {n : Nv} {la lb l : List Pr} (h : NdP M W n la lb l) (f : Nat) (hf : f ≤ 1) : NdP M W (frN n f) la lb l := ⟨h.node, h.treex, h.treey, h.eq, h.srt, h.low, h.high, hf⟩
structure Wa (W : World) (z1 z4 : Nat) (x : Yv) : Prop where
  way : BC W z1 146 (ycells x)
  nd : ∃ f : Nat, BC W z4 144 (ncells (frN x.nd f))
theorem Wa.below {W W' : World} {z1 z4 : Nat} {x : Yv} (h : Wa W z1 z4 x) (hb : Below W.heap.size W W') : Wa W' z1 z4 x := by
  obtain ⟨f, hf⟩ := h.nd
  exact ⟨h.way.below hb, f, hf.below hb⟩
structure Wb (W : World) (z1 z4 : Nat) (x : Yv) (n : Nv) : Prop where
  way : BC W z1 146 (ycells x)
  nd : BC W z4 144 (ncells n)
theorem Wb.kp {W W' : World} {z1 z4 : Nat} {x : Yv} {n : Nv} {G : Nat → Prop} (h : Wb W z1 z4 x n) (hk : Kp G W W') (h1 : ¬ G z1) (h2 : ¬ G z4) : Wb W' z1 z4 x n := ⟨h.way.kp hk h1, h.nd.kp hk h2⟩
theorem Wb.below {W W' : World} {z1 z4 : Nat} {x : Yv} {n : Nv} (h : Wb W z1 z4 x n) (hb : Below W.heap.size W W') : Wb W' z1 z4 x n := h.kp (Kp.of_below hb (fun _ => False)) id id
theorem TRes.more {most : Nat} {M M' : Cells} {P : Nat → Nat} {root : Nat} {ow : Int} {l' : List Pr} {q q' n : Nat} (h : TRes most M P root ow l' q n M') (hq : q ≤ q') : TRes most M P root ow l' q' n M' := ⟨h.bk, h.keeps, by have := h.live; omega, h.tt⟩
structure Wsm (w W : World) (z1 z4 z5 z6 : Nat) (x : Yv) (n : Nv) (M : Cells) (la lb : List Pr) (As : Option Addr) (cs : Nat) (seam : List Nv) (x' y' : Nat) (lx' ly' pre2 suf2 : List Pr) (rest : Nat) : Prop where
  wt : WtK W z1 z4 z5 z6 x n As cs seam.length rest
  sm : SeamR M x.key x.ow n.kx n.ky la lb seam x' y' lx' ly' pre2 suf2
  rest : x' = 0 ∧ rest = y' ∨ y' = 0 ∧ rest = x'
  row : OwnN W w.heap.size As cs seam
  bel : Below w.heap.size w W
  far : w.heap.size ≤ z1 ∧ w.heap.size ≤ z4 ∧ w.heap.size ≤ z5 ∧ w.heap.size ≤ z6
theorem Wsm.below {w W W' : World} {z1 z4 z5 z6 : Nat} {x : Yv} {n : Nv} {M : Cells} {la lb : List Pr} {As : Option Addr} {cs : Nat} {seam : List Nv} {x' y' : Nat} {lx' ly' pre2 suf2 : List Pr} {rest : Nat} (h : Wsm w W z1 z4 z5 z6 x n M la lb As cs seam x' y' lx' ly' pre2 suf2 rest) (hb : Below W.heap.size W W') : Wsm w W' z1 z4 z5 z6 x n M la lb As cs seam x' y' lx' ly' pre2 suf2 rest :=
  ⟨h.wt.below hb, h.sm, h.rest, (Kp.of_below hb (fun _ => False)).own h.row (fun _ _ h => h), h.bel.trans (hb.mono h.bel.size), h.far⟩
section
variable {most : Nat} {M : Cells} {F : Nat → Prop}
set_option maxHeartbeats 16000000 in
theorem ttake (x : Yv) (B : Nat) (cl : List Nv) (l lj pre suf la lb : List Pr) (P : Nat → Nat) (w : World) (h : Ar w x.b most M F) (hm : most ≤ 1048576) (hb : Bk (most + 1) M [] P [x.root]) (hP : ∀ j, P j ≤ 576460752303423488)
    (hwt : WayT M w B x.b x.bh x.root x.ow x.key l x cl x.nd.cell lj pre suf) (hnd : NdP M w x.nd la lb lj) (hk : x.nd.key = x.key) (hsh1 : x.nd.shared ≤ 1) (hsrt : Srt h0 (pre ++ (la ++ lb) ++ suf)) (hl : l.length ≤ 1024) (hB : ∀ q, F q → q < B) (hBw : B ≤ w.heap.size) (hroom : x.ow = 0 ∨ live (most + 1) M + l.length ≤ most) :
    Calls Tryz.prog 80 #[yagg x] w fun e w' => ChgR w w' x.b most M F P x.root x.ow (pre ++ (la ++ lb) ++ suf) l.length e := by
  have hF : ∀ q, F q → q < w.heap.size := fun q hq => h.lt hq
  have hn : x.n = cl.length := hwt.head.2.2.2.2.2
  have hsh := hwt.way.short
  have hcl : cl.length ≤ 1024 := by omega
  have hfs : sumF cl ≤ cl.length := sumF_le cl (fun n hn => (hwt.way.frs n hn).1)
  have hfa : x.ow = 0 → sumF cl = cl.length := fun h0 => sumF_all cl (fun n hn => (hwt.way.frs n hn).2 h0)
  have hpr := hnd.pairs
  have hlj : la.length + lb.length + 1 = lj.length := by rw [hnd.eq, List.length_append, List.length_cons]; omega
  obtain ⟨r1, hr1, hr1b⟩ : ∃ r1, rfi M (x.nd.cell : Int) = r1 + 1 ∧ r1 ≤ 4611686018420000000 := by
    obtain ⟨c, r, hc⟩ := hnd.node
    have hz : M 0 = none := hb.zero
    have hp := hb.ok.pos x.nd.cell (by rw [blank_nil, hc.cell]; simp)
    rw [blank_nil] at hp
    rw [rfi_nat hz]
    have hq := bk_rf hm hP hb (by show 1 ≤ 64; decide) x.nd.cell
    exact ⟨rf (M x.nd.cell) - 1, by omega, by omega⟩
  have HNL := Lib.hid (fun (W : World) (hW : Below w.heap.size w W) => wfresh x.A cl x.c W (hwt.row.nl.below hW) (by omega) (fun n hn => (hwt.way.frs n hn).1))
  rw [← hn] at HNL
  have HRF := Lib.hid (fun (W : World) (hW : Below w.heap.size w W) => by have := arefs (x.nd.cell : Int) x.b most M F W (h.below hW); rwa [hr1] at this)
  have HSM := Lib.hid (fun (n : Nv) (hn : n.kx = x.nd.kx ∧ n.ky = x.nd.ky) (sx sy : Nat) (lox hix loy hiy : Option Addr) (W : World) (hW : Below w.heap.size w W) (hpx : Pl M W n.kx sx lox hix la) (hpy : Pl M W n.ky sy loy hiy lb) => vseam x n.kx sx n.ky sy lox hix loy hiy la lb x.key W (h.below hW) hb.zero hpx hpy (fun p hp => by rw [← hk]; exact h0_klt.2 (hpr.2.2.1 p hp)) (fun p hp => by rw [← hk]; exact h0_klt.2 (hpr.2.2.2 p hp)) (by omega))
  have HND := Lib.hid (And.intro hnd hsh1)
  have HDO := Lib.hid (fun (W : World) (z1 z4 z5 z6 : Nat) (f : Nat) (hf : f ≤ 1) (As : Option Addr) (cs : Nat) (seam : List Nv) (x' y' : Nat) (lx' ly' pre2 suf2 : List Pr) (rest : Nat) (hc : Wsm w W z1 z4 z5 z6 x (frN x.nd f) M la lb As cs seam x' y' lx' ly' pre2 suf2 rest) => show Calls Tryz.prog 112 #[yagg x, .int .i64 ((sumF cl + sumF seam : Nat)), .func (.func 131) #[] #[.pointer (some ⟨z1, 0, none⟩), .pointer (some ⟨z4, 0, none⟩), .pointer (some ⟨z5, 0, none⟩), .pointer (some ⟨z6, 0, none⟩)]] W (fun e w' => ∃ v1 v2, e = .returned (.tuple #[v1, v2]) ∧ ChgR w w' x.b most M F P x.root x.ow (pre ++ (la ++ lb) ++ suf) l.length e ∧ WtK w' z1 z4 z5 z6 x (frN x.nd f) As cs seam.length rest) from by
    have hsl := hc.sm.chain.len
    have hsf : sumF seam ≤ seam.length := sumF_le seam (fun n hn => (hc.sm.frs n hn).1)
    have hsa : x.ow = 0 → sumF seam = seam.length := fun h0 => sumF_all seam (fun n hn => (hc.sm.frs n hn).2 h0)
    have nF : ∀ z, w.heap.size ≤ z → ¬ F z := fun z hz hf => by have := hF z hf; omega
    obtain ⟨g1, g4, g5, g6⟩ := hc.far
    by_cases hr : live (most + 1) M + (sumF cl + sumF seam) ≤ most
    · refine (ttake_do x (frN x.nd f) z1 z4 z5 z6 cs rest B (sumF cl + sumF seam) As cl seam l lj pre suf la lb lx' ly' pre2 suf2 x' y' P W (h.below hc.bel) hm hb hP (hwt.below hc.bel) ((hnd.below hc.bel).fr f hf) hc.wt ⟨nF _ g1, nF _ g4, nF _ g5, nF _ g6⟩ hB hc.sm hc.rest (own_base hc.row hBw) hsrt hl hr (by
        rcases hroom with h0 | h0
        · have := hfa h0; have := hsa h0; omega
        · omega)).mono ?_
      rintro e w' ⟨n, M', rfl, hT, hS⟩
      exact ⟨_, _, rfl, .inl ⟨n, M', rfl, hT.more (by omega), Stp.from (fun y hy => h.lt hy) hc.bel hS.stp⟩, hc.wt.kp hS.stp.kp (nF _ g1) (nF _ g4) (nF _ g5) (nF _ g6)⟩
    · refine (tdo_no x (sumF cl + sumF seam) _ W (h.below hc.bel) (by omega)).mono ?_
      rintro e w' ⟨rfl, hb⟩
      have h0 : x.ow = 0 := by
        rcases hroom with h0 | h0
        · exact h0
        · exact absurd h0 (by omega)
      exact ⟨_, _, rfl, .inr ⟨rfl, h0, by omega, hc.bel.trans (hb.mono hc.bel.size)⟩, hc.wt.below hb⟩)
  have HWR := Lib.hid (show IntKind.i64.wrap (r1 : Int) = (r1 : Int) from IntWalk.i64_in _ (by omega))
  have HL := Lib.hid (And.intro hlj (And.intro hsh (And.intro hl hfs)))
  clear h hb hP hwt hnd hsrt hroom hsh hcl hfs hfa hF hn hB hl hm hpr hlj hr1 hr1b hk hsh1 hBw
  go_enter Tryz.func80, Tryz.ntmps80
  go_upto_region 1 with fail
  have q1 := BC.new w 146 (ycells x)
  have hb1 : Below w.heap.size w (w.alloc (.cells (ycells x) 146)) := (Below.refl _ w).alloc (Nat.le_refl _) _
  change Code.wp _ _ _ _ (w.alloc (.cells (ycells x) 146))
  generalize w.alloc _ = W1 at q1 hb1 ⊢
  obtain ⟨z1, hz1⟩ : ∃ z, z = w.heap.size := ⟨_, rfl⟩
  rw [← hz1] at q1 ⊢
  have HZ1 := Lib.hid hz1
  clear hz1
  have q9 := BC.new W1 144 (ncells nzero)
  obtain ⟨f0, f1, f2, f3, f4, f5, f6, f7, f8, f9, f10, f11, f12, f13⟩ := q9.fz14
  obtain ⟨c0, c1, c2, c3, c4, c5, c6, c7, c8, c9, c10, c11, c12, c13⟩ := q9.node
  clear q9
  simp only at c0 c1 c2 c3 c4 c5 c6 c7 c8 c9 c10 c11 c12 c13
  go_upto_region 2 with (refine wpList_load_mid rfl _ _ rfl z1 8 rfl (nlist x.nd) _ q1.wnode Tryz.underlying144 rfl node_size ?_)
  clear f0 f1 f2 f3 f4 f5 f6 f7 f8 f9 f10 f11 f12 f13 c0 c1 c2 c3 c4 c5 c6 c7 c8 c9 c10 c11 c12 c13
  change Code.wp _ _ _ _ (W1.alloc (.cells (ncells x.nd) 144))
  have hb2 : Below W1.heap.size W1 (W1.alloc (.cells (ncells x.nd) 144)) := (Below.refl _ W1).alloc (Nat.le_refl _) _
  have hwa : Wa (W1.alloc (.cells (ncells x.nd) 144)) z1 W1.heap.size x := ⟨q1.below hb2, x.nd.fresh, BC.new W1 _ _⟩
  have hb3 := hb1.trans (hb2.mono hb1.size)
  have hz14 : z1 < W1.heap.size := q1.lt
  have hz4s := hb1.size
  clear q1 hb1 hb2
  generalize W1.alloc _ = W2 at hwa hb3 ⊢
  generalize W1.heap.size = z4 at hwa hz14 hz4s ⊢
  have HZ := Lib.hid (And.intro hz14 (And.intro (show w.heap.size ≤ z1 by have := HZ1.out; omega) hz4s))
  clear hz14 hz4s
  have a0 : ∀ W', Wa W' z1 z4 x → W'.cell? ⟨z1, 0, none⟩ = some (ap x.b) := fun W' h => h.way.way.1
  have a6 : ∀ W', Wa W' z1 z4 x → W'.cell? ⟨z4, 6, none⟩ = some (.int .i64 (x.nd.cell : Nat)) := fun W' h => by obtain ⟨f, hf⟩ := h.nd; exact hf.node.2.2.2.2.2.2.1
  have a9 : ∀ W', Wa W' z1 z4 x → W'.cell? ⟨z4, 9, none⟩ = some (.int .i64 (x.nd.shared : Nat)) := fun W' h => by obtain ⟨f, hf⟩ := h.nd; exact hf.node.2.2.2.2.2.2.2.2.2.1
  obtain ⟨m1, hm1⟩ : ∃ m1 : Nat, m1 = min 1 r1 := ⟨_, rfl⟩
  obtain ⟨f, hf⟩ : ∃ f : Nat, f = max x.nd.shared m1 := ⟨_, rfl⟩
  have HM := Lib.hid (And.intro (show min 1 (r1 : Int) = (m1 : Int) by omega) (And.intro (show max (x.nd.shared : Int) (m1 : Int) = (f : Int) by omega) (show f ≤ 1 by have := HND.out.2; omega)))
  clear hf hm1
  go_cut [] from 9 to 22 (fun wc => ∃ f, f ≤ 1 ∧ Wb wc z1 z4 x (frN x.nd f) ∧ Below w.heap.size w wc)
  case first =>
    refine wp_region_noPanic ?_
    refine wp_region_held_drew (S := fun W' => Wa W' z1 z4 x) (by kernel_rfl) (hwa.below (Below.refl _ W2).drew) (fun hH => ?_)
    have hB := hb3.trans ((Below.refl _ W2).drew.mono hb3.size)
    clear hwa hb3
    generalize W2.drew = Wc at hH hB ⊢
    refine tkH ?_ 0 hH ?_ ?_; rotate_left
    · intro W' hS; go_simp; with_reducible rfl
    simp only [tkr]
    refine tkH ?_ 1 hH ?_ ?_; rotate_left
    · intro W' hS; go_simp; with_reducible rfl
    simp only [tkr]
    refine tkH ?_ 2 hH ?_ ?_; rotate_left
    · intro W' hS; go_simp; with_reducible rfl
    simp only [tkr]
    refine tkH ?_ 3 hH ?_ ?_; rotate_left
    · intro W' hS; go_simp; with_reducible rfl
    simp only [tkr]
    refine tkH ?_ 4 hH ?_ ?_; rotate_left
    · intro W' hS; go_simp; with_reducible rfl
    simp only [tkr]
    refine tkH ?_ 5 hH ?_ ?_; rotate_left
    · intro W' hS; go_simp; with_reducible rfl
    simp only [tkr]
    refine tkH ?_ 6 hH ?_ ?_; rotate_left
    · intro W' hS; go_simp; with_reducible rfl
    simp only [tkr]
    refine tkH ?_ 7 hH ?_ ?_; rotate_left
    · intro W' hS; go_simp; with_reducible rfl
    simp only [tkr]
    refine tkH ?_ 8 hH ?_ ?_; rotate_left
    · intro W' hS; go_simp; with_reducible rfl
    simp only [tkr]
    refine rdH 9 rfl (fun K hK => ?_)
    go_simp
    refine (HRF.out _ hB).mono ?_
    rintro e Wn ⟨rfl, rfl⟩
    simp only
    refine hK.out _ _ hH (fun hH => ?_)
    clear hK K
    refine tkH ?_ 10 hH ?_ ?_; rotate_left
    · intro W' hS; go_simp; with_reducible rfl
    simp only [tkr]
    refine rdH 11 rfl (fun K hK => ?_)
    go_simp
    rw [HWR.out, HM.out.1]
    refine hK.out _ _ hH (fun hH => ?_)
    clear hK K
    refine rdH 12 rfl (fun K hK => ?_)
    go_simp
    rw [HM.out.2.1]
    refine hK.out _ _ hH (fun hH => ?_)
    clear hK K
    refine tkH ?_ 13 hH ?_ ?_; rotate_left
    · intro W' hS; go_simp; with_reducible rfl
    simp only [tkr]
    refine rdH 14 rfl (fun K hK => ?_)
    obtain ⟨f0, hf0⟩ := hH.nd
    have c13 := hf0.node.2.2.2.2.2.2.2.2.2.2.2.2.2
    have f13 := hf0.fz 13
    go_simp
    clear c13 f13
    have kz : Kp (fun z => z = z4) Wc (Wc.setCell ⟨z4, 13, none⟩ (.int .i64 (f : Nat))) := (Kp.refl (fun z => z = z4) Wc).setCell (.inl rfl) _
    have q4 := hf0.set 13 (.int .i64 (f : Nat))
    simp only [List.setIfInBounds_toArray, List.set_cons_zero, List.set_cons_succ] at q4
    have hwb : Wb (Wc.setCell ⟨z4, 13, none⟩ (.int .i64 (f : Nat))) z1 z4 x (frN x.nd f) := ⟨hH.way.kp kz (by have := HZ.out; omega), q4⟩
    have hH2 : Wa (Wc.setCell ⟨z4, 13, none⟩ (.int .i64 (f : Nat))) z1 z4 x := ⟨hwb.way, f, hwb.nd⟩
    have hB2 : Below w.heap.size w (Wc.setCell ⟨z4, 13, none⟩ (.int .i64 (f : Nat))) := hB.setCell HZ.out.2.2 _
    clear kz q4 hf0 hB
    generalize Wc.setCell _ _ = Wn at hwb hH2 hB2 ⊢
    refine hK.out _ _ hH2 (fun hH => ?_)
    clear hK K hH2
    rename World => Wc
    refine wpAnyH_done (by kernel_rfl) ?_ _
    refine NoPanic.normal ?_
    clear a0 a6 a9 hH
    go_wp2_with fail
    go_meet
    exact ⟨f, HM.out.2.2, hwb, hB2⟩
  case rest =>
    clear a0 a6 a9 HM hwa hb3 W2
    clear f m1
    obtain ⟨f, hf1, hwb, hB2⟩ := hcut
    rename World => Wc
    go_upto_region 3 with fail
    go_cut [5, 6] from 23 to 31 (fun s5 s6 wc => ∃ z5 z6 As cs seam x' y' lx' ly' pre2 suf2 rest, s5 = .pointer (some ⟨z5, 0, none⟩) ∧ s6 = .pointer (some ⟨z6, 0, none⟩) ∧ Wsm w wc z1 z4 z5 z6 x (frN x.nd f) M la lb As cs seam x' y' lx' ly' pre2 suf2 rest)
    case first =>
      obtain ⟨n, hn⟩ : ∃ n, n = frN x.nd f := ⟨_, rfl⟩
      have hnd := (HND.out.1.below hB2).fr f hf1
      rw [← hn] at hwb hnd
      have HN := Lib.hid (show n.kx = x.nd.kx ∧ n.ky = x.nd.ky by rw [hn]; exact ⟨rfl, rfl⟩)
      have HNE := Lib.hid hn
      clear hn
      have hbd : Below Wc.heap.size Wc Wc.drew := (Below.refl _ Wc).drew
      refine wp_region_noPanic ?_
      refine wp_region_held_drew (S := fun W' => Wb W' z1 z4 x n) (by kernel_rfl) (hwb.below hbd) (fun hH => ?_)
      replace hnd := hnd.below hbd
      have hB := hB2.trans (hbd.mono hB2.size)
      clear hwb hbd hB2
      generalize Wc.drew = Wd at hH hB hnd ⊢
      clear Wc
      rename World => Wc
      refine wpAnyH_take (i := 0) (v := yagg x) rfl (by kernel_rfl) (by kernel_rfl) (by kernel_rfl) (fun _ _ _ h => h) (Or.inl ⟨by rfl, fun W' hS => exec_way rfl rfl (Wb.way hS)⟩) hH ?_
      simp only [Act.put, List.setIfInBounds_toArray, List.set_cons_zero, List.set_cons_succ, List.getElem_toArray, List.getElem_cons_zero, List.getElem_cons_succ]
      refine wpAnyH_take (i := 1) (v := nagg n) rfl (by kernel_rfl) (by kernel_rfl) (by kernel_rfl) (fun _ _ _ h => h) (Or.inl ⟨by rfl, fun W' hS => exec_node rfl rfl (Wb.nd hS)⟩) hH ?_
      simp only [Act.put, List.setIfInBounds_toArray, List.set_cons_zero, List.set_cons_succ, List.getElem_toArray, List.getElem_cons_zero, List.getElem_cons_succ]
      refine wpAnyH_take (i := 3) (v := nagg n) rfl (by kernel_rfl) (by kernel_rfl) (by kernel_rfl) (fun _ _ _ h => h) (Or.inl ⟨by rfl, fun W' hS => exec_node rfl rfl (Wb.nd hS)⟩) hH ?_
      simp only [Act.put, List.setIfInBounds_toArray, List.set_cons_zero, List.set_cons_succ, List.getElem_toArray, List.getElem_cons_zero, List.getElem_cons_succ]
      refine wpAnyH_ready (rs := [2, 9, 10]) (by kernel_rfl) (by simp) ?_
      refine AllReadyH.cons rfl (fun K hK => ?_) (AllReadyH.cons rfl (fun K hK => ?_) (AllReadyH.cons rfl (fun K hK => ?_) (AllReadyH.nil)))
      · go_simp
        refine (nbelow0 n _).mono ?_
        rintro e Wn ⟨g, rfl, hg, _, hbn⟩
        have hH2 := hH.below hbn
        replace hB := hB.trans (hbn.mono hB.size)
        try replace hnd := hnd.below hbn
        try replace hp1 := hp1.below hbn
        try replace hp2 := hp2.below hbn
        try replace a5 := a5.below hbn
        try replace a6 := a6.below hbn
        try replace hrow := (Kp.of_below hbn (fun _ => False)).own hrow (fun _ _ h => h)
        have hp1 := hnd.placex hg
        clear hg
        simp only
        refine hK.out _ _ hH2 (fun hH => ?_)
        clear hK K hH2 hbn
        rename World => Wc
        refine wpAnyH_ready (rs := [4, 9, 10]) (by kernel_rfl) (by simp) ?_
        refine AllReadyH.cons rfl (fun K hK => ?_) (AllReadyH.cons rfl (fun K hK => ?_) (AllReadyH.cons rfl (fun K hK => ?_) (AllReadyH.nil)))
        · go_simp
          refine (nbelow1 n _).mono ?_
          rintro e Wn ⟨g, rfl, hg, _, hbn⟩
          have hH2 := hH.below hbn
          replace hB := hB.trans (hbn.mono hB.size)
          try replace hnd := hnd.below hbn
          try replace hp1 := hp1.below hbn
          try replace hp2 := hp2.below hbn
          try replace a5 := a5.below hbn
          try replace a6 := a6.below hbn
          try replace hrow := (Kp.of_below hbn (fun _ => False)).own hrow (fun _ _ h => h)
          have hp2 := hnd.placey hg
          clear hg
          simp only
          refine hK.out _ _ hH2 (fun hH => ?_)
          clear hK K hH2 hbn
          rename World => Wc
          refine wpAnyH_ready (rs := [5, 9, 10]) (by kernel_rfl) (by simp) ?_
          refine AllReadyH.cons rfl (fun K hK => ?_) (AllReadyH.cons rfl (fun K hK => ?_) (AllReadyH.cons rfl (fun K hK => ?_) (AllReadyH.nil)))
          · go_simp
            refine (HSM.out n HN.out _ _ _ _ _ _ _ hB hp1 hp2).mono ?_
            rintro e Wn ⟨As, cs, seam, x', y', lx', ly', pre2, suf2, rest, rfl, hsr, hrest, hrow, hbn⟩
            replace hrow := own_base hrow hB.size
            clear hp1 hp2
            have HSR := Lib.hid (And.intro hsr hrest)
            clear hsr hrest
            have hH2 := hH.below hbn
            replace hB := hB.trans (hbn.mono hB.size)
            try replace a5 := a5.below hbn
            try replace a6 := a6.below hbn
            clear hnd
            simp only
            refine hK.out _ _ hH2 (fun hH => ?_)
            clear hK K hH2 hbn
            rename World => Wc
            refine tkH ?_ 6 hH ?_ ?_; rotate_left
            · intro W' hS; go_simp; with_reducible rfl
            simp only [tkr]
            refine tkH ?_ 7 hH ?_ ?_; rotate_left
            · intro W' hS; go_simp; with_reducible rfl
            simp only [tkr]
            refine tkH ?_ 8 hH ?_ ?_; rotate_left
            · intro W' hS; go_simp; with_reducible rfl
            simp only [tkr]
            refine wpAnyH_ready (rs := [9, 10]) (by kernel_rfl) (by simp) ?_
            refine AllReadyH.cons rfl (fun K hK => ?_) (AllReadyH.cons rfl (fun K hK => ?_) (AllReadyH.nil))
            · go_simp
              change K _ (Wc.alloc (.cells #[.slice none 0 0] 137))
              have hbn : Below Wc.heap.size Wc (Wc.alloc (.cells #[.slice none 0 0] 137)) := (Below.refl _ Wc).alloc (Nat.le_refl _) _
              have g5 : w.heap.size ≤ Wc.heap.size := hB.size
              have m5 : z4 < Wc.heap.size := hH.nd.lt
              try have n56 : Wc.heap.size ≠ z6 := fun e => by have := a6.lt; omega
              have hH2 := hH.below hbn
              replace hB := hB.trans (hbn.mono hB.size)
              try replace hnd := hnd.below hbn
              try replace hp1 := hp1.below hbn
              try replace hp2 := hp2.below hbn
              try replace a5 := a5.below hbn
              try replace a6 := a6.below hbn
              try replace hrow := (Kp.of_below hbn (fun _ => False)).own hrow (fun _ _ h => h)
              have a5 := C1.new Wc 137 (.slice none 0 0)
              generalize Wc.alloc _ = Wn at *
              generalize Wc.heap.size = z5 at *
              refine hK.out _ _ hH2 (fun hH => ?_)
              clear hK K hH2 hbn
              rename World => Wc
              refine rdH 10 rfl (fun K hK => ?_)
              go_simp
              change K _ (Wc.alloc (.cells #[.int .i64 0] 3))
              have hbn : Below Wc.heap.size Wc (Wc.alloc (.cells #[.int .i64 0] 3)) := (Below.refl _ Wc).alloc (Nat.le_refl _) _
              have g6 : w.heap.size ≤ Wc.heap.size := hB.size
              have m6 : z4 < Wc.heap.size := hH.nd.lt
              try have n56 : z5 ≠ Wc.heap.size := fun e => by have := a5.lt; omega
              have hH2 := hH.below hbn
              replace hB := hB.trans (hbn.mono hB.size)
              try replace hnd := hnd.below hbn
              try replace hp1 := hp1.below hbn
              try replace hp2 := hp2.below hbn
              try replace a5 := a5.below hbn
              try replace a6 := a6.below hbn
              try replace hrow := (Kp.of_below hbn (fun _ => False)).own hrow (fun _ _ h => h)
              have a6 := C1.new Wc 3 (.int .i64 0)
              generalize Wc.alloc _ = Wn at *
              generalize Wc.heap.size = z6 at *
              refine hK.out _ _ hH2 (fun hH => ?_)
              clear hK K hH2 hbn
              rename World => Wc
              refine rdH 11 rfl (fun K hK => ?_)
              have c5 := a5.c0
              have f5 := a5.fz
              go_simp
              clear c5 f5
              have kz : Kp (fun z => z = z5) Wc (Wc.setCell ⟨z5, 0, none⟩ (.slice As seam.length cs)) := (Kp.refl (fun z => z = z5) Wc).setCell (.inl rfl) _
              have hH2 := hH.kp kz (by have := HZ.out; omega) (by omega)
              replace hB := hB.setCell (p := ⟨z5, 0, none⟩) g5 (.slice As seam.length cs)
              try replace a6 := a6.kp kz (fun e => n56 e.symm)
              replace hrow := kz.own hrow (fun q hq e => by
                obtain ⟨cur, e2⟩ := own_type hrow q hq
                have e3 : Wc.heap[z5]? = some _ := a5
                rw [e, e3] at e2
                simp only [Option.some.injEq, Obj.cells.injEq] at e2
                exact absurd e2.2.1 (by decide))
              replace a5 := a5.set (.slice As seam.length cs)
              clear kz
              generalize Wc.setCell _ _ = Wn at *
              refine hK.out _ _ hH2 (fun hH => ?_)
              clear hK K hH2
              rename World => Wc
              refine rdH 12 rfl (fun K hK => ?_)
              have c6 := a6.c0
              have f6 := a6.fz
              go_simp
              clear c6 f6
              have kz : Kp (fun z => z = z6) Wc (Wc.setCell ⟨z6, 0, none⟩ (.int .i64 (rest : Nat))) := (Kp.refl (fun z => z = z6) Wc).setCell (.inl rfl) _
              have hH2 := hH.kp kz (by have := HZ.out; omega) (by omega)
              replace hB := hB.setCell (p := ⟨z6, 0, none⟩) g6 (.int .i64 (rest : Nat))
              replace a5 := a5.kp kz n56
              replace hrow := kz.own hrow (fun q hq e => by
                obtain ⟨cur, e2⟩ := own_type hrow q hq
                have e3 : Wc.heap[z6]? = some _ := a6
                rw [e, e3] at e2
                simp only [Option.some.injEq, Obj.cells.injEq] at e2
                exact absurd e2.2.1 (by decide))
              replace a6 := a6.set (.int .i64 (rest : Nat))
              clear kz
              generalize Wc.setCell _ _ = Wn at *
              refine hK.out _ _ hH2 (fun hH => ?_)
              clear hK K hH2
              rename World => Wc
              refine wpAnyH_done (by kernel_rfl) ?_ _
              refine NoPanic.normal ?_
              go_wp2_with fail
              go_meet
              have e := HNE.out
              subst e
              exact ⟨z5, z6, As, cs, seam, x', y', lx', ly', pre2, suf2, rest, rfl, rfl, ⟨⟨hH.way, hH.nd, a5, a6⟩, HSR.out.1, HSR.out.2, hrow, hB, HZ.out.2.1, HZ.out.2.2, g5, g6⟩⟩
            · go_simp
              change K _ (Wc.alloc (.cells #[.int .i64 0] 3))
              have hbn : Below Wc.heap.size Wc (Wc.alloc (.cells #[.int .i64 0] 3)) := (Below.refl _ Wc).alloc (Nat.le_refl _) _
              have g6 : w.heap.size ≤ Wc.heap.size := hB.size
              have m6 : z4 < Wc.heap.size := hH.nd.lt
              try have n56 : z5 ≠ Wc.heap.size := fun e => by have := a5.lt; omega
              have hH2 := hH.below hbn
              replace hB := hB.trans (hbn.mono hB.size)
              try replace hnd := hnd.below hbn
              try replace hp1 := hp1.below hbn
              try replace hp2 := hp2.below hbn
              try replace a5 := a5.below hbn
              try replace a6 := a6.below hbn
              try replace hrow := (Kp.of_below hbn (fun _ => False)).own hrow (fun _ _ h => h)
              have a6 := C1.new Wc 3 (.int .i64 0)
              generalize Wc.alloc _ = Wn at *
              generalize Wc.heap.size = z6 at *
              refine hK.out _ _ hH2 (fun hH => ?_)
              clear hK K hH2 hbn
              rename World => Wc
              refine rdH 9 rfl (fun K hK => ?_)
              go_simp
              change K _ (Wc.alloc (.cells #[.slice none 0 0] 137))
              have hbn : Below Wc.heap.size Wc (Wc.alloc (.cells #[.slice none 0 0] 137)) := (Below.refl _ Wc).alloc (Nat.le_refl _) _
              have g5 : w.heap.size ≤ Wc.heap.size := hB.size
              have m5 : z4 < Wc.heap.size := hH.nd.lt
              try have n56 : Wc.heap.size ≠ z6 := fun e => by have := a6.lt; omega
              have hH2 := hH.below hbn
              replace hB := hB.trans (hbn.mono hB.size)
              try replace hnd := hnd.below hbn
              try replace hp1 := hp1.below hbn
              try replace hp2 := hp2.below hbn
              try replace a5 := a5.below hbn
              try replace a6 := a6.below hbn
              try replace hrow := (Kp.of_below hbn (fun _ => False)).own hrow (fun _ _ h => h)
              have a5 := C1.new Wc 137 (.slice none 0 0)
              generalize Wc.alloc _ = Wn at *
              generalize Wc.heap.size = z5 at *
              refine hK.out _ _ hH2 (fun hH => ?_)
              clear hK K hH2 hbn
              rename World => Wc
              refine rdH 11 rfl (fun K hK => ?_)
              have c5 := a5.c0
              have f5 := a5.fz
              go_simp
              clear c5 f5
              have kz : Kp (fun z => z = z5) Wc (Wc.setCell ⟨z5, 0, none⟩ (.slice As seam.length cs)) := (Kp.refl (fun z => z = z5) Wc).setCell (.inl rfl) _
              have hH2 := hH.kp kz (by have := HZ.out; omega) (by omega)
              replace hB := hB.setCell (p := ⟨z5, 0, none⟩) g5 (.slice As seam.length cs)
              try replace a6 := a6.kp kz (fun e => n56 e.symm)
              replace hrow := kz.own hrow (fun q hq e => by
                obtain ⟨cur, e2⟩ := own_type hrow q hq
                have e3 : Wc.heap[z5]? = some _ := a5
                rw [e, e3] at e2
                simp only [Option.some.injEq, Obj.cells.injEq] at e2
                exact absurd e2.2.1 (by decide))
              replace a5 := a5.set (.slice As seam.length cs)
              clear kz
              generalize Wc.setCell _ _ = Wn at *
              refine hK.out _ _ hH2 (fun hH => ?_)
              clear hK K hH2
              rename World => Wc
              refine rdH 12 rfl (fun K hK => ?_)
              have c6 := a6.c0
              have f6 := a6.fz
              go_simp
              clear c6 f6
              have kz : Kp (fun z => z = z6) Wc (Wc.setCell ⟨z6, 0, none⟩ (.int .i64 (rest : Nat))) := (Kp.refl (fun z => z = z6) Wc).setCell (.inl rfl) _
              have hH2 := hH.kp kz (by have := HZ.out; omega) (by omega)
              replace hB := hB.setCell (p := ⟨z6, 0, none⟩) g6 (.int .i64 (rest : Nat))
              replace a5 := a5.kp kz n56
              replace hrow := kz.own hrow (fun q hq e => by
                obtain ⟨cur, e2⟩ := own_type hrow q hq
                have e3 : Wc.heap[z6]? = some _ := a6
                rw [e, e3] at e2
                simp only [Option.some.injEq, Obj.cells.injEq] at e2
                exact absurd e2.2.1 (by decide))
              replace a6 := a6.set (.int .i64 (rest : Nat))
              clear kz
              generalize Wc.setCell _ _ = Wn at *
              refine hK.out _ _ hH2 (fun hH => ?_)
              clear hK K hH2
              rename World => Wc
              refine wpAnyH_done (by kernel_rfl) ?_ _
              refine NoPanic.normal ?_
              go_wp2_with fail
              go_meet
              have e := HNE.out
              subst e
              exact ⟨z5, z6, As, cs, seam, x', y', lx', ly', pre2, suf2, rest, rfl, rfl, ⟨⟨hH.way, hH.nd, a5, a6⟩, HSR.out.1, HSR.out.2, hrow, hB, HZ.out.2.1, HZ.out.2.2, g5, g6⟩⟩
          · go_simp
            change K _ (Wc.alloc (.cells #[.slice none 0 0] 137))
            have hbn : Below Wc.heap.size Wc (Wc.alloc (.cells #[.slice none 0 0] 137)) := (Below.refl _ Wc).alloc (Nat.le_refl _) _
            have g5 : w.heap.size ≤ Wc.heap.size := hB.size
            have m5 : z4 < Wc.heap.size := hH.nd.lt
            try have n56 : Wc.heap.size ≠ z6 := fun e => by have := a6.lt; omega
            have hH2 := hH.below hbn
            replace hB := hB.trans (hbn.mono hB.size)
            try replace hnd := hnd.below hbn
            try replace hp1 := hp1.below hbn
            try replace hp2 := hp2.below hbn
            try replace a5 := a5.below hbn
            try replace a6 := a6.below hbn
            try replace hrow := (Kp.of_below hbn (fun _ => False)).own hrow (fun _ _ h => h)
            have a5 := C1.new Wc 137 (.slice none 0 0)
            generalize Wc.alloc _ = Wn at *
            generalize Wc.heap.size = z5 at *
            refine hK.out _ _ hH2 (fun hH => ?_)
            clear hK K hH2 hbn
            rename World => Wc
            refine wpAnyH_ready (rs := [5, 10]) (by kernel_rfl) (by simp) ?_
            refine AllReadyH.cons rfl (fun K hK => ?_) (AllReadyH.cons rfl (fun K hK => ?_) (AllReadyH.nil))
            · go_simp
              refine (HSM.out n HN.out _ _ _ _ _ _ _ hB hp1 hp2).mono ?_
              rintro e Wn ⟨As, cs, seam, x', y', lx', ly', pre2, suf2, rest, rfl, hsr, hrest, hrow, hbn⟩
              replace hrow := own_base hrow hB.size
              clear hp1 hp2
              have HSR := Lib.hid (And.intro hsr hrest)
              clear hsr hrest
              have hH2 := hH.below hbn
              replace hB := hB.trans (hbn.mono hB.size)
              try replace a5 := a5.below hbn
              try replace a6 := a6.below hbn
              clear hnd
              simp only
              refine hK.out _ _ hH2 (fun hH => ?_)
              clear hK K hH2 hbn
              rename World => Wc
              refine tkH ?_ 6 hH ?_ ?_; rotate_left
              · intro W' hS; go_simp; with_reducible rfl
              simp only [tkr]
              refine tkH ?_ 7 hH ?_ ?_; rotate_left
              · intro W' hS; go_simp; with_reducible rfl
              simp only [tkr]
              refine tkH ?_ 8 hH ?_ ?_; rotate_left
              · intro W' hS; go_simp; with_reducible rfl
              simp only [tkr]
              refine rdH 10 rfl (fun K hK => ?_)
              go_simp
              change K _ (Wc.alloc (.cells #[.int .i64 0] 3))
              have hbn : Below Wc.heap.size Wc (Wc.alloc (.cells #[.int .i64 0] 3)) := (Below.refl _ Wc).alloc (Nat.le_refl _) _
              have g6 : w.heap.size ≤ Wc.heap.size := hB.size
              have m6 : z4 < Wc.heap.size := hH.nd.lt
              try have n56 : z5 ≠ Wc.heap.size := fun e => by have := a5.lt; omega
              have hH2 := hH.below hbn
              replace hB := hB.trans (hbn.mono hB.size)
              try replace hnd := hnd.below hbn
              try replace hp1 := hp1.below hbn
              try replace hp2 := hp2.below hbn
              try replace a5 := a5.below hbn
              try replace a6 := a6.below hbn
              try replace hrow := (Kp.of_below hbn (fun _ => False)).own hrow (fun _ _ h => h)
              have a6 := C1.new Wc 3 (.int .i64 0)
              generalize Wc.alloc _ = Wn at *
              generalize Wc.heap.size = z6 at *
              refine hK.out _ _ hH2 (fun hH => ?_)
              clear hK K hH2 hbn
              rename World => Wc
              refine rdH 11 rfl (fun K hK => ?_)
              have c5 := a5.c0
              have f5 := a5.fz
              go_simp
              clear c5 f5
              have kz : Kp (fun z => z = z5) Wc (Wc.setCell ⟨z5, 0, none⟩ (.slice As seam.length cs)) := (Kp.refl (fun z => z = z5) Wc).setCell (.inl rfl) _
              have hH2 := hH.kp kz (by have := HZ.out; omega) (by omega)
              replace hB := hB.setCell (p := ⟨z5, 0, none⟩) g5 (.slice As seam.length cs)
              try replace a6 := a6.kp kz (fun e => n56 e.symm)
              replace hrow := kz.own hrow (fun q hq e => by
                obtain ⟨cur, e2⟩ := own_type hrow q hq
                have e3 : Wc.heap[z5]? = some _ := a5
                rw [e, e3] at e2
                simp only [Option.some.injEq, Obj.cells.injEq] at e2
                exact absurd e2.2.1 (by decide))
              replace a5 := a5.set (.slice As seam.length cs)
              clear kz
              generalize Wc.setCell _ _ = Wn at *
              refine hK.out _ _ hH2 (fun hH => ?_)
              clear hK K hH2
              rename World => Wc
              refine rdH 12 rfl (fun K hK => ?_)
              have c6 := a6.c0
              have f6 := a6.fz
              go_simp
              clear c6 f6
              have kz : Kp (fun z => z = z6) Wc (Wc.setCell ⟨z6, 0, none⟩ (.int .i64 (rest : Nat))) := (Kp.refl (fun z => z = z6) Wc).setCell (.inl rfl) _
              have hH2 := hH.kp kz (by have := HZ.out; omega) (by omega)
              replace hB := hB.setCell (p := ⟨z6, 0, none⟩) g6 (.int .i64 (rest : Nat))
              replace a5 := a5.kp kz n56
              replace hrow := kz.own hrow (fun q hq e => by
                obtain ⟨cur, e2⟩ := own_type hrow q hq
                have e3 : Wc.heap[z6]? = some _ := a6
                rw [e, e3] at e2
                simp only [Option.some.injEq, Obj.cells.injEq] at e2
                exact absurd e2.2.1 (by decide))
              replace a6 := a6.set (.int .i64 (rest : Nat))
              clear kz
              generalize Wc.setCell _ _ = Wn at *
              refine hK.out _ _ hH2 (fun hH => ?_)
              clear hK K hH2
              rename World => Wc
              refine wpAnyH_done (by kernel_rfl) ?_ _
              refine NoPanic.normal ?_
              go_wp2_with fail
              go_meet
              have e := HNE.out
              subst e
              exact ⟨z5, z6, As, cs, seam, x', y', lx', ly', pre2, suf2, rest, rfl, rfl, ⟨⟨hH.way, hH.nd, a5, a6⟩, HSR.out.1, HSR.out.2, hrow, hB, HZ.out.2.1, HZ.out.2.2, g5, g6⟩⟩
            · go_simp
              change K _ (Wc.alloc (.cells #[.int .i64 0] 3))
              have hbn : Below Wc.heap.size Wc (Wc.alloc (.cells #[.int .i64 0] 3)) := (Below.refl _ Wc).alloc (Nat.le_refl _) _
              have g6 : w.heap.size ≤ Wc.heap.size := hB.size
              have m6 : z4 < Wc.heap.size := hH.nd.lt
              try have n56 : z5 ≠ Wc.heap.size := fun e => by have := a5.lt; omega
              have hH2 := hH.below hbn
              replace hB := hB.trans (hbn.mono hB.size)
              try replace hnd := hnd.below hbn
              try replace hp1 := hp1.below hbn
              try replace hp2 := hp2.below hbn
              try replace a5 := a5.below hbn
              try replace a6 := a6.below hbn
              try replace hrow := (Kp.of_below hbn (fun _ => False)).own hrow (fun _ _ h => h)
              have a6 := C1.new Wc 3 (.int .i64 0)
              generalize Wc.alloc _ = Wn at *
              generalize Wc.heap.size = z6 at *
              refine hK.out _ _ hH2 (fun hH => ?_)
              clear hK K hH2 hbn
              rename World => Wc
              refine rdH 5 rfl (fun K hK => ?_)
              go_simp
              refine (HSM.out n HN.out _ _ _ _ _ _ _ hB hp1 hp2).mono ?_
              rintro e Wn ⟨As, cs, seam, x', y', lx', ly', pre2, suf2, rest, rfl, hsr, hrest, hrow, hbn⟩
              replace hrow := own_base hrow hB.size
              clear hp1 hp2
              have HSR := Lib.hid (And.intro hsr hrest)
              clear hsr hrest
              have hH2 := hH.below hbn
              replace hB := hB.trans (hbn.mono hB.size)
              try replace a5 := a5.below hbn
              try replace a6 := a6.below hbn
              clear hnd
              simp only
              refine hK.out _ _ hH2 (fun hH => ?_)
              clear hK K hH2 hbn
              rename World => Wc
              refine tkH ?_ 6 hH ?_ ?_; rotate_left
              · intro W' hS; go_simp; with_reducible rfl
              simp only [tkr]
              refine tkH ?_ 7 hH ?_ ?_; rotate_left
              · intro W' hS; go_simp; with_reducible rfl
              simp only [tkr]
              refine tkH ?_ 8 hH ?_ ?_; rotate_left
              · intro W' hS; go_simp; with_reducible rfl
              simp only [tkr]
              refine rdH 11 rfl (fun K hK => ?_)
              have c5 := a5.c0
              have f5 := a5.fz
              go_simp
              clear c5 f5
              have kz : Kp (fun z => z = z5) Wc (Wc.setCell ⟨z5, 0, none⟩ (.slice As seam.length cs)) := (Kp.refl (fun z => z = z5) Wc).setCell (.inl rfl) _
              have hH2 := hH.kp kz (by have := HZ.out; omega) (by omega)
              replace hB := hB.setCell (p := ⟨z5, 0, none⟩) g5 (.slice As seam.length cs)
              try replace a6 := a6.kp kz (fun e => n56 e.symm)
              replace hrow := kz.own hrow (fun q hq e => by
                obtain ⟨cur, e2⟩ := own_type hrow q hq
                have e3 : Wc.heap[z5]? = some _ := a5
                rw [e, e3] at e2
                simp only [Option.some.injEq, Obj.cells.injEq] at e2
                exact absurd e2.2.1 (by decide))
              replace a5 := a5.set (.slice As seam.length cs)
              clear kz
              generalize Wc.setCell _ _ = Wn at *
              refine hK.out _ _ hH2 (fun hH => ?_)
              clear hK K hH2
              rename World => Wc
              refine rdH 12 rfl (fun K hK => ?_)
              have c6 := a6.c0
              have f6 := a6.fz
              go_simp
              clear c6 f6
              have kz : Kp (fun z => z = z6) Wc (Wc.setCell ⟨z6, 0, none⟩ (.int .i64 (rest : Nat))) := (Kp.refl (fun z => z = z6) Wc).setCell (.inl rfl) _
              have hH2 := hH.kp kz (by have := HZ.out; omega) (by omega)
              replace hB := hB.setCell (p := ⟨z6, 0, none⟩) g6 (.int .i64 (rest : Nat))
              replace a5 := a5.kp kz n56
              replace hrow := kz.own hrow (fun q hq e => by
                obtain ⟨cur, e2⟩ := own_type hrow q hq
                have e3 : Wc.heap[z6]? = some _ := a6
                rw [e, e3] at e2
                simp only [Option.some.injEq, Obj.cells.injEq] at e2
                exact absurd e2.2.1 (by decide))
              replace a6 := a6.set (.int .i64 (rest : Nat))
              clear kz
              generalize Wc.setCell _ _ = Wn at *
              refine hK.out _ _ hH2 (fun hH => ?_)
              clear hK K hH2
              rename World => Wc
              refine wpAnyH_done (by kernel_rfl) ?_ _
              refine NoPanic.normal ?_
              go_wp2_with fail
              go_meet
              have e := HNE.out
              subst e
              exact ⟨z5, z6, As, cs, seam, x', y', lx', ly', pre2, suf2, rest, rfl, rfl, ⟨⟨hH.way, hH.nd, a5, a6⟩, HSR.out.1, HSR.out.2, hrow, hB, HZ.out.2.1, HZ.out.2.2, g5, g6⟩⟩
          · go_simp
            change K _ (Wc.alloc (.cells #[.int .i64 0] 3))
            have hbn : Below Wc.heap.size Wc (Wc.alloc (.cells #[.int .i64 0] 3)) := (Below.refl _ Wc).alloc (Nat.le_refl _) _
            have g6 : w.heap.size ≤ Wc.heap.size := hB.size
            have m6 : z4 < Wc.heap.size := hH.nd.lt
            try have n56 : z5 ≠ Wc.heap.size := fun e => by have := a5.lt; omega
            have hH2 := hH.below hbn
            replace hB := hB.trans (hbn.mono hB.size)
            try replace hnd := hnd.below hbn
            try replace hp1 := hp1.below hbn
            try replace hp2 := hp2.below hbn
            try replace a5 := a5.below hbn
            try replace a6 := a6.below hbn
            try replace hrow := (Kp.of_below hbn (fun _ => False)).own hrow (fun _ _ h => h)
            have a6 := C1.new Wc 3 (.int .i64 0)
            generalize Wc.alloc _ = Wn at *
            generalize Wc.heap.size = z6 at *
            refine hK.out _ _ hH2 (fun hH => ?_)
            clear hK K hH2 hbn
            rename World => Wc
            refine wpAnyH_ready (rs := [5, 9]) (by kernel_rfl) (by simp) ?_
            refine AllReadyH.cons rfl (fun K hK => ?_) (AllReadyH.cons rfl (fun K hK => ?_) (AllReadyH.nil))
            · go_simp
              refine (HSM.out n HN.out _ _ _ _ _ _ _ hB hp1 hp2).mono ?_
              rintro e Wn ⟨As, cs, seam, x', y', lx', ly', pre2, suf2, rest, rfl, hsr, hrest, hrow, hbn⟩
              replace hrow := own_base hrow hB.size
              clear hp1 hp2
              have HSR := Lib.hid (And.intro hsr hrest)
              clear hsr hrest
              have hH2 := hH.below hbn
              replace hB := hB.trans (hbn.mono hB.size)
              try replace a5 := a5.below hbn
              try replace a6 := a6.below hbn
              clear hnd
              simp only
              refine hK.out _ _ hH2 (fun hH => ?_)
              clear hK K hH2 hbn
              rename World => Wc
              refine tkH ?_ 6 hH ?_ ?_; rotate_left
              · intro W' hS; go_simp; with_reducible rfl
              simp only [tkr]
              refine tkH ?_ 7 hH ?_ ?_; rotate_left
              · intro W' hS; go_simp; with_reducible rfl
              simp only [tkr]
              refine tkH ?_ 8 hH ?_ ?_; rotate_left
              · intro W' hS; go_simp; with_reducible rfl
              simp only [tkr]
              refine rdH 9 rfl (fun K hK => ?_)
              go_simp
              change K _ (Wc.alloc (.cells #[.slice none 0 0] 137))
              have hbn : Below Wc.heap.size Wc (Wc.alloc (.cells #[.slice none 0 0] 137)) := (Below.refl _ Wc).alloc (Nat.le_refl _) _
              have g5 : w.heap.size ≤ Wc.heap.size := hB.size
              have m5 : z4 < Wc.heap.size := hH.nd.lt
              try have n56 : Wc.heap.size ≠ z6 := fun e => by have := a6.lt; omega
              have hH2 := hH.below hbn
              replace hB := hB.trans (hbn.mono hB.size)
              try replace hnd := hnd.below hbn
              try replace hp1 := hp1.below hbn
              try replace hp2 := hp2.below hbn
              try replace a5 := a5.below hbn
              try replace a6 := a6.below hbn
              try replace hrow := (Kp.of_below hbn (fun _ => False)).own hrow (fun _ _ h => h)
              have a5 := C1.new Wc 137 (.slice none 0 0)
              generalize Wc.alloc _ = Wn at *
              generalize Wc.heap.size = z5 at *
              refine hK.out _ _ hH2 (fun hH => ?_)
              clear hK K hH2 hbn
              rename World => Wc
              refine rdH 11 rfl (fun K hK => ?_)
              have c5 := a5.c0
              have f5 := a5.fz
              go_simp
              clear c5 f5
              have kz : Kp (fun z => z = z5) Wc (Wc.setCell ⟨z5, 0, none⟩ (.slice As seam.length cs)) := (Kp.refl (fun z => z = z5) Wc).setCell (.inl rfl) _
              have hH2 := hH.kp kz (by have := HZ.out; omega) (by omega)
              replace hB := hB.setCell (p := ⟨z5, 0, none⟩) g5 (.slice As seam.length cs)
              try replace a6 := a6.kp kz (fun e => n56 e.symm)
              replace hrow := kz.own hrow (fun q hq e => by
                obtain ⟨cur, e2⟩ := own_type hrow q hq
                have e3 : Wc.heap[z5]? = some _ := a5
                rw [e, e3] at e2
                simp only [Option.some.injEq, Obj.cells.injEq] at e2
                exact absurd e2.2.1 (by decide))
              replace a5 := a5.set (.slice As seam.length cs)
              clear kz
              generalize Wc.setCell _ _ = Wn at *
              refine hK.out _ _ hH2 (fun hH => ?_)
              clear hK K hH2
              rename World => Wc
              refine rdH 12 rfl (fun K hK => ?_)
              have c6 := a6.c0
              have f6 := a6.fz
              go_simp
              clear c6 f6
              have kz : Kp (fun z => z = z6) Wc (Wc.setCell ⟨z6, 0, none⟩ (.int .i64 (rest : Nat))) := (Kp.refl (fun z => z = z6) Wc).setCell (.inl rfl) _
              have hH2 := hH.kp kz (by have := HZ.out; omega) (by omega)
              replace hB := hB.setCell (p := ⟨z6, 0, none⟩) g6 (.int .i64 (rest : Nat))
              replace a5 := a5.kp kz n56
              replace hrow := kz.own hrow (fun q hq e => by
                obtain ⟨cur, e2⟩ := own_type hrow q hq
                have e3 : Wc.heap[z6]? = some _ := a6
                rw [e, e3] at e2
                simp only [Option.some.injEq, Obj.cells.injEq] at e2
                exact absurd e2.2.1 (by decide))
              replace a6 := a6.set (.int .i64 (rest : Nat))
              clear kz
              generalize Wc.setCell _ _ = Wn at *
              refine hK.out _ _ hH2 (fun hH => ?_)
              clear hK K hH2
              rename World => Wc
              refine wpAnyH_done (by kernel_rfl) ?_ _
              refine NoPanic.normal ?_
              go_wp2_with fail
              go_meet
              have e := HNE.out
              subst e
              exact ⟨z5, z6, As, cs, seam, x', y', lx', ly', pre2, suf2, rest, rfl, rfl, ⟨⟨hH.way, hH.nd, a5, a6⟩, HSR.out.1, HSR.out.2, hrow, hB, HZ.out.2.1, HZ.out.2.2, g5, g6⟩⟩
            · go_simp
              change K _ (Wc.alloc (.cells #[.slice none 0 0] 137))
              have hbn : Below Wc.heap.size Wc (Wc.alloc (.cells #[.slice none 0 0] 137)) := (Below.refl _ Wc).alloc (Nat.le_refl _) _
              have g5 : w.heap.size ≤ Wc.heap.size := hB.size
              have m5 : z4 < Wc.heap.size := hH.nd.lt
              try have n56 : Wc.heap.size ≠ z6 := fun e => by have := a6.lt; omega
              have hH2 := hH.below hbn
              replace hB := hB.trans (hbn.mono hB.size)
              try replace hnd := hnd.below hbn
              try replace hp1 := hp1.below hbn
              try replace hp2 := hp2.below hbn
              try replace a5 := a5.below hbn
              try replace a6 := a6.below hbn
              try replace hrow := (Kp.of_below hbn (fun _ => False)).own hrow (fun _ _ h => h)
              have a5 := C1.new Wc 137 (.slice none 0 0)
              generalize Wc.alloc _ = Wn at *
              generalize Wc.heap.size = z5 at *
              refine hK.out _ _ hH2 (fun hH => ?_)
              clear hK K hH2 hbn
              rename World => Wc
              refine rdH 5 rfl (fun K hK => ?_)
              go_simp
              refine (HSM.out n HN.out _ _ _ _ _ _ _ hB hp1 hp2).mono ?_
              rintro e Wn ⟨As, cs, seam, x', y', lx', ly', pre2, suf2, rest, rfl, hsr, hrest, hrow, hbn⟩
              replace hrow := own_base hrow hB.size
              clear hp1 hp2
              have HSR := Lib.hid (And.intro hsr hrest)
              clear hsr hrest
              have hH2 := hH.below hbn
              replace hB := hB.trans (hbn.mono hB.size)
              try replace a5 := a5.below hbn
              try replace a6 := a6.below hbn
              clear hnd
              simp only
              refine hK.out _ _ hH2 (fun hH => ?_)
              clear hK K hH2 hbn
              rename World => Wc
              refine tkH ?_ 6 hH ?_ ?_; rotate_left
              · intro W' hS; go_simp; with_reducible rfl
              simp only [tkr]
              refine tkH ?_ 7 hH ?_ ?_; rotate_left
              · intro W' hS; go_simp; with_reducible rfl
              simp only [tkr]
              refine tkH ?_ 8 hH ?_ ?_; rotate_left
              · intro W' hS; go_simp; with_reducible rfl
              simp only [tkr]
              refine rdH 11 rfl (fun K hK => ?_)
              have c5 := a5.c0
              have f5 := a5.fz
              go_simp
              clear c5 f5
              have kz : Kp (fun z => z = z5) Wc (Wc.setCell ⟨z5, 0, none⟩ (.slice As seam.length cs)) := (Kp.refl (fun z => z = z5) Wc).setCell (.inl rfl) _
              have hH2 := hH.kp kz (by have := HZ.out; omega) (by omega)
              replace hB := hB.setCell (p := ⟨z5, 0, none⟩) g5 (.slice As seam.length cs)
              try replace a6 := a6.kp kz (fun e => n56 e.symm)
              replace hrow := kz.own hrow (fun q hq e => by
                obtain ⟨cur, e2⟩ := own_type hrow q hq
                have e3 : Wc.heap[z5]? = some _ := a5
                rw [e, e3] at e2
                simp only [Option.some.injEq, Obj.cells.injEq] at e2
                exact absurd e2.2.1 (by decide))
              replace a5 := a5.set (.slice As seam.length cs)
              clear kz
              generalize Wc.setCell _ _ = Wn at *
              refine hK.out _ _ hH2 (fun hH => ?_)
              clear hK K hH2
              rename World => Wc
              refine rdH 12 rfl (fun K hK => ?_)
              have c6 := a6.c0
              have f6 := a6.fz
              go_simp
              clear c6 f6
              have kz : Kp (fun z => z = z6) Wc (Wc.setCell ⟨z6, 0, none⟩ (.int .i64 (rest : Nat))) := (Kp.refl (fun z => z = z6) Wc).setCell (.inl rfl) _
              have hH2 := hH.kp kz (by have := HZ.out; omega) (by omega)
              replace hB := hB.setCell (p := ⟨z6, 0, none⟩) g6 (.int .i64 (rest : Nat))
              replace a5 := a5.kp kz n56
              replace hrow := kz.own hrow (fun q hq e => by
                obtain ⟨cur, e2⟩ := own_type hrow q hq
                have e3 : Wc.heap[z6]? = some _ := a6
                rw [e, e3] at e2
                simp only [Option.some.injEq, Obj.cells.injEq] at e2
                exact absurd e2.2.1 (by decide))
              replace a6 := a6.set (.int .i64 (rest : Nat))
              clear kz
              generalize Wc.setCell _ _ = Wn at *
              refine hK.out _ _ hH2 (fun hH => ?_)
              clear hK K hH2
              rename World => Wc
              refine wpAnyH_done (by kernel_rfl) ?_ _
              refine NoPanic.normal ?_
              go_wp2_with fail
              go_meet
              have e := HNE.out
              subst e
              exact ⟨z5, z6, As, cs, seam, x', y', lx', ly', pre2, suf2, rest, rfl, rfl, ⟨⟨hH.way, hH.nd, a5, a6⟩, HSR.out.1, HSR.out.2, hrow, hB, HZ.out.2.1, HZ.out.2.2, g5, g6⟩⟩
        · go_simp
          change K _ (Wc.alloc (.cells #[.slice none 0 0] 137))
          have hbn : Below Wc.heap.size Wc (Wc.alloc (.cells #[.slice none 0 0] 137)) := (Below.refl _ Wc).alloc (Nat.le_refl _) _
          have g5 : w.heap.size ≤ Wc.heap.size := hB.size
          have m5 : z4 < Wc.heap.size := hH.nd.lt
          try have n56 : Wc.heap.size ≠ z6 := fun e => by have := a6.lt; omega
          have hH2 := hH.below hbn
          replace hB := hB.trans (hbn.mono hB.size)
          try replace hnd := hnd.below hbn
          try replace hp1 := hp1.below hbn
          try replace hp2 := hp2.below hbn
          try replace a5 := a5.below hbn
          try replace a6 := a6.below hbn
          try replace hrow := (Kp.of_below hbn (fun _ => False)).own hrow (fun _ _ h => h)
          have a5 := C1.new Wc 137 (.slice none 0 0)
          generalize Wc.alloc _ = Wn at *
          generalize Wc.heap.size = z5 at *
          refine hK.out _ _ hH2 (fun hH => ?_)
          clear hK K hH2 hbn
          rename World => Wc
          refine wpAnyH_ready (rs := [4, 10]) (by kernel_rfl) (by simp) ?_
          refine AllReadyH.cons rfl (fun K hK => ?_) (AllReadyH.cons rfl (fun K hK => ?_) (AllReadyH.nil))
          · go_simp
            refine (nbelow1 n _).mono ?_
            rintro e Wn ⟨g, rfl, hg, _, hbn⟩
            have hH2 := hH.below hbn
            replace hB := hB.trans (hbn.mono hB.size)
            try replace hnd := hnd.below hbn
            try replace hp1 := hp1.below hbn
            try replace hp2 := hp2.below hbn
            try replace a5 := a5.below hbn
            try replace a6 := a6.below hbn
            try replace hrow := (Kp.of_below hbn (fun _ => False)).own hrow (fun _ _ h => h)
            have hp2 := hnd.placey hg
            clear hg
            simp only
            refine hK.out _ _ hH2 (fun hH => ?_)
            clear hK K hH2 hbn
            rename World => Wc
            refine wpAnyH_ready (rs := [5, 10]) (by kernel_rfl) (by simp) ?_
            refine AllReadyH.cons rfl (fun K hK => ?_) (AllReadyH.cons rfl (fun K hK => ?_) (AllReadyH.nil))
            · go_simp
              refine (HSM.out n HN.out _ _ _ _ _ _ _ hB hp1 hp2).mono ?_
              rintro e Wn ⟨As, cs, seam, x', y', lx', ly', pre2, suf2, rest, rfl, hsr, hrest, hrow, hbn⟩
              replace hrow := own_base hrow hB.size
              clear hp1 hp2
              have HSR := Lib.hid (And.intro hsr hrest)
              clear hsr hrest
              have hH2 := hH.below hbn
              replace hB := hB.trans (hbn.mono hB.size)
              try replace a5 := a5.below hbn
              try replace a6 := a6.below hbn
              clear hnd
              simp only
              refine hK.out _ _ hH2 (fun hH => ?_)
              clear hK K hH2 hbn
              rename World => Wc
              refine tkH ?_ 6 hH ?_ ?_; rotate_left
              · intro W' hS; go_simp; with_reducible rfl
              simp only [tkr]
              refine tkH ?_ 7 hH ?_ ?_; rotate_left
              · intro W' hS; go_simp; with_reducible rfl
              simp only [tkr]
              refine tkH ?_ 8 hH ?_ ?_; rotate_left
              · intro W' hS; go_simp; with_reducible rfl
              simp only [tkr]
              refine rdH 10 rfl (fun K hK => ?_)
              go_simp
              change K _ (Wc.alloc (.cells #[.int .i64 0] 3))
              have hbn : Below Wc.heap.size Wc (Wc.alloc (.cells #[.int .i64 0] 3)) := (Below.refl _ Wc).alloc (Nat.le_refl _) _
              have g6 : w.heap.size ≤ Wc.heap.size := hB.size
              have m6 : z4 < Wc.heap.size := hH.nd.lt
              try have n56 : z5 ≠ Wc.heap.size := fun e => by have := a5.lt; omega
              have hH2 := hH.below hbn
              replace hB := hB.trans (hbn.mono hB.size)
              try replace hnd := hnd.below hbn
              try replace hp1 := hp1.below hbn
              try replace hp2 := hp2.below hbn
              try replace a5 := a5.below hbn
              try replace a6 := a6.below hbn
              try replace hrow := (Kp.of_below hbn (fun _ => False)).own hrow (fun _ _ h => h)
              have a6 := C1.new Wc 3 (.int .i64 0)
              generalize Wc.alloc _ = Wn at *
              generalize Wc.heap.size = z6 at *
              refine hK.out _ _ hH2 (fun hH => ?_)
              clear hK K hH2 hbn
              rename World => Wc
              refine rdH 11 rfl (fun K hK => ?_)
              have c5 := a5.c0
              have f5 := a5.fz
              go_simp
              clear c5 f5
              have kz : Kp (fun z => z = z5) Wc (Wc.setCell ⟨z5, 0, none⟩ (.slice As seam.length cs)) := (Kp.refl (fun z => z = z5) Wc).setCell (.inl rfl) _
              have hH2 := hH.kp kz (by have := HZ.out; omega) (by omega)
              replace hB := hB.setCell (p := ⟨z5, 0, none⟩) g5 (.slice As seam.length cs)
              try replace a6 := a6.kp kz (fun e => n56 e.symm)
              replace hrow := kz.own hrow (fun q hq e => by
                obtain ⟨cur, e2⟩ := own_type hrow q hq
                have e3 : Wc.heap[z5]? = some _ := a5
                rw [e, e3] at e2
                simp only [Option.some.injEq, Obj.cells.injEq] at e2
                exact absurd e2.2.1 (by decide))
              replace a5 := a5.set (.slice As seam.length cs)
              clear kz
              generalize Wc.setCell _ _ = Wn at *
              refine hK.out _ _ hH2 (fun hH => ?_)
              clear hK K hH2
              rename World => Wc
              refine rdH 12 rfl (fun K hK => ?_)
              have c6 := a6.c0
              have f6 := a6.fz
              go_simp
              clear c6 f6
              have kz : Kp (fun z => z = z6) Wc (Wc.setCell ⟨z6, 0, none⟩ (.int .i64 (rest : Nat))) := (Kp.refl (fun z => z = z6) Wc).setCell (.inl rfl) _
              have hH2 := hH.kp kz (by have := HZ.out; omega) (by omega)
              replace hB := hB.setCell (p := ⟨z6, 0, none⟩) g6 (.int .i64 (rest : Nat))
              replace a5 := a5.kp kz n56
              replace hrow := kz.own hrow (fun q hq e => by
                obtain ⟨cur, e2⟩ := own_type hrow q hq
                have e3 : Wc.heap[z6]? = some _ := a6
                rw [e, e3] at e2
                simp only [Option.some.injEq, Obj.cells.injEq] at e2
                exact absurd e2.2.1 (by decide))
              replace a6 := a6.set (.int .i64 (rest : Nat))
              clear kz
              generalize Wc.setCell _ _ = Wn at *
              refine hK.out _ _ hH2 (fun hH => ?_)
              clear hK K hH2
              rename World => Wc
              refine wpAnyH_done (by kernel_rfl) ?_ _
              refine NoPanic.normal ?_
              go_wp2_with fail
              go_meet
              have e := HNE.out
              subst e
              exact ⟨z5, z6, As, cs, seam, x', y', lx', ly', pre2, suf2, rest, rfl, rfl, ⟨⟨hH.way, hH.nd, a5, a6⟩, HSR.out.1, HSR.out.2, hrow, hB, HZ.out.2.1, HZ.out.2.2, g5, g6⟩⟩
            · go_simp
              change K _ (Wc.alloc (.cells #[.int .i64 0] 3))
              have hbn : Below Wc.heap.size Wc (Wc.alloc (.cells #[.int .i64 0] 3)) := (Below.refl _ Wc).alloc (Nat.le_refl _) _
              have g6 : w.heap.size ≤ Wc.heap.size := hB.size
              have m6 : z4 < Wc.heap.size := hH.nd.lt
              try have n56 : z5 ≠ Wc.heap.size := fun e => by have := a5.lt; omega
              have hH2 := hH.below hbn
              replace hB := hB.trans (hbn.mono hB.size)
              try replace hnd := hnd.below hbn
              try replace hp1 := hp1.below hbn
              try replace hp2 := hp2.below hbn
              try replace a5 := a5.below hbn
              try replace a6 := a6.below hbn
              try replace hrow := (Kp.of_below hbn (fun _ => False)).own hrow (fun _ _ h => h)
              have a6 := C1.new Wc 3 (.int .i64 0)
              generalize Wc.alloc _ = Wn at *
              generalize Wc.heap.size = z6 at *
              refine hK.out _ _ hH2 (fun hH => ?_)
              clear hK K hH2 hbn
              rename World => Wc
              refine rdH 5 rfl (fun K hK => ?_)
              go_simp
              refine (HSM.out n HN.out _ _ _ _ _ _ _ hB hp1 hp2).mono ?_
              rintro e Wn ⟨As, cs, seam, x', y', lx', ly', pre2, suf2, rest, rfl, hsr, hrest, hrow, hbn⟩
              replace hrow := own_base hrow hB.size
              clear hp1 hp2
              have HSR := Lib.hid (And.intro hsr hrest)
              clear hsr hrest
              have hH2 := hH.below hbn
              replace hB := hB.trans (hbn.mono hB.size)
              try replace a5 := a5.below hbn
              try replace a6 := a6.below hbn
              clear hnd
              simp only
              refine hK.out _ _ hH2 (fun hH => ?_)
              clear hK K hH2 hbn
              rename World => Wc
              refine tkH ?_ 6 hH ?_ ?_; rotate_left
              · intro W' hS; go_simp; with_reducible rfl
              simp only [tkr]
              refine tkH ?_ 7 hH ?_ ?_; rotate_left
              · intro W' hS; go_simp; with_reducible rfl
              simp only [tkr]
              refine tkH ?_ 8 hH ?_ ?_; rotate_left
              · intro W' hS; go_simp; with_reducible rfl
              simp only [tkr]
              refine rdH 11 rfl (fun K hK => ?_)
              have c5 := a5.c0
              have f5 := a5.fz
              go_simp
              clear c5 f5
              have kz : Kp (fun z => z = z5) Wc (Wc.setCell ⟨z5, 0, none⟩ (.slice As seam.length cs)) := (Kp.refl (fun z => z = z5) Wc).setCell (.inl rfl) _
              have hH2 := hH.kp kz (by have := HZ.out; omega) (by omega)
              replace hB := hB.setCell (p := ⟨z5, 0, none⟩) g5 (.slice As seam.length cs)
              try replace a6 := a6.kp kz (fun e => n56 e.symm)
              replace hrow := kz.own hrow (fun q hq e => by
                obtain ⟨cur, e2⟩ := own_type hrow q hq
                have e3 : Wc.heap[z5]? = some _ := a5
                rw [e, e3] at e2
                simp only [Option.some.injEq, Obj.cells.injEq] at e2
                exact absurd e2.2.1 (by decide))
              replace a5 := a5.set (.slice As seam.length cs)
              clear kz
              generalize Wc.setCell _ _ = Wn at *
              refine hK.out _ _ hH2 (fun hH => ?_)
              clear hK K hH2
              rename World => Wc
              refine rdH 12 rfl (fun K hK => ?_)
              have c6 := a6.c0
              have f6 := a6.fz
              go_simp
              clear c6 f6
              have kz : Kp (fun z => z = z6) Wc (Wc.setCell ⟨z6, 0, none⟩ (.int .i64 (rest : Nat))) := (Kp.refl (fun z => z = z6) Wc).setCell (.inl rfl) _
              have hH2 := hH.kp kz (by have := HZ.out; omega) (by omega)
              replace hB := hB.setCell (p := ⟨z6, 0, none⟩) g6 (.int .i64 (rest : Nat))
              replace a5 := a5.kp kz n56
              replace hrow := kz.own hrow (fun q hq e => by
                obtain ⟨cur, e2⟩ := own_type hrow q hq
                have e3 : Wc.heap[z6]? = some _ := a6
                rw [e, e3] at e2
                simp only [Option.some.injEq, Obj.cells.injEq] at e2
                exact absurd e2.2.1 (by decide))
              replace a6 := a6.set (.int .i64 (rest : Nat))
              clear kz
              generalize Wc.setCell _ _ = Wn at *
              refine hK.out _ _ hH2 (fun hH => ?_)
              clear hK K hH2
              rename World => Wc
              refine wpAnyH_done (by kernel_rfl) ?_ _
              refine NoPanic.normal ?_
              go_wp2_with fail
              go_meet
              have e := HNE.out
              subst e
              exact ⟨z5, z6, As, cs, seam, x', y', lx', ly', pre2, suf2, rest, rfl, rfl, ⟨⟨hH.way, hH.nd, a5, a6⟩, HSR.out.1, HSR.out.2, hrow, hB, HZ.out.2.1, HZ.out.2.2, g5, g6⟩⟩
          · go_simp
            change K _ (Wc.alloc (.cells #[.int .i64 0] 3))
            have hbn : Below Wc.heap.size Wc (Wc.alloc (.cells #[.int .i64 0] 3)) := (Below.refl _ Wc).alloc (Nat.le_refl _) _
            have g6 : w.heap.size ≤ Wc.heap.size := hB.size
            have m6 : z4 < Wc.heap.size := hH.nd.lt
            try have n56 : z5 ≠ Wc.heap.size := fun e => by have := a5.lt; omega
            have hH2 := hH.below hbn
            replace hB := hB.trans (hbn.mono hB.size)
            try replace hnd := hnd.below hbn
            try replace hp1 := hp1.below hbn
            try replace hp2 := hp2.below hbn
            try replace a5 := a5.below hbn
            try replace a6 := a6.below hbn
            try replace hrow := (Kp.of_below hbn (fun _ => False)).own hrow (fun _ _ h => h)
            have a6 := C1.new Wc 3 (.int .i64 0)
            generalize Wc.alloc _ = Wn at *
            generalize Wc.heap.size = z6 at *
            refine hK.out _ _ hH2 (fun hH => ?_)
            clear hK K hH2 hbn
            rename World => Wc
            refine rdH 4 rfl (fun K hK => ?_)
            go_simp
            refine (nbelow1 n _).mono ?_
            rintro e Wn ⟨g, rfl, hg, _, hbn⟩
            have hH2 := hH.below hbn
            replace hB := hB.trans (hbn.mono hB.size)
            try replace hnd := hnd.below hbn
            try replace hp1 := hp1.below hbn
            try replace hp2 := hp2.below hbn
            try replace a5 := a5.below hbn
            try replace a6 := a6.below hbn
            try replace hrow := (Kp.of_below hbn (fun _ => False)).own hrow (fun _ _ h => h)
            have hp2 := hnd.placey hg
            clear hg
            simp only
            refine hK.out _ _ hH2 (fun hH => ?_)
            clear hK K hH2 hbn
            rename World => Wc
            refine rdH 5 rfl (fun K hK => ?_)
            go_simp
            refine (HSM.out n HN.out _ _ _ _ _ _ _ hB hp1 hp2).mono ?_
            rintro e Wn ⟨As, cs, seam, x', y', lx', ly', pre2, suf2, rest, rfl, hsr, hrest, hrow, hbn⟩
            replace hrow := own_base hrow hB.size
            clear hp1 hp2
            have HSR := Lib.hid (And.intro hsr hrest)
            clear hsr hrest
            have hH2 := hH.below hbn
            replace hB := hB.trans (hbn.mono hB.size)
            try replace a5 := a5.below hbn
            try replace a6 := a6.below hbn
            clear hnd
            simp only
            refine hK.out _ _ hH2 (fun hH => ?_)
            clear hK K hH2 hbn
            rename World => Wc
            refine tkH ?_ 6 hH ?_ ?_; rotate_left
            · intro W' hS; go_simp; with_reducible rfl
            simp only [tkr]
            refine tkH ?_ 7 hH ?_ ?_; rotate_left
            · intro W' hS; go_simp; with_reducible rfl
            simp only [tkr]
            refine tkH ?_ 8 hH ?_ ?_; rotate_left
            · intro W' hS; go_simp; with_reducible rfl
            simp only [tkr]
            refine rdH 11 rfl (fun K hK => ?_)
            have c5 := a5.c0
            have f5 := a5.fz
            go_simp
            clear c5 f5
            have kz : Kp (fun z => z = z5) Wc (Wc.setCell ⟨z5, 0, none⟩ (.slice As seam.length cs)) := (Kp.refl (fun z => z = z5) Wc).setCell (.inl rfl) _
            have hH2 := hH.kp kz (by have := HZ.out; omega) (by omega)
            replace hB := hB.setCell (p := ⟨z5, 0, none⟩) g5 (.slice As seam.length cs)
            try replace a6 := a6.kp kz (fun e => n56 e.symm)
            replace hrow := kz.own hrow (fun q hq e => by
              obtain ⟨cur, e2⟩ := own_type hrow q hq
              have e3 : Wc.heap[z5]? = some _ := a5
              rw [e, e3] at e2
              simp only [Option.some.injEq, Obj.cells.injEq] at e2
              exact absurd e2.2.1 (by decide))
            replace a5 := a5.set (.slice As seam.length cs)
            clear kz
            generalize Wc.setCell _ _ = Wn at *
            refine hK.out _ _ hH2 (fun hH => ?_)
            clear hK K hH2
            rename World => Wc
            refine rdH 12 rfl (fun K hK => ?_)
            have c6 := a6.c0
            have f6 := a6.fz
            go_simp
            clear c6 f6
            have kz : Kp (fun z => z = z6) Wc (Wc.setCell ⟨z6, 0, none⟩ (.int .i64 (rest : Nat))) := (Kp.refl (fun z => z = z6) Wc).setCell (.inl rfl) _
            have hH2 := hH.kp kz (by have := HZ.out; omega) (by omega)
            replace hB := hB.setCell (p := ⟨z6, 0, none⟩) g6 (.int .i64 (rest : Nat))
            replace a5 := a5.kp kz n56
            replace hrow := kz.own hrow (fun q hq e => by
              obtain ⟨cur, e2⟩ := own_type hrow q hq
              have e3 : Wc.heap[z6]? = some _ := a6
              rw [e, e3] at e2
              simp only [Option.some.injEq, Obj.cells.injEq] at e2
              exact absurd e2.2.1 (by decide))
            replace a6 := a6.set (.int .i64 (rest : Nat))
            clear kz
            generalize Wc.setCell _ _ = Wn at *
            refine hK.out _ _ hH2 (fun hH => ?_)
            clear hK K hH2
            rename World => Wc
            refine wpAnyH_done (by kernel_rfl) ?_ _
            refine NoPanic.normal ?_
            go_wp2_with fail
            go_meet
            have e := HNE.out
            subst e
            exact ⟨z5, z6, As, cs, seam, x', y', lx', ly', pre2, suf2, rest, rfl, rfl, ⟨⟨hH.way, hH.nd, a5, a6⟩, HSR.out.1, HSR.out.2, hrow, hB, HZ.out.2.1, HZ.out.2.2, g5, g6⟩⟩
        · go_simp
          change K _ (Wc.alloc (.cells #[.int .i64 0] 3))
          have hbn : Below Wc.heap.size Wc (Wc.alloc (.cells #[.int .i64 0] 3)) := (Below.refl _ Wc).alloc (Nat.le_refl _) _
          have g6 : w.heap.size ≤ Wc.heap.size := hB.size
          have m6 : z4 < Wc.heap.size := hH.nd.lt
          try have n56 : z5 ≠ Wc.heap.size := fun e => by have := a5.lt; omega
          have hH2 := hH.below hbn
          replace hB := hB.trans (hbn.mono hB.size)
          try replace hnd := hnd.below hbn
          try replace hp1 := hp1.below hbn
          try replace hp2 := hp2.below hbn
          try replace a5 := a5.below hbn
          try replace a6 := a6.below hbn
          try replace hrow := (Kp.of_below hbn (fun _ => False)).own hrow (fun _ _ h => h)
          have a6 := C1.new Wc 3 (.int .i64 0)
          generalize Wc.alloc _ = Wn at *
          generalize Wc.heap.size = z6 at *
          refine hK.out _ _ hH2 (fun hH => ?_)
          clear hK K hH2 hbn
          rename World => Wc
          refine wpAnyH_ready (rs := [4, 9]) (by kernel_rfl) (by simp) ?_
          refine AllReadyH.cons rfl (fun K hK => ?_) (AllReadyH.cons rfl (fun K hK => ?_) (AllReadyH.nil))
          · go_simp
            refine (nbelow1 n _).mono ?_
            rintro e Wn ⟨g, rfl, hg, _, hbn⟩
            have hH2 := hH.below hbn
            replace hB := hB.trans (hbn.mono hB.size)
            try replace hnd := hnd.below hbn
            try replace hp1 := hp1.below hbn
            try replace hp2 := hp2.below hbn
            try replace a5 := a5.below hbn
            try replace a6 := a6.below hbn
            try replace hrow := (Kp.of_below hbn (fun _ => False)).own hrow (fun _ _ h => h)
            have hp2 := hnd.placey hg
            clear hg
            simp only
            refine hK.out _ _ hH2 (fun hH => ?_)
            clear hK K hH2 hbn
            rename World => Wc
            refine wpAnyH_ready (rs := [5, 9]) (by kernel_rfl) (by simp) ?_
            refine AllReadyH.cons rfl (fun K hK => ?_) (AllReadyH.cons rfl (fun K hK => ?_) (AllReadyH.nil))
            · go_simp
              refine (HSM.out n HN.out _ _ _ _ _ _ _ hB hp1 hp2).mono ?_
              rintro e Wn ⟨As, cs, seam, x', y', lx', ly', pre2, suf2, rest, rfl, hsr, hrest, hrow, hbn⟩
              replace hrow := own_base hrow hB.size
              clear hp1 hp2
              have HSR := Lib.hid (And.intro hsr hrest)
              clear hsr hrest
              have hH2 := hH.below hbn
              replace hB := hB.trans (hbn.mono hB.size)
              try replace a5 := a5.below hbn
              try replace a6 := a6.below hbn
              clear hnd
              simp only
              refine hK.out _ _ hH2 (fun hH => ?_)
              clear hK K hH2 hbn
              rename World => Wc
              refine tkH ?_ 6 hH ?_ ?_; rotate_left
              · intro W' hS; go_simp; with_reducible rfl
              simp only [tkr]
              refine tkH ?_ 7 hH ?_ ?_; rotate_left
              · intro W' hS; go_simp; with_reducible rfl
              simp only [tkr]
              refine tkH ?_ 8 hH ?_ ?_; rotate_left
              · intro W' hS; go_simp; with_reducible rfl
              simp only [tkr]
              refine rdH 9 rfl (fun K hK => ?_)
              go_simp
              change K _ (Wc.alloc (.cells #[.slice none 0 0] 137))
              have hbn : Below Wc.heap.size Wc (Wc.alloc (.cells #[.slice none 0 0] 137)) := (Below.refl _ Wc).alloc (Nat.le_refl _) _
              have g5 : w.heap.size ≤ Wc.heap.size := hB.size
              have m5 : z4 < Wc.heap.size := hH.nd.lt
              try have n56 : Wc.heap.size ≠ z6 := fun e => by have := a6.lt; omega
              have hH2 := hH.below hbn
              replace hB := hB.trans (hbn.mono hB.size)
              try replace hnd := hnd.below hbn
              try replace hp1 := hp1.below hbn
              try replace hp2 := hp2.below hbn
              try replace a5 := a5.below hbn
              try replace a6 := a6.below hbn
              try replace hrow := (Kp.of_below hbn (fun _ => False)).own hrow (fun _ _ h => h)
              have a5 := C1.new Wc 137 (.slice none 0 0)
              generalize Wc.alloc _ = Wn at *
              generalize Wc.heap.size = z5 at *
              refine hK.out _ _ hH2 (fun hH => ?_)
              clear hK K hH2 hbn
              rename World => Wc
              refine rdH 11 rfl (fun K hK => ?_)
              have c5 := a5.c0
              have f5 := a5.fz
              go_simp
              clear c5 f5
              have kz : Kp (fun z => z = z5) Wc (Wc.setCell ⟨z5, 0, none⟩ (.slice As seam.length cs)) := (Kp.refl (fun z => z = z5) Wc).setCell (.inl rfl) _
              have hH2 := hH.kp kz (by have := HZ.out; omega) (by omega)
              replace hB := hB.setCell (p := ⟨z5, 0, none⟩) g5 (.slice As seam.length cs)
              try replace a6 := a6.kp kz (fun e => n56 e.symm)
              replace hrow := kz.own hrow (fun q hq e => by
                obtain ⟨cur, e2⟩ := own_type hrow q hq
                have e3 : Wc.heap[z5]? = some _ := a5
                rw [e, e3] at e2
                simp only [Option.some.injEq, Obj.cells.injEq] at e2
                exact absurd e2.2.1 (by decide))
              replace a5 := a5.set (.slice As seam.length cs)
              clear kz
              generalize Wc.setCell _ _ = Wn at *
              refine hK.out _ _ hH2 (fun hH => ?_)
              clear hK K hH2
              rename World => Wc
              refine rdH 12 rfl (fun K hK => ?_)
              have c6 := a6.c0
              have f6 := a6.fz
              go_simp
              clear c6 f6
              have kz : Kp (fun z => z = z6) Wc (Wc.setCell ⟨z6, 0, none⟩ (.int .i64 (rest : Nat))) := (Kp.refl (fun z => z = z6) Wc).setCell (.inl rfl) _
              have hH2 := hH.kp kz (by have := HZ.out; omega) (by omega)
              replace hB := hB.setCell (p := ⟨z6, 0, none⟩) g6 (.int .i64 (rest : Nat))
              replace a5 := a5.kp kz n56
              replace hrow := kz.own hrow (fun q hq e => by
                obtain ⟨cur, e2⟩ := own_type hrow q hq
                have e3 : Wc.heap[z6]? = some _ := a6
                rw [e, e3] at e2
                simp only [Option.some.injEq, Obj.cells.injEq] at e2
                exact absurd e2.2.1 (by decide))
              replace a6 := a6.set (.int .i64 (rest : Nat))
              clear kz
              generalize Wc.setCell _ _ = Wn at *
              refine hK.out _ _ hH2 (fun hH => ?_)
              clear hK K hH2
              rename World => Wc
              refine wpAnyH_done (by kernel_rfl) ?_ _
              refine NoPanic.normal ?_
              go_wp2_with fail
              go_meet
              have e := HNE.out
              subst e
              exact ⟨z5, z6, As, cs, seam, x', y', lx', ly', pre2, suf2, rest, rfl, rfl, ⟨⟨hH.way, hH.nd, a5, a6⟩, HSR.out.1, HSR.out.2, hrow, hB, HZ.out.2.1, HZ.out.2.2, g5, g6⟩⟩
            · go_simp
              change K _ (Wc.alloc (.cells #[.slice none 0 0] 137))
              have hbn : Below Wc.heap.size Wc (Wc.alloc (.cells #[.slice none 0 0] 137)) := (Below.refl _ Wc).alloc (Nat.le_refl _) _
              have g5 : w.heap.size ≤ Wc.heap.size := hB.size
              have m5 : z4 < Wc.heap.size := hH.nd.lt
              try have n56 : Wc.heap.size ≠ z6 := fun e => by have := a6.lt; omega
              have hH2 := hH.below hbn
              replace hB := hB.trans (hbn.mono hB.size)
              try replace hnd := hnd.below hbn
              try replace hp1 := hp1.below hbn
              try replace hp2 := hp2.below hbn
              try replace a5 := a5.below hbn
              try replace a6 := a6.below hbn
              try replace hrow := (Kp.of_below hbn (fun _ => False)).own hrow (fun _ _ h => h)
              have a5 := C1.new Wc 137 (.slice none 0 0)
              generalize Wc.alloc _ = Wn at *
              generalize Wc.heap.size = z5 at *
              refine hK.out _ _ hH2 (fun hH => ?_)
              clear hK K hH2 hbn
              rename World => Wc
              refine rdH 5 rfl (fun K hK => ?_)
              go_simp
              refine (HSM.out n HN.out _ _ _ _ _ _ _ hB hp1 hp2).mono ?_
              rintro e Wn ⟨As, cs, seam, x', y', lx', ly', pre2, suf2, rest, rfl, hsr, hrest, hrow, hbn⟩
              replace hrow := own_base hrow hB.size
              clear hp1 hp2
              have HSR := Lib.hid (And.intro hsr hrest)
              clear hsr hrest
              have hH2 := hH.below hbn
              replace hB := hB.trans (hbn.mono hB.size)
              try replace a5 := a5.below hbn
              try replace a6 := a6.below hbn
              clear hnd
              simp only
              refine hK.out _ _ hH2 (fun hH => ?_)
              clear hK K hH2 hbn
              rename World => Wc
              refine tkH ?_ 6 hH ?_ ?_; rotate_left
              · intro W' hS; go_simp; with_reducible rfl
              simp only [tkr]
              refine tkH ?_ 7 hH ?_ ?_; rotate_left
              · intro W' hS; go_simp; with_reducible rfl
              simp only [tkr]
              refine tkH ?_ 8 hH ?_ ?_; rotate_left
              · intro W' hS; go_simp; with_reducible rfl
              simp only [tkr]
              refine rdH 11 rfl (fun K hK => ?_)
              have c5 := a5.c0
              have f5 := a5.fz
              go_simp
              clear c5 f5
              have kz : Kp (fun z => z = z5) Wc (Wc.setCell ⟨z5, 0, none⟩ (.slice As seam.length cs)) := (Kp.refl (fun z => z = z5) Wc).setCell (.inl rfl) _
              have hH2 := hH.kp kz (by have := HZ.out; omega) (by omega)
              replace hB := hB.setCell (p := ⟨z5, 0, none⟩) g5 (.slice As seam.length cs)
              try replace a6 := a6.kp kz (fun e => n56 e.symm)
              replace hrow := kz.own hrow (fun q hq e => by
                obtain ⟨cur, e2⟩ := own_type hrow q hq
                have e3 : Wc.heap[z5]? = some _ := a5
                rw [e, e3] at e2
                simp only [Option.some.injEq, Obj.cells.injEq] at e2
                exact absurd e2.2.1 (by decide))
              replace a5 := a5.set (.slice As seam.length cs)
              clear kz
              generalize Wc.setCell _ _ = Wn at *
              refine hK.out _ _ hH2 (fun hH => ?_)
              clear hK K hH2
              rename World => Wc
              refine rdH 12 rfl (fun K hK => ?_)
              have c6 := a6.c0
              have f6 := a6.fz
              go_simp
              clear c6 f6
              have kz : Kp (fun z => z = z6) Wc (Wc.setCell ⟨z6, 0, none⟩ (.int .i64 (rest : Nat))) := (Kp.refl (fun z => z = z6) Wc).setCell (.inl rfl) _
              have hH2 := hH.kp kz (by have := HZ.out; omega) (by omega)
              replace hB := hB.setCell (p := ⟨z6, 0, none⟩) g6 (.int .i64 (rest : Nat))
              replace a5 := a5.kp kz n56
              replace hrow := kz.own hrow (fun q hq e => by
                obtain ⟨cur, e2⟩ := own_type hrow q hq
                have e3 : Wc.heap[z6]? = some _ := a6
                rw [e, e3] at e2
                simp only [Option.some.injEq, Obj.cells.injEq] at e2
                exact absurd e2.2.1 (by decide))
              replace a6 := a6.set (.int .i64 (rest : Nat))
              clear kz
              generalize Wc.setCell _ _ = Wn at *
              refine hK.out _ _ hH2 (fun hH => ?_)
              clear hK K hH2
              rename World => Wc
              refine wpAnyH_done (by kernel_rfl) ?_ _
              refine NoPanic.normal ?_
              go_wp2_with fail
              go_meet
              have e := HNE.out
              subst e
              exact ⟨z5, z6, As, cs, seam, x', y', lx', ly', pre2, suf2, rest, rfl, rfl, ⟨⟨hH.way, hH.nd, a5, a6⟩, HSR.out.1, HSR.out.2, hrow, hB, HZ.out.2.1, HZ.out.2.2, g5, g6⟩⟩
          · go_simp
            change K _ (Wc.alloc (.cells #[.slice none 0 0] 137))
            have hbn : Below Wc.heap.size Wc (Wc.alloc (.cells #[.slice none 0 0] 137)) := (Below.refl _ Wc).alloc (Nat.le_refl _) _
            have g5 : w.heap.size ≤ Wc.heap.size := hB.size
            have m5 : z4 < Wc.heap.size := hH.nd.lt
            try have n56 : Wc.heap.size ≠ z6 := fun e => by have := a6.lt; omega
            have hH2 := hH.below hbn
            replace hB := hB.trans (hbn.mono hB.size)
            try replace hnd := hnd.below hbn
            try replace hp1 := hp1.below hbn
            try replace hp2 := hp2.below hbn
            try replace a5 := a5.below hbn
            try replace a6 := a6.below hbn
            try replace hrow := (Kp.of_below hbn (fun _ => False)).own hrow (fun _ _ h => h)
            have a5 := C1.new Wc 137 (.slice none 0 0)
            generalize Wc.alloc _ = Wn at *
            generalize Wc.heap.size = z5 at *
            refine hK.out _ _ hH2 (fun hH => ?_)
            clear hK K hH2 hbn
            rename World => Wc
            refine rdH 4 rfl (fun K hK => ?_)
            go_simp
            refine (nbelow1 n _).mono ?_
            rintro e Wn ⟨g, rfl, hg, _, hbn⟩
            have hH2 := hH.below hbn
            replace hB := hB.trans (hbn.mono hB.size)
            try replace hnd := hnd.below hbn
            try replace hp1 := hp1.below hbn
            try replace hp2 := hp2.below hbn
            try replace a5 := a5.below hbn
            try replace a6 := a6.below hbn
            try replace hrow := (Kp.of_below hbn (fun _ => False)).own hrow (fun _ _ h => h)
            have hp2 := hnd.placey hg
            clear hg
            simp only
            refine hK.out _ _ hH2 (fun hH => ?_)
            clear hK K hH2 hbn
            rename World => Wc
            refine rdH 5 rfl (fun K hK => ?_)
            go_simp
            refine (HSM.out n HN.out _ _ _ _ _ _ _ hB hp1 hp2).mono ?_
            rintro e Wn ⟨As, cs, seam, x', y', lx', ly', pre2, suf2, rest, rfl, hsr, hrest, hrow, hbn⟩
            replace hrow := own_base hrow hB.size
            clear hp1 hp2
            have HSR := Lib.hid (And.intro hsr hrest)
            clear hsr hrest
            have hH2 := hH.below hbn
            replace hB := hB.trans (hbn.mono hB.size)
            try replace a5 := a5.below hbn
            try replace a6 := a6.below hbn
            clear hnd
            simp only
            refine hK.out _ _ hH2 (fun hH => ?_)
            clear hK K hH2 hbn
            rename World => Wc
            refine tkH ?_ 6 hH ?_ ?_; rotate_left
            · intro W' hS; go_simp; with_reducible rfl
            simp only [tkr]
            refine tkH ?_ 7 hH ?_ ?_; rotate_left
            · intro W' hS; go_simp; with_reducible rfl
            simp only [tkr]
            refine tkH ?_ 8 hH ?_ ?_; rotate_left
            · intro W' hS; go_simp; with_reducible rfl
            simp only [tkr]
            refine rdH 11 rfl (fun K hK => ?_)
            have c5 := a5.c0
            have f5 := a5.fz
            go_simp
            clear c5 f5
            have kz : Kp (fun z => z = z5) Wc (Wc.setCell ⟨z5, 0, none⟩ (.slice As seam.length cs)) := (Kp.refl (fun z => z = z5) Wc).setCell (.inl rfl) _
            have hH2 := hH.kp kz (by have := HZ.out; omega) (by omega)
            replace hB := hB.setCell (p := ⟨z5, 0, none⟩) g5 (.slice As seam.length cs)
            try replace a6 := a6.kp kz (fun e => n56 e.symm)
            replace hrow := kz.own hrow (fun q hq e => by
              obtain ⟨cur, e2⟩ := own_type hrow q hq
              have e3 : Wc.heap[z5]? = some _ := a5
              rw [e, e3] at e2
              simp only [Option.some.injEq, Obj.cells.injEq] at e2
              exact absurd e2.2.1 (by decide))
            replace a5 := a5.set (.slice As seam.length cs)
            clear kz
            generalize Wc.setCell _ _ = Wn at *
            refine hK.out _ _ hH2 (fun hH => ?_)
            clear hK K hH2
            rename World => Wc
            refine rdH 12 rfl (fun K hK => ?_)
            have c6 := a6.c0
            have f6 := a6.fz
            go_simp
            clear c6 f6
            have kz : Kp (fun z => z = z6) Wc (Wc.setCell ⟨z6, 0, none⟩ (.int .i64 (rest : Nat))) := (Kp.refl (fun z => z = z6) Wc).setCell (.inl rfl) _
            have hH2 := hH.kp kz (by have := HZ.out; omega) (by omega)
            replace hB := hB.setCell (p := ⟨z6, 0, none⟩) g6 (.int .i64 (rest : Nat))
            replace a5 := a5.kp kz n56
            replace hrow := kz.own hrow (fun q hq e => by
              obtain ⟨cur, e2⟩ := own_type hrow q hq
              have e3 : Wc.heap[z6]? = some _ := a6
              rw [e, e3] at e2
              simp only [Option.some.injEq, Obj.cells.injEq] at e2
              exact absurd e2.2.1 (by decide))
            replace a6 := a6.set (.int .i64 (rest : Nat))
            clear kz
            generalize Wc.setCell _ _ = Wn at *
            refine hK.out _ _ hH2 (fun hH => ?_)
            clear hK K hH2
            rename World => Wc
            refine wpAnyH_done (by kernel_rfl) ?_ _
            refine NoPanic.normal ?_
            go_wp2_with fail
            go_meet
            have e := HNE.out
            subst e
            exact ⟨z5, z6, As, cs, seam, x', y', lx', ly', pre2, suf2, rest, rfl, rfl, ⟨⟨hH.way, hH.nd, a5, a6⟩, HSR.out.1, HSR.out.2, hrow, hB, HZ.out.2.1, HZ.out.2.2, g5, g6⟩⟩
      · go_simp
        change K _ (Wc.alloc (.cells #[.slice none 0 0] 137))
        have hbn : Below Wc.heap.size Wc (Wc.alloc (.cells #[.slice none 0 0] 137)) := (Below.refl _ Wc).alloc (Nat.le_refl _) _
        have g5 : w.heap.size ≤ Wc.heap.size := hB.size
        have m5 : z4 < Wc.heap.size := hH.nd.lt
        try have n56 : Wc.heap.size ≠ z6 := fun e => by have := a6.lt; omega
        have hH2 := hH.below hbn
        replace hB := hB.trans (hbn.mono hB.size)
        try replace hnd := hnd.below hbn
        try replace hp1 := hp1.below hbn
        try replace hp2 := hp2.below hbn
        try replace a5 := a5.below hbn
        try replace a6 := a6.below hbn
        try replace hrow := (Kp.of_below hbn (fun _ => False)).own hrow (fun _ _ h => h)
        have a5 := C1.new Wc 137 (.slice none 0 0)
        generalize Wc.alloc _ = Wn at *
        generalize Wc.heap.size = z5 at *
        refine hK.out _ _ hH2 (fun hH => ?_)
        clear hK K hH2 hbn
        rename World => Wc
        refine wpAnyH_ready (rs := [2, 10]) (by kernel_rfl) (by simp) ?_
        refine AllReadyH.cons rfl (fun K hK => ?_) (AllReadyH.cons rfl (fun K hK => ?_) (AllReadyH.nil))
        · go_simp
          refine (nbelow0 n _).mono ?_
          rintro e Wn ⟨g, rfl, hg, _, hbn⟩
          have hH2 := hH.below hbn
          replace hB := hB.trans (hbn.mono hB.size)
          try replace hnd := hnd.below hbn
          try replace hp1 := hp1.below hbn
          try replace hp2 := hp2.below hbn
          try replace a5 := a5.below hbn
          try replace a6 := a6.below hbn
          try replace hrow := (Kp.of_below hbn (fun _ => False)).own hrow (fun _ _ h => h)
          have hp1 := hnd.placex hg
          clear hg
          simp only
          refine hK.out _ _ hH2 (fun hH => ?_)
          clear hK K hH2 hbn
          rename World => Wc
          refine wpAnyH_ready (rs := [4, 10]) (by kernel_rfl) (by simp) ?_
          refine AllReadyH.cons rfl (fun K hK => ?_) (AllReadyH.cons rfl (fun K hK => ?_) (AllReadyH.nil))
          · go_simp
            refine (nbelow1 n _).mono ?_
            rintro e Wn ⟨g, rfl, hg, _, hbn⟩
            have hH2 := hH.below hbn
            replace hB := hB.trans (hbn.mono hB.size)
            try replace hnd := hnd.below hbn
            try replace hp1 := hp1.below hbn
            try replace hp2 := hp2.below hbn
            try replace a5 := a5.below hbn
            try replace a6 := a6.below hbn
            try replace hrow := (Kp.of_below hbn (fun _ => False)).own hrow (fun _ _ h => h)
            have hp2 := hnd.placey hg
            clear hg
            simp only
            refine hK.out _ _ hH2 (fun hH => ?_)
            clear hK K hH2 hbn
            rename World => Wc
            refine wpAnyH_ready (rs := [5, 10]) (by kernel_rfl) (by simp) ?_
            refine AllReadyH.cons rfl (fun K hK => ?_) (AllReadyH.cons rfl (fun K hK => ?_) (AllReadyH.nil))
            · go_simp
              refine (HSM.out n HN.out _ _ _ _ _ _ _ hB hp1 hp2).mono ?_
              rintro e Wn ⟨As, cs, seam, x', y', lx', ly', pre2, suf2, rest, rfl, hsr, hrest, hrow, hbn⟩
              replace hrow := own_base hrow hB.size
              clear hp1 hp2
              have HSR := Lib.hid (And.intro hsr hrest)
              clear hsr hrest
              have hH2 := hH.below hbn
              replace hB := hB.trans (hbn.mono hB.size)
              try replace a5 := a5.below hbn
              try replace a6 := a6.below hbn
              clear hnd
              simp only
              refine hK.out _ _ hH2 (fun hH => ?_)
              clear hK K hH2 hbn
              rename World => Wc
              refine tkH ?_ 6 hH ?_ ?_; rotate_left
              · intro W' hS; go_simp; with_reducible rfl
              simp only [tkr]
              refine tkH ?_ 7 hH ?_ ?_; rotate_left
              · intro W' hS; go_simp; with_reducible rfl
              simp only [tkr]
              refine tkH ?_ 8 hH ?_ ?_; rotate_left
              · intro W' hS; go_simp; with_reducible rfl
              simp only [tkr]
              refine rdH 10 rfl (fun K hK => ?_)
              go_simp
              change K _ (Wc.alloc (.cells #[.int .i64 0] 3))
              have hbn : Below Wc.heap.size Wc (Wc.alloc (.cells #[.int .i64 0] 3)) := (Below.refl _ Wc).alloc (Nat.le_refl _) _
              have g6 : w.heap.size ≤ Wc.heap.size := hB.size
              have m6 : z4 < Wc.heap.size := hH.nd.lt
              try have n56 : z5 ≠ Wc.heap.size := fun e => by have := a5.lt; omega
              have hH2 := hH.below hbn
              replace hB := hB.trans (hbn.mono hB.size)
              try replace hnd := hnd.below hbn
              try replace hp1 := hp1.below hbn
              try replace hp2 := hp2.below hbn
              try replace a5 := a5.below hbn
              try replace a6 := a6.below hbn
              try replace hrow := (Kp.of_below hbn (fun _ => False)).own hrow (fun _ _ h => h)
              have a6 := C1.new Wc 3 (.int .i64 0)
              generalize Wc.alloc _ = Wn at *
              generalize Wc.heap.size = z6 at *
              refine hK.out _ _ hH2 (fun hH => ?_)
              clear hK K hH2 hbn
              rename World => Wc
              refine rdH 11 rfl (fun K hK => ?_)
              have c5 := a5.c0
              have f5 := a5.fz
              go_simp
              clear c5 f5
              have kz : Kp (fun z => z = z5) Wc (Wc.setCell ⟨z5, 0, none⟩ (.slice As seam.length cs)) := (Kp.refl (fun z => z = z5) Wc).setCell (.inl rfl) _
              have hH2 := hH.kp kz (by have := HZ.out; omega) (by omega)
              replace hB := hB.setCell (p := ⟨z5, 0, none⟩) g5 (.slice As seam.length cs)
              try replace a6 := a6.kp kz (fun e => n56 e.symm)
              replace hrow := kz.own hrow (fun q hq e => by
                obtain ⟨cur, e2⟩ := own_type hrow q hq
                have e3 : Wc.heap[z5]? = some _ := a5
                rw [e, e3] at e2
                simp only [Option.some.injEq, Obj.cells.injEq] at e2
                exact absurd e2.2.1 (by decide))
              replace a5 := a5.set (.slice As seam.length cs)
              clear kz
              generalize Wc.setCell _ _ = Wn at *
              refine hK.out _ _ hH2 (fun hH => ?_)
              clear hK K hH2
              rename World => Wc
              refine rdH 12 rfl (fun K hK => ?_)
              have c6 := a6.c0
              have f6 := a6.fz
              go_simp
              clear c6 f6
              have kz : Kp (fun z => z = z6) Wc (Wc.setCell ⟨z6, 0, none⟩ (.int .i64 (rest : Nat))) := (Kp.refl (fun z => z = z6) Wc).setCell (.inl rfl) _
              have hH2 := hH.kp kz (by have := HZ.out; omega) (by omega)
              replace hB := hB.setCell (p := ⟨z6, 0, none⟩) g6 (.int .i64 (rest : Nat))
              replace a5 := a5.kp kz n56
              replace hrow := kz.own hrow (fun q hq e => by
                obtain ⟨cur, e2⟩ := own_type hrow q hq
                have e3 : Wc.heap[z6]? = some _ := a6
                rw [e, e3] at e2
                simp only [Option.some.injEq, Obj.cells.injEq] at e2
                exact absurd e2.2.1 (by decide))
              replace a6 := a6.set (.int .i64 (rest : Nat))
              clear kz
              generalize Wc.setCell _ _ = Wn at *
              refine hK.out _ _ hH2 (fun hH => ?_)
              clear hK K hH2
              rename World => Wc
              refine wpAnyH_done (by kernel_rfl) ?_ _
              refine NoPanic.normal ?_
              go_wp2_with fail
              go_meet
              have e := HNE.out
              subst e
              exact ⟨z5, z6, As, cs, seam, x', y', lx', ly', pre2, suf2, rest, rfl, rfl, ⟨⟨hH.way, hH.nd, a5, a6⟩, HSR.out.1, HSR.out.2, hrow, hB, HZ.out.2.1, HZ.out.2.2, g5, g6⟩⟩
            · go_simp
              change K _ (Wc.alloc (.cells #[.int .i64 0] 3))
              have hbn : Below Wc.heap.size Wc (Wc.alloc (.cells #[.int .i64 0] 3)) := (Below.refl _ Wc).alloc (Nat.le_refl _) _
              have g6 : w.heap.size ≤ Wc.heap.size := hB.size
              have m6 : z4 < Wc.heap.size := hH.nd.lt
              try have n56 : z5 ≠ Wc.heap.size := fun e => by have := a5.lt; omega
              have hH2 := hH.below hbn
              replace hB := hB.trans (hbn.mono hB.size)
              try replace hnd := hnd.below hbn
              try replace hp1 := hp1.below hbn
              try replace hp2 := hp2.below hbn
              try replace a5 := a5.below hbn
              try replace a6 := a6.below hbn
              try replace hrow := (Kp.of_below hbn (fun _ => False)).own hrow (fun _ _ h => h)
              have a6 := C1.new Wc 3 (.int .i64 0)
              generalize Wc.alloc _ = Wn at *
              generalize Wc.heap.size = z6 at *
              refine hK.out _ _ hH2 (fun hH => ?_)
              clear hK K hH2 hbn
              rename World => Wc
              refine rdH 5 rfl (fun K hK => ?_)
              go_simp
              refine (HSM.out n HN.out _ _ _ _ _ _ _ hB hp1 hp2).mono ?_
              rintro e Wn ⟨As, cs, seam, x', y', lx', ly', pre2, suf2, rest, rfl, hsr, hrest, hrow, hbn⟩
              replace hrow := own_base hrow hB.size
              clear hp1 hp2
              have HSR := Lib.hid (And.intro hsr hrest)
              clear hsr hrest
              have hH2 := hH.below hbn
              replace hB := hB.trans (hbn.mono hB.size)
              try replace a5 := a5.below hbn
              try replace a6 := a6.below hbn
              clear hnd
              simp only
              refine hK.out _ _ hH2 (fun hH => ?_)
              clear hK K hH2 hbn
              rename World => Wc
              refine tkH ?_ 6 hH ?_ ?_; rotate_left
              · intro W' hS; go_simp; with_reducible rfl
              simp only [tkr]
              refine tkH ?_ 7 hH ?_ ?_; rotate_left
              · intro W' hS; go_simp; with_reducible rfl
              simp only [tkr]
              refine tkH ?_ 8 hH ?_ ?_; rotate_left
              · intro W' hS; go_simp; with_reducible rfl
              simp only [tkr]
              refine rdH 11 rfl (fun K hK => ?_)
              have c5 := a5.c0
              have f5 := a5.fz
              go_simp
              clear c5 f5
              have kz : Kp (fun z => z = z5) Wc (Wc.setCell ⟨z5, 0, none⟩ (.slice As seam.length cs)) := (Kp.refl (fun z => z = z5) Wc).setCell (.inl rfl) _
              have hH2 := hH.kp kz (by have := HZ.out; omega) (by omega)
              replace hB := hB.setCell (p := ⟨z5, 0, none⟩) g5 (.slice As seam.length cs)
              try replace a6 := a6.kp kz (fun e => n56 e.symm)
              replace hrow := kz.own hrow (fun q hq e => by
                obtain ⟨cur, e2⟩ := own_type hrow q hq
                have e3 : Wc.heap[z5]? = some _ := a5
                rw [e, e3] at e2
                simp only [Option.some.injEq, Obj.cells.injEq] at e2
                exact absurd e2.2.1 (by decide))
              replace a5 := a5.set (.slice As seam.length cs)
              clear kz
              generalize Wc.setCell _ _ = Wn at *
              refine hK.out _ _ hH2 (fun hH => ?_)
              clear hK K hH2
              rename World => Wc
              refine rdH 12 rfl (fun K hK => ?_)
              have c6 := a6.c0
              have f6 := a6.fz
              go_simp
              clear c6 f6
              have kz : Kp (fun z => z = z6) Wc (Wc.setCell ⟨z6, 0, none⟩ (.int .i64 (rest : Nat))) := (Kp.refl (fun z => z = z6) Wc).setCell (.inl rfl) _
              have hH2 := hH.kp kz (by have := HZ.out; omega) (by omega)
              replace hB := hB.setCell (p := ⟨z6, 0, none⟩) g6 (.int .i64 (rest : Nat))
              replace a5 := a5.kp kz n56
              replace hrow := kz.own hrow (fun q hq e => by
                obtain ⟨cur, e2⟩ := own_type hrow q hq
                have e3 : Wc.heap[z6]? = some _ := a6
                rw [e, e3] at e2
                simp only [Option.some.injEq, Obj.cells.injEq] at e2
                exact absurd e2.2.1 (by decide))
              replace a6 := a6.set (.int .i64 (rest : Nat))
              clear kz
              generalize Wc.setCell _ _ = Wn at *
              refine hK.out _ _ hH2 (fun hH => ?_)
              clear hK K hH2
              rename World => Wc
              refine wpAnyH_done (by kernel_rfl) ?_ _
              refine NoPanic.normal ?_
              go_wp2_with fail
              go_meet
              have e := HNE.out
              subst e
              exact ⟨z5, z6, As, cs, seam, x', y', lx', ly', pre2, suf2, rest, rfl, rfl, ⟨⟨hH.way, hH.nd, a5, a6⟩, HSR.out.1, HSR.out.2, hrow, hB, HZ.out.2.1, HZ.out.2.2, g5, g6⟩⟩
          · go_simp
            change K _ (Wc.alloc (.cells #[.int .i64 0] 3))
            have hbn : Below Wc.heap.size Wc (Wc.alloc (.cells #[.int .i64 0] 3)) := (Below.refl _ Wc).alloc (Nat.le_refl _) _
            have g6 : w.heap.size ≤ Wc.heap.size := hB.size
            have m6 : z4 < Wc.heap.size := hH.nd.lt
            try have n56 : z5 ≠ Wc.heap.size := fun e => by have := a5.lt; omega
            have hH2 := hH.below hbn
            replace hB := hB.trans (hbn.mono hB.size)
            try replace hnd := hnd.below hbn
            try replace hp1 := hp1.below hbn
            try replace hp2 := hp2.below hbn
            try replace a5 := a5.below hbn
            try replace a6 := a6.below hbn
            try replace hrow := (Kp.of_below hbn (fun _ => False)).own hrow (fun _ _ h => h)
            have a6 := C1.new Wc 3 (.int .i64 0)
            generalize Wc.alloc _ = Wn at *
            generalize Wc.heap.size = z6 at *
            refine hK.out _ _ hH2 (fun hH => ?_)
            clear hK K hH2 hbn
            rename World => Wc
            refine rdH 4 rfl (fun K hK => ?_)
            go_simp
            refine (nbelow1 n _).mono ?_
            rintro e Wn ⟨g, rfl, hg, _, hbn⟩
            have hH2 := hH.below hbn
            replace hB := hB.trans (hbn.mono hB.size)
            try replace hnd := hnd.below hbn
            try replace hp1 := hp1.below hbn
            try replace hp2 := hp2.below hbn
            try replace a5 := a5.below hbn
            try replace a6 := a6.below hbn
            try replace hrow := (Kp.of_below hbn (fun _ => False)).own hrow (fun _ _ h => h)
            have hp2 := hnd.placey hg
            clear hg
            simp only
            refine hK.out _ _ hH2 (fun hH => ?_)
            clear hK K hH2 hbn
            rename World => Wc
            refine rdH 5 rfl (fun K hK => ?_)
            go_simp
            refine (HSM.out n HN.out _ _ _ _ _ _ _ hB hp1 hp2).mono ?_
            rintro e Wn ⟨As, cs, seam, x', y', lx', ly', pre2, suf2, rest, rfl, hsr, hrest, hrow, hbn⟩
            replace hrow := own_base hrow hB.size
            clear hp1 hp2
            have HSR := Lib.hid (And.intro hsr hrest)
            clear hsr hrest
            have hH2 := hH.below hbn
            replace hB := hB.trans (hbn.mono hB.size)
            try replace a5 := a5.below hbn
            try replace a6 := a6.below hbn
            clear hnd
            simp only
            refine hK.out _ _ hH2 (fun hH => ?_)
            clear hK K hH2 hbn
            rename World => Wc
            refine tkH ?_ 6 hH ?_ ?_; rotate_left
            · intro W' hS; go_simp; with_reducible rfl
            simp only [tkr]
            refine tkH ?_ 7 hH ?_ ?_; rotate_left
            · intro W' hS; go_simp; with_reducible rfl
            simp only [tkr]
            refine tkH ?_ 8 hH ?_ ?_; rotate_left
            · intro W' hS; go_simp; with_reducible rfl
            simp only [tkr]
            refine rdH 11 rfl (fun K hK => ?_)
            have c5 := a5.c0
            have f5 := a5.fz
            go_simp
            clear c5 f5
            have kz : Kp (fun z => z = z5) Wc (Wc.setCell ⟨z5, 0, none⟩ (.slice As seam.length cs)) := (Kp.refl (fun z => z = z5) Wc).setCell (.inl rfl) _
            have hH2 := hH.kp kz (by have := HZ.out; omega) (by omega)
            replace hB := hB.setCell (p := ⟨z5, 0, none⟩) g5 (.slice As seam.length cs)
            try replace a6 := a6.kp kz (fun e => n56 e.symm)
            replace hrow := kz.own hrow (fun q hq e => by
              obtain ⟨cur, e2⟩ := own_type hrow q hq
              have e3 : Wc.heap[z5]? = some _ := a5
              rw [e, e3] at e2
              simp only [Option.some.injEq, Obj.cells.injEq] at e2
              exact absurd e2.2.1 (by decide))
            replace a5 := a5.set (.slice As seam.length cs)
            clear kz
            generalize Wc.setCell _ _ = Wn at *
            refine hK.out _ _ hH2 (fun hH => ?_)
            clear hK K hH2
            rename World => Wc
            refine rdH 12 rfl (fun K hK => ?_)
            have c6 := a6.c0
            have f6 := a6.fz
            go_simp
            clear c6 f6
            have kz : Kp (fun z => z = z6) Wc (Wc.setCell ⟨z6, 0, none⟩ (.int .i64 (rest : Nat))) := (Kp.refl (fun z => z = z6) Wc).setCell (.inl rfl) _
            have hH2 := hH.kp kz (by have := HZ.out; omega) (by omega)
            replace hB := hB.setCell (p := ⟨z6, 0, none⟩) g6 (.int .i64 (rest : Nat))
            replace a5 := a5.kp kz n56
            replace hrow := kz.own hrow (fun q hq e => by
              obtain ⟨cur, e2⟩ := own_type hrow q hq
              have e3 : Wc.heap[z6]? = some _ := a6
              rw [e, e3] at e2
              simp only [Option.some.injEq, Obj.cells.injEq] at e2
              exact absurd e2.2.1 (by decide))
            replace a6 := a6.set (.int .i64 (rest : Nat))
            clear kz
            generalize Wc.setCell _ _ = Wn at *
            refine hK.out _ _ hH2 (fun hH => ?_)
            clear hK K hH2
            rename World => Wc
            refine wpAnyH_done (by kernel_rfl) ?_ _
            refine NoPanic.normal ?_
            go_wp2_with fail
            go_meet
            have e := HNE.out
            subst e
            exact ⟨z5, z6, As, cs, seam, x', y', lx', ly', pre2, suf2, rest, rfl, rfl, ⟨⟨hH.way, hH.nd, a5, a6⟩, HSR.out.1, HSR.out.2, hrow, hB, HZ.out.2.1, HZ.out.2.2, g5, g6⟩⟩
        · go_simp
          change K _ (Wc.alloc (.cells #[.int .i64 0] 3))
          have hbn : Below Wc.heap.size Wc (Wc.alloc (.cells #[.int .i64 0] 3)) := (Below.refl _ Wc).alloc (Nat.le_refl _) _
          have g6 : w.heap.size ≤ Wc.heap.size := hB.size
          have m6 : z4 < Wc.heap.size := hH.nd.lt
          try have n56 : z5 ≠ Wc.heap.size := fun e => by have := a5.lt; omega
          have hH2 := hH.below hbn
          replace hB := hB.trans (hbn.mono hB.size)
          try replace hnd := hnd.below hbn
          try replace hp1 := hp1.below hbn
          try replace hp2 := hp2.below hbn
          try replace a5 := a5.below hbn
          try replace a6 := a6.below hbn
          try replace hrow := (Kp.of_below hbn (fun _ => False)).own hrow (fun _ _ h => h)
          have a6 := C1.new Wc 3 (.int .i64 0)
          generalize Wc.alloc _ = Wn at *
          generalize Wc.heap.size = z6 at *
          refine hK.out _ _ hH2 (fun hH => ?_)
          clear hK K hH2 hbn
          rename World => Wc
          refine rdH 2 rfl (fun K hK => ?_)
          go_simp
          refine (nbelow0 n _).mono ?_
          rintro e Wn ⟨g, rfl, hg, _, hbn⟩
          have hH2 := hH.below hbn
          replace hB := hB.trans (hbn.mono hB.size)
          try replace hnd := hnd.below hbn
          try replace hp1 := hp1.below hbn
          try replace hp2 := hp2.below hbn
          try replace a5 := a5.below hbn
          try replace a6 := a6.below hbn
          try replace hrow := (Kp.of_below hbn (fun _ => False)).own hrow (fun _ _ h => h)
          have hp1 := hnd.placex hg
          clear hg
          simp only
          refine hK.out _ _ hH2 (fun hH => ?_)
          clear hK K hH2 hbn
          rename World => Wc
          refine rdH 4 rfl (fun K hK => ?_)
          go_simp
          refine (nbelow1 n _).mono ?_
          rintro e Wn ⟨g, rfl, hg, _, hbn⟩
          have hH2 := hH.below hbn
          replace hB := hB.trans (hbn.mono hB.size)
          try replace hnd := hnd.below hbn
          try replace hp1 := hp1.below hbn
          try replace hp2 := hp2.below hbn
          try replace a5 := a5.below hbn
          try replace a6 := a6.below hbn
          try replace hrow := (Kp.of_below hbn (fun _ => False)).own hrow (fun _ _ h => h)
          have hp2 := hnd.placey hg
          clear hg
          simp only
          refine hK.out _ _ hH2 (fun hH => ?_)
          clear hK K hH2 hbn
          rename World => Wc
          refine rdH 5 rfl (fun K hK => ?_)
          go_simp
          refine (HSM.out n HN.out _ _ _ _ _ _ _ hB hp1 hp2).mono ?_
          rintro e Wn ⟨As, cs, seam, x', y', lx', ly', pre2, suf2, rest, rfl, hsr, hrest, hrow, hbn⟩
          replace hrow := own_base hrow hB.size
          clear hp1 hp2
          have HSR := Lib.hid (And.intro hsr hrest)
          clear hsr hrest
          have hH2 := hH.below hbn
          replace hB := hB.trans (hbn.mono hB.size)
          try replace a5 := a5.below hbn
          try replace a6 := a6.below hbn
          clear hnd
          simp only
          refine hK.out _ _ hH2 (fun hH => ?_)
          clear hK K hH2 hbn
          rename World => Wc
          refine tkH ?_ 6 hH ?_ ?_; rotate_left
          · intro W' hS; go_simp; with_reducible rfl
          simp only [tkr]
          refine tkH ?_ 7 hH ?_ ?_; rotate_left
          · intro W' hS; go_simp; with_reducible rfl
          simp only [tkr]
          refine tkH ?_ 8 hH ?_ ?_; rotate_left
          · intro W' hS; go_simp; with_reducible rfl
          simp only [tkr]
          refine rdH 11 rfl (fun K hK => ?_)
          have c5 := a5.c0
          have f5 := a5.fz
          go_simp
          clear c5 f5
          have kz : Kp (fun z => z = z5) Wc (Wc.setCell ⟨z5, 0, none⟩ (.slice As seam.length cs)) := (Kp.refl (fun z => z = z5) Wc).setCell (.inl rfl) _
          have hH2 := hH.kp kz (by have := HZ.out; omega) (by omega)
          replace hB := hB.setCell (p := ⟨z5, 0, none⟩) g5 (.slice As seam.length cs)
          try replace a6 := a6.kp kz (fun e => n56 e.symm)
          replace hrow := kz.own hrow (fun q hq e => by
            obtain ⟨cur, e2⟩ := own_type hrow q hq
            have e3 : Wc.heap[z5]? = some _ := a5
            rw [e, e3] at e2
            simp only [Option.some.injEq, Obj.cells.injEq] at e2
            exact absurd e2.2.1 (by decide))
          replace a5 := a5.set (.slice As seam.length cs)
          clear kz
          generalize Wc.setCell _ _ = Wn at *
          refine hK.out _ _ hH2 (fun hH => ?_)
          clear hK K hH2
          rename World => Wc
          refine rdH 12 rfl (fun K hK => ?_)
          have c6 := a6.c0
          have f6 := a6.fz
          go_simp
          clear c6 f6
          have kz : Kp (fun z => z = z6) Wc (Wc.setCell ⟨z6, 0, none⟩ (.int .i64 (rest : Nat))) := (Kp.refl (fun z => z = z6) Wc).setCell (.inl rfl) _
          have hH2 := hH.kp kz (by have := HZ.out; omega) (by omega)
          replace hB := hB.setCell (p := ⟨z6, 0, none⟩) g6 (.int .i64 (rest : Nat))
          replace a5 := a5.kp kz n56
          replace hrow := kz.own hrow (fun q hq e => by
            obtain ⟨cur, e2⟩ := own_type hrow q hq
            have e3 : Wc.heap[z6]? = some _ := a6
            rw [e, e3] at e2
            simp only [Option.some.injEq, Obj.cells.injEq] at e2
            exact absurd e2.2.1 (by decide))
          replace a6 := a6.set (.int .i64 (rest : Nat))
          clear kz
          generalize Wc.setCell _ _ = Wn at *
          refine hK.out _ _ hH2 (fun hH => ?_)
          clear hK K hH2
          rename World => Wc
          refine wpAnyH_done (by kernel_rfl) ?_ _
          refine NoPanic.normal ?_
          go_wp2_with fail
          go_meet
          have e := HNE.out
          subst e
          exact ⟨z5, z6, As, cs, seam, x', y', lx', ly', pre2, suf2, rest, rfl, rfl, ⟨⟨hH.way, hH.nd, a5, a6⟩, HSR.out.1, HSR.out.2, hrow, hB, HZ.out.2.1, HZ.out.2.2, g5, g6⟩⟩
      · go_simp
        change K _ (Wc.alloc (.cells #[.int .i64 0] 3))
        have hbn : Below Wc.heap.size Wc (Wc.alloc (.cells #[.int .i64 0] 3)) := (Below.refl _ Wc).alloc (Nat.le_refl _) _
        have g6 : w.heap.size ≤ Wc.heap.size := hB.size
        have m6 : z4 < Wc.heap.size := hH.nd.lt
        try have n56 : z5 ≠ Wc.heap.size := fun e => by have := a5.lt; omega
        have hH2 := hH.below hbn
        replace hB := hB.trans (hbn.mono hB.size)
        try replace hnd := hnd.below hbn
        try replace hp1 := hp1.below hbn
        try replace hp2 := hp2.below hbn
        try replace a5 := a5.below hbn
        try replace a6 := a6.below hbn
        try replace hrow := (Kp.of_below hbn (fun _ => False)).own hrow (fun _ _ h => h)
        have a6 := C1.new Wc 3 (.int .i64 0)
        generalize Wc.alloc _ = Wn at *
        generalize Wc.heap.size = z6 at *
        refine hK.out _ _ hH2 (fun hH => ?_)
        clear hK K hH2 hbn
        rename World => Wc
        refine wpAnyH_ready (rs := [2, 9]) (by kernel_rfl) (by simp) ?_
        refine AllReadyH.cons rfl (fun K hK => ?_) (AllReadyH.cons rfl (fun K hK => ?_) (AllReadyH.nil))
        · go_simp
          refine (nbelow0 n _).mono ?_
          rintro e Wn ⟨g, rfl, hg, _, hbn⟩
          have hH2 := hH.below hbn
          replace hB := hB.trans (hbn.mono hB.size)
          try replace hnd := hnd.below hbn
          try replace hp1 := hp1.below hbn
          try replace hp2 := hp2.below hbn
          try replace a5 := a5.below hbn
          try replace a6 := a6.below hbn
          try replace hrow := (Kp.of_below hbn (fun _ => False)).own hrow (fun _ _ h => h)
          have hp1 := hnd.placex hg
          clear hg
          simp only
          refine hK.out _ _ hH2 (fun hH => ?_)
          clear hK K hH2 hbn
          rename World => Wc
          refine wpAnyH_ready (rs := [4, 9]) (by kernel_rfl) (by simp) ?_
          refine AllReadyH.cons rfl (fun K hK => ?_) (AllReadyH.cons rfl (fun K hK => ?_) (AllReadyH.nil))
          · go_simp
            refine (nbelow1 n _).mono ?_
            rintro e Wn ⟨g, rfl, hg, _, hbn⟩
            have hH2 := hH.below hbn
            replace hB := hB.trans (hbn.mono hB.size)
            try replace hnd := hnd.below hbn
            try replace hp1 := hp1.below hbn
            try replace hp2 := hp2.below hbn
            try replace a5 := a5.below hbn
            try replace a6 := a6.below hbn
            try replace hrow := (Kp.of_below hbn (fun _ => False)).own hrow (fun _ _ h => h)
            have hp2 := hnd.placey hg
            clear hg
            simp only
            refine hK.out _ _ hH2 (fun hH => ?_)
            clear hK K hH2 hbn
            rename World => Wc
            refine wpAnyH_ready (rs := [5, 9]) (by kernel_rfl) (by simp) ?_
            refine AllReadyH.cons rfl (fun K hK => ?_) (AllReadyH.cons rfl (fun K hK => ?_) (AllReadyH.nil))
            · go_simp
              refine (HSM.out n HN.out _ _ _ _ _ _ _ hB hp1 hp2).mono ?_
              rintro e Wn ⟨As, cs, seam, x', y', lx', ly', pre2, suf2, rest, rfl, hsr, hrest, hrow, hbn⟩
              replace hrow := own_base hrow hB.size
              clear hp1 hp2
              have HSR := Lib.hid (And.intro hsr hrest)
              clear hsr hrest
              have hH2 := hH.below hbn
              replace hB := hB.trans (hbn.mono hB.size)
              try replace a5 := a5.below hbn
              try replace a6 := a6.below hbn
              clear hnd
              simp only
              refine hK.out _ _ hH2 (fun hH => ?_)
              clear hK K hH2 hbn
              rename World => Wc
              refine tkH ?_ 6 hH ?_ ?_; rotate_left
              · intro W' hS; go_simp; with_reducible rfl
              simp only [tkr]
              refine tkH ?_ 7 hH ?_ ?_; rotate_left
              · intro W' hS; go_simp; with_reducible rfl
              simp only [tkr]
              refine tkH ?_ 8 hH ?_ ?_; rotate_left
              · intro W' hS; go_simp; with_reducible rfl
              simp only [tkr]
              refine rdH 9 rfl (fun K hK => ?_)
              go_simp
              change K _ (Wc.alloc (.cells #[.slice none 0 0] 137))
              have hbn : Below Wc.heap.size Wc (Wc.alloc (.cells #[.slice none 0 0] 137)) := (Below.refl _ Wc).alloc (Nat.le_refl _) _
              have g5 : w.heap.size ≤ Wc.heap.size := hB.size
              have m5 : z4 < Wc.heap.size := hH.nd.lt
              try have n56 : Wc.heap.size ≠ z6 := fun e => by have := a6.lt; omega
              have hH2 := hH.below hbn
              replace hB := hB.trans (hbn.mono hB.size)
              try replace hnd := hnd.below hbn
              try replace hp1 := hp1.below hbn
              try replace hp2 := hp2.below hbn
              try replace a5 := a5.below hbn
              try replace a6 := a6.below hbn
              try replace hrow := (Kp.of_below hbn (fun _ => False)).own hrow (fun _ _ h => h)
              have a5 := C1.new Wc 137 (.slice none 0 0)
              generalize Wc.alloc _ = Wn at *
              generalize Wc.heap.size = z5 at *
              refine hK.out _ _ hH2 (fun hH => ?_)
              clear hK K hH2 hbn
              rename World => Wc
              refine rdH 11 rfl (fun K hK => ?_)
              have c5 := a5.c0
              have f5 := a5.fz
              go_simp
              clear c5 f5
              have kz : Kp (fun z => z = z5) Wc (Wc.setCell ⟨z5, 0, none⟩ (.slice As seam.length cs)) := (Kp.refl (fun z => z = z5) Wc).setCell (.inl rfl) _
              have hH2 := hH.kp kz (by have := HZ.out; omega) (by omega)
              replace hB := hB.setCell (p := ⟨z5, 0, none⟩) g5 (.slice As seam.length cs)
              try replace a6 := a6.kp kz (fun e => n56 e.symm)
              replace hrow := kz.own hrow (fun q hq e => by
                obtain ⟨cur, e2⟩ := own_type hrow q hq
                have e3 : Wc.heap[z5]? = some _ := a5
                rw [e, e3] at e2
                simp only [Option.some.injEq, Obj.cells.injEq] at e2
                exact absurd e2.2.1 (by decide))
              replace a5 := a5.set (.slice As seam.length cs)
              clear kz
              generalize Wc.setCell _ _ = Wn at *
              refine hK.out _ _ hH2 (fun hH => ?_)
              clear hK K hH2
              rename World => Wc
              refine rdH 12 rfl (fun K hK => ?_)
              have c6 := a6.c0
              have f6 := a6.fz
              go_simp
              clear c6 f6
              have kz : Kp (fun z => z = z6) Wc (Wc.setCell ⟨z6, 0, none⟩ (.int .i64 (rest : Nat))) := (Kp.refl (fun z => z = z6) Wc).setCell (.inl rfl) _
              have hH2 := hH.kp kz (by have := HZ.out; omega) (by omega)
              replace hB := hB.setCell (p := ⟨z6, 0, none⟩) g6 (.int .i64 (rest : Nat))
              replace a5 := a5.kp kz n56
              replace hrow := kz.own hrow (fun q hq e => by
                obtain ⟨cur, e2⟩ := own_type hrow q hq
                have e3 : Wc.heap[z6]? = some _ := a6
                rw [e, e3] at e2
                simp only [Option.some.injEq, Obj.cells.injEq] at e2
                exact absurd e2.2.1 (by decide))
              replace a6 := a6.set (.int .i64 (rest : Nat))
              clear kz
              generalize Wc.setCell _ _ = Wn at *
              refine hK.out _ _ hH2 (fun hH => ?_)
              clear hK K hH2
              rename World => Wc
              refine wpAnyH_done (by kernel_rfl) ?_ _
              refine NoPanic.normal ?_
              go_wp2_with fail
              go_meet
              have e := HNE.out
              subst e
              exact ⟨z5, z6, As, cs, seam, x', y', lx', ly', pre2, suf2, rest, rfl, rfl, ⟨⟨hH.way, hH.nd, a5, a6⟩, HSR.out.1, HSR.out.2, hrow, hB, HZ.out.2.1, HZ.out.2.2, g5, g6⟩⟩
            · go_simp
              change K _ (Wc.alloc (.cells #[.slice none 0 0] 137))
              have hbn : Below Wc.heap.size Wc (Wc.alloc (.cells #[.slice none 0 0] 137)) := (Below.refl _ Wc).alloc (Nat.le_refl _) _
              have g5 : w.heap.size ≤ Wc.heap.size := hB.size
              have m5 : z4 < Wc.heap.size := hH.nd.lt
              try have n56 : Wc.heap.size ≠ z6 := fun e => by have := a6.lt; omega
              have hH2 := hH.below hbn
              replace hB := hB.trans (hbn.mono hB.size)
              try replace hnd := hnd.below hbn
              try replace hp1 := hp1.below hbn
              try replace hp2 := hp2.below hbn
              try replace a5 := a5.below hbn
              try replace a6 := a6.below hbn
              try replace hrow := (Kp.of_below hbn (fun _ => False)).own hrow (fun _ _ h => h)
              have a5 := C1.new Wc 137 (.slice none 0 0)
              generalize Wc.alloc _ = Wn at *
              generalize Wc.heap.size = z5 at *
              refine hK.out _ _ hH2 (fun hH => ?_)
              clear hK K hH2 hbn
              rename World => Wc
              refine rdH 5 rfl (fun K hK => ?_)
              go_simp
              refine (HSM.out n HN.out _ _ _ _ _ _ _ hB hp1 hp2).mono ?_
              rintro e Wn ⟨As, cs, seam, x', y', lx', ly', pre2, suf2, rest, rfl, hsr, hrest, hrow, hbn⟩
              replace hrow := own_base hrow hB.size
              clear hp1 hp2
              have HSR := Lib.hid (And.intro hsr hrest)
              clear hsr hrest
              have hH2 := hH.below hbn
              replace hB := hB.trans (hbn.mono hB.size)
              try replace a5 := a5.below hbn
              try replace a6 := a6.below hbn
              clear hnd
              simp only
              refine hK.out _ _ hH2 (fun hH => ?_)
              clear hK K hH2 hbn
              rename World => Wc
              refine tkH ?_ 6 hH ?_ ?_; rotate_left
              · intro W' hS; go_simp; with_reducible rfl
              simp only [tkr]
              refine tkH ?_ 7 hH ?_ ?_; rotate_left
              · intro W' hS; go_simp; with_reducible rfl
              simp only [tkr]
              refine tkH ?_ 8 hH ?_ ?_; rotate_left
              · intro W' hS; go_simp; with_reducible rfl
              simp only [tkr]
              refine rdH 11 rfl (fun K hK => ?_)
              have c5 := a5.c0
              have f5 := a5.fz
              go_simp
              clear c5 f5
              have kz : Kp (fun z => z = z5) Wc (Wc.setCell ⟨z5, 0, none⟩ (.slice As seam.length cs)) := (Kp.refl (fun z => z = z5) Wc).setCell (.inl rfl) _
              have hH2 := hH.kp kz (by have := HZ.out; omega) (by omega)
              replace hB := hB.setCell (p := ⟨z5, 0, none⟩) g5 (.slice As seam.length cs)
              try replace a6 := a6.kp kz (fun e => n56 e.symm)
              replace hrow := kz.own hrow (fun q hq e => by
                obtain ⟨cur, e2⟩ := own_type hrow q hq
                have e3 : Wc.heap[z5]? = some _ := a5
                rw [e, e3] at e2
                simp only [Option.some.injEq, Obj.cells.injEq] at e2
                exact absurd e2.2.1 (by decide))
              replace a5 := a5.set (.slice As seam.length cs)
              clear kz
              generalize Wc.setCell _ _ = Wn at *
              refine hK.out _ _ hH2 (fun hH => ?_)
              clear hK K hH2
              rename World => Wc
              refine rdH 12 rfl (fun K hK => ?_)
              have c6 := a6.c0
              have f6 := a6.fz
              go_simp
              clear c6 f6
              have kz : Kp (fun z => z = z6) Wc (Wc.setCell ⟨z6, 0, none⟩ (.int .i64 (rest : Nat))) := (Kp.refl (fun z => z = z6) Wc).setCell (.inl rfl) _
              have hH2 := hH.kp kz (by have := HZ.out; omega) (by omega)
              replace hB := hB.setCell (p := ⟨z6, 0, none⟩) g6 (.int .i64 (rest : Nat))
              replace a5 := a5.kp kz n56
              replace hrow := kz.own hrow (fun q hq e => by
                obtain ⟨cur, e2⟩ := own_type hrow q hq
                have e3 : Wc.heap[z6]? = some _ := a6
                rw [e, e3] at e2
                simp only [Option.some.injEq, Obj.cells.injEq] at e2
                exact absurd e2.2.1 (by decide))
              replace a6 := a6.set (.int .i64 (rest : Nat))
              clear kz
              generalize Wc.setCell _ _ = Wn at *
              refine hK.out _ _ hH2 (fun hH => ?_)
              clear hK K hH2
              rename World => Wc
              refine wpAnyH_done (by kernel_rfl) ?_ _
              refine NoPanic.normal ?_
              go_wp2_with fail
              go_meet
              have e := HNE.out
              subst e
              exact ⟨z5, z6, As, cs, seam, x', y', lx', ly', pre2, suf2, rest, rfl, rfl, ⟨⟨hH.way, hH.nd, a5, a6⟩, HSR.out.1, HSR.out.2, hrow, hB, HZ.out.2.1, HZ.out.2.2, g5, g6⟩⟩
          · go_simp
            change K _ (Wc.alloc (.cells #[.slice none 0 0] 137))
            have hbn : Below Wc.heap.size Wc (Wc.alloc (.cells #[.slice none 0 0] 137)) := (Below.refl _ Wc).alloc (Nat.le_refl _) _
            have g5 : w.heap.size ≤ Wc.heap.size := hB.size
            have m5 : z4 < Wc.heap.size := hH.nd.lt
            try have n56 : Wc.heap.size ≠ z6 := fun e => by have := a6.lt; omega
            have hH2 := hH.below hbn
            replace hB := hB.trans (hbn.mono hB.size)
            try replace hnd := hnd.below hbn
            try replace hp1 := hp1.below hbn
            try replace hp2 := hp2.below hbn
            try replace a5 := a5.below hbn
            try replace a6 := a6.below hbn
            try replace hrow := (Kp.of_below hbn (fun _ => False)).own hrow (fun _ _ h => h)
            have a5 := C1.new Wc 137 (.slice none 0 0)
            generalize Wc.alloc _ = Wn at *
            generalize Wc.heap.size = z5 at *
            refine hK.out _ _ hH2 (fun hH => ?_)
            clear hK K hH2 hbn
            rename World => Wc
            refine rdH 4 rfl (fun K hK => ?_)
            go_simp
            refine (nbelow1 n _).mono ?_
            rintro e Wn ⟨g, rfl, hg, _, hbn⟩
            have hH2 := hH.below hbn
            replace hB := hB.trans (hbn.mono hB.size)
            try replace hnd := hnd.below hbn
            try replace hp1 := hp1.below hbn
            try replace hp2 := hp2.below hbn
            try replace a5 := a5.below hbn
            try replace a6 := a6.below hbn
            try replace hrow := (Kp.of_below hbn (fun _ => False)).own hrow (fun _ _ h => h)
            have hp2 := hnd.placey hg
            clear hg
            simp only
            refine hK.out _ _ hH2 (fun hH => ?_)
            clear hK K hH2 hbn
            rename World => Wc
            refine rdH 5 rfl (fun K hK => ?_)
            go_simp
            refine (HSM.out n HN.out _ _ _ _ _ _ _ hB hp1 hp2).mono ?_
            rintro e Wn ⟨As, cs, seam, x', y', lx', ly', pre2, suf2, rest, rfl, hsr, hrest, hrow, hbn⟩
            replace hrow := own_base hrow hB.size
            clear hp1 hp2
            have HSR := Lib.hid (And.intro hsr hrest)
            clear hsr hrest
            have hH2 := hH.below hbn
            replace hB := hB.trans (hbn.mono hB.size)
            try replace a5 := a5.below hbn
            try replace a6 := a6.below hbn
            clear hnd
            simp only
            refine hK.out _ _ hH2 (fun hH => ?_)
            clear hK K hH2 hbn
            rename World => Wc
            refine tkH ?_ 6 hH ?_ ?_; rotate_left
            · intro W' hS; go_simp; with_reducible rfl
            simp only [tkr]
            refine tkH ?_ 7 hH ?_ ?_; rotate_left
            · intro W' hS; go_simp; with_reducible rfl
            simp only [tkr]
            refine tkH ?_ 8 hH ?_ ?_; rotate_left
            · intro W' hS; go_simp; with_reducible rfl
            simp only [tkr]
            refine rdH 11 rfl (fun K hK => ?_)
            have c5 := a5.c0
            have f5 := a5.fz
            go_simp
            clear c5 f5
            have kz : Kp (fun z => z = z5) Wc (Wc.setCell ⟨z5, 0, none⟩ (.slice As seam.length cs)) := (Kp.refl (fun z => z = z5) Wc).setCell (.inl rfl) _
            have hH2 := hH.kp kz (by have := HZ.out; omega) (by omega)
            replace hB := hB.setCell (p := ⟨z5, 0, none⟩) g5 (.slice As seam.length cs)
            try replace a6 := a6.kp kz (fun e => n56 e.symm)
            replace hrow := kz.own hrow (fun q hq e => by
              obtain ⟨cur, e2⟩ := own_type hrow q hq
              have e3 : Wc.heap[z5]? = some _ := a5
              rw [e, e3] at e2
              simp only [Option.some.injEq, Obj.cells.injEq] at e2
              exact absurd e2.2.1 (by decide))
            replace a5 := a5.set (.slice As seam.length cs)
            clear kz
            generalize Wc.setCell _ _ = Wn at *
            refine hK.out _ _ hH2 (fun hH => ?_)
            clear hK K hH2
            rename World => Wc
            refine rdH 12 rfl (fun K hK => ?_)
            have c6 := a6.c0
            have f6 := a6.fz
            go_simp
            clear c6 f6
            have kz : Kp (fun z => z = z6) Wc (Wc.setCell ⟨z6, 0, none⟩ (.int .i64 (rest : Nat))) := (Kp.refl (fun z => z = z6) Wc).setCell (.inl rfl) _
            have hH2 := hH.kp kz (by have := HZ.out; omega) (by omega)
            replace hB := hB.setCell (p := ⟨z6, 0, none⟩) g6 (.int .i64 (rest : Nat))
            replace a5 := a5.kp kz n56
            replace hrow := kz.own hrow (fun q hq e => by
              obtain ⟨cur, e2⟩ := own_type hrow q hq
              have e3 : Wc.heap[z6]? = some _ := a6
              rw [e, e3] at e2
              simp only [Option.some.injEq, Obj.cells.injEq] at e2
              exact absurd e2.2.1 (by decide))
            replace a6 := a6.set (.int .i64 (rest : Nat))
            clear kz
            generalize Wc.setCell _ _ = Wn at *
            refine hK.out _ _ hH2 (fun hH => ?_)
            clear hK K hH2
            rename World => Wc
            refine wpAnyH_done (by kernel_rfl) ?_ _
            refine NoPanic.normal ?_
            go_wp2_with fail
            go_meet
            have e := HNE.out
            subst e
            exact ⟨z5, z6, As, cs, seam, x', y', lx', ly', pre2, suf2, rest, rfl, rfl, ⟨⟨hH.way, hH.nd, a5, a6⟩, HSR.out.1, HSR.out.2, hrow, hB, HZ.out.2.1, HZ.out.2.2, g5, g6⟩⟩
        · go_simp
          change K _ (Wc.alloc (.cells #[.slice none 0 0] 137))
          have hbn : Below Wc.heap.size Wc (Wc.alloc (.cells #[.slice none 0 0] 137)) := (Below.refl _ Wc).alloc (Nat.le_refl _) _
          have g5 : w.heap.size ≤ Wc.heap.size := hB.size
          have m5 : z4 < Wc.heap.size := hH.nd.lt
          try have n56 : Wc.heap.size ≠ z6 := fun e => by have := a6.lt; omega
          have hH2 := hH.below hbn
          replace hB := hB.trans (hbn.mono hB.size)
          try replace hnd := hnd.below hbn
          try replace hp1 := hp1.below hbn
          try replace hp2 := hp2.below hbn
          try replace a5 := a5.below hbn
          try replace a6 := a6.below hbn
          try replace hrow := (Kp.of_below hbn (fun _ => False)).own hrow (fun _ _ h => h)
          have a5 := C1.new Wc 137 (.slice none 0 0)
          generalize Wc.alloc _ = Wn at *
          generalize Wc.heap.size = z5 at *
          refine hK.out _ _ hH2 (fun hH => ?_)
          clear hK K hH2 hbn
          rename World => Wc
          refine rdH 2 rfl (fun K hK => ?_)
          go_simp
          refine (nbelow0 n _).mono ?_
          rintro e Wn ⟨g, rfl, hg, _, hbn⟩
          have hH2 := hH.below hbn
          replace hB := hB.trans (hbn.mono hB.size)
          try replace hnd := hnd.below hbn
          try replace hp1 := hp1.below hbn
          try replace hp2 := hp2.below hbn
          try replace a5 := a5.below hbn
          try replace a6 := a6.below hbn
          try replace hrow := (Kp.of_below hbn (fun _ => False)).own hrow (fun _ _ h => h)
          have hp1 := hnd.placex hg
          clear hg
          simp only
          refine hK.out _ _ hH2 (fun hH => ?_)
          clear hK K hH2 hbn
          rename World => Wc
          refine rdH 4 rfl (fun K hK => ?_)
          go_simp
          refine (nbelow1 n _).mono ?_
          rintro e Wn ⟨g, rfl, hg, _, hbn⟩
          have hH2 := hH.below hbn
          replace hB := hB.trans (hbn.mono hB.size)
          try replace hnd := hnd.below hbn
          try replace hp1 := hp1.below hbn
          try replace hp2 := hp2.below hbn
          try replace a5 := a5.below hbn
          try replace a6 := a6.below hbn
          try replace hrow := (Kp.of_below hbn (fun _ => False)).own hrow (fun _ _ h => h)
          have hp2 := hnd.placey hg
          clear hg
          simp only
          refine hK.out _ _ hH2 (fun hH => ?_)
          clear hK K hH2 hbn
          rename World => Wc
          refine rdH 5 rfl (fun K hK => ?_)
          go_simp
          refine (HSM.out n HN.out _ _ _ _ _ _ _ hB hp1 hp2).mono ?_
          rintro e Wn ⟨As, cs, seam, x', y', lx', ly', pre2, suf2, rest, rfl, hsr, hrest, hrow, hbn⟩
          replace hrow := own_base hrow hB.size
          clear hp1 hp2
          have HSR := Lib.hid (And.intro hsr hrest)
          clear hsr hrest
          have hH2 := hH.below hbn
          replace hB := hB.trans (hbn.mono hB.size)
          try replace a5 := a5.below hbn
          try replace a6 := a6.below hbn
          clear hnd
          simp only
          refine hK.out _ _ hH2 (fun hH => ?_)
          clear hK K hH2 hbn
          rename World => Wc
          refine tkH ?_ 6 hH ?_ ?_; rotate_left
          · intro W' hS; go_simp; with_reducible rfl
          simp only [tkr]
          refine tkH ?_ 7 hH ?_ ?_; rotate_left
          · intro W' hS; go_simp; with_reducible rfl
          simp only [tkr]
          refine tkH ?_ 8 hH ?_ ?_; rotate_left
          · intro W' hS; go_simp; with_reducible rfl
          simp only [tkr]
          refine rdH 11 rfl (fun K hK => ?_)
          have c5 := a5.c0
          have f5 := a5.fz
          go_simp
          clear c5 f5
          have kz : Kp (fun z => z = z5) Wc (Wc.setCell ⟨z5, 0, none⟩ (.slice As seam.length cs)) := (Kp.refl (fun z => z = z5) Wc).setCell (.inl rfl) _
          have hH2 := hH.kp kz (by have := HZ.out; omega) (by omega)
          replace hB := hB.setCell (p := ⟨z5, 0, none⟩) g5 (.slice As seam.length cs)
          try replace a6 := a6.kp kz (fun e => n56 e.symm)
          replace hrow := kz.own hrow (fun q hq e => by
            obtain ⟨cur, e2⟩ := own_type hrow q hq
            have e3 : Wc.heap[z5]? = some _ := a5
            rw [e, e3] at e2
            simp only [Option.some.injEq, Obj.cells.injEq] at e2
            exact absurd e2.2.1 (by decide))
          replace a5 := a5.set (.slice As seam.length cs)
          clear kz
          generalize Wc.setCell _ _ = Wn at *
          refine hK.out _ _ hH2 (fun hH => ?_)
          clear hK K hH2
          rename World => Wc
          refine rdH 12 rfl (fun K hK => ?_)
          have c6 := a6.c0
          have f6 := a6.fz
          go_simp
          clear c6 f6
          have kz : Kp (fun z => z = z6) Wc (Wc.setCell ⟨z6, 0, none⟩ (.int .i64 (rest : Nat))) := (Kp.refl (fun z => z = z6) Wc).setCell (.inl rfl) _
          have hH2 := hH.kp kz (by have := HZ.out; omega) (by omega)
          replace hB := hB.setCell (p := ⟨z6, 0, none⟩) g6 (.int .i64 (rest : Nat))
          replace a5 := a5.kp kz n56
          replace hrow := kz.own hrow (fun q hq e => by
            obtain ⟨cur, e2⟩ := own_type hrow q hq
            have e3 : Wc.heap[z6]? = some _ := a6
            rw [e, e3] at e2
            simp only [Option.some.injEq, Obj.cells.injEq] at e2
            exact absurd e2.2.1 (by decide))
          replace a6 := a6.set (.int .i64 (rest : Nat))
          clear kz
          generalize Wc.setCell _ _ = Wn at *
          refine hK.out _ _ hH2 (fun hH => ?_)
          clear hK K hH2
          rename World => Wc
          refine wpAnyH_done (by kernel_rfl) ?_ _
          refine NoPanic.normal ?_
          go_wp2_with fail
          go_meet
          have e := HNE.out
          subst e
          exact ⟨z5, z6, As, cs, seam, x', y', lx', ly', pre2, suf2, rest, rfl, rfl, ⟨⟨hH.way, hH.nd, a5, a6⟩, HSR.out.1, HSR.out.2, hrow, hB, HZ.out.2.1, HZ.out.2.2, g5, g6⟩⟩
    case rest =>
      obtain ⟨z5, z6, As, cs, seam, x', y', lx', ly', pre2, suf2, rest, rfl, rfl, hwc⟩ := hcut
      have hseam : sumF seam ≤ seam.length := sumF_le seam (fun n hn => (hwc.sm.frs n hn).1)
      have hsl : seam.length ≤ 1024 := by have := hwc.sm.chain.len; have := HL.out; omega
      have HNS := Lib.hid (fun (W : World) (hW : Below wc.heap.size wc W) => wfresh As seam cs W (hwc.row.nl.below hW) (by omega) (fun n hn => (hwc.sm.frs n hn).1))
      have hcs : (sumF cl : Int) + (sumF seam : Int) = ((sumF cl + sumF seam : Nat) : Int) := by omega
      have hrg : -9223372036854775808 ≤ (sumF cl : Int) + (sumF seam : Int) ∧ (sumF cl : Int) + (sumF seam : Int) ≤ 9223372036854775807 := by have := HL.out; omega
      have W3 := Lib.hid (show wrap64 ((sumF cl : Int) + (sumF seam : Int)) = ((sumF cl + sumF seam : Nat) : Int) from (IntWalk.wrap64_in _ hrg).trans hcs)
      have W4 := Lib.hid (show IntKind.i64.wrap ((sumF cl : Int) + (sumF seam : Int)) = ((sumF cl + sumF seam : Nat) : Int) from (IntWalk.i64_in _ hrg).trans hcs)
      have l7 : ∀ W', WtK W' z1 z4 z5 z6 x (frN x.nd f) As cs seam.length rest → W'.cell? ⟨z1, 7, none⟩ = some (.slice x.A x.n x.c) := fun W' h => h.way.way.2.2.2.2.2.2.2.1
      have l5 : ∀ W', WtK W' z1 z4 z5 z6 x (frN x.nd f) As cs seam.length rest → W'.cell? ⟨z5, 0, none⟩ = some (.slice As seam.length cs) := fun W' h => h.sl.c0
      have HWC := Lib.hid hwc
      clear hseam hsl hcs hrg hwc hB2 hwb
      obtain ⟨need, hneed⟩ : ∃ need : Nat, need = sumF cl + sumF seam := ⟨_, rfl⟩
      have HDO2 := Lib.hid (fun (W : World) (hW : Below wc.heap.size wc W) => HDO.out W z1 z4 z5 z6 f hf1 As cs seam x' y' lx' ly' pre2 suf2 rest (HWC.out.below hW))
      rw [← hneed] at W3 W4 HDO2
      clear hneed
      go_upto_region 4 with fail
      have hbd : Below wc.heap.size wc wc.drew := (Below.refl _ wc).drew
      refine wp_region_noPanic ?_
      refine wp_region_held_drew (S := fun W' => WtK W' z1 z4 z5 z6 x (frN x.nd f) As cs seam.length rest) (by kernel_rfl) (HWC.out.wt.below hbd) (fun hH => ?_)
      generalize wc.drew = Wd at hH hbd ⊢
      clear Wc
      rename Below _ _ Wd => hB
      obtain ⟨Wc, hWc⟩ : ∃ Wc, Wc = Wd := ⟨_, rfl⟩
      rw [← hWc] at hH hB ⊢
      clear hWc Wd
      refine wpAnyH_take (i := 0) (v := yagg x) rfl (by kernel_rfl) (by kernel_rfl) (by kernel_rfl) (fun _ _ _ h => h) (Or.inl ⟨by rfl, fun W' hS => exec_way rfl rfl (WtK.way hS)⟩) hH ?_
      simp only [Act.put, List.setIfInBounds_toArray, List.set_cons_zero, List.set_cons_succ, List.getElem_toArray, List.getElem_cons_zero, List.getElem_cons_succ]
      refine tkH ?_ 1 hH ?_ ?_; rotate_left
      · intro W' hS; go_simp; with_reducible rfl
      simp only [tkr]
      refine tkH ?_ 2 hH ?_ ?_; rotate_left
      · intro W' hS; go_simp; with_reducible rfl
      simp only [tkr]
      refine tkH ?_ 4 hH ?_ ?_; rotate_left
      · intro W' hS; go_simp; with_reducible rfl
      simp only [tkr]
      refine wpAnyH_take (i := 7) (v := .func (.func 131) #[] #[.pointer (some ⟨z1, 0, none⟩), .pointer (some ⟨z4, 0, none⟩), .pointer (some ⟨z5, 0, none⟩), .pointer (some ⟨z6, 0, none⟩)]) rfl (by kernel_rfl) (by kernel_rfl) (by kernel_rfl) (fun _ _ _ h => h) (Or.inl ⟨by rfl, fun W' hS => by kernel_rfl⟩) hH ?_
      simp only [Act.put, List.setIfInBounds_toArray, List.set_cons_zero, List.set_cons_succ, List.getElem_toArray, List.getElem_cons_zero, List.getElem_cons_succ]
      refine rdH 3 rfl (fun K hK => ?_)
      go_simp
      refine (HNL.out _ (HWC.out.bel.trans (hB.mono HWC.out.bel.size))).mono ?_
      rintro e Wn ⟨rfl, hbn⟩
      have hH2 := hH.below hbn
      replace hB := hB.trans (hbn.mono hB.size)
      simp only
      refine hK.out _ _ hH2 (fun hH => ?_)
      clear hK K hH2 hbn
      rename World => Wc
      refine rdH 5 rfl (fun K hK => ?_)
      go_simp
      refine (HNS.out _ hB).mono ?_
      rintro e Wn ⟨rfl, hbn⟩
      have hH2 := hH.below hbn
      replace hB := hB.trans (hbn.mono hB.size)
      simp only
      have w3 := W3.out
      have w4 := W4.out
      refine hK.out _ _ hH2 (fun hH => ?_)
      clear hK K hH2 hbn
      rename World => Wc
      refine tkH ?_ 6 hH ?_ ?_; rotate_left
      · intro W' hS; go_simp; with_reducible rfl
      simp only [tkr]
      refine rdH 8 rfl (fun K hK => ?_)
      clear w3 w4
      go_simp
      first | rw [W3.out] | rw [W4.out] | skip
      refine (HDO2.out _ hB).mono ?_
      rintro e Wn ⟨v1, v2, rfl, hR, hH2⟩
      have HR := Lib.hid hR
      simp only
      refine hK.out _ _ hH2 (fun hH => ?_)
      clear hK K hR hH2
      rename World => Wc
      refine tkH ?_ 9 hH ?_ ?_; rotate_left
      · intro W' hS; go_simp; with_reducible rfl
      simp only [tkr]
      refine tkH ?_ 10 hH ?_ ?_; rotate_left
      · intro W' hS; go_simp; with_reducible rfl
      simp only [tkr]
      refine tkH ?_ 11 hH ?_ ?_; rotate_left
      · intro W' hS; go_simp; with_reducible rfl
      simp only [tkr]
      refine tkH ?_ 12 hH ?_ ?_; rotate_left
      · intro W' hS; go_simp; with_reducible rfl
      simp only [tkr]
      refine wpAnyH_done (by kernel_rfl) ?_ _
      refine NoPanic.normal ?_
      clear l7 l5
      go_wp2_with fail
      exact bodyPost_ret (v := .tuple #[v1, v2]) (by simp [results, Tryz.results80, go_sem]) rfl HR.out
end
end Go.Proofs.YtghbbpbhbinioaaGreat
