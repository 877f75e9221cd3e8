/- Several texts in one. -/
import Derived.Test.YtghbbpbhbinioaaGreatMr16
import Derived.IntWalk
import Derived.Test.YtghbbpbhbinioaaGreatMr18
namespace Go.Proofs.YtghbbpbhbinioaaGreat
set_option maxRecDepth 100000
set_option linter.unusedSimpArgs false
set_option linter.unusedVariables false
open Go.RowKit
structure SmQ (w W : World) (z3 z4 z5 : Nat) (x : Yv) (i s : Nat) (lo hi : Option Addr) (j t : Nat) (lo2 hi2 : Option Addr) (A : Option Addr) (c : Nat) (cl : List Nv) : Prop where
  way : BC W z3 146 (ycells x)
  less : BC W z4 141 (pcell4 i lo hi s)
  more : BC W z5 141 (pcell4 j lo2 hi2 t)
  row : OwnN W (z5 + 1) A c cl
  far : Below w.heap.size w W ∧ w.heap.size ≤ z3 ∧ z3 < z4 ∧ z4 < z5
section
variable {w W W' : World} {z3 z4 z5 i s j t c : Nat} {x : Yv} {lo hi lo2 hi2 A : Option Addr} {cl : List Nv}
theorem SmQ.below (h : SmQ w W z3 z4 z5 x i s lo hi j t lo2 hi2 A c cl) (hb : Below W.heap.size W W') : SmQ w W' z3 z4 z5 x i s lo hi j t lo2 hi2 A c cl :=
  ⟨h.way.below hb, h.less.below hb, h.more.below hb, (Kp.of_below hb (fun _ => False)).own h.row (fun _ _ h => h), h.far.1.trans (hb.mono h.far.1.size), h.far.2⟩
theorem SmQ.push {n : Nv} {A2 : Option Addr} {c2 : Nat} {W2 : World} (h : SmQ w W z3 z4 z5 x i s lo hi j t lo2 hi2 A c cl) (hk : Kp (fun q => (Value.slice A cl.length c).ownBlock = some q) W W2) (ho : W2.ownsRow (z5 + 1) 144 14 (.slice A2 (cl.length + 1) c2) (cl.length + 1) (cl.flatMap nlist ++ nlist n)) :
    SmQ w W2 z3 z4 z5 x i s lo hi j t lo2 hi2 A2 c2 (cl ++ [n]) := by
  obtain ⟨f0, f1, f2, f3⟩ := h.far
  have hlo : ∀ q, (Value.slice A cl.length c).ownBlock = some q → z5 + 1 ≤ q := fun q hq => (own_blk h.row q hq).1
  have n3 : ¬ (Value.slice A cl.length c).ownBlock = some z3 := fun e => by have := hlo _ e; omega
  have n4 : ¬ (Value.slice A cl.length c).ownBlock = some z4 := fun e => by have := hlo _ e; omega
  have n5 : ¬ (Value.slice A cl.length c).ownBlock = some z5 := fun e => by have := hlo _ e; omega
  have hlen : (cl ++ [n]).length = cl.length + 1 := by simp
  refine ⟨h.way.kp hk n3, h.less.kp hk n4, h.more.kp hk n5, ?_, ?_, f1, f2, f3⟩
  · show World.ownsRow _ _ _ 14 (.slice A2 (cl ++ [n]).length c2) _ _
    rw [hlen, List.flatMap_append]
    simpa using ho
  · exact ((Kp.of_below f0 (fun q => w.heap.size ≤ q)).trans hk (fun q hq => .inl (by have := hlo _ hq; omega))).below (fun _ h => h)
theorem SmQ.nov {q : Nat} (h : SmQ w W z3 z4 z5 x i s lo hi j t lo2 hi2 A c cl) (hq : (Value.slice A cl.length c).ownBlock = some q) : NoV W q := by
  obtain ⟨cur, e2⟩ := own_type h.row q hq
  exact ⟨_, _, e2, by decide⟩
theorem SmQ.less' {i' s' : Nat} {lo' hi' : Option Addr} (h : SmQ w W z3 z4 z5 x i s lo hi j t lo2 hi2 A c cl) (hq : BC W' z4 141 (pcell4 i' lo' hi' s')) (hk : Kp (fun q => q = z4) W W') : SmQ w W' z3 z4 z5 x i' s' lo' hi' j t lo2 hi2 A c cl := by
  obtain ⟨f0, f1, f2, f3⟩ := h.far
  exact ⟨h.way.kp hk (by omega), hq, h.more.kp hk (by omega), hk.own h.row (fun q hq e => by have := (own_blk h.row q hq).1; omega), ((Kp.of_below f0 (fun q => w.heap.size ≤ q)).trans hk (fun q e => .inl (by omega))).below (fun _ h => h), f1, f2, f3⟩
theorem SmQ.more' {j' t' : Nat} {lo' hi' : Option Addr} (h : SmQ w W z3 z4 z5 x i s lo hi j t lo2 hi2 A c cl) (hq : BC W' z5 141 (pcell4 j' lo' hi' t')) (hk : Kp (fun q => q = z5) W W') : SmQ w W' z3 z4 z5 x i s lo hi j' t' lo' hi' A c cl := by
  obtain ⟨f0, f1, f2, f3⟩ := h.far
  exact ⟨h.way.kp hk (by omega), h.less.kp hk (by omega), hq, hk.own h.row (fun q hq e => by have := (own_blk h.row q hq).1; omega), ((Kp.of_below f0 (fun q => w.heap.size ≤ q)).trans hk (fun q e => .inl (by omega))).below (fun _ h => h), f1, f2, f3⟩
theorem Pl.kpt {M : Cells} {G : Nat → Prop} {l : List Pr} (h : Pl M W i s lo hi l) (hk : Kp G W W') (hG : ∀ q, G q → NoV W q) : Pl M W' i s lo hi l := ⟨h.tree, h.low.kpt hk hG, h.high.kpt hk hG, h.shared⟩
end
theorem BC.setP {W : World} {z i s : Nat} {lo hi : Option Addr} (h : BC W z 141 (pcell4 i lo hi s)) (i' s' : Nat) (lo' hi' : Option Addr) :
    BC ((((W.setCell ⟨z, 0, none⟩ (.int .i64 (i' : Nat))).setCell ⟨z, 1, none⟩ (.pointer lo')).setCell ⟨z, 2, none⟩ (.pointer hi')).setCell ⟨z, 3, none⟩ (.int .i64 (s' : Nat))) z 141 (pcell4 i' lo' hi' s') ∧
    Kp (fun q => q = z) W ((((W.setCell ⟨z, 0, none⟩ (.int .i64 (i' : Nat))).setCell ⟨z, 1, none⟩ (.pointer lo')).setCell ⟨z, 2, none⟩ (.pointer hi')).setCell ⟨z, 3, none⟩ (.int .i64 (s' : Nat))) := by
  have h1 := (((h.set 0 (.int .i64 (i' : Nat))).set 1 (.pointer lo')).set 2 (.pointer hi')).set 3 (.int .i64 (s' : Nat))
  simp only [List.setIfInBounds_toArray, List.set_cons_zero, List.set_cons_succ] at h1
  exact ⟨h1, ((((Kp.refl (fun q => q = z) W).setCell (.inl rfl) _).setCell (.inl rfl) _).setCell (.inl rfl) _).setCell (.inl rfl) _⟩
structure SeamR (M : Cells) (k : Ky) (ow : Int) (ix iy : Nat) (lx ly : List Pr) (cl : List Nv) (x' y' : Nat) (lx' ly' pre suf : List Pr) : Prop where
  chain : Ch M k cl ix iy lx ly x' y' lx' ly' pre suf
  frs : ∀ n ∈ cl, n.fresh ≤ 1 ∧ (ow = 0 → n.fresh = 1)
  low : ∀ p ∈ lx', klt h0 p.1 k
  high : ∀ p ∈ ly', klt h0 k p.1
section
variable {most : Nat} {M : Cells} {F : Nat → Prop}
set_option maxHeartbeats 8000000 in
theorem vseam (x : Yv) (ix sx iy sy : Nat) (lox hix loy hiy : Option Addr) (lx ly : List Pr) (k : Ky) (w : World) (h : Ar w x.b most M F) (hz : M 0 = none) (hpx : Pl M w ix sx lox hix lx) (hpy : Pl M w iy sy loy hiy ly) (hlo : ∀ p ∈ lx, klt h0 p.1 k) (hhi : ∀ p ∈ ly, klt h0 k p.1) (hl : lx.length + ly.length ≤ 1024) :
    Calls Tryz.prog 130 #[yagg x, plagg ix lox hix sx, plagg iy loy hiy sy] w fun e w' => ∃ A c cl x' y' lx' ly' pre suf rest, e = .returned (.tuple #[.slice A cl.length c, .int .i64 (rest : Nat)]) ∧ SeamR M k x.ow ix iy lx ly cl x' y' lx' ly' pre suf ∧ (x' = 0 ∧ rest = y' ∨ y' = 0 ∧ rest = x') ∧ OwnN w' w.heap.size A c cl ∧ Below w.heap.size w w' := by
  obtain ⟨W0, hW0⟩ : ∃ W0, W0 = ((w.alloc (.cells (ycells x) 146)).alloc (.cells (pcell4 ix lox hix sx) 141)).alloc (.cells (pcell4 iy loy hiy sy) 141) := ⟨_, rfl⟩
  have hb0 : Below w.heap.size w W0 := by rw [hW0]; exact (((Below.refl _ w).alloc (Nat.le_refl _) _).alloc (by simp) _).alloc (by simp; omega) _
  have hq : SmQ w W0 w.heap.size (w.heap.size + 1) (w.heap.size + 1 + 1) x ix sx lox hix iy sy loy hiy none 0 [] := by
    refine ⟨?_, ?_, ?_, World.ownsRow_nil _ _ _ _, hb0, by omega, by omega, by omega⟩
    · rw [hW0]; exact ((BC.new w _ _).alloc _).alloc _
    · have := (BC.new (w.alloc (.cells (ycells x) 146)) 141 (pcell4 ix lox hix sx)).alloc (.cells (pcell4 iy loy hiy sy) 141)
      rw [hW0]; simpa using this
    · have := BC.new ((w.alloc (.cells (ycells x) 146)).alloc (.cells (pcell4 ix lox hix sx) 141)) 141 (pcell4 iy loy hiy sy)
      rw [hW0]; simpa using this
  have HRD := Lib.hid (fun (i s : Nat) (lo hi : Option Addr) (l' : List Pr) (W : World) (hW : Below w.heap.size w W) (hp : Pl M W i s lo hi l') => tread_way x i s lo hi W (h := h.below hW) hz hp)
  have HPL := Lib.hid (And.intro (hpx.below hb0) (hpy.below hb0))
  have HL := Lib.hid (And.intro hlo (And.intro hhi hl))
  have HT := Lib.hid (And.intro hpx.tree hpy.tree)
  have HQ := Lib.hid hq
  have HW0 := Lib.hid hW0
  clear h hz hpx hpy hlo hhi hl hW0 hb0 hq
  go_enter Tryz.func130, Tryz.ntmps130
  go_upto_region 1 with fail
  rw [← HW0.out]
  clear HW0
  obtain ⟨z3, hz3⟩ : ∃ z, z = w.heap.size := ⟨_, rfl⟩
  obtain ⟨z4, hz4⟩ : ∃ z, z = w.heap.size + 1 := ⟨_, rfl⟩
  obtain ⟨z5, hz5⟩ : ∃ z, z = w.heap.size + 1 + 1 := ⟨_, rfl⟩
  rw [← hz5, ← hz4] at HQ ⊢
  have HZ := Lib.hid hz3
  have HQ' := Lib.hid (show SmQ w W0 z3 z4 z5 x ix sx lox hix iy sy loy hiy none 0 [] by rw [hz3]; exact HQ.out)
  rw [← hz3]
  clear HQ hz3 hz4 hz5
  go_wp2_with fail
  go_loopg [8] (lx.length + ly.length) (fun c' s8 wr => ∃ A c cl x' y' lx' ly' pre suf s lo hi t lo2 hi2, s8 = .slice A cl.length c ∧ lx'.length + ly'.length = c' ∧ SmQ w wr z3 z4 z5 x x' s lo hi y' t lo2 hi2 A c cl ∧ Pl M wr x' s lo hi lx' ∧ Pl M wr y' t lo2 hi2 ly' ∧ SeamR M k x.ow ix iy lx ly cl x' y' lx' ly' pre suf)
  case atStart => exact ⟨none, 0, [], ix, iy, lx, ly, [], [], sx, lox, hix, sy, loy, hiy, rfl, rfl, HQ'.out, HPL.out.1, HPL.out.2, ⟨.nil HT.out.1 HT.out.2, fun _ h => (by cases h), HL.out.1, HL.out.2.1⟩⟩
  case round =>
    clear HQ' HPL
    obtain ⟨A, c, cl, x', y', lx', ly', pre, suf, s, lo, hi, t, lo2, hi2, rfl, hlj, hsq, hp1, hp2, hsr⟩ := hrel
    have HRW := Lib.hid (show ∀ q, (Value.slice A cl.length c).ownBlock = some q → q < wr.heap.size from fun q hq => (own_blk hsq.row q hq).2)
    have HQ := Lib.hid hsq
    have HP := Lib.hid (And.intro hp1 hp2)
    have HS := Lib.hid hsr
    have HJ := Lib.hid hlj
    have HWL := Lib.hid (show cl.length ≤ 1024 by have := hsr.chain.len; have := HL.out.2.2; omega)
    clear hsq hp1 hp2 hsr hlj
    obtain ⟨p0, p1, p2, p3⟩ := HQ.out.less.place
    go_wp2_with (refine wpList_load_whole rfl _ _ rfl z3 _ rfl (ycells x) _ HQ.out.way Tryz.underlying146 rfl way_size ?_)
    refine (HRD.out x' s lo hi lx' _ HQ.out.far.1 HP.out.1).mono ?_
    rintro e w2 ⟨n, ok, rfl, hrp, hfr, hb2⟩
    have hb3 : Below wr.heap.size wr (w2.alloc (.cells (ncells n) 144)) := hb2.trans (((Below.refl _ w2).alloc (Nat.le_refl _) _).mono hb2.size)
    have HQ2 := Lib.hid (HQ.out.below hb3)
    have HP2 := Lib.hid (And.intro (HP.out.1.below hb3) (HP.out.2.below hb3))
    have HN2 := Lib.hid (And.intro (BC.new w2 144 (ncells n)) hb2.size)
    have HR2 := Lib.hid (And.intro (hrp.below ((Below.refl _ w2).alloc (Nat.le_refl _) (.cells (ncells n) 144))) hfr)
    clear hb2 hb3 hrp hfr HQ HP p0 p1 p2 p3
    have q9 := BC.new w2 144 (ncells nzero)
    obtain ⟨f0, f1, f2, f3, f4, f5, f6, f7, f8, f9, f10, f11, f12, f13⟩ := q9.fz14
    obtain ⟨c0, c1, c2, c3, c4, c5, c6, c7, c8, c9, c10, c11, c12, c13⟩ := q9.node
    clear q9
    simp only at c0 c1 c2 c3 c4 c5 c6 c7 c8 c9 c10 c11 c12 c13
    have h8 := HR2.out
    rcases h8.1 with ⟨rfl, h5, h6, -⟩ | ⟨rfl, h5, -, -, -, la, lb, h7⟩
    · have HX := Lib.hid (And.intro h5 h6)
      clear h5 h6 h8
      go_upto_region 4 with fail
      clear f0 f1 f2 f3 f4 f5 f6 f7 f8 f9 f10 f11 f12 f13 c0 c1 c2 c3 c4 c5 c6 c7 c8 c9 c10 c11 c12 c13
      change Code.wp _ _ _ _ (w2.alloc (.cells (ncells n) 144))
      generalize w2.alloc _ = W3 at HQ2 HP2 HN2 HR2 ⊢
      have HQE := HQ2
      have y0 := HQ2.out.more.place.1
      go_quiet (fail)
      go_wp2_with fail
      go_ret2
      exact ⟨A, c, cl, x', y', lx', ly', pre, suf, y', rfl, HS.out, .inl ⟨HX.out.1, rfl⟩, own_base HQE.out.row (by have h1 := HQE.out.far; omega), (by have h1 := HQE.out.far.1; exact ⟨h1.os, h1.tape, h1.output, h1.size, h1.block⟩)⟩
    · have HX := Lib.hid (And.intro h5.symm h7.eq)
      have HND := Lib.hid h7
      have HF1 := Lib.hid (h8.2 rfl)
      clear h5 h7 h8 HR2
      go_upto_region 5 with fail
      clear f0 f1 f2 f3 f4 f5 f6 f7 f8 f9 f10 f11 f12 f13 c0 c1 c2 c3 c4 c5 c6 c7 c8 c9 c10 c11 c12 c13
      change Code.wp _ _ _ _ (w2.alloc (.cells (ncells n) 144))
      obtain ⟨z9, hz9⟩ : ∃ z, z = w2.heap.size := ⟨_, rfl⟩
      rw [← hz9] at HN2 ⊢
      clear hz9
      generalize w2.alloc _ = W3 at HQ2 HP2 HN2 HND ⊢
      obtain ⟨p0, p1, p2, p3⟩ := HQ2.out.more.place
      go_wp2_with (refine wpList_load_whole rfl _ _ rfl z3 _ rfl (ycells x) _ HQ2.out.way Tryz.underlying146 rfl way_size ?_)
      refine (HRD.out y' t lo2 hi2 ly' _ HQ2.out.far.1 HP2.out.2).mono ?_
      rintro e w4 ⟨m, ok2, rfl, hrp, hfr, hb2⟩
      have hb3 : Below W3.heap.size W3 (w4.alloc (.cells (ncells m) 144)) := hb2.trans (((Below.refl _ w4).alloc (Nat.le_refl _) _).mono hb2.size)
      have HQ6 := Lib.hid (HQ2.out.below hb3)
      have HPL6 := Lib.hid (And.intro (HP2.out.1.below hb3) (HP2.out.2.below hb3))
      have HB9 := Lib.hid (And.intro (HN2.out.1.below hb3) (BC.new w4 144 (ncells m)))
      have HZ9 := Lib.hid (And.intro HN2.out.2 (show wr.heap.size ≤ w4.heap.size by have h1 := hb2.size; have h2 := HN2.out.1.lt; have h3 := HN2.out.2; omega))
      have HND6 := Lib.hid (HND.out.below hb3)
      have HR2 := Lib.hid (And.intro (hrp.below ((Below.refl _ w4).alloc (Nat.le_refl _) (.cells (ncells m) 144))) hfr)
      clear hb2 hb3 hrp hfr HQ2 HP2 HN2 HND p0 p1 p2 p3
      have q9 := BC.new w4 144 (ncells nzero)
      obtain ⟨f0, f1, f2, f3, f4, f5, f6, f7, f8, f9, f10, f11, f12, f13⟩ := q9.fz14
      obtain ⟨c0, c1, c2, c3, c4, c5, c6, c7, c8, c9, c10, c11, c12, c13⟩ := q9.node
      clear q9
      simp only at c0 c1 c2 c3 c4 c5 c6 c7 c8 c9 c10 c11 c12 c13
      have h8 := HR2.out
      rcases h8.1 with ⟨rfl, h5, h6, -⟩ | ⟨rfl, h5, -, -, -, la2, lb2, h7⟩
      · have HY := Lib.hid (And.intro h5 h6)
        clear h5 h6 h8
        go_upto_region 7 with fail
        clear f0 f1 f2 f3 f4 f5 f6 f7 f8 f9 f10 f11 f12 f13 c0 c1 c2 c3 c4 c5 c6 c7 c8 c9 c10 c11 c12 c13
        change Code.wp _ _ _ _ (w4.alloc (.cells (ncells m) 144))
        generalize w4.alloc _ = W5 at HQ6 HPL6 HR2 ⊢
        have HQE := HQ6
        have y0 := HQ6.out.less.place.1
        go_quiet (fail)
        go_wp2_with fail
        go_ret2
        exact ⟨A, c, cl, x', y', lx', ly', pre, suf, x', rfl, HS.out, .inr ⟨HY.out.1, rfl⟩, own_base HQE.out.row (by have h1 := HQE.out.far; omega), (by have h1 := HQE.out.far.1; exact ⟨h1.os, h1.tape, h1.output, h1.size, h1.block⟩)⟩
      · have HY := Lib.hid (And.intro h5.symm h7.eq)
        have HMD6 := Lib.hid h7
        have HFR := Lib.hid (And.intro HF1.out (h8.2 rfl))
        clear h5 h7 h8 HR2 HF1
        go_upto_region 8 with fail
        clear f0 f1 f2 f3 f4 f5 f6 f7 f8 f9 f10 f11 f12 f13 c0 c1 c2 c3 c4 c5 c6 c7 c8 c9 c10 c11 c12 c13
        change Code.wp _ _ _ _ (w4.alloc (.cells (ncells m) 144))
        obtain ⟨z11, hz11⟩ : ∃ z, z = w4.heap.size := ⟨_, rfl⟩
        rw [← hz11] at HB9 HZ9 ⊢
        clear hz11
        generalize w4.alloc _ = W5 at HQ6 HPL6 HB9 HND6 HMD6 ⊢
        go_wp2_with (first | (refine wpList_load_whole rfl _ _ rfl z9 _ rfl (ncells n) _ HB9.out.1 Tryz.underlying144 rfl node_size ?_) | (refine wpList_load_whole rfl _ _ rfl z11 _ rfl (ncells m) _ HB9.out.2 Tryz.underlying144 rfl node_size ?_))
        refine (nabove n m _).mono ?_
        rintro e w6 ⟨⟨ans, rfl⟩, hb6⟩
        replace HQ6 := Lib.hid (HQ6.out.below hb6)
        replace HPL6 := Lib.hid (And.intro (HPL6.out.1.below hb6) (HPL6.out.2.below hb6))
        replace HB9 := Lib.hid (And.intro (HB9.out.1.below hb6) (HB9.out.2.below hb6))
        replace HND6 := Lib.hid (HND6.out.below hb6)
        replace HMD6 := Lib.hid (HMD6.out.below hb6)
        clear hb6
        cases ans
        · obtain ⟨i1, hi1, hy0, hy1, hy2⟩ := info_parts ninfo
          have HI1 := Lib.hid hi1
          clear hi1
          go_wp2_with (first | (refine wpList_load_whole rfl _ _ rfl z11 _ rfl (ncells m) _ HB9.out.2 Tryz.underlying144 rfl node_size ?_) | (at_builtin; refine wpList_append_rd rfl _ _ 137 rfl (z5 + 1) 144 i1 _ 14 128 Tryz.underlying137 HI1.out hy0 hy1 hy2 rfl (by decide) (.slice A cl.length c) cl.length (cl.flatMap nlist) rfl ((Kp.of_below ((Below.refl _ w6).alloc (Nat.le_refl _) _) (fun _ => False)).own HQ6.out.row (fun _ _ h => h)) _ 1 (nlist m) rfl (rd14 _ _ _) rfl (nlist_one m) (by unfold maxLen; have := HWL.out; omega) (by have := HWL.out; omega) (by have := HQ6.out.more.lt; simp; omega) ?_))
          intro v2 W7 hown hgr hat
          obtain ⟨A2, c2, rfl, _⟩ := (Rd.of_own hown).form
          have kp2 : Kp (fun q => (Value.slice A cl.length c).ownBlock = some q) w6 W7 := ((Kp.refl _ w6).alloc _).trans (Kp.of_grown hgr (fun q hq => .inl hq)) (fun _ => .inl)
          have HQ7 := Lib.hid (HQ6.out.push kp2 hown)
          have hnv : ∀ q, (Value.slice A cl.length c).ownBlock = some q → NoV w6 q := fun q hq => HQ6.out.nov hq
          have HND7 := Lib.hid (HND6.out.kpt kp2 hnv)
          have HMD7 := Lib.hid (HMD6.out.kpt kp2 hnv)
          have HPL7 := Lib.hid (And.intro (HPL6.out.1.kpt kp2 hnv) (HPL6.out.2.kpt kp2 hnv))
          have HB7 := Lib.hid ((HB9.out.2).kp kp2 (fun e => by have h1 := HRW.out _ e; have h2 := HZ9.out; omega))
          clear hown hgr hat kp2 hnv HI1 hy0 hy1 hy2 HB9 HND6 HMD6 HPL6 HQ6
          obtain ⟨p0, p1, p2, p3⟩ := HQ7.out.more.place
          have g0 := HQ7.out.more.fz 0
          have g1 := HQ7.out.more.fz 1
          have g2 := HQ7.out.more.fz 2
          have g3 := HQ7.out.more.fz 3
          go_wp2_with (refine wpList_load_whole rfl _ _ rfl z11 _ rfl (ncells m) _ HB7.out Tryz.underlying144 rfl node_size ?_)
          clear p0 p1 p2 p3 g0 g1 g2 g3
          refine (nbelow0 m W7).mono ?_
          rintro e W8 ⟨g, rfl, hg, hgl, hb8⟩
          have HQ8 := Lib.hid (HQ7.out.below hb8)
          have hpl := (HMD7.out.below hb8).placex hg
          have HP8 := Lib.hid (And.intro hpl (HPL7.out.1.below hb8))
          have HN8 := Lib.hid (And.intro (HND7.out.below hb8) (HMD7.out.below hb8))
          clear hg hgl hb8 hpl HQ7 HND7 HMD7 HPL7 HB7
          obtain ⟨p0, p1, p2, p3⟩ := HQ8.out.more.place
          have g0 := HQ8.out.more.fz 0
          have g1 := HQ8.out.more.fz 1
          have g2 := HQ8.out.more.fz 2
          have g3 := HQ8.out.more.fz 3
          go_wp2_with fail
          clear p0 p1 p2 p3 g0 g1 g2 g3
          have hst := HQ8.out.more.setP m.kx m.fresh m.low (some ⟨g, 0, none⟩)
          have HQ9 := HQ8.out.more' hst.1 hst.2
          have hnv : ∀ q, q = z5 → NoV W8 q := fun q e => e ▸ HQ8.out.more.nov (by decide)
          have hp9 := HP8.out.1.kpt hst.2 hnv
          have hp9' := HP8.out.2.kpt hst.2 hnv
          clear hst hnv
          have hch := HS.out.chain
          rw [HY.out.1, HY.out.2] at hch
          have hhigh := HS.out.high
          have hnk : klt h0 k m.key := hhigh (m.key, m.val) (by rw [HY.out.2]; simp)
          have hsn := hch.snoc_y HN8.out.2.node hnk HN8.out.2.treex HN8.out.2.treey (HS.out.chain.endx)
          go_roundg (lx'.length + la2.length)
          case measure => have h1 := HJ.out; rw [HY.out.2] at h1; simp at h1; omega
          case rel => exact ⟨A2, c2, cl ++ [m], x', m.kx, lx', la2, _, _, s, lo, hi, m.fresh, m.low, _, by rw [List.length_append]; rfl, rfl, HQ9, hp9', hp9, ⟨hsn, fun q hq => (List.mem_append.1 hq).elim (HS.out.frs q) (fun hq => by rw [List.mem_singleton.1 hq]; exact ⟨HN8.out.2.fresh, HFR.out.2⟩), HS.out.low, fun p hp => hhigh p (by rw [HY.out.2]; simp [hp])⟩⟩
        · obtain ⟨i1, hi1, hy0, hy1, hy2⟩ := info_parts ninfo
          have HI1 := Lib.hid hi1
          clear hi1
          go_wp2_with (first | (refine wpList_load_whole rfl _ _ rfl z9 _ rfl (ncells n) _ HB9.out.1 Tryz.underlying144 rfl node_size ?_) | (at_builtin; refine wpList_append_rd rfl _ _ 137 rfl (z5 + 1) 144 i1 _ 14 128 Tryz.underlying137 HI1.out hy0 hy1 hy2 rfl (by decide) (.slice A cl.length c) cl.length (cl.flatMap nlist) rfl ((Kp.of_below ((Below.refl _ w6).alloc (Nat.le_refl _) _) (fun _ => False)).own HQ6.out.row (fun _ _ h => h)) _ 1 (nlist n) rfl (rd14 _ _ _) rfl (nlist_one n) (by unfold maxLen; have := HWL.out; omega) (by have := HWL.out; omega) (by have := HQ6.out.more.lt; simp; omega) ?_))
          intro v2 W7 hown hgr hat
          obtain ⟨A2, c2, rfl, _⟩ := (Rd.of_own hown).form
          have kp2 : Kp (fun q => (Value.slice A cl.length c).ownBlock = some q) w6 W7 := ((Kp.refl _ w6).alloc _).trans (Kp.of_grown hgr (fun q hq => .inl hq)) (fun _ => .inl)
          have HQ7 := Lib.hid (HQ6.out.push kp2 hown)
          have hnv : ∀ q, (Value.slice A cl.length c).ownBlock = some q → NoV w6 q := fun q hq => HQ6.out.nov hq
          have HND7 := Lib.hid (HND6.out.kpt kp2 hnv)
          have HMD7 := Lib.hid (HMD6.out.kpt kp2 hnv)
          have HPL7 := Lib.hid (And.intro (HPL6.out.1.kpt kp2 hnv) (HPL6.out.2.kpt kp2 hnv))
          have HB7 := Lib.hid ((HB9.out.1).kp kp2 (fun e => by have h1 := HRW.out _ e; have h2 := HZ9.out; omega))
          clear hown hgr hat kp2 hnv HI1 hy0 hy1 hy2 HB9 HND6 HMD6 HPL6 HQ6
          obtain ⟨p0, p1, p2, p3⟩ := HQ7.out.less.place
          have g0 := HQ7.out.less.fz 0
          have g1 := HQ7.out.less.fz 1
          have g2 := HQ7.out.less.fz 2
          have g3 := HQ7.out.less.fz 3
          go_wp2_with (refine wpList_load_whole rfl _ _ rfl z9 _ rfl (ncells n) _ HB7.out Tryz.underlying144 rfl node_size ?_)
          clear p0 p1 p2 p3 g0 g1 g2 g3
          refine (nbelow1 n W7).mono ?_
          rintro e W8 ⟨g, rfl, hg, hgl, hb8⟩
          have HQ8 := Lib.hid (HQ7.out.below hb8)
          have hpl := (HND7.out.below hb8).placey hg
          have HP8 := Lib.hid (And.intro hpl (HPL7.out.2.below hb8))
          have HN8 := Lib.hid (And.intro (HND7.out.below hb8) (HMD7.out.below hb8))
          clear hg hgl hb8 hpl HQ7 HND7 HMD7 HPL7 HB7
          obtain ⟨p0, p1, p2, p3⟩ := HQ8.out.less.place
          have g0 := HQ8.out.less.fz 0
          have g1 := HQ8.out.less.fz 1
          have g2 := HQ8.out.less.fz 2
          have g3 := HQ8.out.less.fz 3
          go_wp2_with fail
          clear p0 p1 p2 p3 g0 g1 g2 g3
          have hst := HQ8.out.less.setP n.ky n.fresh (some ⟨g, 0, none⟩) n.high
          have HQ9 := HQ8.out.less' hst.1 hst.2
          have hnv : ∀ q, q = z4 → NoV W8 q := fun q e => e ▸ HQ8.out.less.nov (by decide)
          have hp9 := HP8.out.1.kpt hst.2 hnv
          have hp9' := HP8.out.2.kpt hst.2 hnv
          clear hst hnv
          have hch := HS.out.chain
          rw [HX.out.1, HX.out.2] at hch
          have hlow := HS.out.low
          have hnk : klt h0 n.key k := hlow (n.key, n.val) (by rw [HX.out.2]; simp)
          have hsn := hch.snoc_r HN8.out.1.node hnk HN8.out.1.treex HN8.out.1.treey (HS.out.chain.endy)
          go_roundg (lb.length + ly'.length)
          case measure => have h1 := HJ.out; rw [HX.out.2] at h1; simp at h1; omega
          case rel => exact ⟨A2, c2, cl ++ [n], n.ky, y', lb, ly', _, _, n.fresh, _, n.high, t, lo2, hi2, by rw [List.length_append]; rfl, rfl, HQ9, hp9, hp9', ⟨hsn, fun q hq => (List.mem_append.1 hq).elim (HS.out.frs q) (fun hq => by rw [List.mem_singleton.1 hq]; exact ⟨HN8.out.1.fresh, HFR.out.1⟩), fun p hp => hlow p (by rw [HX.out.2]; simp [hp]), HS.out.high⟩⟩
end
end Go.Proofs.YtghbbpbhbinioaaGreat

namespace Go.Proofs.YtghbbpbhbinioaaGreat
set_option maxRecDepth 100000
set_option linter.unusedSimpArgs false
set_option linter.unusedVariables false
open Go.RowKit
structure WtK (W : World) (zw zn zs zr : Nat) (x : Yv) (n : Nv) (As : Option Addr) (cs ns rest : Nat) : Prop where
  way : BC W zw 146 (ycells x)
  nd : BC W zn 144 (ncells n)
  sl : C1 W zs 137 (.slice As ns cs)
  rst : C1 W zr 3 (.int .i64 (rest : Nat))
section
variable {W W' : World} {zw zn zs zr cs ns rest : Nat} {x : Yv} {n : Nv} {As : Option Addr}
theorem WtK.kp {G : Nat → Prop} (h : WtK W zw zn zs zr x n As cs ns rest) (hk : Kp G W W') (h1 : ¬ G zw) (h2 : ¬ G zn) (h3 : ¬ G zs) (h4 : ¬ G zr) : WtK W' zw zn zs zr x n As cs ns rest := ⟨h.way.kp hk h1, h.nd.kp hk h2, h.sl.kp hk h3, h.rst.kp hk h4⟩
theorem WtK.below (h : WtK W zw zn zs zr x n As cs ns rest) (hb : Below W.heap.size W W') : WtK W' zw zn zs zr x n As cs ns rest := h.kp (Kp.of_below hb (fun _ => False)) id id id id
theorem WtK.lt (h : WtK W zw zn zs zr x n As cs ns rest) : zw < W.heap.size ∧ zn < W.heap.size ∧ zs < W.heap.size ∧ zr < W.heap.size := ⟨h.way.lt, h.nd.lt, h.sl.lt, h.rst.lt⟩
theorem BC.nkids {z : Nat} (h : BC W z 144 (ncells n)) : W.rangeAt z 11 [.int .i64 (n.kx : Nat), .int .i64 (n.ky : Nat)] := fun j v hv => by
  refine h.at ?_
  match j, hv with
  | 0, hv => exact hv
  | 1, hv => exact hv
end
theorem keepC_other {M : Cells} {i j : Nat} (h : j ≠ i) : keepC M i j = M j := by
  unfold keepC
  cases e : M i with
  | none => rfl
  | some y => exact upd_other _ _ h
theorem StpX.rny {w w' : World} {b most : Nat} {M' : Cells} {F X : Nat → Prop} (h : StpX w w' b most M' F X) : RnY w w' b most M' F X (Fn F w w') := ⟨h.ar, h.kp, fun q hq => hq.elim .inl (fun h => .inr h.1)⟩
theorem two_size : (Tryz.prog.info? 142).map (·.size) = some 2 := by kernel_rfl
section
theorem vtake4 (rest zr : Nat) (w : World) (hr : C1 w zr 3 (.int .i64 (rest : Nat))) :
    Calls Tryz.prog 133 #[.pointer (some ⟨zr, 0, none⟩)] w fun e w' => e = .returned (.int .i64 (rest : Nat)) ∧ w = w' := by
  have c0 := hr.c0
  clear hr
  go_enter Tryz.func133, Tryz.ntmps133
  go_wp2_with fail
  go_ret
  exact ⟨rfl, rfl⟩
def kM (M : Cells) (n : Nv) : Nat → Cells
  | 0 => M
  | 1 => keepC M n.kx
  | _ => keepC (keepC M n.kx) n.ky
end
section
variable {most : Nat} {M : Cells} {H : List Nat} {P : Nat → Nat} {F : Nat → Prop}
set_option maxHeartbeats 8000000 in
theorem ttake_end (x : Yv) (n : Nv) (zw zn zs zr cs rest : Nat) (As : Option Addr) (seam : List Nv) (la lb lx' ly' pre suf : List Pr) (x' y' : Nat) (w : World) (h : Ar w x.b most M F) (hm : most ≤ 1048576) (hb : Bk (most + 1) M H P [n.cell]) (hP : ∀ j, P j + 64 * seam.length + 1 ≤ 1152921504606846976)
    (hs : WtK w zw zn zs zr x n As cs seam.length rest) (nF : ¬ F zw ∧ ¬ F zn ∧ ¬ F zs ∧ ¬ F zr) (hnl : NL w As seam) (hnb : ∀ a, As = some a → seam ≠ [] → ¬ F a.block) (hcap : seam.length ≤ cs) (hsl : seam.length ≤ 1100)
    (hN : NdN (blank M H) n) (hch : Ch (blank M H) x.key seam n.kx n.ky la lb x' y' lx' ly' pre suf) (hrest : x' = 0 ∧ rest = y' ∨ y' = 0 ∧ rest = x') (hsrt : Srt h0 (la ++ lb)) (hroom : live (most + 1) M + seam.length ≤ most) :
    Calls Tryz.prog 132 #[.pointer (some ⟨zn, 0, none⟩), .pointer (some ⟨zw, 0, none⟩), .pointer (some ⟨zs, 0, none⟩), .pointer (some ⟨zr, 0, none⟩)] w fun e w' => ∃ (m : Nat) (M' : Cells), e = .returned (.int .i64 (m : Nat)) ∧ TR most M H P (la ++ lb) seam.length m M' ∧ StpX w w' x.b most M' F (fun _ => False) := by
  have hF : ∀ q, F q → q < w.heap.size := fun q hq => h.lt hq
  obtain ⟨c0, r0, hN0⟩ := hN
  have hiH := (hb.hand (i := n.cell) (by simp) hN0.ne).2
  have hMi : M n.cell = some (c0, r0) := by have := hN0.cell; rwa [blank_out hiH] at this
  have hkid : ∀ k ∈ [n.kx, n.ky], k ≠ 0 → M k ≠ none ∧ k ∉ H := fun k hk h0 => hb.kid hiH hMi (by rw [hN0.kids]; exact hk) h0
  have hB1 : Bk (most + 1) (keepC M n.kx) H P [n.kx, n.cell] := hb.keep (fun h0 => hkid _ (by simp) h0)
  have hB2 : Bk (most + 1) (keepC (keepC M n.kx) n.ky) H P [n.ky, n.kx, n.cell] := hB1.keep (fun h0 => ⟨fun e => (hkid n.ky (by simp) h0).1 (keepC_none.1 e), (hkid n.ky (by simp) h0).2⟩)
  have hall : ∀ x c q, M x = some (c, q) → ∃ q', keepC (keepC M n.kx) n.ky x = some (c, q') := fun x c q e => by
    obtain ⟨q1, e1⟩ := all_keepC (i := n.kx) x c q e
    exact all_keepC (i := n.ky) x c q1 e1
  have hrf : ∀ (M' : Cells) (hs : List Nat), Bk (most + 1) M' H P hs → hs.length ≤ 3 → ∀ j, rf (M' j) ≤ 4611686018427387904 := fun M' hs hb' hl j => by
    have h1 := hb'.rfb j
    have h2 := hP j
    have h3 : hs.count j ≤ hs.length := List.count_le_length
    have h4 : (most + 1) * 64 ≤ 1048577 * 64 := Nat.mul_le_mul_right _ (by omega)
    omega
  have hz := hb.zero
  have hhole : ∀ y ∈ H, keepC (keepC M n.kx) n.ky y = M y := fun y hy => by
    have hne : ∀ k ∈ [n.kx, n.ky], k ≠ 0 → y ≠ k := fun k hk h0 e => (hkid k hk h0).2 (e ▸ hy)
    have hy0 : y ≠ 0 := fun e => by
      have h1 := (hb.hole y hy).2
      rw [e, hz] at h1
      simp [rf] at h1
    have h1 : y ≠ n.kx := fun e => hne n.kx (by simp) (fun e0 => hy0 (e.trans e0)) e
    have h2 : y ≠ n.ky := fun e => hne n.ky (by simp) (fun e0 => hy0 (e.trans e0)) e
    rw [keepC_other h2, keepC_other h1]
  have HB := Lib.hid (And.intro hb (And.intro hB1 hB2))
  have HR0 := Lib.hid (hrf M [n.cell] hb (by simp))
  have HR1 := Lib.hid (hrf _ [n.kx, n.cell] hB1 (by simp))
  have HR2 := Lib.hid (hrf _ [n.ky, n.kx, n.cell] hB2 (by simp))
  have hlv : live (most + 1) (keepC (keepC M n.kx) n.ky) = live (most + 1) M := by rw [keepC_live, keepC_live]
  have HC := Lib.hid (And.intro hnl (And.intro hnb (And.intro hcap (And.intro hsl (And.intro hch (And.intro hrest (And.intro hsrt (And.intro hroom (And.intro hall (And.intro hlv (And.intro hP (And.intro hm hhole))))))))))))
  have HX := Lib.hid (And.intro hF (And.intro nF (And.intro h hs)))
  have y7 := hs.way.way.1
  have e11 := hs.nd.node.2.2.2.2.2.2.2.2.2.2.2.1
  have e12 := hs.nd.node.2.2.2.2.2.2.2.2.2.2.2.2.1
  clear hb hB1 hB2 hrf hz hhole hlv hall hnl hnb hcap hsl hch hrest hsrt hroom hF nF h hs hP hm hkid hMi hiH hN0
  go_enter Tryz.func132, Tryz.ntmps132
  go_wp2_with (refine wpList_load_mid rfl _ _ rfl zn 11 rfl [.int .i64 (n.kx : Nat), .int .i64 (n.ky : Nat)] _ HX.out.2.2.2.nd.nkids Tryz.underlying142 rfl two_size ?_)
  clear y7 e11 e12
  go_loopg [9] 2 (fun c' s9 wr => ∃ (j : Nat) (F1 : Nat → Prop), j + c' = 2 ∧ s9 = .int .i64 (j : Int) ∧ Rn w wr x.b most (kM M n j) F F1 ∧ WtK wr zw zn zs zr x n As cs seam.length rest)
  case atStart => exact ⟨0, F, rfl, rfl, ⟨HX.out.2.2.1, Kp.refl _ _, fun _ => .inl⟩, HX.out.2.2.2⟩
  case round =>
    obtain ⟨j, F1, hj, rfl, hrn, hwt⟩ := hrel
    have h3 : j = 0 ∨ j = 1 ∨ j = 2 := by omega
    have nF1 : ∀ q, q < w.heap.size → ¬ F q → ¬ F1 q := fun q hq hn hf => (hrn.sub q hf).elim hn (fun h => by omega)
    have HNF := Lib.hid nF1
    have HW := Lib.hid (And.intro hrn hwt)
    have y0 := hwt.way.way.1
    have e6 := hwt.nd.node.2.2.2.2.2.2.1
    clear nF1 hrn hwt
    rcases h3 with rfl | rfl | rfl
    · have hix : (Instr.index 142 (.agg #[.int .i64 (n.kx : Nat), .int .i64 (n.ky : Nat)]) (.int .i64 0)).run Tryz.prog wr = .ok (.int .i64 (n.kx : Nat)) wr := by kernel_rfl
      go_wp2_with fail
      refine (vkeep1 n.kx wr HW.out.1.ar (HR0.out n.kx)).mono ?_
      rintro e w2 ⟨⟨z, rfl⟩, hs⟩
      have HS := Lib.hid hs
      clear hs y0 e6 hix
      go_wp2_with fail
      go_roundg 1
      case measure => omega
      case rel =>
        obtain ⟨l1, l2, l3, l4⟩ := HX.out.2.2.2.lt
        obtain ⟨f1, f2, f3, f4⟩ := HX.out.2.1
        exact ⟨1, _, rfl, rfl, HW.out.1.stp HS.out, HW.out.2.kp HS.out.kp (HNF.out _ l1 f1) (HNF.out _ l2 f2) (HNF.out _ l3 f3) (HNF.out _ l4 f4)⟩
    · have hix : (Instr.index 142 (.agg #[.int .i64 (n.kx : Nat), .int .i64 (n.ky : Nat)]) (.int .i64 1)).run Tryz.prog wr = .ok (.int .i64 (n.ky : Nat)) wr := by kernel_rfl
      go_wp2_with fail
      refine (vkeep1 n.ky wr HW.out.1.ar (HR1.out n.ky)).mono ?_
      rintro e w2 ⟨⟨z, rfl⟩, hs⟩
      have HS := Lib.hid hs
      clear hs y0 e6 hix
      go_wp2_with fail
      go_roundg 0
      case measure => omega
      case rel =>
        obtain ⟨l1, l2, l3, l4⟩ := HX.out.2.2.2.lt
        obtain ⟨f1, f2, f3, f4⟩ := HX.out.2.1
        exact ⟨2, _, rfl, rfl, HW.out.1.stp HS.out, HW.out.2.kp HS.out.kp (HNF.out _ l1 f1) (HNF.out _ l2 f2) (HNF.out _ l3 f3) (HNF.out _ l4 f4)⟩
    · go_wp2_with fail
      refine (vdrop1 n.cell wr HW.out.1.ar HR2.out).mono ?_
      rintro e w2 ⟨⟨z, rfl⟩, M3, hd, hs⟩
      have hrn2 := HW.out.1.stp hs
      obtain ⟨l1, l2, l3, l4⟩ := HX.out.2.2.2.lt
      obtain ⟨f1, f2, f3, f4⟩ := HX.out.2.1
      have hwt2 := HW.out.2.kp hs.kp (HNF.out _ l1 f1) (HNF.out _ l2 f2) (HNF.out _ l3 f3) (HNF.out _ l4 f4)
      obtain ⟨b3, s3, o3⟩ := (HB.out.2.2.perm (hs' := [n.cell, n.kx, n.ky]) (fun k _ => by simp only [List.count_cons, List.count_nil]; omega)).drop hd
      obtain ⟨hnl, hnb, hcap, hsl, hch, hrest, hsrt, hroom, hall, hlv, hP, hm, hhole⟩ := HC.out
      have hpk : ∀ k ∈ [n.kx, n.ky], k ≠ 0 → Pres (blank M H) (blank M3 H) k := fun k hk h0 => (Pres.all (all_blank hall)).trans (Pres.sub s3 b3.ok (fun e => (b3.hand hk h0).1 (blank_none.1 e)))
      have hkeeps : Keeps P (blank M H) (blank M3 H) := fun r h0 hr => (Pres.all (all_blank hall)).trans (Pres.sub s3 b3.ok (fun e => b3.held hr h0 (blank_none.1 e)))
      have hlive : live (most + 1) M3 ≤ live (most + 1) M := by
        rw [← hlv]
        refine live_mono fun j hj => ?_
        have : blank M3 H j ≠ none := fun e => hj (blank_none.1 e)
        cases e : blank M3 H j with
        | none => exact absurd e this
        | some y =>
          obtain ⟨r0', e0, _⟩ := s3 j y.1 y.2 e
          exact fun e1 => by rw [blank_none.2 e1] at e0; cases e0
      have hch3 := hch.pres (M' := blank M3 H) (fun h0 => hpk _ (by simp) h0) (fun h0 => hpk _ (by simp) h0)
      have hF2 : ∀ q, q < w.heap.size → ¬ F q → ¬ (Fn F1 wr w2) q := fun q hq hn hf => (hrn2.sub q hf).elim hn (fun h => by omega)
      have hnl2 : NL w2 As seam := hnl.kp hrn2.kp (fun a e hne => hnb a e hne)
      have hlnl : ∀ a, As = some a → seam ≠ [] → a.block < w.heap.size := fun a e hne => by
        rcases hnl with h0 | ⟨g, o, e2, hg, _⟩
        · exact absurd h0 hne
        · rw [e] at e2; cases e2; exact hg
      have hsr2 : Srt h0 (pre ++ (lx' ++ ly') ++ suf) := by rw [← hch.eq]; exact hsrt
      have call := vrelink_bk (X0 := fun _ => False) x 133 #[.pointer (some ⟨zr, 0, none⟩)] 0 (lx' ++ ly') x' y' lx' ly' hm 1152921504606846976 (Nat.le_refl _) (fun args W => by kernel_rfl) seam As cs n.kx n.ky la lb pre suf M3 H P (Fn F1 wr w2) w2 hrn2.ar (fun _ h => h.elim) b3 (fun j => by have := hP j; omega) hch3 hsr2 hcap hsl hnl2 (fun a e hne => ⟨hF2 _ (hlnl a e hne) (hnb a e hne), id⟩) (by omega) (fun W M1 H1 P1 G1 t1 t2 t3 t4 t5 t6 => by
        have hr1 := hwt2.rst.kp t1.kp (hF2 _ l4 f4)
        refine (vtake4 rest zr W hr1).mono ?_
        rintro e W' ⟨rfl, rfl⟩
        have hx1 : TT (blank M1 H1) x' lx' := hch3.endx.pres t4
        have hy1 : TT (blank M1 H1) y' ly' := hch3.endy.pres t5
        refine ⟨rest, M1, rfl, ⟨?_, Keeps.refl _ _, fun _ _ => rfl, Nat.le_refl _, ?_⟩, ⟨t1.ar.mono (fun q hq => .inl hq) (fun q hq => hq.elim t1.ar.lt (fun h => h.2)), Kp.refl _ _⟩⟩
        · rcases hrest with ⟨e1, e2⟩ | ⟨e1, e2⟩
          · rw [e1] at t2; rw [e2]; exact (t2.perm (fun k _ => by rw [count2, count2]; omega) : Bk (most + 1) M1 H1 P1 [y', 0]).zero1
          · rw [e1] at t2; rw [e2]; exact t2.zero1
        · rcases hrest with ⟨e1, e2⟩ | ⟨e1, e2⟩
          · rw [e1] at hx1; rw [hx1.zero, e2]; exact hy1
          · rw [e1] at hy1; rw [hy1.zero, e2, List.append_nil]; exact hx1)
      have HCALL := Lib.hid call
      have HFIN := Lib.hid (show ∀ (m : Nat) (M' : Cells) (W' : World), TR most M3 H P (pre ++ (lx' ++ ly') ++ suf) (seam.length + 0) m M' → StpX w2 W' x.b most M' (Fn F1 wr w2) (fun _ => False) → TR most M H P (la ++ lb) seam.length m M' ∧ StpX w W' x.b most M' F (fun _ => False) from fun m M' W' hT hS => ⟨⟨hT.bk, hkeeps.trans hT.keeps, fun y hy => ((hT.holes y hy).trans (o3 y hy)).trans (hhole y hy), by have := hT.live; omega, by rw [hch.eq]; exact hT.tt⟩, (RnY.of_rn hrn2 hS.rny).fin HX.out.1⟩)
      have HWT2 := Lib.hid hwt2
      have y4 := hwt2.sl.c0
      clear call hch3 hsr2 hlnl hnl2 hF2 hlive hkeeps hpk hnl hnb hcap hsl hch hrest hsrt hroom hall hlv hP hm hhole b3 s3 o3 hwt2 hrn2 hs hd y0 e6
      go_wp2_with (refine wpList_load_whole rfl _ _ rfl zw _ rfl (ycells x) _ HWT2.out.way Tryz.underlying146 rfl way_size ?_)
      refine HCALL.out.mono ?_
      rintro e W' ⟨m, M', rfl, hT, hS⟩
      have HR := Lib.hid (HFIN.out m M' W' hT hS)
      clear hT hS y4
      go_wp2_with fail
      go_ret
      exact ⟨m, M', rfl, HR.out⟩
end
end Go.Proofs.YtghbbpbhbinioaaGreat

namespace Go.Proofs.YtghbbpbhbinioaaGreat
set_option maxRecDepth 100000
set_option linter.unusedSimpArgs false
set_option linter.unusedVariables false
open Go.RowKit
set_option maxHeartbeats 1600000 in
theorem ttake1 (x : Yv) (n : Nv) (zw zn zs zr cs ns rest : Nat) (As : Option Addr) (R : Value → World → Prop) (w : World) (hs : WtK w zw zn zs zr x n As cs ns rest)
    (hE : Calls Tryz.prog 115 #[yagg x, .slice x.A x.n x.c, .func (.func 132) #[] #[.pointer (some ⟨zn, 0, none⟩), .pointer (some ⟨zw, 0, none⟩), .pointer (some ⟨zs, 0, none⟩), .pointer (some ⟨zr, 0, none⟩)]] w fun e W' => ∃ u, e = .returned u ∧ R u W') :
    Calls Tryz.prog 131 #[.pointer (some ⟨zw, 0, none⟩), .pointer (some ⟨zn, 0, none⟩), .pointer (some ⟨zs, 0, none⟩), .pointer (some ⟨zr, 0, none⟩)] w fun e W' => ∃ u, e = .returned u ∧ R u W' := by
  have HS := Lib.hid hs
  have HE := Lib.hid hE
  have y7 := hs.way.way.2.2.2.2.2.2.2.1
  clear hs hE
  go_enter Tryz.func131, Tryz.ntmps131
  go_wp2_with (refine wpList_load_whole rfl _ _ rfl zw _ rfl (ycells x) _ HS.out.way Tryz.underlying146 rfl way_size ?_)
  refine HE.out.mono ?_
  rintro e w2 ⟨u, rfl, hR⟩
  have HR := Lib.hid hR
  clear hR y7
  go_wp2_with fail
  go_ret
  exact ⟨u, rfl, HR.out⟩
section
variable {most : Nat} {M : Cells} {F : Nat → Prop}
theorem ttake_do (x : Yv) (n : Nv) (zw zn zs zr cs rest B need : Nat) (As : Option Addr) (cl seam : List Nv) (l lj pre suf la lb lx' ly' pre2 suf2 : List Pr) (x' y' : Nat) (P : Nat → Nat) (w : World) (h : Ar w x.b most M F) (hm : most ≤ 1048576) (hb : Bk (most + 1) M [] P [x.root]) (hP : ∀ j, P j ≤ 576460752303423488)
    (hwt : WayT M w B x.b x.bh x.root x.ow x.key l x cl n.cell lj pre suf) (hnd : NdP M w n la lb lj) (hs : WtK w zw zn zs zr x n As cs seam.length rest) (nF : ¬ F zw ∧ ¬ F zn ∧ ¬ F zs ∧ ¬ F zr) (hB : ∀ q, F q → q < B)
    (hsm : SeamR M x.key x.ow n.kx n.ky la lb seam x' y' lx' ly' pre2 suf2) (hrest : x' = 0 ∧ rest = y' ∨ y' = 0 ∧ rest = x') (hrow : OwnN w B As cs seam) (hsrt : Srt h0 (pre ++ (la ++ lb) ++ suf)) (hl : l.length ≤ 1024) (hneed : live (most + 1) M + need ≤ most) (hroom : live (most + 1) M + (cl.length + seam.length) ≤ most) :
    Calls Tryz.prog 112 #[yagg x, .int .i64 (need : Nat), .func (.func 131) #[] #[.pointer (some ⟨zw, 0, none⟩), .pointer (some ⟨zn, 0, none⟩), .pointer (some ⟨zs, 0, none⟩), .pointer (some ⟨zr, 0, none⟩)]] w fun e w' => ∃ (m : Nat) (M' : Cells), e = .returned (.tuple #[.int .i64 (m : Nat), .int .i64 0]) ∧ TRes most M P x.root x.ow (pre ++ (la ++ lb) ++ suf) (cl.length + seam.length) m M' ∧ StpX w w' x.b most M' F (fun _ => False) := by
  have hn : x.n = cl.length := hwt.head.2.2.2.2.2
  obtain ⟨l1, l2, l3, l4⟩ := hs.lt
  obtain ⟨f1, f2, f3, f4⟩ := nF
  have hsh := hwt.way.short
  have hcap := hwt.row.cap
  have hlj : seam.length ≤ lj.length := by
    have h1 := hsm.chain.len
    have h2 : lj.length = la.length + (lb.length + 1) := by rw [hnd.eq, List.length_append, List.length_cons]
    omega
  have hss : Srt h0 (la ++ lb) := List.Pairwise.sublist ((List.sublist_append_right _ _).trans (List.sublist_append_left _ _)) hsrt
  refine tdo_bk (X0 := fun _ => False) x 131 _ need (cl.length + seam.length) _ P w h hm (fun args W => by kernel_rfl) (fun _ h => h.elim) hb hP hneed (fun W M1 P1 F1 r1 e1 b1 p1 pr1 lv1 => ?_)
  have nF1 : ∀ q, q < w.heap.size → ¬ F q → ¬ F1 q := fun q hq hn hf => (r1.sub q hf).elim hn (fun h => by omega)
  have ws1 := hs.kp r1.kp f1 f2 f3 f4
  have blk : ∀ {A : Option Addr} {c : Nat} {cl : List Nv}, OwnN w B A c cl → ∀ a, A = some a → a.block < w.heap.size ∧ ¬ F a.block := fun ho a e => ⟨(own_blk ho a.block (by rw [e]; rfl)).2, fun hf => by have h1 := (own_blk ho a.block (by rw [e]; rfl)).1; have h2 := hB _ hf; omega⟩
  have nl1 : NL W x.A cl := hwt.row.nl.kp r1.kp (fun a e _ => (blk hwt.row a e).2)
  have nl2 : NL W As seam := hrow.nl.kp r1.kp (fun a e _ => (blk hrow a e).2)
  refine (ttake1 x n zw zn zs zr cs seam.length rest As (fun u W' => ∃ (n2 : Nat) (M2 : Cells), u = .int .i64 (n2 : Nat) ∧ TR most M1 [] P1 (pre ++ (la ++ lb) ++ suf) (cl.length + seam.length) n2 M2 ∧ StpX W W' x.b most M2 F1 (fun _ => False)) W ws1 ?_).mono ?_
  · rw [hn]
    refine (vrelink_bk (X0 := fun _ => False) x 132 _ seam.length (la ++ lb) n.cell 0 lj [] hm 600000000000000000 (by decide) (fun args W => by kernel_rfl) cl x.A x.c x.root 0 l [] pre suf M1 [] P1 F1 W r1.ar (fun _ h => h.elim) b1.zero2 (fun j => by have := p1 j; have := hP j; omega) (by rw [blank_nil]; exact hwt.way.chain.pres (fun _ => pr1 _) (fun _ => pr1 _)) hsrt (by omega) (by omega) nl1 (fun a e _ => ⟨nF1 _ (blk hwt.row a e).1 (blk hwt.row a e).2, fun h => h⟩) (by omega) (fun W2 M2 H2 P2 F2 t1 t2 t3 t4 _ t6 => ?_)).mono ?_
    · have nF2 : ∀ q, q < w.heap.size → ¬ F q → ¬ F2 q := fun q hq hn hf => (t1.sub q hf).elim (nF1 q hq hn) (fun h => by have := r1.kp.size; omega)
      have ws2 := ws1.kp t1.kp (nF1 _ l1 f1) (nF1 _ l2 f2) (nF1 _ l3 f3) (nF1 _ l4 f4)
      have hpn : Pres M (blank M2 H2) n.cell := by
        have := (pr1 n.cell).trans (by have := t4 hnd.node.ne; rwa [blank_nil] at this)
        exact this
      have hch2 := hsm.chain.pres (M' := blank M2 H2) (fun h0 => hnd.node.presx hpn h0) (fun h0 => hnd.node.presy hpn h0)
      exact ttake_end x n zw zn zs zr cs rest As seam la lb lx' ly' pre2 suf2 x' y' W2 t1.ar hm t2.zero1 (fun j => by have := t3 j; omega) ws2 ⟨nF2 _ l1 f1, nF2 _ l2 f2, nF2 _ l3 f3, nF2 _ l4 f4⟩ (nl2.kp t1.kp (fun a e _ => nF1 _ (blk hrow a e).1 (blk hrow a e).2)) (fun a e _ => nF2 _ (blk hrow a e).1 (blk hrow a e).2) hrow.cap (by omega) (hnd.node.pres hpn) hch2 hrest hss t6
    · rintro e W' ⟨m, M', rfl, hT, hS⟩
      exact ⟨_, rfl, m, M', rfl, hT, hS⟩
  · rintro e W' ⟨u, rfl, m, M', rfl, hT, hS⟩
    exact ⟨m, M', rfl, hT, hS⟩
end
end Go.Proofs.YtghbbpbhbinioaaGreat
