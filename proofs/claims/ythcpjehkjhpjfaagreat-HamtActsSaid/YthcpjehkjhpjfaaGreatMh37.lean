/- Several texts in one. -/
import Derived.Test.YthcpjehkjhpjfaaGreatMh36
import Derived.Test.YthcpjehkjhpjfaaGreatMh11
set_option linter.unusedSimpArgs false
namespace Go.Proofs.YthcpjehkjhpjfaaGreat
set_option maxRecDepth 100000
set_option linter.unusedSimpArgs false
open Go.RowKit Go.Shelf
attribute [local go_sem] Oper.semAt_some
section
set_option maxHeartbeats 8000000 in
theorem lsame8 {w0 W : World} {b bh seed zw : Nat} {hs : Ky → Nat} {M : Cells} {F : Nat → Prop} {sa : Value} {last : Int} {E : List En} (h : Wd w0 W b bh seed zw hs M F sa last E) (hhs : ∀ q, OkK q → hs q = hashN seed q.1 q.2.1 q.2.2) (e : En) (he : e ∈ E) (k : Ky) (hk : OkK k) :
    Calls Tryz.prog 18 #[.pointer (some ⟨zw, 0, none⟩), eagg e, xagg k] W fun x W' => x = .returned (.bool true) ∧ Kp (fun q => q = bh) W W' ∧ Hs W' bh seed := by
  have HWD := Lib.hid h
  have HHS := Lib.hid hhs
  have HE := Lib.hid (And.intro he hk)
  have hzl := h.wb.lt
  clear h hhs he hk
  obtain ⟨i1, hi1, hy0, hy1, hy2⟩ := info_parts pinfo8
  have HI1 := Lib.hid hi1
  clear hi1
  refine (callsIn_wide (n := 3)).1 ?_
  refine callsIn_of_wp_marks Tryz.func18 rfl trivial ?_ rfl
  refine wpIn_wide.2 ?_
  simp only [Tryz.ntmps18, List.size_toArray, List.length_cons, List.length_nil, Nat.reduceAdd, Nat.reduceSub, Array.replicate_succ, Array.replicate_zero, List.push_toArray, List.append_toArray, List.nil_append, List.cons_append]
  have sr0 : SR W (W.heap.size + 1 + 1 + 1) W.heap.size (W.heap.size + 1) (W.heap.size + 1 + 1) e k 0 (.slice none 0 0) (((W.alloc (.cells #[.int .i64 (e.l.length : Int), .int .i64 (e.root : Int), e.s, .int .u32 e.ow] 37)).alloc (.cells #[.int .u8 k.1, .int .i64 k.2.1, .string k.2.2] 43)).alloc (.cells #[.slice none 0 0] 34)) := by
    refine ⟨(((Below.refl _ W).alloc (Nat.le_refl _) _).alloc (by simp) _).alloc (by simp; omega) _, ((C4.new W _ _ _ _ _).alloc _).alloc _, ?_, ?_, World.ownsRow_nil _ _ _ _, by simp; omega⟩
    · have h := (C3.new (W.alloc (.cells #[.int .i64 (e.l.length : Int), .int .i64 (e.root : Int), e.s, .int .u32 e.ow] 37)) 43 (.int .u8 k.1) (.int .i64 k.2.1) (.string k.2.2)).alloc (.cells #[.slice none 0 0] 34)
      simpa using h
    · have h := C1.new ((W.alloc (.cells #[.int .i64 (e.l.length : Int), .int .i64 (e.root : Int), e.s, .int .u32 e.ow] 37)).alloc (.cells #[.int .u8 k.1, .int .i64 k.2.1, .string k.2.2] 43)) 34 (.slice none 0 0)
      simpa using h
  go_upto_region 2 with fail
  generalize (((W.alloc (.cells #[.int .i64 (e.l.length : Int), .int .i64 (e.root : Int), e.s, .int .u32 e.ow] 37)).alloc (.cells #[.int .u8 k.1, .int .i64 k.2.1, .string k.2.2] 43)).alloc (.cells #[.slice none 0 0] 34)) = W1 at sr0 ⊢
  obtain ⟨n5, hn5⟩ : ∃ n, n = W.heap.size + 1 + 1 + 1 := ⟨_, rfl⟩
  obtain ⟨zg, hzg⟩ : ∃ n, n = W.heap.size + 1 + 1 := ⟨_, rfl⟩
  obtain ⟨zk, hzk⟩ : ∃ n, n = W.heap.size + 1 := ⟨_, rfl⟩
  obtain ⟨ze, hze⟩ : ∃ n, n = W.heap.size := ⟨_, rfl⟩
  have sr0 := Lib.hid (show SR W n5 ze zk zg e k 0 (.slice none 0 0) W1 by rw [hn5, hzg, hzk, hze]; exact sr0)
  rw [← hzg, ← hzk, ← hze]
  clear hn5 hzg hzk hze
  have l0 : ∀ W', SR W n5 ze zk zg e k 0 (.slice none 0 0) W' → W'.cell? ⟨zw, 0, none⟩ = some (ap b) := fun W' h => (HWD.out.wb.below h.bel).c0
  have l1 : ∀ W', SR W n5 ze zk zg e k 0 (.slice none 0 0) W' → W'.cell? ⟨zw, 1, none⟩ = some (.pointer (some ⟨bh, 0, none⟩)) := fun W' h => (HWD.out.wb.below h.bel).c1
  have l2 : ∀ W', SR W n5 ze zk zg e k 0 (.slice none 0 0) W' → W'.cell? ⟨ze, 0, none⟩ = some (.int .i64 (e.l.length : Int)) := fun W' h => h.eb.c0
  have l3 : ∀ W', SR W n5 ze zk zg e k 0 (.slice none 0 0) W' → W'.cell? ⟨ze, 1, none⟩ = some (.int .i64 (e.root : Int)) := fun W' h => h.eb.c1
  refine wp_region_noPanic ?_
  refine wp_region_held_drew (S := fun W' => SR W n5 ze zk zg e k 0 (.slice none 0 0) W') (by kernel_rfl) (sr0.out.below (Below.refl _ W1).drew) (fun hH => ?_)
  have sr1 := sr0.out.below (Below.refl _ W1).drew
  clear sr0
  generalize W1.drew = W2 at sr1 hH ⊢
  refine tkH ?_ 0 hH ?_ ?_; rotate_left
  · intro W' hS; go_simp; with_reducible rfl
  simp only [tkr]
  refine tkH ?_ 1 hH ?_ ?_; rotate_left
  · intro W' hS; go_simp; with_reducible rfl
  simp only [tkr]
  refine tkH ?_ 2 hH ?_ ?_; rotate_left
  · intro W' hS; go_simp; with_reducible rfl
  simp only [tkr]
  refine tkH ?_ 3 hH ?_ ?_; rotate_left
  · intro W' hS; go_simp; with_reducible rfl
  simp only [tkr]
  refine tkH ?_ 4 hH ?_ ?_; rotate_left
  · intro W' hS; go_simp; with_reducible rfl
  simp only [tkr]
  refine tkH ?_ 5 hH ?_ ?_; rotate_left
  · intro W' hS; go_simp; with_reducible rfl
  simp only [tkr]
  refine rdH 6 rfl (fun K hK => ?_)
  go_simp
  refine (vPairs b bh e.l.length e.root W2).mono ?_
  rintro x W3 ⟨zl, zm, rfl, ql, qm, hl1, hl2, hb3⟩
  have sr3 := sr1.below hb3
  clear sr1
  simp only
  refine hK.out _ _ ?_ (fun hH => ?_)
  · exact sr3
  clear hK K hH l0 l1 l2 l3
  refine wpAnyH_done (by kernel_rfl) ?_ _
  refine NoPanic.normal ?_
  have ha3 := HWD.out.ar.below sr3.bel
  have hFl : ∀ q, F q → q < W.heap.size := fun q hq => HWD.out.ar.lt hq
  have HG := Lib.hid (pairs_gives (b := b) (bh := bh) (most := 65536) (root := e.root) (N := e.l.length) (M0 := M) (hs := hs) (l := e.l) zl zm W3 (by have := HWD.out.len e HE.out.1; omega) HWD.out.zero (HWD.out.mp e HE.out.1) ⟨M, F, ha3, Pres.refl M e.root⟩ ql qm)
  have H3 := Lib.hid (And.intro hFl (show n5 ≤ W3.heap.size from sr3.zs.2.2.2.2.2.2.2.2.2))
  have S3 := Lib.hid sr3
  clear ql qm hl1 hl2 hb3 sr3 ha3 hFl
  go_wp2_with fail
  refine wp_range9 (encs := fun p : Pr => #[pagg p]) (first := #[]) (last := #[.pointer (some ⟨zl, 0, none⟩), .pointer (some ⟨zm, 0, none⟩)]) (f := 92) rfl (fun _ _ => rfl) (fun _ => rfl) HG.out (fun h1 h2 => h1.trans h2) (fun W l o o' _ ho hc _ => Kv.putObj ho hc)
    (fun i W' => ∃ vg, SR W n5 ze zk zg e k i vg W') (fun _ _ _ => False) (fun i A B row ⟨vg, h⟩ hg hr => ⟨vg, h.grown hg (fun r hr' => ⟨Nat.le_trans H3.out.2 (hr r hr').1, (hr r hr').2⟩)⟩) (fun c i A B row h hg hr => h.elim) ⟨_, S3.out⟩ (fun A B hb => Kv.below hb) ?_ ?_ ?_
  · intro lp i x W4 hx hI hsz
    obtain ⟨vg, sr4⟩ := hI
    have S4 := Lib.hid sr4
    have HX := Lib.hid hx
    clear sr4 hx HG S3
    gi_wp2
    have sr5 := S4.out.below ((Below.refl _ W4).alloc (Nat.le_refl _) (.cells #[.int .u8 x.1.1, .int .i64 x.1.2.1, .string x.1.2.2, .int .u8 x.2.1, .int .i64 x.2.2.1, .string x.2.2.2] 64))
    refine ⟨(Below.refl _ W4).alloc (Nat.le_refl _) _, fun j W' => SR W n5 ze zk zg e k j vg W' ∧ C6 W' W4.heap.size 64 (.int .u8 x.1.1) (.int .i64 x.1.2.1) (.string x.1.2.2) (.int .u8 x.2.1) (.int .i64 x.2.2.1) (.string x.2.2.2), fun j A B row h hg hr => ⟨h.1.grown hg (fun r hr' => ⟨Nat.le_trans H3.out.2 (hr r hr').1, (hr r hr').2⟩), h.2.own hg (fun r hr' => (hr r hr').2)⟩, ⟨sr5, C6.new _ _ _ _ _ _ _ _⟩, fun W5 hJ hs5 => ?_⟩
    have S5 := Lib.hid hJ
    clear sr5 S4 hJ hs5
    gi_wp2
    refine anyX_region (S := fun W' => (C1 W' zg 34 vg ∧ C6 W' W4.heap.size 64 (.int .u8 x.1.1) (.int .i64 x.1.2.1) (.string x.1.2.2) (.int .u8 x.2.1) (.int .i64 x.2.2.1) (.string x.2.2.2))) (X := [5]) (by kernel_rfl) ?_
    have hb6 : Below W5.heap.size W5 W5.drew := (Below.refl _ W5).drew
    have hs6 := S5.out.1.below (Below.refl _ W5).drew
    have hH := And.intro hs6.gb (S5.out.2.below (Below.refl _ W5).drew)
    have l0 : ∀ W', (C1 W' zg 34 vg ∧ C6 W' W4.heap.size 64 (.int .u8 x.1.1) (.int .i64 x.1.2.1) (.string x.1.2.2) (.int .u8 x.2.1) (.int .i64 x.2.2.1) (.string x.2.2.2)) → W'.cell? ⟨zg, 0, none⟩ = some vg := fun W' h => h.1.c0
    have m0 : ∀ W', (C1 W' zg 34 vg ∧ C6 W' W4.heap.size 64 (.int .u8 x.1.1) (.int .i64 x.1.2.1) (.string x.1.2.2) (.int .u8 x.2.1) (.int .i64 x.2.2.1) (.string x.2.2.2)) → W'.cell? ⟨W4.heap.size, 0, none⟩ = some (.int .u8 x.1.1) := fun W' h => h.2.c0
    have m1 : ∀ W', (C1 W' zg 34 vg ∧ C6 W' W4.heap.size 64 (.int .u8 x.1.1) (.int .i64 x.1.2.1) (.string x.1.2.2) (.int .u8 x.2.1) (.int .i64 x.2.2.1) (.string x.2.2.2)) → W'.cell? ⟨W4.heap.size, 1, none⟩ = some (.int .i64 x.1.2.1) := fun W' h => h.2.c1
    have m2 : ∀ W', (C1 W' zg 34 vg ∧ C6 W' W4.heap.size 64 (.int .u8 x.1.1) (.int .i64 x.1.2.1) (.string x.1.2.2) (.int .u8 x.2.1) (.int .i64 x.2.2.1) (.string x.2.2.2)) → W'.cell? ⟨W4.heap.size, 2, none⟩ = some (.string x.1.2.2) := fun W' h => h.2.c2
    have m3 : ∀ W', (C1 W' zg 34 vg ∧ C6 W' W4.heap.size 64 (.int .u8 x.1.1) (.int .i64 x.1.2.1) (.string x.1.2.2) (.int .u8 x.2.1) (.int .i64 x.2.2.1) (.string x.2.2.2)) → W'.cell? ⟨W4.heap.size, 3, none⟩ = some (.int .u8 x.2.1) := fun W' h => h.2.c3
    have m4 : ∀ W', (C1 W' zg 34 vg ∧ C6 W' W4.heap.size 64 (.int .u8 x.1.1) (.int .i64 x.1.2.1) (.string x.1.2.2) (.int .u8 x.2.1) (.int .i64 x.2.2.1) (.string x.2.2.2)) → W'.cell? ⟨W4.heap.size, 4, none⟩ = some (.int .i64 x.2.2.1) := fun W' h => h.2.c4
    have m5 : ∀ W', (C1 W' zg 34 vg ∧ C6 W' W4.heap.size 64 (.int .u8 x.1.1) (.int .i64 x.1.2.1) (.string x.1.2.2) (.int .u8 x.2.1) (.int .i64 x.2.2.1) (.string x.2.2.2)) → W'.cell? ⟨W4.heap.size, 5, none⟩ = some (.string x.2.2.2) := fun W' h => h.2.c5
    generalize W5.drew = W6 at hb6 hs6 hH ⊢
    refine AnyX.first (i := 0) (v := ?_) (by kernel_rfl) (by kernel_rfl) rfl (by kernel_rfl) (by kernel_rfl) (by kernel_rfl) (fun _ _ _ h => h) ⟨fun _ => rfl, Or.inl ⟨by rfl, ?_⟩⟩ hH ?_
    rotate_left
    · intro W' hS
      go_simp
      with_reducible rfl
    simp only [Act.put, List.setIfInBounds_toArray, List.set_cons_zero, List.set_cons_succ, List.getElem_toArray, List.getElem_cons_zero, List.getElem_cons_succ]
    refine AnyX.first (i := 1) (v := ?_) (by kernel_rfl) (by kernel_rfl) rfl (by kernel_rfl) (by kernel_rfl) (by kernel_rfl) (fun _ _ _ h => h) ⟨fun _ => rfl, Or.inl ⟨by rfl, ?_⟩⟩ hH ?_
    rotate_left
    · intro W' hS
      go_simp
      with_reducible rfl
    simp only [Act.put, List.setIfInBounds_toArray, List.set_cons_zero, List.set_cons_succ, List.getElem_toArray, List.getElem_cons_zero, List.getElem_cons_succ]
    refine AnyX.one (i := 2) (by kernel_rfl) rfl (fun K hK => ?_)
    replace hK := Lib.hid hK
    clear l0 m0 m1 m2 m3 m4 m5
    go_simp
    refine ⟨trivial, rfl, (CallsIn.inRound lp ((callsIn_wide (n := 0)).2 (lpair x W6))).mono ?_⟩
    rintro e7 W7 ⟨rfl, hb7⟩
    have b7 := hb6.trans (hb7.mono hb6.size)
    have r7 := hs6.below hb7
    have s7 := And.intro (hH.1.below hb7) (hH.2.below hb7)
    clear hb6 hb7 hH hs6
    simp only
    refine hK.out _ _ ⟨.inr s7, ?_⟩
    clear hK K
    refine AnyX.one (i := 3) (by kernel_rfl) rfl (fun K hK => ?_)
    replace hK := Lib.hid hK
    go_simp
    have b8 := b7.alloc b7.size (.cells #[.int .u8 x.1.1, .int .i64 x.1.2.1, .string x.1.2.2, .int .u8 x.2.1, .int .i64 x.2.2.1, .string x.2.2.2] 78)
    have r8 := r7.below ((Below.refl _ W7).alloc (Nat.le_refl _) (.cells #[.int .u8 x.1.1, .int .i64 x.1.2.1, .string x.1.2.2, .int .u8 x.2.1, .int .i64 x.2.2.1, .string x.2.2.2] 78))
    have s8 := And.intro (s7.1.alloc (.cells #[.int .u8 x.1.1, .int .i64 x.1.2.1, .string x.1.2.2, .int .u8 x.2.1, .int .i64 x.2.2.1, .string x.2.2.2] 78)) (s7.2.alloc (.cells #[.int .u8 x.1.1, .int .i64 x.1.2.1, .string x.1.2.2, .int .u8 x.2.1, .int .i64 x.2.2.1, .string x.2.2.2] 78))
    have d8 := rd_six W7 (.int .u8 x.1.1) (.int .i64 x.1.2.1) (.string x.1.2.2) (.int .u8 x.2.1) (.int .i64 x.2.2.1) (.string x.2.2.2) 78 _ rfl
    clear b7 s7 r7
    refine hK.out _ _ ⟨.inr s8, ?_⟩
    clear hK K
    generalize W7.alloc (.cells #[.int .u8 x.1.1, .int .i64 x.1.2.1, .string x.1.2.2, .int .u8 x.2.1, .int .i64 x.2.2.1, .string x.2.2.2] 78) = W8 at b8 s8 r8 d8 ⊢
    refine AnyX.one (i := 4) (by kernel_rfl) rfl (fun K hK => ?_)
    replace hK := Lib.hid hK
    have hil : i < e.l.length := (List.getElem?_eq_some_iff.1 HX.out).1
    have hel := HWD.out.len e HE.out.1
    have hn8 := r8.zs.2.2.2.2.2.2.2.2.2
    refine stepX_append_rd (fun _ => trivial) rfl (.tmp 21) (.tmp 24) 34 rfl n5 78 i1 _ 6 64 Tryz.underlying34 HI1.out hy0 hy1 hy2 rfl (by decide) vg i _ rfl r8.own _ 1 [.int .u8 x.1.1, .int .i64 x.1.2.1, .string x.1.2.2, .int .u8 x.2.1, .int .i64 x.2.2.1, .string x.2.2.2] rfl d8 rfl (by simp [Value.oneCell']) (by unfold maxLen; omega) (by omega) hn8 ?_
    intro v9 W9 hown hgr _
    obtain ⟨A9, m9, rfl, _⟩ := (Rd.of_own hown).form
    have nx := S5.out.1.next HX.out b8 hown hgr
    have kg9 := Kp.of_grown hgr (F := fun q => vg.ownBlock = some q) (fun q e => .inl e)
    have g9 := s8.1.kp kg9 (fun e => by have := (own_blk r8.own _ e).1; have := r8.zs.2.2.2.2.2.1; omega)
    have c9 := s8.2.kp kg9 (fun e => own_ne r8.own s8.2 (by decide) _ e rfl)
    clear hown hgr b8 s8 r8 hn8 hil hel d8 kg9
    refine hK.out _ _ ⟨.inr ⟨g9, c9⟩, ?_⟩
    clear hK K c9
    refine AnyX.one (i := 5) (by kernel_rfl) rfl (fun K hK => ?_)
    replace hK := Lib.hid hK
    obtain ⟨g0, g1⟩ := g9.all
    go_simp
    refine hK.out _ _ ⟨.inl (by simp), ?_⟩
    clear hK K g0 g1 g9
    refine AnyX.done (by kernel_rfl) ?_ _
    gi_wp2
    obtain ⟨hkv, hko⟩ := S5.out.1.kv (root := e.root) (M0 := M) (HWD.out.ar.below S5.out.1.bel) H3.out.1 H3.out.2 nx.2
    exact ⟨hko, hkv, _, nx.1⟩
  · intro D W10 hD hI hdef
    obtain ⟨vg, sr⟩ := hI
    have sl0 : SL W bh seed w0.heap.size n5 ze zk zg D e k vg W10 := by
      obtain ⟨s1, s2, s3, s4, s5, s6, s7, s8, s9, s10⟩ := sr.zs
      have hbl := HWD.out.hh.lt
      have hrow := HWD.out.row e HE.out.1
      have hown := sr.own
      rw [List.take_length] at hown
      exact ⟨Kp.of_below sr.bel _, HWD.out.hh.below sr.bel, sr.eb, sr.kb, sr.gb, hown, (Kp.of_below sr.bel (fun _ => False)).own hrow (fun _ _ h => h), hdef, ⟨hbl, by omega, s10, s4, s5, s6, by omega, by omega, by omega, Nat.le_trans H3.out.2 hD, fun q hq => ⟨(HWD.out.far e HE.out.1 q hq).2.1, by have := (own_blk hrow q hq).2; omega⟩⟩⟩
    have SL0 := Lib.hid sl0
    have HHB := Lib.hid (show ∀ W', SL W bh seed w0.heap.size n5 ze zk zg D e k vg W' → C5 W' zw 40 (ap b) (.pointer (some ⟨bh, 0, none⟩)) (.int .u64 (seed : Nat)) sa (.int .u32 last) from fun W' h => HWD.out.wb.kp h.kp HWD.out.lo.2.2.1)
    clear sl0 sr hD hdef HG S3
    go_upto_region 5 with fail
    go_cut [9, 10] from 26 to 36 (fun s9 s10 wd => ∃ zv, s9 = .pointer (some ⟨zv, 0, none⟩) ∧ s10 = .bool (hasB k e.l) ∧ C3 wd zv 43 (.int .u8 (lookV k e.l).1) (.int .i64 (lookV k e.l).2.1) (.string (lookV k e.l).2.2) ∧ SL W bh seed w0.heap.size n5 ze zk zg D e k vg wd ∧ n5 ≤ zv)
    case first =>
      have l0 : ∀ W', SL W bh seed w0.heap.size n5 ze zk zg D e k vg W' → W'.cell? ⟨zw, 0, none⟩ = some (ap b) := fun W' h => (HHB.out W' h).c0
      have l1 : ∀ W', SL W bh seed w0.heap.size n5 ze zk zg D e k vg W' → W'.cell? ⟨zw, 1, none⟩ = some (.pointer (some ⟨bh, 0, none⟩)) := fun W' h => (HHB.out W' h).c1
      have l2 : ∀ W', SL W bh seed w0.heap.size n5 ze zk zg D e k vg W' → W'.cell? ⟨ze, 0, none⟩ = some (.int .i64 (e.l.length : Int)) := fun W' h => h.eb.c0
      have l3 : ∀ W', SL W bh seed w0.heap.size n5 ze zk zg D e k vg W' → W'.cell? ⟨ze, 1, none⟩ = some (.int .i64 (e.root : Int)) := fun W' h => h.eb.c1
      have k0 : ∀ W', SL W bh seed w0.heap.size n5 ze zk zg D e k vg W' → W'.cell? ⟨zk, 0, none⟩ = some (.int .u8 k.1) := fun W' h => h.kb.c0
      have k1 : ∀ W', SL W bh seed w0.heap.size n5 ze zk zg D e k vg W' → W'.cell? ⟨zk, 1, none⟩ = some (.int .i64 k.2.1) := fun W' h => h.kb.c1
      have k2 : ∀ W', SL W bh seed w0.heap.size n5 ze zk zg D e k vg W' → W'.cell? ⟨zk, 2, none⟩ = some (.string k.2.2) := fun W' h => h.kb.c2
      refine wp_region_noPanic ?_
      refine wp_region_held_drew (S := fun W' => SL W bh seed w0.heap.size n5 ze zk zg D e k vg W') (by kernel_rfl) (SL0.out.below (Below.refl _ W10).drew) (fun hH => ?_)
      have st := SL0.out.below (Below.refl _ W10).drew
      clear SL0
      generalize W10.drew = Wc at st hH ⊢
      refine tkH ?_ 0 hH ?_ ?_; rotate_left
      · intro W' hS; go_simp; with_reducible rfl
      simp only [tkr]
      refine tkH ?_ 1 hH ?_ ?_; rotate_left
      · intro W' hS; go_simp; with_reducible rfl
      simp only [tkr]
      refine tkH ?_ 2 hH ?_ ?_; rotate_left
      · intro W' hS; go_simp; with_reducible rfl
      simp only [tkr]
      refine tkH ?_ 3 hH ?_ ?_; rotate_left
      · intro W' hS; go_simp; with_reducible rfl
      simp only [tkr]
      refine tkH ?_ 4 hH ?_ ?_; rotate_left
      · intro W' hS; go_simp; with_reducible rfl
      simp only [tkr]
      refine tkH ?_ 5 hH ?_ ?_; rotate_left
      · intro W' hS; go_simp; with_reducible rfl
      simp only [tkr]
      refine tkH ?_ 6 hH ?_ ?_; rotate_left
      · intro W' hS; go_simp; with_reducible rfl
      simp only [tkr]
      refine wpAnyH_ready (rs := [7, 11]) (by kernel_rfl) (by simp) ?_
      refine AllReadyH.cons rfl (fun K hK => ?_) (AllReadyH.cons rfl (fun K hK => ?_) (AllReadyH.nil))
      · go_simp
        refine (vLook (l := e.l) b bh seed e.root e.l.length k Wc (HWD.out.ar.kp st.kp (fun q hf hg => HWD.out.nb (hg ▸ hf))) HWD.out.zero (HWD.out.mp e HE.out.1) st.hh HWD.out.nb HHS.out HE.out.2 (HWD.out.len e HE.out.1)).mono ?_
        rintro x Wc ⟨rfl, hk9, hh9⟩
        replace st := st.hash hk9 hh9
        try replace bx := bx.kp hk9 (fun e => by have := st.zs.1; have := st.zs.2.1; omega)
        clear hk9 hh9
        simp only
        refine hK.out _ _ ?_ (fun hH => ?_)
        · exact st
        clear hK K
        refine tkH ?_ 8 hH ?_ ?_; rotate_left
        · intro W' hS; go_simp; with_reducible rfl
        simp only [tkr]
        refine tkH ?_ 9 hH ?_ ?_; rotate_left
        · intro W' hS; go_simp; with_reducible rfl
        simp only [tkr]
        refine tkH ?_ 10 hH ?_ ?_; rotate_left
        · intro W' hS; go_simp; with_reducible rfl
        simp only [tkr]
        refine rdH 11 rfl (fun K hK => ?_)
        go_simp
        have bx := C3.new Wc 43 (.int .u8 0) (.int .i64 0) (.string ⟨#[]⟩)
        have bz : n5 ≤ Wc.heap.size := st.zs.2.2.1
        replace st := st.below ((Below.refl _ Wc).alloc (Nat.le_refl _) (.cells #[.int .u8 0, .int .i64 0, .string ⟨#[]⟩] 43))
        refine hK.out _ _ ?_ (fun hH => ?_)
        · exact st
        clear hK K
        generalize World.alloc _ _ = Wn at st bx hH ⊢
        generalize Wc.heap.size = zv at bx bz ⊢
        rename World => Wc
        refine rdH 12 rfl (fun K hK => ?_)
        obtain ⟨a0, a1, a2, g0, g1, g2⟩ := bx.all
        go_simp
        clear a0 a1 a2 g0 g1 g2
        have kz : Kp (fun q => q = zv) Wc (((Wc.setCell ⟨zv, 0, none⟩ (.int .u8 (lookV k e.l).1)).setCell ⟨zv, 1, none⟩ (.int .i64 (lookV k e.l).2.1)).setCell ⟨zv, 2, none⟩ (.string (lookV k e.l).2.2)) := (((Kp.refl (fun q => q = zv) Wc).setCell (.inl rfl) _).setCell (.inl rfl) _).setCell (.inl rfl) _
        have hnd : zv ≠ D := fun e => by
          have h1 : Wc.heap[zv]? = some _ := bx
          rw [e, st.hd] at h1
          cases h1
        replace st := st.kpz kz (fun q hq => by rw [hq]; exact ⟨bz, fun ho => own_ne st.own bx (by decide) _ ho rfl, hnd⟩)
        replace bx := ((bx.set0 (.int .u8 (lookV k e.l).1)).set1 (.int .i64 (lookV k e.l).2.1)).set2 (.string (lookV k e.l).2.2)
        refine hK.out _ _ ?_ (fun hH => ?_)
        · exact st
        clear hK K kz hnd
        refine tkH ?_ 13 hH ?_ ?_; rotate_left
        · intro W' hS; go_simp; with_reducible rfl
        simp only [tkr]
        refine wpAnyH_done (by kernel_rfl) ?_ _
        refine NoPanic.normal ?_
        clear l0 l1 l2 l3 k0 k1 k2
        go_wp2_with fail
        go_meet
        exact ⟨zv, rfl, rfl, bx, st, bz⟩
      · go_simp
        have bx := C3.new Wc 43 (.int .u8 0) (.int .i64 0) (.string ⟨#[]⟩)
        have bz : n5 ≤ Wc.heap.size := st.zs.2.2.1
        replace st := st.below ((Below.refl _ Wc).alloc (Nat.le_refl _) (.cells #[.int .u8 0, .int .i64 0, .string ⟨#[]⟩] 43))
        refine hK.out _ _ ?_ (fun hH => ?_)
        · exact st
        clear hK K
        generalize World.alloc _ _ = Wn at st bx hH ⊢
        generalize Wc.heap.size = zv at bx bz ⊢
        rename World => Wc
        refine rdH 7 rfl (fun K hK => ?_)
        go_simp
        refine (vLook (l := e.l) b bh seed e.root e.l.length k Wc (HWD.out.ar.kp st.kp (fun q hf hg => HWD.out.nb (hg ▸ hf))) HWD.out.zero (HWD.out.mp e HE.out.1) st.hh HWD.out.nb HHS.out HE.out.2 (HWD.out.len e HE.out.1)).mono ?_
        rintro x Wc ⟨rfl, hk9, hh9⟩
        replace st := st.hash hk9 hh9
        try replace bx := bx.kp hk9 (fun e => by have := st.zs.1; have := st.zs.2.1; omega)
        clear hk9 hh9
        simp only
        refine hK.out _ _ ?_ (fun hH => ?_)
        · exact st
        clear hK K
        refine tkH ?_ 8 hH ?_ ?_; rotate_left
        · intro W' hS; go_simp; with_reducible rfl
        simp only [tkr]
        refine tkH ?_ 9 hH ?_ ?_; rotate_left
        · intro W' hS; go_simp; with_reducible rfl
        simp only [tkr]
        refine tkH ?_ 10 hH ?_ ?_; rotate_left
        · intro W' hS; go_simp; with_reducible rfl
        simp only [tkr]
        refine rdH 12 rfl (fun K hK => ?_)
        obtain ⟨a0, a1, a2, g0, g1, g2⟩ := bx.all
        go_simp
        clear a0 a1 a2 g0 g1 g2
        have kz : Kp (fun q => q = zv) Wc (((Wc.setCell ⟨zv, 0, none⟩ (.int .u8 (lookV k e.l).1)).setCell ⟨zv, 1, none⟩ (.int .i64 (lookV k e.l).2.1)).setCell ⟨zv, 2, none⟩ (.string (lookV k e.l).2.2)) := (((Kp.refl (fun q => q = zv) Wc).setCell (.inl rfl) _).setCell (.inl rfl) _).setCell (.inl rfl) _
        have hnd : zv ≠ D := fun e => by
          have h1 : Wc.heap[zv]? = some _ := bx
          rw [e, st.hd] at h1
          cases h1
        replace st := st.kpz kz (fun q hq => by rw [hq]; exact ⟨bz, fun ho => own_ne st.own bx (by decide) _ ho rfl, hnd⟩)
        replace bx := ((bx.set0 (.int .u8 (lookV k e.l).1)).set1 (.int .i64 (lookV k e.l).2.1)).set2 (.string (lookV k e.l).2.2)
        refine hK.out _ _ ?_ (fun hH => ?_)
        · exact st
        clear hK K kz hnd
        refine tkH ?_ 13 hH ?_ ?_; rotate_left
        · intro W' hS; go_simp; with_reducible rfl
        simp only [tkr]
        refine wpAnyH_done (by kernel_rfl) ?_ _
        refine NoPanic.normal ?_
        clear l0 l1 l2 l3 k0 k1 k2
        go_wp2_with fail
        go_meet
        exact ⟨zv, rfl, rfl, bx, st, bz⟩
    case rest =>
      obtain ⟨zv, rfl, rfl, bv, sl, bz⟩ := hcut
      have S6 := Lib.hid (And.intro sl bv)
      have BZ := Lib.hid bz
      clear sl bv bz SL0
      go_upto_region 6 with fail
      go_cut [11, 12] from 37 to 44 (fun s11 s12 wd => ∃ zx, s11 = .pointer (some ⟨zx, 0, none⟩) ∧ s12 = .bool (hasB k e.l) ∧ C3 wd zx 74 (.int .u8 (lookV k e.l).1) (.int .i64 (lookV k e.l).2.1) (.string (lookV k e.l).2.2) ∧ (SL W bh seed w0.heap.size n5 ze zk zg D e k vg wd ∧ C3 wd zv 43 (.int .u8 (lookV k e.l).1) (.int .i64 (lookV k e.l).2.1) (.string (lookV k e.l).2.2)))
      case first =>
        obtain ⟨As, cs, hes, _⟩ := (Rd.of_own S6.out.1.so).form
        have l0 : ∀ W', (SL W bh seed w0.heap.size n5 ze zk zg D e k vg W' ∧ C3 W' zv 43 (.int .u8 (lookV k e.l).1) (.int .i64 (lookV k e.l).2.1) (.string (lookV k e.l).2.2)) → W'.cell? ⟨ze, 2, none⟩ = some (.slice As e.l.length cs) := fun W' h => by rw [← hes]; exact h.1.eb.c2
        have k0 : ∀ W', (SL W bh seed w0.heap.size n5 ze zk zg D e k vg W' ∧ C3 W' zv 43 (.int .u8 (lookV k e.l).1) (.int .i64 (lookV k e.l).2.1) (.string (lookV k e.l).2.2)) → W'.cell? ⟨zk, 0, none⟩ = some (.int .u8 k.1) := fun W' h => h.1.kb.c0
        have k1 : ∀ W', (SL W bh seed w0.heap.size n5 ze zk zg D e k vg W' ∧ C3 W' zv 43 (.int .u8 (lookV k e.l).1) (.int .i64 (lookV k e.l).2.1) (.string (lookV k e.l).2.2)) → W'.cell? ⟨zk, 1, none⟩ = some (.int .i64 k.2.1) := fun W' h => h.1.kb.c1
        have k2 : ∀ W', (SL W bh seed w0.heap.size n5 ze zk zg D e k vg W' ∧ C3 W' zv 43 (.int .u8 (lookV k e.l).1) (.int .i64 (lookV k e.l).2.1) (.string (lookV k e.l).2.2)) → W'.cell? ⟨zk, 2, none⟩ = some (.string k.2.2) := fun W' h => h.1.kb.c2
        have HES := Lib.hid hes
        clear hes
        refine wp_region_noPanic ?_
        have st := S6.out.1.below (Below.refl _ wc).drew
        have sv := S6.out.2.below (Below.refl _ wc).drew
        refine wp_region_held_drew (S := fun W' => (SL W bh seed w0.heap.size n5 ze zk zg D e k vg W' ∧ C3 W' zv 43 (.int .u8 (lookV k e.l).1) (.int .i64 (lookV k e.l).2.1) (.string (lookV k e.l).2.2))) (by kernel_rfl) ⟨st, sv⟩ (fun hH => ?_)
        generalize wc.drew = Wc at st sv hH ⊢
        refine tkH ?_ 0 hH ?_ ?_; rotate_left
        · intro W' hS; go_simp; with_reducible rfl
        simp only [tkr]
        refine tkH ?_ 1 hH ?_ ?_; rotate_left
        · intro W' hS; go_simp; with_reducible rfl
        simp only [tkr]
        refine tkH ?_ 2 hH ?_ ?_; rotate_left
        · intro W' hS; go_simp; with_reducible rfl
        simp only [tkr]
        refine wpAnyH_ready (rs := [3, 8]) (by kernel_rfl) (by simp) ?_
        refine AllReadyH.cons rfl (fun K hK => ?_) (AllReadyH.cons rfl (fun K hK => ?_) (AllReadyH.nil))
        · go_simp
          refine (lof8 k Wc).mono ?_
          rintro x Wc ⟨rfl, hb9⟩
          replace st := st.below hb9
          replace sv := sv.below hb9
          try replace bx := bx.below hb9
          clear hb9
          simp only
          refine hK.out _ _ ?_ (fun hH => ?_)
          · exact ⟨st, sv⟩
          clear hK K
          refine wpAnyH_ready (rs := [4, 8]) (by kernel_rfl) (by simp) ?_
          refine AllReadyH.cons rfl (fun K hK => ?_) (AllReadyH.cons rfl (fun K hK => ?_) (AllReadyH.nil))
          · go_simp
            refine (rlook w0.heap.size (.slice As e.l.length cs) k e.l Wc (by have := HWD.out.len e HE.out.1; omega) (by have := st.so; rw [HES.out] at this; exact this)).mono ?_
            rintro x Wc ⟨rfl, hb9⟩
            replace st := st.below hb9
            replace sv := sv.below hb9
            try replace bx := bx.below hb9
            clear hb9
            simp only
            refine hK.out _ _ ?_ (fun hH => ?_)
            · exact ⟨st, sv⟩
            clear hK K
            refine tkH ?_ 5 hH ?_ ?_; rotate_left
            · intro W' hS; go_simp; with_reducible rfl
            simp only [tkr]
            refine tkH ?_ 6 hH ?_ ?_; rotate_left
            · intro W' hS; go_simp; with_reducible rfl
            simp only [tkr]
            refine tkH ?_ 7 hH ?_ ?_; rotate_left
            · intro W' hS; go_simp; with_reducible rfl
            simp only [tkr]
            refine rdH 8 rfl (fun K hK => ?_)
            go_simp
            have bx := C3.new Wc 74 (.int .u8 0) (.int .i64 0) (.string ⟨#[]⟩)
            have bz : n5 ≤ Wc.heap.size := st.zs.2.2.1
            have hnv : zv ≠ Wc.heap.size := by have := sv.lt; omega
            replace st := st.below ((Below.refl _ Wc).alloc (Nat.le_refl _) (.cells #[.int .u8 0, .int .i64 0, .string ⟨#[]⟩] 74))
            replace sv := sv.alloc (.cells #[.int .u8 0, .int .i64 0, .string ⟨#[]⟩] 74)
            refine hK.out _ _ ?_ (fun hH => ?_)
            · exact ⟨st, sv⟩
            clear hK K
            generalize World.alloc _ _ = Wn at st sv bx hH ⊢
            generalize Wc.heap.size = zx at bx bz hnv ⊢
            rename World => Wc
            refine rdH 9 rfl (fun K hK => ?_)
            obtain ⟨a0, a1, a2, g0, g1, g2⟩ := bx.all
            go_simp
            clear a0 a1 a2 g0 g1 g2
            have kz : Kp (fun q => q = zx) Wc (((Wc.setCell ⟨zx, 0, none⟩ (.int .u8 (lookV k e.l).1)).setCell ⟨zx, 1, none⟩ (.int .i64 (lookV k e.l).2.1)).setCell ⟨zx, 2, none⟩ (.string (lookV k e.l).2.2)) := (((Kp.refl (fun q => q = zx) Wc).setCell (.inl rfl) _).setCell (.inl rfl) _).setCell (.inl rfl) _
            have hnd : zx ≠ D := fun e => by
              have h1 : Wc.heap[zx]? = some _ := bx
              rw [e, st.hd] at h1
              cases h1
            replace st := st.kpz kz (fun q hq => by rw [hq]; exact ⟨bz, fun ho => own_ne st.own bx (by decide) _ ho rfl, hnd⟩)
            replace sv := sv.kp kz hnv
            replace bx := ((bx.set0 (.int .u8 (lookV k e.l).1)).set1 (.int .i64 (lookV k e.l).2.1)).set2 (.string (lookV k e.l).2.2)
            refine hK.out _ _ ?_ (fun hH => ?_)
            · exact ⟨st, sv⟩
            clear hK K kz hnd
            refine tkH ?_ 10 hH ?_ ?_; rotate_left
            · intro W' hS; go_simp; with_reducible rfl
            simp only [tkr]
            refine wpAnyH_done (by kernel_rfl) ?_ _
            refine NoPanic.normal ?_
            clear l0 k0 k1 k2
            go_wp2_with fail
            go_meet
            exact ⟨zx, rfl, rfl, bx, st, sv⟩
          · go_simp
            have bx := C3.new Wc 74 (.int .u8 0) (.int .i64 0) (.string ⟨#[]⟩)
            have bz : n5 ≤ Wc.heap.size := st.zs.2.2.1
            have hnv : zv ≠ Wc.heap.size := by have := sv.lt; omega
            replace st := st.below ((Below.refl _ Wc).alloc (Nat.le_refl _) (.cells #[.int .u8 0, .int .i64 0, .string ⟨#[]⟩] 74))
            replace sv := sv.alloc (.cells #[.int .u8 0, .int .i64 0, .string ⟨#[]⟩] 74)
            refine hK.out _ _ ?_ (fun hH => ?_)
            · exact ⟨st, sv⟩
            clear hK K
            generalize World.alloc _ _ = Wn at st sv bx hH ⊢
            generalize Wc.heap.size = zx at bx bz hnv ⊢
            rename World => Wc
            refine rdH 4 rfl (fun K hK => ?_)
            go_simp
            refine (rlook w0.heap.size (.slice As e.l.length cs) k e.l Wc (by have := HWD.out.len e HE.out.1; omega) (by have := st.so; rw [HES.out] at this; exact this)).mono ?_
            rintro x Wc ⟨rfl, hb9⟩
            replace st := st.below hb9
            replace sv := sv.below hb9
            try replace bx := bx.below hb9
            clear hb9
            simp only
            refine hK.out _ _ ?_ (fun hH => ?_)
            · exact ⟨st, sv⟩
            clear hK K
            refine tkH ?_ 5 hH ?_ ?_; rotate_left
            · intro W' hS; go_simp; with_reducible rfl
            simp only [tkr]
            refine tkH ?_ 6 hH ?_ ?_; rotate_left
            · intro W' hS; go_simp; with_reducible rfl
            simp only [tkr]
            refine tkH ?_ 7 hH ?_ ?_; rotate_left
            · intro W' hS; go_simp; with_reducible rfl
            simp only [tkr]
            refine rdH 9 rfl (fun K hK => ?_)
            obtain ⟨a0, a1, a2, g0, g1, g2⟩ := bx.all
            go_simp
            clear a0 a1 a2 g0 g1 g2
            have kz : Kp (fun q => q = zx) Wc (((Wc.setCell ⟨zx, 0, none⟩ (.int .u8 (lookV k e.l).1)).setCell ⟨zx, 1, none⟩ (.int .i64 (lookV k e.l).2.1)).setCell ⟨zx, 2, none⟩ (.string (lookV k e.l).2.2)) := (((Kp.refl (fun q => q = zx) Wc).setCell (.inl rfl) _).setCell (.inl rfl) _).setCell (.inl rfl) _
            have hnd : zx ≠ D := fun e => by
              have h1 : Wc.heap[zx]? = some _ := bx
              rw [e, st.hd] at h1
              cases h1
            replace st := st.kpz kz (fun q hq => by rw [hq]; exact ⟨bz, fun ho => own_ne st.own bx (by decide) _ ho rfl, hnd⟩)
            replace sv := sv.kp kz hnv
            replace bx := ((bx.set0 (.int .u8 (lookV k e.l).1)).set1 (.int .i64 (lookV k e.l).2.1)).set2 (.string (lookV k e.l).2.2)
            refine hK.out _ _ ?_ (fun hH => ?_)
            · exact ⟨st, sv⟩
            clear hK K kz hnd
            refine tkH ?_ 10 hH ?_ ?_; rotate_left
            · intro W' hS; go_simp; with_reducible rfl
            simp only [tkr]
            refine wpAnyH_done (by kernel_rfl) ?_ _
            refine NoPanic.normal ?_
            clear l0 k0 k1 k2
            go_wp2_with fail
            go_meet
            exact ⟨zx, rfl, rfl, bx, st, sv⟩
        · go_simp
          have bx := C3.new Wc 74 (.int .u8 0) (.int .i64 0) (.string ⟨#[]⟩)
          have bz : n5 ≤ Wc.heap.size := st.zs.2.2.1
          have hnv : zv ≠ Wc.heap.size := by have := sv.lt; omega
          replace st := st.below ((Below.refl _ Wc).alloc (Nat.le_refl _) (.cells #[.int .u8 0, .int .i64 0, .string ⟨#[]⟩] 74))
          replace sv := sv.alloc (.cells #[.int .u8 0, .int .i64 0, .string ⟨#[]⟩] 74)
          refine hK.out _ _ ?_ (fun hH => ?_)
          · exact ⟨st, sv⟩
          clear hK K
          generalize World.alloc _ _ = Wn at st sv bx hH ⊢
          generalize Wc.heap.size = zx at bx bz hnv ⊢
          rename World => Wc
          refine rdH 3 rfl (fun K hK => ?_)
          go_simp
          refine (lof8 k Wc).mono ?_
          rintro x Wc ⟨rfl, hb9⟩
          replace st := st.below hb9
          replace sv := sv.below hb9
          try replace bx := bx.below hb9
          clear hb9
          simp only
          refine hK.out _ _ ?_ (fun hH => ?_)
          · exact ⟨st, sv⟩
          clear hK K
          refine rdH 4 rfl (fun K hK => ?_)
          go_simp
          refine (rlook w0.heap.size (.slice As e.l.length cs) k e.l Wc (by have := HWD.out.len e HE.out.1; omega) (by have := st.so; rw [HES.out] at this; exact this)).mono ?_
          rintro x Wc ⟨rfl, hb9⟩
          replace st := st.below hb9
          replace sv := sv.below hb9
          try replace bx := bx.below hb9
          clear hb9
          simp only
          refine hK.out _ _ ?_ (fun hH => ?_)
          · exact ⟨st, sv⟩
          clear hK K
          refine tkH ?_ 5 hH ?_ ?_; rotate_left
          · intro W' hS; go_simp; with_reducible rfl
          simp only [tkr]
          refine tkH ?_ 6 hH ?_ ?_; rotate_left
          · intro W' hS; go_simp; with_reducible rfl
          simp only [tkr]
          refine tkH ?_ 7 hH ?_ ?_; rotate_left
          · intro W' hS; go_simp; with_reducible rfl
          simp only [tkr]
          refine rdH 9 rfl (fun K hK => ?_)
          obtain ⟨a0, a1, a2, g0, g1, g2⟩ := bx.all
          go_simp
          clear a0 a1 a2 g0 g1 g2
          have kz : Kp (fun q => q = zx) Wc (((Wc.setCell ⟨zx, 0, none⟩ (.int .u8 (lookV k e.l).1)).setCell ⟨zx, 1, none⟩ (.int .i64 (lookV k e.l).2.1)).setCell ⟨zx, 2, none⟩ (.string (lookV k e.l).2.2)) := (((Kp.refl (fun q => q = zx) Wc).setCell (.inl rfl) _).setCell (.inl rfl) _).setCell (.inl rfl) _
          have hnd : zx ≠ D := fun e => by
            have h1 : Wc.heap[zx]? = some _ := bx
            rw [e, st.hd] at h1
            cases h1
          replace st := st.kpz kz (fun q hq => by rw [hq]; exact ⟨bz, fun ho => own_ne st.own bx (by decide) _ ho rfl, hnd⟩)
          replace sv := sv.kp kz hnv
          replace bx := ((bx.set0 (.int .u8 (lookV k e.l).1)).set1 (.int .i64 (lookV k e.l).2.1)).set2 (.string (lookV k e.l).2.2)
          refine hK.out _ _ ?_ (fun hH => ?_)
          · exact ⟨st, sv⟩
          clear hK K kz hnd
          refine tkH ?_ 10 hH ?_ ?_; rotate_left
          · intro W' hS; go_simp; with_reducible rfl
          simp only [tkr]
          refine wpAnyH_done (by kernel_rfl) ?_ _
          refine NoPanic.normal ?_
          clear l0 k0 k1 k2
          go_wp2_with fail
          go_meet
          exact ⟨zx, rfl, rfl, bx, st, sv⟩
      case rest =>
        obtain ⟨zx, rfl, rfl, bx, sl, sv⟩ := hcut
        obtain ⟨As, cs, hes, _⟩ := (Rd.of_own sl.so).form
        have y2 := Gb.cell (show wc.cell? ⟨ze, 2, none⟩ = some (.slice As e.l.length cs) by rw [← hes]; exact sl.eb.c2) sl.eb.lt
        have HRS := Lib.hid (fun W' (h : Below wc.heap.size wc W') => rsame e.l vg (.slice As e.l.length cs) W' (Rd.of_own ((Kp.of_below h (fun _ => False)).own sl.own (fun _ _ h => h))) (by have := Rd.of_own ((Kp.of_below h (fun _ => False)).own sl.so (fun _ _ h => h)); rw [hes] at this; exact this) (by have := HWD.out.len e HE.out.1; omega))
        have y0 := Gb.cell sl.eb.c0 sl.eb.lt
        have yg := Gb.cell sl.gb.c0 sl.gb.lt
        generalize lookV k e.l = lv at bx sv S6
        obtain ⟨lk, ln, ls⟩ := lv
        have v0 := Gb.cell sv.c0 sv.lt
        have v1 := Gb.cell sv.c1 sv.lt
        have v2 := Gb.cell sv.c2 sv.lt
        have x0 := Gb.cell bx.c0 bx.lt
        have x1 := Gb.cell bx.c1 bx.lt
        have x2 := Gb.cell bx.c2 bx.lt
        simp only at v0 v1 v2 x0 x1 x2
        have S7 := Lib.hid sl
        clear hes bx sl sv S6
        generalize hasB k e.l = hb
        go_upto_region 7 with fail
        refine region_below (by kernel_rfl) (by kernel_rfl) ?_
        repeat (go_big_quiet_step ((first
          | (go_at_call 85; exact Gb.calls _ (HRS.out _ (Gb.below _)))
          | (go_at_call 78; exact Gb.calls _ (lof8 (lk, ln, ls) _)))))
        refine wpQuiet_nil ?_
        rintro _ ⟨g9, rfl⟩
        have S8 := Lib.hid (S7.out.below g9.below)
        generalize g9.at' = w9 at S8 ⊢
        clear y0 y2 yg v0 v1 v2 x0 x1 x2 S7 g9 HRS
        go_wp2_with fail
        refine ⟨by simp, .inl ⟨_, _, rfl, run_takeDeferred S8.out.hd, ?_⟩⟩
        have hz := S8.out.zs
        exact ⟨_, by simp [results, Tryz.results18, go_sem], rfl, S8.out.kp.trans (kp_putObj (x := D)) (fun q e => .inr (by omega)), S8.out.hh.kp (kp_putObj (x := D)) (by omega)⟩
  · intro D c i W' _ _ hI
    exact hI.elim
end
end Go.Proofs.YthcpjehkjhpjfaaGreat
