/- Several texts in one. -/
import Derived.Test.YtghbbpbhbinioaaGreatMr25
import Derived.Test.YtghbbpbhbinioaaGreatMr20
import Derived.Test.YtghbbpbhbinioaaGreatMr11
import Derived.Test.YtghbbpbhbinioaaGreatMr15
import Derived.Test.YtghbbpbhbinioaaGreatMr16
import Derived.IntWalk
set_option linter.unusedSimpArgs false
namespace Go.Proofs.YtghbbpbhbinioaaGreat
set_option maxRecDepth 100000
set_option linter.unusedSimpArgs false
set_option linter.unusedVariables false
open Go.RowKit
structure Tq (W : World) (z6 z12 N root : Nat) (x : Yv) : Prop where
  tree : C2 W z6 72 (.int .i64 (N : Int)) (.int .i64 (root : Int))
  way : BC W z12 146 (ycells x)
theorem Tq.kp {W W' : World} {z6 z12 N root : Nat} {x : Yv} {G : Nat → Prop} (h : Tq W z6 z12 N root x) (hk : Kp G W W') (h6 : ¬ G z6) (h12 : ¬ G z12) : Tq W' z6 z12 N root x := ⟨h.tree.kp hk h6, h.way.kp hk h12⟩
theorem Tq.below {W W' : World} {z6 z12 N root : Nat} {x : Yv} (h : Tq W z6 z12 N root x) (hb : Below W.heap.size W W') : Tq W' z6 z12 N root x := h.kp (Kp.of_below hb (fun _ => False)) id id
section
variable {most : Nat} {M : Cells} {F : Nat → Prop}
set_option maxHeartbeats 8000000 in
theorem tTake (b bh seed root : Nat) (k : Ky) (ow : Int) (l : List Pr) (P : Nat → Nat) (w : World) (h : Ar w b most M F) (hm : most ≤ 1048576) (hb : Bk (most + 1) M [] P [root]) (hP : ∀ j, P j ≤ 576460752303423488) (hT : TT M root l) (hh : Hs w bh seed) (nbh : ¬ F bh) (hl : l.length ≤ 1024) (hroom : ow = 0 ∨ live (most + 1) M + l.length ≤ most) :
    Calls Tryz.prog 43 #[land b bh, .agg #[.int .i64 (l.length : Nat), .int .i64 (root : Nat)], xagg k, .int .u32 ow] w fun e w' => ∃ N n er : Int, e = .returned (.tuple #[.agg #[.int .i64 N, .int .i64 n], .int .i64 er]) ∧ (hasB k l = false ∧ N = 0 ∧ n = 0 ∧ er = 4 ∧ Below w.heap.size w w' ∨ hasB k l = true ∧ PutR w w' b bh seed most M F P root ow (takeL k l) l.length N n er) := by
  have hF : ∀ q, F q → q < w.heap.size := fun q hq => h.lt hq
  have hbl := hh.lt
  have hsl := hT.srt
  obtain ⟨L, hL⟩ : ∃ L, L = takeL k l := ⟨_, rfl⟩
  rw [← hL]
  have HWT := Lib.hid (fun (W : World) (hW : Below w.heap.size w W) => wayTo (l := l) (bh := bh) l.length root k ow W (h.below hW) h.zero hT (by omega))
  have HTAKE := Lib.hid (fun (x : Yv) (cl : List Nv) (lj pre suf la lb : List Pr) (B : Nat) (W : World) (hW : Below w.heap.size w W) (hwB : w.heap.size ≤ B) (hBW : B ≤ W.heap.size) (hwt : WayT M W B b bh root ow k l x cl x.nd.cell lj pre suf) (hnd : NdP M W x.nd la lb lj) (hkk : x.nd.key = k) (hs1 : x.nd.shared ≤ 1) => show Calls Tryz.prog 80 #[yagg x] W (fun e w' => ChgH W w' b bh seed most M F P root ow L l.length e ∧ (L.length + 1 = l.length ∧ hasB k l = true)) from by
    obtain ⟨e1, e2, e3, e4, e5, e6⟩ := hwt.head
    have hlx : l = (pre ++ la) ++ (x.nd.key, x.nd.val) :: (lb ++ suf) := by have := hwt.way.chain.eq; rw [List.append_nil, List.append_nil] at this; rw [this, hnd.eq]; simp
    have hLe : pre ++ (la ++ lb) ++ suf = L := by
      rw [hL, ← hkk]
      have h2 := hsl
      rw [hlx] at h2 ⊢
      rw [← take_mid h2]
      simp
    have hsL : Srt h0 L := by
      have h2 := hsl
      rw [hlx] at h2
      rw [← hLe, show pre ++ (la ++ lb) ++ suf = (pre ++ la) ++ (lb ++ suf) by simp]
      exact List.Pairwise.sublist (List.Sublist.append (List.Sublist.refl _) (List.sublist_cons_self _ _)) h2
    have hhas : hasB k l = true := hasB_iff.2 ⟨(x.nd.key, x.nd.val), by rw [hlx]; simp, hkk⟩
    have hlen : L.length + 1 = l.length := by
      rw [← hLe, hlx]
      simp only [List.length_append, List.length_cons]
      omega
    have call := ttake x B cl l lj pre suf la lb P W (by rw [e1]; exact h.below hW) hm (by rw [e5]; exact hb) hP (by rw [e1, e2, e3, e4, e5]; exact hwt) hnd (by rw [e4]; exact hkk) hs1 (by rw [hLe]; exact hsL) hl (fun q hq => by have := hF q hq; omega) hBW (by rw [e3]; exact hroom)
    rw [e1, e3, e5, hLe] at call
    refine call.mono ?_
    rintro e w' hR
    exact ⟨hR.h (bh := bh) (seed := seed) (hh.below hW) nbh, hlen, hhas⟩)
  obtain ⟨W0, hW0⟩ : ∃ W0, W0 = ((((w.alloc (.cells #[ap b, .pointer (some ⟨bh, 0, none⟩)] 26)).alloc (.cells #[.int .i64 (l.length : Int), .int .i64 (root : Int)] 72)).alloc (.cells #[.int .u8 k.1, .int .i64 k.2.1, .string k.2.2] 36)).alloc (.cells #[.int .i64 0, .int .i64 0] 72)) := ⟨_, rfl⟩
  have hsz : W0.heap.size = w.heap.size + 1 + 1 + 1 + 1 := by rw [hW0]; simp
  have hb0 : Below w.heap.size w W0 := by rw [hW0]; exact ((((Below.refl _ w).alloc (Nat.le_refl _) _).alloc (by simp) _).alloc (by simp; omega) _).alloc (by simp; omega) _
  have q5 : C2 W0 w.heap.size 26 (ap b) (.pointer (some ⟨bh, 0, none⟩)) := by rw [hW0]; exact (((C2.new w 26 (ap b) (.pointer (some ⟨bh, 0, none⟩))).alloc _).alloc _).alloc _
  have q6 : C2 W0 (w.heap.size + 1) 72 (.int .i64 (l.length : Int)) (.int .i64 (root : Int)) := by
    have h := ((C2.new (w.alloc (.cells #[ap b, .pointer (some ⟨bh, 0, none⟩)] 26)) 72 (.int .i64 (l.length : Int)) (.int .i64 (root : Int))).alloc (.cells #[.int .u8 k.1, .int .i64 k.2.1, .string k.2.2] 36)).alloc (.cells #[.int .i64 0, .int .i64 0] 72)
    rw [hW0]
    simpa using h
  have q7 : C3 W0 (w.heap.size + 1 + 1) 36 (.int .u8 k.1) (.int .i64 k.2.1) (.string k.2.2) := by
    have h := (C3.new ((w.alloc (.cells #[ap b, .pointer (some ⟨bh, 0, none⟩)] 26)).alloc (.cells #[.int .i64 (l.length : Int), .int .i64 (root : Int)] 72)) 36 (.int .u8 k.1) (.int .i64 k.2.1) (.string k.2.2)).alloc (.cells #[.int .i64 0, .int .i64 0] 72)
    rw [hW0]
    simpa using h
  have q10 : C2 W0 (w.heap.size + 1 + 1 + 1) 72 (.int .i64 0) (.int .i64 0) := by
    have h := C2.new (((w.alloc (.cells #[ap b, .pointer (some ⟨bh, 0, none⟩)] 26)).alloc (.cells #[.int .i64 (l.length : Int), .int .i64 (root : Int)] 72)).alloc (.cells #[.int .u8 k.1, .int .i64 k.2.1, .string k.2.2] 36)) 72 (.int .i64 0) (.int .i64 0)
    rw [hW0]
    simpa using h
  obtain ⟨z5, hz5⟩ : ∃ z, z = w.heap.size := ⟨_, rfl⟩
  obtain ⟨z6, hz6⟩ : ∃ z, z = w.heap.size + 1 := ⟨_, rfl⟩
  obtain ⟨z7, hz7⟩ : ∃ z, z = w.heap.size + 1 + 1 := ⟨_, rfl⟩
  obtain ⟨z10, hz10⟩ : ∃ z, z = w.heap.size + 1 + 1 + 1 := ⟨_, rfl⟩
  have HW0 := Lib.hid hW0
  have HZZ := Lib.hid (And.intro hz5 (And.intro hz6 (And.intro hz7 hz10)))
  have HX := Lib.hid (And.intro hF (And.intro hbl (And.intro nbh (And.intro (show z6 = w.heap.size + 1 ∧ z10 = w.heap.size + 3 ∧ W0.heap.size = w.heap.size + 4 from ⟨hz6, hz10, hsz⟩) (show l.length ≤ 1024 from hl)))))
  rw [← hz5] at q5
  rw [← hz6] at q6
  rw [← hz7] at q7
  rw [← hz10] at q10
  have QQ := Lib.hid (And.intro q6 (And.intro q10 hb0))
  obtain ⟨a0, a1, _⟩ := q5.all
  obtain ⟨b0, b1, _⟩ := q6.all
  obtain ⟨d0, d1, d2, _⟩ := q7.all
  clear h hb hP hT hh nbh hl hroom hF hbl hsl hL hW0 hsz hb0 q5 q6 q7 q10 hz5 hz6 hz7 hz10 hm
  go_enter Tryz.func43, Tryz.ntmps43
  go_upto_region 1 with fail
  rw [← HW0.out]
  clear HW0
  obtain ⟨e1, e2, e3, e4⟩ := HZZ.out
  rw [← e4, ← e3, ← e2, ← e1]
  clear e1 e2 e3 e4 HZZ
  go_wp2_with fail
  refine (HWT.out W0 QQ.out.2.2).mono ?_
  rintro e w2 ⟨x, cl, i, lj, pre, suf, rfl, hwt, hb2, hend⟩
  have HB2 := Lib.hid (QQ.out.2.2.trans (hb2.mono QQ.out.2.2.size))
  have QQ2 := Lib.hid (And.intro (QQ.out.1.below hb2) (QQ.out.2.1.below hb2))
  have HEND := Lib.hid (And.intro hwt hend)
  have HS2 := Lib.hid hb2.size
  have HS1B := Lib.hid QQ.out.2.2.size
  clear hwt hend hb2 a0 a1 b0 b1 d0 d1 d2 QQ HWT
  go_upto_region 2 with (refine wpList_store_whole rfl _ _ _ rfl w2.heap.size _ _ (ycells x) rfl rfl (BC.new w2 _ _) rfl way_size (ycells_one _) ?_)
  intro W3 q12 k3
  have hb3 : Below w2.heap.size w2 W3 := (((Kp.refl (fun q => q = w2.heap.size) w2).alloc _).trans k3 (fun _ e => .inl e)).below (fun _ e => by omega)
  have pq : Tq W3 z6 w2.heap.size l.length root x := ⟨QQ2.out.1.below hb3, q12⟩
  have m10 := QQ2.out.2.below hb3
  have HB3 := Lib.hid (HB2.out.trans (hb3.mono HB2.out.size))
  have HBX := Lib.hid hb3
  have x22 := q12.way.2.2.2.2.2.2.2.2.2.2.2.2.2.2.2.2.2.2.2.2.2.2
  obtain ⟨z12, hz12⟩ : ∃ z, z = w2.heap.size := ⟨_, rfl⟩
  have HZ12 := Lib.hid (show z10 < z12 from by rw [hz12]; have := HS2.out; have := HX.out.2.2.2.1; omega)
  have HSW := Lib.hid (show W0.heap.size ≤ w2.heap.size from HS2.out)
  rw [← hz12] at pq x22 ⊢
  clear k3 q12 hb3 QQ2 HB2 HS2 hz12
  rcases HEND.out.2 with ⟨hx, hi, hlj, hno⟩ | ⟨hx, hkk, hci, hsh, hfr, hval, la, lb, hnd⟩
  · rw [hx] at x22
    have hhas : hasB k l = false := by rw [hasB_look, hno]; rfl
    have M10 := Lib.hid m10
    obtain ⟨c0, c1, f0, f1⟩ := m10.all
    have hfin := HB3.out.setCell (p := ⟨z10, 0, none⟩) (by show w.heap.size ≤ z10; have := HX.out.2.2.2.1; omega) (.int .i64 0)
    have hfin2 := hfin.setCell (p := ⟨z10, 1, none⟩) (by show w.heap.size ≤ z10; have := HX.out.2.2.2.1; omega) (.int .i64 0)
    have HFIN := Lib.hid hfin2
    have HM2 := Lib.hid ((m10.set0 (.int .i64 0)).set1 (.int .i64 0))
    clear hx hi hlj hno m10 pq hfin hfin2
    go_wp2_with fail
    clear c0 c1 f0 f1
    obtain ⟨c0, c1, _⟩ := HM2.out.all
    exact bodyPost_ret (v := .tuple #[.agg #[.int .i64 0, .int .i64 0], .int .i64 4]) (by simp [results, Tryz.results43, go_sem, c0, c1]) rfl ⟨0, 0, 4, rfl, .inl ⟨hhas, rfl, rfl, rfl, HFIN.out⟩⟩
  · rw [hx] at x22
    subst hci
    have HNO := Lib.hid (And.intro hkk (And.intro hsh hnd))
    clear hkk hsh hfr hval hnd
    have HPQ := Lib.hid pq
    have M10 := Lib.hid m10
    clear pq m10 hx
    go_upto_region 4 with fail
    clear x22
    have t0 : ∀ W', Tq W' z6 z12 l.length root x → W'.cell? ⟨z6, 0, none⟩ = some (.int .i64 (l.length : Int)) := fun W' h => h.tree.c0
    have t1 : ∀ W', Tq W' z6 z12 l.length root x → W'.cell? ⟨z6, 1, none⟩ = some (.int .i64 (root : Int)) := fun W' h => h.tree.c1
    have hbd : Below W3.heap.size W3 W3.drew := (Below.refl _ W3).drew
    refine wp_region_noPanic ?_
    refine wp_region_held_drew (S := fun W' => Tq W' z6 z12 l.length root x) (by kernel_rfl) (HPQ.out.below hbd) (fun hH => ?_)
    have m10 := M10.out.below hbd
    have hB3 := HB3.out.trans (hbd.mono HB3.out.size)
    have hBX := HBX.out.trans (hbd.mono HBX.out.size)
    generalize W3.drew = Wc at hH m10 hB3 hBX ⊢
    clear hbd HPQ M10 HB3 HBX
    refine tkH ?_ 0 hH ?_ ?_; rotate_left
    · intro W' hS; go_simp; with_reducible rfl
    simp only [tkr]
    refine wpAnyH_take (i := 2) (v := yagg x) rfl (by kernel_rfl) (by kernel_rfl) (by kernel_rfl) (fun _ _ _ h => h) (Or.inl ⟨by rfl, fun W' hS => exec_way rfl rfl (Tq.way hS)⟩) hH ?_
    simp only [Act.put, List.setIfInBounds_toArray, List.set_cons_zero, List.set_cons_succ, List.getElem_toArray, List.getElem_cons_zero, List.getElem_cons_succ]
    refine rdH 1 rfl (fun K hK => ?_)
    go_simp
    refine (tgrown l.length root (-1) _).mono ?_
    rintro e Wn ⟨zt, zb, rfl, qt, qb, gt, gb, hbn⟩
    have hH2 := hH.below hbn
    replace m10 := m10.below hbn
    replace hB3 := hB3.trans (hbn.mono hB3.size)
    replace hBX := hBX.trans (hbn.mono hBX.size)
    have hl10 : z12 < Wc.heap.size := hH.way.lt
    have HG := Lib.hid (And.intro gt (And.intro gb hl10))
    simp only
    refine hK.out _ _ hH2 (fun hH => ?_)
    clear hK K hH2 hbn gt gb hl10
    rename World => Wc
    refine rdH 3 rfl (fun K hK => ?_)
    go_simp
    refine (HTAKE.out x cl lj pre suf la lb _ _ hB3 HS1B.out (by have := HSW.out; have := hBX.size; omega) (HEND.out.1.below hBX) (HNO.out.2.2.below hBX) HNO.out.1 HNO.out.2.1).mono ?_
    rintro e Wn ⟨hR, hLL⟩
    have hkz : ∀ z, z12 ≤ z ∨ z = z6 ∨ z = z10 → ¬ (F z ∨ z = bh) := fun z hz hf => by
      have hxx := HX.out
      rcases hf with hf | hf
      · have := hxx.1 z hf; have := HZ12.out; omega
      · have := hxx.2.1; have := HZ12.out; omega
    obtain ⟨v1', v2', rfl⟩ : ∃ v1' v2', e = .returned (.tuple #[v1', v2']) := by
      rcases hR with ⟨n, M', he, _⟩ | ⟨he, _⟩
      · exact ⟨_, _, he⟩
      · exact ⟨_, _, he⟩
    have hkp : Kp (fun q => F q ∨ q = bh) Wc Wn := by
      rcases hR with ⟨n, M', he, _, hS⟩ | ⟨he, _, _, hS, _⟩
      · exact hS.kp
      · exact hS.mono (fun _ e _ => .inr e)
    have hH2 := hH.kp hkp (hkz _ (.inr (.inl rfl))) (hkz _ (.inl (Nat.le_refl _)))
    have hzt : z12 ≤ zt ∧ z12 ≤ zb := by have := HG.out; omega
    replace qt := qt.kp hkp (hkz _ (.inl hzt.1))
    replace qb := qb.kp hkp (hkz _ (.inl hzt.2))
    replace m10 := m10.kp hkp (hkz _ (.inr (.inr rfl)))
    have HR := Lib.hid (And.intro hR (And.intro hLL (And.intro hB3 hB3.size)))
    have HSZ := Lib.hid (show z10 < Wc.heap.size by have := hH.way.lt; have := HZ12.out; omega)
    simp only
    refine hK.out _ _ hH2 (fun hH => ?_)
    clear hK K hH2 hR hLL hkz hkp hzt hB3 hBX
    rename World => Wc
    refine tkH ?_ 4 hH ?_ ?_; rotate_left
    · intro W' hS; go_simp; with_reducible rfl
    simp only [tkr]
    refine tkH ?_ 5 hH ?_ ?_; rotate_left
    · intro W' hS; go_simp; with_reducible rfl
    simp only [tkr]
    refine rdH 6 rfl (fun K hK => ?_)
    go_simp
    refine (tgrown_any HR.out.1 (fun q hq => by have := HX.out.1 q hq; have := HR.out.2.2.2; omega) (by have := HX.out.2.1; have := HR.out.2.2.2; omega) l.length root (-1) zt zb qt qb (by have := HR.out.2.1.1; omega) (by have := HR.out.2.1.1; have := HX.out.2.2.2.2; omega)).mono ?_
    rintro e Wn ⟨N', n', er, rfl, hbn, hPR⟩
    have hH2 := hH.below hbn
    replace m10 := m10.below hbn
    have HPR := Lib.hid hPR
    simp only
    refine hK.out _ _ hH2 (fun hH => ?_)
    clear hK K hH2 hbn hPR qt qb
    rename World => Wc
    refine tkH ?_ 7 hH ?_ ?_; rotate_left
    · intro W' hS; go_simp; with_reducible rfl
    simp only [tkr]
    refine tkH ?_ 8 hH ?_ ?_; rotate_left
    · intro W' hS; go_simp; with_reducible rfl
    simp only [tkr]
    refine rdH 9 rfl (fun K hK => ?_)
    obtain ⟨c0, c1, f0, f1⟩ := m10.all
    go_simp
    clear c0 c1 f0 f1
    have kz : Kp (fun q => q = z10) Wc ((Wc.setCell ⟨z10, 0, none⟩ (.int .i64 N')).setCell ⟨z10, 1, none⟩ (.int .i64 n')) := ((Kp.refl (fun q => q = z10) Wc).setCell (.inl rfl) _).setCell (.inl rfl) _
    have m2 := (m10.set0 (.int .i64 N')).set1 (.int .i64 n')
    have hH2 := hH.kp kz (fun e => by have := HX.out.2.2.2.1; omega) (fun e => by have := HZ12.out; omega)
    have hFIN := HPR.out.close HX.out.1 HX.out.2.1 (Kp.of_below HR.out.2.2.1 _) kz (fun q e => by subst e; exact ⟨by have := HX.out.2.2.2.1; omega, HSZ.out⟩)
    have HFIN := Lib.hid (And.intro hFIN m2)
    refine hK.out _ _ hH2 (fun hH => ?_)
    clear hK K hH2 kz m2 hFIN m10 HPR
    generalize World.setCell _ _ _ = Wn at hH HFIN ⊢
    rename World => Wc
    refine tkH ?_ 10 hH ?_ ?_; rotate_left
    · intro W' hS; go_simp; with_reducible rfl
    simp only [tkr]
    refine wpAnyH_done (by kernel_rfl) ?_ _
    refine NoPanic.normal ?_
    clear t0 t1
    go_wp2_with fail
    obtain ⟨c0, c1, _⟩ := HFIN.out.2.all
    exact bodyPost_ret (v := .tuple #[.agg #[.int .i64 N', .int .i64 n'], .int .i64 er]) (by simp [results, Tryz.results43, go_sem, c0, c1]) rfl ⟨N', n', er, rfl, .inr ⟨HR.out.2.1.2, HFIN.out.1⟩⟩
end
end Go.Proofs.YtghbbpbhbinioaaGreat

namespace Go.Proofs.YtghbbpbhbinioaaGreat
set_option maxRecDepth 100000
set_option linter.unusedSimpArgs false
set_option linter.unusedVariables false
open Go.RowKit
structure Lk (w W : World) (b bh z3 z5 z6 z8 : Nat) (k : Ky) (n : Nv) : Prop where
  land : C2 W z3 26 (ap b) (.pointer (some ⟨bh, 0, none⟩))
  key : C3 W z5 36 (.int .u8 k.1) (.int .i64 k.2.1) (.string k.2.2)
  res : C3 W z6 36 (.int .u8 0) (.int .i64 0) (.string ⟨#[]⟩)
  node : BC W z8 144 (ncells n)
  far : Below w.heap.size w W ∧ w.heap.size ≤ z3 ∧ w.heap.size ≤ z5 ∧ w.heap.size ≤ z6 ∧ w.heap.size ≤ z8 ∧ z3 < z8 ∧ z5 < z8 ∧ z6 < z8
theorem Lk.below {w W W' : World} {b bh z3 z5 z6 z8 : Nat} {k : Ky} {n : Nv} (h : Lk w W b bh z3 z5 z6 z8 k n) (hb : Below W.heap.size W W') : Lk w W' b bh z3 z5 z6 z8 k n :=
  ⟨h.land.below hb, h.key.below hb, h.res.below hb, h.node.below hb, h.far.1.trans (hb.mono h.far.1.size), h.far.2⟩
theorem Lk.set {w W : World} {b bh z3 z5 z6 z8 : Nat} {k : Ky} {n : Nv} (h : Lk w W b bh z3 z5 z6 z8 k n) (m : Nv) : Lk w (setN W z8 m) b bh z3 z5 z6 z8 k m := by
  obtain ⟨f0, f1, f2, f3, f4, f5, f6, f7⟩ := h.far
  have kz := kp_setN W z8 m
  exact ⟨h.land.kp kz (by omega), h.key.kp kz (by omega), h.res.kp kz (by omega), h.node.setN m, below_setN f0 f4 m, f1, f2, f3, f4, f5, f6, f7⟩
section
variable {W : World} {z : Nat} {n m : Nv}
theorem Lim.setN {v : Option Addr} {P : Ky → Prop} (h : Lim W v P) (hz : BC W z 144 (ncells n)) : Lim (Proofs.YtghbbpbhbinioaaGreat.setN W z m) v P := by
  rcases h with h | ⟨g, k, e, c, p⟩
  · exact .inl h
  · refine .inr ⟨g, k, e, c.kp (kp_setN W z m) (fun e2 => ?_), p⟩
    have h1 : W.heap[g]? = some _ := c
    have h2 : W.heap[z]? = some _ := hz
    rw [e2, h2] at h1
    simp only [Option.some.injEq, Obj.cells.injEq] at h1
    exact absurd h1.2.1 (by decide)
theorem Rp.setN {M : Cells} {i s : Nat} {lo hi : Option Addr} {l : List Pr} {x : Nv} {ok : Bool} (h : Rp M W i s lo hi l x ok) (hz : BC W z 144 (ncells n)) : Rp M (Proofs.YtghbbpbhbinioaaGreat.setN W z m) i s lo hi l x ok := by
  rcases h with h | ⟨h1, h2, h3, h4, h5, la, lb, h⟩
  · exact .inl h
  · exact .inr ⟨h1, h2, h3, h4, h5, la, lb, h.node, h.treex, h.treey, h.eq, h.srt, h.low.setN hz, h.high.setN hz, h.fresh⟩
end
section
variable {b bh most : Nat} {M : Cells} {F : Nat → Prop} {l : List Pr}
set_option maxHeartbeats 8000000 in
theorem tLook (N root : Nat) (k : Ky) (w : World) (h : Ar w b most M F) (hz : M 0 = none) (hT : TT M root l) :
    Calls Tryz.prog 42 #[land b bh, .agg #[.int .i64 (N : Nat), .int .i64 (root : Nat)], xagg k] w fun e w' => e = .returned (.tuple #[xagg (lookV k l), .bool (hasB k l)]) ∧ Below w.heap.size w w' := by
  obtain ⟨W0, hW0⟩ : ∃ W0, W0 = (((w.alloc (.cells #[ap b, .pointer (some ⟨bh, 0, none⟩)] 26)).alloc (.cells #[.int .i64 (N : Int), .int .i64 (root : Int)] 72)).alloc (.cells #[.int .u8 k.1, .int .i64 k.2.1, .string k.2.2] 36)).alloc (.cells #[.int .u8 0, .int .i64 0, .string ⟨#[]⟩] 36) := ⟨_, rfl⟩
  have hsz : W0.heap.size = w.heap.size + 1 + 1 + 1 + 1 := by rw [hW0]; simp
  have hb0 : Below w.heap.size w W0 := by rw [hW0]; exact ((((Below.refl _ w).alloc (Nat.le_refl _) _).alloc (by simp) _).alloc (by simp; omega) _).alloc (by simp; omega) _
  have q1 : C2 W0 w.heap.size 26 (ap b) (.pointer (some ⟨bh, 0, none⟩)) := by rw [hW0]; exact (((C2.new w 26 (ap b) (.pointer (some ⟨bh, 0, none⟩))).alloc _).alloc _).alloc _
  have q2 : C2 W0 (w.heap.size + 1) 72 (.int .i64 (N : Int)) (.int .i64 (root : Int)) := by
    have h := ((C2.new (w.alloc (.cells #[ap b, .pointer (some ⟨bh, 0, none⟩)] 26)) 72 (.int .i64 (N : Int)) (.int .i64 (root : Int))).alloc (.cells #[.int .u8 k.1, .int .i64 k.2.1, .string k.2.2] 36)).alloc (.cells #[.int .u8 0, .int .i64 0, .string ⟨#[]⟩] 36)
    rw [hW0]
    simpa using h
  have q3 : C3 W0 (w.heap.size + 1 + 1) 36 (.int .u8 k.1) (.int .i64 k.2.1) (.string k.2.2) := by
    have h := (C3.new ((w.alloc (.cells #[ap b, .pointer (some ⟨bh, 0, none⟩)] 26)).alloc (.cells #[.int .i64 (N : Int), .int .i64 (root : Int)] 72)) 36 (.int .u8 k.1) (.int .i64 k.2.1) (.string k.2.2)).alloc (.cells #[.int .u8 0, .int .i64 0, .string ⟨#[]⟩] 36)
    rw [hW0]
    simpa using h
  have q4 : C3 W0 (w.heap.size + 1 + 1 + 1) 36 (.int .u8 0) (.int .i64 0) (.string ⟨#[]⟩) := by
    have h := C3.new (((w.alloc (.cells #[ap b, .pointer (some ⟨bh, 0, none⟩)] 26)).alloc (.cells #[.int .i64 (N : Int), .int .i64 (root : Int)] 72)).alloc (.cells #[.int .u8 k.1, .int .i64 k.2.1, .string k.2.2] 36)) 36 (.int .u8 0) (.int .i64 0) (.string ⟨#[]⟩)
    rw [hW0]
    simpa using h
  obtain ⟨z3, hz3⟩ : ∃ z, z = w.heap.size := ⟨_, rfl⟩
  obtain ⟨z4, hz4⟩ : ∃ z, z = w.heap.size + 1 := ⟨_, rfl⟩
  obtain ⟨z5, hz5⟩ : ∃ z, z = w.heap.size + 1 + 1 := ⟨_, rfl⟩
  obtain ⟨z6, hz6⟩ : ∃ z, z = w.heap.size + 1 + 1 + 1 := ⟨_, rfl⟩
  have HW0 := Lib.hid hW0
  have HB0 := Lib.hid hb0
  have HZZ := Lib.hid (And.intro hz3 (And.intro hz4 (And.intro hz5 hz6)))
  rw [← hz6] at q4
  have ZL := Lib.hid (show z3 = w.heap.size ∧ z5 = w.heap.size + 2 ∧ z6 = w.heap.size + 3 ∧ W0.heap.size = w.heap.size + 4 from ⟨hz3, hz5, hz6, hsz⟩)
  rw [← hz3] at q1
  rw [← hz4] at q2
  rw [← hz5] at q3
  have QQ := Lib.hid (And.intro q1 (And.intro q3 q4))
  have HRD := Lib.hid (fun (i s : Nat) (lo hi : Option Addr) (l' : List Pr) (W : World) (hW : Below w.heap.size w W) (hp : Pl M W i s lo hi l') => tread (bh := bh) i s lo hi W (h.below hW) hz hp)
  have HR0 := Lib.hid (show Pl M W0 root 0 none none l from .root hT)
  obtain ⟨x0, x1, _⟩ := q1.all
  obtain ⟨x2, x3, _⟩ := q2.all
  clear h hz hT hW0 hb0 hsz q1 q2 q3 q4 hz3 hz4 hz5 hz6
  go_enter Tryz.func42, Tryz.ntmps42
  go_upto_region 1 with fail
  rw [← HW0.out]
  clear HW0
  obtain ⟨e1, e2, e3, e4⟩ := HZZ.out
  rw [← e4, ← e3, ← e2, ← e1]
  clear e1 e2 e3 e4 HZZ
  go_wp2_with fail
  refine (HRD.out root 0 none none l _ HB0.out HR0.out).mono ?_
  rintro e w1 ⟨n, ok, rfl, hrp, hb1⟩
  have hb2 : Below w1.heap.size w1 (w1.alloc (.cells (ncells n) 144)) := (Below.refl _ w1).alloc (Nat.le_refl _) _
  have hlk : Lk w (w1.alloc (.cells (ncells n) 144)) b bh z3 z5 z6 w1.heap.size k n := by
    obtain ⟨s1, s2, s3, s4⟩ := ZL.out
    have s5 := hb1.size
    have hb3 : Below w.heap.size w w1 := HB0.out.trans (hb1.mono HB0.out.size)
    exact ⟨(QQ.out.1.below hb1).below hb2, (QQ.out.2.1.below hb1).below hb2, (QQ.out.2.2.below hb1).below hb2, BC.new w1 _ _, hb3.trans (hb2.mono hb3.size), by omega, by omega, by omega, by omega, by omega, by omega, by omega⟩
  have HLK := Lib.hid hlk
  have HRP := Lib.hid (hrp.below hb2)
  have q9 := BC.new w1 144 (ncells nzero)
  obtain ⟨f0, f1, f2, f3, f4, f5, f6, f7, f8, f9, f10, f11, f12, f13⟩ := q9.fz14
  obtain ⟨c0, c1, c2, c3, c4, c5, c6, c7, c8, c9, c10, c11, c12, c13⟩ := q9.node
  clear hlk hrp hb1 hb2 x0 x1 x2 x3 q9
  simp only at c0 c1 c2 c3 c4 c5 c6 c7 c8 c9 c10 c11 c12 c13
  go_wp2_with fail
  clear f0 f1 f2 f3 f4 f5 f6 f7 f8 f9 f10 f11 f12 f13 c0 c1 c2 c3 c4 c5 c6 c7 c8 c9 c10 c11 c12 c13
  change Code.wp _ _ _ _ (w1.alloc (.cells (ncells n) 144))
  obtain ⟨z8, hz8⟩ : ∃ z, z = w1.heap.size := ⟨_, rfl⟩
  rw [← hz8] at HLK ⊢
  clear hz8
  generalize w1.alloc _ = W1 at HLK HRP ⊢
  clear QQ ZL HB0 HR0
  go_loopg [9] l.length (fun c' s9 wr => ∃ n ok i s lo hi lj, s9 = .bool ok ∧ lj.length = c' ∧ lookL k l = lookL k lj ∧ Lk w wr b bh z3 z5 z6 z8 k n ∧ Rp M wr i s lo hi lj n ok)
  case atStart => exact ⟨n, ok, root, 0, none, none, l, rfl, rfl, rfl, HLK.out, HRP.out⟩
  case round =>
    clear HLK HRP
    obtain ⟨n, ok, i, s, lo, hi, lj, rfl, hlj, hlook, hlk, hrp⟩ := hrel
    obtain ⟨a0, a1, a2, _⟩ := hlk.key.all
    obtain ⟨c0, c1, c2, c3, c4, c5, _⟩ := hlk.node.node
    obtain ⟨r0, r1, r2, g0, g1, g2⟩ := hlk.res.all
    have HLK := Lib.hid hlk
    rcases hrp with ⟨rfl, rfl, rfl, hv, _⟩ | ⟨rfl, hc, hs, hlo, hhi, la, lb, hnd⟩
    · have HV := Lib.hid (And.intro hv hlook)
      clear hlk hlook hlj hv
      go_wp2_with fail
      have hz : lookV k l = n.val := by unfold lookV; rw [HV.out.2, HV.out.1]; rfl
      have hh : hasB k l = false := by rw [hasB_look, HV.out.2]; rfl
      rw [hz, hh]
      have q6 := ((HLK.out.res.set0 (.int .u8 n.val.1)).set1 (.int .i64 n.val.2.1)).set2 (.string n.val.2.2)
      obtain ⟨r0, r1, r2, _⟩ := q6.all
      have hz6 := HLK.out.far.2.2.2.1
      exact bodyPost_ret (v := .tuple #[xagg n.val, .bool false]) (by simp [results, Tryz.results42, go_sem, r0, r1, r2]) rfl ⟨rfl, ((HLK.out.far.1.setCell hz6 _).setCell hz6 _).setCell hz6 _⟩
    · have HND := Lib.hid hnd
      clear hlk hnd hlo hhi hs hc
      by_cases hk : n.key = k
      · have HV := Lib.hid (And.intro hk hlook)
        have e0 : n.key.1 = k.1 := by rw [hk]
        have e1 : n.key.2.1 = k.2.1 := by rw [hk]
        have e2 : n.key.2.2 = k.2.2 := by rw [hk]
        rw [e0] at c0
        rw [e1] at c1
        rw [e2] at c2
        clear hk hlook hlj e0 e1 e2
        go_wp2_with fail
        obtain ⟨hk, hlook⟩ := HV.out
        have hl1 : lookL k l = some n.val := by rw [hlook, ← hk]; exact look_here HND.out
        have hz : lookV k l = n.val := by unfold lookV; rw [hl1]; rfl
        have hh : hasB k l = true := by rw [hasB_look, hl1]; rfl
        rw [hz, hh]
        have q6 := ((HLK.out.res.set0 (.int .u8 n.val.1)).set1 (.int .i64 n.val.2.1)).set2 (.string n.val.2.2)
        obtain ⟨r0, r1, r2, _⟩ := q6.all
        have hz6 := HLK.out.far.2.2.2.1
        exact bodyPost_ret (v := .tuple #[xagg n.val, .bool true]) (by simp [results, Tryz.results42, go_sem, r0, r1, r2]) rfl ⟨rfl, ((HLK.out.far.1.setCell hz6 _).setCell hz6 _).setCell hz6 _⟩
      · have h3 : ¬ n.key.1 = k.1 ∨ (k.1 = n.key.1 ∧ ¬ n.key.2.1 = k.2.1) ∨ (k.1 = n.key.1 ∧ k.2.1 = n.key.2.1 ∧ ¬ n.key.2.2.toList = k.2.2.toList) := by
          by_cases e0 : n.key.1 = k.1
          · by_cases e1 : n.key.2.1 = k.2.1
            · exact .inr (.inr ⟨e0.symm, e1.symm, fun e2 => hk (Prod.ext e0 (Prod.ext e1 (bytes_ext e2)))⟩)
            · exact .inr (.inl ⟨e0.symm, e1⟩)
          · exact .inl e0
        have HV := Lib.hid (And.intro hk (And.intro hlook hlj))
        clear hk hlook hlj
        rcases h3 with e0 | ⟨e0, e1⟩ | ⟨e0, e1, e2⟩
        all_goals try rw [e0] at a0
        all_goals try rw [e1] at a1
        all_goals go_upto_region 3 with fail
        all_goals try clear e2
        all_goals try clear e1
        all_goals try clear e0
        all_goals
          clear a0 a1 a2 c0 c1 c2 c3 c4 c5 r0 r1 r2 g0 g1 g2
          have l0 : ∀ W', Lk w W' b bh z3 z5 z6 z8 k n → W'.cell? ⟨z3, 0, none⟩ = some (ap b) := fun W' h => h.land.c0
          have l1 : ∀ W', Lk w W' b bh z3 z5 z6 z8 k n → W'.cell? ⟨z3, 1, none⟩ = some (.pointer (some ⟨bh, 0, none⟩)) := fun W' h => h.land.c1
          have k0 : ∀ W', Lk w W' b bh z3 z5 z6 z8 k n → W'.cell? ⟨z5, 0, none⟩ = some (.int .u8 k.1) := fun W' h => h.key.c0
          have k1 : ∀ W', Lk w W' b bh z3 z5 z6 z8 k n → W'.cell? ⟨z5, 1, none⟩ = some (.int .i64 k.2.1) := fun W' h => h.key.c1
          have k2 : ∀ W', Lk w W' b bh z3 z5 z6 z8 k n → W'.cell? ⟨z5, 2, none⟩ = some (.string k.2.2) := fun W' h => h.key.c2
          refine wp_region_noPanic ?_
          refine anyW_region (S := fun W' => Lk w W' b bh z3 z5 z6 z8 k n) [10, 11] (by kernel_rfl) (HLK.out.below (Below.refl _ wr).drew) (fun hH => ?_)
          replace HND := Lib.hid (HND.out.below (Below.refl _ wr).drew)
          generalize wr.drew = Wc at hH HND ⊢
          clear HLK
          refine AnyW.first (i := 0) (v := ?_) (by kernel_rfl) rfl (by kernel_rfl) (by kernel_rfl) (by kernel_rfl) (fun _ _ _ h => h) (Or.inl ⟨by rfl, ?_⟩) hH ?_
          rotate_left
          · intro W' hS
            go_simp
            with_reducible rfl
          simp only [Act.put, List.setIfInBounds_toArray, List.set_cons_zero, List.set_cons_succ, List.getElem_toArray, List.getElem_cons_zero, List.getElem_cons_succ]
          refine AnyW.first (i := 1) (v := nagg n) (by kernel_rfl) rfl (by kernel_rfl) (by kernel_rfl) (by kernel_rfl) (fun _ _ _ h => h) (Or.inl ⟨by rfl, fun W' hS => exec_node rfl rfl (Lk.node hS)⟩) hH ?_
          simp only [Act.put, List.setIfInBounds_toArray, List.set_cons_zero, List.set_cons_succ, List.getElem_toArray, List.getElem_cons_zero, List.getElem_cons_succ]
          refine AnyW.first (i := 2) (v := nagg n) (by kernel_rfl) rfl (by kernel_rfl) (by kernel_rfl) (by kernel_rfl) (fun _ _ _ h => h) (Or.inl ⟨by rfl, fun W' hS => exec_node rfl rfl (Lk.node hS)⟩) hH ?_
          simp only [Act.put, List.setIfInBounds_toArray, List.set_cons_zero, List.set_cons_succ, List.getElem_toArray, List.getElem_cons_zero, List.getElem_cons_succ]
          refine AnyW.first (i := 3) (v := ?_) (by kernel_rfl) rfl (by kernel_rfl) (by kernel_rfl) (by kernel_rfl) (fun _ _ _ h => h) (Or.inl ⟨by rfl, ?_⟩) hH ?_
          rotate_left
          · intro W' hS
            go_simp
            with_reducible rfl
          simp only [Act.put, List.setIfInBounds_toArray, List.set_cons_zero, List.set_cons_succ, List.getElem_toArray, List.getElem_cons_zero, List.getElem_cons_succ]
          refine AnyW.one (i := 4) (by kernel_rfl) rfl (fun K hK => ?_)
          go_simp
          refine (nside n k _).mono ?_
          rintro e Wn ⟨rfl, hbn⟩
          have hH2 := hH.below hbn
          replace HND := Lib.hid (HND.out.below hbn)
          simp only
          refine hK.out _ _ (.inr fun _ => hH2) ?_
          clear hK K hbn hH
          rename Lk _ _ _ _ _ _ _ _ _ _ => hH
          refine AnyW.one (i := 5) (by kernel_rfl) rfl (fun K hK => ?_)
          go_simp
          refine (nbelow_side k _ HND.out).mono ?_
          rintro e Wm ⟨i', s', lo', hi', rfl, hpl, hbn⟩
          have hH2 := hH.below hbn
          have HPL := Lib.hid hpl
          have HND2 := Lib.hid (HND.out.below hbn)
          simp only
          refine hK.out _ _ (.inr fun _ => hH2) ?_
          clear hK K hbn hH hpl HND
          rename Lk _ _ _ _ _ _ _ _ _ _ => hH
          refine AnyW.one (i := 6) (by kernel_rfl) rfl (fun K hK => ?_)
          go_simp
          refine (HRD.out i' s' lo' hi' _ _ hH.far.1 HPL.out).mono ?_
          rintro e Wp ⟨m, okm, rfl, hrp, hbn⟩
          have hH2 := hH.below hbn
          have HRP := Lib.hid hrp
          have HND3 := Lib.hid (HND2.out.below hbn)
          simp only
          refine hK.out _ _ (.inr fun _ => hH2) ?_
          clear hK K hbn hH hrp HND2 HPL
          rename Lk _ _ _ _ _ _ _ _ _ _ => hH
          refine AnyW.first (i := 7) (v := ?_) (by kernel_rfl) rfl (by kernel_rfl) (by kernel_rfl) (by kernel_rfl) (fun _ _ _ h => h) (Or.inl ⟨by rfl, ?_⟩) hH ?_
          rotate_left
          · intro W' hS
            go_simp
            with_reducible rfl
          simp only [Act.put, List.setIfInBounds_toArray, List.set_cons_zero, List.set_cons_succ, List.getElem_toArray, List.getElem_cons_zero, List.getElem_cons_succ]
          refine AnyW.first (i := 8) (v := ?_) (by kernel_rfl) rfl (by kernel_rfl) (by kernel_rfl) (by kernel_rfl) (fun _ _ _ h => h) (Or.inl ⟨by rfl, ?_⟩) hH ?_
          rotate_left
          · intro W' hS
            go_simp
            with_reducible rfl
          simp only [Act.put, List.setIfInBounds_toArray, List.set_cons_zero, List.set_cons_succ, List.getElem_toArray, List.getElem_cons_zero, List.getElem_cons_succ]
          refine AnyW.firstV (i := 9) (v := ?_) rfl (by kernel_rfl) (by kernel_rfl) (by kernel_rfl) (fun _ _ _ h => h) (Or.inl ⟨by rfl, ?_⟩) ?_
          rotate_left
          · intro W' hS
            go_simp
            with_reducible rfl
          simp only [Act.put, List.setIfInBounds_toArray, List.set_cons_zero, List.set_cons_succ, List.getElem_toArray, List.getElem_cons_zero, List.getElem_cons_succ]
          refine AnyW.one (i := 10) (by kernel_rfl) rfl (fun K hK => ?_)
          have hH2 := hH.set m
          have hrp2 : Rp M (setN Wp z8 m) i' s' lo' hi' (nxt n k la lb) m okm := HRP.out.setN hH.node
          have hlen := nxt_len (k := k) HND3.out
          have hlk2 := nxt_look HND3.out HV.out.1
          have HFIN := Lib.hid (And.intro hrp2 (And.intro hH2 (And.intro hlen hlk2)))
          clear hrp2 hH2 hlen hlk2 HND3 HRP
          obtain ⟨f0, f1, f2, f3, f4, f5, f6, f7, f8, f9, f10, f11, f12, f13⟩ := hH.node.fz14
          obtain ⟨c0, c1, c2, c3, c4, c5, c6, c7, c8, c9, c10, c11, c12, c13⟩ := hH.node.node
          go_simp
          clear f0 f1 f2 f3 f4 f5 f6 f7 f8 f9 f10 f11 f12 f13 c0 c1 c2 c3 c4 c5 c6 c7 c8 c9 c10 c11 c12 c13
          change K _ (setN Wp z8 m)
          generalize setN Wp z8 m = Wq at HFIN ⊢
          refine hK.out _ _ (.inl (by simp)) ?_
          clear hK K hH
          refine AnyW.one (i := 11) (by kernel_rfl) rfl (fun K hK => ?_)
          go_simp
          refine hK.out _ _ (.inl (by simp)) ?_
          clear hK K
          refine AnyW.done (by kernel_rfl) ?_ _
          refine NoPanic.normal ?_
          clear l0 l1 k0 k1 k2
          go_wp2_with fail
          go_roundg (nxt n k la lb).length
          case measure => have := HFIN.out.2.2.1; have := HV.out.2.2; omega
          case rel => exact ⟨m, okm, i', s', lo', hi', nxt n k la lb, rfl, rfl, HV.out.2.1.trans HFIN.out.2.2.2, HFIN.out.2.1, HFIN.out.1⟩
end
end Go.Proofs.YtghbbpbhbinioaaGreat
