/- Several texts in one. -/
import Derived.Test.YtghbbpbhbinioaaGreatMr19
import Derived.Test.YtghbbpbhbinioaaGreatMr08
import Derived.Test.YtghbbpbhbinioaaGreatMr11
import Derived.Test.YtghbbpbhbinioaaGreatMr16
import Derived.Test.YtghbbpbhbinioaaGreatMr09
set_option linter.unusedSimpArgs false
namespace Go.Proofs.YtghbbpbhbinioaaGreat
set_option maxRecDepth 100000
set_option linter.unusedSimpArgs false
set_option linter.unusedVariables false
open Go.RowKit
theorem ChgR.h {w w' : World} {b bh seed most root q : Nat} {M : Cells} {F : Nat → Prop} {P : Nat → Nat} {ow : Int} {L : List Pr} {e : Ending} (h : ChgR w w' b most M F P root ow L q e) (hh : Hs w bh seed) (nbh : ¬ F bh) : ChgH w w' b bh seed most M F P root ow L q e := by
  rcases h with ⟨n, M', he, hT, hS⟩ | ⟨he, h0, hl, hb⟩
  · exact .inl ⟨n, M', he, hT, ⟨hS.ar, hS.kp.mono (fun _ h _ => .inl h), hh.kp hS.kp nbh⟩⟩
  · exact .inr ⟨he, h0, hl, Kp.of_below hb _, hh.below hb⟩
def PutR (w w' : World) (b bh seed most : Nat) (M : Cells) (F : Nat → Prop) (P : Nat → Nat) (root : Nat) (ow : Int) (L : List Pr) (q : Nat) (N n er : Int) : Prop :=
  (∃ (m : Nat) (M' : Cells), N = (L.length : Int) ∧ n = (m : Int) ∧ er = 0 ∧ TRes most M P root ow L q m M' ∧ StpH w w' b bh seed most M' F) ∨ (N = 0 ∧ n = 0 ∧ er = 5 ∧ ow = 0 ∧ most < live (most + 1) M + q ∧ Kp (fun q => q = bh) w w' ∧ Hs w' bh seed)
theorem PutR.close {w w3 w' w'' : World} {b bh seed most root q : Nat} {M : Cells} {F G : Nat → Prop} {P : Nat → Nat} {ow : Int} {L : List Pr} {N n er : Int} (h : PutR w3 w' b bh seed most M F P root ow L q N n er) (hF : ∀ q, F q → q < w.heap.size) (hbh : bh < w.heap.size) (hk : Kp (fun q => q = bh) w w3) (h9 : Kp G w' w'') (hG : ∀ q, G q → w.heap.size ≤ q ∧ q < w3.heap.size) : PutR w w'' b bh seed most M F P root ow L q N n er := by
  rcases h with ⟨m, M', h1, h2, h3, hT, hS⟩ | ⟨h1, h2, h3, h4, h5, h6, h7⟩
  · exact .inl ⟨m, M', h1, h2, h3, hT, StpH.close hF hbh hk hS h9 hG⟩
  · exact .inr ⟨h1, h2, h3, h4, h5, (hk.trans h6 (fun _ => .inl)).trans h9 (fun q hq => .inr (hG q hq).1), h7.kp h9 (fun hg => by have := (hG _ hg).1; omega)⟩
theorem tgrown_any {w0 w : World} {b bh seed most root q : Nat} {M : Cells} {F : Nat → Prop} {P : Nat → Nat} {ow : Int} {L : List Pr} {v1 v2 : Value} (h : ChgH w0 w b bh seed most M F P root ow L q (.returned (.tuple #[v1, v2]))) (hF : ∀ q, F q → q < w0.heap.size) (hbh : bh < w0.heap.size) (N r0 : Nat) (by' : Int) (zt zb : Nat) (q1 : C2 w zt 72 (.int .i64 (N : Int)) (.int .i64 (r0 : Int))) (q2 : C1 w zb 3 (.int .i64 by')) (hN : (N : Int) + by' = (L.length : Int)) (hL : L.length ≤ 4194304) :
    Calls Tryz.prog 111 #[v1, v2, .pointer (some ⟨zt, 0, none⟩), .pointer (some ⟨zb, 0, none⟩)] w fun e w' => ∃ N' n' er : Int, e = .returned (.tuple #[.agg #[.int .i64 N', .int .i64 n'], .int .i64 er]) ∧ Below w.heap.size w w' ∧ PutR w0 w' b bh seed most M F P root ow L q N' n' er := by
  rcases h with ⟨n, M', he, hT, hS⟩ | ⟨he, h0, hl, hk, hh⟩
  · injection he with he
    injection he with he
    injection he with he
    injection he with e1 he
    injection he with e2 _
    subst e1 e2
    refine (tgrown_ok N r0 n by' L.length zt zb w q1 q2 hN hL).mono ?_
    rintro e w' ⟨rfl, hb⟩
    exact ⟨_, _, _, rfl, hb, .inl ⟨n, M', rfl, rfl, rfl, hT, StpH.close (G := fun _ => False) hF hbh (Kp.refl _ _) hS (Kp.of_below hb _) (fun _ h => h.elim)⟩⟩
  · injection he with he
    injection he with he
    injection he with he
    injection he with e1 he
    injection he with e2 _
    subst e1 e2
    refine (tgrown_no 0 5 (by decide) zt zb w).mono ?_
    rintro e w' ⟨rfl, hb⟩
    exact ⟨_, _, _, rfl, hb, .inr ⟨rfl, rfl, rfl, h0, hl, hk.trans (Kp.of_below hb (fun _ => False)) (fun _ h => h.elim), hh.below hb⟩⟩
structure Pq (W : World) (z6 z8 z12 N root : Nat) (v : Ky) (x : Yv) : Prop where
  tree : C2 W z6 72 (.int .i64 (N : Int)) (.int .i64 (root : Int))
  val : C3 W z8 36 (.int .u8 v.1) (.int .i64 v.2.1) (.string v.2.2)
  way : BC W z12 146 (ycells x)
theorem Pq.kp {W W' : World} {z6 z8 z12 N root : Nat} {v : Ky} {x : Yv} {G : Nat → Prop} (h : Pq W z6 z8 z12 N root v x) (hk : Kp G W W') (h6 : ¬ G z6) (h8 : ¬ G z8) (h12 : ¬ G z12) : Pq W' z6 z8 z12 N root v x := ⟨h.tree.kp hk h6, h.val.kp hk h8, h.way.kp hk h12⟩
theorem Pq.below {W W' : World} {z6 z8 z12 N root : Nat} {v : Ky} {x : Yv} (h : Pq W z6 z8 z12 N root v x) (hb : Below W.heap.size W W') : Pq W' z6 z8 z12 N root v x := h.kp (Kp.of_below hb (fun _ => False)) id id id
section
variable {most : Nat} {M : Cells} {F : Nat → Prop}
set_option maxHeartbeats 8000000 in
theorem tPutX (b bh seed root : Nat) (k v : Ky) (ow : Int) (l : List Pr) (P : Nat → Nat) (w : World) (h : Ar w b most M F) (hm : most ≤ 1048576) (hb : Bk (most + 1) M [] P [root]) (hP : ∀ j, P j ≤ 576460752303423488) (hT : TT M root l) (hh : Hs w bh seed) (nbh : ¬ F bh) (hk : OkK k) (hl : l.length ≤ 1024) (hnl : hasB k l = true ∨ l.length ≤ 1023) (hroom : ow = 0 ∨ live (most + 1) M + (l.length + 1) ≤ most) :
    Calls Tryz.prog 39 #[land b bh, .agg #[.int .i64 (l.length : Nat), .int .i64 (root : Nat)], xagg k, xagg v, .int .u32 ow] w fun e w' => ∃ N n er : Int, e = .returned (.tuple #[.agg #[.int .i64 N, .int .i64 n], .int .i64 er]) ∧ PutR w w' b bh seed most M F P root ow (putL h0 (k, v) l) (l.length + 1) N n er := by
  have hF : ∀ q, F q → q < w.heap.size := fun q hq => h.lt hq
  have hbl := hh.lt
  have hsl := hT.srt
  obtain ⟨L, hL⟩ : ∃ L, L = putL h0 (k, v) l := ⟨_, rfl⟩
  have hlen := putL_length (p := (k, v)) hsl
  simp only at hlen
  rw [← hL] at hlen ⊢
  have HNLL := Lib.hid hnl
  clear hnl
  have HWT := Lib.hid (fun (W : World) (hW : Below w.heap.size w W) => wayTo (l := l) (bh := bh) l.length root k ow W (h.below hW) h.zero hT (by omega))
  have HLK := Lib.hid (tlacks b bh)
  have HSET := Lib.hid (fun (x : Yv) (cl : List Nv) (lj pre suf la lb : List Pr) (B : Nat) (W : World) (hW : Below w.heap.size w W) (hwB : w.heap.size ≤ B) (hwt : WayT M W B b bh root ow k l x cl x.nd.cell lj pre suf) (hnd : NdP M W x.nd la lb lj) (hkk : x.nd.key = k) (hfr : ow = 0 → x.nd.fresh = 1) => show Calls Tryz.prog 71 #[yagg x, xagg v] W (fun e w' => ChgH W w' b bh seed most M F P root ow L (l.length + 1) e ∧ (L.length = l.length)) from by
    obtain ⟨e1, e2, e3, e4, e5, e6⟩ := hwt.head
    have hlx : l = (pre ++ la) ++ (x.nd.key, x.nd.val) :: (lb ++ suf) := by have := hwt.way.chain.eq; rw [List.append_nil, List.append_nil] at this; rw [this, hnd.eq]; simp
    have hLe : pre ++ (la ++ (x.nd.key, v) :: lb) ++ suf = L := by
      rw [hL, ← hkk]
      have h2 := hsl
      rw [hlx] at h2 ⊢
      rw [← put_val h2]
      simp
    have hsh := hwt.way.short
    have hlj : 1 ≤ lj.length := by rw [hnd.eq]; simp; omega
    have hsL : Srt h0 L := by rw [hL]; exact (putL_spec hsl).1
    have hhas : hasB k l = true := hasB_iff.2 ⟨(x.nd.key, x.nd.val), by rw [hlx]; simp, hkk⟩
    rw [hhas] at hlen
    have call := tset x v B cl l lj pre suf la lb P W (by rw [e1]; exact h.below hW) hm (by rw [e5]; exact hb) hP (by rw [e1, e2, e3, e4, e5]; exact hwt) hnd (by rw [e3]; exact hfr) (by rw [hLe]; exact hsL) hl (fun q hq => by have := hF q hq; omega) (by rw [e3]; exact hroom.imp id (fun h => by omega))
    rw [e1, e3, e5, hLe] at call
    refine call.mono ?_
    rintro e w' hR
    refine ⟨?_, hlen⟩
    rcases hR.h (bh := bh) (seed := seed) (hh.below hW) nbh with ⟨n, M', he, hT', hS⟩ | ⟨he, h1, h2, h3, h4⟩
    · exact .inl ⟨n, M', he, ⟨hT'.bk, hT'.keeps, by have := hT'.live; omega, hT'.tt⟩, hS⟩
    · exact .inr ⟨he, h1, by omega, h3, h4⟩)
  have HADD := Lib.hid (fun (x : Yv) (cl : List Nv) (pre suf : List Pr) (B : Nat) (W : World) (hW : Below w.heap.size w W) (hwB : w.heap.size ≤ B) (hwt : WayT M W B b bh root ow k l x cl 0 [] pre suf) (hno : lookL k l = none) => show Calls Tryz.prog 72 #[yagg x, xagg v] W (fun e w' => ChgH W w' b bh seed most M F P root ow L (l.length + 1) e ∧ (L.length = l.length + 1)) from by
    obtain ⟨e1, e2, e3, e4, e5, e6⟩ := hwt.head
    have hlx : l = pre ++ suf := by have := hwt.way.chain.eq; simpa using this
    obtain ⟨s1, s2⟩ := hwt.way.chain.sides hsl List.Pairwise.nil
    have hLe : pre ++ (k, v) :: suf = L := by
      rw [hL]
      have h2 := hsl
      rw [hlx] at h2 ⊢
      exact put_mid h2 s1 s2
    have hsh := hwt.way.short
    have hsL : Srt h0 L := by rw [hL]; exact (putL_spec hsl).1
    have hhas : hasB k l = false := by rw [hasB_look, hno]; rfl
    rw [hhas] at hlen
    simp only [Bool.false_eq_true, if_false] at hlen
    have call := tadd x v seed B cl l pre suf P W (by rw [e1]; exact h.below hW) hm (by rw [e5]; exact hb) hP (by rw [e1, e2, e3, e4, e5]; exact hwt) (by rw [e4, hLe]; exact hsL) hl (fun q hq => by have := hF q hq; omega) (by rw [e3]; exact hroom.imp id (fun h => by omega)) (by rw [e2]; exact hh.below hW) (by rw [e2]; exact nbh) (by rw [e2]; omega) (by rw [e4]; exact hk)
    rw [e1, e2, e3, e4, e5, hLe] at call
    refine call.mono ?_
    rintro e w' hR
    refine ⟨?_, hlen⟩
    rcases hR with ⟨n, M', he, hT', hS⟩ | ⟨he, h1, h2, h3, h4⟩
    · exact .inl ⟨n, M', he, ⟨hT'.bk, hT'.keeps, by have := hT'.live; omega, hT'.tt⟩, hS⟩
    · exact .inr ⟨he, h1, by omega, h3, h4⟩)
  obtain ⟨W0, hW0⟩ : ∃ W0, W0 = (((((w.alloc (.cells #[ap b, .pointer (some ⟨bh, 0, none⟩)] 26)).alloc (.cells #[.int .i64 (l.length : Int), .int .i64 (root : Int)] 72)).alloc (.cells #[.int .u8 k.1, .int .i64 k.2.1, .string k.2.2] 36)).alloc (.cells #[.int .u8 v.1, .int .i64 v.2.1, .string v.2.2] 36)).alloc (.cells #[.int .i64 0, .int .i64 0] 72)) := ⟨_, rfl⟩
  have hsz : W0.heap.size = w.heap.size + 1 + 1 + 1 + 1 + 1 := by rw [hW0]; simp
  have hb0 : Below w.heap.size w W0 := by rw [hW0]; exact (((((Below.refl _ w).alloc (Nat.le_refl _) _).alloc (by simp) _).alloc (by simp; omega) _).alloc (by simp; omega) _).alloc (by simp; omega) _
  have q5 : C2 W0 w.heap.size 26 (ap b) (.pointer (some ⟨bh, 0, none⟩)) := by rw [hW0]; exact ((((C2.new w 26 (ap b) (.pointer (some ⟨bh, 0, none⟩))).alloc _).alloc _).alloc _).alloc _
  have q6 : C2 W0 (w.heap.size + 1) 72 (.int .i64 (l.length : Int)) (.int .i64 (root : Int)) := by
    have h := (((C2.new (w.alloc (.cells #[ap b, .pointer (some ⟨bh, 0, none⟩)] 26)) 72 (.int .i64 (l.length : Int)) (.int .i64 (root : Int))).alloc (.cells #[.int .u8 k.1, .int .i64 k.2.1, .string k.2.2] 36)).alloc (.cells #[.int .u8 v.1, .int .i64 v.2.1, .string v.2.2] 36)).alloc (.cells #[.int .i64 0, .int .i64 0] 72)
    rw [hW0]
    simpa using h
  have q7 : C3 W0 (w.heap.size + 1 + 1) 36 (.int .u8 k.1) (.int .i64 k.2.1) (.string k.2.2) := by
    have h := ((C3.new ((w.alloc (.cells #[ap b, .pointer (some ⟨bh, 0, none⟩)] 26)).alloc (.cells #[.int .i64 (l.length : Int), .int .i64 (root : Int)] 72)) 36 (.int .u8 k.1) (.int .i64 k.2.1) (.string k.2.2)).alloc (.cells #[.int .u8 v.1, .int .i64 v.2.1, .string v.2.2] 36)).alloc (.cells #[.int .i64 0, .int .i64 0] 72)
    rw [hW0]
    simpa using h
  have q8 : C3 W0 (w.heap.size + 1 + 1 + 1) 36 (.int .u8 v.1) (.int .i64 v.2.1) (.string v.2.2) := by
    have h := (C3.new (((w.alloc (.cells #[ap b, .pointer (some ⟨bh, 0, none⟩)] 26)).alloc (.cells #[.int .i64 (l.length : Int), .int .i64 (root : Int)] 72)).alloc (.cells #[.int .u8 k.1, .int .i64 k.2.1, .string k.2.2] 36)) 36 (.int .u8 v.1) (.int .i64 v.2.1) (.string v.2.2)).alloc (.cells #[.int .i64 0, .int .i64 0] 72)
    rw [hW0]
    simpa using h
  have q10 : C2 W0 (w.heap.size + 1 + 1 + 1 + 1) 72 (.int .i64 0) (.int .i64 0) := by
    have h := C2.new ((((w.alloc (.cells #[ap b, .pointer (some ⟨bh, 0, none⟩)] 26)).alloc (.cells #[.int .i64 (l.length : Int), .int .i64 (root : Int)] 72)).alloc (.cells #[.int .u8 k.1, .int .i64 k.2.1, .string k.2.2] 36)).alloc (.cells #[.int .u8 v.1, .int .i64 v.2.1, .string v.2.2] 36)) 72 (.int .i64 0) (.int .i64 0)
    rw [hW0]
    simpa using h
  obtain ⟨z5, hz5⟩ : ∃ z, z = w.heap.size := ⟨_, rfl⟩
  obtain ⟨z6, hz6⟩ : ∃ z, z = w.heap.size + 1 := ⟨_, rfl⟩
  obtain ⟨z7, hz7⟩ : ∃ z, z = w.heap.size + 1 + 1 := ⟨_, rfl⟩
  obtain ⟨z8, hz8⟩ : ∃ z, z = w.heap.size + 1 + 1 + 1 := ⟨_, rfl⟩
  obtain ⟨z10, hz10⟩ : ∃ z, z = w.heap.size + 1 + 1 + 1 + 1 := ⟨_, rfl⟩
  have HW0 := Lib.hid hW0
  have HZZ := Lib.hid (And.intro hz5 (And.intro hz6 (And.intro hz7 (And.intro hz8 hz10))))
  have HX := Lib.hid (And.intro hF (And.intro hbl (And.intro nbh (And.intro (show z6 = w.heap.size + 1 ∧ z8 = w.heap.size + 3 ∧ z10 = w.heap.size + 4 ∧ W0.heap.size = w.heap.size + 5 from ⟨hz6, hz8, hz10, hsz⟩) (show l.length ≤ 1024 from hl)))))
  rw [← hz5] at q5
  rw [← hz6] at q6
  rw [← hz7] at q7
  rw [← hz8] at q8
  rw [← hz10] at q10
  have QQ := Lib.hid (And.intro q6 (And.intro q8 (And.intro q10 hb0)))
  have HW := Lib.hid (And.intro q5 (And.intro q6 q7))
  obtain ⟨a0, a1, _⟩ := q5.all
  clear h hb hP hT hh nbh hk hl hroom hF hbl hsl hL hlen hW0 hsz hb0 q5 q6 q7 q8 q10 hz5 hz6 hz7 hz8 hz10 hm
  go_enter Tryz.func39, Tryz.ntmps39
  go_upto_region 1 with fail
  rw [← HW0.out]
  clear HW0
  obtain ⟨e1, e2, e3, e4, e5⟩ := HZZ.out
  rw [← e5, ← e4, ← e3, ← e2, ← e1]
  clear e1 e2 e3 e4 e5 HZZ
  go_wp2_with fail
  refine (HLK.out W0).mono ?_
  rintro e w1 ⟨rfl, hb1⟩
  have HB1 := Lib.hid (QQ.out.2.2.2.trans (hb1.mono QQ.out.2.2.2.size))
  obtain ⟨a0, a1, _⟩ := (HW.out.1.below hb1).all
  obtain ⟨b0, b1, _⟩ := (HW.out.2.1.below hb1).all
  obtain ⟨d0, d1, d2, _⟩ := (HW.out.2.2.below hb1).all
  have QQ1 := Lib.hid (And.intro (QQ.out.1.below hb1) (And.intro (QQ.out.2.1.below hb1) (QQ.out.2.2.1.below hb1)))
  have HS1 := Lib.hid hb1.size
  clear hb1 HW HLK QQ
  go_wp2_with fail
  refine (HWT.out w1 HB1.out).mono ?_
  rintro e w2 ⟨x, cl, i, lj, pre, suf, rfl, hwt, hb2, hend⟩
  have HB2 := Lib.hid (HB1.out.trans (hb2.mono HB1.out.size))
  have QQ2 := Lib.hid (And.intro (QQ1.out.1.below hb2) (And.intro (QQ1.out.2.1.below hb2) (QQ1.out.2.2.below hb2)))
  have HEND := Lib.hid (And.intro hwt hend)
  have HS2 := Lib.hid (Nat.le_trans HS1.out hb2.size)
  have HS1B := Lib.hid HB1.out.size
  clear hwt hend hb2 a0 a1 b0 b1 d0 d1 d2 QQ1 HB1 HWT HS1
  go_upto_region 4 with (refine wpList_store_whole rfl _ _ _ rfl w2.heap.size _ _ (ycells x) rfl rfl (BC.new w2 _ _) rfl way_size (ycells_one _) ?_)
  intro W3 q12 k3
  have hb3 : Below w2.heap.size w2 W3 := (((Kp.refl (fun q => q = w2.heap.size) w2).alloc _).trans k3 (fun _ e => .inl e)).below (fun _ e => by omega)
  have pq : Pq W3 z6 z8 w2.heap.size l.length root v x := ⟨QQ2.out.1.below hb3, QQ2.out.2.1.below hb3, q12⟩
  have m10 := QQ2.out.2.2.below hb3
  have HB3 := Lib.hid (HB2.out.trans (hb3.mono HB2.out.size))
  have HBX := Lib.hid hb3
  have x22 := q12.way.2.2.2.2.2.2.2.2.2.2.2.2.2.2.2.2.2.2.2.2.2.2
  have t0 := pq.tree.c0
  obtain ⟨z12, hz12⟩ : ∃ z, z = w2.heap.size := ⟨_, rfl⟩
  have HZ12 := Lib.hid (show z10 < z12 from by rw [hz12]; have := HS2.out; have := HX.out.2.2.2.1; omega)
  rw [← hz12] at pq x22 ⊢
  clear k3 q12 hb3 QQ2 HB2 HS2 hz12
  rcases HEND.out.2 with ⟨hx, hi, hlj, hno⟩ | ⟨hx, hkk, hci, hsh, hfr, hval, la, lb, hnd⟩
  · rw [hx] at x22
    have hlt : ¬ (1024 : Int) ≤ (l.length : Int) := by
      rcases HNLL.out with hh | hh
      · rw [hasB_look, hno] at hh; cases hh
      · omega
    subst hi hlj
    have HNO := Lib.hid hno
    clear hno
    have HPQ := Lib.hid pq
    have M10 := Lib.hid m10
    clear pq m10 hx
    go_upto_region 8 with fail
    clear x22 t0
    have t0 : ∀ W', Pq W' z6 z8 z12 l.length root v x → W'.cell? ⟨z6, 0, none⟩ = some (.int .i64 (l.length : Int)) := fun W' h => h.tree.c0
    have t1 : ∀ W', Pq W' z6 z8 z12 l.length root v x → W'.cell? ⟨z6, 1, none⟩ = some (.int .i64 (root : Int)) := fun W' h => h.tree.c1
    have v0 : ∀ W', Pq W' z6 z8 z12 l.length root v x → W'.cell? ⟨z8, 0, none⟩ = some (.int .u8 v.1) := fun W' h => h.val.c0
    have v1 : ∀ W', Pq W' z6 z8 z12 l.length root v x → W'.cell? ⟨z8, 1, none⟩ = some (.int .i64 v.2.1) := fun W' h => h.val.c1
    have v2 : ∀ W', Pq W' z6 z8 z12 l.length root v x → W'.cell? ⟨z8, 2, none⟩ = some (.string v.2.2) := fun W' h => h.val.c2
    have hbd : Below W3.heap.size W3 W3.drew := (Below.refl _ W3).drew
    refine wp_region_noPanic ?_
    refine wp_region_held_drew (S := fun W' => Pq W' z6 z8 z12 l.length root v x) (by kernel_rfl) (HPQ.out.below hbd) (fun hH => ?_)
    have m10 := M10.out.below hbd
    have hB3 := HB3.out.trans (hbd.mono HB3.out.size)
    have hBX := HBX.out.trans (hbd.mono HBX.out.size)
    generalize W3.drew = Wc at hH m10 hB3 hBX ⊢
    clear hbd HPQ M10 HB3 HBX
    refine tkH ?_ 0 hH ?_ ?_; rotate_left
    · intro W' hS; go_simp; with_reducible rfl
    simp only [tkr]
    refine wpAnyH_take (i := 2) (v := yagg x) rfl (by kernel_rfl) (by kernel_rfl) (by kernel_rfl) (fun _ _ _ h => h) (Or.inl ⟨by rfl, fun W' hS => exec_way rfl rfl (Pq.way hS)⟩) hH ?_
    simp only [Act.put, List.setIfInBounds_toArray, List.set_cons_zero, List.set_cons_succ, List.getElem_toArray, List.getElem_cons_zero, List.getElem_cons_succ]
    refine tkH ?_ 3 hH ?_ ?_; rotate_left
    · intro W' hS; go_simp; with_reducible rfl
    simp only [tkr]
    refine rdH 1 rfl (fun K hK => ?_)
    go_simp
    refine (tgrown l.length root 1 _).mono ?_
    rintro e Wn ⟨zt, zb, rfl, qt, qb, gt, gb, hbn⟩
    have hH2 := hH.below hbn
    replace m10 := m10.below hbn
    replace hB3 := hB3.trans (hbn.mono hB3.size)
    replace hBX := hBX.trans (hbn.mono hBX.size)
    have hl10 : z12 < Wc.heap.size := hH.way.lt
    have HG := Lib.hid (And.intro gt (And.intro gb hl10))
    simp only
    refine hK.out _ _ hH2 (fun hH => ?_)
    clear hK K hH2 hbn gt gb hl10
    rename World => Wc
    refine rdH 4 rfl (fun K hK => ?_)
    go_simp
    refine (HADD.out x cl pre suf _ _ hB3 HS1B.out (HEND.out.1.below hBX) HNO.out).mono ?_
    rintro e Wn ⟨hR, hLL⟩
    have hkz : ∀ z, z12 ≤ z ∨ z = z6 ∨ z = z8 ∨ z = z10 → ¬ (F z ∨ z = bh) := fun z hz hf => by
      have hxx := HX.out
      rcases hf with hf | hf
      · have := hxx.1 z hf; have := HZ12.out; omega
      · have := hxx.2.1; have := HZ12.out; omega
    obtain ⟨v1', v2', rfl⟩ : ∃ v1' v2', e = .returned (.tuple #[v1', v2']) := by
      rcases hR with ⟨n, M', he, _⟩ | ⟨he, _⟩
      · exact ⟨_, _, he⟩
      · exact ⟨_, _, he⟩
    have hkp : Kp (fun q => F q ∨ q = bh) Wc Wn := by
      rcases hR with ⟨n, M', he, _, hS⟩ | ⟨he, _, _, hS, _⟩
      · exact hS.kp
      · exact hS.mono (fun _ e _ => .inr e)
    have hH2 := hH.kp hkp (hkz _ (.inr (.inl rfl))) (hkz _ (.inr (.inr (.inl rfl)))) (hkz _ (.inl (Nat.le_refl _)))
    have hzt : z12 ≤ zt ∧ z12 ≤ zb := by have := HG.out; omega
    replace qt := qt.kp hkp (hkz _ (.inl hzt.1))
    replace qb := qb.kp hkp (hkz _ (.inl hzt.2))
    replace m10 := m10.kp hkp (hkz _ (.inr (.inr (.inr rfl))))
    have HR := Lib.hid (And.intro hR (And.intro hLL (And.intro hB3 hB3.size)))
    have HSZ := Lib.hid (show z10 < Wc.heap.size by have := hH.way.lt; have := HZ12.out; omega)
    simp only
    refine hK.out _ _ hH2 (fun hH => ?_)
    clear hK K hH2 hR hLL hkz hkp hzt hB3 hBX
    rename World => Wc
    refine tkH ?_ 5 hH ?_ ?_; rotate_left
    · intro W' hS; go_simp; with_reducible rfl
    simp only [tkr]
    refine tkH ?_ 6 hH ?_ ?_; rotate_left
    · intro W' hS; go_simp; with_reducible rfl
    simp only [tkr]
    refine rdH 7 rfl (fun K hK => ?_)
    go_simp
    refine (tgrown_any HR.out.1 (fun q hq => by have := HX.out.1 q hq; have := HR.out.2.2.2; omega) (by have := HX.out.2.1; have := HR.out.2.2.2; omega) l.length root 1 zt zb qt qb (by have := HR.out.2.1; omega) (by have := HR.out.2.1; have := HX.out.2.2.2.2; omega)).mono ?_
    rintro e Wn ⟨N', n', er, rfl, hbn, hPR⟩
    have hH2 := hH.below hbn
    replace m10 := m10.below hbn
    have HPR := Lib.hid hPR
    simp only
    refine hK.out _ _ hH2 (fun hH => ?_)
    clear hK K hH2 hbn hPR qt qb
    rename World => Wc
    refine tkH ?_ 8 hH ?_ ?_; rotate_left
    · intro W' hS; go_simp; with_reducible rfl
    simp only [tkr]
    refine tkH ?_ 9 hH ?_ ?_; rotate_left
    · intro W' hS; go_simp; with_reducible rfl
    simp only [tkr]
    refine rdH 10 rfl (fun K hK => ?_)
    obtain ⟨c0, c1, f0, f1⟩ := m10.all
    go_simp
    clear c0 c1 f0 f1
    have kz : Kp (fun q => q = z10) Wc ((Wc.setCell ⟨z10, 0, none⟩ (.int .i64 N')).setCell ⟨z10, 1, none⟩ (.int .i64 n')) := ((Kp.refl (fun q => q = z10) Wc).setCell (.inl rfl) _).setCell (.inl rfl) _
    have m2 := (m10.set0 (.int .i64 N')).set1 (.int .i64 n')
    have hH2 := hH.kp kz (fun e => by have := HX.out.2.2.2.1; omega) (fun e => by have := HX.out.2.2.2.1; omega) (fun e => by have := HZ12.out; omega)
    have hFIN := HPR.out.close HX.out.1 HX.out.2.1 (Kp.of_below HR.out.2.2.1 _) kz (fun q e => by subst e; exact ⟨by have := HX.out.2.2.2.1; omega, HSZ.out⟩)
    have HFIN := Lib.hid (And.intro hFIN m2)
    refine hK.out _ _ hH2 (fun hH => ?_)
    clear hK K hH2 kz m2 hFIN m10 HPR
    generalize World.setCell _ _ _ = Wn at hH HFIN ⊢
    rename World => Wc
    refine tkH ?_ 11 hH ?_ ?_; rotate_left
    · intro W' hS; go_simp; with_reducible rfl
    simp only [tkr]
    refine wpAnyH_done (by kernel_rfl) ?_ _
    refine NoPanic.normal ?_
    clear t0 t1 v0 v1 v2
    go_wp2_with fail
    obtain ⟨c0, c1, _⟩ := HFIN.out.2.all
    exact bodyPost_ret (v := .tuple #[.agg #[.int .i64 N', .int .i64 n'], .int .i64 er]) (by simp [results, Tryz.results39, go_sem, c0, c1]) rfl ⟨N', n', er, rfl, HFIN.out.1⟩
  · rw [hx] at x22
    subst hci
    have HNO := Lib.hid (And.intro hkk (And.intro hfr hnd))
    clear hkk hsh hfr hval hnd
    have HPQ := Lib.hid pq
    have M10 := Lib.hid m10
    clear pq m10 hx
    go_upto_region 5 with fail
    clear x22 t0
    have t0 : ∀ W', Pq W' z6 z8 z12 l.length root v x → W'.cell? ⟨z6, 0, none⟩ = some (.int .i64 (l.length : Int)) := fun W' h => h.tree.c0
    have t1 : ∀ W', Pq W' z6 z8 z12 l.length root v x → W'.cell? ⟨z6, 1, none⟩ = some (.int .i64 (root : Int)) := fun W' h => h.tree.c1
    have v0 : ∀ W', Pq W' z6 z8 z12 l.length root v x → W'.cell? ⟨z8, 0, none⟩ = some (.int .u8 v.1) := fun W' h => h.val.c0
    have v1 : ∀ W', Pq W' z6 z8 z12 l.length root v x → W'.cell? ⟨z8, 1, none⟩ = some (.int .i64 v.2.1) := fun W' h => h.val.c1
    have v2 : ∀ W', Pq W' z6 z8 z12 l.length root v x → W'.cell? ⟨z8, 2, none⟩ = some (.string v.2.2) := fun W' h => h.val.c2
    have hbd : Below W3.heap.size W3 W3.drew := (Below.refl _ W3).drew
    refine wp_region_noPanic ?_
    refine wp_region_held_drew (S := fun W' => Pq W' z6 z8 z12 l.length root v x) (by kernel_rfl) (HPQ.out.below hbd) (fun hH => ?_)
    have m10 := M10.out.below hbd
    have hB3 := HB3.out.trans (hbd.mono HB3.out.size)
    have hBX := HBX.out.trans (hbd.mono HBX.out.size)
    generalize W3.drew = Wc at hH m10 hB3 hBX ⊢
    clear hbd HPQ M10 HB3 HBX
    refine tkH ?_ 0 hH ?_ ?_; rotate_left
    · intro W' hS; go_simp; with_reducible rfl
    simp only [tkr]
    refine wpAnyH_take (i := 2) (v := yagg x) rfl (by kernel_rfl) (by kernel_rfl) (by kernel_rfl) (fun _ _ _ h => h) (Or.inl ⟨by rfl, fun W' hS => exec_way rfl rfl (Pq.way hS)⟩) hH ?_
    simp only [Act.put, List.setIfInBounds_toArray, List.set_cons_zero, List.set_cons_succ, List.getElem_toArray, List.getElem_cons_zero, List.getElem_cons_succ]
    refine tkH ?_ 3 hH ?_ ?_; rotate_left
    · intro W' hS; go_simp; with_reducible rfl
    simp only [tkr]
    refine rdH 1 rfl (fun K hK => ?_)
    go_simp
    refine (tgrown l.length root 0 _).mono ?_
    rintro e Wn ⟨zt, zb, rfl, qt, qb, gt, gb, hbn⟩
    have hH2 := hH.below hbn
    replace m10 := m10.below hbn
    replace hB3 := hB3.trans (hbn.mono hB3.size)
    replace hBX := hBX.trans (hbn.mono hBX.size)
    have hl10 : z12 < Wc.heap.size := hH.way.lt
    have HG := Lib.hid (And.intro gt (And.intro gb hl10))
    simp only
    refine hK.out _ _ hH2 (fun hH => ?_)
    clear hK K hH2 hbn gt gb hl10
    rename World => Wc
    refine rdH 4 rfl (fun K hK => ?_)
    go_simp
    refine (HSET.out x cl lj pre suf la lb _ _ hB3 HS1B.out (HEND.out.1.below hBX) (HNO.out.2.2.below hBX) HNO.out.1 HNO.out.2.1).mono ?_
    rintro e Wn ⟨hR, hLL⟩
    have hkz : ∀ z, z12 ≤ z ∨ z = z6 ∨ z = z8 ∨ z = z10 → ¬ (F z ∨ z = bh) := fun z hz hf => by
      have hxx := HX.out
      rcases hf with hf | hf
      · have := hxx.1 z hf; have := HZ12.out; omega
      · have := hxx.2.1; have := HZ12.out; omega
    obtain ⟨v1', v2', rfl⟩ : ∃ v1' v2', e = .returned (.tuple #[v1', v2']) := by
      rcases hR with ⟨n, M', he, _⟩ | ⟨he, _⟩
      · exact ⟨_, _, he⟩
      · exact ⟨_, _, he⟩
    have hkp : Kp (fun q => F q ∨ q = bh) Wc Wn := by
      rcases hR with ⟨n, M', he, _, hS⟩ | ⟨he, _, _, hS, _⟩
      · exact hS.kp
      · exact hS.mono (fun _ e _ => .inr e)
    have hH2 := hH.kp hkp (hkz _ (.inr (.inl rfl))) (hkz _ (.inr (.inr (.inl rfl)))) (hkz _ (.inl (Nat.le_refl _)))
    have hzt : z12 ≤ zt ∧ z12 ≤ zb := by have := HG.out; omega
    replace qt := qt.kp hkp (hkz _ (.inl hzt.1))
    replace qb := qb.kp hkp (hkz _ (.inl hzt.2))
    replace m10 := m10.kp hkp (hkz _ (.inr (.inr (.inr rfl))))
    have HR := Lib.hid (And.intro hR (And.intro hLL (And.intro hB3 hB3.size)))
    have HSZ := Lib.hid (show z10 < Wc.heap.size by have := hH.way.lt; have := HZ12.out; omega)
    simp only
    refine hK.out _ _ hH2 (fun hH => ?_)
    clear hK K hH2 hR hLL hkz hkp hzt hB3 hBX
    rename World => Wc
    refine tkH ?_ 5 hH ?_ ?_; rotate_left
    · intro W' hS; go_simp; with_reducible rfl
    simp only [tkr]
    refine tkH ?_ 6 hH ?_ ?_; rotate_left
    · intro W' hS; go_simp; with_reducible rfl
    simp only [tkr]
    refine rdH 7 rfl (fun K hK => ?_)
    go_simp
    refine (tgrown_any HR.out.1 (fun q hq => by have := HX.out.1 q hq; have := HR.out.2.2.2; omega) (by have := HX.out.2.1; have := HR.out.2.2.2; omega) l.length root 0 zt zb qt qb (by have := HR.out.2.1; omega) (by have := HR.out.2.1; have := HX.out.2.2.2.2; omega)).mono ?_
    rintro e Wn ⟨N', n', er, rfl, hbn, hPR⟩
    have hH2 := hH.below hbn
    replace m10 := m10.below hbn
    have HPR := Lib.hid hPR
    simp only
    refine hK.out _ _ hH2 (fun hH => ?_)
    clear hK K hH2 hbn hPR qt qb
    rename World => Wc
    refine tkH ?_ 8 hH ?_ ?_; rotate_left
    · intro W' hS; go_simp; with_reducible rfl
    simp only [tkr]
    refine tkH ?_ 9 hH ?_ ?_; rotate_left
    · intro W' hS; go_simp; with_reducible rfl
    simp only [tkr]
    refine rdH 10 rfl (fun K hK => ?_)
    obtain ⟨c0, c1, f0, f1⟩ := m10.all
    go_simp
    clear c0 c1 f0 f1
    have kz : Kp (fun q => q = z10) Wc ((Wc.setCell ⟨z10, 0, none⟩ (.int .i64 N')).setCell ⟨z10, 1, none⟩ (.int .i64 n')) := ((Kp.refl (fun q => q = z10) Wc).setCell (.inl rfl) _).setCell (.inl rfl) _
    have m2 := (m10.set0 (.int .i64 N')).set1 (.int .i64 n')
    have hH2 := hH.kp kz (fun e => by have := HX.out.2.2.2.1; omega) (fun e => by have := HX.out.2.2.2.1; omega) (fun e => by have := HZ12.out; omega)
    have hFIN := HPR.out.close HX.out.1 HX.out.2.1 (Kp.of_below HR.out.2.2.1 _) kz (fun q e => by subst e; exact ⟨by have := HX.out.2.2.2.1; omega, HSZ.out⟩)
    have HFIN := Lib.hid (And.intro hFIN m2)
    refine hK.out _ _ hH2 (fun hH => ?_)
    clear hK K hH2 kz m2 hFIN m10 HPR
    generalize World.setCell _ _ _ = Wn at hH HFIN ⊢
    rename World => Wc
    refine tkH ?_ 11 hH ?_ ?_; rotate_left
    · intro W' hS; go_simp; with_reducible rfl
    simp only [tkr]
    refine wpAnyH_done (by kernel_rfl) ?_ _
    refine NoPanic.normal ?_
    clear t0 t1 v0 v1 v2
    go_wp2_with fail
    obtain ⟨c0, c1, _⟩ := HFIN.out.2.all
    exact bodyPost_ret (v := .tuple #[.agg #[.int .i64 N', .int .i64 n'], .int .i64 er]) (by simp [results, Tryz.results39, go_sem, c0, c1]) rfl ⟨N', n', er, rfl, HFIN.out.1⟩
theorem tPut (b bh seed root : Nat) (k v : Ky) (ow : Int) (l : List Pr) (P : Nat → Nat) (w : World) (h : Ar w b most M F) (hm : most ≤ 1048576) (hb : Bk (most + 1) M [] P [root]) (hP : ∀ j, P j ≤ 576460752303423488) (hT : TT M root l) (hh : Hs w bh seed) (nbh : ¬ F bh) (hk : OkK k) (hl : l.length ≤ 900) (hroom : ow = 0 ∨ live (most + 1) M + (l.length + 1) ≤ most) :
    Calls Tryz.prog 39 #[land b bh, .agg #[.int .i64 (l.length : Nat), .int .i64 (root : Nat)], xagg k, xagg v, .int .u32 ow] w fun e w' => ∃ N n er : Int, e = .returned (.tuple #[.agg #[.int .i64 N, .int .i64 n], .int .i64 er]) ∧ PutR w w' b bh seed most M F P root ow (putL h0 (k, v) l) (l.length + 1) N n er :=
  tPutX b bh seed root k v ow l P w h hm hb hP hT hh nbh hk (by omega) (.inr (by omega)) hroom
end
end Go.Proofs.YtghbbpbhbinioaaGreat

namespace Go.Proofs.YtghbbpbhbinioaaGreat
set_option maxRecDepth 100000
set_option linter.unusedSimpArgs false
set_option linter.unusedVariables false
open Go.RowKit
section
def Vt11 (t : Nat) : Prop := t = 26 ∨ t = 144 ∨ t = 141 ∨ t = 36
structure K11 (n0 b most : Nat) (M0 : Cells) (root : Nat) (A B : World) : Prop where
  ok : Okay b most M0 root A → Okay b most M0 root B
  same : ∀ q cur t, n0 ≤ q → Vt11 t → A.heap[q]? = some (.cells cur t (0, 0)) → Safe b most A q → B.heap[q]? = some (.cells cur t (0, 0)) ∧ Safe b most B q
variable {n0 b most root : Nat} {M0 : Cells} {A B C : World}
theorem K11.trans (h : K11 n0 b most M0 root A B) (k : K11 n0 b most M0 root B C) : K11 n0 b most M0 root A C :=
  ⟨fun o => k.ok (h.ok o), fun q cur t hq ht e s => by
    obtain ⟨e1, s1⟩ := h.same q cur t hq ht e s
    exact k.same q cur t hq ht e1 s1⟩
theorem K11.below (hb : Below A.heap.size A B) : K11 n0 b most M0 root A B :=
  ⟨fun o => o.below hb, fun q _ _ _ _ e s => ⟨(hb.block q (Array.getElem?_eq_some_iff.1 e).1).trans e, s.below hb⟩⟩
theorem K11.putObj {x : Nat} {o o' : Obj} (hx : A.heap[x]? = some o) (hc : o.isCells = false) : K11 n0 b most M0 root A (A.putObj x o') := by
  have ar : ∀ {M F}, Ar A b most M F → Ar (A.putObj x o') b most M (fun k => F k ∧ k ≠ x) := fun h => (h.cut hx hc).kp kp_putObj (fun k hk => hk.2)
  refine ⟨fun ⟨M, F, h1, h2⟩ => ⟨M, _, ar h1, h2⟩, fun q cur t _ _ e ⟨M, F, h1, h2⟩ => ⟨?_, M, _, ar h1, fun hf => h2 hf.1⟩⟩
  have hne : q ≠ x := fun e2 => by
    subst e2
    rw [hx] at e
    cases e
    cases hc
  exact (World.putObj_heap_other hne).trans e
theorem K11.of_kp {most' : Nat} {M : Cells} {F G : Nat → Prop} (h : Ar A b most' M F) (hk : Kp G A B) (hF : ∀ q, G q → ¬ F q) (hG : ∀ q cur t, G q → n0 ≤ q → A.heap[q]? = some (.cells cur t (0, 0)) → ¬ Vt11 t) : K11 n0 b most M0 root A B := by
  have ar : ∀ {M1 : Cells} {F1 : Nat → Prop}, Ar A b most M1 F1 → Ar B b most M1 (fun q => F1 q ∧ F q) := fun h1 => (h1.meet h).kp hk (fun q hq hg => hF q hg hq.2)
  refine ⟨fun ⟨M1, F1, h1, h2⟩ => ⟨M1, _, ar h1, h2⟩, fun q cur t hq ht e ⟨M1, F1, h1, h2⟩ => ⟨?_, M1, _, ar h1, fun hf => h2 hf.1⟩⟩
  rw [hk.block q (Array.getElem?_eq_some_iff.1 e).1 (fun hg => hG q cur t hg hq e ht)]
  exact e
def SafeL (n0 b most : Nat) (A : World) (v : Option Addr) : Prop := ∀ a, v = some a → n0 ≤ a.block ∧ Safe b most A a.block
theorem SafeL.below {v : Option Addr} (h : SafeL n0 b most A v) (hb : Below A.heap.size A B) : SafeL n0 b most B v := fun a e => ⟨(h a e).1, (h a e).2.below hb⟩
theorem Lim.k11 {v : Option Addr} {P : Ky → Prop} (h : Lim A v P) (hs : SafeL n0 b most A v) (hk : K11 n0 b most M0 root A B) : Lim B v P ∧ SafeL n0 b most B v := by
  rcases h with rfl | ⟨g, k, rfl, c, p⟩
  · exact ⟨.inl rfl, fun a e => by cases e⟩
  · obtain ⟨h1, h2⟩ := hs _ rfl
    obtain ⟨c', s'⟩ := hk.same g _ _ h1 (.inr (.inr (.inr rfl))) c h2
    exact ⟨.inr ⟨g, k, rfl, c', p⟩, fun a e => by cases e; exact ⟨h1, s'⟩⟩
structure Rounds11 (n0 b most : Nat) (M0 : Cells) (root lp : Nat) (J Jx : Nat → World → Prop) (xs : List Pr) : Prop where
  keep : ∀ i A B, J i A → Below A.heap.size A B → J i B
  step : ∀ i x A, xs[i]? = some x → J i A → YieldAt Fence.wide 0 Tryz.prog lp #[pagg x] A fun e B => (e = .returned (.bool true) ∧ J (i + 1) B ∧ K11 n0 b most M0 root A B) ∨ (e = .returned (.bool false) ∧ Jx (i + 1) B ∧ K11 n0 b most M0 root A B)
def Vis11 (n0 b most : Nat) (M0 : Cells) (root : Nat) (J Jx : Nat → World → Prop) (xs : List Pr) (m : Nat) (A : World) (e : Ending) (B : World) : Prop :=
  (e = .returned (.bool true) ∧ J m B ∧ K11 n0 b most M0 root A B) ∨ (e = .returned (.bool false) ∧ K11 n0 b most M0 root A B ∧ ∃ i, i ≤ xs.length ∧ Jx i B)
structure VS11 (n0 b bh most z3 z7 : Nat) (n : Nv) (lows highs : List Pr) (A : World) : Prop where
  lb : C2 A z3 26 (ap b) (.pointer (some ⟨bh, 0, none⟩))
  nb : BC A z7 144 (ncells n)
  low : LimL A n.low lows
  high : LimH A n.high highs
  sl : SafeL n0 b most A n.low ∧ SafeL n0 b most A n.high
  n3 : n0 ≤ z3 ∧ n0 ≤ z7
  sf : Safe b most A z3 ∧ Safe b most A z7
theorem VS11.kv {bh z3 z7 : Nat} {n : Nv} {l1 l2 : List Pr} (h : VS11 n0 b bh most z3 z7 n l1 l2 A) (hk : K11 n0 b most M0 root A B) : VS11 n0 b bh most z3 z7 n l1 l2 B := by
  obtain ⟨e3, s3⟩ := hk.same z3 _ _ h.n3.1 (.inl rfl) h.lb h.sf.1
  obtain ⟨e7, s7⟩ := hk.same z7 _ _ h.n3.2 (.inr (.inl rfl)) h.nb h.sf.2
  obtain ⟨lo, so⟩ := Lim.k11 h.low h.sl.1 hk
  obtain ⟨hi, si⟩ := Lim.k11 h.high h.sl.2 hk
  exact ⟨e3, e7, lo, hi, ⟨so, si⟩, h.n3, s3, s7⟩
theorem VS11.below {bh z3 z7 : Nat} {n : Nv} {l1 l2 : List Pr} (h : VS11 n0 b bh most z3 z7 n l1 l2 A) (hb : Below A.heap.size A B) : VS11 n0 b bh most z3 z7 n l1 l2 B :=
  ⟨h.lb.below hb, h.nb.below hb, h.low.below hb, h.high.below hb, ⟨h.sl.1.below hb, h.sl.2.below hb⟩, h.n3, h.sf.1.below hb, h.sf.2.below hb⟩
end
end Go.Proofs.YtghbbpbhbinioaaGreat
