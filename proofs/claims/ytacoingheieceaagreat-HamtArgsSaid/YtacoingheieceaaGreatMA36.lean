/- Several texts in one. -/
import Derived.Test.YtacoingheieceaaGreatMA34
import Derived.Test.YtacoingheieceaaGreatMA35
import Derived.IntWalk
/- An arena's blocks are told by the world; what a round of the caller's own leaves of a range over pairs. -/
namespace Go.Proofs.YtacoingheieceaaGreat
set_option maxRecDepth 100000
open Go.RowKit
theorem Ar.meet {w : World} {b most most' : Nat} {M M' : Cells} {F F' : Nat → Prop} (h : Ar w b most M F) (h' : Ar w b most' M' F') : Ar w b most M (fun q => F q ∧ F' q) := by
  obtain ⟨n, vc, vf, fr, H, h⟩ := h
  obtain ⟨n', vc', vf', fr', H', h'⟩ := h'
  have er : vc = vc' ∧ vf = vf' := by
    have e := h.row.symm.trans h'.row
    simp only [Option.some.injEq, Obj.cells.injEq, Array.mk.injEq, List.cons.injEq] at e
    exact ⟨e.1.2.2.1, e.1.2.2.2.1⟩
  obtain ⟨rfl, rfl⟩ := er
  refine ⟨n, vc, vf, fr, H, h.m1, h.m2, h.row, h.cs, h.fs, fun j c r e => ?_, h.inj, h.nd, h.fi, h.len, h.le, ⟨h.fb, h'.fb⟩, fun k hk => ⟨h.fc k hk, h'.fc k hk⟩, fun k hk => ⟨h.ff k hk, h'.ff k hk⟩, fun k hk => h.lt k hk.1⟩
  obtain ⟨i1, i2, i3, v, k, h1, h2, h3, h4, h5, h6, h7, h8⟩ := h.cel j c r e
  have hj : (places M H n)[j - 1]? = some (.pointer (some ⟨H j, 0, none⟩)) := by
    rw [places_at (by omega), show j - 1 + 1 = j by omega, e]
    rfl
  obtain ⟨g, cp, ev, _, kc, _⟩ := own_at h.cs hj
  have hcs := h'.cs
  have hn' : n' = n := by
    rcases hcs.2 with ⟨e2, _⟩ | ⟨g2, cp2, cur2, e2, _⟩
    · rw [ev] at e2; cases e2
    · rw [ev] at e2
      injection e2 with _ e3 _
      exact e3.symm
  have hj' : (places M' H' n')[j - 1]? = some (ptrOf (M' j) (H' j)) := by
    rw [places_at (by omega), show j - 1 + 1 = j by omega]
  obtain ⟨g2, cp2, ev2, _, kc2, _⟩ := own_at hcs hj'
  rw [ev] at ev2
  simp only [Value.slice.injEq, Option.some.injEq, Addr.mk.injEq, and_true] at ev2
  obtain ⟨rfl, _, _⟩ := ev2
  rw [kc] at kc2
  cases e' : M' j with
  | none => rw [e'] at kc2; simp [ptrOf] at kc2
  | some y =>
    rw [e'] at kc2
    simp only [ptrOf, Option.some.injEq, Value.pointer.injEq, Addr.mk.injEq, and_true] at kc2
    obtain ⟨c', r'⟩ := y
    obtain ⟨_, _, _, v', k', h1', _, _, h4', h5', h6', _, _⟩ := h'.cel j c' r' e'
    rw [← kc2] at h1' h4'
    have e2 := h1.symm.trans h1'
    simp only [Option.some.injEq, Obj.cells.injEq, Array.mk.injEq, List.cons.injEq] at e2
    obtain ⟨rfl, rfl⟩ : v = v' ∧ k = k' := ⟨e2.1.2.2.2.1, e2.1.2.2.2.2.1⟩
    exact ⟨i1, i2, i3, v, k, h1, h2, h3, ⟨h4, h4'⟩, fun g hg => ⟨h5 g hg, h5' g hg⟩, fun g hg => ⟨⟨(h6 g hg).1, (h6' g hg).1⟩, (h6 g hg).2⟩, h7, h8⟩
/-- A round that changed none of the arena's blocks, and of the range's none that it has for its own. -/
theorem Kv.of_kp {n0 b most most' root : Nat} {M0 M : Cells} {F G : Nat → Prop} {A B : World} (h : Ar A b most' M F) (hk : Kp G A B) (hF : ∀ q, G q → ¬ F q) (hG : ∀ q cur t, G q → n0 ≤ q → A.heap[q]? = some (.cells cur t (0, 0)) → ¬ Vt t) : Kv n0 b most M0 root A B := by
  have ar : ∀ {M1 : Cells} {F1 : Nat → Prop}, Ar A b most M1 F1 → Ar B b most M1 (fun q => F1 q ∧ F q) := fun h1 => (h1.meet h).kp hk (fun q hq hg => hF q hg hq.2)
  refine ⟨fun ⟨M1, F1, h1, h2⟩ => ⟨M1, _, ar h1, h2⟩, fun q cur t hq ht e ⟨M1, F1, h1, h2⟩ => ⟨?_, M1, _, ar h1, fun hf => h2 hf.1⟩⟩
  rw [hk.block q (Array.getElem?_eq_some_iff.1 e).1 (fun hg => hG q cur t hg hq e ht)]
  exact e
end Go.Proofs.YtacoingheieceaaGreat

/- The law HamtArgs of layer 8: the walk. -/
namespace Go.Proofs.YtacoingheieceaaGreat
set_option maxRecDepth 100000
open Go.RowKit Go.Shelf
attribute [local go_sem] Oper.semAt_some
/-- A map of the first i numbers. -/
structure Ai (hs : Ky → Nat) (i : Nat) (l : List Pr) (nn : Nat) (M : Cells) : Prop where
  bk : Bk (999 + 1) M [] (fun _ => 0) [nn]
  mp : Mp M hs nn l
  live : live (999 + 1) M ≤ 16 * i
  len : l.length = i
  keys : ∀ q ∈ l, ∃ j : Nat, j < i ∧ q.1 = (2, (j : Int), ⟨#[]⟩)
/-- Where the map lies. -/
structure Az (w : World) (z3 z4 bh : Nat) (F : Nat → Prop) : Prop where
  lo : w.heap.size ≤ z4
  nF : ¬ F z4
  ne : ¬ z3 = z4
  nb : ¬ z4 = bh
theorem okn (j : Nat) : OkK (2, (j : Int), ⟨#[]⟩) := by refine ⟨by show (0 : Int) ≤ 2; decide, by show (2 : Int) ≤ 255; decide, ?_⟩; show 17 + (⟨#[]⟩ : ByteArray).size ≤ _; decide
section
variable {w W : World} {b bh z3 z4 i nn : Nat} {hs : Ky → Nat} {l : List Pr} {M : Cells} {F : Nat → Prop}
theorem aput (hhs : ∀ q, OkK q → hs q = hashN 7 q.1 q.2.1 q.2.2) (h : LS w b bh 7 999 z3 M F W) (ha : Ai hs i l nn M) (hi : i < 20) (hz : Az w z3 z4 bh F) (hz4 : z4 < W.heap.size) :
    Calls Tryz.prog 18 #[land b bh, .agg #[.int .i64 (l.length : Nat), .int .i64 (nn : Nat)], xagg (2, (i : Int), ⟨#[]⟩), xagg noV, .int .u32 1] W fun e W' => ∃ (l' : List Pr) (n' : Nat) (M' : Cells) (F' : Nat → Prop), e = .returned (.tuple #[.agg #[.int .i64 (l'.length : Nat), .int .i64 (n' : Nat)], .int .i64 0]) ∧ LS w b bh 7 999 z3 M' F' W' ∧ Ai hs (i + 1) l' n' M' ∧ Az w z3 z4 bh F' ∧ Kp (fun q => F q ∨ q = bh) W W' := by
  have hk0 : ∀ q ∈ l, q.1 ≠ (2, (i : Int), ⟨#[]⟩) := fun q hq e => by
    obtain ⟨j, hj, e2⟩ := ha.keys q hq
    rw [e] at e2
    simp only [Prod.mk.injEq, true_and, and_true] at e2
    omega
  have hhas : hasB (2, (i : Int), ⟨#[]⟩) l = false := by
    cases e : hasB (2, (i : Int), ⟨#[]⟩) l with
    | false => rfl
    | true =>
      obtain ⟨q, hq, e2⟩ := hasB_iff.1 e
      exact absurd e2 (hk0 q hq)
  have hl := ha.len
  refine (vPut b bh 7 nn (2, (i : Int), ⟨#[]⟩) noV 1 (fun _ => 0) W h.ar (by decide) ha.bk (fun _ => Nat.zero_le _) ha.mp h.hh h.nb hhs (fun q hq => by
    obtain ⟨j, _, e2⟩ := ha.keys q hq
    rw [e2]; exact okn j) (okn i) (by omega)).mono ?_
  rintro e W' (⟨_, _, hlong, _⟩ | ⟨_, hfull, _⟩ | ⟨n, M', rfl, _, n1, hm, hs2⟩)
  · exact absurd hlong (by unfold Long; omega)
  · have := ha.live; omega
  · have hsz := h.bel.size
    refine ⟨_, n, M', _, rfl, h.put hs2, ⟨hm.bk, hm.mp, ?_, ?_, fun q hq => ?_⟩, ⟨hz.lo, fun hf => hf.elim hz.nF (fun e => by omega), hz.ne, hz.nb⟩, hs2.kp⟩
    · have h1 := hm.live
      have h2 := ha.live
      omega
    · rw [putL_length ha.mp.srt]
      simp only [hhas, Bool.false_eq_true, if_false]
      omega
    · rcases ((putL_spec ha.mp.srt).2 q).1 hq with rfl | ⟨h1, _⟩
      · exact ⟨i, by omega, rfl⟩
      · obtain ⟨j, hj, e2⟩ := ha.keys q h1
        exact ⟨j, by omega, e2⟩
end
theorem awant (n : Int) : ∃ m : Nat, 1 ≤ m ∧ m ≤ 20 ∧ wrap64 (1 + wrap64 ((IntKind.u64.wrap n).tmod 20)) = (m : Int) := by
  have e0 : IntKind.u64.wrap n = n % 18446744073709551616 := by simp [IntKind.wrap, IntKind.bits, IntKind.signed]
  have h0 : 0 ≤ IntKind.u64.wrap n := by omega
  have h1 : 0 ≤ (IntKind.u64.wrap n).tmod 20 ∧ (IntKind.u64.wrap n).tmod 20 < 20 := by
    rw [Int.tmod_eq_emod_of_nonneg h0]
    omega
  rw [IntWalk.wrap64_in ((IntKind.u64.wrap n).tmod 20) (by omega), IntWalk.wrap64_in _ (by omega)]
  exact ⟨(1 + (IntKind.u64.wrap n).tmod 20).toNat, by omega, by omega, by omega⟩
/-- What stands between the rounds of the law's range. -/
structure RA (w w5 : World) (b bh z3 z6 z7 m : Nat) (M : Cells) (F : Nat → Prop) (g : Nat) (W : World) : Prop where
  ls : LS w b bh 7 999 z3 M F W
  q6 : C1 W z6 3 (.int .i64 (m : Int))
  q7 : C1 W z7 3 (.int .i64 (g : Int))
  zs : z6 < w5.heap.size ∧ z7 < w5.heap.size ∧ ¬ F z7 ∧ z7 ≠ bh ∧ z7 ≠ z3 ∧ z6 ≠ z7 ∧ w.heap.size ≤ z7 ∧ bh < w5.heap.size ∧ z3 < w5.heap.size ∧ w.heap.size ≤ w5.heap.size
  fl : ∀ q, F q → q < w5.heap.size
theorem RA.own {w w5 W W' : World} {b bh z3 z6 z7 m g : Nat} {M : Cells} {F : Nat → Prop} {row : Option Nat} (h : RA w w5 b bh z3 z6 z7 m M F g W) (hg : W.grownBy W' row) (hr : ∀ r, row = some r → w5.heap.size ≤ r ∧ ∃ o : Obj, W.heap[r]? = some o ∧ o.isCells = false) : RA w w5 b bh z3 z6 z7 m M F g W' := by
  have hk : Kp (fun q => row = some q) W W' := Kp.of_grown hg (fun q e => .inl e)
  have lo : ∀ q, row = some q → w5.heap.size ≤ q := fun q e => (hr q e).1
  obtain ⟨s1, s2, s3, s4, s5, s6, s7, s8, s9, s10⟩ := h.zs
  exact ⟨h.ls.kp hk (fun q e => ⟨Nat.le_trans s10 (lo q e), fun hf => by have := lo q e; have := h.fl q hf; omega, fun e2 => by have := lo q e; omega, fun e2 => by have := lo q e; omega⟩), h.q6.kp hk (fun e => by have := lo _ e; omega), h.q7.kp hk (fun e => by have := lo _ e; omega), h.zs, h.fl⟩
theorem RA.next {w w5 W : World} {b bh z3 z6 z7 m g : Nat} {M : Cells} {F : Nat → Prop} (h : RA w w5 b bh z3 z6 z7 m M F g W) (g' : Nat) : RA w w5 b bh z3 z6 z7 m M F g' (W.setCell ⟨z7, 0, none⟩ (.int .i64 (g' : Int))) ∧ ∀ {n0 root : Nat} {M0 : Cells}, z7 < n0 → Kv n0 b 999 M0 root W (W.setCell ⟨z7, 0, none⟩ (.int .i64 (g' : Int))) := by
  have hk : Kp (fun q => q = z7) W (W.setCell ⟨z7, 0, none⟩ (.int .i64 (g' : Int))) := Kp.one W z7 0 _
  obtain ⟨s1, s2, s3, s4, s5, s6, s7, s8, s9, s10⟩ := h.zs
  exact ⟨⟨h.ls.kp hk (fun q e => by rw [e]; exact ⟨s7, s3, s4, s5⟩), h.q6.kp hk s6, h.q7.set _, h.zs, h.fl⟩, fun hn => Kv.of_kp h.ls.ar hk (fun q e => by rw [e]; exact s3) (fun q cur t e hq _ => absurd hq (by rw [e]; omega))⟩
/-- What stands at the law's end. -/
structure EA (w : World) (b bh z3 z6 z7 z8 D m : Nat) (W : World) : Prop where
  lb : C2 W z3 30 (ap b) (.pointer (some ⟨bh, 0, none⟩))
  q6 : C1 W z6 3 (.int .i64 (m : Int))
  q7 : C1 W z7 3 (.int .i64 (m : Int))
  q8 : C2 W z8 30 (.pointer none) (.pointer none)
  hd : W.heap[D]? = some (.deferred (some []))
  bel : Below w.heap.size w W
  dlo : w.heap.size ≤ D
theorem EA.below {w W W' : World} {b bh z3 z6 z7 z8 D m : Nat} (h : EA w b bh z3 z6 z7 z8 D m W) (hb : Below W.heap.size W W') : EA w b bh z3 z6 z7 z8 D m W' :=
  ⟨h.lb.below hb, h.q6.below hb, h.q7.below hb, h.q8.below hb, (hb.block D (Array.getElem?_eq_some_iff.1 h.hd).1).trans h.hd, h.bel.trans (hb.mono h.bel.size), h.dlo⟩
section
set_option maxHeartbeats 8000000 in
theorem awalk (n : Int) (w : World) : Calls Tryz.prog 4 #[.int .i64 n] w fun e w' => e = .returned (.bool true) ∧ Below w.heap.size w w' := by
  obtain ⟨hs, hhs⟩ : ∃ hs : Ky → Nat, ∀ q, OkK q → hs q = hashN 7 q.1 q.2.1 q.2.2 := ⟨fun q => hashN 7 q.1 q.2.1 q.2.2, fun _ _ => rfl⟩
  have HHS := Lib.hid hhs
  clear hhs
  refine (callsIn_wide (n := 3)).1 ?_
  refine callsIn_of_wp_marks Tryz.func4 rfl trivial ?_ rfl
  refine wpIn_wide.2 ?_
  simp only [Tryz.ntmps4, List.size_toArray, List.length_cons, List.length_nil, Nat.reduceAdd, Nat.reduceSub, Array.replicate_succ, Array.replicate_zero, List.push_toArray, List.append_toArray, List.nil_append, List.cons_append]
  go_wp2_with fail
  refine (llives w).mono ?_
  rintro e w0 ⟨rfl, hb0⟩
  have HB0 := Lib.hid hb0
  clear hb0
  go_wp2_with fail
  refine (lland 7 999 w0 (by decide) (by decide)).mono ?_
  rintro e w1 ⟨b, bh, rfl, ha, hh, hne, hbb, hbh, hbl⟩
  have LB := Lib.hid (And.intro ha (And.intro hh (And.intro hne (And.intro hbb (And.intro hbh hbl)))))
  have hb1 := ha.blt
  have hh1 := hh.lt
  clear ha hh hne hbb hbh hbl
  go_upto_region 6 with fail
  have hls : LS w b bh 7 999 w1.heap.size (fun _ => none) (fun k => k = b) (w1.alloc (.cells #[ap b, .pointer (some ⟨bh, 0, none⟩)] 30)) := by
    obtain ⟨ha, hh, hne, hbb, hbh, hbl⟩ := LB.out
    have hs0 := HB0.out.size
    have hbl2 := HB0.out.trans (hbl.mono hs0)
    exact ⟨ha.alloc _, hh.alloc _, fun e => hne e.symm, C2.new _ _ _ _, ⟨fun e => by omega, by omega⟩, hbl2.alloc hbl2.size _, fun q e => by omega, ⟨hbl2.size, by omega⟩⟩
  have hls2 := hls.alloc (.cells #[.int .i64 0, .int .i64 0] 33)
  have hq4 := C2.new (w1.alloc (.cells #[ap b, .pointer (some ⟨bh, 0, none⟩)] 30)) 33 (.int .i64 0) (.int .i64 0)
  have hnz := hls.newz
  have hz4e : (w1.alloc (.cells #[ap b, .pointer (some ⟨bh, 0, none⟩)] 30)).heap.size = w1.heap.size + 1 := by simp
  rw [hz4e] at hq4 hnz
  clear hls hb1 hh1 hz4e
  generalize (w1.alloc (.cells #[ap b, .pointer (some ⟨bh, 0, none⟩)] 30)).alloc (.cells #[.int .i64 0, .int .i64 0] 33) = w2 at hls2 hq4 ⊢
  generalize w1.heap.size + 1 = z4 at hq4 hnz ⊢
  generalize w1.heap.size = z3 at hls2 hnz ⊢
  have H2 := Lib.hid (And.intro hls2 (And.intro hq4 (Az.mk (F := fun k => k = b) hnz.1 hnz.2.1 hnz.2.2.1 hnz.2.2.2)))
  clear hls2 hq4 hnz
  go_loopw [20] (fun s20 wr => ∃ (i : Nat) (l : List Pr) (nn : Nat) (M : Cells) (F : Nat → Prop), s20 = .int .i64 (i : Int) ∧ i ≤ 20 ∧ LS w b bh 7 999 z3 M F wr ∧ C2 wr z4 33 (.int .i64 (l.length : Nat)) (.int .i64 (nn : Nat)) ∧ Ai hs i l nn M ∧ Az w z3 z4 bh F) (fun s20 _ => 20 - (intOf s20).toNat)
  case atStart => exact ⟨0, [], 0, _, _, rfl, by decide, H2.out.1, H2.out.2.1, ⟨bk0 999, .inl ⟨rfl, rfl⟩, by rw [live_zero fun _ => rfl]; decide, rfl, fun q hq => by cases hq⟩, H2.out.2.2⟩
  case round =>
    clear H2
    obtain ⟨i, l, nn, M, F, rfl, hi, hls, hq4, hai, haz⟩ := hrel
    by_cases hi20 : i < 20
    · have hlt : (i : Int) < 20 := by omega
      have hw1 : IntKind.i64.wrap ((i : Int) + 1) = (i : Int) + 1 := IntWalk.i64_in _ (by omega)
      have HI := Lib.hid (And.intro hi20 (And.intro hai haz))
      have HLS := Lib.hid (And.intro hls hq4)
      clear hai haz hi20 hi
      go_upto_region 8 with fail
      have l0 : ∀ W, C2 W z3 30 (ap b) (.pointer (some ⟨bh, 0, none⟩)) → W.cell? ⟨z3, 0, none⟩ = some (ap b) := fun W h => h.c0
      have l1 : ∀ W, C2 W z3 30 (ap b) (.pointer (some ⟨bh, 0, none⟩)) → W.cell? ⟨z3, 1, none⟩ = some (.pointer (some ⟨bh, 0, none⟩)) := fun W h => h.c1
      refine wp_region_noPanic ?_
      refine wp_region_held_drew (S := fun W => C2 W z3 30 (ap b) (.pointer (some ⟨bh, 0, none⟩))) (by kernel_rfl) (HLS.out.1.below (Below.refl _ wr).drew).lb (fun hH => ?_)
      have ls3 := And.intro (HLS.out.1.below (Below.refl _ wr).drew) (HLS.out.2.below (Below.refl _ wr).drew)
      clear hls hq4 HLS
      generalize wr.drew = W3 at ls3 hH ⊢
      refine wpAnyH_take (i := 0) (v := ?_) rfl (by kernel_rfl) (by kernel_rfl) (by kernel_rfl) (fun _ _ _ h => h) (Or.inl ⟨by rfl, ?_⟩) hH ?_
      rotate_left
      · intro W' hS
        go_simp
        with_reducible rfl
      simp only [Act.put, List.setIfInBounds_toArray, List.set_cons_zero, List.set_cons_succ, List.getElem_toArray, List.getElem_cons_zero]
      refine wpAnyH_take (i := 2) (v := ?_) rfl (by kernel_rfl) (by kernel_rfl) (by kernel_rfl) (fun _ _ _ h => h) (Or.inl ⟨by rfl, ?_⟩) hH ?_
      rotate_left
      · intro W' hS
        go_simp
        with_reducible rfl
      simp only [Act.put, List.setIfInBounds_toArray, List.set_cons_zero, List.set_cons_succ, List.getElem_toArray, List.getElem_cons_zero, List.getElem_cons_succ]
      refine wpAnyH_take (i := 4) (v := ?_) rfl (by kernel_rfl) (by kernel_rfl) (by kernel_rfl) (fun _ _ _ h => h) (Or.inl ⟨by rfl, ?_⟩) hH ?_
      rotate_left
      · intro W' hS
        go_simp
        with_reducible rfl
      simp only [Act.put, List.setIfInBounds_toArray, List.set_cons_zero, List.set_cons_succ, List.getElem_toArray, List.getElem_cons_zero, List.getElem_cons_succ]
      refine wpAnyH_ready (rs := [1, 3]) (by kernel_rfl) (by simp) ?_
      refine AllReadyH.cons rfl (fun K hK => ?_) (AllReadyH.cons rfl (fun K hK => ?_) AllReadyH.nil)
      · obtain ⟨m0, m1, _⟩ := ls3.2.all
        go_simp
        clear m0 m1
        refine hK.out _ _ ?_ (fun hH => ?_)
        · exact ls3.1.lb
        clear hK K
        refine wpAnyH_ready (rs := [3]) (by kernel_rfl) (by simp) ?_
        refine AllReadyH.cons rfl (fun K hK => ?_) AllReadyH.nil
        go_simp
        refine (lnumber (i : Int) W3).mono ?_
        rintro e W4 ⟨rfl, hb4⟩
        have ls4 := And.intro (ls3.1.below hb4) (ls3.2.below hb4)
        clear hb4
        simp only
        refine hK.out _ _ ?_ (fun hH => ?_)
        · exact ls4.1.lb
        clear hK K
        refine wpAnyH_ready (rs := [5]) (by kernel_rfl) (by simp) ?_
        refine AllReadyH.cons rfl (fun K hK => ?_) AllReadyH.nil
        go_simp
        refine (aput HHS.out ls4.1 HI.out.2.1 HI.out.1 HI.out.2.2 ls4.2.lt).mono ?_
        rintro e W9 ⟨l', n', M', F', rfl, ls9, ai9, az9, hk9⟩
        have q9 := ls4.2.kp hk9 (fun e => e.elim HI.out.2.2.nF HI.out.2.2.nb)
        simp only
        refine hK.out _ _ ?_ (fun hH => ?_)
        · exact ls9.lb
        clear hK K hk9
        refine wpAnyH_take (i := 6) (v := ?_) rfl (by kernel_rfl) (by kernel_rfl) (by kernel_rfl) (fun _ _ _ h => h) (Or.inl ⟨by rfl, ?_⟩) hH ?_
        rotate_left
        · intro W' hS
          go_simp
          with_reducible rfl
        simp only [Act.put, List.setIfInBounds_toArray, List.set_cons_zero, List.set_cons_succ, List.getElem_toArray, List.getElem_cons_zero, List.getElem_cons_succ]
        refine wpAnyH_take (i := 7) (v := ?_) rfl (by kernel_rfl) (by kernel_rfl) (by kernel_rfl) (fun _ _ _ h => h) (Or.inl ⟨by rfl, ?_⟩) hH ?_
        rotate_left
        · intro W' hS
          go_simp
          with_reducible rfl
        simp only [Act.put, List.setIfInBounds_toArray, List.set_cons_zero, List.set_cons_succ, List.getElem_toArray, List.getElem_cons_zero, List.getElem_cons_succ]
        refine wpAnyH_take (i := 8) (v := ?_) rfl (by kernel_rfl) (by kernel_rfl) (by kernel_rfl) (fun _ _ _ h => h) (Or.inl ⟨by rfl, ?_⟩) hH ?_
        rotate_left
        · intro W' hS
          go_simp
          with_reducible rfl
        simp only [Act.put, List.setIfInBounds_toArray, List.set_cons_zero, List.set_cons_succ, List.getElem_toArray, List.getElem_cons_zero, List.getElem_cons_succ]
        refine wpAnyH_ready (rs := [9]) (by kernel_rfl) (by simp) ?_
        refine AllReadyH.cons rfl (fun K hK => ?_) AllReadyH.nil
        obtain ⟨m0, m1, g0, g1⟩ := q9.all
        go_simp
        clear m0 m1 g0 g1
        have hk : Kp (fun q => q = z4) W9 ((W9.setCell ⟨z4, 0, none⟩ (.int .i64 (l'.length : Nat))).setCell ⟨z4, 1, none⟩ (.int .i64 (n' : Nat))) := ((Kp.refl (fun q => q = z4) W9).setCell (.inl rfl) _).setCell (.inl rfl) _
        have ls10 := ls9.kp hk (fun q e => by
          rw [e]
          exact ⟨az9.lo, az9.nF, az9.nb, fun e => az9.ne e.symm⟩)
        have q10 := (q9.set0 (.int .i64 (l'.length : Nat))).set1 (.int .i64 (n' : Nat))
        generalize (W9.setCell ⟨z4, 0, none⟩ (.int .i64 (l'.length : Nat))).setCell ⟨z4, 1, none⟩ (.int .i64 (n' : Nat)) = W10 at ls10 q10 ⊢
        refine hK.out _ _ ?_ (fun hH => ?_)
        · exact ls10.lb
        clear hK K hk
        refine wpAnyH_done (by kernel_rfl) ?_ _
        refine NoPanic.normal ?_
        clear l0 l1
        have HE := Lib.hid (And.intro ls10 (And.intro q10 (And.intro ai9 az9)))
        clear ls9 ls10 q9 q10 ai9 az9 hH
        go_wp2_with fail
        go_roundw
        case rel => exact ⟨i + 1, l', n', M', F', rfl, by have := HI.out.1; omega, HE.out⟩
        case measure =>
          have := HI.out.1
          simp [intOf]
          omega
      · go_simp
        refine (lnumber (i : Int) W3).mono ?_
        rintro e W4 ⟨rfl, hb4⟩
        have ls4 := And.intro (ls3.1.below hb4) (ls3.2.below hb4)
        clear hb4
        simp only
        refine hK.out _ _ ?_ (fun hH => ?_)
        · exact ls4.1.lb
        clear hK K
        refine wpAnyH_ready (rs := [1]) (by kernel_rfl) (by simp) ?_
        refine AllReadyH.cons rfl (fun K hK => ?_) AllReadyH.nil
        obtain ⟨m0, m1, _⟩ := ls4.2.all
        go_simp
        clear m0 m1
        refine hK.out _ _ ?_ (fun hH => ?_)
        · exact ls4.1.lb
        clear hK K
        refine wpAnyH_ready (rs := [5]) (by kernel_rfl) (by simp) ?_
        refine AllReadyH.cons rfl (fun K hK => ?_) AllReadyH.nil
        go_simp
        refine (aput HHS.out ls4.1 HI.out.2.1 HI.out.1 HI.out.2.2 ls4.2.lt).mono ?_
        rintro e W9 ⟨l', n', M', F', rfl, ls9, ai9, az9, hk9⟩
        have q9 := ls4.2.kp hk9 (fun e => e.elim HI.out.2.2.nF HI.out.2.2.nb)
        simp only
        refine hK.out _ _ ?_ (fun hH => ?_)
        · exact ls9.lb
        clear hK K hk9
        refine wpAnyH_take (i := 6) (v := ?_) rfl (by kernel_rfl) (by kernel_rfl) (by kernel_rfl) (fun _ _ _ h => h) (Or.inl ⟨by rfl, ?_⟩) hH ?_
        rotate_left
        · intro W' hS
          go_simp
          with_reducible rfl
        simp only [Act.put, List.setIfInBounds_toArray, List.set_cons_zero, List.set_cons_succ, List.getElem_toArray, List.getElem_cons_zero, List.getElem_cons_succ]
        refine wpAnyH_take (i := 7) (v := ?_) rfl (by kernel_rfl) (by kernel_rfl) (by kernel_rfl) (fun _ _ _ h => h) (Or.inl ⟨by rfl, ?_⟩) hH ?_
        rotate_left
        · intro W' hS
          go_simp
          with_reducible rfl
        simp only [Act.put, List.setIfInBounds_toArray, List.set_cons_zero, List.set_cons_succ, List.getElem_toArray, List.getElem_cons_zero, List.getElem_cons_succ]
        refine wpAnyH_take (i := 8) (v := ?_) rfl (by kernel_rfl) (by kernel_rfl) (by kernel_rfl) (fun _ _ _ h => h) (Or.inl ⟨by rfl, ?_⟩) hH ?_
        rotate_left
        · intro W' hS
          go_simp
          with_reducible rfl
        simp only [Act.put, List.setIfInBounds_toArray, List.set_cons_zero, List.set_cons_succ, List.getElem_toArray, List.getElem_cons_zero, List.getElem_cons_succ]
        refine wpAnyH_ready (rs := [9]) (by kernel_rfl) (by simp) ?_
        refine AllReadyH.cons rfl (fun K hK => ?_) AllReadyH.nil
        obtain ⟨m0, m1, g0, g1⟩ := q9.all
        go_simp
        clear m0 m1 g0 g1
        have hk : Kp (fun q => q = z4) W9 ((W9.setCell ⟨z4, 0, none⟩ (.int .i64 (l'.length : Nat))).setCell ⟨z4, 1, none⟩ (.int .i64 (n' : Nat))) := ((Kp.refl (fun q => q = z4) W9).setCell (.inl rfl) _).setCell (.inl rfl) _
        have ls10 := ls9.kp hk (fun q e => by
          rw [e]
          exact ⟨az9.lo, az9.nF, az9.nb, fun e => az9.ne e.symm⟩)
        have q10 := (q9.set0 (.int .i64 (l'.length : Nat))).set1 (.int .i64 (n' : Nat))
        generalize (W9.setCell ⟨z4, 0, none⟩ (.int .i64 (l'.length : Nat))).setCell ⟨z4, 1, none⟩ (.int .i64 (n' : Nat)) = W10 at ls10 q10 ⊢
        refine hK.out _ _ ?_ (fun hH => ?_)
        · exact ls10.lb
        clear hK K hk
        refine wpAnyH_done (by kernel_rfl) ?_ _
        refine NoPanic.normal ?_
        clear l0 l1
        have HE := Lib.hid (And.intro ls10 (And.intro q10 (And.intro ai9 az9)))
        clear ls9 ls10 q9 q10 ai9 az9 hH
        go_wp2_with fail
        go_roundw
        case rel => exact ⟨i + 1, l', n', M', F', rfl, by have := HI.out.1; omega, HE.out⟩
        case measure =>
          have := HI.out.1
          simp [intOf]
          omega
    · have hlt : ¬ (i : Int) < 20 := by omega
      obtain rfl : i = 20 := by omega
      have HLS := Lib.hid (And.intro hls (And.intro hq4 (And.intro hai haz)))
      obtain ⟨x0, x1, _⟩ := hls.lb.all
      obtain ⟨y0, y1, _⟩ := hq4.all
      have hzl := And.intro hls.lb.lt hq4.lt
      clear hls hq4 hai haz hi hi20
      obtain ⟨m, hm1, hm20, hm⟩ := awant n
      go_upto_region 11 with fail
      rw [hm]
      have hz7e : (wr.alloc (.cells #[.int .i64 (m : Int)] 3)).heap.size = wr.heap.size + 1 := by simp
      have hls6 := (HLS.out.1.alloc (.cells #[.int .i64 (m : Int)] 3)).alloc (.cells #[.int .i64 0] 3)
      have hq6 := (C1.new wr 3 (.int .i64 (m : Int))).alloc (.cells #[.int .i64 0] 3)
      have hq7 := C1.new (wr.alloc (.cells #[.int .i64 (m : Int)] 3)) 3 (.int .i64 0)
      have hq46 := (HLS.out.2.1.alloc (.cells #[.int .i64 (m : Int)] 3)).alloc (.cells #[.int .i64 0] 3)
      have hsz6 : ((wr.alloc (.cells #[.int .i64 (m : Int)] 3)).alloc (.cells #[.int .i64 0] 3)).heap.size = wr.heap.size + 2 := by simp
      rw [hz7e] at hq7
      have hfl : ∀ q, F q → q < wr.heap.size := fun q hq => HLS.out.1.ar.lt hq
      have hbhl : bh < wr.heap.size := HLS.out.1.hh.lt
      have hwlo : w.heap.size ≤ wr.heap.size := HLS.out.1.bel.size
      clear hz7e x0 x1 y0 y1
      generalize (wr.alloc (.cells #[.int .i64 (m : Int)] 3)).alloc (.cells #[.int .i64 0] 3) = w6 at hls6 hq6 hq7 hq46 hsz6 ⊢
      obtain ⟨z6, hz6⟩ : ∃ z6, z6 = wr.heap.size := ⟨_, rfl⟩
      obtain ⟨z7, hz7⟩ : ∃ z7, z7 = wr.heap.size + 1 := ⟨_, rfl⟩
      rw [← hz7] at hq7 ⊢
      rw [← hz6] at hq6 ⊢
      have H6 := Lib.hid (And.intro hls6 (And.intro hq6 (And.intro hq7 (And.intro hq46 (And.intro hsz6 (And.intro hfl (And.intro hbhl (And.intro hwlo (And.intro hz6 (And.intro hz7 (And.intro hzl (And.intro hm1 hm20))))))))))))
      obtain ⟨x0, x1, _⟩ := hls6.lb.all
      obtain ⟨y0, y1, _⟩ := hq46.all
      clear hls6 hq6 hq7 hq46 hsz6 hfl hbhl hwlo hz6 hz7 hzl hm1 hm20 hm hlt
      go_wp2_with fail
      refine (vPairs b bh l.length nn w6).mono ?_
      rintro e w5 ⟨zl, zm, rfl, ql, qm, _, _, hb5⟩
      have hra : RA w w5 b bh z3 z6 z7 m M F 0 w5 := by
        obtain ⟨hls6, hq6, hq7, hq46, hsz6, hfl, hbhl, hwlo, hz6, hz7, hzl, hm1, hm20⟩ := H6.out
        have hs5 := hb5.size
        have hne : z7 ≠ z3 := by have := hzl.1; omega
        exact ⟨hls6.below hb5, hq6.below hb5, hq7.below hb5, ⟨by omega, by omega, fun hf => by have := hfl z7 hf; omega, by omega, hne, by omega, by omega, by omega, by have := hzl.1; omega, by omega⟩, fun q hq => by have := hfl q hq; omega⟩
      have hgive := pairs_gives (b := b) (bh := bh) (most := 999) (root := nn) (N := l.length) (M0 := M) (hs := hs) (l := l) zl zm w5 (by rw [HLS.out.2.2.1.len]; decide) hra.ls.ar.zero HLS.out.2.2.1.mp ⟨M, F, hra.ls.ar, Pres.refl M nn⟩ ql qm
      have HG := Lib.hid hgive
      have HR := Lib.hid (And.intro hra (show 0 < m from H6.out.2.2.2.2.2.2.2.2.2.2.2.1))
      clear x0 x1 y0 y1 ql qm hb5 hra hgive
      go_wp2_with fail
      refine wp_range8 (encs := fun p : Pr => #[pagg p]) (first := #[]) (last := #[.pointer (some ⟨zl, 0, none⟩), .pointer (some ⟨zm, 0, none⟩)]) (f := 77) rfl (fun _ _ => rfl) (fun _ => rfl) HG.out (fun h1 h2 => h1.trans h2) (fun W l o o' _ ho hc _ => Kv.putObj ho hc)
        (fun g W => RA w w5 b bh z3 z6 z7 m M F g W ∧ g < m) (fun c g W => (RA w w5 b bh z3 z6 z7 m M F g W ∧ g = m) ∧ c = .exit 2) (fun g A B row h hg hr => ⟨h.1.own hg hr, h.2⟩) (fun c g A B row h hg hr => ⟨⟨h.1.1.own hg hr, h.1.2⟩, h.2⟩) HR.out ?_ ?_ ?_
      · intro lp i x W hx
        gi_wp2
        refine ⟨trivial, fun W' hI hsz => ?_⟩
        obtain ⟨hra, him⟩ := hI
        obtain ⟨q6a, _⟩ := hra.q6.all
        obtain ⟨q7a, q7b⟩ := hra.q7.all
        have hnx := hra.next (i + 1)
        have hzs := hra.zs
        have hi9 : i ≤ 20 := by have := H6.out.2.2.2.2.2.2.2.2.2.2.2.2; omega
        have hw9 : IntKind.i64.wrap ((i : Int) + 1) = (i : Int) + 1 := IntWalk.i64_in _ (by omega)
        have hne : ¬ z6 = z7 := hzs.2.2.2.2.2.1
        have hne' : ¬ z7 = z6 := fun e => hne e.symm
        have HNX := Lib.hid (And.intro hnx.1 (hnx.2 (n0 := w5.heap.size) (root := nn) (M0 := M) hzs.2.1))
        have HIM := Lib.hid him
        clear hra hnx hzs hi9 him hsz hx HG HR
        by_cases he : i + 1 = m
        · subst he
          gi_wp2
          exact ⟨(KeepsOthers.refl W').trans (KeepsOthers.setCell _ _ _), HNX.out.2, ⟨HNX.out.1, rfl⟩, rfl⟩
        · have hx : ¬ (i : Int) + 1 = (m : Int) := by omega
          have HE := Lib.hid he
          clear he
          gi_wp2
          exact ⟨(KeepsOthers.refl W').trans (KeepsOthers.setCell _ _ _), HNX.out.2, HNX.out.1, by have := HIM.out; have := HE.out; omega⟩
      · intro D W hD hI hdef
        exfalso
        have h1 := hI.2
        have h2 := HLS.out.2.2.1.len
        have h3 := H6.out.2.2.2.2.2.2.2.2.2.2.2.2
        omega
      · rintro D c i W hD hi ⟨⟨hra, rfl⟩, rfl⟩ hdef
        obtain ⟨s1, s2, s3, s4, s5, s6, s7, s8, s9, s10⟩ := hra.zs
        have HD := Lib.hid (And.intro hdef (And.intro (Nat.le_trans s10 hD) hra.ls.bel))
        have HV := Lib.hid (And.intro hra.ls.lb (And.intro hra.q6 hra.q7))
        clear hdef hD hi hra s1 s2 s3 s4 s5 s6 s7 s8 s9 s10 HR HG
        go_upto_region 15 with fail
        have HV := Lib.hid (show EA w b bh z3 z6 z7 W.heap.size D i (W.alloc (.cells #[.pointer none, .pointer none] 30)) from ⟨HV.out.1.alloc _, HV.out.2.1.alloc _, HV.out.2.2.alloc _, C2.new _ _ _ _, (Below.heap_alloc _ _ _ (Array.getElem?_eq_some_iff.1 HD.out.1).1).trans HD.out.1, HD.out.2.2.alloc HD.out.2.2.size _, HD.out.2.1⟩)
        generalize W.alloc (.cells #[.pointer none, .pointer none] 30) = W8 at HV ⊢
        clear HD
        generalize W.heap.size = z8 at HV ⊢
        have x0 := HV.out.q8.c0
        have x1 := HV.out.q8.c1
        have x2 := HV.out.lb.c0
        go_wp2_with fail
        refine (vPut_no none none (.inl rfl) noV noV 0 _).mono ?_
        rintro e wy ⟨rfl, hby⟩
        have HV2 := Lib.hid ((HV.out.below hby).below ((Below.refl _ wy).alloc (Nat.le_refl _) (.cells #[.int .i64 0, .int .i64 0] 33)))
        clear hby HV x0 x1 x2
        go_upto_region 16 with fail
        generalize wy.alloc (.cells #[.int .i64 0, .int .i64 0] 33) = wz at HV2 ⊢
        generalize wy.heap.size = zq1 at ⊢
        have HV := HV2
        clear HV2
        have x0 := HV.out.q8.c0
        have x1 := HV.out.q8.c1
        have x2 := HV.out.lb.c0
        go_wp2_with fail
        refine (vTake_no none none (.inl rfl) noV 0 _).mono ?_
        rintro e wy ⟨rfl, hby⟩
        have HV2 := Lib.hid ((HV.out.below hby).below ((Below.refl _ wy).alloc (Nat.le_refl _) (.cells #[.int .i64 0, .int .i64 0] 33)))
        clear hby HV x0 x1 x2
        go_upto_region 17 with fail
        generalize wy.alloc (.cells #[.int .i64 0, .int .i64 0] 33) = wz at HV2 ⊢
        generalize wy.heap.size = zq2 at ⊢
        have HV := HV2
        clear HV2
        have x0 := HV.out.q8.c0
        have x1 := HV.out.q8.c1
        have x2 := HV.out.lb.c0
        go_wp2_with fail
        refine (vPut_no (some ⟨b, 0, none⟩) none (.inr rfl) noV noV 0 _).mono ?_
        rintro e wy ⟨rfl, hby⟩
        have HV2 := Lib.hid ((HV.out.below hby).below ((Below.refl _ wy).alloc (Nat.le_refl _) (.cells #[.int .i64 0, .int .i64 0] 33)))
        clear hby HV x0 x1 x2
        go_upto_region 18 with fail
        generalize wy.alloc (.cells #[.int .i64 0, .int .i64 0] 33) = wz at HV2 ⊢
        generalize wy.heap.size = zq3 at ⊢
        have HV := HV2
        clear HV2
        have x0 := HV.out.q8.c0
        have x1 := HV.out.q8.c1
        have x2 := HV.out.lb.c0
        go_wp2_with fail
        refine (vLook_no none none (.inl rfl) noV _).mono ?_
        rintro e wy ⟨rfl, hby⟩
        have HV2 := Lib.hid ((HV.out.below hby).below ((Below.refl _ wy).alloc (Nat.le_refl _) (.cells #[.int .u8 noV.1, .int .i64 noV.2.1, .string noV.2.2] 43)))
        clear hby HV x0 x1 x2
        go_upto_region 19 with fail
        generalize wy.alloc (.cells #[.int .u8 noV.1, .int .i64 noV.2.1, .string noV.2.2] 43) = wz at HV2 ⊢
        generalize wy.heap.size = zq4 at ⊢
        have HV := HV2
        clear HV2
        obtain ⟨a6, _⟩ := HV.out.q6.all
        obtain ⟨a7, _⟩ := HV.out.q7.all
        have x0 := HV.out.q8.c0
        have x1 := HV.out.q8.c1
        go_wp2_with fail
        refine (vPairs_no none none _).mono ?_
        rintro e wy ⟨zl2, zm2, rfl, ql, qm, hby⟩
        have HC := Lib.hid (vcollect_none zl2 zm2 wy (fun W hW => pairs_nil zl2 zm2 none _ W (ql.below hW) (qm.below hW)))
        have HV2 := Lib.hid (HV.out.below hby)
        clear hby HV x0 x1 a6 a7 ql qm
        go_wp2_with fail
        refine HC.out.mono ?_
        rintro e wu ⟨rfl, hbu⟩
        have HV3 := Lib.hid (HV2.out.below hbu)
        clear hbu HV2 HC
        go_wp2_with fail
        refine ⟨by simp, .inl ⟨_, _, rfl, run_takeDeferred HV3.out.hd, ?_⟩⟩
        exact ⟨_, by simp [results, Tryz.results4, go_sem], rfl, below_kp HV3.out.bel (kp_putObj (x := D)) (fun q e => by rw [e]; exact HV3.out.dlo)⟩
end
end Go.Proofs.YtacoingheieceaaGreat
