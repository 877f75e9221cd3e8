/- Several texts in one. -/
import Derived.Test.YtghbbpbhbinioaaGreatMr23
import Derived.Test.YtghbbpbhbinioaaGreatMr26
import Derived.IntWalk
import Derived.Deep.CutRange
import Derived.Deep.CutBlock
import Derived.Deep.LoopGhost
namespace Go.Proofs.YtghbbpbhbinioaaGreat
set_option maxRecDepth 100000
set_option linter.unusedSimpArgs false
set_option linter.unusedVariables false
open Go.RowKit Go.Shelf
theorem okn_r (j : Nat) : OkK (2, (j : Int), ⟨#[]⟩) := by refine ⟨by show (0 : Int) ≤ 2; decide, by show (2 : Int) ≤ 255; decide, ?_⟩; show 17 + (⟨#[]⟩ : ByteArray).size ≤ _; decide
structure Rm (w W : World) (b bh seed z1 zt : Nat) (l : List Pr) (root : Nat) (P : Nat → Nat) (M : Cells) (F : Nat → Prop) : Prop where
  ls : LS w b bh seed 4096 z1 M F W
  tb : C2 W zt 72 (.int .i64 (l.length : Nat)) (.int .i64 (root : Nat))
  oz : Own11 w F z1 bh zt
  bk : Bk (4096 + 1) M [] P [root]
  tt : TT M root l
section
variable {w W W' : World} {b bh seed z1 zt root : Nat} {l : List Pr} {P : Nat → Nat} {M : Cells} {F : Nat → Prop}
theorem Rm.below (h : Rm w W b bh seed z1 zt l root P M F) (hb : Below W.heap.size W W') : Rm w W' b bh seed z1 zt l root P M F := ⟨h.ls.below hb, h.tb.below hb, h.oz, h.bk, h.tt⟩
theorem Rm.kp {G : Nat → Prop} (h : Rm w W b bh seed z1 zt l root P M F) (hk : Kp G W W') (hG : ∀ q, G q → Own11 w F z1 bh q) (hz : ¬ G zt) : Rm w W' b bh seed z1 zt l root P M F :=
  ⟨h.ls.kp hk (fun q hq => ⟨(hG q hq).1, (hG q hq).2.1, (hG q hq).2.2.2, fun e => (hG q hq).2.2.1 e.symm⟩), h.tb.kp hk hz, h.oz, h.bk, h.tt⟩
end
structure Rk (i : Nat) (l : List Pr) : Prop where
  len : l.length ≤ i
  keys : ∀ q ∈ l, ∃ j : Nat, q.1 = (2, (j : Int), ⟨#[]⟩)
  zero : 0 < i → hasB (2, 0, ⟨#[]⟩) l = true
theorem rwant (n : Int) : ∃ m : Nat, 1 ≤ m ∧ m ≤ 200 ∧ wrap64 (1 + wrap64 ((IntKind.u64.wrap n).tmod 200)) = (m : Int) := by
  have e0 : IntKind.u64.wrap n = n % 18446744073709551616 := by simp [IntKind.wrap, IntKind.bits, IntKind.signed]
  have h0 : 0 ≤ IntKind.u64.wrap n := by omega
  have h1 : 0 ≤ (IntKind.u64.wrap n).tmod 200 ∧ (IntKind.u64.wrap n).tmod 200 < 200 := by
    rw [Int.tmod_eq_emod_of_nonneg h0]
    omega
  rw [IntWalk.wrap64_in ((IntKind.u64.wrap n).tmod 200) (by omega), IntWalk.wrap64_in _ (by omega)]
  exact ⟨(1 + (IntKind.u64.wrap n).tmod 200).toNat, by omega, by omega, by omega⟩
theorem rleft (n : Int) : ∃ m : Nat, m < 60 ∧ wrap64 ((IntKind.u64.wrap n).tmod 60) = (m : Int) := by
  have e0 : IntKind.u64.wrap n = n % 18446744073709551616 := by simp [IntKind.wrap, IntKind.bits, IntKind.signed]
  have h0 : 0 ≤ IntKind.u64.wrap n := by omega
  have h1 : 0 ≤ (IntKind.u64.wrap n).tmod 60 ∧ (IntKind.u64.wrap n).tmod 60 < 60 := by
    rw [Int.tmod_eq_emod_of_nonneg h0]
    omega
  rw [IntWalk.wrap64_in ((IntKind.u64.wrap n).tmod 60) (by omega)]
  exact ⟨((IntKind.u64.wrap n).tmod 60).toNat, by omega, by omega⟩
section
variable {w W : World} {b bh seed z1 zt root i : Nat} {l : List Pr} {M : Cells} {F : Nat → Prop}
theorem rput1 (h : Rm w W b bh seed z1 zt l root (fun _ => 0) M F) (hk : Rk i l) (hi : i < 200) (m : Nat) (hm : i = 0 → m = 0) :
    Calls Tryz.prog 39 #[land b bh, .agg #[.int .i64 (l.length : Nat), .int .i64 (root : Nat)], xagg (2, (m : Int), ⟨#[]⟩), xagg noV, .int .u32 1] W fun e W' => ∃ (l' : List Pr) (n' : Nat) (M' : Cells) (F' : Nat → Prop), e = .returned (.tuple #[.agg #[.int .i64 (l'.length : Nat), .int .i64 (n' : Nat)], .int .i64 0]) ∧ (C2 W' zt 72 (.int .i64 (l.length : Nat)) (.int .i64 (root : Nat)) ∧ LS w b bh seed 4096 z1 M' F' W' ∧ Own11 w F' z1 bh zt) ∧ (Bk (4096 + 1) M' [] (fun _ => 0) [n'] ∧ TT M' n' l') ∧ Rk (i + 1) l' := by
  have hl := hk.len
  have hlv : live (4096 + 1) M = l.length := live_alone h.bk (fun k h0 hc => by
    rw [Nat.zero_add] at hc
    have h1 := List.count_pos_iff.1 hc
    simpa using h1) h.tt
  refine (put11 seed root 1 (2, (m : Int), ⟨#[]⟩) noV l (by decide) (okn_r m) h.bk (fun _ => Nat.zero_le _) h.tt (by omega) (by omega) W h.ls).mono ?_
  rintro e W' ⟨n, M', F', rfl, hls, hT, hF', hkp⟩
  have hzl := h.tb.lt
  have hoz := h.oz
  have hzz : ¬ zt = bh := hoz.2.2.2
  refine ⟨_, n, M', F', rfl, ⟨h.tb.kp hkp (fun hq => hq.elim hoz.2.1 hzz), hls, ⟨hoz.1, hF' zt hzl hoz.2.1, hoz.2.2⟩⟩, ⟨hT.bk, hT.tt⟩, ⟨?_, fun q hq => ?_, fun _ => ?_⟩⟩
  · rw [putL_length h.tt.srt]
    split <;> omega
  · rcases ((putL_spec h.tt.srt).2 q).1 hq with rfl | ⟨h1, _⟩
    · exact ⟨m, rfl⟩
    · exact hk.keys q h1
  · by_cases hi0 : i = 0
    · rw [hm hi0]
      exact hasB_iff.2 ⟨_, ((putL_spec h.tt.srt).2 _).2 (.inl rfl), rfl⟩
    · obtain ⟨q, hq, e2⟩ := hasB_iff.1 (hk.zero (by omega))
      by_cases hm0 : m = 0
      · rw [hm0]
        exact hasB_iff.2 ⟨_, ((putL_spec h.tt.srt).2 _).2 (.inl rfl), rfl⟩
      · refine hasB_iff.2 ⟨q, ((putL_spec h.tt.srt).2 q).2 (.inr ⟨hq, fun e3 => ?_⟩), e2⟩
        rw [e2] at e3
        simp only [Prod.mk.injEq, true_and, and_true] at e3
        omega
end
theorem ltextx (s : ByteArray) (w : World) : Calls Tryz.prog 29 #[.string s] w fun e w' => e = .returned (xagg (3, 0, s)) ∧ Below w.heap.size w w' := by
  go_enter Tryz.func29, Tryz.ntmps29
  go_wp2
  exact bodyPost_ret (v := xagg (3, 0, s)) (by simp [results, Tryz.results29, go_sem]) rfl ⟨rfl, (Below.refl _ _).alloc (Nat.le_refl _) _⟩
theorem Own11.keep {w W : World} {F F' : Nat → Prop} {z1 bh z : Nat} (h : Own11 w F z1 bh z) (hz : z < W.heap.size) (hF : ∀ q, q < W.heap.size → ¬ F q → ¬ F' q) : Own11 w F' z1 bh z := ⟨h.1, hF z hz h.2.1, h.2.2⟩
theorem Own11.not {w : World} {F : Nat → Prop} {z1 bh z : Nat} (h : Own11 w F z1 bh z) : ¬ (F z ∨ z = bh) := fun hq => hq.elim h.2.1 h.2.2.2
section
variable {w W W' : World} {b bh seed z1 zt root : Nat} {l L : List Pr} {P : Nat → Nat} {M : Cells} {F : Nat → Prop}
theorem rmake (h : Rm w W b bh seed z1 zt l root P M F) (hlv : live (4096 + 1) M < 4096) :
    Calls Tryz.prog 41 #[ap b, .agg #[.int .u32 0, .int .u32 0, .int .u32 0, .slice none 0 0, .slice none 0 0]] W fun e W' => ∃ (i : Nat) (M' : Cells) (F' : Nat → Prop), e = .returned (.tuple #[.int .i64 (i : Nat), .int .i64 0]) ∧ Rm w W' b bh seed z1 zt l root (addP P i) M' F' ∧ live (4096 + 1) M' = live (4096 + 1) M + 1 := by
  have hzl := h.tb.lt
  refine (amake ⟨0, 0, 0, [], []⟩ (.slice none 0 0) (.slice none 0 0) b 4096 M F W h.ls.ar (.inl ⟨rfl, rfl, rfl⟩) (.inl ⟨rfl, rfl, rfl⟩) (Nat.zero_le _) (Nat.zero_le _) (fun _ e => (by cases e)) (fun _ e => (by cases e)) rfl hlv).mono ?_
  rintro e W' ⟨i, rfl, i1, i2, i3, hA, hk⟩
  have hs : Stp W W' b 4096 (upd M i (some (⟨0, 0, 0, [], []⟩, 1))) F := Stp.mk' ⟨hA, hk⟩
  have hbk := Bk.make (c := ⟨0, 0, 0, [], []⟩) (hs := [root]) h.bk i1 (by omega) i3 (Nat.zero_le _)
  have h2 := live_upd (M := M) (N := 4096 + 1) i (some (⟨0, 0, 0, [], []⟩, 1)) (by omega)
  rw [i3] at h2
  simp only [one] at h2
  refine ⟨i, _, _, rfl, ⟨h.ls.stp hs, h.tb.kp hk h.oz.2.1, h.oz.keep hzl (fun q hq hn hf => hf.elim hn (fun e => by omega)), hbk.move (fun k _ => ?_) (fun x hx => by simp at hx), h.tt.pres (fun _ => Pres.all (all_new i3 _))⟩, by omega⟩
  rw [show (i :: [root]).count k = [root].count k + (if i == k then 1 else 0) from List.count_cons]
  unfold addP
  by_cases e : k = i
  · subst e; simp; omega
  · rw [if_neg e, if_neg (by simpa using Ne.symm e)]; omega
def RC (w W' : World) (b bh seed z1 zt : Nat) (l : List Pr) (root : Nat) (P : Nat → Nat) (M : Cells) (F : Nat → Prop) (L : List Pr) (zz : List Nat) (N n er : Int) : Prop :=
  (er = 0 ∧ N = (L.length : Int) ∧ ∃ (m : Nat) (M' : Cells) (F' : Nat → Prop), n = (m : Int) ∧ LS w b bh seed 4096 z1 M' F' W' ∧ C2 W' zt 72 (.int .i64 (l.length : Nat)) (.int .i64 (root : Nat)) ∧ Own11 w F' z1 bh zt ∧ (Bk (4096 + 1) M' [] (addP P root) [m] ∧ TT M' m L ∧ TT M' root l ∧ Keeps (addP P root) M M') ∧ ∀ z ∈ zz, Own11 w F' z1 bh z) ∨
  (er = 5 ∧ N = 0 ∧ n = 0 ∧ 4096 < live (4096 + 1) M + (l.length + 1) ∧ Rm w W' b bh seed z1 zt l root P M F ∧ ∀ z ∈ zz, Own11 w F z1 bh z)
theorem RC.of {q : Nat} {N n er : Int} (h : Rm w W b bh seed z1 zt l root P M F) (hr : PutR W W' b bh seed 4096 M F P root 0 L q N n er) (hq : q ≤ l.length + 1) (zz : List Nat) (hzz : ∀ z ∈ zz, Own11 w F z1 bh z ∧ z < W.heap.size) : RC w W' b bh seed z1 zt l root P M F L zz N n er ∧ Kp (fun q => F q ∨ q = bh) W W' := by
  have hzl := h.tb.lt
  rcases hr with ⟨m, M', rfl, rfl, rfl, hT, hS⟩ | ⟨rfl, rfl, rfl, _, h5, hk, hh⟩
  · refine ⟨.inl ⟨rfl, rfl, m, M', _, rfl, h.ls.put hS, h.tb.kp hS.kp h.oz.not, h.oz.keep hzl (fun q hq hn hf => hf.elim hn (fun e => by omega)), ⟨hT.bk, hT.tt, ?_, hT.keeps⟩, fun z hz => (hzz z hz).1.keep (hzz z hz).2 (fun q hq hn hf => hf.elim hn (fun e => by omega))⟩, hS.kp⟩
    exact h.tt.pres (fun h0 => hT.keeps root h0 (addP_self P root))
  · exact ⟨.inr ⟨rfl, rfl, rfl, by omega, ⟨h.ls.hash hk hh, h.tb.kp hk h.oz.2.2.2, h.oz, h.bk, h.tt⟩, fun z hz => (hzz z hz).1⟩, hk.mono (fun _ e _ => .inr e)⟩
section
variable {zz : List Nat} {N n er : Int} {W'' : World}
theorem RC.lb (h : RC w W' b bh seed z1 zt l root P M F L zz N n er) : C2 W' z1 26 (ap b) (.pointer (some ⟨bh, 0, none⟩)) := by
  rcases h with ⟨_, _, m, M', F', _, h1, _⟩ | ⟨_, _, _, _, h, _⟩
  · exact h1.lb
  · exact h.ls.lb
theorem RC.tb (h : RC w W' b bh seed z1 zt l root P M F L zz N n er) : C2 W' zt 72 (.int .i64 (l.length : Nat)) (.int .i64 (root : Nat)) := by
  rcases h with ⟨_, _, m, M', F', _, _, h1, _⟩ | ⟨_, _, _, _, h, _⟩
  · exact h1
  · exact h.tb
theorem RC.alloc (h : RC w W' b bh seed z1 zt l root P M F L zz N n er) (o : Obj) : RC w (W'.alloc o) b bh seed z1 zt l root P M F L (W'.heap.size :: zz) N n er := by
  have hb : Below W'.heap.size W' (W'.alloc o) := (Below.refl _ W').alloc (Nat.le_refl _) o
  rcases h with ⟨e1, e2, m, M', F', e3, h1, h2, h3, h4, h5⟩ | ⟨e1, e2, e3, h4, h, h5⟩
  · exact .inl ⟨e1, e2, m, M', F', e3, h1.below hb, h2.below hb, h3, h4, fun z hz => (List.mem_cons.1 hz).elim (fun e => e ▸ h1.fresh11) (h5 z)⟩
  · exact .inr ⟨e1, e2, e3, h4, h.below hb, fun z hz => (List.mem_cons.1 hz).elim (fun e => e ▸ h.ls.fresh11) (h5 z)⟩
theorem RC.store {z : Nat} (h : RC w W' b bh seed z1 zt l root P M F L (z :: zz) N n er) (hk : Kp (fun q => q = z) W' W'') (hz : zt ≠ z) : RC w W'' b bh seed z1 zt l root P M F L (z :: zz) N n er := by
  rcases h with ⟨e1, e2, m, M', F', e3, h1, h2, h3, h4, h5⟩ | ⟨e1, e2, e3, h4, h, h5⟩
  · have oz := h5 z (by simp)
    exact .inl ⟨e1, e2, m, M', F', e3, h1.kp hk (fun q e => by rw [e]; exact ⟨oz.1, oz.2.1, oz.2.2.2, fun e => oz.2.2.1 e.symm⟩), h2.kp hk hz, h3, h4, h5⟩
  · exact .inr ⟨e1, e2, e3, h4, h.kp hk (fun q e => by rw [e]; exact h5 z (by simp)) hz, h5⟩
end
theorem rdrop {m : Nat} {M' : Cells} {F' : Nat → Prop} (h : Rm w W b bh seed z1 zt l root P M F) (hP : ∀ j, P j ≤ 5000) (hls : LS w b bh seed 4096 z1 M' F' W') (htb : C2 W' zt 72 (.int .i64 (l.length : Nat)) (.int .i64 (root : Nat))) (hoz : Own11 w F' z1 bh zt) (hbk : Bk (4096 + 1) M' [] (addP P root) [m]) (htt : TT M' root l) (hks : Keeps (addP P root) M M') :
    Calls Tryz.prog 28 #[ap b, .int .i64 (m : Nat)] W' fun e W'' => (∃ z, e = .returned (.int .i64 z)) ∧ ∃ M'' F'', Rm w W'' b bh seed z1 zt l root P M'' F'' ∧ live (4096 + 1) M'' = live (4096 + 1) M ∧ (∀ q, q < W'.heap.size → ¬ F' q → ¬ F'' q) ∧ Kp F' W' W'' := by
  have hzl := htb.lt
  refine (drop1_bk m W' hls.ar (by decide) (fun j => by have := hP j; unfold addP; split <;> omega) hbk).mono ?_
  rintro e W'' ⟨hz, M'', hb2, hk2, hl2, hs2⟩
  have hb0 : Bk (4096 + 1) M [] (addP P root) [] := h.bk.move (fun k _ => by rw [count1r]; unfold addP; simp) (fun x hx => by simp at hx)
  refine ⟨hz, M'', _, ⟨hls.stp hs2, htb.kp hs2.kp hoz.2.1, hoz.keep hzl (fun q hq hn hf => hf.elim hn (fun e => by omega)), hb2.move (fun k _ => by rw [count1r]; unfold addP; simp) (fun x hx => by simp at hx), htt.pres (fun h0 => hk2 root h0 (addP_self P root))⟩, live_stay hb0 hb2 (hks.trans hk2), fun q hq hn hf => hf.elim hn (fun e => by omega), hs2.kp⟩
theorem rputx (h : Rm w W b bh seed z1 zt l root P M F) (hP : ∀ j, P j ≤ 5000) (hl : l.length ≤ 200) (k v : Ky) (hk : OkK k) (zz : List Nat) (hzz : ∀ z ∈ zz, Own11 w F z1 bh z ∧ z < W.heap.size) :
    Calls Tryz.prog 39 #[land b bh, .agg #[.int .i64 (l.length : Nat), .int .i64 (root : Nat)], xagg k, xagg v, .int .u32 0] W fun e W' => ∃ N n er : Int, e = .returned (.tuple #[.agg #[.int .i64 N, .int .i64 n], .int .i64 er]) ∧ RC w W' b bh seed z1 zt l root P M F (putL h0 (k, v) l) zz N n er ∧ Kp (fun q => F q ∨ q = bh) W W' := by
  refine (tPut b bh seed root k v 0 l P W h.ls.ar (by decide) h.bk (fun j => by have := hP j; omega) h.tt h.ls.hh h.ls.nb hk (by omega) (.inl rfl)).mono ?_
  rintro e W' ⟨N, n, er, rfl, hR⟩
  exact ⟨N, n, er, rfl, RC.of h hR (Nat.le_refl _) zz hzz⟩
theorem rtakex (h : Rm w W b bh seed z1 zt l root P M F) (hP : ∀ j, P j ≤ 5000) (hl : l.length ≤ 200) (k : Ky) (hk : hasB k l = true) (zz : List Nat) (hzz : ∀ z ∈ zz, Own11 w F z1 bh z ∧ z < W.heap.size) :
    Calls Tryz.prog 43 #[land b bh, .agg #[.int .i64 (l.length : Nat), .int .i64 (root : Nat)], xagg k, .int .u32 0] W fun e W' => ∃ N n er : Int, e = .returned (.tuple #[.agg #[.int .i64 N, .int .i64 n], .int .i64 er]) ∧ RC w W' b bh seed z1 zt l root P M F (takeL k l) zz N n er ∧ Kp (fun q => F q ∨ q = bh) W W' := by
  refine (tTake b bh seed root k 0 l P W h.ls.ar (by decide) h.bk (fun j => by have := hP j; omega) h.tt h.ls.hh h.ls.nb (by omega) (.inl rfl)).mono ?_
  rintro e W' ⟨N, n, er, rfl, ⟨h1, _⟩ | ⟨_, hR⟩⟩
  · rw [hk] at h1; cases h1
  · exact ⟨N, n, er, rfl, RC.of h hR (by omega) zz hzz⟩
end
section
set_option maxHeartbeats 1600000 in
theorem lfull (er N n left nn ln : Int) (zl zt : Nat) (w : World) (h : er = 0 ∨ er = 5 ∧ N = 0 ∧ n = 0 ∧ left < ln + 3) (hln : 0 ≤ ln ∧ ln ≤ 1000) (q1 : C1 w zl 3 (.int .i64 left)) (q2 : C2 w zt 72 (.int .i64 ln) (.int .i64 nn)) :
    Calls Tryz.prog 44 #[.int .i64 er, .agg #[.int .i64 N, .int .i64 n], .pointer (some ⟨zl, 0, none⟩), .pointer (some ⟨zt, 0, none⟩)] w fun e w' => e = .returned (.bool true) ∧ Below w.heap.size w w' := by
  have hb : Below w.heap.size w (w.alloc (.cells #[.int .i64 N, .int .i64 n] 72)) := (Below.refl _ w).alloc (Nat.le_refl _) _
  have HB := Lib.hid hb
  have x0 := q1.c0
  obtain ⟨y0, y1, _⟩ := q2.all
  have l1 := q1.lt
  have l2 := q2.lt
  have hw := IntWalk.i64_in (ln + 3) (by omega)
  clear q1 q2 hb
  rcases h with rfl | ⟨rfl, rfl, rfl, h⟩
  · go_enter Tryz.func44, Tryz.ntmps44
    go_wp2_with fail
    go_ret
    exact ⟨rfl, HB.out⟩
  · go_enter Tryz.func44, Tryz.ntmps44
    go_wp2_with fail
    go_ret
    exact ⟨rfl, HB.out⟩
end
end Go.Proofs.YtghbbpbhbinioaaGreat
