/- Several texts in one. -/
import Derived.Test.YthcpjehkjhpjfaaGreatMh28
import Derived.Test.YthcpjehkjhpjfaaGreatMh26
import Derived.IntWalk
import Derived.Deep.CutRange
import Derived.Deep.CutBlock
import Derived.BigQuiet
import Derived.Test.YthcpjehkjhpjfaaGreatMh19
import Derived.Test.YthcpjehkjhpjfaaGreatMh17
import Derived.Test.YthcpjehkjhpjfaaGreatMh21
namespace Go.Proofs.YthcpjehkjhpjfaaGreat
set_option maxRecDepth 100000
set_option linter.unusedSimpArgs false
set_option linter.unusedVariables false
open Go.RowKit
def Acted (w0 W W' : World) (b bh seed zw : Nat) (hs : Ky → Nat) (M : Cells) (F : Nat → Prop) (g : Nat) (E : List En) : Prop :=
  ∃ (g' cp' : Nat) (M' : Cells) (F' : Nat → Prop) (last' : Int) (E' : List En), Wd w0 W' b bh seed zw hs M' F' (.slice (some ⟨g', 0, none⟩) E'.length cp') last' E' ∧ 1 ≤ E'.length ∧ E'.length ≤ 10 ∧ live (65536 + 1) M' ≤ live (65536 + 1) M + 640 ∧ Kp (fun q => F q ∨ q = bh ∨ q = g ∨ q = zw) W W' ∧ ∀ q, F' q → F q ∨ W.heap.size ≤ q
theorem act_at (m : Int) (N : Nat) (h0 : 1 ≤ N) (h1 : N ≤ 10) : ∃ i : Nat, i < N ∧ wrap64 ((IntKind.u64.wrap m).tmod (N : Int)) = (i : Int) := by
  have e0 : IntKind.u64.wrap m = m % 18446744073709551616 := by simp [IntKind.wrap, IntKind.bits, IntKind.signed]
  have h2 : 0 ≤ IntKind.u64.wrap m := by omega
  have h4 := Int.emod_nonneg (IntKind.u64.wrap m) (show (N : Int) ≠ 0 by omega)
  have h5 := Int.emod_lt_of_pos (IntKind.u64.wrap m) (show (0 : Int) < (N : Int) by omega)
  rw [Int.tmod_eq_emod_of_nonneg h2, IntWalk.wrap64_in _ (by omega)]
  exact ⟨(IntKind.u64.wrap m % (N : Int)).toNat, by omega, by omega⟩
theorem act_n (m : Int) : ∃ n : Nat, n < 40 ∧ wrap64 ((IntKind.u64.wrap m).tmod 40) = (n : Int) := by
  have e0 : IntKind.u64.wrap m = m % 18446744073709551616 := by simp [IntKind.wrap, IntKind.bits, IntKind.signed]
  have h2 : 0 ≤ IntKind.u64.wrap m := by omega
  have h1 : 0 ≤ (IntKind.u64.wrap m).tmod 40 ∧ (IntKind.u64.wrap m).tmod 40 < 40 := by
    rw [Int.tmod_eq_emod_of_nonneg h2]
    omega
  rw [IntWalk.wrap64_in _ (by omega)]
  exact ⟨((IntKind.u64.wrap m).tmod 40).toNat, by omega, by omega⟩
theorem Chd8.acted {w0 W W2 W9 : World} {b bh seed zw g cp : Nat} {hs : Ky → Nat} {M M' : Cells} {F F' : Nat → Prop} {last : Int} {E E' : List En} (h : Chd8 w0 W2 W9 b bh seed zw hs M F g cp last E M' F' E') (hb : Below W.heap.size W W2) (hE : 1 ≤ E.length ∧ E.length ≤ 10) : Acted w0 W W9 b bh seed zw hs M F g E := by
  have hw := h.wd
  rw [← h.len] at hw
  exact ⟨g, cp, M', F', last, E', hw, by rw [h.len]; exact hE.1, by rw [h.len]; exact hE.2, Nat.le_trans h.live (by omega), (Kp.of_below hb _).trans h.kp (fun q hq => .inl (hq.imp id (fun h => h.imp id .inl))), fun q hq => (h.fr q hq).imp id (fun h => Nat.le_trans hb.size h)⟩
theorem rd_four (w : World) (x0 x1 x2 x3 : Value) (t : TypeId) (b : Nat) (hb : b = w.heap.size) : Rd (w.alloc (.cells #[x0, x1, x2, x3] t)) (.slice (some ⟨b, 0, none⟩) 1 1) 1 [x0, x1, x2, x3] := by
  subst hb
  refine .inr ⟨_, 0, 1, rfl, Nat.le_refl _, fun j u hu => ?_⟩
  match j, hu with
  | 0, hu => simp at hu; subst hu; simp [go_sem]
  | 1, hu => simp at hu; subst hu; simp [go_sem]
  | 2, hu => simp at hu; subst hu; simp [go_sem]
  | 3, hu => simp at hu; subst hu; simp [go_sem]
end Go.Proofs.YthcpjehkjhpjfaaGreat

namespace Go.Proofs.YthcpjehkjhpjfaaGreat
set_option maxRecDepth 100000
open Go.RowKit
section
set_option maxHeartbeats 1600000 in
theorem veditM1 (x : Wv) (i : Nat) (f : FuncId) (pre : Value) (z4 z7 : Nat) (R : Value → World → Prop) (W : World) (h4 : WC W z4 x) (h7 : C1 W z7 207 (.func (.func f) #[pre] #[]))
    (hC : Calls Tryz.prog 196 #[ap x.b, .int .i64 (i : Nat), .int .u32 x.ow, .func (.func f) #[pre] #[]] W fun e W' => ∃ v, e = .returned v ∧ R v W') :
    Calls Tryz.prog 195 #[.int .i64 (i : Nat), .pointer (some ⟨z4, 0, none⟩), .pointer (some ⟨z7, 0, none⟩)] W fun e W' => ∃ v, e = .returned v ∧ R v W' := by
  have HC := Lib.hid hC
  obtain ⟨q0, q1, q2, q3, q4, q5, q6, q7, q8, q9⟩ := h4.all
  have k7 := h7.c0
  clear hC h4 h7
  go_enter Tryz.func195, Tryz.ntmps195
  go_wp2_with fail
  refine HC.out.mono ?_
  rintro e w3 ⟨v, rfl, hR⟩
  have HR := Lib.hid hR
  clear hR
  go_wp2_with fail
  go_ret
  exact ⟨v, rfl, HR.out⟩
set_option maxHeartbeats 1600000 in
theorem veditM (x : Wv) (n k made g o : Nat) (f : FuncId) (pre : Value) (R : Value → Value → World → Prop) (w : World) (hA : x.A4 = some ⟨g, o, none⟩) (hn : n + 1 ≤ x.n4) (hc : x.n4 ≤ x.c4) (hn' : n ≤ 1000000) (hk : k ≤ 1000000) (hm : made ≤ 1000000)
    (hF : ∀ W, Below w.heap.size w W → Calls Tryz.prog 192 #[ap x.b, .int .u32 x.ow, .slice (some ⟨g, o, none⟩) (n + 1) x.c4] W fun e W' => e = .returned (.int .i64 (k : Nat)) ∧ Below W.heap.size W W')
    (hD : ∀ W z4 z7, Below w.heap.size w W → w.heap.size ≤ z4 → w.heap.size ≤ z7 → z4 ≠ z7 → WC W z4 x → C1 W z7 207 (.func (.func f) #[pre] #[]) →
      Calls Tryz.prog 193 #[wagg x, .int .i64 (n : Nat), .int .i64 ((k : Int) + (made : Int)), .func (.func 195) #[] #[.pointer (some ⟨z4, 0, none⟩), .pointer (some ⟨z7, 0, none⟩)]] W fun e W' => ∃ a c, e = .returned (.tuple #[a, c]) ∧ R a c W') :
    Calls Tryz.prog 143 #[wagg x, .int .i64 (n : Nat), .int .i64 (made : Nat), .func (.func f) #[pre] #[]] w fun e w' => ∃ a c, e = .returned (.tuple #[a, c]) ∧ R a c w' := by
  have e1 : (w.alloc (.cells (wcells x) 162)).heap.size = w.heap.size + 1 := by simp
  have hb : Below w.heap.size w ((w.alloc (.cells (wcells x) 162)).alloc (.cells #[.func (.func f) #[pre] #[]] 207)).drew := (((Below.refl _ w).alloc (Nat.le_refl _) _).alloc (by simp) _).drew
  have HB := Lib.hid hb
  have hw := (((WC.new w x).alloc (.cells #[.func (.func f) #[pre] #[]] 207)).below ((Below.refl _ _).drew))
  have hc1 := (C1.new (w.alloc (.cells (wcells x) 162)) 207 (.func (.func f) #[pre] #[])).below ((Below.refl _ _).drew)
  rw [e1] at hc1
  have HWX := Lib.hid (And.intro hw hc1)
  have HFX := Lib.hid hF
  have HDX := Lib.hid hD
  have m0 : ∀ W', (WC W' w.heap.size x ∧ C1 W' (w.heap.size + 1) 207 (.func (.func f) #[pre] #[])) → W'.cell? ⟨w.heap.size, 0, none⟩ = some (ap x.b) := fun W' h => h.1.at rfl
  have m2 : ∀ W', (WC W' w.heap.size x ∧ C1 W' (w.heap.size + 1) 207 (.func (.func f) #[pre] #[])) → W'.cell? ⟨w.heap.size, 2, none⟩ = some (.int .u32 x.ow) := fun W' h => h.1.at rfl
  have m5 : ∀ W', (WC W' w.heap.size x ∧ C1 W' (w.heap.size + 1) 207 (.func (.func f) #[pre] #[])) → W'.cell? ⟨w.heap.size, 5, none⟩ = some (.slice (some ⟨g, o, none⟩) x.n4 x.c4) := fun W' h => hA ▸ h.1.at rfl
  clear hF hD hb hA hw hc1 e1
  go_enter Tryz.func143, Tryz.ntmps143
  go_wp2_with fail
  have s1 : IntKind.i64.wrap ((k : Int) + (made : Int)) = (k : Int) + (made : Int) := IntWalk.i64_in _ (by omega)
  have s4 : IntKind.i64.wrap ((n : Int) + 1) = (n : Int) + 1 := IntWalk.i64_in _ (by omega)
  have s2 : (n : Int) + 1 ≤ (x.c4 : Int) := by omega
  have s3 : (0 : Int) ≤ (n : Int) + 1 := by omega
  have s5 : ((n : Int) + 1).toNat = n + 1 := by omega
  refine wp_region_noPanic ?_
  go_region_held (fun W' => WC W' w.heap.size x ∧ C1 W' (w.heap.size + 1) 207 (.func (.func f) #[pre] #[]))
    (first | with_reducible assumption | with_reducible exact HWX.out | with_reducible exact HW2.out)
    ((go_at_call 192; refine (HFX.out _ HB.out).mono ?_; rintro e w2 ⟨rfl, hb2⟩; have HW2 := Lib.hid (And.intro (HWX.out.1.below hb2) (HWX.out.2.below hb2)); have HB2 := Lib.hid (HB.out.trans (hb2.mono HB.out.size)); clear hb2))
  refine NoPanic.normal ?_
  obtain ⟨q0, q1, q2, q3, q4, q5, q6, q7, q8, q9⟩ := HW2.out.1.all
  clear m0 m2 m5 s1 s4 s5
  go_wp2_with fail
  refine (HDX.out _ _ _ HB2.out (Nat.le_refl _) (Nat.le_succ _) (by omega) HW2.out.1 HW2.out.2).mono ?_
  rintro e w3 ⟨a, c, rfl, hR⟩
  have HR := Lib.hid hR
  clear hR
  go_wp2_with fail
  exact bodyPost_ret (v := .tuple #[a, c]) (by simp [results, Tryz.results143, go_sem]) rfl ⟨a, c, rfl, HR.out⟩
end
section
variable {most : Nat} {M : Cells} {F : Nat → Prop} {hs : Ky → Nat} {k : Ky} {new : Pr → Prop} {lvj j : Nat} {lj l : List Pr}
set_option maxHeartbeats 1600000 in
theorem veditM_bk (x : Wv) (f : FuncId) (pre : Value) (q0 : Nat) (cl rest : List (Nat × Nat)) (bj : Nat) (cj : Hc) (Qc : Cells → Hc → Cells → Prop) (P : Nat → Nat) (w : World) (h : Ar w x.b most M F) (hm : most ≤ 1048576) (hfe : ∀ (args : Array Value) (W : World), (callFunc f args).run Tryz.prog W = .ok (.enter f args) W) (hg : hs k = x.g) (hn : OfK k new)
    (hb : Bk (most + 1) M [] P [x.root]) (hP : ∀ j, P j ≤ 576460752303423488) (hw : Wp M hs k 0 x.root l cl lvj j lj) (hcj : ∃ rj, M j = some (cj, rj)) (hcl : (cl ++ (j, bj) :: rest).length ≤ 100) (hq0 : q0 ≤ 100) (ho4 : w.ownsRow 0 3 1 (.slice x.A4 x.n4 x.c4) x.n4 (nums (ns ((cl ++ (j, bj) :: rest).map Prod.fst)))) (hn4 : x.n4 = (cl ++ (j, bj) :: rest).length)
    (hch : ∀ (W : World) (M1 : Cells) (H1 : List Nat) (P1 : Nat → Nat) (F1 : Nat → Prop), Rn w W x.b most M1 F F1 → Bk (most + 1) M1 H1 P1 [j] → (∀ j, P1 j ≤ 1152921504606846976) → Pres M (blank M1 H1) j → ∀ M2 H2, Way1 most M1 H1 P1 j x.ow cj M2 H2 → live (most + 1) M2 + q0 ≤ most → ChgP f pre x.b most F1 W M2 cj (Fun most M2 H2 (addP P1 j) q0 (Qc M2)))
    (hfin : ∀ (M1 : Cells) (H1 : List Nat) (P1 : Nat → Nat) (M2 : Cells) (H2 : List Nat) (c' : Hc) (M3 : Cells) (n : Nat) (M' : Cells) (q : Nat), Bk (most + 1) M1 H1 P1 [j] → HT (blank M1 H1) hs lvj j lj → Pres M (blank M1 H1) j → Way1 most M1 H1 P1 j x.ow cj M2 H2 → Qc M2 c' M3 → Ren most M1 H1 P1 x.ow q n M' c' M3 H2 → ∃ lj', HT (blank M' H1) hs lvj n lj' ∧ Chd k new lj lj') :
    Calls Tryz.prog 143 #[wagg x, .int .i64 (cl.length : Nat), .int .i64 (q0 : Nat), .func (.func f) #[pre] #[]] w fun e w' => (e = .returned (.tuple #[.int .i64 0, .int .i64 5]) ∧ most < live (most + 1) M + (freshN M x.ow (cl.map Prod.fst ++ [j]) + q0) ∧ Below w.heap.size w w') ∨
      ∃ n M', e = .returned (.tuple #[.int .i64 (n : Nat), .int .i64 0]) ∧ 1 ≤ n ∧ MRes most M P hs k new x.root x.ow l (freshN M x.ow (cl.map Prod.fst ++ [j]) + q0) n M' ∧ Stp w w' x.b most M' F := by
  obtain ⟨rj, hcj⟩ := hcj
  obtain ⟨g4, hA4⟩ : ∃ g4, x.A4 = some ⟨g4, 0, none⟩ := by
    rcases ho4.2 with ⟨_, e⟩ | ⟨g, cap, cur, e, _⟩
    · rw [hn4] at e; simp at e
    · simp only [Value.slice.injEq] at e
      exact ⟨g, e.1⟩
  have hcap : x.n4 ≤ x.c4 := by rw [hA4] at ho4; exact (own_cap ho4).1
  have hcl1 : cl.length + 1 ≤ 100 := by rw [List.length_append, List.length_cons] at hcl; omega
  have hfr := freshN_le M x.ow (cl.map Prod.fst ++ [j])
  rw [List.length_append, List.length_map, List.length_singleton] at hfr
  have hnc : cl.length + 1 ≤ x.n4 := by rw [hn4, List.length_append, List.length_cons]; omega
  have hrd : ∀ W, Below w.heap.size w W → Rd W (.slice (some ⟨g4, 0, none⟩) (cl.length + 1) x.c4) (cl.map Prod.fst ++ [j]).length (nums (ns (cl.map Prod.fst ++ [j]))) := fun W hW => by
    have h1 := (Kp.of_below hW (fun _ => False)).own ho4 (fun _ _ h => h)
    rw [hA4] at h1
    have h2 := own_first h1 hnc
    have e : (nums (ns ((cl ++ (j, bj) :: rest).map Prod.fst))).take ((cl.length + 1) * 1) = nums (ns (cl.map Prod.fst ++ [j])) := by
      rw [show cl ++ (j, bj) :: rest = (cl ++ [(j, bj)]) ++ rest by simp, List.map_append, show (cl ++ [(j, bj)]).map Prod.fst = cl.map Prod.fst ++ [j] by simp]
      unfold nums ns
      rw [List.map_append, List.map_append, Nat.mul_one, List.take_left' (by simp)]
    rw [e] at h2
    rw [List.length_append, List.length_map, List.length_singleton]
    exact Rd.of_own h2
  have hfn : ∀ W, Below w.heap.size w W → Calls Tryz.prog 192 #[ap x.b, .int .u32 x.ow, .slice (some ⟨g4, 0, none⟩) (cl.length + 1) x.c4] W fun e W' => e = .returned (.int .i64 (freshN M x.ow (cl.map Prod.fst ++ [j]) : Nat)) ∧ Below W.heap.size W W' := fun W hW =>
    vfresh x.ow (cl.map Prod.fst ++ [j]) (.slice (some ⟨g4, 0, none⟩) (cl.length + 1) x.c4) W (h.below hW) (hrd W hW) (by rw [List.length_append, List.length_map, List.length_singleton]; omega)
  by_cases hroom : live (most + 1) M + (freshN M x.ow (cl.map Prod.fst ++ [j]) + q0) ≤ most
  · refine (veditM x cl.length (freshN M x.ow (cl.map Prod.fst ++ [j])) q0 g4 0 f pre (fun a c w' => ∃ n M', a = .int .i64 (n : Nat) ∧ c = .int .i64 0 ∧ 1 ≤ n ∧ MRes most M P hs k new x.root x.ow l (freshN M x.ow (cl.map Prod.fst ++ [j]) + q0) n M' ∧ Stp w w' x.b most M' F) w hA4 hnc hcap (by omega) (by omega) (by omega) hfn (fun W z4 z7 hW g4' g7 hne h4 h7 => ?_)).mono ?_
    · have h1 := vdo_bk (new := new) (lvj := lvj) (j := j) (lj := lj) (l := l) x 195 #[.pointer (some ⟨z4, 0, none⟩), .pointer (some ⟨z7, 0, none⟩)] [j] q0 cl P W (h.below hW) hm (fun args W => by kernel_rfl) hg hn hb hP hw (by omega) hroom (fun W2 M1 H1 P1 F1 r1 r2 r3 r4 r5 r6 => by
        have nf : ∀ z, w.heap.size ≤ z → ¬ F z := fun z hz hf => by have := h.lt hf; omega
        have h42 := h4.kp r1.kp (nf z4 g4')
        have h72 := h7.kp r1.kp (nf z7 g7)
        have hcc : contC M1 j = cj := by
          have hjH := (r2.hand (i := j) (by simp) (r5.pos (blank_none.2 r2.zero))).2
          obtain ⟨r', e'⟩ := r4 j cj rj .refl hcj
          rw [blank_out hjH] at e'
          unfold contC
          rw [e']
        have hf1 : freshN M1 x.ow [j] = if aloneB M1 j x.ow = true then 0 else 1 := rfl
        rw [hf1] at r6 ⊢
        have hRn : Rn w W2 x.b most M1 F F1 := ⟨r1.ar, (Kp.of_below hW F).trans r1.kp (fun _ h => .inl h), fun y hy => by
          rcases r1.sub y hy with h1 | h1
          · exact .inl h1
          · exact .inr (Nat.le_trans hW.size h1)⟩
        refine (veditM1 x j f pre z4 z7 (fun v W' => ∃ n2 M2, v = .int .i64 (n2 : Nat) ∧ PR most M1 H1 P1 hs k new lvj lj ((if aloneB M1 j x.ow = true then 0 else 1) + q0) n2 M2 ∧ Stp W2 W' x.b most M2 F1) W2 h42 h72 ?_).mono ?_
        · refine (renewBP f pre j x.ow cj q0 (fun M2 _ => Qc M2) W2 r1.ar hfe hm (fun _ => Nat.le_refl _) r3 r2 hcc (by omega) (fun M2 H2 hw1 => hch W2 M1 H1 P1 F1 hRn r2 r3 r4 M2 H2 hw1 (by have := hw1.live; omega))).mono ?_
          rintro e W' ⟨n, M', rfl, hs2, M2, H2, c', M3, hw1, hq, hren⟩
          exact ⟨_, rfl, n, M', rfl, ⟨hren.pos, hren.bk, hren.keeps, hren.holes, by have := hren.live; omega, hfin M1 H1 P1 M2 H2 c' M3 n M' _ r2 r5 r4 hw1 hq hren⟩, hs2⟩
        · rintro e W' ⟨v, rfl, n2, M2, rfl, h1, h2⟩
          exact ⟨n2, M2, rfl, h1, h2⟩)
      refine h1.mono ?_
      rintro e W' ⟨n, M', rfl, h1, h2, h3⟩
      exact ⟨_, _, rfl, n, M', rfl, rfl, h1, h2, Stp.from (fun y hy => h.lt hy) hW h3⟩
    · rintro e w' ⟨a, c, rfl, n, M', rfl, rfl, h1, h2, h3⟩
      exact .inr ⟨n, M', rfl, h1, h2, h3⟩
  · refine (veditM x cl.length (freshN M x.ow (cl.map Prod.fst ++ [j])) q0 g4 0 f pre (fun a c w' => a = .int .i64 0 ∧ c = .int .i64 5 ∧ Below w.heap.size w w') w hA4 hnc hcap (by omega) (by omega) (by omega) hfn (fun W z4 z7 hW g4' g7 hne h4 h7 => ?_)).mono ?_
    · refine (vdo_full x cl.length (freshN M x.ow (cl.map Prod.fst ++ [j]) + q0) _ W (h.below hW) (by omega)).mono ?_
      rintro e W' ⟨rfl, hb2⟩
      exact ⟨_, _, rfl, rfl, rfl, hW.trans (hb2.mono hW.size)⟩
    · rintro e w' ⟨a, c, rfl, rfl, rfl, h3⟩
      exact .inl ⟨rfl, by omega, h3⟩
end
end Go.Proofs.YthcpjehkjhpjfaaGreat

namespace Go.Proofs.YthcpjehkjhpjfaaGreat
set_option maxRecDepth 100000
open Go.RowKit
theorem ChgP.mono {f : FuncId} {pre : Value} {b most : Nat} {F : Nat → Prop} {w : World} {M1 : Cells} {c : Hc} {R R' : Hc → Cells → Prop} (h : ChgP f pre b most F w M1 c R) (hR : ∀ c' M2, R c' M2 → R' c' M2) : ChgP f pre b most F w M1 c R' := fun o v k W F1 h1 h2 h3 h4 h5 => by
  refine (h o v k W F1 h1 h2 h3 h4 h5).mono ?_
  rintro e W' ⟨v', k', c', M2, F2, g1, g2, g3, g4, g5, g6, g7⟩
  exact ⟨v', k', c', M2, F2, g1, g2, g3, g4, g5, g6, hR _ _ g7⟩
theorem bit_without (s d e : Nat) (hs : s < 4294967296) (hd : d < 32) : (s &&& (4294967295 - 2 ^ d)).testBit e = (s.testBit e && decide (e ≠ d)) := by
  have hlt : 2 ^ d < 2 ^ 32 := Nat.pow_lt_pow_right (by decide) hd
  have h1 : 4294967295 - 2 ^ d = 2 ^ 32 - (2 ^ d + 1) := by omega
  rw [Nat.testBit_and, h1, Nat.testBit_two_pow_sub_succ hlt, Nat.testBit_two_pow]
  cases hb : s.testBit e with
  | false => simp
  | true =>
    have he : e < 32 := by
      refine Nat.lt_of_not_le (fun h => ?_)
      have : s < 2 ^ e := Nat.lt_of_lt_of_le hs (by have := Nat.pow_le_pow_right (n := 2) (by decide) h; simpa using this)
      rw [Nat.testBit_lt_two_pow this] at hb
      cases hb
    simp [he, eq_comm]
section
variable {most : Nat} {M : Cells} {F : Nat → Prop} {hs : Ky → Nat} {k : Ky} {l lf : List Pr}
theorem vtake_leaf (x : Wv) (zw j lvj : Nat) (cl : List (Nat × Nat)) (cj : Hc) (rj : Nat) (P : Nat → Nat) (w : World) (h : Ar w x.b most M F) (hm : most ≤ 1048576) (hg : hs k = x.g) (hb : Bk (most + 1) M [] P [x.root]) (hP : ∀ j, P j ≤ 576460752303423488)
    (hw : Wp M hs k 0 x.root l cl lvj j lf) (hL : LeafF M hs lvj j lf cj rj) (hk : hasN k lf = true) (h2 : 2 ≤ lf.length) (hlf : lf.length ≤ 4096) (hcl : cl.length ≤ 90)
    (ho4 : w.ownsRow 0 3 1 (.slice x.A4 x.n4 x.c4) x.n4 (nums (ns ((cl ++ [(j, 13)]).map Prod.fst)))) (hn4 : x.n4 = (cl ++ [(j, 13)]).length) (hat : x.at' = 2 * lowN k lf)
    (zw' : WC w zw x) (nF : ¬ F zw) :
    Calls Tryz.prog 143 #[wagg x, .int .i64 (cl.length : Nat), .int .i64 0, .func (.func 149) #[] #[.pointer (some ⟨zw, 0, none⟩)]] w fun e w' => (e = .returned (.tuple #[.int .i64 0, .int .i64 5]) ∧ most < live (most + 1) M + (freshN M x.ow (cl.map Prod.fst ++ [j]) + 0) ∧ Below w.heap.size w w') ∨
      ∃ n M', e = .returned (.tuple #[.int .i64 (n : Nat), .int .i64 0]) ∧ 1 ≤ n ∧ MRes most M P hs k (fun _ => False) x.root x.ow l (freshN M x.ow (cl.map Prod.fst ++ [j]) + 0) n M' ∧ Stp w w' x.b most M' F := by
  have hlow : lowN k lf < lf.length := by
    obtain ⟨v, hv⟩ := hasN_at hk
    exact (List.getElem?_eq_some_iff.1 hv).1
  refine vedit_bk x 149 #[.pointer (some ⟨zw, 0, none⟩)] 0 cl [] 13 cj (fun M2 c' M3 => c' = { cj with vals := flatP (lf.eraseIdx (lowN k lf)) } ∧ M3 = M2) P w h hm (fun args W => by kernel_rfl) hg (fun q hq => hq.elim) hb hP hw ⟨rj, hL.cell⟩ (by simp; omega) (by decide) ho4 hn4 (fun W M1 H1 P1 F1 r1 r2 r3 r4 M2 H2 hw1 hl => ?_) (fun M1 H1 P1 M2 H2 c' M3 n M' q r2 r5 r4 hw1 hq hren => ?_)
  · have l1 := zw'.lt
    refine (chgS_take1 (M1 := M2) x zw cj lf k W (zw'.kp r1.kp nF) (nFz r1 l1 nF) hL.vals hat hlow hlf).mono ?_
    rintro c' M3 ⟨rfl, rfl⟩
    have hpl : (lf.eraseIdx (lowN k lf)).length ≤ lf.length := by rw [List.length_eraseIdx]; split <;> omega
    exact ⟨hw1.bk, Keeps.refl _ _, fun _ _ => rfl, Nat.le_refl _, by show (flatP (lf.eraseIdx (lowN k lf))).length ≤ _; rw [flatP_length]; omega, by show cj.kids.length ≤ _; rw [hL.kids]; exact Nat.zero_le _, rfl, rfl⟩
  · obtain ⟨rfl, rfl⟩ := hq
    have hnH := (hren.bk.hand (i := n) (by simp) (by have := hren.pos; omega)).2
    refine leaf_del (M' := blank M' H1) (i' := n) (r' := 1) (ow := x.ow) (a := cj.a) hL hk h2 ?_
    rw [blank_out hnH, hren.cell]
    show some (({ cj with vals := flatP (lf.eraseIdx (lowN k lf)), owner := x.ow } : Hc), 1) = _
    rw [show cj = ⟨cj.owner, cj.a, cj.b, cj.vals, cj.kids⟩ from rfl, hL.cb, hL.kids]
theorem Wy.last {lv j b : Nat} {lj : List Pr} {y : Nat × Nat} (h : Wy M hs (hs k) lv j lj [(j, b), y] lf) (hk : hasN k lf = true) : ∃ c r s K L, NodeF M hs lv j lj c r b s K L ∧ (∀ d, d < 32 → s.testBit d = true → HT M hs (b + 1) (K d) (L d)) ∧ s.testBit (dg (hs k) b) = true ∧ sdx s (hs k) b = cnt s (dg (hs k) b) ∧ L (dg (hs k) b) = lf ∧ b < 13 ∧ K (dg (hs k) b) = y.1 := by
  generalize hcl : [(j, b), y] = cl at h
  cases h with
  | leaf h => simp at hcl
  | @node _ _ _ c r b' s K L d cl' _ h hT hd hx hw =>
    injection hcl with e1 e2
    injection e1 with _ e3
    subst e3
    subst e2
    obtain ⟨v, hv⟩ := hasN_at hk
    have hmem := List.mem_of_getElem? hv
    have hmL := hw.sub _ hmem
    have hdig := h.dig d _ hmL
    simp only at hdig
    subst hdig
    have hd32 := dg_lt (hs k) b
    refine ⟨c, r, s, K, L, h, hT, hd, ?_, ?_, h.b13, ?_⟩
    · unfold sdx; rw [if_pos hd]
    · generalize hc2 : [y] = cl2 at hw
      cases hw with
      | leaf h2 => rfl
      | node h2 hT2 hd2 hx2 hw2 =>
        injection hc2 with _ e2
        have := hw2.leafF
        obtain ⟨_, _, _, _, _, e3⟩ := this
        rw [← e2] at e3
        cases e3
    · generalize hc2 : [y] = cl2 at hw
      cases hw with
      | leaf h2 => injection hc2 with e1 _; rw [e1]
      | node h2 hT2 hd2 hx2 hw2 => injection hc2 with e1 _; rw [e1]
theorem vtake_kid (x : Wv) (j lvj b : Nat) (cl : List (Nat × Nat)) (y : Nat × Nat) (lj : List Pr) (P : Nat → Nat) (w : World) (h : Ar w x.b most M F) (hm : most ≤ 1048576) (hg : hs k = x.g) (hb : Bk (most + 1) M [] P [x.root]) (hP : ∀ j, P j ≤ 576460752303423488)
    (hw : Wp M hs k 0 x.root l cl lvj j lj) (hy : Wy M hs (hs k) lvj j lj [(j, b), y] lf) (hk : hasN k lf = true) (h1 : lf.length = 1) (h3 : ∀ c r, M j = some (c, r) → 2 < c.kids.length) (hcl : cl.length ≤ 90)
    (ho4 : w.ownsRow 0 3 1 (.slice x.A4 x.n4 x.c4) x.n4 (nums (ns ((cl ++ (j, b) :: [y]).map Prod.fst)))) (hn4 : x.n4 = (cl ++ (j, b) :: [y]).length) :
    Calls Tryz.prog 143 #[wagg x, .int .i64 (cl.length : Nat), .int .i64 0, .func (.func 152) #[wagg x] #[]] w fun e w' => (e = .returned (.tuple #[.int .i64 0, .int .i64 5]) ∧ most < live (most + 1) M + (freshN M x.ow (cl.map Prod.fst ++ [j]) + 0) ∧ Below w.heap.size w w') ∨
      ∃ n M', e = .returned (.tuple #[.int .i64 (n : Nat), .int .i64 0]) ∧ 1 ≤ n ∧ MRes most M P hs k (fun _ => False) x.root x.ow l (freshN M x.ow (cl.map Prod.fst ++ [j]) + 0) n M' ∧ Stp w w' x.b most M' F := by
  obtain ⟨c, r, s, K, L, hN, hT, hbit, hsx, hLd, hb13, hKd⟩ := hy.last hk
  have hd32 := dg_lt (hs k) b
  have hk3 : 2 < cnt s 32 := by rw [← hN.len]; exact h3 c r hN.cell
  have hk32 : c.kids.length ≤ 32 := by rw [hN.len]; exact cnt_le32 32
  have hkid := hN.kid _ hd32 hbit
  have hlk := (List.getElem?_eq_some_iff.1 hkid).1
  have hsx' : sdx s x.g b = cnt s (dg (hs k) b) := by rw [← hg]; exact hsx
  have hone : ∀ q ∈ L (dg (hs k) b), q.1 = k := fun q hq => by
    rw [hLd] at hq
    obtain ⟨v, hv⟩ := hasN_at hk
    have hq2 := List.mem_of_getElem? hv
    match lf, h1, hq, hq2 with
    | [a], _, hq, hq2 =>
      rw [List.mem_singleton] at hq hq2
      rw [hq, ← hq2]
  refine veditM_bk x 152 (wagg x) 0 cl [y] b c (fun M2 c' M3 => Drops M2 [K (dg (hs k) b)] M3 ∧ c' = { c with kids := c.kids.eraseIdx (cnt s (dg (hs k) b)), a := ((s &&& (4294967295 - 2 ^ dg (hs k) b) : Nat) : Int) }) P w h hm (fun args W => by kernel_rfl) hg (fun q hq => hq.elim) hb hP hw ⟨r, hN.cell⟩ (by simp; omega) (by decide) ho4 hn4 (fun W M1 H1 P1 F1 r1 r2 r3 r4 M2 H2 hw1 hl => ?_) (fun M1 H1 P1 M2 H2 c' M3 n M' q r2 r5 r4 hw1 hq hren => ?_)
  · have hrf : ∀ i, rf (M2 i) ≤ 4611686018427387904 := fun i => by
      have e1 := hw1.bk.rfb i
      have e2 := r3 i
      have e3 : c.kids.count i ≤ 32 := Nat.le_trans List.count_le_length hk32
      have e4 : addP P1 j i ≤ P1 i + 1 := by unfold addP; split <;> omega
      have e5 : (most + 1) * 64 ≤ 67108928 := by omega
      omega
    have hch := chgP_without (most := most) (F := F1) (M1 := M2) x s b (K (dg (hs k) b)) W c hN.ca hN.s32 hN.cb hb13 (by rw [hsx']; exact hkid) hrf
    rw [hsx', ← hg] at hch
    refine hch.mono ?_
    rintro c' M3 ⟨hdr, rfl⟩
    have hpm : Bk (most + 1) M2 H2 (addP P1 j) (K (dg (hs k) b) :: c.kids.eraseIdx (cnt s (dg (hs k) b))) := hw1.bk.perm (fun q _ => by
      have := (count_erase_set c.kids _ _ (K (dg (hs k) b)) q hkid).1
      rw [this, List.count_cons]
      simp only [List.count_cons, List.count_nil]
      omega)
    obtain ⟨d1, d2, d3⟩ := hpm.drop hdr
    refine ⟨d1, fun r0 h0 hr => Pres.sub d2 d1.ok (fun e => ?_), d3, ?_, by show c.vals.length ≤ _; rw [hN.vals]; exact Nat.zero_le _, ?_, hdr, rfl⟩
    · have := d1.ok.owned (i := r0) (by omega) (by show 1 ≤ addP P1 j r0 + _; omega)
      exact this e
    · exact drops_live hdr
    · show (c.kids.eraseIdx _).length ≤ 64
      rw [List.length_eraseIdx]
      split <;> omega
  · obtain ⟨hdr, rfl⟩ := hq
    have hnH := (hren.bk.hand (i := n) (by simp) (by have := hren.pos; omega)).2
    have hz := hb.zero
    have hz1 : blank M1 H1 0 = none := blank_none.2 r2.zero
    have hz2 : blank M2 H2 0 = none := blank_none.2 hw1.bk.zero
    have hpm : Bk (most + 1) M2 H2 (addP P1 j) (K (dg (hs k) b) :: c.kids.eraseIdx (cnt s (dg (hs k) b))) := hw1.bk.perm (fun q _ => by
      have := (count_erase_set c.kids _ _ (K (dg (hs k) b)) q hkid).1
      rw [this, List.count_cons]
      simp only [List.count_cons, List.count_nil]
      omega)
    obtain ⟨d1, d2, d3⟩ := hpm.drop hdr
    have hz3 : blank M3 H2 0 = none := blank_none.2 d1.zero
    refine node_del (M := M) (M' := blank M' H1) (i' := n) (r' := 1) (ow := x.ow) (s' := s &&& (4294967295 - 2 ^ dg (hs k) b)) hN hbit (fun e he32 he hne => ?_) hk3 ?_ ?_ ?_ hone ?_
    · have hke := hN.kid e he32 he
      have h0e := (hT e he32 he).pos hz
      have hkm : K e ∈ c.kids := List.mem_of_getElem? hke
      have hne2 : cnt s e ≠ cnt s (dg (hs k) b) := fun e2 => hne (cnt_inj he hbit e2)
      have hkm2 : K e ∈ c.kids.eraseIdx (cnt s (dg (hs k) b)) := List.mem_eraseIdx_iff_getElem?.2 ⟨cnt s e, hne2, hke⟩
      have t1 := (hT e he32 he).pres hz (r4.kid hN.cell hkm h0e)
      have t2 := t1.pres hz1 (hw1.kids _ hkm h0e)
      have t3 := t2.pres hz2 (Pres.sub d2 d1.ok (fun e2 => by
        have := (d1.hand hkm2 h0e)
        rw [blank_out this.2] at e2
        exact this.1 e2))
      exact t3.pres hz3 (hren.kids _ hkm2 h0e)
    · exact Nat.lt_of_le_of_lt Nat.and_le_left hN.s32
    · rw [bit_without _ _ _ hN.s32 hd32]; simp
    · intro e he
      rw [bit_without _ _ _ hN.s32 hd32]
      simp [he]
    · rw [blank_out hnH]
      exact hren.cell
theorem vtake_fold (x : Wv) (zw zo other j lvj b : Nat) (cl : List (Nat × Nat)) (y : Nat × Nat) (lj : List Pr) (P : Nat → Nat) (w : World) (h : Ar w x.b most M F) (hm : most ≤ 1048576) (hg : hs k = x.g) (hb : Bk (most + 1) M [] P [x.root]) (hP : ∀ j, P j ≤ 576460752303423488)
    (hw : Wp M hs k 0 x.root l cl lvj j lj) {c : Hc} {r s e : Nat} {K : Nat → Nat} {L : Nat → List Pr} (hN : NodeF M hs lvj j lj c r b s K L) (hT : ∀ d, d < 32 → s.testBit d = true → HT M hs (b + 1) (K d) (L d)) (hbit : s.testBit (dg (hs k) b) = true) (hone : ∀ q ∈ L (dg (hs k) b), q.1 = k) (h2 : cnt s 32 = 2) (he : s.testBit e = true) (hed : e ≠ dg (hs k) b) (ho : other = K e) (hcl : cl.length ≤ 90)
    (ho4 : w.ownsRow 0 3 1 (.slice x.A4 x.n4 x.c4) x.n4 (nums (ns ((cl ++ (j, b) :: [y]).map Prod.fst)))) (hn4 : x.n4 = (cl ++ (j, b) :: [y]).length)
    (zw' : WC w zw x) (zo' : C1 w zo 3 (.int .i64 (other : Int))) (nF : ¬ F zw ∧ ¬ F zo) :
    Calls Tryz.prog 138 #[wagg x, .int .i64 (cl.length : Nat), .int .i64 0, .func (.func 153) #[] #[.pointer (some ⟨zw, 0, none⟩), .pointer (some ⟨zo, 0, none⟩)]] w fun e w' => (e = .returned (.tuple #[.int .i64 0, .int .i64 5]) ∧ most < live (most + 1) M + (freshN M x.ow (cl.map Prod.fst) + 0) ∧ Below w.heap.size w w') ∨
      ∃ n M', e = .returned (.tuple #[.int .i64 (n : Nat), .int .i64 0]) ∧ 1 ≤ n ∧ MRes most M P hs k (fun _ => False) x.root x.ow l (freshN M x.ow (cl.map Prod.fst) + 0) n M' ∧ Stp w w' x.b most M' F := by
  have he32 := bit_lt hN.s32 he
  have hke := hN.kid e he32 he
  have hkm : K e ∈ c.kids := List.mem_of_getElem? hke
  have hz := hb.zero
  have h0e := (hT e he32 he).pos hz
  subst ho
  refine vreplace_bk x 153 #[.pointer (some ⟨zw, 0, none⟩), .pointer (some ⟨zo, 0, none⟩)] 0 cl ((j, b) :: [y]) P w h hm (fun args W => by kernel_rfl) hg (fun q hq => hq.elim) hb hP hw (by simp; omega) (by simp) (by decide) ho4 hn4 (fun hroom W0 W M1 H1 P1 F1 r0 r1 r2 r3 r4 r5 r6 => ?_)
  have hz1 : blank M1 H1 0 = none := blank_none.2 r2.zero
  have hj0 := r5.pos hz1
  have hjM := r2.hand (i := j) (by simp) hj0
  obtain ⟨r', hM1⟩ := r4 j c r .refl hN.cell
  rw [blank_out hjM.2] at hM1
  obtain ⟨ho1, ho2⟩ := r2.kid hjM.2 hM1 hkm h0e
  have hrf : ∀ i, rf (M1 i) + 1 ≤ 4611686018427387904 := fun i => by
    have e1 := r2.rfb i
    have e2 := r3 i
    have e3 : [j].count i ≤ 1 := Nat.le_trans List.count_le_length (by simp)
    have e5 : (most + 1) * 64 ≤ 67108928 := by omega
    omega
  have lt0 : ∀ {z : Nat}, z < w.heap.size → ¬ F z → ¬ F1 z := fun hz hn => nFz r1 (Nat.lt_of_lt_of_le hz r0.size) hn
  refine (vtake3 x zw zo j (K e) W r1.ar ((zw'.below r0).kp r1.kp nF.1) ((zo'.below r0).kp r1.kp nF.2) ⟨lt0 zw'.lt nF.1, lt0 zo'.lt nF.2⟩ hrf).mono ?_
  rintro e1 W' ⟨rfl, M', hdr, hst⟩
  have b1 := r2.keep (i := K e) (fun _ => ⟨ho1, ho2⟩)
  have b2 : Bk (most + 1) (keepC M1 (K e)) H1 P1 [j, K e] := b1.perm (fun q _ => by simp only [List.count_cons, List.count_nil]; omega)
  obtain ⟨d1, d2, d3⟩ := b2.drop hdr
  have pk : ∀ q, Pres (blank M1 H1) (blank (keepC M1 (K e)) H1) q := fun q => Pres.all (all_blank all_keepC)
  refine ⟨K e, M', rfl, ⟨by omega, d1, fun q h0 hq => (pk q).trans (Pres.sub d2 d1.ok (fun e2 => ?_)), fun z hz2 => ?_, ?_, ?_⟩, hst⟩
  · have := d1.ok.owned (i := q) (by omega) (by show 1 ≤ P1 q + _; omega)
    exact this e2
  · rw [d3 z hz2]
    unfold keepC
    have hne : z ≠ K e := fun e2 => ho2 (e2 ▸ hz2)
    cases M1 (K e) with
    | none => rfl
    | some y => exact upd_other _ _ hne
  · have e2 := drops_live (N := most + 1) hdr
    rw [keepC_live1] at e2
    exact e2
  · refine node_fold (M' := blank M' H1) hN hbit h2 he hed ?_ hone
    have hz2 : blank (keepC M1 (K e)) H1 0 = none := blank_none.2 b2.zero
    have t1 := (hT e he32 he).pres hz (r4.kid hN.cell hkm h0e)
    have t2 := t1.pres hz1 (pk (K e))
    refine t2.pres hz2 (Pres.sub d2 d1.ok (fun e2 => ?_))
    have := d1.hand (i := K e) (by simp) h0e
    rw [blank_out this.2] at e2
    exact this.1 e2
theorem vtake_root (x : Wv) (zw : Nat) (g0 : Nat) (P : Nat → Nat) (w : World) (h : Ar w x.b most M F) (hm : most ≤ 1048576) (hb : Bk (most + 1) M [] P [x.root]) (hP : ∀ j, P j ≤ 576460752303423488) (hA : x.A4 = some ⟨g0, 0, none⟩) (hn : 1 ≤ x.n4) (hc : x.n4 ≤ x.c4)
    (hrd : ∀ W, Below w.heap.size w W → Rd W (.slice (some ⟨g0, 0, none⟩) 0 x.c4) 0 (nums (ns []))) (zw' : WC w zw x) (nF : ¬ F zw) :
    Calls Tryz.prog 138 #[wagg x, .int .i64 0, .int .i64 0, .func (.func 150) #[] #[.pointer (some ⟨zw, 0, none⟩)]] w fun e w' => ∃ M', e = .returned (.tuple #[.int .i64 0, .int .i64 0]) ∧ MapR most M P hs x.root x.ow [] 0 M' ∧ Stp w w' x.b most M' F := by
  have hroom : live (most + 1) M + 0 ≤ most := by
    obtain ⟨n', vc, vf, fr, H', hh⟩ := h
    have := hh.live_le
    omega
  have hrf : ∀ j, rf (beg1 M x.root x.ow j) ≤ 4611686018427387904 := fun j => by
    have h1 := (hb.beg1 x.ow).rfb j
    have h2 := out1_le P x.root x.ow j
    have h3 := hP j
    have e3 : [x.root].count j ≤ 1 := Nat.le_trans List.count_le_length (by simp)
    have e5 : (most + 1) * 64 ≤ 67108928 := by omega
    omega
  refine (vreplace x 0 0 0 g0 0 (.func (.func 150) #[] #[.pointer (some ⟨zw, 0, none⟩)]) (fun a c w' => a = .int .i64 0 ∧ c = .int .i64 0 ∧ ∃ M', MapR most M P hs x.root x.ow [] 0 M' ∧ Stp w w' x.b most M' F) w hA (by omega) hc (by decide) (by decide) (fun W hW => ?_) (fun W hW => ?_)).mono ?_
  · refine (vfresh x.ow [] (.slice (some ⟨g0, 0, none⟩) 0 x.c4) W (h.below hW) (hrd W hW) (by decide)).mono ?_
    rintro e W' ⟨rfl, hb1⟩
    exact ⟨rfl, hb1⟩
  · have hA1 := h.below hW
    refine (vdo_yes x 0 0 150 #[.pointer (some ⟨zw, 0, none⟩)] (fun W2 => Stp w W2 x.b most (beg1 M x.root x.ow) F ∧ WC W2 zw x) (fun a w' => a = .int .i64 0 ∧ ∃ M', MapR most M P hs x.root x.ow [] 0 M' ∧ Stp w w' x.b most M' F) W (fun W1 z vs hW1 hz' hWC hrdv hown => ?_) (fun W2 hS => ?_)).mono ?_
    · have hbW1 : Below w.heap.size w W1 := hW.trans (hW1.mono hW.size)
      have hA2 := h.below hbW1
      by_cases h0 : x.ow = 0
      · rw [h0]
        refine (vBegin_keep 0 [x.root] vs W1 hA2 hroom hrdv (fun q hq => ⟨fun hf => by have h1 := hown q hq; have h2 := h.lt hf; have := hW.size; omega, (hown q hq).2⟩) (by show 1 ≤ _; decide) (fun j => by
          have h1 := bk_rf hm hP hb (by show 1 ≤ 64; decide) j
          show rf (M j) + 1 ≤ _
          omega)).mono ?_
        rintro e W' ⟨rfl, hs2⟩
        have hs3 : Stp w W' x.b most (beg1 M x.root 0) F := Stp.from (fun y hy => h.lt hy) hbW1 (by unfold beg1; rw [if_pos rfl]; exact hs2)
        exact ⟨rfl, hWC.kp hs2.kp (fun hf => by have := h.lt hf; have := hW.size; omega), hs3, zw'.kp hs3.kp nF⟩
      · refine (vBegin_own x.ow 0 vs W1 hA2 hroom h0).mono ?_
        rintro e W' ⟨rfl, hb2⟩
        have hs3 : Stp w W' x.b most (beg1 M x.root x.ow) F := by
          unfold beg1
          rw [if_neg h0]
          exact Stp.below h (hbW1.trans (hb2.mono hbW1.size))
        exact ⟨rfl, hWC.below hb2, hs3, zw'.kp hs3.kp nF⟩
    · obtain ⟨hS, hwc⟩ := hS
      refine (vpass_zero x x.root 150 #[.pointer (some ⟨zw, 0, none⟩)] (fun a w' => a = .int .i64 0 ∧ ∃ M', MapR most M P hs x.root x.ow [] 0 M' ∧ Stp w w' x.b most M' F) W2 (fun args W => by kernel_rfl) (fun W3 hb3 => ?_)).mono ?_
      · refine (vtake2 x zw x.root W3 (hS.ar.below hb3) (hwc.below hb3) hrf).mono ?_
        rintro e W4 ⟨rfl, M', hdr, hst⟩
        obtain ⟨d1, d2, _⟩ := (hb.beg1 x.ow).drop hdr
        rw [blank_nil, blank_nil] at d2
        have hok := d1.ok
        rw [blank_nil] at hok
        refine ⟨_, rfl, rfl, M', ⟨d1.perm (fun q hq => ?_), fun r h0 hr => (beg1_pres M x.root x.ow r).trans (Pres.sub d2 hok (fun e2 => ?_)), ?_, .inl ⟨rfl, rfl⟩⟩, hS.trans (Stp.from (fun y hy => hS.ar.lt hy) hb3 hst)⟩
        · have : ¬ 0 = q := by omega
          simp [this]
        · have := hok.owned (i := r) (by omega) (by show 1 ≤ out1 P x.root x.ow r + _; omega)
          exact this e2
        · have e2 := drops_live (N := most + 1) hdr
          rw [beg1_live] at e2
          omega
      · rintro e W3 ⟨a, rfl, rfl, hx⟩
        exact ⟨_, rfl, rfl, hx⟩
    · rintro e w' ⟨a, rfl, rfl, hx⟩
      exact ⟨_, _, rfl, rfl, rfl, hx⟩
  · rintro e w' ⟨a, c, rfl, rfl, rfl, M', h1, h2⟩
    exact ⟨M', rfl, h1, h2⟩
end
end Go.Proofs.YthcpjehkjhpjfaaGreat

namespace Go.Proofs.YthcpjehkjhpjfaaGreat
set_option maxRecDepth 100000
open Go.RowKit
section
variable {M : Cells} {hs : Ky → Nat} {k : Ky} {l lf : List Pr} {i : Nat} {cl : List (Nat × Nat)}
theorem Wy.leafAt (h : Wy M hs (hs k) 0 i l cl lf) (hk : hasN k lf = true) : ∃ pre j lvj, cl = pre ++ [(j, 13)] ∧ Wp M hs k 0 i l pre lvj j lf ∧ ∃ c r, LeafF M hs lvj j lf c r := by
  obtain ⟨v, hv⟩ := hasN_at hk
  obtain ⟨pre, post, lvj, j, lj, e1, e2, e3, e4, y, rest, e5, e6⟩ := h.split (near := (k, v)) (level := 13) (List.mem_of_getElem? hv) (by rw [pt_self]; exact Nat.le_refl _)
  subst e5
  obtain ⟨rfl, rfl, rfl, c, r, hL⟩ := e3.end13 e6
  exact ⟨pre, j, lvj, e1, e2, c, r, hL⟩
theorem Wy.parts (h : Wy M hs (hs k) 0 i l cl lf) (hk : hasN k lf = true) : (cl = [(i, 13)] ∧ l = lf) ∨ ∃ pre j b y lvj lj, cl = pre ++ [(j, b), y] ∧ Wp M hs k 0 i l pre lvj j lj ∧ Wy M hs (hs k) lvj j lj [(j, b), y] lf := by
  obtain ⟨pre, j, lvj, e1, e2, c, r, hL⟩ := h.leafAt hk
  rcases List.eq_nil_or_concat pre with rfl | ⟨pre', z, rfl⟩
  · cases e2
    exact .inl ⟨e1, rfl⟩
  · right
    obtain ⟨v, hv⟩ := hasN_at hk
    have hlev := h.lev
    have hcl : cl = pre' ++ [z, (j, 13)] := by rw [e1]; simp
    have hz13 : z.2 ≤ 13 := (hlev.1 z (by rw [hcl]; simp)).2
    obtain ⟨pre2, post2, lv2, j2, lj2, f1, f2, f3, f4, y2, rest2, f5, f6⟩ := h.split (near := (k, v)) (level := z.2) (List.mem_of_getElem? hv) (by rw [pt_self]; exact hz13)
    subst f5
    have hp := hlev.2
    rw [hcl] at hp
    have hlt : ∀ q ∈ pre', q.2 < z.2 := fun q hq => (List.pairwise_append.1 hp).2.2 q hq z (by simp)
    have hsame : pre2 = pre' ∧ y2 :: rest2 = [z, (j, 13)] := by
      rw [hcl] at f1
      rcases Nat.lt_trichotomy pre'.length pre2.length with hl | hl | hl
      · exfalso
        have h1 : (pre' ++ [z, (j, 13)])[pre'.length]? = some z := by simp
        rw [f1, List.getElem?_append_left hl] at h1
        have := f4 z (List.mem_of_getElem? h1)
        omega
      · exact ⟨(List.append_inj f1 hl).1.symm, (List.append_inj f1 hl).2.symm⟩
      · exfalso
        have h1 : (pre2 ++ y2 :: rest2)[pre2.length]? = some y2 := by simp
        rw [← f1, List.getElem?_append_left hl] at h1
        have := hlt y2 (List.mem_of_getElem? h1)
        omega
    obtain ⟨rfl, h2⟩ := hsame
    rw [h2] at f3
    obtain ⟨_, g1, _⟩ := f3.at_lev
    refine ⟨pre2, j2, z.2, (j, 13), lv2, lj2, ?_, f2, ?_⟩
    · rw [hcl, show z = (j2, z.2) from Prod.ext g1 rfl]
    · rw [show ((j2, z.2) : Nat × Nat) = z from (Prod.ext g1 rfl : z = (j2, z.2)).symm]
      exact f3
theorem MRes.take {most : Nat} {P : Nat → Nat} {root : Nat} {ow : Int} {n : Nat} {M' : Cells} (h : MRes most M P hs k (fun _ => False) root ow l 16 n M') (hl : Srt hs l) : MapR most M P hs root ow (takeL k l) n M' := by
  obtain ⟨l', hT, hc⟩ := h.ht
  have e : l' = takeL k l := takeL_uniq hl hT.srt (fun q => (hc q).trans ⟨fun h => h.elim (fun e => e.elim) id, .inr⟩)
  rw [e] at hT
  exact ⟨h.bk, h.keeps, h.live, .inr hT⟩
theorem one_of {lf : List Pr} (hk : hasN k lf = true) (h2 : ¬ 2 ≤ lf.length) : ∃ v, lf = [(k, v)] := by
  obtain ⟨v, hv⟩ := hasN_at hk
  have hq2 := List.mem_of_getElem? hv
  match lf, h2, hq2 with
  | [], _, hq2 => cases hq2
  | [a], _, hq2 =>
    rw [List.mem_singleton] at hq2
    exact ⟨v, by rw [← hq2]⟩
  | _ :: _ :: _, h2, _ => exact absurd (by simp) h2
end
end Go.Proofs.YthcpjehkjhpjfaaGreat
