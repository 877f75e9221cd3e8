/- Several texts in one. -/
import Derived.Test.YtdddhmipifkepaaGreatMq18
import Derived.IntWalk
import Derived.Test.YtdddhmipifkepaaGreatMq11
set_option linter.unusedSimpArgs false
namespace Go.Proofs.YtdddhmipifkepaaGreat
set_option maxRecDepth 100000
open Go.RowKit
section
variable {most : Nat} {M : Cells} {F : Nat → Prop} {hs : Ky → Nat} {k v : Ky} {l lf : List Pr}
theorem Wy.at_lev {lv j : Nat} {lj : List Pr} {y : Nat × Nat} {rest : List (Nat × Nat)} {g : Nat} (h : Wy M hs g lv j lj (y :: rest) lf) : HT M hs y.2 j lj ∧ y.1 = j ∧ (∀ p ∈ lj, ∀ q ∈ lj, ∀ i, i < y.2 → dg (hs p.1) i = dg (hs q.1) i) := by
  cases h with
  | leaf h => exact ⟨.leaf { h with lv := Nat.le_refl _ }, rfl, h.agr⟩
  | node h hT => exact ⟨.node { h with lv := Nat.le_refl _ } hT, rfl, h.agr⟩
theorem Wp.lev_le {lv i lvj j level : Nat} {lj : List Pr} {cl : List (Nat × Nat)} (h : Wp M hs k lv i l cl lvj j lj) (hc : ∀ x ∈ cl, x.2 < level) (hl : lv ≤ level) : lvj ≤ level := by
  induction h with
  | nil _ => exact hl
  | @cons lv i l c r b s K L cl lvj j lj hN hT hd ha hw ih => exact ih (fun x hx => hc x (List.mem_cons_of_mem _ hx)) (hc (i, b) (by simp))
theorem vput_fork (x : Wv) (zw zl zn zk zv j lvj b : Nat) (cl rest : List (Nat × Nat)) (y : Nat × Nat) (near : Pr) (lj : List Pr) (P : Nat → Nat) (w : World) (h : Ar w x.b most M F) (hm : most ≤ 1048576) (hg : hs k = x.g) (hb : Bk (most + 1) M [] P [x.root]) (hP : ∀ j, P j ≤ 576460752303423488)
    (hw : Wp M hs k 0 x.root l cl lvj j lj) (hy : Wy M hs (hs k) lvj j lj (y :: rest) lf) (hb13 : b < y.2) (hcb : ∀ q ∈ cl, q.2 < b) (hnear : near ∈ lf) (hp : pt (hs near.1) (hs k) = b) (hp13 : b < 13) (hcl : (cl ++ y :: rest).length ≤ 100)
    (ho4 : w.ownsRow 0 3 1 (.slice x.A4 x.n4 x.c4) x.n4 (nums (ns ((cl ++ y :: rest).map Prod.fst)))) (hn4 : x.n4 = (cl ++ y :: rest).length)
    (zw' : WC w zw x) (zl' : C1 w zl 3 (.int .i64 (b : Int))) (zn' : C1 w zn 28 (.int .u64 (hs near.1 : Nat))) (zk' : C3 w zk 36 (.int .u8 k.1) (.int .i64 k.2.1) (.string k.2.2)) (zv' : C3 w zv 36 (.int .u8 v.1) (.int .i64 v.2.1) (.string v.2.2)) (nF : ∀ z, z = zw ∨ z = zl ∨ z = zn ∨ z = zk ∨ z = zv → ¬ F z) :
    Calls Tryz.prog 157 #[wagg x, .int .i64 (cl.length : Nat), .int .i64 2, .func (.func 167) #[] #[.pointer (some ⟨zw, 0, none⟩), .pointer (some ⟨zl, 0, none⟩), .pointer (some ⟨zn, 0, none⟩), .pointer (some ⟨zk, 0, none⟩), .pointer (some ⟨zv, 0, none⟩)]] w fun e w' => (e = .returned (.tuple #[.int .i64 0, .int .i64 5]) ∧ most < live (most + 1) M + (freshN M x.ow (cl.map Prod.fst) + 2) ∧ Below w.heap.size w w') ∨
      ∃ n M', e = .returned (.tuple #[.int .i64 (n : Nat), .int .i64 0]) ∧ 1 ≤ n ∧ MRes most M P hs k (fun q => q = (k, v)) x.root x.ow l (freshN M x.ow (cl.map Prod.fst) + 2) n M' ∧ Stp w w' x.b most M' F := by
  obtain ⟨hTj, _, hagr⟩ := hy.at_lev
  have hlvj := hw.lev_le hcb (Nat.zero_le _)
  have hnj : near ∈ lj := hy.sub near hnear
  refine vreplace_bk x 167 #[.pointer (some ⟨zw, 0, none⟩), .pointer (some ⟨zl, 0, none⟩), .pointer (some ⟨zn, 0, none⟩), .pointer (some ⟨zk, 0, none⟩), .pointer (some ⟨zv, 0, none⟩)] 2 cl (y :: rest) P w h hm (fun args W => by kernel_rfl) hg (fun q hq => by rw [hq]) hb hP hw hcl (by simp) (by decide) ho4 hn4 (fun hroom W0 W M1 H1 P1 F1 r0 r1 r2 r3 r4 r5 r6 => ?_)
  have hz := hb.zero
  have hz1 : blank M1 H1 0 = none := blank_none.2 r2.zero
  have hj0 := r5.pos hz1
  have hjM : M1 j ≠ none := (r2.hand (i := j) (by simp) hj0).1
  have lt0 : ∀ {z : Nat}, z < w.heap.size → ¬ F z → ¬ F1 z := fun hz hn => nFz r1 (Nat.lt_of_lt_of_le hz r0.size) hn
  refine (vput4 (F := F1) x zw zl zn zk zv j b (hs near.1) k v W r1.ar ((zw'.below r0).kp r1.kp (nF _ (.inl rfl))) ((zl'.below r0).kp r1.kp (nF _ (.inr (.inl rfl)))) ((zn'.below r0).kp r1.kp (nF _ (.inr (.inr (.inl rfl))))) ((zk'.below r0).kp r1.kp (nF _ (.inr (.inr (.inr (.inl rfl)))))) ((zv'.below r0).kp r1.kp (nF _ (.inr (.inr (.inr (.inr rfl)))))) (fun z hz => by
    rcases hz with rfl | rfl | rfl
    · exact lt0 zw'.lt (nF _ (.inl rfl))
    · exact lt0 zk'.lt (nF _ (.inr (.inr (.inr (.inl rfl)))))
    · exact lt0 zv'.lt (nF _ (.inr (.inr (.inr (.inr rfl)))))) hp13 hjM (by omega)).mono ?_
  rintro e W' ⟨n, n2, rfl, n1, nm, nn, m1, mm, mn, hne, hst⟩
  refine ⟨n2, _, rfl, ?_, hst⟩
  rw [← hg]
  have hc1 : cnt (2 ^ dg (hs near.1) b) (dg (hs k) b) ≤ [j].length := by rw [cnt_pow]; split <;> simp
  obtain ⟨Ma, hMa⟩ : ∃ Ma, Ma = upd M1 n (some (⟨x.ow, 0, 13, [k, v], []⟩, 1)) := ⟨_, rfl⟩
  rw [← hMa]
  have hMan2 : Ma n2 = none := by rw [hMa, upd_other _ _ hne]; exact mn
  have b1 : Bk (most + 1) Ma H1 P1 [n, j] := by rw [hMa]; exact r2.leaf ⟨x.ow, 0, 13, [k, v], []⟩ rfl n1 (by omega) nn
  have b2 := Bk.make (c := ⟨x.ow, ((2 ^ dg (hs near.1) b ||| 2 ^ dg (hs k) b : Nat) : Int), (b : Int), [], [j].insertIdx (cnt (2 ^ dg (hs near.1) b) (dg (hs k) b)) n⟩) (hs := []) (b1.perm (fun q _ => by rw [List.append_nil]; exact (count_insert [j] _ n q hc1).symm)) m1 (by omega) hMan2 (by show ([j].insertIdx _ n).length ≤ 64; rw [List.length_insertIdx_of_le_length hc1]; simp)
  have hnH : n ∉ H1 := fun hx => by have := (r2.hole n hx).2; rw [nn] at this; simp [rf] at this
  have hn2H : n2 ∉ H1 := fun hx => by have := (r2.hole n2 hx).2; rw [mn] at this; simp [rf] at this
  have pa : ∀ r, Pres (blank M1 H1) (blank Ma H1) r := fun r => by rw [hMa]; exact Pres.all (all_blank (all_new nn _))
  have pb : ∀ r, Pres (blank Ma H1) (blank (upd Ma n2 (some (⟨x.ow, ((2 ^ dg (hs near.1) b ||| 2 ^ dg (hs k) b : Nat) : Int), (b : Int), [], [j].insertIdx (cnt (2 ^ dg (hs near.1) b) (dg (hs k) b)) n⟩, 1))) H1) r := fun r => Pres.all (all_blank (all_new hMan2 _))
  have hza : blank Ma H1 0 = none := blank_none.2 b1.zero
  refine ⟨m1, b2, fun r h0 hr => (pa r).trans (pb r), fun z hz => ?_, ?_, ?_⟩
  · rw [upd_other _ _ (fun e : z = n2 => hn2H (by rw [← e]; exact hz)), hMa, upd_other _ _ (fun e : z = n => hnH (by rw [← e]; exact hz))]
  · have e1 := live_upd (M := M1) (N := most + 1) n (some (⟨x.ow, 0, 13, [k, v], []⟩, 1)) (by omega)
    have e2 := live_upd (M := Ma) (N := most + 1) n2 (some (⟨x.ow, ((2 ^ dg (hs near.1) b ||| 2 ^ dg (hs k) b : Nat) : Int), (b : Int), [], [j].insertIdx (cnt (2 ^ dg (hs near.1) b) (dg (hs k) b)) n⟩, 1)) (by omega)
    rw [nn] at e1
    rw [hMan2] at e2
    rw [← hMa] at e1
    simp only [one] at e1 e2
    omega
  · have t0 := ((hTj.pres hz r4).pres hz1 (pa j)).pres hza (pb j)
    have t1 : HT (blank Ma H1) hs (b + 1) n [(k, v)] := leaf_one (ow := x.ow) (a := 0) (r' := 1) (by rw [blank_out hnH, hMa, upd_same]) (by omega)
    exact node_fork (near := near.1) (Ld := [(k, v)]) (r' := 1) (ow := x.ow) t0 hb13 hlvj hp hp13 (fun q hq i hi => hagr near hnj q hq i (by omega)) (by rw [blank_out hn2H, upd_same]) (t1.pres hza (pb n)) (fun q hq => by rw [hq]) (fun q => by simp)
end

end Go.Proofs.YtdddhmipifkepaaGreat

namespace Go.Proofs.YtdddhmipifkepaaGreat
set_option maxRecDepth 100000
open Go.RowKit
abbrev zway (b bh : Nat) (ow : Int) : Wv := ⟨b, bh, ow, 0, 0, none, 0, 0, none, 0, 0, none, 0, 0, 0, false⟩
section
set_option maxHeartbeats 1600000 in
theorem vreplaceE (b bh : Nat) (ow : Int) (fv : Value) (R : Value → Value → World → Prop) (w : World)
    (hF : ∀ W, Below w.heap.size w W → Calls Tryz.prog 223 #[ap b, .int .u32 ow, .slice none 0 0] W fun e W' => e = .returned (.int .i64 0) ∧ Below W.heap.size W W')
    (hD : ∀ W, Below w.heap.size w W → Calls Tryz.prog 224 #[wagg (zway b bh ow), .int .i64 0, .int .i64 1, fv] W fun e W' => ∃ a c, e = .returned (.tuple #[a, c]) ∧ R a c W') :
    Calls Tryz.prog 157 #[wagg (zway b bh ow), .int .i64 0, .int .i64 1, fv] w fun e w' => ∃ a c, e = .returned (.tuple #[a, c]) ∧ R a c w' := by
  obtain ⟨x, hx⟩ : ∃ x, x = zway b bh ow := ⟨_, rfl⟩
  rw [← hx] at hD ⊢
  have xb : x.b = b := by rw [hx]
  have xo : x.ow = ow := by rw [hx]
  have x5 : Value.slice x.A4 x.n4 x.c4 = .slice none 0 0 := by rw [hx]
  have hb : Below w.heap.size w (w.alloc (.cells (wcells x) 169)).drew := ((Below.refl _ w).alloc (Nat.le_refl _) _).drew
  have HB := Lib.hid hb
  have HWX := Lib.hid ((WC.new w x).below ((Below.refl _ (w.alloc (.cells (wcells x) 169))).drew))
  have HFX := Lib.hid hF
  have HDX := Lib.hid hD
  have m0 : ∀ W', WC W' w.heap.size x → W'.cell? ⟨w.heap.size, 0, none⟩ = some (ap b) := fun W' h => xb ▸ h.at rfl
  have m2 : ∀ W', WC W' w.heap.size x → W'.cell? ⟨w.heap.size, 2, none⟩ = some (.int .u32 ow) := fun W' h => xo ▸ h.at rfl
  have m5 : ∀ W', WC W' w.heap.size x → W'.cell? ⟨w.heap.size, 5, none⟩ = some (.slice none 0 0) := fun W' h => x5 ▸ h.at rfl
  clear hF hD hb hx xb xo x5
  go_enter Tryz.func157, Tryz.ntmps157
  go_wp2_with fail
  refine wp_region_noPanic ?_
  go_region_held (fun W' => WC W' w.heap.size x)
    (first | with_reducible assumption | with_reducible exact HWX.out | with_reducible exact HW2.out)
    ((go_at_call 223; refine (HFX.out _ HB.out).mono ?_; rintro e w2 ⟨rfl, hb2⟩; have HW2 := Lib.hid (HWX.out.below hb2); have HB2 := Lib.hid (HB.out.trans (hb2.mono HB.out.size)); clear hb2))
  refine NoPanic.normal ?_
  obtain ⟨q0, q1, q2, q3, q4, q5, q6, q7, q8, q9⟩ := HW2.out.all
  clear m0 m2 m5
  go_wp2_with fail
  refine (HDX.out _ HB2.out).mono ?_
  rintro e w3 ⟨a, c, rfl, hR⟩
  have HR := Lib.hid hR
  clear hR
  go_wp2_with fail
  exact bodyPost_ret (v := .tuple #[a, c]) (by simp [results, Tryz.results157, go_sem]) rfl ⟨a, c, rfl, HR.out⟩
end
section
variable {most : Nat} {M : Cells} {F : Nat → Prop} {hs : Ky → Nat} {k v : Ky}
theorem keepC_gone {M : Cells} {i : Nat} (h : M i = none) : keepC M i = M := by
  unfold keepC
  rw [h]
theorem vdoE (b bh zw zk zv : Nat) (ow : Int) (P : Nat → Nat) (w : World) (h : Ar w b most M F) (hm : most ≤ 1048576) (hb : Bk (most + 1) M [] P [0]) (hP : ∀ j, P j ≤ 576460752303423488) (hroom : live (most + 1) M + 1 ≤ most)
    (zw' : WC w zw (zway b bh ow)) (zk' : C3 w zk 36 (.int .u8 k.1) (.int .i64 k.2.1) (.string k.2.2)) (zv' : C3 w zv 36 (.int .u8 v.1) (.int .i64 v.2.1) (.string v.2.2)) (nF : ∀ z, z = zw ∨ z = zk ∨ z = zv → ¬ F z) :
    Calls Tryz.prog 224 #[wagg (zway b bh ow), .int .i64 0, .int .i64 1, .func (.func 158) #[] #[.pointer (some ⟨zw, 0, none⟩), .pointer (some ⟨zk, 0, none⟩), .pointer (some ⟨zv, 0, none⟩)]] w fun e w' => ∃ n M', e = .returned (.tuple #[.int .i64 (n : Nat), .int .i64 0]) ∧ 1 ≤ n ∧ MRes most M P hs k (fun q => q = (k, v)) 0 ow [] 1 n M' ∧ Stp w w' b most M' F := by
  have hz := hb.zero
  have hM : ∀ w2, beg1 M 0 w2 = M := fun w2 => by unfold beg1; split; · exact keepC_gone hz
                                                  · rfl
  refine (vdo_yes (zway b bh ow) 0 1 158 #[.pointer (some ⟨zw, 0, none⟩), .pointer (some ⟨zk, 0, none⟩), .pointer (some ⟨zv, 0, none⟩)] (fun W => Stp w W b most M F ∧ WC W zw (zway b bh ow) ∧ C3 W zk 36 (.int .u8 k.1) (.int .i64 k.2.1) (.string k.2.2) ∧ C3 W zv 36 (.int .u8 v.1) (.int .i64 v.2.1) (.string v.2.2)) (fun a w' => ∃ n M', a = .int .i64 (n : Nat) ∧ 1 ≤ n ∧ MRes most M P hs k (fun q => q = (k, v)) 0 ow [] 1 n M' ∧ Stp w w' b most M' F) w (fun W z vs hW hz' hWC hrd hown => ?_) (fun W hS => ?_)).mono ?_
  · have hA := h.below hW
    have hws := hW.size
    have hkeep : ∀ W', Stp w W' b most M F → WC W' zw (zway b bh ow) ∧ C3 W' zk 36 (.int .u8 k.1) (.int .i64 k.2.1) (.string k.2.2) ∧ C3 W' zv 36 (.int .u8 v.1) (.int .i64 v.2.1) (.string v.2.2) := fun W' hs => ⟨zw'.kp hs.kp (nF _ (.inl rfl)), zk'.kp hs.kp (nF _ (.inr (.inl rfl))), zv'.kp hs.kp (nF _ (.inr (.inr rfl)))⟩
    by_cases h0 : ow = 0
    · subst h0
      refine (vBegin_keep 1 [0] vs W hA hroom hrd (fun q hq => ⟨fun hf => by have h1 := hown q hq; have h2 := h.lt hf; omega, (hown q hq).2⟩) (by show 1 ≤ _; decide) (fun j => by
        have h1 := bk_rf hm hP hb (by show 1 ≤ 64; decide) j
        show rf (M j) + 1 ≤ _
        omega)).mono ?_
      rintro e W' ⟨rfl, hs2⟩
      have hs3 : Stp w W' b most M F := Stp.from (fun y hy => h.lt hy) hW (by
        have e1 : keepAll M [0] = M := keepC_gone hz
        rwa [e1] at hs2)
      exact ⟨rfl, hWC.kp hs2.kp (fun hf => by have := h.lt hf; omega), hs3, hkeep _ hs3⟩
    · refine (vBegin_own ow 1 vs W hA hroom h0).mono ?_
      rintro e W' ⟨rfl, hb2⟩
      have hs3 : Stp w W' b most M F := Stp.below h (hW.trans (hb2.mono hW.size))
      exact ⟨rfl, hWC.below hb2, hs3, hkeep _ hs3⟩
  · obtain ⟨hS, s1, s2, s3⟩ := hS
    have hnf : ∀ z, z < w.heap.size → ¬ F z → ¬ Fn F w W z := fun z hz hn hf => hf.elim hn (fun h => by omega)
    refine (vpass_zero (zway b bh ow) 0 158 #[.pointer (some ⟨zw, 0, none⟩), .pointer (some ⟨zk, 0, none⟩), .pointer (some ⟨zv, 0, none⟩)] (fun a w' => ∃ n M', a = .int .i64 (n : Nat) ∧ 1 ≤ n ∧ MRes most M P hs k (fun q => q = (k, v)) 0 ow [] 1 n M' ∧ Stp w w' b most M' F) W (fun args W => by kernel_rfl) (fun W2 hb2 => ?_)).mono ?_
    · refine (vput1 (zway b bh ow) zw zk zv 0 k v W2 (hS.ar.below hb2) (s1.below hb2) (s2.below hb2) (s3.below hb2) (by omega)).mono ?_
      rintro e W3 ⟨n, rfl, n1, n2, n3, hs4⟩
      have hb1 := hb.beg1 ow
      rw [hM] at hb1
      refine ⟨_, rfl, n, _, rfl, n1, ⟨?_, fun r h0 hr => Pres.all (all_new n3 _), ?_, ?_⟩, hS.trans (Stp.from (fun y hy => hS.ar.lt hy) hb2 hs4)⟩
      · exact (hb1.leaf ⟨ow, 0, 13, [k, v], []⟩ rfl n1 (by omega) n3).perm (fun q hq => by
          have : ¬ 0 = q := by omega
          simp [List.count_cons, this])
      · have e1 := live_upd (M := M) (N := most + 1) n (some (⟨ow, 0, 13, [k, v], []⟩, 1)) (by omega)
        rw [n3] at e1
        simp only [one] at e1
        show live (most + 1) (upd M n (some (⟨ow, 0, 13, [k, v], []⟩, 1))) ≤ _
        omega
      · exact ⟨[(k, v)], leaf_one (ow := ow) (a := 0) (r' := 1) (upd_same _ _ _) (by omega), fun q => by simp⟩
    · rintro e W2 ⟨a, rfl, n, M', rfl, h1, h2, h3⟩
      exact ⟨_, rfl, n, M', rfl, h1, h2, h3⟩
  · rintro e w' ⟨a, rfl, n, M', rfl, h1, h2, h3⟩
    exact ⟨n, M', rfl, h1, h2, h3⟩
end
end Go.Proofs.YtdddhmipifkepaaGreat

namespace Go.Proofs.YtdddhmipifkepaaGreat
set_option maxRecDepth 100000
open Go.RowKit
abbrev OkK (p : Ky) : Prop := 0 ≤ p.1 ∧ p.1 ≤ 255 ∧ 17 + p.2.2.size ≤ 140737488355328
structure StpH (w w' : World) (b bh seed most : Nat) (M' : Cells) (F : Nat → Prop) : Prop where
  ar : Ar w' b most M' (Fn F w w')
  kp : Kp (fun q => F q ∨ q = bh) w w'
  hh : Hs w' bh seed
theorem StpH.mk' {w w1 w' : World} {b bh seed most : Nat} {M' : Cells} {F : Nat → Prop} (hF : ∀ q, F q → q < w.heap.size) (hk : Kp (fun q => q = bh) w w1) (hh : Hs w1 bh seed) (hn : ¬ F bh) (hs : Stp w1 w' b most M' F) : StpH w w' b bh seed most M' F :=
  ⟨hs.ar.mono (fun q hq => by
    rcases hq with hq | hq
    · exact .inl hq
    · exact .inr ⟨Nat.le_trans hk.size hq.1, hq.2⟩) (fun q hq => by
    rcases hq with hq | hq
    · exact Nat.lt_of_lt_of_le (hF q hq) (Nat.le_trans hk.size hs.kp.size)
    · exact hq.2), (hk.mono (fun q h _ => .inr h)).trans hs.kp (fun q h => .inl (.inl h)), hh.kp hs.kp hn⟩
theorem MRes.le {most : Nat} {M : Cells} {P : Nat → Nat} {hs : Ky → Nat} {k : Ky} {new : Pr → Prop} {root : Nat} {ow : Int} {l : List Pr} {q q' n : Nat} {M' : Cells} (h : MRes most M P hs k new root ow l q n M') (hq : q ≤ q') : MRes most M P hs k new root ow l q' n M' :=
  ⟨h.bk, h.keeps, Nat.le_trans h.live (by omega), h.ht⟩
structure Q7S (W : World) (z3 : Nat) (x : Wv) (gL : Nat) (np : Ky) : Prop where
  wy : WC W z3 x
  l7 : W.cell? ⟨z3, 7, none⟩ = some (.slice (some ⟨gL, 0, none⟩) x.n6 x.c6)
  n0 : W.cell? ⟨gL, 0, none⟩ = some (.int .u8 np.1)
  n1 : W.cell? ⟨gL, 1, none⟩ = some (.int .i64 np.2.1)
  n2 : W.cell? ⟨gL, 2, none⟩ = some (.string np.2.2)
theorem Q7S.kp {W W' : World} {z3 : Nat} {x : Wv} {gL : Nat} {np : Ky} {G : Nat → Prop} (h : Q7S W z3 x gL np) (hk : Kp G W W') (hn : ¬ G z3 ∧ ¬ G gL) : Q7S W' z3 x gL np :=
  ⟨h.wy.kp hk hn.1, hk.cell h.l7 hn.1, hk.cell h.n0 hn.2, hk.cell h.n1 hn.2, hk.cell h.n2 hn.2⟩
structure Q8S (W : World) (z3 b9 g5 : Nat) (x : Wv) (level yl n : Nat) : Prop where
  wy : WC W z3 x
  l6 : W.cell? ⟨z3, 6, none⟩ = some (.slice (some ⟨g5, 0, none⟩) x.n5 x.c5)
  lv : C1 W b9 3 (.int .i64 (level : Nat))
  kc : W.cell? ⟨g5, n, none⟩ = some (.int .i64 (yl : Nat))
theorem Q8S.kp {W W' : World} {z3 b9 g5 : Nat} {x : Wv} {level yl n : Nat} (h : Q8S W z3 b9 g5 x level yl n) {G : Nat → Prop} (hk : Kp G W W') (hn : ∀ q, ¬ G q) : Q8S W' z3 b9 g5 x level yl n :=
  ⟨h.wy.kp hk (hn _), hk.cell h.l6 (hn _), h.lv.kp hk (hn _), hk.cell h.kc (hn _)⟩
section
variable {most : Nat} {M : Cells} {F : Nat → Prop} {hs : Ky → Nat} {l lf : List Pr}
set_option maxHeartbeats 6000000 in
theorem vput (x : Wv) (bh seed : Nat) (k v : Ky) (cl : List (Nat × Nat)) (P : Nat → Nat) (w : World) (h : Ar w x.b most M F) (hm : most ≤ 1048576) (hg : hs k = x.g) (hb : Bk (most + 1) M [] P [x.root]) (hP : ∀ j, P j ≤ 576460752303423488)
    (hW : Wy M hs (hs k) 0 x.root l cl lf) (hh : Hs w bh seed) (xbh : x.bh = bh) (nbh : ¬ F bh) (hhs : ∀ q, OkK q → hs q = hashN seed q.1 q.2.1 q.2.2) (hkl : ∀ q ∈ l, OkK q.1) (hlen : l.length ≤ 4096)
    (o4 : w.ownsRow 0 3 1 (.slice x.A4 x.n4 x.c4) x.n4 (nums (ns (cl.map Prod.fst)))) (o5 : w.ownsRow 0 3 1 (.slice x.A5 x.n5 x.c5) x.n5 (nums (ns (cl.map Prod.snd)))) (o6 : w.ownsRow 0 36 3 (.slice x.A6 x.n6 x.c6) x.n6 ((flatP lf).flatMap cells3))
    (hn4 : x.n4 = cl.length) (hn5 : x.n5 = cl.length) (hn6 : x.n6 = (flatP lf).length) (hat : x.at' = 2 * lowN k lf) (hhas : x.has = hasN k lf) :
    Calls Tryz.prog 96 #[wagg x, xagg k, xagg v] w fun e w' => (e = .returned (.tuple #[.int .i64 0, .int .i64 5]) ∧ most < live (most + 1) M + 16 ∧ Kp (fun q => q = bh) w w' ∧ Hs w' bh seed) ∨
      ∃ n M', e = .returned (.tuple #[.int .i64 (n : Nat), .int .i64 0]) ∧ 1 ≤ n ∧ MRes most M P hs k (fun q => q = (k, v)) x.root x.ow l 16 n M' ∧ StpH w w' x.b bh seed most M' F := by
  have hsub := hW.sublist
  have hlf : lf.length ≤ 4096 := Nat.le_trans hsub.length_le hlen
  have hcl14 := hW.cl_len
  obtain ⟨near, lf', hlfe⟩ : ∃ near lf', lf = near :: lf' := by
    cases e : lf with
    | nil => have := hW.leafF; obtain ⟨_, _, _, _, hL, _⟩ := this; exact absurd e hL.ne
    | cons q q' => exact ⟨q, q', rfl⟩
  have hnear : near ∈ lf := by rw [hlfe]; simp
  have hnk := hkl near (hsub.subset hnear)
  obtain ⟨level, hlev⟩ : ∃ level, level = pt (hs near.1) (hs k) := ⟨_, rfl⟩
  have hl13 : level ≤ 13 := hlev ▸ pt_le _ _
  obtain ⟨pre, post, lvj, j, lj, hcl, hwp, hwy, hpre, y, rest, hpost, hly⟩ := hW.split hnear (Nat.le_of_eq hlev)
  subst hpost
  have hne4 : ¬ x.n4 = 0 := by rw [hn4, hcl]; simp
  have e6 : ((flatP lf).flatMap cells3) = [.int .u8 near.1.1, .int .i64 near.1.2.1, .string near.1.2.2] ++ (near.2 :: flatP lf').flatMap cells3 := by rw [hlfe, flatP_cons]; rfl
  obtain ⟨gL, cL, eL, hcL, kc0, rr1⟩ := own_at o6 (j := 0) (u := .int .u8 near.1.1) (by rw [e6]; rfl)
  obtain ⟨gL', cL', eL', rr2, kc1, rr3⟩ := own_at o6 (j := 1) (u := .int .i64 near.1.2.1) (by rw [e6]; rfl)
  obtain ⟨gL2, cL2, eL2, rr4, kc2, rr5⟩ := own_at o6 (j := 2) (u := .string near.1.2.2) (by rw [e6]; rfl)
  simp only [Value.slice.injEq, true_and] at eL eL' eL2
  obtain ⟨eA, rr6⟩ := eL
  rw [eA] at eL' eL2
  simp only [Option.some.injEq, Addr.mk.injEq, and_true] at eL' eL2
  obtain ⟨rfl, rr7⟩ := eL'
  obtain ⟨rfl, rr8⟩ := eL2
  have hx6 : 0 < x.n6 := by rw [hn6, hlfe, flatP_length]; simp
  have hx6' : (0 : Int) < (x.n6 : Int) := by omega
  have o6' := o6
  rw [eA] at o6'
  have hgb := own_blk o6' gL rfl
  have hgL : gL < w.heap.size := hgb.2
  have hrn : (∀ q, (Value.slice x.A4 x.n4 x.c4).ownBlock = some q → ¬ q = bh) ∧ (∀ q, (Value.slice x.A5 x.n5 x.c5).ownBlock = some q → ¬ q = bh) := by
    obtain ⟨d, q, key, hr, _⟩ := hh
    exact ⟨own_ne o4 hr (by decide), own_ne o5 hr (by decide)⟩
  have hgbh : gL ≠ bh := by
    obtain ⟨d, q, key, hr, _⟩ := hh
    exact own_ne o6' hr (by decide) gL rfl
  obtain ⟨W0, hW0⟩ : ∃ W0, W0 = ((w.alloc (.cells (wcells x) 169)).alloc (.cells #[.int .u8 k.1, .int .i64 k.2.1, .string k.2.2] 36)).alloc (.cells #[.int .u8 v.1, .int .i64 v.2.1, .string v.2.2] 36) := ⟨_, rfl⟩
  have hsz : W0.heap.size = w.heap.size + 1 + 1 + 1 := by rw [hW0]; simp
  have hb0 : Below w.heap.size w W0 := by rw [hW0]; exact (((Below.refl _ w).alloc (Nat.le_refl _) _).alloc (by simp) _).alloc (by simp; omega) _
  have q0 : WC W0 w.heap.size x := by rw [hW0]; exact ((WC.new w x).alloc _).alloc _
  have q2 : C3 W0 (w.heap.size + 1) 36 (.int .u8 k.1) (.int .i64 k.2.1) (.string k.2.2) := by
    have h := (C3.new (w.alloc (.cells (wcells x) 169)) 36 (.int .u8 k.1) (.int .i64 k.2.1) (.string k.2.2)).alloc (.cells #[.int .u8 v.1, .int .i64 v.2.1, .string v.2.2] 36)
    rw [hW0]
    simpa using h
  have q3 : C3 W0 (w.heap.size + 1 + 1) 36 (.int .u8 v.1) (.int .i64 v.2.1) (.string v.2.2) := by
    have h := C3.new ((w.alloc (.cells (wcells x) 169)).alloc (.cells #[.int .u8 k.1, .int .i64 k.2.1, .string k.2.2] 36)) 36 (.int .u8 v.1) (.int .i64 v.2.1) (.string v.2.2)
    rw [hW0]
    simpa using h
  obtain ⟨z3, hz3⟩ : ∃ z3, z3 = w.heap.size := ⟨_, rfl⟩
  obtain ⟨z4, hz4⟩ : ∃ z4, z4 = w.heap.size + 1 := ⟨_, rfl⟩
  obtain ⟨z5, hz5⟩ : ∃ z5, z5 = w.heap.size + 1 + 1 := ⟨_, rfl⟩
  have hbl := hh.lt
  have HOF := Lib.hid (fun (W : World) (h1 : Hs W bh seed) => hof bh seed near.1.1 near.1.2.1 near.1.2.2 W h1 hnk.1 hnk.2.1 hnk.2.2)
  rw [← hhs near.1 hnk] at HOF
  have Q0 := Lib.hid (show Q7S W0 z3 x gL near.1 by
    have hk := Kp.of_below hb0 (fun _ => False)
    have h7 := q0.all
    obtain ⟨m0, m1, m2, m3, m4, m5, m6, m7, m8, m9⟩ := h7
    rw [eA] at m7
    rw [hz3]
    exact ⟨q0, m7, hk.cell kc0 id, hk.cell kc1 id, hk.cell kc2 id⟩)
  have Q23 := Lib.hid (And.intro (hz4 ▸ q2) (hz5 ▸ q3))
  have HH0 := Lib.hid (hh.below hb0)
  have ZL := Lib.hid (show bh < w.heap.size ∧ gL < w.heap.size ∧ gL ≠ bh ∧ z3 = w.heap.size ∧ z4 = w.heap.size + 1 ∧ z5 = w.heap.size + 2 ∧ W0.heap.size = w.heap.size + 3 from ⟨hbl, hgL, hgbh, hz3, hz4, hz5, hsz⟩)
  have HW0 := Lib.hid hW0
  have HB0 := Lib.hid hb0
  have HZZ := Lib.hid (And.intro hz3 (And.intro hz4 hz5))
  have HCL := Lib.hid (And.intro hcl (And.intro hwp (And.intro hwy (And.intro hpre (And.intro hly (And.intro hlev (And.intro hl13 (And.intro hnear hcl14))))))))
  have HA := Lib.hid (And.intro h (And.intro hm (And.intro hg (And.intro hb (And.intro hP (And.intro hW nbh))))))
  have HROW := Lib.hid (And.intro o4 (And.intro o5 hrn))
  have HNN := Lib.hid (And.intro hn4 (And.intro hn5 (And.intro hat (And.intro hhas hlf))))
  obtain ⟨m0, m1, m2, m3, m4, m5, m6, m7, m8, m9⟩ := q0.all
  have XBH := Lib.hid xbh
  clear rr1 rr2 rr3 rr4 rr5 rr6 rr7 rr8 xbh eA hn6 h hm hg hb hP hW hh nbh hhs hkl hlen o4 o5 o6 o6' hgb hgbh hgL kc0 kc1 kc2 hn4 hn5 hat hhas hsub hlf hcl14 hnear hnk hlev hl13 hcl hwp hwy hpre hly e6 hlfe hW0 hsz hb0 q0 q2 q3 hz3 hz4 hz5 hbl hrn
  go_enter Tryz.func96, Tryz.ntmps96
  go_upto_region 1 with fail
  rw [← HW0.out]
  clear HW0
  go_upto_region 3 with fail
  obtain ⟨e1, e2, e3⟩ := HZZ.out
  rw [← e3, ← e2, ← e1]
  clear e1 e2 e3 m0 m1 m2 m3 m4 m5 m6 m7 m8 m9
  rw [show ((x.n4 : Int) == 0) = false by simpa using hne4]
  go_cut [8] from 20 to 27 (fun s8 wc => ∃ z8, s8 = .pointer (some ⟨z8, 0, none⟩) ∧ w.heap.size + 3 ≤ z8 ∧ C1 wc z8 28 (.int .u64 (hs near.1 : Nat)) ∧ Hs wc bh seed ∧ Kp (fun q => q = bh) W0 wc)
  case first =>
    have y1 : ∀ W', Q7S W' z3 x gL near.1 → W'.cell? ⟨z3, 1, none⟩ = some (.pointer (some ⟨bh, 0, none⟩)) := fun W' h => by rw [← XBH.out]; exact h.wy.at rfl
    have y7 : ∀ W', Q7S W' z3 x gL near.1 → W'.cell? ⟨z3, 7, none⟩ = some (.slice (some ⟨gL, 0, none⟩) x.n6 x.c6) := fun W' h => h.l7
    have n0 : ∀ W', Q7S W' z3 x gL near.1 → W'.cell? ⟨gL, 0, none⟩ = some (.int .u8 near.1.1) := fun W' h => h.n0
    have n1 : ∀ W', Q7S W' z3 x gL near.1 → W'.cell? ⟨gL, 1, none⟩ = some (.int .i64 near.1.2.1) := fun W' h => h.n1
    have n2 : ∀ W', Q7S W' z3 x gL near.1 → W'.cell? ⟨gL, 2, none⟩ = some (.string near.1.2.2) := fun W' h => h.n2
    have hSS : Q7S W0.drew z3 x gL near.1 := Q0.out.kp (Kp.of_below (Below.refl _ W0).drew (fun _ => False)) ⟨id, id⟩
    refine wp_region_noPanic ?_
    refine wp_region_held_drew (S := fun W' => Q7S W' z3 x gL near.1) (by kernel_rfl) hSS (fun hH => ?_)
    have hS0 := hH
    have hHS0 : Hs W0.drew bh seed := HH0.out.kp (Kp.of_below (Below.refl _ W0).drew (fun _ => False)) id
    have hKP0 : Kp (fun q => q = bh) W0 W0.drew := (Kp.refl _ W0).drew
    have nz3 : ¬ (z3 = bh) ∧ ¬ (gL = bh) := by have := ZL.out; omega
    clear hSS
    generalize W0.drew = W1 at hH hS0 hHS0 hKP0 ⊢
    refine tkH ?_ 0 hH ?_ ?_; rotate_left
    · intro W' hS; go_simp; with_reducible rfl
    simp only [tkr]
    refine tkH ?_ 1 hH ?_ ?_; rotate_left
    · intro W' hS; go_simp; with_reducible rfl
    simp only [tkr]
    refine tkH ?_ 2 hH ?_ ?_; rotate_left
    · intro W' hS; go_simp; with_reducible rfl
    simp only [tkr]
    refine tkH ?_ 3 hH ?_ ?_; rotate_left
    · intro W' hS; go_simp; with_reducible rfl
    simp only [tkr]
    refine tkH ?_ 4 hH ?_ ?_; rotate_left
    · intro W' hS; go_simp; with_reducible rfl
    simp only [tkr]
    refine tkH ?_ 5 hH ?_ ?_; rotate_left
    · intro W' hS; go_simp; with_reducible rfl
    simp only [tkr]
    refine tkH ?_ 6 hH ?_ ?_; rotate_left
    · intro W' hS; go_simp; with_reducible rfl
    simp only [tkr]
    refine wpAnyH_ready (rs := [7, 8]) (by kernel_rfl) (by simp) ?_
    refine AllReadyH.cons rfl (fun K hK => ?_) (AllReadyH.cons rfl (fun K hK => ?_) AllReadyH.nil)
    · go_simp
      refine (HOF.out W1 hHS0).mono ?_
      rintro e W2 ⟨rfl, hHS1, hgr⟩
      have hk1 : Kp (fun q => q = bh) W1 W2 := Kp.of_grown hgr (fun q hq => .inl (by cases hq; rfl))
      have hS1 := hS0.kp hk1 nz3
      have hKP1 := hKP0.trans hk1 (fun q h => .inl h)
      clear hgr
      simp only
      refine hK.out _ _ ?_ (fun hH => ?_)
      · exact hS1
      clear hK K
      refine rdH 8 rfl (fun K hK => ?_)
      go_simp
      have hC2 : C1 (W2.alloc (.cells #[.int .u64 0] 28)) W2.heap.size 28 (.int .u64 0) := C1.new W2 _ _
      have hS2 := hS1.kp ((Kp.refl (fun _ => False) W2).alloc (.cells #[.int .u64 0] 28)) ⟨id, id⟩
      have hHS2 := hHS1.alloc (.cells #[.int .u64 0] 28)
      have hKP2 := hKP1.alloc (.cells #[.int .u64 0] 28)
      have hN2 : W0.heap.size ≤ W2.heap.size := hKP1.size
      refine hK.out _ _ ?_ (fun hH => ?_)
      · exact hS2
      clear hK K hH
      generalize W2.alloc (.cells #[.int .u64 0] 28) = W3 at hS2 hHS2 hKP2 hC2 ⊢
      generalize W2.heap.size = b2 at hC2 hN2 ⊢
      refine rdH 9 rfl (fun K hK => ?_)
      obtain ⟨c0, f0⟩ := hC2.all
      go_simp
      clear c0 f0
      have hP := hC2.set (.int .u64 (hs near.1 : Nat))
      have fin : Q7S (W3.setCell ⟨b2, 0, none⟩ (.int .u64 (hs near.1 : Nat))) z3 x gL near.1 ∧ Hs (W3.setCell ⟨b2, 0, none⟩ (.int .u64 (hs near.1 : Nat))) bh seed ∧ Kp (fun q => q = bh) W0 (W3.setCell ⟨b2, 0, none⟩ (.int .u64 (hs near.1 : Nat))) := by
        have h9 : Kp (fun q => q = b2) W3 (W3.setCell ⟨b2, 0, none⟩ (.int .u64 (hs near.1 : Nat))) := Kp.one W3 b2 0 _
        have h2 := ZL.out
        exact ⟨hS2.kp h9 (by omega), hHS2.kp h9 (by omega), hKP2.trans h9 (fun q h => .inr (by omega))⟩
      refine hK.out _ _ ?_ (fun hH => ?_)
      · exact fin.1
      clear hK K
      refine wpAnyH_done (by kernel_rfl) ?_ _
      refine NoPanic.normal ?_
      clear y1 y7 n0 n1 n2
      go_wp2_with fail
      go_meet
      exact ⟨b2, rfl, by have := ZL.out; omega, hP, fin.2.1, fin.2.2⟩
    · go_simp
      have hC2 : C1 (W1.alloc (.cells #[.int .u64 0] 28)) W1.heap.size 28 (.int .u64 0) := C1.new W1 _ _
      have hS2 := hS0.kp ((Kp.refl (fun _ => False) W1).alloc (.cells #[.int .u64 0] 28)) ⟨id, id⟩
      have hHS2 := hHS0.alloc (.cells #[.int .u64 0] 28)
      have hKP2 := hKP0.alloc (.cells #[.int .u64 0] 28)
      have hN2 : W0.heap.size ≤ W1.heap.size := hKP0.size
      refine hK.out _ _ ?_ (fun hH => ?_)
      · exact hS2
      clear hK K hH
      generalize W1.alloc (.cells #[.int .u64 0] 28) = W2 at hS2 hHS2 hKP2 hC2 ⊢
      generalize W1.heap.size = b2 at hC2 hN2 ⊢
      refine rdH 7 rfl (fun K hK => ?_)
      go_simp
      refine (HOF.out W2 hHS2).mono ?_
      rintro e W3 ⟨rfl, hHS3, hgr⟩
      have hk1 : Kp (fun q => q = bh) W2 W3 := Kp.of_grown hgr (fun q hq => .inl (by cases hq; rfl))
      have hS3 := hS2.kp hk1 nz3
      have hKP3 := hKP2.trans hk1 (fun q h => .inl h)
      have hC3 := hC2.kp hk1 (by have := ZL.out; omega)
      clear hgr
      simp only
      refine hK.out _ _ ?_ (fun hH => ?_)
      · exact hS3
      clear hK K
      refine rdH 9 rfl (fun K hK => ?_)
      obtain ⟨c0, f0⟩ := hC3.all
      go_simp
      clear c0 f0
      have hP := hC3.set (.int .u64 (hs near.1 : Nat))
      have fin : Q7S (W3.setCell ⟨b2, 0, none⟩ (.int .u64 (hs near.1 : Nat))) z3 x gL near.1 ∧ Hs (W3.setCell ⟨b2, 0, none⟩ (.int .u64 (hs near.1 : Nat))) bh seed ∧ Kp (fun q => q = bh) W0 (W3.setCell ⟨b2, 0, none⟩ (.int .u64 (hs near.1 : Nat))) := by
        have h9 : Kp (fun q => q = b2) W3 (W3.setCell ⟨b2, 0, none⟩ (.int .u64 (hs near.1 : Nat))) := Kp.one W3 b2 0 _
        have h2 := ZL.out
        exact ⟨hS3.kp h9 (by omega), hHS3.kp h9 (by omega), hKP3.trans h9 (fun q h => .inr (by omega))⟩
      refine hK.out _ _ ?_ (fun hH => ?_)
      · exact fin.1
      clear hK K
      refine wpAnyH_done (by kernel_rfl) ?_ _
      refine NoPanic.normal ?_
      clear y1 y7 n0 n1 n2
      go_wp2_with fail
      go_meet
      exact ⟨b2, rfl, by have := ZL.out; omega, hP, fin.2.1, fin.2.2⟩
  case rest =>
    obtain ⟨z8, rfl, hz8, hP8, hH8, hK8⟩ := hcut
    obtain ⟨h, hm, hg, hb, hP, hW, nbh⟩ := HA.out
    obtain ⟨hcl, hwp, hwy, hpre, hly, hlev, hl13, hnear, hcl14⟩ := HCL.out
    obtain ⟨o4, o5, o6⟩ := HROW.out
    obtain ⟨hn4, hn5, hat, hhas, hlf⟩ := HNN.out
    have hfz := ZL.out
    have hKW : Kp (fun q => q = bh) w wc := (Kp.of_below HB0.out (fun q => q = bh)).trans hK8 (fun q h => .inl h)
    have hpt : pt (hs near.1) x.g = level := by rw [hlev, hg]
    have hpl : pre.length ≤ 13 := by rw [hcl] at hcl14; simp at hcl14; omega
    have q1 := Q0.out.wy.kp hK8 (by omega)
    have q2 := Q23.out.1.kp hK8 (by omega)
    have q3 := Q23.out.2.kp hK8 (by omega)
    have b8 := hP8.lt
    obtain ⟨c0, f0⟩ := hP8.all
    obtain ⟨m0, m1, m2, m3, m4, m5, m6, m7, m8, m9⟩ := q1.all
    have HPT := Lib.hid hpt
    have QW := Lib.hid (And.intro q1 (And.intro q2 (And.intro q3 hP8)))
    have HKW := Lib.hid hKW
    have HH8 := Lib.hid hH8
    have HZ8 := Lib.hid (And.intro hz8 (And.intro b8 hpl))
    clear h hm hg hb hP hW nbh hcl hwp hwy hpre hly hlev hl13 hnear hcl14 o4 o5 o6 hn4 hn5 hat hhas hlf hfz hKW hpt hpl q1 q2 q3 hP8 hH8 hK8 hz8 b8
    go_wp2_with fail
    refine (vparting (hs near.1) x.g _).mono ?_
    rintro e wd ⟨rfl, rfl⟩
    rw [HPT.out]
    go_upto_region 5 with fail
    clear c0 f0 m0 m1 m2 m3 m4 m5 m6 m7 m8 m9
    have k1 : Kp (fun _ => False) wc (wc.alloc (.cells #[.int .i64 (level : Nat)] 3)) := (Kp.refl _ wc).alloc _
    have p9 := C1.new wc 3 (.int .i64 (level : Nat))
    have kW9 := HKW.out.trans k1 (fun _ h => h.elim)
    have qw9 := And.intro (QW.out.1.kp k1 id) (And.intro (QW.out.2.1.kp k1 id) (And.intro (QW.out.2.2.1.kp k1 id) (QW.out.2.2.2.kp k1 id)))
    have hh9 := HH8.out.kp k1 id
    have hz9 : z8 < wc.heap.size ∧ w.heap.size ≤ wc.heap.size := ⟨HZ8.out.2.1, HKW.out.size⟩
    generalize wc.alloc (.cells #[.int .i64 (level : Nat)] 3) = W9 at p9 kW9 qw9 hh9 ⊢
    clear k1
    generalize wc.heap.size = b9 at p9 hz9 ⊢
    obtain ⟨m0, m1, m2, m3, m4, m5, m6, m7, m8, m9⟩ := qw9.1.all
    obtain ⟨d0, g0⟩ := p9.all
    have hsi : Rd W9 (.slice x.A5 x.n5 x.c5) (cl.map Prod.snd).length (nums (ns (cl.map Prod.snd))) := by
      rw [List.length_map, ← HNN.out.2.1]
      exact Rd.of_own (kW9.own HROW.out.2.1 (fun q hq e => HROW.out.2.2.2 q hq e))
    have hlv := HCL.out.2.2.1.lev
    have hcl := HCL.out.1
    have hly := HCL.out.2.2.2.2.1
    have hpre := HCL.out.2.2.2.1
    have hl14 := HCL.out.2.2.2.2.2.2.2.2
    have hge : ∀ q ∈ (y :: rest), level ≤ q.2 := fun q hq => by
      rcases List.mem_cons.1 hq with e | e
      · rw [e]; exact hly
      · exact Nat.le_of_lt (Nat.lt_of_le_of_lt hly ((List.pairwise_cons.1 hlv.2).1 q e))
    have HSI := Lib.hid (vSearchInts (.slice x.A5 x.n5 x.c5) (cl.map Prod.snd) level pre.length W9 hsi (by rw [List.length_map]; omega) (by rw [hcl]; simp) (fun j q hj hq => by
      rw [hcl, List.map_append, List.getElem?_append_left (by simpa using hj)] at hq
      obtain ⟨a, ha, rfl⟩ := List.mem_map.1 (List.mem_of_getElem? hq)
      exact hpre a ha) (fun j q hj hq => by
      rw [hcl, List.map_append, List.getElem?_append_right (by simpa using hj)] at hq
      obtain ⟨a, ha, rfl⟩ := List.mem_map.1 (List.mem_of_getElem? hq)
      exact hge a ha))
    clear hsi hlv hcl hly hpre hl14 hge
    have KW9 := Lib.hid kW9
    have QW9 := Lib.hid qw9
    have P9 := Lib.hid p9
    have HH9 := Lib.hid hh9
    have HZ9 := Lib.hid hz9
    clear kW9 qw9 p9 hh9 hz9
    go_wp2_with fail
    refine HSI.out.mono ?_
    rintro e W10 ⟨rfl, hb10⟩
    have kW := KW9.out.trans (Kp.of_below hb10 (fun q => q = bh)) (fun q h => .inl h)
    have hhW := HH9.out.below hb10
    have QX := Lib.hid (And.intro (QW9.out.1.below hb10) (And.intro (QW9.out.2.1.below hb10) (And.intro (QW9.out.2.2.1.below hb10) (And.intro (QW9.out.2.2.2.below hb10) (P9.out.below hb10)))))
    have o4 := kW.own HROW.out.1 (fun q hq e => HROW.out.2.2.1 q hq e)
    obtain ⟨h, hm, hg, hb, hP, hW, nbh⟩ := HA.out
    obtain ⟨hcl, hwp, hwy, hpre, hly, hlev, hl13, hnear, hcl14⟩ := HCL.out
    obtain ⟨hn4, hn5, hat, hhas, hlf⟩ := HNN.out
    rw [hcl] at o4 hn4
    have hAr : Ar W10 x.b most M F := h.kp kW (fun q hq e => nbh (e ▸ hq))
    have hzz := ZL.out
    have hz8 := HZ8.out
    have hz9 := HZ9.out
    have hFlt : ∀ q, F q → q < w.heap.size := fun q hq => h.lt hq
    have hFn : ∀ q, w.heap.size ≤ q → ¬ F q := fun q hq hf => by have := hFlt q hf; omega
    have hfl : ∀ l', freshN M x.ow l' ≤ l'.length := fun l' => freshN_le M x.ow l'
    have HX := Lib.hid (And.intro hAr (And.intro hm (And.intro hg (And.intro hb (And.intro hP (And.intro hwp (And.intro hwy (And.intro hpre (And.intro hly (And.intro hlev (And.intro hnear (And.intro o4 (And.intro hn4 (And.intro hat (And.intro hhas hlf)))))))))))))))
    have HF := Lib.hid (And.intro hFlt (And.intro hFn (And.intro hfl nbh)))
    have HZ := Lib.hid (show z3 = w.heap.size ∧ z4 = w.heap.size + 1 ∧ z5 = w.heap.size + 2 ∧ w.heap.size ≤ z8 ∧ w.heap.size ≤ b9 ∧ pre.length ≤ 13 by omega)
    have KW := Lib.hid (And.intro kW hhW)
    clear hb10 hAr hm hg hb hP hwp hwy hpre hly hlev hnear o4 hn4 hat hhas hlf hFlt hFn hfl nbh h hW hcl hcl14 hl13 hn5 hzz hz8 hz9 kW hhW d0 g0 m0 m1 m2 m3 m4 m5 m6 m7 m8 m9
    obtain ⟨m0, m1, m2, m3, m4, m5, m6, m7, m8, m9⟩ := QX.out.1.all
    obtain ⟨d0, g0⟩ := QX.out.2.2.2.2.all
    have nF : ∀ z, w.heap.size ≤ z → ¬ F z := HF.out.2.1
    by_cases c13 : level = 13
    · have hx : (level : Int) = 13 := by omega
      go_wp2_with fail
      obtain ⟨hAr, hm, hg, hb, hP, hwp, hwy, hpre, hly, hlev, hnear, o4, hn4, hat, hhas, hlf⟩ := HX.out
      obtain ⟨hfl, nbh⟩ := HF.out.2.2
      obtain ⟨kW, hhW⟩ := KW.out
      obtain ⟨hy, hre, rfl, cj, rj, hL⟩ := hwy.end13 (by omega)
      rw [hy, hre] at o4 hn4
      have hzz := HZ.out
      have hag : ∀ q ∈ lj, ∀ i, i < 13 → dg (hs k) i = dg (hs q.1) i := fun q hq i hi => by
        rw [← pt_eq (show i < pt (hs near.1) (hs k) by omega)]
        exact hL.agr near hnear q hq i hi
      have hE := And.intro (show freshN M x.ow (pre.map Prod.fst ++ [j]) + 0 ≤ 16 by
        have := hfl (pre.map Prod.fst ++ [j])
        simp only [List.length_append, List.length_map, List.length_singleton] at this
        omega) (And.intro HF.out.1 nbh)
      refine (vput_leaf x z3 z4 z5 j lvj pre cj rj P W10 hAr hm hg hb hP hwp hL hag hlf (by omega) o4 hn4 hat hhas QX.out.1 QX.out.2.1 QX.out.2.2.1 (fun z hz => nF z (by omega))).mono ?_
      have hE := Lib.hid hE
      rintro e W11 (⟨rfl, hr, hb11⟩ | ⟨n, M', rfl, n1, hr, hs11⟩)
      · have hend := Lib.hid (And.intro (show most < live (most + 1) M + 16 by have := hE.out.1; omega) (And.intro (kW.trans (Kp.of_below hb11 (fun q => q = bh)) (fun q h => .inl h)) (hhW.below hb11)))
        clear hr hb11
        go_wp2_with fail
        exact bodyPost_ret (v := .tuple #[.int .i64 0, .int .i64 5]) (by simp [results, Tryz.results96, go_sem]) rfl (.inl ⟨rfl, hend.out⟩)
      · have hend := Lib.hid (And.intro n1 (And.intro (hr.le (show _ ≤ 16 by have := hE.out.1; omega)) (StpH.mk' hE.out.2.1 kW hhW hE.out.2.2 hs11)))
        clear n1 hr hs11
        go_wp2_with fail
        exact bodyPost_ret (v := .tuple #[.int .i64 (n : Nat), .int .i64 0]) (by simp [results, Tryz.results96, go_sem]) rfl (.inr ⟨n, M', rfl, hend.out⟩)
    · have hx : ¬ (level : Int) = 13 := by omega
      obtain ⟨g5, c5, e5, hc5, kc5, rr1⟩ := own_at (KW.out.1.own HROW.out.2.1 (fun q hq e => HROW.out.2.2.2 q hq e)) (j := pre.length) (u := .int .i64 (y.2 : Nat)) (by rw [HCL.out.1]; simp [nums, ns])
      simp only [Value.slice.injEq, true_and] at e5
      obtain ⟨eA5, rr2⟩ := e5
      have hs8 : Q8S W10.drew z3 b9 g5 x level y.2 pre.length := Q8S.kp ⟨QX.out.1, by rw [← eA5]; exact m6, QX.out.2.2.2.2, kc5⟩ (Kp.of_below (Below.refl _ W10).drew (fun _ => False)) (fun _ => id)
      have HS8 := Lib.hid hs8
      have hn50 : (0 : Int) ≤ (pre.length : Int) := by omega
      have hn51 : (pre.length : Int) < (x.n5 : Int) := by
        have h1 := HNN.out.2.1
        rw [HCL.out.1] at h1
        simp at h1
        omega
      clear hs8 eA5 rr1 rr2 hc5 kc5
      go_upto_region 8 with fail
      have a6 : ∀ W', Q8S W' z3 b9 g5 x level y.2 pre.length → W'.cell? ⟨z3, 6, none⟩ = some (.slice (some ⟨g5, 0, none⟩) x.n5 x.c5) := fun W' h => h.l6
      have a9 : ∀ W', Q8S W' z3 b9 g5 x level y.2 pre.length → W'.cell? ⟨b9, 0, none⟩ = some (.int .i64 (level : Nat)) := fun W' h => h.lv.c0
      have a5 : ∀ W', Q8S W' z3 b9 g5 x level y.2 pre.length → W'.cell? ⟨g5, pre.length, none⟩ = some (.int .i64 (y.2 : Nat)) := fun W' h => h.kc
      clear m0 m1 m2 m3 m4 m5 m6 m7 m8 m9 d0 g0
      refine wp_region_noPanic ?_
      refine wp_region_held_drew (S := fun W' => Q8S W' z3 b9 g5 x level y.2 pre.length) (by kernel_rfl) HS8.out (fun hH => ?_)
      refine tkH ?_ 0 hH ?_ ?_; rotate_left
      · intro W' hS; go_simp; with_reducible rfl
      simp only [tkr]
      refine tkH ?_ 1 hH ?_ ?_; rotate_left
      · intro W' hS; go_simp; with_reducible rfl
      simp only [tkr]
      refine tkH ?_ 2 hH ?_ ?_; rotate_left
      · intro W' hS; go_simp; with_reducible rfl
      simp only [tkr]
      refine tkH ?_ 3 hH ?_ ?_; rotate_left
      · intro W' hS; go_simp; with_reducible rfl
      simp only [tkr]
      refine tkH ?_ 4 hH ?_ ?_; rotate_left
      · intro W' hS; go_simp; with_reducible rfl
      simp only [tkr]
      refine tkH ?_ 5 hH ?_ ?_; rotate_left
      · intro W' hS; go_simp; with_reducible rfl
      simp only [tkr]
      refine tkH ?_ 6 hH ?_ ?_; rotate_left
      · intro W' hS; go_simp; with_reducible rfl
      simp only [tkr]
      refine tkH ?_ 7 hH ?_ ?_; rotate_left
      · intro W' hS; go_simp; with_reducible rfl
      simp only [tkr]
      refine wpAnyH_done (by kernel_rfl) ?_ _
      refine NoPanic.normal ?_
      clear a6 a9 a5 hn50 hn51 hH
      obtain ⟨m0, m1, m2, m3, m4, m5, m6, m7, m8, m9⟩ := (QX.out.1.kp (Kp.of_below (Below.refl _ W10).drew (fun _ => False)) id).all
      have nF : ∀ z, w.heap.size ≤ z → ¬ F z := HF.out.2.1
      have KD := Lib.hid (Kp.of_below (Below.refl W10.heap.size W10).drew (fun _ => False))
      by_cases cy : level = y.2
      · have hxy : (level : Int) = (y.2 : Int) := by omega
        go_wp2_with fail
        obtain ⟨hAr0, hm, hg, hb, hP, hwp, hwy, hpre, hly, hlev, hnear, o40, hn4, hat, hhas, hlf⟩ := HX.out
        obtain ⟨hfl, nbh⟩ := HF.out.2.2
        have hzz := HZ.out
        have hkd := KD.out
        have hAr := hAr0.drew
        have o4 := o40.drew
        have kW : Kp (fun q => q = bh) w W10.drew := KW.out.1.drew
        have hhW : Hs W10.drew bh seed := KW.out.2.kp hkd id
        have hcn : (pre ++ y :: rest).length ≤ 100 := by have := HCL.out.2.2.2.2.2.2.2.2; rw [HCL.out.1] at this; omega
        obtain ⟨_, hy1, _⟩ := hwy.at_lev
        have hyy : y = (j, level) := Prod.ext hy1 cy.symm
        rw [hyy] at o4 hn4 hwy hcn
        have hE := And.intro (show freshN M x.ow (pre.map Prod.fst ++ [j]) + 1 ≤ 16 by
          have := hfl (pre.map Prod.fst ++ [j])
          simp only [List.length_append, List.length_map, List.length_singleton] at this
          omega) (And.intro HF.out.1 nbh)
        refine (vput_kid x z3 z4 z5 j lvj level pre rest near lj P W10.drew hAr hm hg hb hP hwp hwy (by have := HCL.out.2.2.2.2.2.2.1; omega) hnear hlev.symm hcn o4 hn4 (QX.out.1.kp hkd id) (QX.out.2.1.kp hkd id) (QX.out.2.2.1.kp hkd id) (fun z hz => nF z (by omega))).mono ?_
        have hE := Lib.hid hE
        rintro e W11 (⟨rfl, hr, hb11⟩ | ⟨n, M', rfl, n1, hr, hs11⟩)
        · have hend := Lib.hid (And.intro (show most < live (most + 1) M + 16 by have := hE.out.1; omega) (And.intro (kW.trans (Kp.of_below hb11 (fun q => q = bh)) (fun q h => .inl h)) (hhW.below hb11)))
          clear hr hb11 hyy hy1 hxy cy
          go_wp2_with fail
          exact bodyPost_ret (v := .tuple #[.int .i64 0, .int .i64 5]) (by simp [results, Tryz.results96, go_sem]) rfl (.inl ⟨rfl, hend.out⟩)
        · have hend := Lib.hid (And.intro n1 (And.intro (hr.le (show _ ≤ 16 by have := hE.out.1; omega)) (StpH.mk' hE.out.2.1 kW hhW hE.out.2.2 hs11)))
          clear n1 hr hs11 hyy hy1 hxy cy
          go_wp2_with fail
          exact bodyPost_ret (v := .tuple #[.int .i64 (n : Nat), .int .i64 0]) (by simp [results, Tryz.results96, go_sem]) rfl (.inr ⟨n, M', rfl, hend.out⟩)
      · have hxy : ¬ (level : Int) = (y.2 : Int) := by omega
        go_wp2_with fail
        obtain ⟨hAr0, hm, hg, hb, hP, hwp, hwy, hpre, hly, hlev, hnear, o40, hn4, hat, hhas, hlf⟩ := HX.out
        obtain ⟨hfl, nbh⟩ := HF.out.2.2
        have hzz := HZ.out
        have hkd := KD.out
        have hAr := hAr0.drew
        have o4 := o40.drew
        have kW : Kp (fun q => q = bh) w W10.drew := KW.out.1.drew
        have hhW : Hs W10.drew bh seed := KW.out.2.kp hkd id
        have hcn : (pre ++ y :: rest).length ≤ 100 := by have := HCL.out.2.2.2.2.2.2.2.2; rw [HCL.out.1] at this; omega
        have hE := And.intro (show freshN M x.ow (pre.map Prod.fst) + 2 ≤ 16 by
          have := hfl (pre.map Prod.fst)
          simp only [List.length_map] at this
          omega) (And.intro HF.out.1 nbh)
        refine (vput_fork x z3 b9 z8 z4 z5 j lvj level pre rest y near lj P W10.drew hAr hm hg hb hP hwp hwy (by omega) hpre hnear hlev.symm (by have := HCL.out.2.2.2.2.2.2.1; omega) hcn o4 hn4 (QX.out.1.kp hkd id) (QX.out.2.2.2.2.kp hkd id) (QX.out.2.2.2.1.kp hkd id) (QX.out.2.1.kp hkd id) (QX.out.2.2.1.kp hkd id) (fun z hz => nF z (by omega))).mono ?_
        have hE := Lib.hid hE
        rintro e W11 (⟨rfl, hr, hb11⟩ | ⟨n, M', rfl, n1, hr, hs11⟩)
        · have hend := Lib.hid (And.intro (show most < live (most + 1) M + 16 by have := hE.out.1; omega) (And.intro (kW.trans (Kp.of_below hb11 (fun q => q = bh)) (fun q h => .inl h)) (hhW.below hb11)))
          clear hr hb11
          go_wp2_with fail
          exact bodyPost_ret (v := .tuple #[.int .i64 0, .int .i64 5]) (by simp [results, Tryz.results96, go_sem]) rfl (.inl ⟨rfl, hend.out⟩)
        · have hend := Lib.hid (And.intro n1 (And.intro (hr.le (show _ ≤ 16 by have := hE.out.1; omega)) (StpH.mk' hE.out.2.1 kW hhW hE.out.2.2 hs11)))
          clear n1 hr hs11
          go_wp2_with fail
          exact bodyPost_ret (v := .tuple #[.int .i64 (n : Nat), .int .i64 0]) (by simp [results, Tryz.results96, go_sem]) rfl (.inr ⟨n, M', rfl, hend.out⟩)
end
end Go.Proofs.YtdddhmipifkepaaGreat
