/- Several texts in one. -/
import Derived.Test.YtkkfhbcnfknmaaaGreatMg04
import Derived.Deep.LoopGhost
namespace Go.Proofs.YtkkfhbcnfknmaaaGreat
set_option maxRecDepth 100000
open Go.RowKit

section
variable {w w' w3 : World} {b most : Nat} {M : Cells} {F G : Nat → Prop} {n : Nat} {vc vf : Value} {fr : List Nat} {H : Nat → Nat}
theorem Cel.keepG {h : Nat} {c : Hc} {r : Nat} (hc : Cel w F vf h c r) (hk : Kp G w w') (h1 : ¬ G h)
    (hT : ∀ g, G g → ∃ cur t z, w.heap[g]? = some (.cells cur t z) ∧ t ≠ 36 ∧ (t ≠ 3 ∨ vf.ownBlock = some g)) : Cel w' F vf h c r := by
  obtain ⟨v, k, q1, q2, q3, q4, q5, q6, q7, q8⟩ := hc
  refine ⟨v, k, q1.kp hk h1, hk.own q2 fun j hj g => ?_, hk.own q3 fun j hj g => ?_, q4, q5, q6, q7, q8⟩
  · obtain ⟨cur, t, z, hg, t1, _⟩ := hT _ g
    exact own_ne q2 hg (Ne.symm t1) j hj rfl
  · obtain ⟨cur, t, z, hg, _, t2 | t2⟩ := hT _ g
    · exact own_ne q3 hg (Ne.symm t2) j hj rfl
    · exact (q6 j hj).2 t2
theorem places_cut {j : Nat} : places (upd M (j + 1) none) H n = (places M H n).set j (.pointer none) := by
  apply List.ext_getElem?
  intro k
  by_cases hk : k < n
  · rw [places_at hk, List.getElem?_set]
    by_cases e : j = k
    · subst e; rw [upd_same, if_pos rfl, if_pos (by rw [places_length]; exact hk)]; rfl
    · rw [if_neg e, places_at hk, upd_other _ _ (by omega)]
  · rw [List.getElem?_eq_none (by rw [places_length]; omega), List.getElem?_eq_none (by rw [List.length_set, places_length]; omega)]
theorem ns_snoc (l : List Nat) (i : Nat) : nums (ns (l ++ [i])) = nums (ns l) ++ [.int .i64 i] := by simp [nums, ns]

theorem ArD.freed {gc cc j : Nat} {c : Hc} {vf' : Value} {o : Obj} (h : ArD 0 w b most M F n (.slice (some ⟨gc, 0, none⟩) n cc) vf fr H) (hj : j < n) (hM : M (j + 1) = some (c, 1))
    (hown : w3.ownsRow 0 3 1 vf' (fr.length + 1) (nums (ns fr) ++ [.int .i64 ((j + 1 : Nat) : Int)]))
    (hg : (((w.setCell ⟨H (j + 1), 5, none⟩ (.int .i64 0)).setCell ⟨gc, j, none⟩ (.pointer none)).alloc o).grownBy w3 vf.ownBlock)
    (hat : vf'.ownBlock = vf.ownBlock ∨ vf'.ownBlock = some (w.heap.size + 1)) :
    ∀ w5, w5 = (w3.setCell ⟨b, 3, none⟩ vf').setCell ⟨b, 1, none⟩ (.int .i64 ((live (most + 1) M : Nat) - 1)) →
    Ar w5 b most (upd M (j + 1) none) (Fn F w w5) ∧ Kp F w w5 ∧ ∃ k, w5.cell? ⟨H (j + 1), 4, none⟩ = some k ∧ Rd w5 k c.kids.length (nums (ns c.kids)) := by
  rintro w5 hw5
  obtain ⟨_, _, _, hcel⟩ := h.cel (j + 1) c 1 hM
  obtain ⟨cur6, h6⟩ := hcel.six
  obtain ⟨curc, hgc⟩ := own_type h.cs gc rfl
  have hFH : F (H (j + 1)) := by obtain ⟨_, _, _, _, _, hf, _⟩ := hcel; exact hf
  have k1 : Kp (fun x => x = H (j + 1) ∨ x = gc) w (((w.setCell ⟨H (j + 1), 5, none⟩ (.int .i64 0)).setCell ⟨gc, j, none⟩ (.pointer none)).alloc o) :=
    (((Kp.refl (fun x => x = H (j + 1) ∨ x = gc) w).setCell (.inl (.inl rfl)) _).setCell (.inl (.inr rfl)) _).alloc _
  have k2 : Kp (fun x => x = H (j + 1) ∨ x = gc ∨ vf.ownBlock = some x) w w3 :=
    (k1.mono (G := fun x => x = H (j + 1) ∨ x = gc ∨ vf.ownBlock = some x) (fun _ e _ => e.elim .inl (fun e => .inr (.inl e)))).trans (Kp.of_grown (F := fun x => vf.ownBlock = some x) hg (fun _ e => .inl e)) (fun _ e => .inl (.inr (.inr e)))
  have k3 : Kp (fun x => x = H (j + 1) ∨ x = gc ∨ vf.ownBlock = some x ∨ x = b) w w5 := by
    rw [hw5]
    exact ((k2.mono (G := fun x => x = H (j + 1) ∨ x = gc ∨ vf.ownBlock = some x ∨ x = b) (fun _ e _ => e.elim .inl (fun e => .inr (e.elim .inl (fun e => .inr (.inl e)))))).setCell (.inl (.inr (.inr (.inr rfl)))) _).setCell (.inl (.inr (.inr (.inr rfl)))) _
  have hT : ∀ g, (g = H (j + 1) ∨ g = gc ∨ vf.ownBlock = some g ∨ g = b) → ∃ cur t z, w.heap[g]? = some (.cells cur t z) ∧ t ≠ 36 ∧ (t ≠ 3 ∨ vf.ownBlock = some g) := by
    rintro g (rfl | rfl | e | rfl)
    · exact ⟨_, _, _, h6, by decide, .inl (by decide)⟩
    · exact ⟨_, _, _, hgc, by decide, .inl (by decide)⟩
    · obtain ⟨cur, hc⟩ := own_type h.fs g e
      exact ⟨_, _, _, hc, by decide, .inr e⟩
    · exact ⟨_, _, _, h.row, by decide, .inl (by decide)⟩
  have hbH : b ≠ H (j + 1) := ne_types h.row h6 (by decide)
  have hbg : b ≠ gc := ne_types h.row hgc (by decide)
  have hgH : gc ≠ H (j + 1) := ne_types hgc h6 (by decide)
  have hfb : ∀ x, vf.ownBlock = some x → x ≠ b := own_ne h.fs h.row (by decide)
  have hfg : ∀ x, vf.ownBlock = some x → x ≠ gc := own_ne h.fs hgc (by decide)
  have hfH : ∀ x, vf.ownBlock = some x → x ≠ H (j + 1) := own_ne h.fs h6 (by decide)
  have kF : Kp F w w5 := k3.mono (fun x e _ => by
    rcases e with rfl | rfl | e | rfl
    · exact hFH
    · exact h.fc _ rfl
    · exact h.ff _ e
    · exact h.fb)
  have r3 : C4 w3 b 152 (.int .i64 most) (.int .i64 (live (most + 1) M)) (.slice (some ⟨gc, 0, none⟩) n cc) vf := h.row.kp k2 (fun e => by
    rcases e with e | e | e
    · exact hbH e
    · exact hbg e
    · exact hfb b e rfl)
  have hsz3 : w.heap.size + 1 ≤ w3.heap.size := by have := hg.size; simpa using this
  have hsz : w5.heap.size = w3.heap.size := by rw [hw5]; simp
  have hN : j + 1 < most + 1 := by have := h.le; omega
  have hlive : live (most + 1) (upd M (j + 1) none) + 1 = live (most + 1) M := by
    have := live_upd (M := M) (j + 1) none hN
    rw [hM] at this
    simpa [one] using this
  have hlen := h.len
  have hFn : ∀ x, F x → Fn F w w5 x := fun _ => .inl
  have hne : ∀ x, upd M (j + 1) none x ≠ none → x ≠ j + 1 ∧ M x ≠ none := fun x hx => by
    by_cases e : x = j + 1
    · subst e; rw [upd_same] at hx; exact absurd rfl hx
    · rw [upd_other _ _ e] at hx; exact ⟨e, hx⟩
  have hvf' : ∀ g, vf'.ownBlock = some g → vf.ownBlock = some g ∨ ¬ F g := fun g hg' => by
    rcases hat with e | e
    · exact .inl (e ▸ hg')
    · rw [e] at hg'; injection hg' with hg'; exact .inr fun hf => by have := h.lt g hf; omega
  refine ⟨⟨n, _, vf', fr ++ [j + 1], H, h.m1, h.m2, ?_, ?_, ?_, ?_, fun x y hx hy => h.inj x y (hne x hx).2 (hne y hy).2, ?_, ?_, ?_, h.le, hFn _ h.fb, fun x hx => hFn _ (h.fc x hx), ?_, Fn.lt h.lt kF.size⟩, kF, ?_⟩
  · have hl : ((live (most + 1) (upd M (j + 1) none) : Nat) : Int) = (live (most + 1) M : Nat) - 1 := by omega
    rw [hl, hw5]
    exact (r3.set3 _).set1 _
  · rw [places_cut]
    have s1 := (Kp.one w (H (j + 1)) 5 (.int .i64 0)).own h.cs (fun x hx e => by cases hx; exact hgH e)
    have s2 := ((s1.stored j (.pointer none)).1.alloc o)
    have s3 := (Kp.of_grown (F := fun x => vf.ownBlock = some x) hg (fun _ e => .inl e)).own s2 (fun x hx e => by cases hx; exact hfg _ e rfl)
    rw [hw5]
    exact (Kp.one _ b 1 _).own ((Kp.one _ b 3 _).own s3 (fun x hx e => by cases hx; exact hbg e.symm)) (fun x hx e => by cases hx; exact hbg e.symm)
  · rw [List.length_append, List.length_singleton, ns_snoc, hw5]
    have hb3 := own_ne hown r3 (by decide)
    exact (Kp.one _ b 1 _).own ((Kp.one _ b 3 _).own hown hb3) hb3
  · intro j' c' r' hj'
    obtain ⟨e, hM'⟩ := hne j' (by rw [hj']; simp)
    rw [upd_other _ _ e] at hj'
    obtain ⟨j1, j2, j3, j4⟩ := h.cel j' c' r' hj'
    obtain ⟨cur', h6'⟩ := j4.six
    refine ⟨j1, j2, j3, ((j4.keepG k3 ?_ hT).vf' hvf').mono hFn⟩
    rintro (e' | e' | e' | e')
    · exact e (h.inj j' (j + 1) hM' (by rw [hM]; simp) e')
    · exact ne_types h6' hgc (by decide) e'
    · exact own_ne h.fs h6' (by decide) _ e' rfl
    · exact ne_types h6' h.row (by decide) e'
  · rw [List.nodup_append]
    refine ⟨h.nd, by simp, fun x hx y hy => ?_⟩
    rintro rfl
    simp at hy
    subst hy
    have := (h.fi _ hx).2.2
    rw [hM] at this
    cases this
  · intro x hx
    rw [List.mem_append] at hx
    rcases hx with hx | hx
    · obtain ⟨x1, x2, x3⟩ := h.fi x hx
      refine ⟨x1, x2, ?_⟩
      by_cases e : x = j + 1
      · subst e; rw [upd_same]
      · rw [upd_other _ _ e]; exact x3
    · simp at hx; subst hx; exact ⟨by omega, by omega, upd_same _ _ _⟩
  · rw [List.length_append, List.length_singleton]; omega
  · intro x hx
    rcases hat with e | e
    · exact hFn _ (h.ff x (e ▸ hx))
    · have hlt := (hown.lt x hx).2
      rw [e] at hx; injection hx with hx; exact .inr ⟨by omega, by rw [hsz]; exact hlt⟩
  · obtain ⟨v, k, q1, _, q3, _, _, q6, _⟩ := hcel
    have hk3 : Rd w5 k c.kids.length (nums (ns c.kids)) := k3.rd (Rd.of_own q3) (fun x hx e => by
      rcases e with e | e | e | e
      · exact own_ne q3 h6 (by decide) x hx e
      · exact own_ne q3 hgc (by decide) x hx e
      · exact (q6 x hx).2 e
      · exact own_ne q3 h.row (by decide) x hx e)
    refine ⟨k, ?_, hk3⟩
    have a1 := (q1.set5 (.int .i64 0)).other (g := gc) (o := j) hgH.symm (.pointer none)
    have a2 := (a1.alloc o).grown hg (fun e => hfH _ e.symm rfl)
    have a3 := ((a2.other (g := b) (o := 3) hbH.symm vf').other (g := b) (o := 1) hbH.symm (.int .i64 ((live (most + 1) M : Nat) - 1)))
    rw [hw5]
    exact a3.c4
end

def Released (x b most : Nat) (M : Cells) (F : Nat → Prop) (w : World) (e : Ending) (w' : World) : Prop :=
  ∃ kv, e = .returned kv ∧ Rd w' kv (release M x).2.length (nums (ns (release M x).2)) ∧ Ar w' b most (release M x).1 (Fn F w w') ∧ Kp F w w'

set_option maxRecDepth 100000 in
set_option maxHeartbeats 1600000 in
theorem arelease (x b most : Nat) (M : Cells) (F : Nat → Prop) (w : World) (h : Ar w b most M F) (hr : rf (M x) ≤ 4611686018427387904) :
    Calls Tryz.prog 73 #[ap b, .int .i64 x] w (Released x b most M F w) := by
  obtain ⟨n, vc, vf, fr, H, h⟩ := h
  have Fn0 : ∀ k, Fn F w w k → F k ∨ w.heap.size ≤ k := fun _ => Fn.old
  cases hM : M x with
  | none =>
    have hf : fptr M H x = .pointer none := fptr_none M H (fun _ => by simpa using hM)
    have HR := Lib.hid (show release M x = (M, []) by unfold release; rw [hM])
    have hF : ArD 0 w b most M (Fn F w w) n vc vf fr H := by
      have : Fn F w w = F := by
        funext k
        exact propext ⟨fun h => h.elim id (fun h => by omega), .inl⟩
      rw [this]; exact h
    have HF := Lib.hid hF
    clear hF hM
    go_enter Tryz.func73, Tryz.ntmps73
    go_wp2_with (go_at_call 72; refine (find _ _ h).mono ?_; rintro e w' ⟨rfl, rfl⟩; rw [hf])
    go_ret
    exact ⟨_, rfl, by rw [HR.out]; exact Rd.nil w, by rw [HR.out]; exact ⟨n, vc, vf, fr, H, HF.out⟩, Kp.refl _ _⟩
  | some y =>
    obtain ⟨c, r⟩ := y
    rw [hM] at hr
    simp only [rf] at hr
    obtain ⟨x1, x2, x3, h6⟩ := h.cel x c r hM
    have hf := fptr_some M H x1 hM
    obtain ⟨v, k, r6, hv, hk, hFx, fv, fk, nv, nk⟩ := h6
    have c5 := r6.c5
    have f5 := r6.fz 5
    by_cases hr1 : 1 < r
    · have HR := Lib.hid (show release M x = (upd M x (some (c, r - 1)), []) by unfold release; rw [hM]; simp only [hr1, if_true])
      have e1 : ((r - 1 : Nat) : Int) = (r : Int) - 1 := by omega
      have hA : Kp (fun k => k = H x) w (w.setCell ⟨H x, 5, none⟩ (.int .i64 ((r : Int) - 1))) := Kp.one w _ _ _
      have hnew : ArD 0 (w.setCell ⟨H x, 5, none⟩ (.int .i64 ((r : Int) - 1))) b most (upd M x (some (c, r - 1))) (Fn F w (w.setCell ⟨H x, 5, none⟩ (.int .i64 ((r : Int) - 1)))) n vc vf fr H :=
        h.put (y := (c, r - 1)) hM hA (fun _ => .inl) (Fn.lt h.lt hA.size)
          ⟨v, k, by rw [e1]; exact r6.set5 _, hA.own hv (own_ne hv r6 (by decide)), hA.own hk (own_ne hk r6 (by decide)), .inl hFx, fun g hg => .inl (fv g hg), fun g hg => ⟨.inl (fk g hg).1, (fk g hg).2⟩, nv, nk⟩ (by simp; omega)
      have HN := Lib.hid hnew
      have HK := Lib.hid (show Kp F w _ from hA.mono (G := F) fun k e _ => e ▸ hFx)
      have hpos : (0 : Int) < (r : Int) - 1 := by omega
      clear hnew hA r6 hM e1
      go_enter Tryz.func73, Tryz.ntmps73
      go_wp2_with (go_at_call 72; refine (find _ _ h).mono ?_; rintro e w' ⟨rfl, rfl⟩; rw [hf])
      go_ret
      exact ⟨_, rfl, by rw [HR.out]; exact Rd.nil _, by rw [HR.out]; exact ⟨n, vc, vf, fr, H, HN.out⟩, HK.out⟩
    · obtain rfl : r = 1 := by omega
      have HR := Lib.hid (show release M x = (upd M x none, c.kids) by unfold release; rw [hM]; rfl)
      obtain ⟨j, rfl⟩ : ∃ j, x = j + 1 := ⟨x - 1, by omega⟩
      obtain ⟨gc, cc, rfl, _, hx, hfz⟩ := own_at h.cs (places_at (M := M) (H := H) (n := n) (j := j) (by omega))
      obtain ⟨i1, hi1, hy0, hy1, hy2⟩ := info_parts iinfo
      have hn : n ≤ 1048576 := by have := h.le; have := h.m2; omega
      have hfr : fr.length ≤ 1048576 := by have := h.len; omega
      obtain ⟨curc, hgc⟩ := own_type h.cs gc rfl
      have hbH : b ≠ H (j + 1) := ne_types h.row r6 (by decide)
      have hbg : b ≠ gc := ne_types h.row hgc (by decide)
      have hgH : gc ≠ H (j + 1) := ne_types hgc r6 (by decide)
      have hx' := (World.cell?_setCell_other w ⟨H (j + 1), 5, none⟩ ⟨gc, j, none⟩ (.int .i64 0) (fun e => hgH (by injection e with e; exact e.symm))).trans hx
      have hf' : fptr M H ((j : Int) + 1) = ap (H (j + 1)) := hf
      clear hf
      have HH := Lib.hid h
      have r4 := ((h.row.other (g := H (j + 1)) (o := 5) hbH (.int .i64 0)).other (g := gc) (o := j) hbg (.pointer none))
      have c3 := r4.c3
      have c2 := (h.row.other (g := H (j + 1)) (o := 5) hbH (.int .i64 0)).c2
      obtain ⟨Af, cf, rfl, _⟩ := (Rd.of_own h.fs).form
      have hfz' : (w.setCell ⟨H (j + 1), 5, none⟩ (.int .i64 0)).frozen? ⟨gc, j, none⟩ = false := by rw [World.frozen?_setCell]; exact hfz
      have hfs2 := (Kp.one (w.setCell ⟨H (j + 1), 5, none⟩ (.int .i64 0)) gc j (.pointer none)).own ((Kp.one w (H (j + 1)) 5 (.int .i64 0)).own h.fs (own_ne h.fs r6 (by decide))) (own_ne h.fs hgc (by decide))
      have HFS := Lib.hid hfs2
      have HM := Lib.hid hM
      clear hM hfs2 r4 r6 h hv hk hgc
      go_enter Tryz.func73, Tryz.ntmps73
      go_wp2_with (first | (go_at_call 72; refine (find _ _ HH.out).mono ?_; rintro e w' ⟨rfl, rfl⟩; rw [hf']) | (at_builtin; refine wpList_append_rd rfl _ _ 92 rfl 0 3 i1 _ 1 8 Tryz.underlying92 hi1 hy0 hy1 hy2 rfl (by decide) _ fr.length (nums (ns fr)) rfl (HFS.out.alloc _) _ 1 [.int .i64 ((j + 1 : Nat) : Int)] rfl ?k0 rfl ?k1 ?k2 ?k3 (Nat.zero_le _) ?_))
      case k0 => exact Rd.one' _ _ _ _ (by simp)
      case k1 => intro u hu; simp at hu; subst hu; rfl
      case k2 => unfold maxLen; omega
      case k3 => omega
      intro v1 w3 hown hg hat
      obtain ⟨A1, m1, rfl, _⟩ := (Rd.of_own hown).form
      have hfb : ∀ x, (Value.slice Af fr.length cf).ownBlock = some x → x ≠ b := own_ne HH.out.fs HH.out.row (by decide)
      have r3 := (((HH.out.row.other (g := H (j + 1)) (o := 5) hbH (.int .i64 0)).other (g := gc) (o := j) hbg (.pointer none)).alloc _).grown hg (fun e => hfb b e.symm rfl)
      have d3 := r3.c3
      have e3 := r3.fz 3
      have r5 := r3.set3 (.slice A1 (fr.length + 1) m1)
      have R5 := Lib.hid r5
      have HF := Lib.hid (HH.out.freed (by omega) HM.out hown hg (by simpa using hat))
      have hlv : live (most + 1) M ≤ 1048576 := by have := HH.out.len; omega
      clear r3 r5 hown hg hat c3 c2 hx hx' hfz hfz' c5 f5 hfb
      go_wp2_with (go_at_call 89; refine (add64 ⟨b, 1, none⟩ _ (-1) _ R5.out.c1 (R5.out.fz 1) (by omega) (by omega)).mono ?_; rintro e w5 ⟨rfl, hw5⟩; obtain ⟨ha, hkp, k0, ck, hrd⟩ := HF.out w5 hw5; obtain ⟨Ak, mk, rfl, _⟩ := hrd.form; have HA := Lib.hid ha; have HKP := Lib.hid hkp; have HRD := Lib.hid hrd; clear ha hkp hrd hw5)
      go_ret
      exact ⟨_, rfl, by rw [HR.out]; exact HRD.out, by rw [HR.out]; exact HA.out, HKP.out⟩

def kl (N : Nat) (M : Cells) : Nat := sumTo N fun j => (kd (M j)).length
section
variable {N : Nat} {M : Cells}
theorem kl_upd (i : Nat) (v : Option (Hc × Nat)) (h : i < N) : kl N (upd M i v) + (kd (M i)).length = kl N M + (kd v).length := by
  unfold kl
  rw [upd_comp (fun x => (kd x).length) M i v]
  exact sumTo_upd _ _ _ _ h
theorem release_kl {x : Nat} (hx : M x ≠ none → x < N) : kl N (release M x).1 + (release M x).2.length ≤ kl N M := by
  unfold release
  cases e : M x with
  | none => simp
  | some y =>
    obtain ⟨c, r⟩ := y
    have hx' := hx (by rw [e]; simp)
    by_cases hr : 1 < r
    · simp only [hr, if_true]
      have := kl_upd (M := M) x (some (c, r - 1)) hx'
      rw [e] at this
      simp only [kd, List.length_nil] at *
      omega
    · simp only [hr, if_false]
      have := kl_upd (M := M) x none hx'
      rw [e] at this
      simp only [kd, List.length_nil] at *
      omega
theorem release_rf (x j : Nat) : rf ((release M x).1 j) ≤ rf (M j) := by
  unfold release
  cases e : M x with
  | none => exact Nat.le_refl _
  | some y =>
    obtain ⟨c, r⟩ := y
    by_cases hj : j = x
    · subst hj
      by_cases hr : 1 < r
      · simp only [hr, if_true, upd_same, e, rf]; omega
      · simp only [hr, if_false, upd_same, e, rf]; omega
    · by_cases hr : 1 < r
      · simp only [hr, if_true, upd_other _ _ hj]; exact Nat.le_refl _
      · simp only [hr, if_false, upd_other _ _ hj]; exact Nat.le_refl _
end
theorem Ar.mono {w : World} {b most : Nat} {M : Cells} {F G : Nat → Prop} (h : Ar w b most M F) (hF : ∀ k, F k → G k) (hG : ∀ k, G k → k < w.heap.size) : Ar w b most M G := by
  obtain ⟨n, vc, vf, fr, H, h⟩ := h
  refine ⟨n, vc, vf, fr, H, h.m1, h.m2, h.row, h.cs, h.fs, fun j c r hj => ?_, h.inj, h.nd, h.fi, h.len, h.le, hF _ h.fb, fun k hk => hF _ (h.fc k hk), fun k hk => hF _ (h.ff k hk), hG⟩
  obtain ⟨h1, h2, h3, h4⟩ := h.cel j c r hj
  exact ⟨h1, h2, h3, h4.mono hF⟩
section
variable {w : World} {b most : Nat} {M : Cells} {F : Nat → Prop}
theorem Ar.top (h : Ar w b most M F) {j : Nat} (hj : M j ≠ none) : 1 ≤ j ∧ j < most + 1 := by
  obtain ⟨n, vc, vf, fr, H, h⟩ := h
  have := h.held hj
  have := h.le
  omega
theorem Ar.pos (h : Ar w b most M F) {j : Nat} (hj : M j ≠ none) : 1 ≤ rf (M j) := by
  obtain ⟨n, vc, vf, fr, H, h⟩ := h
  cases e : M j with
  | none => exact absurd e hj
  | some x => exact (h.cel j x.1 x.2 e).2.2.1
theorem Ar.kids (h : Ar w b most M F) (j : Nat) : (kd (M j)).length ≤ 4194304 := by
  obtain ⟨n, vc, vf, fr, H, h⟩ := h
  cases e : M j with
  | none => simp [kd]
  | some x => obtain ⟨_, _, _, _, _, _, _, _, _, _, _, _, hk⟩ := h.cel j x.1 x.2 e; exact hk
theorem Ar.kl_le (h : Ar w b most M F) : kl (most + 1) M ≤ 4398050705408 := by
  have h1 := sumTo_le (f := fun j => (kd (M j)).length) 4194304 (most + 1) (fun j _ => h.kids j)
  have h2 : most ≤ 1048576 := by obtain ⟨n, vc, vf, fr, H, h⟩ := h; exact h.m2
  have h3 : (most + 1) * 4194304 ≤ 1048577 * 4194304 := Nat.mul_le_mul_right _ (by omega)
  unfold kl
  omega
end

def Dr (i b most : Nat) (M : Cells) (F : Nat → Prop) (w0 : World) (k : Nat) (x : Value) (wr : World) : Prop :=
  ∃ (Mr : Cells) (t : List Nat) (G : Nat → Prop), k = load (most + 1) Mr + t.length ∧ (∀ M', Drops Mr t M' → Drops M [i] M') ∧ Ar wr b most Mr G ∧ (∀ g, G g → F g ∨ w0.heap.size ≤ g) ∧
    wr.ownsRow w0.heap.size 3 1 x t.length (nums (ns t)) ∧ (∀ g, x.ownBlock = some g → ¬ G g) ∧ Kp F w0 wr ∧ kl (most + 1) Mr + t.length ≤ kl (most + 1) M + 1 ∧ ∀ j, rf (Mr j) ≤ 4611686018427387904

theorem Dr.step {i b most : Nat} {M : Cells} {F : Nat → Prop} {w0 wr w1 w2 : World} {Mr : Cells} {t : List Nat} {x : Nat} {G : Nat → Prop} {A : Option Addr} {m : Nat} {v' : Value} (hd : ∀ M', Drops Mr (t ++ [x]) M' → Drops M [i] M') (ha : Ar wr b most Mr G) (hG : ∀ g, G g → F g ∨ w0.heap.size ≤ g)
    (hown : wr.ownsRow w0.heap.size 3 1 (.slice A t.length m) t.length (nums (ns t))) (hx : ∀ g, (Value.slice A t.length m).ownBlock = some g → ¬ G g) (hk : Kp F w0 wr) (hkl : kl (most + 1) Mr + (t ++ [x]).length ≤ kl (most + 1) M + 1) (hrf : ∀ j, rf (Mr j) ≤ 4611686018427387904)
    (ha1 : Ar w1 b most (release Mr x).1 (Fn G wr w1)) (hk1 : Kp G wr w1)
    (hown2 : w2.ownsRow w0.heap.size 3 1 v' (t.length + (release Mr x).2.length) (nums (ns t) ++ nums (ns (release Mr x).2))) (hg2 : w1.grownBy w2 (Value.slice A t.length m).ownBlock) (hat : v'.ownBlock = (Value.slice A t.length m).ownBlock ∨ v'.ownBlock = some w1.heap.size) :
    ∃ k', k' < load (most + 1) Mr + (t ++ [x]).length ∧ Dr i b most M F w0 k' v' w2 := by
  have hlt : ∀ g, (Value.slice A t.length m).ownBlock = some g → w0.heap.size ≤ g ∧ g < wr.heap.size := hown.lt
  have hnF : ∀ g, (Value.slice A t.length m).ownBlock = some g → ¬ Fn G wr w1 g := fun g e hf => by
    rcases hf with hf | hf
    · exact hx g e hf
    · have := (hlt g e).2; omega
  have hr := ha.top (j := x)
  refine ⟨load (most + 1) (release Mr x).1 + (t ++ (release Mr x).2).length, ?_, (release Mr x).1, t ++ (release Mr x).2, Fn G wr w1, rfl, fun M' hM => hd M' (.step hM), ?_, ?_, ?_, ?_, ?_, ?_, ?_⟩
  · have := release_load (N := most + 1) (M := Mr) (x := x) (by
      by_cases e : Mr x = none
      · exact .inr e
      · exact .inl (hr e).2) (ha.pos (j := x))
    simp only [List.length_append, List.length_singleton]
    omega
  · exact ha1.kp (Kp.of_grown (F := fun g => (Value.slice A t.length m).ownBlock = some g) hg2 (fun _ e => .inl e)) (fun g hg e => hnF g e hg)
  · intro g hg
    rcases hg with hg | hg
    · exact hG g hg
    · have := hk.size; exact .inr (by omega)
  · have e1 : (t ++ (release Mr x).2).length = t.length + (release Mr x).2.length := by simp
    have e2 : nums (ns (t ++ (release Mr x).2)) = nums (ns t) ++ nums (ns (release Mr x).2) := by simp [nums, ns]
    rw [e1, e2]
    exact hown2
  · intro g hg
    rcases hat with e | e
    · exact hnF g (e ▸ hg)
    · rw [e] at hg
      injection hg with hg
      subst hg
      exact fun hf => by have := ha1.lt hf; omega
  · exact (hk.trans hk1 hG).trans (Kp.of_grown (F := fun g => (Value.slice A t.length m).ownBlock = some g) hg2 (fun _ e => .inl e)) (fun g e => .inr (hlt g e).1)
  · have := release_kl (N := most + 1) (M := Mr) (x := x) (fun e => (hr e).2)
    simp only [List.length_append, List.length_singleton] at hkl ⊢
    omega
  · exact fun j => Nat.le_trans (release_rf x j) (hrf j)

def Dropped (i b most : Nat) (M : Cells) (F : Nat → Prop) (w : World) (e : Ending) (w' : World) : Prop :=
  e = .returned (.int .i64 0) ∧ ∃ M', Drops M [i] M' ∧ Ar w' b most M' (Fn F w w') ∧ Kp F w w'

set_option maxHeartbeats 4000000 in
theorem adrop (i b most : Nat) (M : Cells) (F : Nat → Prop) (w : World) (h : Ar w b most M F) (hi : M i ≠ none) (hr : ∀ j, rf (M j) ≤ 4611686018427387904) :
    Calls Tryz.prog 30 #[ap b, .int .i64 i] w (Dropped i b most M F w) := by
  obtain ⟨i1, hi1, hy0, hy1, hy2⟩ := info_parts iinfo
  obtain ⟨y, hy⟩ := Option.ne_none_iff_exists'.1 hi
  have HH := Lib.hid h
  have hF := Lib.hid (fun k hk => h.lt (k := k) hk)
  have i1' := (h.top hi).1
  have hkl := Lib.hid h.kl_le
  obtain ⟨n, vc, vf, fr, H, hD⟩ := h
  have hf := fptr_some M H i1' hy
  have HR := Lib.hid hr
  clear hi hy hr
  go_enter Tryz.func30, Tryz.ntmps30
  go_wp2_with (go_at_call 72; refine (find _ _ hD).mono ?_; rintro e w' ⟨rfl, rfl⟩; rw [hf])
  go_loopg [5] (load (most + 1) M + 1) (fun k x wr => Dr i b most M F w k x wr)
  case atStart =>
    refine ⟨M, [i], F, rfl, fun _ => id, HH.out.alloc _, fun _ => .inl, ?_, ?_, (Kp.refl F w).alloc _, by simp, HR.out⟩
    · exact World.ownsRow_lit (base := w.heap.size) (e := 3) (size := 1) w #[.int .i64 i] 1 (Nat.le_refl _) (by unfold maxLen; omega) rfl
    · intro g hg hf'; cases hg; exact absurd (hF.out _ hf') (Nat.lt_irrefl _)
  case round =>
    obtain ⟨Mr, t, G, rfl, hd, ha, hG, hown, hx, hk, hl, hrf⟩ := hrel
    have hlen : t.length ≤ 4398050705409 := by have := hkl.out; omega
    obtain ⟨A, m, rfl, hm⟩ := (Rd.of_own hown).form
    by_cases hnil : t = []
    · subst hnil
      have HE := Lib.hid (hd Mr (.done Mr))
      clear hd
      go_wp2_with fail
      go_ret
      refine ⟨rfl, Mr, HE.out, ha.mono ?_ ?_, hk⟩
      · intro g hg
        rcases hG g hg with e | e
        · exact .inl e
        · exact .inr ⟨e, ha.lt hg⟩
      · exact Fn.lt hF.out hk.size
    · obtain ⟨t', x, rfl⟩ : ∃ l i, t = l ++ [i] := ⟨t.dropLast, t.getLast hnil, (List.dropLast_concat_getLast hnil).symm⟩
      obtain ⟨g, c, e, _, hcell, _⟩ := own_at hown (j := t'.length) (u := .int .i64 x) (by rw [nums_at]; simp [ns])
      simp only [Value.slice.injEq, true_and] at e
      obtain ⟨rfl, rfl⟩ := e
      have hown' := own_take hown (m := t'.length) (by simp)
      rw [take_ns] at hown'
      have hl1 : (t' ++ [x]).length = t'.length + 1 := by simp
      have hm' : t'.length ≤ m := by omega
      clear hm
      have HO := Lib.hid hown
      have HO' := Lib.hid hown'
      have HA := Lib.hid ha
      have HD := Lib.hid hd
      have HG := Lib.hid hG
      have HX := Lib.hid hx
      have HK := Lib.hid hk
      have HL := Lib.hid hl
      have HRF := Lib.hid hrf
      clear hown hown' ha hd hG hx hk hl hrf hnil
      rw [hl1] at hlen ⊢
      go_wp2_with fail
      have hc1 : kl (most + 1) M ≤ 4398050705408 := hkl.out
      have hkk : ∀ k, (release Mr x).2.length ≤ k → t'.length + k ≤ 4398050705409 → True := fun _ _ _ => trivial
      have hrl : t'.length + (release Mr x).2.length ≤ 4398050705409 := by
        have h1 := release_kl (N := most + 1) (M := Mr) (x := x) (fun e => (HA.out.top e).2)
        have h2 := HL.out
        rw [hl1] at h2
        omega
      have k2 : t'.length + (release Mr x).2.length ≤ maxLen := by unfold maxLen; omega
      have k3 : (t'.length + (release Mr x).2.length) * 8 ≤ 140737488355328 := by omega
      have hsz := HK.out.size
      have HB := Lib.hid (show ∀ w1, Kp G wr.drew w1 → w.heap.size ≤ w1.heap.size from fun w1 h => Nat.le_trans hsz h.size)
      have HL1 := Lib.hid (show (nums (ns (release Mr x).2)).length = (release Mr x).2.length * 1 by rw [nums_length, ns_length]; omega)
      clear hkk hc1 hrl hsz hl1
      go_region_law (first
        | (refine step_call rfl 73 #[ap b, .int .i64 x] (by go_simp) (arelease x b most Mr G _ HA.out.drew (HRF.out x)) ?_; rintro v1 w1 ⟨hrd, ha1, hk1⟩; obtain ⟨A1, m1, rfl, _⟩ := hrd.form; have HRD := Lib.hid hrd; have HA1 := Lib.hid ha1; have HK1 := Lib.hid hk1; clear hrd ha1 hk1)
        | (refine step_append_rd rfl _ _ 92 rfl w.heap.size 3 i1 _ 1 8 Tryz.underlying92 hi1 hy0 hy1 hy2 rfl (by decide) _ t'.length (nums (ns t')) rfl (HK1.out.own HO'.out HX.out) _ _ _ rfl HRD.out HL1.out (nums_one _) k2 k3 (HB.out _ HK1.out) ?_; intro v2 w2 hown2 hg2 hat2; have HO2 := Lib.hid hown2; have HG2 := Lib.hid hg2; have HAT := Lib.hid hat2; clear hown2 hg2 hat2))
      all_goals
        obtain ⟨k', hlt', hdr⟩ := Dr.step (i := i) (M := M) (F := F) HD.out HA.out HG.out HO'.out HX.out HK.out HL.out HRF.out HA1.out (show Kp G wr w1 from ⟨HK1.out.os, HK1.out.tape, HK1.out.output, HK1.out.size, HK1.out.block⟩) HO2.out HG2.out HAT.out
        obtain ⟨A2, m2, rfl, _⟩ := (Rd.of_own HO2.out).form
        have HDR := Lib.hid hdr
        clear hdr
        go_wp2_with fail
        go_roundg k'
        case measure => exact hlt'
        case rel => exact HDR.out

end Go.Proofs.YtkkfhbcnfknmaaaGreat

namespace Go.Proofs.YtkkfhbcnfknmaaaGreat
set_option maxRecDepth 100000
open Go.RowKit

theorem adrop_no (i : Int) (b most : Nat) (M : Cells) (F : Nat → Prop) (w : World) (h : Ar w b most M F) (hn : 1 ≤ i → M i.toNat = none) :
    Calls Tryz.prog 30 #[ap b, .int .i64 i] w fun e w' => e = .returned (.int .i64 4) ∧ w = w' := by
  obtain ⟨n, vc, vf, fr, H, h⟩ := h
  have hf := fptr_none M H hn
  go_enter Tryz.func30, Tryz.ntmps30
  go_wp2_with (go_at_call 72; refine (find _ _ h).mono ?_; rintro e w' ⟨rfl, rfl⟩; rw [hf])
  go_ret
  exact ⟨rfl, rfl⟩
set_option maxRecDepth 100000 in
set_option maxHeartbeats 4000000 in
theorem aedit (i : Nat) (c c0 : Hc) (v k : Value) (b most : Nat) (M : Cells) (F : Nat → Prop) (w : World) (h : Ar w b most M F) (hi : M i = some (c0, 1)) (ho : ¬ c0.owner = 0) (hv : Rd w v c.vals.length (c.vals.flatMap cells3)) (hk : Rd w k c.kids.length (nums (ns c.kids)))
    (nv : c.vals.length ≤ 4194304) (nk : c.kids.length ≤ 4194304) (hg : (ns c.kids).all (goodB M) = true) :
    Calls Tryz.prog 191 #[ap b, .int .i64 i, .int .u32 c0.owner, cagg c.owner c.a c.b v k] w fun e w' => e = .returned (.int .i64 0) ∧ Ar w' b most (upd M i (some ({ c with owner := c0.owner }, 1))) (Fn F w w') ∧ Kp F w w' := by
  obtain ⟨A, cv, rfl, _⟩ := hv.form
  obtain ⟨A', ck, rfl, _⟩ := hk.form
  have HH := Lib.hid h
  have HV := Lib.hid hv
  have HK := Lib.hid hk
  obtain ⟨n, vc, vf, fr, H, hD⟩ := h.alloc (.cells #[.int .u32 c.owner, .int .u32 c.a, .int .u32 c.b, .slice A c.vals.length cv, .slice A' c.kids.length ck] 94)
  obtain ⟨h1, _, _, v', k', r6, _⟩ := hD.cel i c0 1 hi
  have hf := fptr_some M H h1 hi
  have x0 := r6.c0
  have x5 := r6.c5
  have HI := Lib.hid hi
  clear r6 hv hk h hi
  go_enter Tryz.func191, Tryz.ntmps191
  go_wp2_with (first | (go_at_call 72; refine (find _ _ hD).mono ?_; rintro e w' ⟨rfl, rfl⟩; rw [hf]) | (go_at_call 86; refine (allHeld _ (ns c.kids) _ hD (by rw [ns_length]; exact HK.out.alloc _) (by rw [ns_length]; exact nk)).mono ?_; rintro e w0 ⟨rfl, rfl⟩; rw [hg]))
  refine (apart c.owner c.a c.b _ _ c.vals (ns c.kids) _ (HV.out.alloc _) (by rw [ns_length]; exact HK.out.alloc _) nv (by rw [ns_length]; exact nk)).mono ?_
  rintro e w2 ⟨v2, k2, rfl, o1, o2, hb2⟩
  rw [ns_length] at o2
  obtain ⟨X1, m1, rfl, _⟩ := (Rd.of_own o1).form
  obtain ⟨X2, m2, rfl, _⟩ := (Rd.of_own o2).form
  have hb1 : Below w.heap.size w w2 := ((Below.refl _ w).alloc (Nat.le_refl _) _).trans (hb2.mono (by simp))
  have hD2 := hD.kp (Kp.of_below hb2 (fun _ => False)) (fun _ _ => id)
  have hsz : (w.alloc (.cells #[.int .u32 c.owner, .int .u32 c.a, .int .u32 c.b, .slice A c.vals.length cv, .slice A' c.kids.length ck] 94)).heap.size = w.heap.size + 1 := by simp
  have q5 := (C5.new w 94 (.int .u32 c.owner) (.int .u32 c.a) (.int .u32 c.b) (.slice A c.vals.length cv) (.slice A' c.kids.length ck)).below hb2
  have hvf : ∀ g, vf.ownBlock = some g → g < w.heap.size + 1 := fun g hg => by have := (hD.fs.lt g hg).2; rw [hsz] at this; exact this
  obtain ⟨_, _, _, v', k', r6, _, _, hFi, _⟩ := hD2.cel i c0 1 HI.out
  have hHi : H i < w.heap.size := HH.out.lt hFi
  rw [hsz] at o1 o2
  clear x0 x5 hD hb2 hsz
  obtain ⟨x0, x1, x2, x3, x4, x5, f0, f1, f2, f3, f4, f5⟩ := r6.all
  obtain ⟨y0, y1, y2, y3, y4, _⟩ := q5.all
  have R6 := Lib.hid r6
  have O1 := Lib.hid o1
  have O2 := Lib.hid o2
  have B1 := Lib.hid hb1
  have D2 := Lib.hid hD2
  have HVF := Lib.hid hvf
  have HFI := Lib.hid hFi
  clear r6 o1 o2 hb1 hD2 hvf hFi q5
  go_wp2_with fail
  go_ret
  have r := ((((((R6.out.set0 (.int .u32 c.owner)).set1 (.int .u32 c.a)).set2 (.int .u32 c.b)).set3 (.slice X1 c.vals.length m1)).set4 (.slice X2 c.kids.length m2)).set0 (.int .u32 c0.owner))
  have hk6 : Kp (fun g => g = H i) w2 ((((((w2.setCell ⟨H i, 0, none⟩ (.int .u32 c.owner)).setCell ⟨H i, 1, none⟩ (.int .u32 c.a)).setCell ⟨H i, 2, none⟩ (.int .u32 c.b)).setCell ⟨H i, 3, none⟩ (.slice X1 c.vals.length m1)).setCell ⟨H i, 4, none⟩ (.slice X2 c.kids.length m2)).setCell ⟨H i, 0, none⟩ (.int .u32 c0.owner)) :=
    ((((((Kp.refl (fun g => g = H i) w2).setCell (.inl rfl) _).setCell (.inl rfl) _).setCell (.inl rfl) _).setCell (.inl rfl) _).setCell (.inl rfl) _).setCell (.inl rfl) _
  have hsz2 : ((((((w2.setCell ⟨H i, 0, none⟩ (.int .u32 c.owner)).setCell ⟨H i, 1, none⟩ (.int .u32 c.a)).setCell ⟨H i, 2, none⟩ (.int .u32 c.b)).setCell ⟨H i, 3, none⟩ (.slice X1 c.vals.length m1)).setCell ⟨H i, 4, none⟩ (.slice X2 c.kids.length m2)).setCell ⟨H i, 0, none⟩ (.int .u32 c0.owner)).heap.size = w2.heap.size := by simp
  refine ⟨rfl, ⟨n, vc, vf, fr, H, D2.out.put (y := ({ c with owner := c0.owner }, 1)) HI.out hk6 (fun _ => .inl) (Fn.lt (fun g hg => HH.out.lt hg) ?_) ?_ (Nat.le_refl _)⟩, ?_⟩
  · rw [hsz2]; exact B1.out.size
  · have new : ∀ g, w.heap.size + 1 ≤ g → g < w2.heap.size → Fn F w ((((((w2.setCell ⟨H i, 0, none⟩ (.int .u32 c.owner)).setCell ⟨H i, 1, none⟩ (.int .u32 c.a)).setCell ⟨H i, 2, none⟩ (.int .u32 c.b)).setCell ⟨H i, 3, none⟩ (.slice X1 c.vals.length m1)).setCell ⟨H i, 4, none⟩ (.slice X2 c.kids.length m2)).setCell ⟨H i, 0, none⟩ (.int .u32 c0.owner)) g :=
      fun g h1 h2 => .inr ⟨by omega, by rw [hsz2]; exact h2⟩
    refine ⟨_, _, r, own_less (hk6.own O1.out ?_) (Nat.zero_le _), own_less (hk6.own O2.out ?_) (Nat.zero_le _), .inl HFI.out, fun g hg => new g (O1.out.lt g hg).1 (O1.out.lt g hg).2, fun g hg => ⟨new g (O2.out.lt g hg).1 (O2.out.lt g hg).2, fun e => ?_⟩, nv, nk⟩
    · intro g hg e; have := (O1.out.lt g hg).1; omega
    · intro g hg e; have := (O2.out.lt g hg).1; omega
    · have := HVF.out g e; have := (O2.out.lt g hg).1; omega
  · exact (Kp.of_below B1.out F).trans hk6 (fun g e => .inl (e ▸ HFI.out))

end Go.Proofs.YtkkfhbcnfknmaaaGreat

namespace Go.Proofs.YtkkfhbcnfknmaaaGreat
set_option maxRecDepth 100000
open Go.RowKit

structure Stp (w w' : World) (b most : Nat) (M' : Cells) (F : Nat → Prop) : Prop where
  ar : Ar w' b most M' (Fn F w w')
  kp : Kp F w w'
section
variable {w w' w'' : World} {b most : Nat} {M M' M'' : Cells} {F : Nat → Prop}
theorem Stp.mk' (h : Ar w' b most M' (Fn F w w') ∧ Kp F w w') : Stp w w' b most M' F := ⟨h.1, h.2⟩
theorem Stp.below (h : Ar w b most M F) (hb : Below w.heap.size w w') : Stp w w' b most M F :=
  ⟨(h.below hb).mono (fun _ => .inl) (Fn.lt (fun _ hk => h.lt hk) hb.size), Kp.of_below hb F⟩
theorem Stp.refl (h : Ar w b most M F) : Stp w w b most M F := Stp.below h (Below.refl _ _)
theorem Stp.trans (h : Stp w w' b most M' F) (k : Stp w' w'' b most M'' (Fn F w w')) : Stp w w'' b most M'' F where
  ar := k.ar.mono (fun g hg => by
    rcases hg with (hg | hg) | hg
    · exact .inl hg
    · exact .inr ⟨hg.1, Nat.lt_of_lt_of_le hg.2 k.kp.size⟩
    · exact .inr ⟨Nat.le_trans h.kp.size hg.1, hg.2⟩) (fun g hg => by
    rcases hg with hg | hg
    · exact Nat.lt_of_lt_of_le (h.ar.lt (.inl hg)) k.kp.size
    · exact hg.2)
  kp := h.kp.trans k.kp (fun g hg => Fn.old hg)
theorem Stp.after (h : Stp w w' b most M' F) (hb : Below w'.heap.size w' w'') : Stp w w'' b most M' F := h.trans (Stp.below h.ar hb)
end

theorem rfi_nat {M : Cells} (h : M 0 = none) (i : Nat) : rfi M (i : Int) = rf (M i) := by
  unfold rfi
  by_cases e : i = 0
  · subst e; rw [if_neg (by omega), h]; rfl
  · rw [if_pos (by omega), Int.toNat_natCast]
theorem Ar.zero {w : World} {b most : Nat} {M : Cells} {F : Nat → Prop} (h : Ar w b most M F) : M 0 = none := by
  obtain ⟨n, vc, vf, fr, H, h⟩ := h
  exact h.zero

def aloneB (M : Cells) (i : Nat) (ow : Int) : Bool := decide (ow ≠ 0) && match M i with
  | some (c, r) => decide (r = 1) && decide (c.owner = ow)
  | none => false
section
variable {b most : Nat} {M : Cells} {F : Nat → Prop}
set_option maxRecDepth 100000 in
set_option maxHeartbeats 800000 in
theorem valone (i : Nat) (ow : Int) (w : World) (h : Ar w b most M F) : Calls Tryz.prog 189 #[ap b, .int .i64 i, .int .u32 ow] w fun e w' => e = .returned (.bool (aloneB M i ow)) ∧ Below w.heap.size w w' := by
  have hz := h.zero
  have hri := rfi_nat hz i
  by_cases h0 : ow = 0
  · subst h0
    have hB := Lib.hid (show aloneB M i 0 = false from rfl)
    clear h hz hri
    go_enter Tryz.func189, Tryz.ntmps189
    go_wp2_with fail
    go_ret
    exact ⟨ret_bool hB.out.symm, Below.refl _ _⟩
  · have h0' : (ow == 0) = false := by simpa using h0
    cases hM : M i with
    | none =>
      have hB := Lib.hid (show aloneB M i ow = false by unfold aloneB; rw [hM]; simp)
      rw [hM] at hri
      have hri' : rfi M (i : Int) = 0 := hri
      have HA := Lib.hid h
      clear h hz hri hM
      go_enter Tryz.func189, Tryz.ntmps189
      go_wp2_with (go_at_call 145; refine (arefs (i : Int) b most M F _ HA.out).mono ?_; rintro e w' ⟨rfl, rfl⟩; rw [hri'])
      go_ret
      exact ⟨ret_bool hB.out.symm, Below.refl _ _⟩
    | some x =>
      obtain ⟨c, r⟩ := x
      rw [hM] at hri
      have hri' : rfi M (i : Int) = r := hri
      have HA := Lib.hid h
      have HM := Lib.hid hM
      clear h hz hri
      by_cases h1 : r = 1
      · subst h1
        by_cases h2 : c.owner = ow
        · have hB := Lib.hid (show aloneB M i ow = true by unfold aloneB; rw [hM]; simp [h0, h2])
          have h2' : (c.owner == ow) = true := by simpa using h2
          clear hM
          go_enter Tryz.func189, Tryz.ntmps189
          go_wp2_with (first | (go_at_call 145; refine (arefs (i : Int) b most M F _ HA.out).mono ?_; rintro e w' ⟨rfl, rfl⟩; rw [hri']) | (go_at_call 118; refine (get i c 1 b most M F _ HA.out HM.out).mono ?_; rintro e w1 ⟨v, k, rfl, o1, o2, hb⟩; obtain ⟨A1, m1, rfl, _⟩ := (Rd.of_own o1).form; obtain ⟨A2, m2, rfl, _⟩ := (Rd.of_own o2).form; have HB := Lib.hid hb; clear o1 o2 hb))
          go_ret
          exact ⟨ret_bool hB.out.symm, HB.out.alloc (HB.out.size) _⟩
        · have hB := Lib.hid (show aloneB M i ow = false by unfold aloneB; rw [hM]; simp [h2])
          have h2' : (c.owner == ow) = false := by simpa using h2
          clear hM
          go_enter Tryz.func189, Tryz.ntmps189
          go_wp2_with (first | (go_at_call 145; refine (arefs (i : Int) b most M F _ HA.out).mono ?_; rintro e w' ⟨rfl, rfl⟩; rw [hri']) | (go_at_call 118; refine (get i c 1 b most M F _ HA.out HM.out).mono ?_; rintro e w1 ⟨v, k, rfl, o1, o2, hb⟩; obtain ⟨A1, m1, rfl, _⟩ := (Rd.of_own o1).form; obtain ⟨A2, m2, rfl, _⟩ := (Rd.of_own o2).form; have HB := Lib.hid hb; clear o1 o2 hb))
          go_ret
          exact ⟨ret_bool hB.out.symm, HB.out.alloc (HB.out.size) _⟩
      · have hB := Lib.hid (show aloneB M i ow = false by unfold aloneB; rw [hM]; simp [h1])
        have h1' : ¬ (r : Int) = 1 := by omega
        clear hM
        go_enter Tryz.func189, Tryz.ntmps189
        go_wp2_with (go_at_call 145; refine (arefs (i : Int) b most M F _ HA.out).mono ?_; rintro e w' ⟨rfl, rfl⟩; rw [hri'])
        go_ret
        exact ⟨ret_bool hB.out.symm, Below.refl _ _⟩

def freshN (M : Cells) (ow : Int) : List Nat → Nat
  | [] => 0
  | i :: l => if aloneB M i ow then freshN M ow l else l.length + 1
theorem freshN_le (M : Cells) (ow : Int) : ∀ l, freshN M ow l ≤ l.length
  | [] => Nat.le_refl _
  | i :: l => by
    unfold freshN
    split
    · exact Nat.le_succ_of_le (freshN_le M ow l)
    · exact Nat.le_refl _
set_option maxRecDepth 100000 in
set_option maxHeartbeats 800000 in
theorem vfresh (ow : Int) (ks : List Nat) (v : Value) (w : World) (h : Ar w b most M F) (hv : Rd w v ks.length (nums (ns ks))) (hl : ks.length ≤ 4194304) :
    Calls Tryz.prog 163 #[ap b, .int .u32 ow, v] w fun e w' => e = .returned (.int .i64 (freshN M ow ks)) ∧ Below w.heap.size w w' := by
  obtain ⟨A, c, rfl, hc⟩ := hv.form
  have HA := Lib.hid h
  have HV := Lib.hid hv
  clear h hv
  go_enter Tryz.func163, Tryz.ntmps163
  go_wp2_with fail
  go_loopg [11] ks.length (fun c' i wr => ∃ j : Nat, j + c' = ks.length ∧ i = .int .i64 j ∧ freshN M ow ks = freshN M ow (ks.drop j) ∧ Below w.heap.size w wr)
  case atStart => exact ⟨0, by omega, rfl, rfl, Below.refl _ _⟩
  case round =>
    obtain ⟨j, hj, rfl, hf, hb⟩ := hrel
    by_cases h1 : j < ks.length
    · obtain ⟨x, hx⟩ : ∃ x, ks[j]? = some x := ⟨_, List.getElem?_eq_getElem h1⟩
      obtain ⟨g, o, c', e, _, hcell⟩ := (HV.out.below hb).at (j := j) (u := .int .i64 (x : Int)) (by rw [nums_at]; unfold ns; rw [List.getElem?_map, hx]; rfl)
      injection e with e1 e2 e3
      subst e1 e3
      have hd : ks.drop j = x :: ks.drop (j + 1) := by
        rw [List.drop_eq_getElem_cons h1]
        congr 1
        have := List.getElem?_eq_getElem h1
        rw [hx] at this
        exact (Option.some.inj this).symm
      have HD := Lib.hid hd
      have HF := Lib.hid hf
      have HB := Lib.hid hb
      clear hd hf hb hx
      cases hal : aloneB M x ow
      · have hres := Lib.hid (show (freshN M ow ks : Int) = (ks.length : Int) - (j : Int) by
          rw [HF.out, HD.out]
          show ((if aloneB M x ow = true then freshN M ow (ks.drop (j + 1)) else (ks.drop (j + 1)).length + 1 : Nat) : Int) = _
          rw [if_neg (by rw [hal]; simp), List.length_drop]
          omega)
        go_wp2_with (go_at_call 189; refine (valone x ow _ (HA.out.below HB.out)).mono ?_; rintro e w1 ⟨rfl, hb1⟩; rw [hal]; have HB1 := Lib.hid (HB.out.trans (hb1.mono HB.out.size)); clear hb1)
        go_ret
        exact ⟨ret_int (by rw [hres.out]), HB1.out⟩
      · have hres := Lib.hid (show freshN M ow ks = freshN M ow (ks.drop (j + 1)) by
          rw [HF.out, HD.out]
          show (if aloneB M x ow = true then freshN M ow (ks.drop (j + 1)) else (ks.drop (j + 1)).length + 1 : Nat) = _
          rw [if_pos hal])
        go_wp2_with (go_at_call 189; refine (valone x ow _ (HA.out.below HB.out)).mono ?_; rintro e w1 ⟨rfl, hb1⟩; rw [hal]; have HB1 := Lib.hid (HB.out.trans (hb1.mono HB.out.size)); clear hb1)
        go_roundg (ks.length - (j + 1))
        case measure => omega
        case rel => exact ⟨j + 1, by omega, by go_num, hres.out, HB1.out⟩
    · obtain rfl : j = ks.length := by omega
      have hres := Lib.hid (show (freshN M ow ks : Int) = 0 by rw [hf, List.drop_length]; rfl)
      have HB := Lib.hid hb
      clear hf hb
      go_wp2_with fail
      go_ret
      exact ⟨ret_int hres.out.symm, HB.out⟩

def keepC (M : Cells) (i : Nat) : Cells := match M i with
  | some (c, r) => upd M i (some (c, r + 1))
  | none => M
theorem vkeep1 (i : Nat) (w : World) (h : Ar w b most M F) (hr : rf (M i) ≤ 4611686018427387904) : Calls Tryz.prog 76 #[ap b, .int .i64 i] w fun e w' => (∃ z, e = .returned (.int .i64 z)) ∧ Stp w w' b most (keepC M i) F := by
  cases hM : M i with
  | none =>
    refine (akeep_no (i : Int) b most M F w h (fun _ => by simpa using hM)).mono ?_
    rintro e w' ⟨rfl, rfl⟩
    exact ⟨⟨4, rfl⟩, by unfold keepC; rw [hM]; exact Stp.refl h⟩
  | some x =>
    obtain ⟨c, r⟩ := x
    rw [hM] at hr
    refine (akeep i c r b most M F w h hM hr).mono ?_
    rintro e w' ⟨rfl, ha, hk⟩
    exact ⟨⟨0, rfl⟩, by unfold keepC; rw [hM]; exact ⟨ha, hk⟩⟩
theorem vdrop1 (i : Nat) (w : World) (h : Ar w b most M F) (hr : ∀ j, rf (M j) ≤ 4611686018427387904) : Calls Tryz.prog 30 #[ap b, .int .i64 i] w fun e w' => (∃ z, e = .returned (.int .i64 z)) ∧ ∃ M', Drops M [i] M' ∧ Stp w w' b most M' F := by
  by_cases hM : M i = none
  · refine (adrop_no (i : Int) b most M F w h (fun _ => by simpa using hM)).mono ?_
    rintro e w' ⟨rfl, rfl⟩
    refine ⟨⟨4, rfl⟩, M, ?_, Stp.refl h⟩
    have : release M i = (M, []) := by unfold release; rw [hM]
    exact Drops.step (t := []) (by rw [this]; exact Drops.done M)
  · refine (adrop i b most M F w h hM hr).mono ?_
    rintro e w' ⟨rfl, M', hd, ha, hk⟩
    exact ⟨⟨0, rfl⟩, M', hd, ha, hk⟩
end

end Go.Proofs.YtkkfhbcnfknmaaaGreat
