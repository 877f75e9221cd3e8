/- Package arena: a number that no held cell has (unused). -/
import Derived.Test.YtgkhbnkbhcginaaLay04
namespace Go.Proofs.Ytgkhbnkbhcginaa
open Go.RowKit

section
variable {d : Nat} {w w' : World} {b most : Nat} {M : Cells} {F G : Nat → Prop} {n : Nat} {vc vf : Value} {fr : List Nat} {H : Nat → Nat}

/-- A cell, where only blocks of other types have changed. -/
theorem Cel.keepT {h : Nat} {c : Hc} {r : Nat} (hc : Cel w F vf h c r) (hk : Kp G w w') (hG : ∀ k, G k → ∃ cur t z, w.heap[k]? = some (.cells cur t z) ∧ t ≠ 100 ∧ t ≠ 38 ∧ t ≠ 3) : Cel w' F vf h c r := by
  obtain ⟨v, k, h1, h2, h3, h4, h5, h6, h7, h8⟩ := hc
  refine ⟨v, k, h1.kp hk fun g => ?_, hk.own h2 fun j hj g => ?_, hk.own h3 fun j hj g => ?_, h4, h5, h6, h7, h8⟩
  · obtain ⟨cur, t, z, hg, t1, _⟩ := hG _ g
    exact ne_types h1 hg (Ne.symm t1) rfl
  · obtain ⟨cur, t, z, hg, _, t2, _⟩ := hG _ g
    exact own_ne h2 hg (Ne.symm t2) j hj rfl
  · obtain ⟨cur, t, z, hg, _, _, t3⟩ := hG _ g
    exact own_ne h3 hg (Ne.symm t3) j hj rfl
/-- .. and the row of the free numbers is another. -/
theorem Cel.vf' {h : Nat} {c : Hc} {r : Nat} {vf' : Value} (hc : Cel w F vf h c r) (hv : ∀ g, vf'.ownBlock = some g → vf.ownBlock = some g ∨ ¬ F g) : Cel w F vf' h c r := by
  obtain ⟨v, k, h1, h2, h3, h4, h5, h6, h7, h8⟩ := hc
  refine ⟨v, k, h1, h2, h3, h4, h5, fun g hg => ⟨(h6 g hg).1, fun e => ?_⟩, h7, h8⟩
  rcases hv g e with e' | e'
  · exact (h6 g hg).2 e'
  · exact e' (h6 g hg).1

theorem places_succ (h : M (n + 1) = none) : places M H (n + 1) = places M H n ++ [.pointer none] := by
  unfold places
  rw [List.range_succ, List.map_append, List.map_singleton, h]
  rfl

/-- One place more, with nothing in it. -/
theorem ArD.grow (h : ArD 0 w b most M F n vc vf [] H) (hlt : live (most + 1) M < most) {v' : Value} {w1 : World} {o : Obj} (hown : w1.ownsRow 0 98 1 v' (n + 1) (places M H n ++ [.pointer none])) (hg : (w.alloc o).grownBy w1 vc.ownBlock)
    (hat : v'.ownBlock = vc.ownBlock ∨ v'.ownBlock = some (w.heap.size + 1)) :
    ArD 1 (w1.setCell ⟨b, 2, none⟩ v') b most M (Fn F w (w1.setCell ⟨b, 2, none⟩ v')) (n + 1) v' vf [] H ∧ Kp F w (w1.setCell ⟨b, 2, none⟩ v') := by
  have hl := h.len
  simp only [List.length_nil, Nat.add_zero] at hl
  have k1 : Kp (fun k => vc.ownBlock = some k) w w1 := ((Kp.refl (fun k => vc.ownBlock = some k) w).alloc o).trans (Kp.of_grown (F := fun k => vc.ownBlock = some k) hg (fun k e => .inl e)) (fun k e => .inl e)
  have k2 : Kp (fun k => vc.ownBlock = some k ∨ k = b) w (w1.setCell ⟨b, 2, none⟩ v') := (k1.mono (G := fun k => vc.ownBlock = some k ∨ k = b) (fun _ e _ => .inl e)).setCell (.inl (.inr rfl)) _
  have hG : ∀ k, (vc.ownBlock = some k ∨ k = b) → ∃ cur t z, w.heap[k]? = some (.cells cur t z) ∧ t ≠ 100 ∧ t ≠ 38 ∧ t ≠ 3 := by
    rintro k (e | rfl)
    · obtain ⟨cur, hc⟩ := own_type h.cs k e
      exact ⟨cur, _, _, hc, by decide, by decide, by decide⟩
    · exact ⟨_, _, _, h.row, by decide, by decide, by decide⟩
  have hcb : ∀ k, vc.ownBlock = some k → k ≠ b := own_ne h.cs h.row (by decide)
  have r1 : C4 w1 b 87 (.int .i64 most) (.int .i64 (live (most + 1) M)) vc vf := h.row.kp k1 (fun e => hcb b e rfl)
  have hF : Kp F w (w1.setCell ⟨b, 2, none⟩ v') := k2.mono (fun k e _ => e.elim (h.fc k) (fun e => e ▸ h.fb))
  have hsz : w.heap.size + 1 ≤ w1.heap.size := by have := hg.size; simpa using this
  refine ⟨⟨h.m1, h.m2, r1.set2 v', ?_, ?_, ?_, h.inj, h.nd, by simp, ?_, by omega, .inl h.fb, ?_, fun k hk => .inl (h.ff k hk), Fn.lt h.lt hF.size⟩, hF⟩
  · rw [places_succ (h.top (Nat.lt_succ_self n))]
    refine (Kp.one w1 b 2 v').own hown (own_ne hown r1 (by decide))
  · refine k2.own h.fs fun k hk e => ?_
    rcases e with e | rfl
    · obtain ⟨cur, hc⟩ := own_type h.cs k e
      exact own_ne h.fs hc (by decide) k hk rfl
    · exact own_ne h.fs h.row (by decide) k hk rfl
  · intro j c r hj
    obtain ⟨j1, j2, j3, j4⟩ := h.cel j c r hj
    exact ⟨j1, by omega, j3, (j4.keepT k2 hG).mono fun _ => .inl⟩
  · simp only [List.length_nil]; omega
  · intro k hk
    have hlt : k < (w1.setCell ⟨b, 2, none⟩ v').heap.size := by have := (hown.lt k hk).2; simpa using this
    rcases hat with e | e
    · exact .inl (h.fc k (e ▸ hk))
    · rw [e] at hk; injection hk with hk; exact .inr ⟨by omega, hlt⟩

theorem take_ns (l : List Nat) (i : Nat) : (nums (ns (l ++ [i]))).take (l.length * 1) = nums (ns l) := by
  rw [Nat.mul_one]
  unfold nums ns
  rw [List.map_append, List.map_append, List.take_left' (by simp)]

/-- One free number less. -/
theorem ArD.shrink {i g c : Nat} (h : ArD 0 w b most M F n vc (.slice (some ⟨g, 0, none⟩) (fr ++ [i]).length c) (fr ++ [i]) H) :
    ArD 1 (w.setCell ⟨b, 3, none⟩ (.slice (some ⟨g, 0, none⟩) fr.length c)) b most M (Fn F w (w.setCell ⟨b, 3, none⟩ (.slice (some ⟨g, 0, none⟩) fr.length c))) n vc (.slice (some ⟨g, 0, none⟩) fr.length c) fr H ∧
      Kp F w (w.setCell ⟨b, 3, none⟩ (.slice (some ⟨g, 0, none⟩) fr.length c)) := by
  have hk := Kp.one w b 3 (.slice (some ⟨g, 0, none⟩) fr.length c)
  have hF : Kp F w (w.setCell ⟨b, 3, none⟩ (.slice (some ⟨g, 0, none⟩) fr.length c)) := hk.mono (fun k e _ => e ▸ h.fb)
  have hG : ∀ k, k = b → ∃ cur t z, w.heap[k]? = some (.cells cur t z) ∧ t ≠ 100 ∧ t ≠ 38 ∧ t ≠ 3 := by
    rintro k rfl
    exact ⟨_, _, _, h.row, by decide, by decide, by decide⟩
  have hfs := own_take h.fs (m := fr.length) (by simp)
  rw [take_ns] at hfs
  have hl := h.len
  simp only [List.length_append, List.length_singleton, Nat.add_zero] at hl
  refine ⟨⟨h.m1, h.m2, h.row.set3 _, hk.own h.cs (own_ne h.cs h.row (by decide)), hk.own hfs (own_ne hfs h.row (by decide)), ?_, h.inj, (List.nodup_append.1 h.nd).1, fun j hj => h.fi j (List.mem_append_left _ hj), by omega, h.le, .inl h.fb, fun k hk' => .inl (h.fc k hk'), fun k hk' => .inl (h.ff k hk'), Fn.lt h.lt hk.size⟩, hF⟩
  intro j c' r hj
  obtain ⟨j1, j2, j3, j4⟩ := h.cel j c' r hj
  exact ⟨j1, j2, j3, ((j4.keepT hk hG).vf' (fun _ e => .inl e)).mono fun _ => .inl⟩
end

def Unused (b most : Nat) (M : Cells) (F : Nat → Prop) (H : Nat → Nat) (w : World) (e : Ending) (w' : World) : Prop :=
  ∃ (i n : Nat) (vc vf : Value) (fr : List Nat), e = .returned (.int .i64 i) ∧ ArD 1 w' b most M (Fn F w w') n vc vf fr H ∧ 1 ≤ i ∧ i ≤ n ∧ M i = none ∧ i ∉ fr ∧ Kp F w w'

set_option maxRecDepth 100000 in
set_option maxHeartbeats 1600000 in
theorem unused {b most : Nat} {M : Cells} {F : Nat → Prop} {n : Nat} {vc vf : Value} {fr : List Nat} {H : Nat → Nat} (w : World) (h : ArD 0 w b most M F n vc vf fr H) (hlt : live (most + 1) M < most) :
    Calls Try.prog 58 #[ap b] w (Unused b most M F H w) := by
  have hn : n ≤ 1048576 := by have := h.le; have := h.m2; omega
  have hf : fr.length ≤ 1048576 := by have := h.len; omega
  obtain ⟨_, _, c2, c3, _, _, f2, f3⟩ := h.row.all
  by_cases hnil : fr = []
  · subst hnil
    obtain ⟨i0, hi, hz0, hz1, hz2⟩ := info_parts hinfo
    obtain ⟨A, c, rfl, _⟩ := (Rd.of_own h.fs).form
    have HA := Lib.hid h
    have hnl := Lib.hid (h.top (Nat.lt_succ_self n))
    have hle := Lib.hid h.len
    have hlt' := h.row.lt
    have hcb : ∀ k, vc.ownBlock = some k → k ≠ b := own_ne h.cs h.row (by decide)
    have HB := Lib.hid hcb
    obtain ⟨Ac, cc, rfl, _⟩ := (Rd.of_own h.cs).form
    clear h hcb
    go_enter Try.func58, Try.ntmps58
    go_wp2_with (at_builtin; refine wpList_append_rd rfl _ _ 85 rfl 0 98 i0 _ 1 8 Try.underlying85 hi hz0 hz1 hz2 rfl (by decide) _ n (places M H n) rfl (HA.out.cs.alloc _) _ 1 [.pointer none] rfl ?k0 rfl ?k1 ?k2 ?k3 (Nat.zero_le _) ?_)
    case k0 => exact Rd.one _ _ _
    case k1 => intro u hu; simp at hu; subst hu; rfl
    case k2 => unfold maxLen; omega
    case k3 => omega
    intro v1 w1 hown hg hat
    obtain ⟨A1, c1, rfl, _⟩ := (Rd.of_own hown).form
    obtain ⟨hD, hK⟩ := HA.out.grow hlt hown hg (by simpa using hat)
    have r1 := (HA.out.row.alloc _).grown hg (fun e => HB.out _ e.symm rfl)
    have d2 := r1.c2
    have e2 := r1.fz 2
    have HD := Lib.hid hD
    have HK := Lib.hid hK
    clear r1 hD hK hown hg hat c2 c3 f2 f3
    go_wp2_with fail
    go_ret
    exact ⟨n + 1, n + 1, _, _, [], rfl, HD.out, by omega, by omega, hnl.out, by simp, HK.out⟩
  · obtain ⟨fr', i, rfl⟩ : ∃ l i, fr = l ++ [i] := ⟨fr.dropLast, fr.getLast hnil, (List.dropLast_concat_getLast hnil).symm⟩
    obtain ⟨g, c, e, _, hx, _⟩ := own_at h.fs (j := fr'.length) (u := .int .i64 i) (by rw [nums_at]; simp [ns])
    subst e
    obtain ⟨hD, hK⟩ := h.shrink
    have HD := Lib.hid hD
    have HK := Lib.hid hK
    have HI := Lib.hid (h.fi i (by simp))
    have HN := Lib.hid (show i ∉ fr' from fun hm => (List.nodup_append.1 h.nd).2.2 i hm i (by simp) rfl)
    have hlen : (fr' ++ [i]).length = fr'.length + 1 := by simp
    rw [hlen] at c3 hf
    clear h hD hK hnil
    go_enter Try.func58, Try.ntmps58
    go_wp2_with fail
    go_ret
    exact ⟨i, n, _, _, fr', rfl, HD.out, HI.out.1, HI.out.2.1, HI.out.2.2, HN.out, HK.out⟩

end Go.Proofs.Ytgkhbnkbhcginaa
