/- Package pvec: Set without an owner of a vector that one owner alone has: what it makes, or that there is no room. -/
import Derived.Test.YtgkhbnkbhcginaaSetK06
import Derived.Test.YtgkhbnkbhcginaaSetNo06
import Derived.Test.YtgkhbnkbhcginaaShareKid06
namespace Go.Proofs.Ytgkhbnkbhcginaa
open Go.RowKit

theorem keepC_ge {M : Cells} {i j : Nat} : rf (M j) ≤ rf (keepC M i j) := by
  unfold keepC
  cases hM : M i with
  | none => exact Nat.le_refl _
  | some x =>
    by_cases e : j = i
    · subst e; show rf (M j) ≤ rf (upd M j (some (x.1, x.2 + 1)) j); rw [upd_same, hM]; exact Nat.le_succ _
    · show rf (M j) ≤ rf (upd M i (some (x.1, x.2 + 1)) j)
      rw [upd_other _ _ e]; exact Nat.le_refl _
theorem begun_ge {M : Cells} {v : Vc} {ow : Int} {j : Nat} : rf (M j) ≤ rf (begun M v ow j) := by
  unfold begun
  split
  · exact Nat.le_trans keepC_ge keepC_ge
  · exact Nat.le_refl _
theorem good_all {M : Cells} {l : List Nat} (h : ∀ q ∈ l, M q ≠ none ∧ q ≠ 0) : (ns l).all (goodB M) = true := by
  rw [List.all_eq_true]
  intro y hy
  unfold ns at hy
  obtain ⟨q, hq, rfl⟩ := List.mem_map.1 hy
  obtain ⟨h1, h2⟩ := h q hq
  unfold goodB
  have e : M ((q : Int)).toNat = M q := by rw [Int.toNat_natCast]
  rw [e]
  cases e1 : M q with
  | none => exact absurd e1 h1
  | some z => simp; omega
/-- What Set has made: x beside v. -/
structure SetRes (M : Cells) (v : Vc) (l : Vs) (i : Nat) (y : Int × Int × ByteArray) (x : Vc) (M' : Cells) : Prop where
  new : VecIs M' x (l.set i y)
  kept : ∀ j, M j ≠ none → ∃ c r, M j = some (c, r) ∧ ∃ r', M' j = some (c, r')
  back : ∀ A B, Drops M' [x.root] A → Drops A [x.tail] B → B = M
  rf : ∀ j, rf (M' j) ≤ rf (M j) + 40
theorem cont_kept {M M' : Cells} (h : ∀ j, M j ≠ none → ∃ c r, M j = some (c, r) ∧ ∃ r', M' j = some (c, r')) {x : Nat} {c : Hc} {r : Nat} (hx : M x = some (c, r)) : ∃ r', M' x = some (c, r') := by
  obtain ⟨c1, r1, e1, r', e2⟩ := h x (by rw [hx]; simp)
  rw [hx] at e1
  simp only [Option.some.injEq, Prod.mk.injEq] at e1
  obtain ⟨rfl, rfl⟩ := e1
  exact ⟨r', e2⟩
theorem Leaf.kept {M M' : Cells} {x : Nat} {vs : Vs} (hl : Leaf M x vs) (h : ∀ j, M j ≠ none → ∃ c r, M j = some (c, r) ∧ ∃ r', M' j = some (c, r')) : Leaf M' x vs := by
  obtain ⟨c, r, e, h1, h2⟩ := hl
  obtain ⟨r', e'⟩ := cont_kept h e
  exact ⟨c, r', e', h1, h2⟩
theorem VecIs.kept {M M' : Cells} {v : Vc} {l : Vs} (hv : VecIs M v l) (h : ∀ j, M j ≠ none → ∃ c r, M j = some (c, r) ∧ ∃ r', M' j = some (c, r')) : VecIs M' v l :=
  ⟨hv.n, hv.le, hv.nil, fun e => (hv.tl e).kept h, hv.r0, fun e => by
    obtain ⟨c, r, e1, e2, e3, e4⟩ := hv.rt e
    obtain ⟨r', e'⟩ := cont_kept h e1
    exact ⟨c, r', e', e2, e3, fun k x hx => (e4 k x hx).kept h⟩⟩

section
variable {b most : Nat} {M : Cells} {F : Nat → Prop}
theorem set_in_tail (v : Vc) (l : Vs) (ks : List Nat) (ow : Int) (i : Nat) (x : Int × Int × ByteArray) (w : World) (h : Ar w b most M F) (hh : Has M ow v l ks) (hi : i < l.length) (hq : i / 32 = (l.length - 1) / 32) (hroom : live (most + 1) M + 1 ≤ most) (hr : ∀ j, rf (M j) ≤ 1000000) :
    Calls Try.prog 16 #[ap b, vagg v, .int .i64 i, xagg x, .int .u32 0] w fun e w' => ∃ y M', e = .returned (.tuple #[vagg y, .int .i64 0]) ∧ SetRes M v l i x y M' ∧ Stp w w' b most M' F := by
  have hz := h.zero
  have hlen := hh.le
  obtain ⟨ct, t1, _, t3, t4⟩ := hh.tl
  have hct : contC M v.tail = ct := by unfold contC; rw [t1]
  have hcl : ct.vals.length = min 32 (l.length - 32 * ((l.length - 1) / 32)) := by rw [t3, chunk_length]
  refine (vSetW_tail v l i x 0 (fun n M' => 1 ≤ n ∧ n ≤ most ∧ M n = none ∧ Drops (upd (begun M v 0) n (some ({ { ct with vals := ct.vals.set (i % 32) x } with owner := 0 }, 1))) [v.tail] M') w h hh.vec hi hq hroom (fun j => Nat.le_trans (hr j) (by decide)) ?_).mono ?_
  · intro W F1 z8 z7 hRn hc8 hc7 n8 n7
    refine (vrenewS 49 #[.pointer (some ⟨z8, 0, none⟩), .pointer (some ⟨z7, 0, none⟩)] (fun c' M2 => c' = { ct with vals := ct.vals.set (i % 32) x } ∧ M2 = begun M v 0) v.tail 0 ct W hRn.ar (fun args W => by kernel_rfl) (begun_cont.trans hct) (by unfold aloneB; simp) ?_ (fun j => ?_) (by rw [t4]; exact Nat.zero_le _) ?_).mono ?_
    · have e : keepAll (begun M v 0) ct.kids = begun M v 0 := by rw [t4]; rfl
      rw [e]
      exact chgS_put x i z8 z7 W hc8 hc7 n8 n7 ct (by omega) (by omega)
    · rw [t4]
      have h1 := begun_rf (M := M) (v := v) (ow := 0) (j := j)
      have h2 := hr j
      simp only [List.length_nil]
      omega
    · rintro c' M2 ⟨rfl, rfl⟩
      refine ⟨by rw [begun_live]; omega, fun j => ?_, ?_, ?_, ?_⟩
      · have h1 := begun_rf (M := M) (v := v) (ow := 0) (j := j)
        have h2 := hr j
        omega
      · show (ct.vals.set (i % 32) x).length ≤ _
        rw [List.length_set]; omega
      · show ct.kids.length ≤ _
        rw [t4]; exact Nat.zero_le _
      · show (ns ct.kids).all _ = true
        rw [t4]; rfl
    · rintro e W' ⟨n, c', M2, M', rfl, ⟨rfl, rfl⟩, n1, n2, n3, hd, hs⟩
      exact ⟨n, M', rfl, ⟨n1, n2, begun_none.1 n3, hd⟩, hs⟩
  · rintro e w' ⟨n, M', rfl, ⟨n1, n2, n3, hd⟩, hs⟩
    obtain ⟨a1, a2, a3⟩ := hh.set_tail hz hi hq n1 n3 hct hd
    refine ⟨⟨v.n, v.root, n⟩, M', rfl, ⟨a1, a2, a3, fun j => ?_⟩, hs⟩
    have h1 := drops_rf hd j
    by_cases e : j = n
    · subst e
      rw [upd_same] at h1
      have : Go.Proofs.Ytgkhbnkbhcginaa.rf (M' j) ≤ 1 := h1
      omega
    · rw [upd_other _ _ e] at h1
      have h2 := begun_rf (M := M) (v := v) (ow := 0) (j := j)
      omega

/-- One reference less of a cell that has others. -/
theorem drops_more {A B : Cells} {x r : Nat} {c : Hc} (hx : A x = some (c, r)) (hr : 1 < r) (h : Drops A [x] B) : B = upd A x (some (c, r - 1)) := drops_two hx hr h
theorem live_keeps (N : Nat) {A : Cells} {x : Nat} (hx : A x ≠ none) (z : Hc × Nat) : live N (upd A x (some z)) = live N A := by
  refine sumTo_congr N fun j _ => ?_
  by_cases e : j = x
  · subst e
    rw [upd_same]
    cases e1 : A j with
    | none => exact absurd e1 hx
    | some y => rfl
  · rw [upd_other _ _ e]

set_option maxHeartbeats 800000 in
theorem set_in_kid (v : Vc) (l : Vs) (ks : List Nat) (ow : Int) (i : Nat) (x : Int × Int × ByteArray) (w : World) (h : Ar w b most M F) (hh : Has M ow v l ks) (hi : i < l.length) (hq : ¬ i / 32 = (l.length - 1) / 32) (hroom : live (most + 1) M + 2 ≤ most) (hr : ∀ j, rf (M j) ≤ 1000000) :
    Calls Try.prog 16 #[ap b, vagg v, .int .i64 i, xagg x, .int .u32 0] w fun e w' => ∃ y M', e = .returned (.tuple #[vagg y, .int .i64 0]) ∧ SetRes M v l i x y M' ∧ Stp w w' b most M' F := by
  have hz := h.zero
  have hlen := hh.le
  have hil : i / 32 < ks.length := by rw [hh.len]; omega
  have hkl : ks.length ≤ 32 := by rw [hh.len]; omega
  have hks : ks ≠ [] := by rintro rfl; simp at hil
  obtain ⟨kid, hk⟩ : ∃ kid, ks[i / 32]? = some kid := ⟨_, List.getElem?_eq_getElem hil⟩
  obtain ⟨cr, r1, _, r3, r4⟩ := hh.rt hks
  obtain ⟨cl, k1, _, k3, k4⟩ := hh.lf _ _ hk
  have hkm : kid ∈ ks := List.mem_of_getElem? hk
  have hcr : contC M v.root = cr := by unfold contC; rw [r1]
  have hvl : cl.vals.length = min 32 (l.length - 32 * (i / 32)) := by rw [k3, chunk_length]
  have hck : cr.kids[i / 32]? = some kid := by rw [r4]; exact hk
  obtain ⟨M1, hM1⟩ : ∃ M1, M1 = keepAll (begun M v 0) ks := ⟨_, rfl⟩
  have hb0 : contC (begun M v 0) v.root = cr := begun_cont.trans hcr
  -- the kid, behind all that is kept
  have hkb : contC (begun M v 0) kid = cl := begun_cont.trans (by unfold contC; rw [k1])
  obtain ⟨rk, hrk, hrk1⟩ : ∃ r, begun M v 0 kid = some (cl, r) ∧ 1 ≤ r := by
    have hne : begun M v 0 kid ≠ none := fun e => by rw [begun_none.1 e] at k1; cases k1
    cases e : begun M v 0 kid with
    | none => exact absurd e hne
    | some y =>
      refine ⟨y.2, by rw [← hkb]; unfold contC; rw [e], ?_⟩
      have h1 : rf (M kid) ≤ rf (begun M v 0 kid) := begun_ge
      rw [k1, e] at h1
      exact h1
  have hM1k : M1 kid = some (cl, rk + 1) := by rw [hM1]; exact (keepAll_pt ks _ hh.nk).1 kid hkm cl rk hrk
  have hM1c : contC M1 kid = cl := by unfold contC; rw [hM1k]
  have hlv1 : live (most + 1) M1 = live (most + 1) M := by rw [hM1, keepAll_live, begun_live]
  have hrf1 : ∀ j, rf (M1 j) ≤ rf (M j) + 34 := fun j => by
    have h1 := keepAll_rf (j := j) (l := ks) (M := begun M v 0)
    have h2 := begun_rf (M := M) (v := v) (ow := 0) (j := j)
    rw [← hM1] at h1
    omega
  -- what the leaf's renewal leaves
  have hM2 : ∀ n2 M2, M1 n2 = none → Drops (upd M1 n2 (some ({ { cl with vals := cl.vals.set (i % 32) x } with owner := 0 }, 1))) [kid] M2 → M2 = upd (upd M1 n2 (some ({ { cl with vals := cl.vals.set (i % 32) x } with owner := 0 }, 1))) kid (some (cl, rk)) := fun n2 M2 hn2 hd => by
    have hne : kid ≠ n2 := fun e => by rw [e, hn2] at hM1k; cases hM1k
    have := drops_more (c := cl) (r := rk + 1) (by rw [upd_other _ _ hne]; exact hM1k) (by omega) hd
    simpa using this
  refine (vSetW_kid v l i kid x 0 (fun n M' => ∃ n2 M2, 1 ≤ n2 ∧ n2 ≤ most ∧ M1 n2 = none ∧ Drops (upd M1 n2 (some ({ { cl with vals := cl.vals.set (i % 32) x } with owner := 0 }, 1))) [kid] M2 ∧
    1 ≤ n ∧ n ≤ most ∧ M2 n = none ∧ Drops (upd M2 n (some ({ { cr with kids := cr.kids.set (i / 32) n2 } with owner := 0 }, 1))) [v.root] M') w h hh.vec hi hq (fun c r e => by rw [r1] at e; simp only [Option.some.injEq, Prod.mk.injEq] at e; rw [← e.1]; exact hck) hroom (fun j => Nat.le_trans (hr j) (by decide)) ?_).mono ?_
  · intro W F1 z5 z7 z8 z9 z15 hRn h5 h7 h8 h9 h15 nF
    refine (vrenewS 50 #[.pointer (some ⟨z5, 0, none⟩), .pointer (some ⟨z7, 0, none⟩), .pointer (some ⟨z9, 0, none⟩), .pointer (some ⟨z15, 0, none⟩)]
      (fun c' M2 => ∃ n2 : Nat, (1 ≤ n2 ∧ n2 ≤ most ∧ M1 n2 = none ∧ Drops (upd M1 n2 (some ({ { cl with vals := cl.vals.set (i % 32) x } with owner := 0 }, 1))) [kid] M2) ∧ c' = { cr with kids := cr.kids.set (i / 32) n2 }) v.root 0 cr W hRn.ar (fun args W => by kernel_rfl) hb0 (by unfold aloneB; simp) ?_ (fun j => ?_) (by rw [r4]; omega) ?_).mono ?_
    · have e : keepAll (begun M v 0) cr.kids = M1 := by rw [hM1, r4]
      rw [e]
      refine chgS_kid i z7 z5 z9 z15 kid 0 _ _ W h7 h5 h9 h15 (fun z hz => nF z (by rcases hz with e | e | e | e <;> simp [e])) cr hck (by omega) ?_
      intro W1 F2 hRn1
      refine (vrenewS 49 #[.pointer (some ⟨z8, 0, none⟩), .pointer (some ⟨z7, 0, none⟩)] (fun c' M2 => c' = { cl with vals := cl.vals.set (i % 32) x } ∧ M2 = M1) kid 0 cl W1 hRn1.ar (fun args W => by kernel_rfl) hM1c (by unfold aloneB; simp) ?_ (fun j => ?_) (by rw [k4]; exact Nat.zero_le _) ?_).mono ?_
      · have e : keepAll M1 cl.kids = M1 := by rw [k4]; rfl
        rw [e]
        have l8 := h8.lt
        have l7 : z7 < W.heap.size := World.block_lt_of_cell? W _ h7
        exact chgS_put x i z8 z7 W1 (h8.kp hRn1.kp (nF z8 (by simp))) (hRn1.kp.cell h7 (nF z7 (by simp))) (fun hf => (hRn1.sub _ hf).elim (nF z8 (by simp)) (fun e => by omega)) (fun hf => (hRn1.sub _ hf).elim (nF z7 (by simp)) (fun e => by omega)) cl (by omega) (by omega)
      · rw [k4]
        have h1 := hrf1 j
        have h2 := hr j
        simp only [List.length_nil]
        omega
      · rintro c' M2 ⟨rfl, rfl⟩
        refine ⟨by rw [hlv1]; omega, fun j => ?_, ?_, ?_, ?_⟩
        · have h1 := hrf1 j
          have h2 := hr j
          omega
        · show (cl.vals.set (i % 32) x).length ≤ _
          rw [List.length_set]; omega
        · show cl.kids.length ≤ _
          rw [k4]; exact Nat.zero_le _
        · show (ns cl.kids).all _ = true
          rw [k4]; rfl
      · rintro e W' ⟨n, c', M2, M', rfl, ⟨rfl, rfl⟩, n1, n2, n3, hd, hs⟩
        exact ⟨n, M', rfl, ⟨n1, n2, n3, hd⟩, hs⟩
    · have h1 := begun_rf (M := M) (v := v) (ow := 0) (j := j)
      have h2 := hr j
      rw [r4]
      omega
    · rintro c' M2 ⟨n2, ⟨a1, a2, a3, a4⟩, rfl⟩
      have e2 := hM2 n2 M2 a3 a4
      have hkn : (upd M1 n2 (some ({ { cl with vals := cl.vals.set (i % 32) x } with owner := 0 }, 1))) kid ≠ none := by
        have hne : kid ≠ n2 := fun e => by rw [e, a3] at hM1k; cases hM1k
        rw [upd_other _ _ hne, hM1k]; simp
      refine ⟨?_, fun j => ?_, ?_, ?_, ?_⟩
      · rw [e2, live_keeps _ hkn, live_new a2 a3, hlv1]; omega
      · have h1 := drops_rf a4 j
        have h2 := hr j
        have h3 := hrf1 j
        by_cases e : j = n2
        · subst e; rw [upd_same] at h1; have : Go.Proofs.Ytgkhbnkbhcginaa.rf (M2 j) ≤ 1 := h1; omega
        · rw [upd_other _ _ e] at h1; omega
      · show cr.vals.length ≤ _
        rw [r3]; exact Nat.zero_le _
      · show (cr.kids.set (i / 32) n2).length ≤ _
        rw [List.length_set, r4]; omega
      · show (ns (cr.kids.set (i / 32) n2)).all (goodB M2) = true
        have hall : ∀ q ∈ cr.kids.set (i / 32) n2, M2 q ≠ none ∧ q ≠ 0 := fun q hq => by
          rcases List.mem_or_eq_of_mem_set hq with hq | hq
          · rw [r4] at hq
            obtain ⟨jq, hjq⟩ := List.getElem?_of_mem hq
            obtain ⟨cq, q1, _⟩ := hh.lf _ _ hjq
            have hq0 : q ≠ 0 := by rintro rfl; rw [hz] at q1; cases q1
            refine ⟨?_, hq0⟩
            rw [e2]
            by_cases eq : q = kid
            · rw [eq, upd_same]; simp
            · rw [upd_other _ _ eq]
              by_cases eq2 : q = n2
              · rw [eq2, upd_same]; simp
              · rw [upd_other _ _ eq2, hM1]
                intro e
                rw [keepAll_none, begun_none] at e
                rw [e] at q1; cases q1
          · subst hq
            refine ⟨?_, by omega⟩
            rw [e2]
            by_cases eq : q = kid
            · rw [eq, upd_same]; simp
            · rw [upd_other _ _ eq, upd_same]; simp
        exact good_all hall
    · rintro e W' ⟨n, c', M2, M', rfl, ⟨n2, ⟨a1, a2, a3, a4⟩, rfl⟩, n1, n2', n3, hd, hs⟩
      exact ⟨n, M', rfl, ⟨n2, M2, a1, a2, a3, a4, n1, n2', n3, hd⟩, hs⟩
  · rintro e w' ⟨n, M', rfl, ⟨n2, M2, a1, a2, a3, a4, n1, n2', n3, hd⟩, hs⟩
    rw [hM1] at a3 a4 hM1c
    obtain ⟨b1, b2, b3⟩ := hh.set_kid hi hk hM1c hcr a3 a4 n3 hd
    refine ⟨⟨v.n, n, v.tail⟩, M', rfl, ⟨b1, b2, b3, fun j => ?_⟩, hs⟩
    have h1 := drops_rf hd j
    have h2 := drops_rf a4 j
    have h3 := hrf1 j
    rw [hM1] at h3
    by_cases e : j = n
    · subst e
      rw [upd_same] at h1
      have : Go.Proofs.Ytgkhbnkbhcginaa.rf (M' j) ≤ 1 := h1
      omega
    · rw [upd_other _ _ e] at h1
      by_cases e' : j = n2
      · subst e'
        rw [upd_same] at h2
        have : Go.Proofs.Ytgkhbnkbhcginaa.rf (M2 j) ≤ 1 := h2
        omega
      · rw [upd_other _ _ e'] at h2
        omega
/-- Set without an owner. -/
theorem set_res (v : Vc) (l : Vs) (ks : List Nat) (ow : Int) (i : Nat) (x : Int × Int × ByteArray) (w : World) (h : Ar w b most M F) (hh : Has M ow v l ks) (hi : i < l.length) (hr : ∀ j, rf (M j) ≤ 1000000) :
    Calls Try.prog 16 #[ap b, vagg v, .int .i64 i, xagg x, .int .u32 0] w fun e w' => (∃ y M', e = .returned (.tuple #[vagg y, .int .i64 0]) ∧ SetRes M v l i x y M' ∧ Stp w w' b most M' F) ∨ (e = .returned (.tuple #[vagg ⟨0, 0, 0⟩, .int .i64 5]) ∧ most < live (most + 1) M + 2 ∧ Below w.heap.size w w') := by
  by_cases hq : i / 32 = (l.length - 1) / 32
  · by_cases hroom : live (most + 1) M + 1 ≤ most
    · exact (set_in_tail v l ks ow i x w h hh hi hq hroom hr).mono fun _ _ hp => .inl hp
    · exact (vSet_none v l i x w h hh.vec hi hq (by omega)).mono fun _ _ hp => .inr ⟨hp.1, by omega, hp.2⟩
  · by_cases hroom : live (most + 1) M + 2 ≤ most
    · exact (set_in_kid v l ks ow i x w h hh hi hq hroom hr).mono fun _ _ hp => .inl hp
    · exact (vSet_nonekid v l i x w h hh.vec hi hq (by omega)).mono fun _ _ hp => .inr ⟨hp.1, by omega, hp.2⟩
end

end Go.Proofs.Ytgkhbnkbhcginaa
