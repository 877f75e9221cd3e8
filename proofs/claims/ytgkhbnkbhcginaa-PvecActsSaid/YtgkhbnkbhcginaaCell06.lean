/- Package renew: Cell, in whichever way, by the books: what the change's function owes, and what comes of it. -/
import Derived.Test.YtgkhbnkbhcginaaBook06
import Derived.Test.YtgkhbnkbhcginaaRenewI06
namespace Go.Proofs.Ytgkhbnkbhcginaa
open Go.RowKit

theorem live_mono {N : Nat} {A B : Cells} (h : ∀ j, A j ≠ none → B j ≠ none) : live N A ≤ live N B := sumTo_mono (fun j => by
  cases e : A j with
  | none => exact Nat.zero_le _
  | some x =>
    cases e' : B j with
    | none => exact absurd e' (h j (by rw [e]; simp))
    | some y => exact Nat.le_refl _) N
theorem live_upd_some (N : Nat) {A : Cells} {x : Nat} (hx : A x ≠ none) (z : Hc × Nat) : live N (upd A x (some z)) = live N A := by
  refine sumTo_congr N fun j _ => ?_
  by_cases e : j = x
  · subst e
    rw [upd_same]
    cases e1 : A j with
    | none => exact absurd e1 hx
    | some y => rfl
  · rw [upd_other _ _ e]
theorem good_kids {M : Cells} {l : List Nat} (h : ∀ q ∈ l, q ≠ 0 → M q ≠ none) : (ns l).all (goodB M) = true := by
  rw [List.all_eq_true]
  intro y hy
  unfold ns at hy
  obtain ⟨q, hq, rfl⟩ := List.mem_map.1 hy
  unfold goodB
  have e : M ((q : Int)).toNat = M q := by rw [Int.toNat_natCast]
  rw [e]
  by_cases h0 : q = 0
  · subst h0; simp
  · cases e1 : M q with
    | none => exact absurd e1 (h q hq h0)
    | some z => simp; omega

/-- What the function of a change owes: from M1, with the holes H1, it has come to M2, and to the contents c'. -/
structure Fun (most : Nat) (M1 : Cells) (H1 : List Nat) (P1 : Nat → Nat) (q : Nat) (Q : Hc → Cells → Prop) (c' : Hc) (M2 : Cells) : Prop where
  bk : Bk (most + 1) M2 H1 P1 c'.kids
  keeps : Keeps P1 (blank M1 H1) (blank M2 H1)
  holes : ∀ x ∈ H1, M2 x = M1 x
  live : live (most + 1) M2 ≤ Proofs.Ytgkhbnkbhcginaa.live (most + 1) M1 + q
  nv : c'.vals.length ≤ 4194304
  nk : c'.kids.length ≤ 64
  q : Q c' M2
/-- In which way a cell is changed. -/
def Way (M : Cells) (H : List Nat) (i : Nat) (ow : Int) (c0 : Hc) (M1 : Cells) (H1 : List Nat) : Prop :=
  (aloneB M i ow = true ∧ M1 = M ∧ H1 = i :: H) ∨ (aloneB M i ow = false ∧ M1 = keepAll M c0.kids ∧ H1 = H)
/-- What the change begins with. -/
structure Way1 (most : Nat) (M : Cells) (H : List Nat) (P : Nat → Nat) (i : Nat) (ow : Int) (c0 : Hc) (M1 : Cells) (H1 : List Nat) : Prop where
  way : Way M H i ow c0 M1 H1
  bk : Bk (most + 1) M1 H1 (addP P i) c0.kids
  keeps : Keeps P (blank M H) (blank M1 H1)
  kids : ∀ k ∈ c0.kids, k ≠ 0 → Pres (blank M H) (blank M1 H1) k
  live : live (most + 1) M1 = Proofs.Ytgkhbnkbhcginaa.live (most + 1) M
/-- What comes of it. -/
structure Ren (most : Nat) (M : Cells) (H : List Nat) (P : Nat → Nat) (ow : Int) (q : Nat) (n : Nat) (M' : Cells) (c' : Hc) (M2 : Cells) (H1 : List Nat) : Prop where
  pos : 1 ≤ n
  bk : Bk (most + 1) M' H P [n]
  cell : M' n = some ({ c' with owner := ow }, 1)
  keeps : Keeps P (blank M H) (blank M' H)
  kids : ∀ k ∈ c'.kids, k ≠ 0 → Pres (blank M2 H1) (blank M' H) k
  holes : ∀ x ∈ H, M' x = M x
  live : live (most + 1) M' ≤ Proofs.Ytgkhbnkbhcginaa.live (most + 1) M + q

theorem alone_cell {M : Cells} {i : Nat} {ow : Int} (h : aloneB M i ow = true) : ∃ c, M i = some (c, 1) ∧ c.owner = ow ∧ ¬ ow = 0 := by
  unfold aloneB at h
  cases e : M i with
  | none => rw [e] at h; simp at h
  | some y =>
    obtain ⟨c, r⟩ := y
    rw [e] at h
    simp at h
    obtain ⟨h0, h1, h2⟩ := h
    exact ⟨c, by rw [h1], h2, h0⟩
section
variable {b most : Nat} {M : Cells} {F : Nat → Prop} {H : List Nat} {P : Nat → Nat}
theorem way_in {i : Nat} {ow : Int} {c0 : Hc} (hb : Bk (most + 1) M H P [i]) (hM : M i = some (c0, 1)) (hal : aloneB M i ow = true) : Way1 most M H P i ow c0 M (i :: H) := by
  have hi := hb.lt (j := i) (by rw [hM]; simp)
  have hiH := (hb.hand (i := i) (by simp) (by omega)).2
  have hP0 : P i = 0 := by
    have := hb.bal (i := i) hi.1
    rw [hM] at this
    simp only [rf, List.count_singleton_self] at this
    omega
  refine ⟨.inl ⟨hal, rfl, rfl⟩, ?_, fun r h0 hr => hb.pres_open hM (fun e => by rw [e] at hr; omega), fun k hk h0 => hb.pres_open hM (fun e => ?_), rfl⟩
  · have := hb.open hM
    rwa [List.append_nil] at this
  · subst e
    have h1 : k ∈ kd (blank M H k) := by rw [blank_out hiH, hM]; exact hk
    have h2 := count_le_occ (M := blank M H) hi.2 k
    have h3 := List.count_pos_iff.2 h1
    have h4 := hb.bal (i := k) hi.1
    rw [hM] at h4
    simp only [rf, List.count_singleton_self] at h4
    omega
theorem way_new {i : Nat} {ow : Int} {c0 : Hc} (hb : Bk (most + 1) M H P [i]) (hc0 : contC M i = c0) (hal : aloneB M i ow = false) : Way1 most M H P i ow c0 (keepAll M c0.kids) H := by
  refine ⟨.inr ⟨hal, rfl, rfl⟩, ?_, fun r h0 hr => Pres.all (all_blank all_keepAll), fun k hk h0 => Pres.all (all_blank all_keepAll), keepAll_live⟩
  have h1 := hb.keepAll (l := c0.kids) (fun k hk h0 => by
    cases e : M i with
    | none =>
      have : c0.kids = [] := by rw [← hc0]; unfold contC; rw [e]
      rw [this] at hk
      simp at hk
    | some y =>
      have hi := hb.lt (j := i) (by rw [e]; simp)
      have hiH := (hb.hand (i := i) (by simp) (by omega)).2
      have e0 : c0 = y.1 := by rw [← hc0]; unfold contC; rw [e]
      rw [e0] at hk
      exact hb.kid hiH (show M i = some (y.1, y.2) from e) hk h0)
  refine h1.move (fun k hk => ?_) (fun x hx => Nat.le_trans (hb.hole x hx).1 (addP_le _ _ _))
  rw [List.count_append, List.count_singleton]
  unfold addP
  by_cases ek : k = i
  · subst ek; simp; omega
  · rw [if_neg ek, if_neg (by simpa using Ne.symm ek)]; omega

theorem ren_in {P0 : Nat → Nat} {i q : Nat} {ow : Int} {c0 c' : Hc} {M2 : Cells} {Q : Hc → Cells → Prop} (hb : Bk (most + 1) M H P0 [i]) (hKP : Keeps P (blank M H) (blank M (i :: H))) (hP0 : P i = 0) (hM : M i = some (c0, 1)) (hq : Fun most M (i :: H) (addP P i) q Q c' M2) :
    Ren most M H P ow q i (upd M2 i (some ({ c' with owner := ow }, 1))) c' M2 (i :: H) := by
  have hi := hb.lt (j := i) (by rw [hM]; simp)
  have hiH := (hb.hand (i := i) (by simp) (by omega)).2
  have hM2 : M2 i = some (c0, 1) := (hq.holes i (by simp)).trans hM
  obtain ⟨f1, f2⟩ := Bk.fill (c := { c' with owner := ow }) (hs := []) (by rw [List.append_nil]; exact hq.bk) hiH (fun x hx => by
    have h1 := (hq.bk.hole x (by simp [hx])).1
    have hxi : x ≠ i := fun e => hiH (e ▸ hx)
    unfold addP at h1
    rw [if_neg hxi] at h1
    omega) hM2 hq.nk
  have hpf : ∀ r, r ≠ i → Pres (blank M2 (i :: H)) (blank (upd M2 i (some ({ c' with owner := ow }, 1))) H) r := fun r hr => hq.bk.pres_fill hiH hM2 hr
  refine ⟨hi.1, f1, upd_same _ _ _, fun r h0 hr => ?_, fun k hk h0 => hpf k (fun e => f2 (e ▸ hk)), fun x hx => ?_, ?_⟩
  · have hri : r ≠ i := fun e => by rw [e] at hr; omega
    exact ((hKP r h0 hr).trans (hq.keeps r h0 (Nat.le_trans hr (addP_le _ _ _)))).trans (hpf r hri)
  · have hxi : x ≠ i := fun e => hiH (e ▸ hx)
    rw [upd_other _ _ hxi]
    exact hq.holes x (by simp [hx])
  · rw [live_upd_some _ (by rw [hM2]; simp)]
    exact hq.live
theorem ren_new {P0 : Nat → Nat} {i q n : Nat} {ow : Int} {c0 c' : Hc} {M1 M2 M' : Cells} {Q : Hc → Cells → Prop} (hb : Bk (most + 1) M H P0 [i]) (hKP : Keeps P (blank M H) (blank M1 H)) (hw : Way1 most M H P0 i ow c0 M1 H) (hq : Fun most M1 H (addP P i) q Q c' M2) (hM1 : ∀ x ∈ H, M1 x = M x)
    (n1 : 1 ≤ n) (n2 : n ≤ most) (n3 : M2 n = none) (hd : Drops (upd M2 n (some ({ c' with owner := ow }, 1))) [i] M') : Ren most M H P ow (q + 1) n M' c' M2 H := by
  have hbm := Bk.make (c := { c' with owner := ow }) (hs := []) (by rw [List.append_nil]; exact hq.bk) n1 (by omega) n3 hq.nk
  have hbm2 : Bk (most + 1) (upd M2 n (some ({ c' with owner := ow }, 1))) H P (i :: [n]) := hbm.move (fun k _ => by
    rw [show (i :: [n]).count k = [n].count k + (if i == k then 1 else 0) from List.count_cons]
    unfold addP
    by_cases ek : k = i
    · subst ek; simp; omega
    · rw [if_neg ek, if_neg (by simpa using Ne.symm ek)]; omega) (fun x hx => by
    have h1 := (hq.bk.hole x hx).1
    have hxi : x ≠ i := fun e => by
      have h2 := (hb.hole x hx).2
      by_cases h0 : i = 0
      · rw [e, h0, hb.zero] at h2; simp [rf] at h2
      · exact (hb.hand (i := i) (by simp) h0).2 (e ▸ hx)
    unfold addP at h1
    rw [if_neg hxi] at h1
    omega)
  obtain ⟨d1, d2, d3⟩ := hbm2.drop hd
  have hnH : n ∉ H := fun hx => by have := hq.bk.hole n hx; rw [n3] at this; simp [rf] at this
  have hn' := (d1.hand (i := n) (by simp) (by omega)).1
  have hcell : M' n = some ({ c' with owner := ow }, 1) := by
    cases e : M' n with
    | none => exact absurd e hn'
    | some y =>
      obtain ⟨r0, e0, l0⟩ := d2 n y.1 y.2 (by rw [blank_out hnH, e])
      rw [blank_out hnH, upd_same] at e0
      simp only [Option.some.injEq, Prod.mk.injEq] at e0
      have hp := d1.ok.pos n (by rw [blank_out hnH, e]; simp)
      rw [blank_out hnH, e] at hp
      simp only [rf] at hp
      have e1 : y.2 = 1 := by omega
      rw [e0.1, ← e1]
  have hpn : ∀ r, Pres (blank M2 H) (blank (upd M2 n (some ({ c' with owner := ow }, 1))) H) r := fun r => Pres.all (all_blank (all_new n3 _))
  refine ⟨n1, d1, hcell, fun r h0 hr => ?_, fun k hk h0 => ?_, fun x hx => ?_, ?_⟩
  · have hr' : blank M' H r ≠ none := fun e => d1.held hr h0 (blank_none.1 e)
    exact (((hKP r h0 hr).trans (hq.keeps r h0 (Nat.le_trans hr (addP_le _ _ _)))).trans (hpn r)).trans (Pres.sub d2 d1.ok hr')
  · have hk' : blank M' H k ≠ none := d1.ok.kid (j := n) (by rw [blank_out hnH, hcell]; exact hk) h0
    exact (hpn k).trans (Pres.sub d2 d1.ok hk')
  · have hxn : x ≠ n := fun e => hnH (e ▸ hx)
    rw [d3 x hx, upd_other _ _ hxn, hq.holes x hx, hM1 x hx]
  · have h1 : live (most + 1) M' ≤ live (most + 1) (upd M2 n (some ({ c' with owner := ow }, 1))) := live_mono fun j hj => by
      have : blank M' H j ≠ none := fun e => hj (blank_none.1 e)
      cases e : blank M' H j with
      | none => exact absurd e this
      | some y =>
        obtain ⟨r0, e0, _⟩ := d2 j y.1 y.2 e
        exact fun e1 => by rw [blank_none.2 e1] at e0; cases e0
    have h2 := live_upd (M := M2) (N := most + 1) n (some ({ c' with owner := ow }, 1)) (by omega)
    rw [n3] at h2
    simp only [one] at h2
    have h3 := hq.live
    have h4 := hw.live
    omega

theorem alone_held {P0 : Nat → Nat} {i : Nat} (hb : Bk (most + 1) M H P0 [i]) {c : Hc} (hM : M i = some (c, 1)) : P0 i = 0 ∧ occ (most + 1) (blank M H) i = 0 := by
  have hi := hb.lt (j := i) (by rw [hM]; simp)
  have := hb.bal (i := i) hi.1
  rw [hM] at this
  simp only [rf, List.count_singleton_self] at this
  omega
/-- Cell. -/
theorem renewB {P0 : Nat → Nat} (f : FuncId) (caps : Array Value) (i : Nat) (ow : Int) (c0 : Hc) (q : Nat) (Q : Cells → List Nat → Hc → Cells → Prop) (w : World) (h : Ar w b most M F) (hf : ∀ (args : Array Value) (W : World), (callFunc f args).run Try.prog W = .ok (.enter f args) W)
    (hm : most ≤ 1048576) (hPP : ∀ k, P k ≤ P0 k) (hP : ∀ j, P0 j ≤ 1152921504606846976) (hb : Bk (most + 1) M H P0 [i]) (hc0 : contC M i = c0) (hroom : live (most + 1) M + q + (if aloneB M i ow = true then 0 else 1) ≤ most)
    (hch : ∀ M1 H1, Way1 most M H P0 i ow c0 M1 H1 → ChgS f caps b most F w M1 c0 (Fun most M1 H1 (addP P i) q (Q M1 H1))) :
    Calls Try.prog 44 #[ap b, .int .i64 i, .int .u32 ow, .func (.func f) #[] caps] w fun e w' => ∃ n M', e = .returned (.int .i64 (n : Nat)) ∧ Stp w w' b most M' F ∧
      ∃ M1 H1 c' M2, Way1 most M H P0 i ow c0 M1 H1 ∧ Q M1 H1 c' M2 ∧ Ren most M H P ow (q + if aloneB M i ow = true then 0 else 1) n M' c' M2 H1 := by
  have hsm : c0.kids.length ≤ 64 := by
    rw [← hc0]
    unfold contC
    have := hb.small i
    cases e : M i with
    | none => simp
    | some y => rw [e] at this; exact this
  cases hal : aloneB M i ow with
  | true =>
    obtain ⟨c, hM, hco, h0⟩ := alone_cell hal
    have e0 : c = c0 := by rw [← hc0]; unfold contC; rw [hM]
    subst e0
    have hw := way_in hb hM hal
    refine (vrenewS_in f caps (Fun most M (i :: H) (addP P i) q (Q M (i :: H))) i ow c w h hf hM hco h0 (hch M (i :: H) hw) (fun c' M2 hq => ?_)).mono ?_
    · refine ⟨(hq.holes i (by simp)).trans hM, hq.nv, Nat.le_trans hq.nk (by decide), good_kids fun x hx h0 => (hq.bk.hand hx h0).1⟩
    · rintro e w' ⟨c', M2, rfl, hq, hs⟩
      refine ⟨i, _, rfl, hs, M, i :: H, c', M2, hw, hq.q, ?_⟩
      exact ren_in hb (hw.keeps.less hPP) (by have h1 := (alone_held hb hM).1; have h2 := hPP i; omega) hM hq
  | false =>
    have hw := way_new hb hc0 hal
    rw [hal] at hroom
    simp only [Bool.false_eq_true, if_false] at hroom
    have hrf : ∀ j, rf (M j) ≤ 1152921504606846976 + 1 + 67108928 := fun j => by
      have h1 := hb.rfb j
      have h2 := hP j
      have h3 : [i].count j ≤ 1 := List.count_le_length
      have h4 : (most + 1) * 64 ≤ 1048577 * 64 := Nat.mul_le_mul_right _ (by omega)
      omega
    refine (vrenewS f caps (Fun most (keepAll M c0.kids) H (addP P i) q (Q (keepAll M c0.kids) H)) i ow c0 w h hf hc0 hal (hch _ H hw) (fun j => by have := hrf j; omega) (by omega) (fun c' M2 hq => ?_)).mono ?_
    · refine ⟨?_, fun j => ?_, hq.nv, Nat.le_trans hq.nk (by decide), good_kids fun x hx h0 => (hq.bk.hand hx h0).1⟩
      · have h1 := hq.live
        have h2 := hw.live
        omega
      · have h1 := hq.bk.rfb j
        have h2 := hP j
        have h6 := hPP j
        have h3 : c'.kids.count j ≤ 64 := Nat.le_trans List.count_le_length hq.nk
        have h4 : (most + 1) * 64 ≤ 1048577 * 64 := Nat.mul_le_mul_right _ (by omega)
        have h5 : addP P i j ≤ P j + 1 := by unfold addP; split <;> omega
        omega
    · rintro e w' ⟨n, c', M2, M', rfl, hq, n1, n2, n3, hd, hs⟩
      refine ⟨n, M', rfl, hs, _, H, c', M2, hw, hq.q, ?_⟩
      exact ren_new hb (hw.keeps.less hPP) hw hq (fun x hx => by
        have h1 := (hw.bk.hole x hx).2
        have h2 := (hb.hole x hx).2
        obtain ⟨y, e⟩ : ∃ y, M x = some y := by
          cases e : M x with
          | none => rw [e] at h2; simp [rf] at h2
          | some y => exact ⟨y, rfl⟩
        obtain ⟨q', e'⟩ := all_keepAll (l := c0.kids) x y.1 y.2 e
        rw [e'] at h1
        rw [e] at h2
        simp only [rf] at h1 h2
        rw [e', e, h1, ← h2]) n1 n2 n3 hd
end

end Go.Proofs.Ytgkhbnkbhcginaa
