/- Vectors that share cells with others, and letting them go: plainly. -/
import Derived.Test.YtgkhbnkbhcginaaMine06
namespace Go.Proofs.Ytgkhbnkbhcginaa

/-- One reference of each of these cells is let go: each is held twice or more, or once and has no others. -/
theorem drops_flat : ∀ (n : Nat) (ks : List Nat) (M M' : Cells), ks.length = n → ks.Nodup → (∀ x ∈ ks, ∃ c r, M x = some (c, r) ∧ (1 < r ∨ (r = 1 ∧ c.kids = []))) → Drops M ks M' →
    (∀ x ∈ ks, ∀ c r, M x = some (c, r) → M' x = if 1 < r then some (c, r - 1) else none) ∧ ∀ x, x ∉ ks → M' x = M x := by
  intro n
  induction n with
  | zero =>
    intro ks M M' hl _ _ hd
    obtain rfl : ks = [] := List.eq_nil_of_length_eq_zero hl
    rw [hd.inv.1 rfl]
    exact ⟨fun x hx => by simp at hx, fun _ _ => rfl⟩
  | succ n ih =>
    intro ks M M' hl hn hal hd
    obtain ⟨t, x, rfl⟩ : ∃ t x, ks = t ++ [x] := ⟨ks.dropLast, ks.getLast (by rintro rfl; simp at hl), (List.dropLast_concat_getLast _).symm⟩
    obtain ⟨c, r, hx, hr⟩ := hal x (by simp)
    have h1 := hd.inv.2 t x rfl
    have hrel : release M x = (upd M x (if 1 < r then some (c, r - 1) else none), []) := by
      unfold release
      rw [hx]
      by_cases h : 1 < r
      · simp [h]
      · rcases hr with hr | ⟨_, hk⟩
        · exact absurd hr h
        · simp [h, hk]
    rw [hrel, List.append_nil] at h1
    obtain ⟨n1, n2, n3⟩ := List.nodup_append.1 hn
    have hxt : x ∉ t := fun hm => n3 x hm x (by simp) rfl
    obtain ⟨a1, a2⟩ := ih t _ M' (by simpa using hl) n1 (fun y hy => by
      obtain ⟨c', r', hy', hr'⟩ := hal y (by simp [hy])
      exact ⟨c', r', (upd_other M _ (show y ≠ x from fun e => hxt (e ▸ hy))).trans hy', hr'⟩) h1
    refine ⟨fun y hy c' r' hy' => ?_, fun y hy => ?_⟩
    · rcases List.mem_append.1 hy with hy | hy
      · exact a1 y hy c' r' ((upd_other M _ (show y ≠ x from fun e => hxt (e ▸ hy))).trans hy')
      · obtain rfl : y = x := by simpa using hy
        rw [hx] at hy'
        injection hy' with hy'
        injection hy' with e1 e2
        subst e1 e2
        rw [a2 y hxt]
        exact upd_same _ _ _
    · have : y ∉ t ∧ y ≠ x := by simpa using hy
      rw [a2 y this.1]
      exact upd_other _ _ this.2
theorem drops_two {M M' : Cells} {x : Nat} {c : Hc} {r : Nat} (hx : M x = some (c, r)) (hr : 1 < r) (h : Drops M [x] M') : M' = upd M x (some (c, r - 1)) := drops_less hx hr h

/-- v has the values l in cells of this owner's, each held once (what else the arena holds is not told). -/
structure Has (M : Cells) (ow : Int) (v : Vc) (l : Vs) (ks : List Nat) : Prop where
  n : v.n = l.length
  le : l.length ≤ 1024
  pos : l ≠ []
  len : ks.length = (l.length - 1) / 32
  r0 : ks = [] → v.root = 0
  rt : ks ≠ [] → Al M ow v.root [] ks
  tl : Al M ow v.tail (chunk l ((l.length - 1) / 32)) []
  lf : ∀ k x, ks[k]? = some x → Al M ow x (chunk l k) []
  nt : v.tail ∉ ks ∧ v.tail ≠ v.root
  nr : v.root ∉ ks
  nk : ks.Nodup
section
variable {N : Nat} {M0 M M' : Cells} {ow : Int} {v : Vc} {l : Vs} {ks : List Nat}
theorem Mine.has (h : Mine N M0 M ow v l ks) (hl : l ≠ []) (hz : M 0 = none) : Has M ow v l ks := by
  have hvn := h.n
  have hlp : 0 < l.length := List.length_pos_iff.2 hl
  have hid : ids v ks = v.tail :: (if ks = [] then [] else v.root :: ks) := by unfold ids; rw [if_neg (by omega)]
  have hnd := h.nd
  rw [hid] at hnd
  have ht := h.tl hl
  by_cases hk : ks = []
  · refine ⟨h.n, h.le, hl, h.len, h.r0, h.rt, ht, h.lf, ⟨by rw [hk]; simp, fun e => ?_⟩, by rw [hk]; simp, by rw [hk]; exact List.nodup_nil⟩
    rw [h.r0 hk] at e
    rw [e] at ht
    exact ht.held hz
  · rw [if_neg hk] at hnd
    obtain ⟨h1, h2⟩ := List.nodup_cons.1 hnd
    obtain ⟨h3, h4⟩ := List.nodup_cons.1 h2
    exact ⟨h.n, h.le, hl, h.len, h.r0, h.rt, ht, h.lf, ⟨fun hm => h1 (by simp [hm]), fun e => h1 (by simp [e])⟩, h3, h4⟩
theorem Has.keep (h : Has M ow v l ks) (hM : ∀ x, M x ≠ none → M' x = M x) : Has M' ow v l ks :=
  ⟨h.n, h.le, h.pos, h.len, h.r0, fun e => (h.rt e).same (hM _ (h.rt e).held), h.tl.same (hM _ h.tl.held), fun k x hx => (h.lf k x hx).same (hM _ (h.lf k x hx).held), h.nt, h.nr, h.nk⟩
theorem Has.vec (h : Has M ow v l ks) : VecIs M v l := by
  refine ⟨h.n, h.le, fun e => absurd e h.pos, fun _ => h.tl.leaf, fun hl => h.r0 (List.eq_nil_of_length_eq_zero (by rw [h.len]; omega)), fun hl => ?_⟩
  have hk : ks ≠ [] := by
    rintro rfl
    have := h.len
    simp only [List.length_nil] at this
    omega
  obtain ⟨c, e, _, e2, e3⟩ := h.rt hk
  exact ⟨c, 1, e, e2, by rw [e3, h.len], fun k x hx => (h.lf k x (by rw [← e3]; exact hx)).leaf⟩
theorem chunk_set_ne (l : Vs) (x : Int × Int × ByteArray) (i k : Nat) (h : i / 32 ≠ k) : chunk (l.set i x) k = chunk l k := by
  apply List.ext_getElem?
  intro j
  unfold chunk
  by_cases hj : j < 32
  · rw [List.getElem?_take_of_lt hj, List.getElem?_take_of_lt hj, List.getElem?_drop, List.getElem?_drop, List.getElem?_set_ne (by omega)]
  · rw [List.getElem?_eq_none (by rw [List.length_take]; omega), List.getElem?_eq_none (by rw [List.length_take]; omega)]
theorem chunk_set (l : Vs) (x : Int × Int × ByteArray) (i : Nat) (hi : i < l.length) : chunk (l.set i x) (i / 32) = (chunk l (i / 32)).set (i % 32) x := by
  apply List.ext_getElem?
  intro j
  have hc := chunk_length l (i / 32)
  by_cases hj : j < 32
  · by_cases e : j = i % 32
    · subst e
      rw [List.getElem?_set_self (by omega)]
      unfold chunk
      rw [List.getElem?_take_of_lt hj, List.getElem?_drop, Nat.div_add_mod, List.getElem?_set_self hi]
    · rw [List.getElem?_set_ne (Ne.symm e)]
      unfold chunk
      rw [List.getElem?_take_of_lt hj, List.getElem?_take_of_lt hj, List.getElem?_drop, List.getElem?_drop, List.getElem?_set_ne (by omega)]
  · rw [List.getElem?_eq_none (by rw [chunk_length]; omega), List.getElem?_eq_none (by rw [List.length_set]; omega)]
/-- What a Set in the tail has made of the arena, and what comes of letting it go. -/
theorem Has.set_tail {n i : Nat} {x : Int × Int × ByteArray} {ct : Hc} (h : Has M ow v l ks) (hz : M 0 = none) (hi : i < l.length) (hq : i / 32 = (l.length - 1) / 32) (hn1 : 1 ≤ n) (hn : M n = none) (hct : contC M v.tail = ct)
    (hd : Drops (upd (begun M v 0) n (some ({ { ct with vals := ct.vals.set (i % 32) x } with owner := 0 }, 1))) [v.tail] M') :
    VecIs M' ⟨v.n, v.root, n⟩ (l.set i x) ∧ (∀ y, M y ≠ none → ∃ c r, M y = some (c, r) ∧ ∃ r', M' y = some (c, r')) ∧ (∀ M2 M3, Drops M' [v.root] M2 → Drops M2 [n] M3 → M3 = M) := by
  obtain ⟨c, hc, ho, hcv, hck⟩ := h.tl
  have hce : ct = c := by rw [← hct]; unfold contC; rw [hc]
  subst hce
  have hnt : n ≠ v.tail := by rintro rfl; rw [hc] at hn; cases hn
  have htr := h.nt.2
  have hnl : n ≠ v.root ∨ ks = [] := by
    by_cases hk : ks = []
    · exact .inr hk
    · exact .inl fun e => (h.rt hk).held (e ▸ hn)
  have hb : begun M v 0 = keepC (keepC M v.root) v.tail := by unfold begun; rw [if_pos rfl]
  have hkr : keepC M v.root v.tail = some (ct, 1) := by
    unfold keepC
    cases e : M v.root with
    | none => exact hc
    | some y => show upd M v.root _ v.tail = _; rw [upd_other _ _ htr]; exact hc
  have hb2 : begun M v 0 = upd (keepC M v.root) v.tail (some (ct, 2)) := by
    rw [hb]
    show (match keepC M v.root v.tail with | some (c, r) => upd (keepC M v.root) v.tail (some (c, r + 1)) | none => keepC M v.root) = _
    rw [hkr]
  have h1 := drops_two (x := v.tail) (c := ct) (r := 2) (by rw [upd_other _ _ hnt.symm, hb2, upd_same]) (by omega) hd
  have hM' : ∀ y, y ≠ n → M' y = keepC M v.root y := fun y hy => by
    rw [h1]
    by_cases e : y = v.tail
    · subst e; rw [upd_same, hkr]
    · rw [upd_other _ _ e, upd_other _ _ hy, hb2, upd_other _ _ e]
  have hMn : M' n = some ({ { ct with vals := ct.vals.set (i % 32) x } with owner := 0 }, 1) := by
    rw [h1, upd_other _ _ hnt, upd_same]
  have hkc : ∀ y c r, M y = some (c, r) → ∃ r', M' y = some (c, r') := fun y c r hy => by
    have hyn : y ≠ n := by rintro rfl; rw [hn] at hy; cases hy
    rw [hM' y hyn]
    unfold keepC
    cases e : M v.root with
    | none => exact ⟨r, hy⟩
    | some z =>
      by_cases e' : y = v.root
      · subst e'
        rw [hy] at e
        injection e with e
        subst e
        exact ⟨r + 1, upd_same _ _ _⟩
      · exact ⟨r, (upd_other _ _ e').trans hy⟩
  refine ⟨⟨by rw [List.length_set]; exact h.n, by rw [List.length_set]; exact h.le, fun e => ?_, fun _ => ?_, fun hl => ?_, fun hl => ?_⟩, fun y hy => ?_, fun M2 M3 d1 d2 => ?_⟩
  · have := congrArg List.length e
    rw [List.length_set] at this
    exact absurd (List.eq_nil_of_length_eq_zero this) h.pos
  · refine ⟨_, 1, hMn, ?_, hck⟩
    rw [List.length_set, ← hq, chunk_set l x i hi, hq, ← hcv]
  · rw [List.length_set] at hl
    exact h.r0 (List.eq_nil_of_length_eq_zero (by rw [h.len]; omega))
  · rw [List.length_set] at hl ⊢
    have hk : ks ≠ [] := by
      rintro rfl
      have := h.len
      simp only [List.length_nil] at this
      omega
    obtain ⟨cr, e1, _, e2, e3⟩ := h.rt hk
    obtain ⟨r', hr'⟩ := hkc _ _ _ e1
    refine ⟨cr, r', hr', e2, by rw [e3, h.len], fun k y hy => ?_⟩
    rw [e3] at hy
    have hkl : k < ks.length := (List.getElem?_eq_some_iff.1 hy).1
    obtain ⟨cy, f1, _, f2, f3⟩ := h.lf k y hy
    obtain ⟨r2, hr2⟩ := hkc _ _ _ f1
    exact ⟨cy, r2, hr2, by rw [chunk_set_ne l x i k (by have := h.len; omega)]; exact f2, f3⟩
  · cases e : M y with
    | none => exact absurd e hy
    | some z => obtain ⟨r', hr'⟩ := hkc y z.1 z.2 e; exact ⟨z.1, z.2, rfl, r', hr'⟩
  · have e1 : M2 = upd M n (M' n) := by
      funext y
      by_cases hk : ks = []
      · have hr0 := h.r0 hk
        rw [hr0] at d1
        have h0n : M' 0 = none := by
          rw [hM' 0 (by omega)]
          unfold keepC
          rw [hr0, hz]
          exact hz
        rw [drops_none h0n d1]
        by_cases e : y = n
        · subst e; rw [upd_same]
        · rw [upd_other _ _ e, hM' y e]
          unfold keepC
          rw [hr0, hz]
      · obtain ⟨cr, er, _, _, _⟩ := h.rt hk
        have hrn : v.root ≠ n := fun e => (h.rt hk).held (e ▸ hn)
        have hr2 : M' v.root = some (cr, 2) := by
          rw [hM' _ hrn]
          unfold keepC
          rw [er]
          exact upd_same _ _ _
        rw [drops_two hr2 (by omega) d1]
        by_cases e : y = n
        · subst e; rw [upd_same, upd_other _ _ hrn.symm]
        · rw [upd_other M _ e]
          by_cases e' : y = v.root
          · subst e'; rw [upd_same]; exact er.symm
          · rw [upd_other _ _ e', hM' y e]
            unfold keepC
            rw [er]
            exact upd_other _ _ e'
    subst e1
    have hal : Al (upd M n (M' n)) 0 n (ct.vals.set (i % 32) x) [] := ⟨{ { ct with vals := ct.vals.set (i % 32) x } with owner := 0 }, by rw [upd_same, hMn], rfl, rfl, hck⟩
    have h5 := (drops_al (t := []) hal d2).inv.1 rfl
    rw [h5]
    funext y
    by_cases e : y = n
    · subst e; rw [upd_same]; exact hn.symm
    · rw [upd_other _ _ e, upd_other _ _ e]
end

end Go.Proofs.Ytgkhbnkbhcginaa
