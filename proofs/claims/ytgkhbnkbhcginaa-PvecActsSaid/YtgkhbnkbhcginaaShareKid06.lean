/- What a Set in a leaf has made of the arena, and what comes of letting it go: plainly. -/
import Derived.Test.YtgkhbnkbhcginaaShare06
namespace Go.Proofs.Ytgkhbnkbhcginaa

theorem keepAll_pt : ∀ (ks : List Nat) (M : Cells), ks.Nodup → (∀ x ∈ ks, ∀ c r, M x = some (c, r) → keepAll M ks x = some (c, r + 1)) ∧ ∀ x, x ∉ ks → keepAll M ks x = M x
  | [], _, _ => ⟨fun x hx => by simp at hx, fun _ _ => rfl⟩
  | k :: ks, M, hn => by
    obtain ⟨h1, h2⟩ := List.nodup_cons.1 hn
    obtain ⟨a1, a2⟩ := keepAll_pt ks (keepC M k) h2
    have hk : ∀ x, x ≠ k → keepC M k x = M x := fun x hx => by
      unfold keepC
      cases e : M k with
      | none => rfl
      | some z => exact upd_other _ _ hx
    refine ⟨fun x hx c r hc => ?_, fun x hx => ?_⟩
    · show keepAll (keepC M k) ks x = _
      rcases List.mem_cons.1 hx with rfl | hx
      · rw [a2 x h1]
        unfold keepC
        rw [hc]
        exact upd_same _ _ _
      · have hxk : x ≠ k := fun e => h1 (e ▸ hx)
        exact a1 x hx c r ((hk x hxk).trans hc)
    · have h3 : x ≠ k ∧ x ∉ ks := by simpa using hx
      show keepAll (keepC M k) ks x = _
      rw [a2 x h3.2]
      exact hk x h3.1
theorem set_split {ks : List Nat} {q kid : Nat} (h : ks[q]? = some kid) (a : Nat) : ∃ l1 l2, ks = l1 ++ kid :: l2 ∧ ks.set q a = l1 ++ a :: l2 ∧ l1.length = q := by
  obtain ⟨hq, hk⟩ := List.getElem?_eq_some_iff.1 h
  refine ⟨ks.take q, ks.drop (q + 1), ?_, ?_, by rw [List.length_take]; omega⟩
  · rw [← hk, List.getElem_cons_drop, List.take_append_drop]
  · rw [List.set_eq_take_append_cons_drop, if_pos hq]

section
variable {M M2 M' : Cells} {ow : Int} {v : Vc} {l : Vs} {ks : List Nat}
theorem Has.set_kid {n n2 i kid : Nat} {x : Int × Int × ByteArray} {cl cr : Hc} (h : Has M ow v l ks) (hi : i < l.length) (hk : ks[i / 32]? = some kid)
    (hcl : contC (keepAll (begun M v 0) ks) kid = cl) (hcr : contC M v.root = cr) (hn2 : keepAll (begun M v 0) ks n2 = none)
    (hd2 : Drops (upd (keepAll (begun M v 0) ks) n2 (some ({ { cl with vals := cl.vals.set (i % 32) x } with owner := 0 }, 1))) [kid] M2)
    (hn : M2 n = none) (hd : Drops (upd M2 n (some ({ { cr with kids := cr.kids.set (i / 32) n2 } with owner := 0 }, 1))) [v.root] M') :
    VecIs M' ⟨v.n, n, v.tail⟩ (l.set i x) ∧ (∀ y, M y ≠ none → ∃ c r, M y = some (c, r) ∧ ∃ r', M' y = some (c, r')) ∧ (∀ A B, Drops M' [n] A → Drops A [v.tail] B → B = M) := by
  have hks : ks ≠ [] := by rintro rfl; simp at hk
  obtain ⟨ct, t1, _, t3, t4⟩ := h.tl
  obtain ⟨c0, r1, _, r3, r4⟩ := h.rt hks
  have e0 : cr = c0 := by rw [← hcr]; unfold contC; rw [r1]
  subst e0
  obtain ⟨ck, k1, _, k3, k4⟩ := h.lf _ _ hk
  have hkm : kid ∈ ks := List.mem_of_getElem? hk
  have hrk : v.root ≠ kid := fun e => h.nr (e ▸ hkm)
  have htk : v.tail ∉ ks := h.nt.1
  have htr : v.tail ≠ v.root := h.nt.2
  -- begun
  have b1 : begun M v 0 = upd (upd M v.root (some (cr, 2))) v.tail (some (ct, 2)) := by
    unfold begun
    rw [if_pos rfl]
    have e1 : keepC M v.root = upd M v.root (some (cr, 2)) := by unfold keepC; rw [r1]
    rw [e1]
    have e2 : upd M v.root (some (cr, 2)) v.tail = some (ct, 1) := by rw [upd_other _ _ htr]; exact t1
    unfold keepC
    rw [e2]
  have bo : ∀ y, y ≠ v.root → y ≠ v.tail → begun M v 0 y = M y := fun y h1 h2 => by rw [b1, upd_other _ _ h2, upd_other _ _ h1]
  have br : begun M v 0 v.root = some (cr, 2) := by rw [b1, upd_other _ _ htr.symm, upd_same]
  have bt : begun M v 0 v.tail = some (ct, 2) := by rw [b1, upd_same]
  have bk : ∀ y ∈ ks, begun M v 0 y = M y := fun y hy => bo y (fun e => h.nr (e ▸ hy)) (fun e => htk (e ▸ hy))
  obtain ⟨p1, p2⟩ := keepAll_pt ks (begun M v 0) h.nk
  have hkk : keepAll (begun M v 0) ks kid = some (ck, 2) := p1 kid hkm ck 1 ((bk kid hkm).trans k1)
  have e1 : cl = ck := by rw [← hcl]; unfold contC; rw [hkk]
  subst e1
  have hn2k : n2 ≠ kid := by rintro rfl; rw [hkk] at hn2; cases hn2
  have hn2m : n2 ∉ ks := fun hm => by
    obtain ⟨k, hk'⟩ := List.mem_iff_getElem?.1 hm
    obtain ⟨c, f1, _⟩ := h.lf k n2 hk'
    rw [p1 n2 hm c 1 ((bk n2 hm).trans f1)] at hn2
    cases hn2
  have hn2b : begun M v 0 n2 = none := by rw [← p2 n2 hn2m]; exact hn2
  have hn2r : n2 ≠ v.root := by rintro rfl; rw [br] at hn2b; cases hn2b
  have hn2t : n2 ≠ v.tail := by rintro rfl; rw [bt] at hn2b; cases hn2b
  have hMn2 : M n2 = none := by rw [← bo n2 hn2r hn2t]; exact hn2b
  have q2 := drops_two (x := kid) (c := cl) (r := 2) (by rw [upd_other _ _ hn2k.symm]; exact hkk) (by omega) hd2
  have m2o : ∀ y, y ≠ kid → y ≠ n2 → M2 y = keepAll (begun M v 0) ks y := fun y h1 h2 => by rw [q2, upd_other _ _ h1, upd_other _ _ h2]
  have m2k : M2 kid = some (cl, 1) := by rw [q2, upd_same]
  have m2n : M2 n2 = some ({ { cl with vals := cl.vals.set (i % 32) x } with owner := 0 }, 1) := by rw [q2, upd_other _ _ hn2k, upd_same]
  have m2r : M2 v.root = some (cr, 2) := by rw [m2o _ hrk hn2r.symm, p2 _ h.nr]; exact br
  have m2t : M2 v.tail = some (ct, 2) := by rw [m2o v.tail (fun e => htk (e ▸ hkm)) hn2t.symm, p2 _ htk]; exact bt
  have hnr : n ≠ v.root := by rintro rfl; rw [m2r] at hn; cases hn
  have hnt : n ≠ v.tail := by rintro rfl; rw [m2t] at hn; cases hn
  have hnn : n ≠ n2 := by rintro rfl; rw [m2n] at hn; cases hn
  have hnk : n ∉ ks := fun hm => by
    by_cases e : n = kid
    · rw [e, m2k] at hn; cases hn
    · obtain ⟨k, hk'⟩ := List.mem_iff_getElem?.1 hm
      obtain ⟨c, f1, _⟩ := h.lf k n hk'
      rw [m2o n e hnn, p1 n hm c 1 ((bk n hm).trans f1)] at hn
      cases hn
  have hMn : M n = none := by
    have h1 := hn
    rw [m2o n (fun e => hnk (e ▸ hkm)) hnn, p2 n hnk, bo n hnr hnt] at h1
    exact h1
  have q3 := drops_two (x := v.root) (c := cr) (r := 2) (by rw [upd_other _ _ hnr.symm]; exact m2r) (by omega) hd
  have mo : ∀ y, y ≠ v.root → y ≠ n → M' y = M2 y := fun y h1 h2 => by rw [q3, upd_other _ _ h1, upd_other _ _ h2]
  have mr : M' v.root = some (cr, 1) := by rw [q3, upd_same]
  have mn : M' n = some ({ { cr with kids := cr.kids.set (i / 32) n2 } with owner := 0 }, 1) := by rw [q3, upd_other _ _ hnr, upd_same]
  have mt : M' v.tail = some (ct, 2) := by rw [mo _ htr hnt.symm]; exact m2t
  have mn2 : M' n2 = some ({ { cl with vals := cl.vals.set (i % 32) x } with owner := 0 }, 1) := by rw [mo _ hn2r hnn.symm]; exact m2n
  have mk : M' kid = some (cl, 1) := by rw [mo _ hrk.symm (fun e => hnk (e ▸ hkm))]; exact m2k
  have ml : ∀ y ∈ ks, y ≠ kid → ∀ c, M y = some (c, 1) → M' y = some (c, 2) := fun y hy hyk c hc => by
    rw [mo y (fun e => h.nr (e ▸ hy)) (fun e => hnk (e ▸ hy)), m2o y hyk (fun e => hn2m (e ▸ hy))]
    exact p1 y hy c 1 ((bk y hy).trans hc)
  have mm : ∀ y, y ∉ ks → y ≠ v.root → y ≠ v.tail → y ≠ n → y ≠ n2 → M' y = M y := fun y h1 h2 h3 h4 h5 => by
    rw [mo y h2 h4, m2o y (fun e => h1 (e ▸ hkm)) h5, p2 y h1, bo y h2 h3]
  obtain ⟨l1, l2, s1, s2, s3⟩ := set_split hk n2
  have hkc : ∀ y c r, M y = some (c, r) → ∃ r', M' y = some (c, r') := fun y c r hy => by
    by_cases e1 : y = v.root
    · subst e1; rw [r1] at hy; injection hy with hy; injection hy with hy _; exact ⟨1, by rw [mr, hy]⟩
    · by_cases e2 : y = v.tail
      · subst e2; rw [t1] at hy; injection hy with hy; injection hy with hy _; exact ⟨2, by rw [mt, hy]⟩
      · by_cases e3 : y ∈ ks
        · obtain ⟨k, hk'⟩ := List.mem_iff_getElem?.1 e3
          obtain ⟨c', f1, _⟩ := h.lf k y hk'
          rw [f1] at hy
          injection hy with hy
          injection hy with hy _
          subst hy
          by_cases e4 : y = kid
          · subst e4; rw [k1] at f1; injection f1 with f1; injection f1 with f1 _; exact ⟨1, by rw [mk, f1]⟩
          · exact ⟨2, ml y e3 e4 _ f1⟩
        · refine ⟨r, ?_⟩
          rw [mm y e3 e1 e2 (by rintro rfl; rw [hMn] at hy; cases hy) (by rintro rfl; rw [hMn2] at hy; cases hy)]
          exact hy
  have hlen := h.len
  have hqk : i / 32 < ks.length := (List.getElem?_eq_some_iff.1 hk).1
  have hle := h.le
  refine ⟨⟨by rw [List.length_set]; exact h.n, by rw [List.length_set]; exact h.le, fun e => ?_, fun _ => ?_, fun hl => ?_, fun hl => ?_⟩, fun y hy => ?_, fun A B d1 d2 => ?_⟩
  · have := congrArg List.length e
    rw [List.length_set] at this
    exact absurd (List.eq_nil_of_length_eq_zero this) h.pos
  · refine ⟨ct, 2, mt, ?_, t4⟩
    rw [List.length_set, chunk_set_ne l x i _ (by omega)]
    exact t3
  · rw [List.length_set] at hl; omega
  · rw [List.length_set] at hl ⊢
    refine ⟨_, 1, mn, r3, by show (cr.kids.set (i / 32) n2).length = _; rw [List.length_set, r4, hlen], fun k y hy => ?_⟩
    have hy' : (ks.set (i / 32) n2)[k]? = some y := by rw [← r4]; exact hy
    by_cases e : k = i / 32
    · subst e
      rw [List.getElem?_set_self hqk] at hy'
      injection hy' with hy'
      subst hy'
      exact ⟨_, 1, mn2, by rw [chunk_set l x i hi, ← k3], k4⟩
    · rw [List.getElem?_set_ne (Ne.symm e)] at hy'
      obtain ⟨cy, f1, _, f2, f3⟩ := h.lf k y hy'
      obtain ⟨r2, hr2⟩ := hkc _ _ _ f1
      exact ⟨cy, r2, hr2, by rw [chunk_set_ne l x i k (Ne.symm e)]; exact f2, f3⟩
  · cases e : M y with
    | none => exact absurd e hy
    | some z => obtain ⟨r', hr'⟩ := hkc y z.1 z.2 e; exact ⟨z.1, z.2, rfl, r', hr'⟩
  · have hal : Al M' 0 n [] (ks.set (i / 32) n2) := ⟨_, mn, rfl, r3, by show cr.kids.set (i / 32) n2 = _; rw [r4]⟩
    have d3 := drops_al (t := []) hal d1
    rw [List.nil_append, s2] at d3
    have hnd := h.nk
    rw [s1] at hnd hn2m hnk htk
    obtain ⟨nd1, nd2, nd3⟩ := List.nodup_append.1 hnd
    obtain ⟨nd4, nd5⟩ := List.nodup_cons.1 nd2
    have hmem : ∀ y, y ∈ l1 ++ n2 :: l2 → y = n2 ∨ (y ∈ ks ∧ y ≠ kid) := fun y hy => by
      rw [s1]
      rcases List.mem_append.1 hy with hy | hy
      · exact .inr ⟨by simp [hy], fun e => nd3 y hy kid (by simp) e⟩
      · rcases List.mem_cons.1 hy with hy | hy
        · exact .inl hy
        · exact .inr ⟨by simp [hy], fun e => nd4 (e ▸ hy)⟩
    have hmem2 : ∀ y, y ∈ ks → y ≠ kid → y ∈ l1 ++ n2 :: l2 := fun y hy hne => by
      rw [s1] at hy
      rcases List.mem_append.1 hy with hy | hy
      · simp [hy]
      · rcases List.mem_cons.1 hy with hy | hy
        · exact absurd hy hne
        · simp [hy]
    have hndn : (l1 ++ n2 :: l2).Nodup := by
      have h1 : n2 ∉ l1 ∧ n2 ∉ l2 := by
        have : n2 ∉ l1 ∧ n2 ≠ kid ∧ n2 ∉ l2 := by simpa using hn2m
        exact ⟨this.1, this.2.2⟩
      refine List.nodup_append.2 ⟨nd1, List.nodup_cons.2 ⟨h1.2, nd5⟩, fun a ha b hb => ?_⟩
      rcases List.mem_cons.1 hb with rfl | hb
      · exact fun e => h1.1 (e ▸ ha)
      · exact nd3 a ha b (by simp [hb])
    have hcell : ∀ y ∈ ks, ∃ c, M y = some (c, 1) := fun y hy => by
      obtain ⟨k, hk'⟩ := List.mem_iff_getElem?.1 hy
      obtain ⟨c, f1, _⟩ := h.lf k y hk'
      exact ⟨c, f1⟩
    have hnn2 : n ∉ l1 ++ n2 :: l2 := fun hm => by
      rcases hmem n hm with e | e
      · exact hnn e
      · exact hnk (s1 ▸ e.1)
    obtain ⟨f1, f2⟩ := drops_flat _ (l1 ++ n2 :: l2) _ A rfl hndn (fun y hy => by
      have hyn : y ≠ n := fun e => hnn2 (e ▸ hy)
      rcases hmem y hy with rfl | ⟨hy1, hy2⟩
      · exact ⟨_, 1, (upd_other _ _ hyn).trans mn2, .inr ⟨rfl, k4⟩⟩
      · obtain ⟨c, hc⟩ := hcell y hy1
        exact ⟨c, 2, (upd_other _ _ hyn).trans (ml y hy1 hy2 c hc), .inl (by omega)⟩) d3
    have hAt : A v.tail = some (ct, 2) := by
      rw [f2 v.tail (fun hm => by
        rcases hmem _ hm with e | e
        · exact hn2t e.symm
        · exact h.nt.1 e.1), upd_other _ _ hnt.symm]
      exact mt
    rw [drops_two hAt (by omega) d2]
    funext y
    by_cases e2 : y = v.tail
    · subst e2; rw [upd_same]; exact t1.symm
    rw [upd_other _ _ e2]
    by_cases e5 : y = n2
    · subst e5
      rw [f1 y (by simp) _ 1 ((upd_other _ _ hnn.symm).trans mn2), if_neg (by omega)]
      exact hMn2.symm
    by_cases e3 : y ∈ ks
    · by_cases e4 : y = kid
      · subst e4
        rw [f2 y (fun hm => by
          rcases hmem _ hm with e | e
          · exact e5 e
          · exact e.2 rfl), upd_other M' _ (show y ≠ n from fun e => hnk (by rw [← s1, ← e]; exact hkm)), mk, k1]
      · obtain ⟨c, hc⟩ := hcell y e3
        have hyn : y ≠ n := fun e => hnk (e ▸ (s1 ▸ e3))
        rw [f1 y (hmem2 y e3 e4) c 2 ((upd_other _ _ hyn).trans (ml y e3 e4 c hc)), if_pos (by omega)]
        exact hc.symm
    · rw [f2 y (fun hm => by
        rcases hmem _ hm with e | e
        · exact e5 e
        · exact e3 e.1)]
      by_cases e6 : y = n
      · subst e6; rw [upd_same]; exact hMn.symm
      · rw [upd_other _ _ e6]
        by_cases e1 : y = v.root
        · subst e1; rw [mr]; exact r1.symm
        · exact mm y e3 e1 e2 e6 e5
end

end Go.Proofs.Ytgkhbnkbhcginaa
