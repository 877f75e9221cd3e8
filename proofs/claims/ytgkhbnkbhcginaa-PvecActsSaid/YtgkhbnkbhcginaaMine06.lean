/- Vectors that one owner has for itself, all of whose cells nobody else holds: plainly. -/
import Derived.Test.YtgkhbnkbhcginaaPush06
import Derived.Test.YtgkhbnkbhcginaaLone04
namespace Go.Proofs.Ytgkhbnkbhcginaa

/-- A cell of this owner's that is held once. -/
def Al (M : Cells) (ow : Int) (x : Nat) (vs : Vs) (ks : List Nat) : Prop := ∃ c, M x = some (c, 1) ∧ c.owner = ow ∧ c.vals = vs ∧ c.kids = ks
section
variable {M M' : Cells} {ow : Int} {x y : Nat} {vs : Vs} {ks : List Nat}
theorem Al.upd (h : Al M ow x vs ks) (hx : x ≠ y) (z : Option (Hc × Nat)) : Al (upd M y z) ow x vs ks := by
  obtain ⟨c, e, r⟩ := h
  exact ⟨c, by rw [upd_other _ _ hx]; exact e, r⟩
theorem Al.new (M : Cells) (x : Nat) (c : Hc) (hv : c.vals = vs) (hk : c.kids = ks) : Al (Proofs.Ytgkhbnkbhcginaa.upd M x (some ({ c with owner := ow }, 1))) ow x vs ks := ⟨_, upd_same _ _ _, rfl, hv, hk⟩
theorem Al.held (h : Al M ow x vs ks) : M x ≠ none := by
  obtain ⟨c, e, _⟩ := h
  rw [e]; simp
theorem Al.alone (h : Al M ow x vs ks) (h0 : ¬ ow = 0) : aloneB M x ow = true := by
  obtain ⟨c, e, e1, _⟩ := h
  unfold aloneB
  rw [e]
  simp [h0, e1]
theorem Al.leaf (h : Al M ow x vs []) : Leaf M x vs := by
  obtain ⟨c, e, _, e2, e3⟩ := h
  exact ⟨c, 1, e, e2, e3⟩
theorem Al.cont (h : Al M ow x vs ks) : (contC M x).vals = vs ∧ (contC M x).kids = ks := by
  obtain ⟨c, e, _, e2, e3⟩ := h
  unfold contC
  rw [e]
  exact ⟨e2, e3⟩
theorem Al.same (h : Al M ow x vs ks) (e : M' x = M x) : Al M' ow x vs ks := by
  obtain ⟨c, e1, r⟩ := h
  exact ⟨c, e.trans e1, r⟩
theorem Al.lv (h : Al M ow x vs ks) (N : Nat) (z : Hc × Nat) : live N (Proofs.Ytgkhbnkbhcginaa.upd M x (some z)) = live N M := by
  refine sumTo_congr N fun j _ => ?_
  by_cases e : j = x
  · subst e
    rw [upd_same]
    obtain ⟨c, e1, _⟩ := h
    rw [e1]
    rfl
  · rw [upd_other _ _ e]
end
theorem release_none {M : Cells} {i : Nat} (hi : M i = none) : release M i = (M, []) := by unfold release; rw [hi]
theorem drops_none {M M' : Cells} {i : Nat} (hi : M i = none) (h : Drops M [i] M') : M' = M := by
  have h1 := h.inv.2 [] i rfl
  rw [release_none hi] at h1
  exact h1.inv.1 rfl
theorem drops_al {M M' : Cells} {ow : Int} {x : Nat} {vs : Vs} {ks t : List Nat} (hx : Al M ow x vs ks) (h : Drops M (t ++ [x]) M') : Drops (upd M x none) (t ++ ks) M' := by
  obtain ⟨c, e, _, _, e3⟩ := hx
  have h1 := h.inv.2 t x rfl
  have e' : release M x = (upd M x none, ks) := by unfold release; rw [e, ← e3]; rfl
  rw [e'] at h1
  exact h1
/-- Leaves that nobody else holds are let go. -/
theorem drops_leaves {ow : Int} : ∀ (n : Nat) (ks : List Nat) (M M' : Cells), ks.length = n → ks.Nodup → (∀ x ∈ ks, ∃ vs, Al M ow x vs []) → Drops M ks M' → (∀ x ∈ ks, M' x = none) ∧ ∀ x, x ∉ ks → M' x = M x := by
  intro n
  induction n with
  | zero =>
    intro ks M M' hl _ _ hd
    obtain rfl : ks = [] := List.eq_nil_of_length_eq_zero hl
    rw [hd.inv.1 rfl]
    exact ⟨fun x hx => by simp at hx, fun _ _ => rfl⟩
  | succ n ih =>
    intro ks M M' hl hn hal hd
    obtain ⟨t, x, rfl⟩ : ∃ t x, ks = t ++ [x] := ⟨ks.dropLast, ks.getLast (by rintro rfl; simp at hl), (List.dropLast_concat_getLast _).symm⟩
    obtain ⟨vs, hx⟩ := hal x (by simp)
    have h1 := drops_al hx hd
    rw [List.append_nil] at h1
    obtain ⟨n1, n2, n3⟩ := List.nodup_append.1 hn
    have hxt : x ∉ t := fun hm => n3 x hm x (by simp) rfl
    obtain ⟨a1, a2⟩ := ih t _ M' (by simpa using hl) n1 (fun y hy => by
      obtain ⟨vs', hy'⟩ := hal y (by simp [hy])
      exact ⟨vs', hy'.upd (y := x) (fun e => hxt (e ▸ hy)) _⟩) h1
    refine ⟨fun y hy => ?_, fun y hy => ?_⟩
    · rcases List.mem_append.1 hy with hy | hy
      · exact a1 y hy
      · obtain rfl : y = x := by simpa using hy
        rw [a2 y hxt]; exact upd_same _ _ _
    · have : y ∉ t ∧ y ≠ x := by simpa using hy
      rw [a2 y this.1]; exact upd_other _ _ this.2

/-- The cells of a vector. -/
def ids (v : Vc) (ks : List Nat) : List Nat := if v.n = 0 then [] else v.tail :: (if ks = [] then [] else v.root :: ks)
/-- v has the values l, in cells of its own, ahead of which the arena held M0. -/
structure Mine (N : Nat) (M0 M : Cells) (ow : Int) (v : Vc) (l : Vs) (ks : List Nat) : Prop where
  n : v.n = l.length
  le : l.length ≤ 1024
  nil : l = [] → v.root = 0 ∧ v.tail = 0
  len : ks.length = (l.length - 1) / 32
  r0 : ks = [] → v.root = 0
  rt : ks ≠ [] → Al M ow v.root [] ks
  tl : l ≠ [] → Al M ow v.tail (chunk l ((l.length - 1) / 32)) []
  lf : ∀ k x, ks[k]? = some x → Al M ow x (chunk l k) []
  nd : (ids v ks).Nodup
  free : ∀ x ∈ ids v ks, M0 x = none
  out : ∀ x, x ∉ ids v ks → M x = M0 x
  lv : live N M = live N M0 + (ids v ks).length

theorem chunk_old (l : Vs) (x : Int × Int × ByteArray) (k : Nat) (h : 32 * (k + 1) ≤ l.length) : chunk (l ++ [x]) k = chunk l k := by
  unfold chunk
  rw [List.drop_append_of_le_length (by omega), List.take_append_of_le_length (by rw [List.length_drop]; omega)]
theorem chunk_last (l : Vs) (x : Int × Int × ByteArray) (k : Nat) (h : 32 * k ≤ l.length) (h2 : l.length < 32 * (k + 1)) : chunk (l ++ [x]) k = chunk l k ++ [x] := by
  unfold chunk
  rw [List.drop_append_of_le_length (by omega), List.take_of_length_le (by rw [List.length_append, List.length_drop, List.length_singleton]; omega), List.take_of_length_le (by rw [List.length_drop]; omega)]

section
variable {N : Nat} {M0 M M' : Cells} {ow : Int} {v : Vc} {l : Vs} {ks : List Nat}
theorem Mine.empty (N : Nat) (M : Cells) (ow : Int) : Mine N M M ow ⟨0, 0, 0⟩ [] [] :=
  ⟨rfl, Nat.zero_le _, fun _ => ⟨rfl, rfl⟩, rfl, fun _ => rfl, fun h => absurd rfl h, fun h => absurd rfl h, fun k x h => by simp at h, List.nodup_nil, fun x h => by simp [ids] at h, fun _ _ => rfl, rfl⟩
theorem Mine.kids_nil (h : Mine N M0 M ow v l ks) (hl : l = []) : ks = [] := by
  subst hl
  exact List.eq_nil_of_length_eq_zero h.len
theorem Mine.vec (h : Mine N M0 M ow v l ks) : VecIs M v l := by
  refine ⟨h.n, h.le, h.nil, fun hl => (h.tl hl).leaf, fun hl => h.r0 (List.eq_nil_of_length_eq_zero (by rw [h.len]; omega)), fun hl => ?_⟩
  have hk : ks ≠ [] := by
    rintro rfl
    have := h.len
    simp only [List.length_nil] at this
    omega
  obtain ⟨c, e, _, e2, e3⟩ := h.rt hk
  exact ⟨c, 1, e, e2, by rw [e3, h.len], fun k x hx => (h.lf k x (by rw [← e3]; exact hx)).leaf⟩
theorem Mine.al (h : Mine N M0 M ow v l ks) {x : Nat} (hx : x ∈ ids v ks) : ∃ vs ks', Al M ow x vs ks' := by
  unfold ids at hx
  split at hx
  · simp at hx
  · rename_i hn
    have hl : l ≠ [] := by
      rintro rfl
      exact hn h.n
    rcases List.mem_cons.1 hx with rfl | hx
    · exact ⟨_, _, h.tl hl⟩
    · split at hx
      · simp at hx
      · rename_i hk
        rcases List.mem_cons.1 hx with rfl | hx
        · exact ⟨_, _, h.rt hk⟩
        · obtain ⟨k, hk⟩ := List.mem_iff_getElem?.1 hx
          exact ⟨_, _, h.lf k x hk⟩
theorem Mine.keep (h : Mine N M0 M ow v l ks) {x : Nat} (hx : M0 x ≠ none) : M x = M0 x := h.out x fun hm => hx (h.free x hm)
theorem Mine.rfb (h : Mine N M0 M ow v l ks) {B : Nat} (hB : 1 ≤ B) (hr : ∀ j, rf (M0 j) ≤ B) (j : Nat) : rf (M j) ≤ B := by
  by_cases hj : j ∈ ids v ks
  · obtain ⟨vs, ks', c, e, _⟩ := h.al hj
    rw [e]; exact hB
  · rw [h.out j hj]; exact hr j
theorem Mine.count (h : Mine N M0 M ow v l ks) : (ids v ks).length ≤ 33 ∧ (ids v ks).length ≤ l.length / 16 + 3 ∧ (l = [] → (ids v ks).length = 0) := by
  have h1 := h.len
  have h2 := h.le
  have h3 := h.n
  unfold ids
  split
  · simp
  · refine ⟨?_, ?_, fun e => ?_⟩
    · split <;> simp <;> omega
    · split <;> simp <;> omega
    · subst e; simp at h3; omega
theorem VecIs.keep (h : VecIs M v l) (hM : ∀ x, M x ≠ none → M' x = M x) : VecIs M' v l := by
  have lf : ∀ x vs, Leaf M x vs → Leaf M' x vs := fun x vs ⟨c, r, e, e2⟩ => ⟨c, r, (hM x (by rw [e]; simp)).trans e, e2⟩
  refine ⟨h.n, h.le, h.nil, fun hl => lf _ _ (h.tl hl), h.r0, fun hl => ?_⟩
  obtain ⟨c, r, e, e2, e3, e4⟩ := h.rt hl
  exact ⟨c, r, (hM _ (by rw [e]; simp)).trans e, e2, e3, fun k x hx => lf _ _ (e4 k x hx)⟩

/-- What renew makes, of a cell that nobody else holds, or of none. -/
theorem Renewed.own {i n most : Nat} {c : Hc} {vs : Vs} {ks' : List Nat} (h : Renewed M i ow c most n M') (ha : Al M ow i vs ks') (h0 : ¬ ow = 0) : n = i ∧ M' = upd M i (some ({ c with owner := ow }, 1)) := by
  unfold Renewed at h
  rwa [if_pos (ha.alone h0)] at h
theorem Renewed.new {n most : Nat} {c : Hc} (h : Renewed M 0 ow c most n M') (hz : M 0 = none) : 1 ≤ n ∧ n ≤ most ∧ M n = none ∧ M' = upd M n (some ({ c with owner := ow }, 1)) := by
  have hal : ¬ aloneB M 0 ow = true := by unfold aloneB; rw [hz]; simp
  unfold Renewed at h
  rw [if_neg hal] at h
  obtain ⟨h1, h2, h3, hd⟩ := h
  have hk : (contC M 0).kids = [] := by unfold contC; rw [hz]
  rw [hk] at hd
  refine ⟨h1, h2, h3, drops_none ?_ hd⟩
  rw [upd_other _ _ (by omega)]
  exact hz
theorem live_new {n most : Nat} (h1 : n ≤ most) (hn : M n = none) (z : Hc × Nat) : live (most + 1) (upd M n (some z)) = live (most + 1) M + 1 := by
  have := live_upd (M := M) (N := most + 1) n (some z) (by omega)
  rw [hn] at this
  simpa [one] using this
/-- One value more, behind what the tail has. -/
theorem Mine.push_tail {most n : Nat} {x : Int × Int × ByteArray} (h : Mine (most + 1) M0 M ow v l ks) (h0 : ¬ ow = 0) (hz : M 0 = none) (hlt : l.length < 1024) (hnf : l.length = 0 ∨ l.length % 32 ≠ 0)
    (hr : Renewed M v.tail ow { contC M v.tail with vals := (contC M v.tail).vals ++ [x] } most n M') : Mine (most + 1) M0 M' ow ⟨v.n + 1, v.root, n⟩ (l ++ [x]) ks := by
  have hvn := h.n
  by_cases hl : l = []
  · have hks := h.kids_nil hl
    obtain ⟨hrt, htl⟩ := h.nil hl
    have hid : ids v ks = [] := by unfold ids; rw [if_pos (by rw [hvn, hl]; rfl)]
    rw [htl] at hr
    obtain ⟨n1, n2, n3, rfl⟩ := hr.new hz
    have hc : contC M 0 = ⟨0, 0, 0, [], []⟩ := by unfold contC; rw [hz]
    rw [hc]
    subst hl hks
    have hid' : ids (⟨v.n + 1, v.root, n⟩ : Vc) [] = [n] := by unfold ids; simp
    have hlv := h.lv
    rw [hid] at hlv
    refine ⟨by show v.n + 1 = 1; rw [hvn]; rfl, by simp, fun e => by simp at e, by simp, fun _ => hrt, fun e => absurd rfl e, fun _ => ?_, fun k y e => by simp at e, ?_, ?_, ?_, ?_⟩
    · exact Al.new M n ⟨0, 0, 0, [] ++ [x], []⟩ (by simp [chunk]) rfl
    · rw [hid']; simp
    · rw [hid']
      intro y hy
      obtain rfl : y = n := by simpa using hy
      rw [← n3]; exact (h.out y (by rw [hid]; simp)).symm
    · rw [hid']
      intro y hy
      rw [upd_other _ _ (by simpa using hy)]
      exact h.out y (by rw [hid]; simp)
    · rw [hid', live_new n2 n3, hlv]; rfl
  · have hlp : 0 < l.length := List.length_pos_iff.2 hl
    have ht := h.tl hl
    obtain ⟨rfl, rfl⟩ := hr.own ht h0
    obtain ⟨cv, ck⟩ := ht.cont
    have hid : ids (⟨v.n + 1, v.root, v.tail⟩ : Vc) ks = ids v ks := by
      unfold ids
      have e1 : ¬ (v.n + 1 = 0) := by omega
      have e2 : ¬ (v.n = 0) := by omega
      rw [if_neg e2]
      exact if_neg e1
    have hid2 : ids v ks = v.tail :: (if ks = [] then [] else v.root :: ks) := by unfold ids; rw [if_neg (by omega)]
    have hnd := h.nd
    rw [hid2] at hnd
    have hnt := (List.nodup_cons.1 hnd).1
    have hlen : (l ++ [x]).length = l.length + 1 := by simp
    refine ⟨by show v.n + 1 = _; rw [hlen, hvn], by omega, fun e => by simp at e, by rw [h.len, hlen]; omega, h.r0, fun e => (h.rt e).upd ?_ _, fun _ => ?_, fun k y e => ?_, by rw [hid]; exact h.nd, by rw [hid]; exact h.free, ?_, ?_⟩
    · rintro e'
      rw [if_neg e] at hnt
      exact hnt (by simp [e'])
    · rw [hlen, show (l.length + 1 - 1) / 32 = (l.length - 1) / 32 by omega, chunk_last l x _ (by omega) (by omega)]
      exact Al.new M v.tail _ (by rw [cv]) ck
    · have hk : ks ≠ [] := by rintro rfl; simp at e
      have hkl : k < ks.length := (List.getElem?_eq_some_iff.1 e).1
      rw [chunk_old l x k (by have := h.len; omega)]
      refine (h.lf k y e).upd ?_ _
      rintro rfl
      rw [if_neg hk] at hnt
      exact hnt (by simp [List.mem_of_getElem? e])
    · rw [hid]
      intro y hy
      rw [upd_other _ _ (by rintro rfl; exact hy (by rw [hid2]; simp))]
      exact h.out y hy
    · rw [hid, ht.lv]; exact h.lv
/-- One value more, where the tail is full. -/
theorem Mine.push_full {most r n : Nat} {M1 : Cells} {x : Int × Int × ByteArray} (h : Mine (most + 1) M0 M ow v l ks) (h0 : ¬ ow = 0) (hz : M 0 = none) (hlt : l.length < 1024) (hnf : 0 < l.length ∧ l.length % 32 = 0)
    (hr : Renewed M v.root ow { contC M v.root with kids := (contC M v.root).kids ++ [v.tail] } most r M1) (hr2 : Renewed M1 0 ow ⟨0, 0, 0, [x], []⟩ most n M') : Mine (most + 1) M0 M' ow ⟨v.n + 1, r, n⟩ (l ++ [x]) (ks ++ [v.tail]) := by
  have hvn := h.n
  have hl : l ≠ [] := by rintro rfl; simp at hnf
  have ht := h.tl hl
  have hid2 : ids v ks = v.tail :: (if ks = [] then [] else v.root :: ks) := by unfold ids; rw [if_neg (by omega)]
  have hnd := h.nd
  rw [hid2] at hnd
  have hnt := (List.nodup_cons.1 hnd).1
  have key : ∃ c : Hc, 1 ≤ r ∧ M1 = upd M r (some ({ c with owner := ow }, 1)) ∧ c.vals = [] ∧ c.kids = ks ++ [v.tail] ∧ r ∉ ks ∧ r ≠ v.tail ∧ M0 r = none ∧ (∀ y, y ∉ ids v ks → y ≠ r → M1 y = M0 y) ∧ live (most + 1) M1 + 1 = live (most + 1) M0 + (ks.length + 3) := by
    have hlv := h.lv
    by_cases hk : ks = []
    · rw [h.r0 hk] at hr
      obtain ⟨n1, n2, n3, rfl⟩ := hr.new hz
      have hc : contC M 0 = ⟨0, 0, 0, [], []⟩ := by unfold contC; rw [hz]
      rw [hc]
      rw [if_pos hk] at hid2
      subst hk
      refine ⟨⟨0, 0, 0, [], [] ++ [v.tail]⟩, n1, rfl, rfl, rfl, by simp, ?_, ?_, ?_, ?_⟩
      · rintro rfl; exact ht.held n3
      · rw [← n3]
        refine (h.out r ?_).symm
        rw [hid2]
        intro hm
        obtain rfl : r = v.tail := by simpa using hm
        exact ht.held n3
      · intro y hy hyr
        rw [upd_other _ _ hyr]
        exact h.out y hy
      · rw [live_new n2 n3, hlv, hid2]; simp
    · have hrt := h.rt hk
      obtain ⟨rfl, rfl⟩ := hr.own hrt h0
      obtain ⟨cv, ck⟩ := hrt.cont
      rw [if_neg hk] at hid2 hnt hnd
      have hnr := (List.nodup_cons.1 (List.nodup_cons.1 hnd).2).1
      refine ⟨_, ?_, rfl, cv, by show (contC M v.root).kids ++ [v.tail] = _; rw [ck], hnr, fun e => hnt (by simp [← e]), h.free _ (by rw [hid2]; simp), ?_, ?_⟩
      · rcases Nat.eq_zero_or_pos v.root with e | e
        · rw [e] at hrt; exact absurd hz hrt.held
        · exact e
      · intro y hy hyr
        rw [upd_other _ _ hyr]
        exact h.out y hy
      · rw [hrt.lv, hlv, hid2]; simp only [List.length_cons]; omega
  obtain ⟨c, r1, rfl, cv, ck, hrk, hrt, hr0, hout, hlv⟩ := key
  obtain ⟨n1, n2, n3, rfl⟩ := hr2.new (by rw [upd_other _ _ (by omega)]; exact hz)
  have hnr : n ≠ r := by rintro rfl; rw [upd_same] at n3; cases n3
  have hMn : M n = none := by rw [upd_other _ _ hnr] at n3; exact n3
  have hnt' : n ≠ v.tail := by rintro rfl; exact ht.held hMn
  have hnk : n ∉ ks := fun hm => by
    obtain ⟨k, hk⟩ := List.mem_iff_getElem?.1 hm
    exact (h.lf k n hk).held hMn
  have hkn : ks.Nodup ∧ v.tail ∉ ks := by
    by_cases hk : ks = []
    · subst hk; exact ⟨List.nodup_nil, by simp⟩
    · rw [if_neg hk] at hnd hnt
      exact ⟨(List.nodup_cons.1 (List.nodup_cons.1 hnd).2).2, fun hm => hnt (by simp [hm])⟩
  have hid' : ids (⟨v.n + 1, r, n⟩ : Vc) (ks ++ [v.tail]) = n :: r :: (ks ++ [v.tail]) := by unfold ids; rw [if_neg (by simp), if_neg (by simp)]
  have hlen : (l ++ [x]).length = l.length + 1 := by simp
  have hsub : ∀ y, y ∉ n :: r :: (ks ++ [v.tail]) → y ∉ ids v ks ∧ y ≠ r ∧ y ≠ n := fun y hy => by
    have h1 : y ≠ n ∧ y ≠ r ∧ y ∉ ks ∧ y ≠ v.tail := by simpa using hy
    refine ⟨fun hm => ?_, h1.2.1, h1.1⟩
    rw [hid2] at hm
    rcases List.mem_cons.1 hm with e | hm
    · exact h1.2.2.2 e
    · split at hm
      · simp at hm
      · rename_i hk
        rcases List.mem_cons.1 hm with e | hm
        · have hra := h.rt hk
          have : r = v.root := by
            have := hr
            exact (this.own hra h0).1
          exact h1.2.1 (e.trans this.symm)
        · exact h1.2.2.1 hm
  refine ⟨by show v.n + 1 = _; rw [hlen, hvn], by omega, fun e => by simp at e, by rw [List.length_append, h.len, hlen, List.length_singleton]; omega, fun e => by simp at e, fun _ => (Al.new M r c cv ck).upd hnr.symm _, fun _ => ?_, fun k y e => ?_, ?_, ?_, ?_, ?_⟩
  · rw [hlen, show (l.length + 1 - 1) / 32 = l.length / 32 by omega, chunk_last l x _ (by omega) (by omega)]
    have : chunk l (l.length / 32) = [] := List.eq_nil_of_length_eq_zero (by rw [chunk_length]; omega)
    rw [this]
    exact Al.new _ n ⟨0, 0, 0, [x], []⟩ rfl rfl
  · have hlen0 := h.len
    by_cases hkl : k < ks.length
    · rw [List.getElem?_append_left hkl] at e
      have hy : y ∈ ks := List.mem_of_getElem? e
      rw [chunk_old l x k (by omega)]
      exact ((h.lf k y e).upd (y := r) (fun e' => hrk (e' ▸ hy)) _).upd (y := n) (fun e' => hnk (e' ▸ hy)) _
    · rw [List.getElem?_append_right (by omega)] at e
      have hk0 : k = ks.length := by
        have := (List.getElem?_eq_some_iff.1 e).1
        simp at this
        omega
      subst hk0
      simp at e
      subst e
      rw [chunk_old l x _ (by omega), hlen0]
      exact (ht.upd hrt.symm _).upd hnt'.symm _
  · rw [hid']
    refine List.nodup_cons.2 ⟨by simp [hnr, hnk, hnt'], List.nodup_cons.2 ⟨by simp [hrk, hrt], List.nodup_append.2 ⟨hkn.1, by simp, fun a ha b hb => ?_⟩⟩⟩
    obtain rfl : b = v.tail := by simpa using hb
    exact fun e => hkn.2 (e ▸ ha)
  · rw [hid']
    intro y hy
    by_cases hm : y ∈ ids v ks
    · exact h.free y hm
    · by_cases e : y = r
      · rw [e]; exact hr0
      · by_cases e' : y = n
        · subst e'
          rw [← hMn]
          exact (h.out y hm).symm
        · exfalso
          have h1 : y = n ∨ y = r ∨ y ∈ ks ∨ y = v.tail := by simpa using hy
          have h2 : y ∈ ks ∨ y = v.tail := by
            rcases h1 with h1 | h1 | h1
            · exact absurd h1 e'
            · exact absurd h1 e
            · exact h1
          apply hm
          rw [hid2]
          rcases h2 with h2 | h2
          · have hk : ks ≠ [] := by rintro rfl; simp at h2
            rw [if_neg hk]; simp [h2]
          · simp [h2]
  · rw [hid']
    intro y hy
    obtain ⟨y1, y2, y3⟩ := hsub y hy
    rw [upd_other _ _ y3]
    exact hout y y1 y2
  · rw [hid', live_new n2 n3]
    simp only [List.length_cons, List.length_append, List.length_nil]
    omega
/-- Let go: the arena holds what it held ahead of it. -/
theorem Mine.drop {M1 M2 : Cells} (h : Mine N M0 M ow v l ks) (hz : M 0 = none) (h1 : Drops M [v.root] M1) (h2 : Drops M1 [v.tail] M2) : M2 = M0 := by
  have hvn := h.n
  by_cases hl : l = []
  · obtain ⟨e1, e2⟩ := h.nil hl
    rw [e1] at h1
    rw [e2] at h2
    have := drops_none hz h1
    subst this
    rw [drops_none hz h2]
    funext x
    exact h.out x (by unfold ids; rw [if_pos (by rw [hvn, hl]; rfl)]; simp)
  · have hlp : 0 < l.length := List.length_pos_iff.2 hl
    have ht := h.tl hl
    have hid2 : ids v ks = v.tail :: (if ks = [] then [] else v.root :: ks) := by unfold ids; rw [if_neg (by omega)]
    have hnd := h.nd
    rw [hid2] at hnd
    have hnt := (List.nodup_cons.1 hnd).1
    have key : (∀ x, x ∈ (if ks = [] then [] else v.root :: ks) → M1 x = none) ∧ ∀ x, x ∉ (if ks = [] then [] else v.root :: ks) → M1 x = M x := by
      by_cases hk : ks = []
      · rw [h.r0 hk] at h1
        rw [if_pos hk, drops_none hz h1]
        exact ⟨fun x hx => by simp at hx, fun _ _ => rfl⟩
      · rw [if_neg hk] at hnd ⊢
        obtain ⟨hnr, hkn⟩ := List.nodup_cons.1 (List.nodup_cons.1 hnd).2
        have h3 := drops_al (t := []) (h.rt hk) h1
        rw [List.nil_append] at h3
        obtain ⟨a1, a2⟩ := drops_leaves (ow := ow) ks.length ks _ M1 rfl hkn (fun y hy => by
          obtain ⟨k, hk'⟩ := List.mem_iff_getElem?.1 hy
          exact ⟨_, (h.lf k y hk').upd (y := v.root) (fun e => hnr (e ▸ hy)) _⟩) h3
        refine ⟨fun x hx => ?_, fun x hx => ?_⟩
        · rcases List.mem_cons.1 hx with rfl | hx
          · rw [a2 _ hnr]; exact upd_same _ _ _
          · exact a1 x hx
        · have : x ≠ v.root ∧ x ∉ ks := by simpa using hx
          rw [a2 x this.2]; exact upd_other _ _ this.1
    have ht1 : Al M1 ow v.tail _ [] := ht.same (key.2 _ hnt)
    have h4 := drops_al (t := []) ht1 h2
    have h5 := h4.inv.1 rfl
    subst h5
    funext x
    by_cases e : x = v.tail
    · subst e
      rw [upd_same]
      exact (h.free _ (by rw [hid2]; simp)).symm
    · rw [upd_other _ _ e]
      by_cases hx : x ∈ (if ks = [] then [] else v.root :: ks)
      · rw [key.1 x hx]
        exact (h.free x (by rw [hid2]; exact List.mem_cons_of_mem _ hx)).symm
      · rw [key.2 x hx]
        exact h.out x (by rw [hid2]; simp only [List.mem_cons, not_or]; exact ⟨e, hx⟩)
end

end Go.Proofs.Ytgkhbnkbhcginaa
