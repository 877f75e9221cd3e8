/- The document's arena (easementref04): what it is in memory; New, Live, Held. -/
import Derived.Test.YtndbhcdiinpkkaaEdit04
namespace Go.Proofs.Ytndbhcdiinpkkaa
open Go.RowKit

section
variable {f : Nat → List Value} {m : Nat}
theorem flats_length (hf : ∀ j, (f j).length = m) : ∀ n, ((List.range n).flatMap f).length = n * m
  | 0 => by simp
  | n + 1 => by rw [List.range_succ, List.flatMap_append, List.length_append, flats_length hf n, List.flatMap_singleton, hf, Nat.succ_mul]
theorem flats_at (hf : ∀ j, (f j).length = m) {i t : Nat} (ht : t < m) : ∀ n, i < n → ((List.range n).flatMap f)[i * m + t]? = (f i)[t]?
  | 0, h => by omega
  | n + 1, h => by
    rw [List.range_succ, List.flatMap_append, List.flatMap_singleton]
    by_cases e : i = n
    · subst e
      rw [List.getElem?_append_right (by rw [flats_length hf]; omega), flats_length hf]
      congr 1
      omega
    · have hi : i < n := by omega
      have : (i + 1) * m ≤ n * m := Nat.mul_le_mul_right _ hi
      rw [Nat.succ_mul] at this
      rw [List.getElem?_append_left (by rw [flats_length hf]; omega)]
      exact flats_at hf ht n hi
theorem flats_congr {g : Nat → List Value} : ∀ n, (∀ j, j < n → f j = g j) → (List.range n).flatMap f = (List.range n).flatMap g
  | 0, _ => by simp
  | n + 1, h => by rw [List.range_succ, List.flatMap_append, List.flatMap_append, List.flatMap_singleton, List.flatMap_singleton, flats_congr n (fun j hj => h j (by omega)), h n (by omega)]
theorem flats_set (hf : ∀ j, (f j).length = m) {i t n : Nat} (hi : i < n) (ht : t < m) (v : Value) : ((List.range n).flatMap f).set (i * m + t) v = (List.range n).flatMap (upd f i ((f i).set t v)) := by
  have hf' : ∀ j, (upd f i ((f i).set t v) j).length = m := fun j => by
    by_cases e : j = i
    · subst e; rw [upd_same, List.length_set]; exact hf j
    · rw [upd_other _ _ e]; exact hf j
  apply List.ext_getElem?
  intro k
  by_cases hk : k < n * m
  · have hm : 0 < m := by omega
    obtain ⟨a, c, hc, rfl⟩ : ∃ a c, c < m ∧ k = a * m + c := ⟨k / m, k % m, Nat.mod_lt _ hm, by rw [Nat.mul_comm]; exact (Nat.div_add_mod k m).symm⟩
    have ha : a < n := by
      rcases Nat.lt_or_ge a n with h | h
      · exact h
      · have := Nat.mul_le_mul_right m h; omega
    rw [flats_at hf' hc n ha, List.getElem?_set]
    by_cases e : i * m + t = a * m + c
    · have h1 : a = i := by
        rcases Nat.lt_trichotomy i a with h | h | h
        · have := Nat.mul_le_mul_right m (show i + 1 ≤ a from h); rw [Nat.succ_mul] at this; omega
        · exact h.symm
        · have := Nat.mul_le_mul_right m (show a + 1 ≤ i from h); rw [Nat.succ_mul] at this; omega
      subst h1
      have h2 : t = c := by omega
      subst h2
      rw [if_pos rfl, if_pos (by rw [flats_length hf]; exact hk), upd_same, List.getElem?_set, if_pos rfl, if_pos (by rw [hf]; exact hc)]
    · rw [if_neg e, flats_at hf hc n ha]
      by_cases h1 : a = i
      · subst h1
        rw [upd_same, List.getElem?_set, if_neg (by rintro rfl; exact e rfl)]
      · rw [upd_other _ _ h1]
  · rw [List.getElem?_eq_none (by rw [List.length_set, flats_length hf]; omega), List.getElem?_eq_none (by rw [flats_length hf']; omega)]
end

/-- Numbers by name, as cells. -/
def ints (n : Nat) (f : Nat → Nat) : List Value := (List.range n).map fun j => .int .i64 (f j : Int)
section
variable {n : Nat} {f : Nat → Nat}
theorem ints_length (n : Nat) (f : Nat → Nat) : (ints n f).length = n := by simp [ints]
theorem ints_at {j : Nat} (hj : j < n) : (ints n f)[j]? = some (.int .i64 (f j : Int)) := by simp [ints, hj]
theorem ints_snoc (v : Nat) : ints (n + 1) (upd f n v) = ints n f ++ [.int .i64 (v : Int)] := by
  unfold ints
  rw [List.range_succ, List.map_append, List.map_singleton, upd_same]
  congr 1
  apply List.map_congr_left
  intro j hj
  rw [upd_other _ _ (by have := List.mem_range.1 hj; omega)]
theorem ints_set {j v : Nat} (hj : j < n) : (ints n f).set j (.int .i64 (v : Int)) = ints n (upd f j v) := by
  apply List.ext_getElem?
  intro k
  by_cases hk : k < n
  · rw [ints_at hk, List.getElem?_set]
    by_cases e : j = k
    · subst e; rw [upd_same, if_pos rfl, if_pos (by rw [ints_length]; exact hk)]
    · rw [if_neg e, ints_at hk, upd_other _ _ (Ne.symm e)]
  · rw [List.getElem?_eq_none (by rw [List.length_set, ints_length]; omega), List.getElem?_eq_none (by rw [ints_length]; omega)]
theorem ints_one (n : Nat) (f : Nat → Nat) : ∀ u ∈ ints n f, u.oneCell' = true := by
  intro u hu
  obtain ⟨b, _, rfl⟩ := List.mem_map.1 hu
  rfl
end

/-- A cell of the document's: two others' names, how many times it is held, its owner, its word. -/
structure Dc where
  x : Nat
  y : Nat
  refs : Nat
  owner : Int
  word : Int
def dcell (D : Nat → Dc) (K : Nat → Value) (j : Nat) : List Value := [K j, .int .i64 ((D j).refs : Int), .int .u32 (D j).owner, .int .u32 (D j).word]
def drow (n : Nat) (D : Nat → Dc) (K : Nat → Value) : List Value := (List.range n).flatMap (dcell D K)
theorem dcell_length (D : Nat → Dc) (K : Nat → Value) (j : Nat) : (dcell D K j).length = 4 := rfl
theorem drow_length (n : Nat) (D : Nat → Dc) (K : Nat → Value) : (drow n D K).length = n * 4 := flats_length (dcell_length D K) n
section
variable {n : Nat} {D : Nat → Dc} {K : Nat → Value} {i : Nat}
theorem drow_at (hi : i < n) : (drow n D K)[i * 4]? = some (K i) ∧ (drow n D K)[i * 4 + 1]? = some (.int .i64 ((D i).refs : Int)) ∧ (drow n D K)[i * 4 + 2]? = some (.int .u32 (D i).owner) ∧ (drow n D K)[i * 4 + 3]? = some (.int .u32 (D i).word) :=
  ⟨flats_at (dcell_length D K) (t := 0) (by decide) n hi, flats_at (dcell_length D K) (t := 1) (by decide) n hi, flats_at (dcell_length D K) (t := 2) (by decide) n hi, flats_at (dcell_length D K) (t := 3) (by decide) n hi⟩
theorem drow_refs (hi : i < n) (r : Nat) : (drow n D K).set (i * 4 + 1) (.int .i64 (r : Int)) = drow n (upd D i { D i with refs := r }) K := by
  unfold drow
  rw [flats_set (dcell_length D K) hi (by decide)]
  congr 1
  funext j
  by_cases e : j = i
  · subst e; unfold dcell; rw [upd_same, upd_same]; rfl
  · unfold dcell; rw [upd_other _ _ e, upd_other _ _ e]
theorem drow_kids (hi : i < n) (v : Value) (x y : Nat) : (drow n D K).set (i * 4) v = drow n (upd D i { D i with x := x, y := y }) (upd K i v) := by
  unfold drow
  rw [show i * 4 = i * 4 + 0 from rfl, flats_set (dcell_length D K) hi (by decide)]
  congr 1
  funext j
  by_cases e : j = i
  · subst e; unfold dcell; rw [upd_same, upd_same, upd_same]; rfl
  · unfold dcell; rw [upd_other _ _ e, upd_other _ _ e, upd_other _ _ e]
theorem drow_word (hi : i < n) (v : Int) : (drow n D K).set (i * 4 + 3) (.int .u32 v) = drow n (upd D i { D i with word := v }) K := by
  unfold drow
  rw [flats_set (dcell_length D K) hi (by decide)]
  congr 1
  funext j
  by_cases e : j = i
  · subst e; unfold dcell; rw [upd_same, upd_same]; rfl
  · unfold dcell; rw [upd_other _ _ e, upd_other _ _ e]
theorem drow_snoc (d : Dc) (v : Value) : drow (n + 1) (upd D n d) (upd K n v) = drow n D K ++ [v, .int .i64 (d.refs : Int), .int .u32 d.owner, .int .u32 d.word] := by
  unfold drow
  rw [List.range_succ, List.flatMap_append, List.flatMap_singleton]
  congr 1
  · refine flats_congr n fun j hj => ?_
    unfold dcell
    rw [upd_other _ _ (by omega), upd_other _ _ (by omega)]
  · unfold dcell; rw [upd_same, upd_same]
end

/-- Block rb is the document's arena. -/
structure Doc (w : World) (B rb nd most : Nat) (vC : Value) (D : Nat → Dc) (K : Nat → Value) : Prop where
  rd : C2 w rb 90 vC (.int .i64 most)
  cr : w.ownsRow B 96 4 vC nd (drow nd D K)
  n1 : 1 ≤ nd
  n2 : nd ≤ 1000
  kr : ∀ k, 1 ≤ k → k < nd → w.ownsRow B 3 1 (K k) 2 (nums [((D k).x : Int), ((D k).y : Int)])
  k0 : ∃ A n c, K 0 = .slice A n c
section
variable {w w' : World} {B rb nd most : Nat} {vC : Value} {D : Nat → Dc} {K : Nat → Value} {F : Nat → Prop}
theorem Doc.kp (h : Doc w B rb nd most vC D K) (hk : Kp F w w') (h1 : ¬ F rb) (h2 : ∀ g, vC.ownBlock = some g → ¬ F g) (h3 : ∀ k, 1 ≤ k → k < nd → ∀ g, (K k).ownBlock = some g → ¬ F g) : Doc w' B rb nd most vC D K :=
  ⟨h.rd.kp hk h1, hk.own h.cr h2, h.n1, h.n2, fun k k1 k2 => hk.own (h.kr k k1 k2) (h3 k k1 k2), h.k0⟩
theorem Doc.below (h : Doc w B rb nd most vC D K) (hb : Below w.heap.size w w') : Doc w' B rb nd most vC D K := h.kp (Kp.of_below hb (fun _ => False)) id (fun _ _ => id) (fun _ _ _ _ _ => id)
/-- What a cell's others are: a slice. -/
theorem Doc.form (h : Doc w B rb nd most vC D K) {i : Nat} (hi : i < nd) : ∃ A n c, K i = .slice A n c := by
  by_cases e : i = 0
  · subst e; exact h.k0
  · obtain ⟨A, c, e, _⟩ := (Rd.of_own (h.kr i (by omega) hi)).form
    exact ⟨A, 2, c, e⟩
/-- The i-th cell's four cells. -/
theorem Doc.at (h : Doc w B rb nd most vC D K) {i : Nat} (hi : i < nd) : ∃ g c, vC = .slice (some ⟨g, 0, none⟩) nd c ∧ w.cell? ⟨g, i * 4, none⟩ = some (K i) ∧ w.cell? ⟨g, i * 4 + 1, none⟩ = some (.int .i64 ((D i).refs : Int)) ∧
    w.cell? ⟨g, i * 4 + 2, none⟩ = some (.int .u32 (D i).owner) ∧ w.cell? ⟨g, i * 4 + 3, none⟩ = some (.int .u32 (D i).word) ∧ ∀ o, w.frozen? ⟨g, o, none⟩ = false := by
  obtain ⟨a0, a1, a2, a3⟩ := drow_at (D := D) (K := K) hi
  obtain ⟨g, c, rfl, _, c0, _⟩ := own_at h.cr a0
  have key : ∀ j u, (drow nd D K)[j]? = some u → w.cell? ⟨g, j, none⟩ = some u := fun j u hu => by
    obtain ⟨g', c', e, _, hc, _⟩ := own_at h.cr hu
    simp only [Value.slice.injEq, Option.some.injEq, Addr.mk.injEq, and_true, true_and] at e
    rw [e.1]; exact hc
  exact ⟨g, c, rfl, c0, key _ _ a1, key _ _ a2, key _ _ a3, fun o => h.cr.frozenAt o⟩
end

theorem dinfo : (Try.prog.info? 96).map (fun i => (i.zero, i.size, i.bytes)) = some (some (.agg #[.slice none 0 0, .int .i64 0, .int .u32 0, .int .u32 0]), 4, 40) := by kernel_rfl
def d0 : Dc := ⟨0, 0, 0, 0, 0⟩
abbrev rp (b : Nat) : Value := .pointer (some ⟨b, 0, none⟩)
theorem made_row : (madeCells #[Value.slice none 0 0, .int .i64 0, .int .u32 0, .int .u32 0] 4).toList = drow 1 (fun _ => d0) (fun _ => .slice none 0 0) := by
  apply List.ext_getElem?
  intro j
  match j with
  | 0 => simp [madeCells, drow, dcell, d0]
  | 1 => simp [madeCells, drow, dcell, d0]
  | 2 => simp [madeCells, drow, dcell, d0]
  | 3 => simp [madeCells, drow, dcell, d0]
  | j + 4 => simp [madeCells, drow, dcell, d0]
def NewDoc (most : Nat) (w : World) (e : Ending) (w' : World) : Prop := ∃ rb vC, e = .returned (rp rb) ∧ Doc w' w.heap.size rb 1 most vC (fun _ => d0) (fun _ => .slice none 0 0) ∧ Below w.heap.size w w' ∧ w.heap.size ≤ rb
theorem ref_new (most : Nat) (w : World) : Calls Try.prog 10 #[.int .i64 most] w (NewDoc most w) := by
  obtain ⟨i0, hi, hz0, hz1, hz2⟩ := info_parts dinfo
  go_enter Try.func10, Try.ntmps10
  go_wp2_with (at_make; refine wpList_make_full _ rfl _ _ 88 rfl w.heap.size 96 i0 _ 4 Try.underlying88 hi hz0 hz1 _ _ _ _ 1 rfl rfl rfl rfl ?k1 ?k2 ?k3 ?_)
  case k1 => rw [hz2]; decide
  case k2 => unfold maxLen; decide
  case k3 => exact Nat.le_refl _
  intro w1 hown hg
  have hs1 : w.heap.size < w1.heap.size := (hown.lt _ rfl).2
  have HO := Lib.hid hown
  have HB := Lib.hid (show Below w.heap.size w w1 from ⟨hg.os, hg.tape, hg.output, hg.size, fun k hk => hg.block k hk (by simp)⟩)
  clear hown hg
  go_wp2_with fail
  go_ret
  exact ⟨_, _, rfl, ⟨C2.new w1 _ _ _, made_row ▸ HO.out.alloc _, Nat.le_refl _, by decide, fun k h1 h2 => by omega, ⟨none, 0, 0, rfl⟩⟩, HB.out.alloc (by omega) _, by omega⟩

def dlive (n : Nat) (D : Nat → Dc) : Nat := sumTo n fun k => if 1 ≤ (D k).refs then 1 else 0
theorem dlive_le (n : Nat) (D : Nat → Dc) : dlive n D ≤ n := by
  have := sumTo_le (f := fun k => if 1 ≤ (D k).refs then 1 else 0) 1 n (fun j _ => by split <;> omega)
  unfold dlive; omega

section
variable {B rb nd most : Nat} {vC : Value} {D : Nat → Dc} {K : Nat → Value}
set_option maxRecDepth 100000 in
set_option maxHeartbeats 800000 in
theorem ref_live (w : World) (h : Doc w B rb nd most vC D K) (hr : ∀ k, (D k).refs ≤ 1000) : Calls Try.prog 44 #[rp rb] w fun e w' => e = .returned (.int .i64 (dlive nd D)) ∧ w = w' := by
  have c0 := h.rd.c0
  have n2 := h.n2
  obtain ⟨A, c, rfl, _⟩ := (Rd.of_own h.cr).form
  go_enter Try.func44, Try.ntmps44
  go_wp2_with fail
  go_loop [3, 4] (fun n i => ∃ j : Nat, j ≤ nd ∧ i = .int .i64 j ∧ n = .int .i64 (dlive j D)) (fun _ i => nd - (intOf i).toNat)
  case atStart => exact ⟨0, Nat.zero_le _, rfl, rfl⟩
  case round =>
    obtain ⟨j, hj, rfl, rfl⟩ := hrel
    have hl := dlive_le j D
    by_cases h1 : j < nd
    · obtain ⟨g, c', e, _, x1, _⟩ := h.at h1
      injection e with e1 _ e3
      subst e1 e3
      have hrj := hr j
      by_cases hp : 1 ≤ (D j).refs
      · have hs : dlive (j + 1) D = dlive j D + 1 := by unfold dlive; rw [sumTo, if_pos hp]
        have HS := Lib.hid hs
        have hp' : (0 : Int) < ((D j).refs : Int) := by omega
        clear hs
        go_wp2_with fail
        go_round
        case rel => exact ⟨j + 1, by omega, by go_num, by rw [HS.out]; go_num⟩
        case measure => simp [intOf]; omega
      · have hs : dlive (j + 1) D = dlive j D := by unfold dlive; rw [sumTo, if_neg hp, Nat.add_zero]
        have HS := Lib.hid hs
        have hp' : ¬ (0 : Int) < ((D j).refs : Int) := by omega
        clear hs
        go_wp2_with fail
        go_round
        case rel => exact ⟨j + 1, by omega, by go_num, by rw [HS.out]⟩
        case measure => simp [intOf]; omega
    · obtain rfl : j = nd := by omega
      go_wp2_with fail
      go_ret
      exact ⟨rfl, rfl⟩

def heldB (nd : Nat) (D : Nat → Dc) (k : Nat) : Bool := decide (1 ≤ k) && decide (k < nd) && decide (1 ≤ (D k).refs)
theorem ref_held (k : Nat) (w : World) (h : Doc w B rb nd most vC D K) (hk : k < nd) : Calls Try.prog 41 #[rp rb, .int .i64 k] w fun e w' => e = .returned (.bool (decide (1 ≤ k) && decide (1 ≤ (D k).refs))) ∧ w = w' := by
  have c0 := h.rd.c0
  have n2 := h.n2
  obtain ⟨g, c', rfl, _, x1, _⟩ := h.at hk
  by_cases h1 : 1 ≤ k
  · by_cases h2 : 1 ≤ (D k).refs
    · have hd1 : decide (1 ≤ k) = true := by simpa using h1
      have hd2 : decide (1 ≤ (D k).refs) = true := by simpa using h2
      have p1 : (0 : Int) < k := by omega
      have p2 : (0 : Int) < ((D k).refs : Int) := by omega
      rw [hd1, hd2]
      clear hd1 hd2
      go_enter Try.func41, Try.ntmps41
      go_wp2_with fail
      go_ret
      exact ⟨ret_bool (by simp; omega), rfl⟩
    · have hd1 : decide (1 ≤ k) = true := by simpa using h1
      have hd2 : decide (1 ≤ (D k).refs) = false := by simpa using h2
      have p1 : (0 : Int) < k := by omega
      have p2 : ¬ (0 : Int) < ((D k).refs : Int) := by omega
      rw [hd1, hd2]
      clear hd1 hd2
      go_enter Try.func41, Try.ntmps41
      go_wp2_with fail
      go_ret
      exact ⟨ret_bool (by simp; omega), rfl⟩
  · have hd1 : decide (1 ≤ k) = false := by simpa using h1
    have p1 : ¬ (0 : Int) < k := by omega
    rw [hd1]
    clear hd1
    go_enter Try.func41, Try.ntmps41
    go_wp2_with fail
    go_ret
    exact ⟨ret_bool (by simp), rfl⟩
end

end Go.Proofs.Ytndbhcdiinpkkaa
